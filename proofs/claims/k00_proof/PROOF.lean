import PyProof.Rows.All
import Wide.All
import OpenK.AllK
import Wide.FinOn
import HandS.ForMost
import HandS.Codes
import HandS.Wide
import HandS.TupAny
import HandS.Conv
import HandS.RevRange
import HandS.SortInts
import HandS.RaiseMore
import HandS.Style
import HandS.Walk
import HandS.Zip
import HandS.More
import KE.GoesEnum
import KE.GoesMore
import KE.KDictList
import KE.KDictSum
import HandS.IsInst
import HandS.Deep
import HandS.Exc
import HandS.ExcOwn
import HandS.ExcIs
import HandS.ExcField
import HandS.WordsExc
import HandS.TupMul
import PyProof.Rows.SortShellAny
import HandS.ExcInit
import HandS.ExcValue
import HandS.NoneIn
import HandS.WrittenGet
import HandS.CallLocal
import PyProof.StrOps2
import PySem.Challenge.RW_goonagain_k00_whole_texts_read_and_print
set_option Elab.async false
set_option maxRecDepth 100000
set_option maxHeartbeats 4000000
/-! common part: what a call keeps, data, repr, the hand of draws -/
namespace Cm
open PySem L2

/-! ### what is kept but at the lists M -/
structure Kp (M : Addr → Prop) (H H' : Hp) : Prop where
  st : ∀ a o, ¬ M a → H a = some o → H' a = some o
  l1 : ∀ a, M a → ∃ xs, H a = some (.lst xs)
  l2 : ∀ a, M a → ∃ xs, H' a = some (.lst xs)
theorem Kp.trans {M : Addr → Prop} {H H1 H2 : Hp} (a : Kp M H H1) (b : Kp M H1 H2) : Kp M H H2 :=
  ⟨fun x o n e => b.st x o n (a.st x o n e), a.l1, b.l2⟩
theorem Kp.of_same {M : Addr → Prop} {H H' : Hp} (h : ∀ a, M a → ∃ xs, H a = some (.lst xs)) (s : Same H H') : Kp M H H' :=
  ⟨fun x o _ e => s x o e, h, fun a m => let ⟨xs, e⟩ := h a m; ⟨xs, s a _ e⟩⟩
theorem Kp.refl {M : Addr → Prop} {H : Hp} (h : ∀ a, M a → ∃ xs, H a = some (.lst xs)) : Kp M H H := .of_same h (Same.refl H)
theorem same_new {H : Hp} {p : Addr} {o : HO} (h : H p = Option.none) : Same H (upd H p o) := fun b u e => by
  rw [upd_ne (ne_of_none e h)]
  exact e
theorem Kp.new {M : Addr → Prop} {H : Hp} (h : ∀ a, M a → ∃ xs, H a = some (.lst xs)) {p : Addr} {o : HO} (hp : H p = Option.none) : Kp M H (upd H p o) :=
  .of_same h (same_new hp)
theorem Kp.put {M : Addr → Prop} {H : Hp} (h : ∀ a, M a → ∃ xs, H a = some (.lst xs)) {p : Addr} {ys : List V} (hp : M p) : Kp M H (upd H p (.lst ys)) :=
  ⟨fun x o n e => by
    rw [upd_ne (show x ≠ p by rintro rfl; exact n hp)]
    exact e, h, fun a m => by
    by_cases q : a = p
    · subst q
      exact ⟨ys, upd_same⟩
    · rw [upd_ne q]
      exact h a m⟩
theorem Kp.wider {M N : Addr → Prop} {H H' : Hp} (k : Kp M H H') (h : ∀ a, M a → N a) (l : ∀ a, N a → ∃ xs, H a = some (.lst xs)) : Kp N H H' :=
  ⟨fun x o n e => k.st x o (fun m => n (h x m)) e, l, fun a m => by
    by_cases q : M a
    · exact k.l2 a q
    · obtain ⟨xs, e⟩ := l a m
      exact ⟨xs, k.st a _ q e⟩⟩
theorem Kp.tup {M : Addr → Prop} {K : PySem.W.Frag} {H H' : Hp} {a : Addr} {xs : List V} (k : Kp M H H') (h : SqT K H a xs) : SqT K H' a xs := by
  have no : ∀ o, H a = some o → (∀ ys, o ≠ .lst ys) → ¬ M a := fun o e n m => by
    obtain ⟨ys, e2⟩ := k.l1 a m
    rw [e] at e2
    exact n ys (Option.some.inj e2)
  rcases h with (h | ⟨o, h⟩) | h
  · exact .inl (.inl (k.st _ _ (no _ h fun _ z => nomatch z) h))
  · exact .inl (.inr ⟨o, k.st _ _ (no _ h fun _ z => nomatch z) h⟩)
  · exact .inr h
theorem Kp.free {M : Addr → Prop} {H H' : Hp} {p : Addr} (k : Kp M H H') (h : H' p = Option.none) : H p = Option.none := by
  cases e : H p with
  | none => rfl
  | some o =>
    by_cases q : M p
    · obtain ⟨xs, e2⟩ := k.l2 p q
      rw [h] at e2
      cases e2
    · have := k.st p o q e
      rw [h] at this
      cases this
theorem Kp.m_of {M : Addr → Prop} {H H' : Hp} {p : Addr} (k : Kp M H H') (h : H p = Option.none) : ¬ M p := fun m => by
  obtain ⟨xs, e⟩ := k.l1 p m
  rw [h] at e
  cases e

/-! ### data -/
mutual
/-- no list, no dict in it -/
def flatD : PyData → Bool
  | .list _ => false
  | .dict _ => false
  | .tuple xs => flatDs xs
  | _ => true
def flatDs : List PyData → Bool
  | [] => true
  | x :: xs => flatD x && flatDs xs
end
mutual
theorem dp_keep {K : PySem.W.Frag} {H H' : Hp} (k : ∀ a xs, SqT K H a xs → SqT K H' a xs) : ∀ (d : PyData) (v : V), flatD d = true → Dp K H v d → Dp K H' v d
  | .none, _, _, h => by cases h; exact .non
  | .bool _, _, _, h => by cases h; exact .bl _
  | .int _, _, _, h => by cases h; exact .int _
  | .str _, _, _, h => by cases h; exact .str _
  | .list _, _, f, _ => by simp [flatD] at f
  | .dict _, _, f, _ => by simp [flatD] at f
  | .tuple ds, _, f, h => by
    cases h with
    | tup hs ha => exact .tup (k _ _ hs) (dps_keep k ds _ (by simpa [flatD] using f) ha)
theorem dps_keep {K : PySem.W.Frag} {H H' : Hp} (k : ∀ a xs, SqT K H a xs → SqT K H' a xs) : ∀ (ds : List PyData) (vs : List V), flatDs ds = true → DpAll K H vs ds → DpAll K H' vs ds
  | [], _, _, h => by cases h; exact .nil
  | d :: ds, _, f, h => by
    cases h with
    | cons h1 h2 =>
      have f' : flatD d = true ∧ flatDs ds = true := by simpa [flatDs] using f
      exact .cons (dp_keep k d _ f'.1 h1) (dps_keep k ds _ f'.2 h2)
end
mutual
/-- all lists in it are kept as well -/
theorem dp_same {K : PySem.W.Frag} {H H' : Hp} (s : Same H H') : ∀ (d : PyData) (v : V), Dp K H v d → Dp K H' v d
  | .none, _, h => by cases h; exact .non
  | .bool _, _, h => by cases h; exact .bl _
  | .int _, _, h => by cases h; exact .int _
  | .str _, _, h => by cases h; exact .str _
  | .dict _, _, h => by cases h
  | .list ds, _, h => by
    cases h with
    | lst hs ha => exact .lst (s.seq hs) (dps_same s ds _ ha)
  | .tuple ds, _, h => by
    cases h with
    | tup hs ha =>
      refine .tup ?_ (dps_same s ds _ ha)
      rcases hs with (h | ⟨o, h⟩) | h
      · exact .inl (.inl (s _ _ h))
      · exact .inl (.inr ⟨o, s _ _ h⟩)
      · exact .inr h
theorem dps_same {K : PySem.W.Frag} {H H' : Hp} (s : Same H H') : ∀ (ds : List PyData) (vs : List V), DpAll K H vs ds → DpAll K H' vs ds
  | [], _, h => by cases h; exact .nil
  | d :: ds, _, h => by
    cases h with
    | cons h1 h2 => exact .cons (dp_same s d _ h1) (dps_same s ds _ h2)
end
theorem DpAll.len {K : PySem.W.Frag} {H : Hp} : ∀ {vs : List V} {ds : List PyData}, DpAll K H vs ds → vs.length = ds.length
  | _, _, .nil => rfl
  | _, _, .cons _ h => congrArg (· + 1) (DpAll.len h)
theorem DpAll.at {K : PySem.W.Frag} {H : Hp} : ∀ {vs : List V} {ds : List PyData} {i : Nat} {d : PyData}, DpAll K H vs ds → ds[i]? = some d → ∃ v, vs[i]? = some v ∧ Dp K H v d
  | _, _, 0, d, .cons h _, e => by
    simp at e
    subst e
    exact ⟨_, rfl, h⟩
  | _, _, i + 1, d, .cons _ h, e => by
    obtain ⟨v, h1, h2⟩ := DpAll.at (i := i) (d := d) h (by simpa using e)
    exact ⟨v, by simpa using h1, h2⟩
theorem DpAll.atV {K : PySem.W.Frag} {H : Hp} : ∀ {vs : List V} {ds : List PyData} {i : Nat} {v : V}, DpAll K H vs ds → vs[i]? = some v → ∃ d, ds[i]? = some d ∧ Dp K H v d
  | _, _, 0, d, .cons h _, e => by
    simp at e
    subst e
    exact ⟨_, rfl, h⟩
  | _, _, i + 1, d, .cons _ h, e => by
    obtain ⟨v, h1, h2⟩ := DpAll.atV (i := i) (v := d) h (by simpa using e)
    exact ⟨v, by simpa using h1, h2⟩
theorem DpAll.snoc {K : PySem.W.Frag} {H : Hp} {v : V} {d : PyData} (h : Dp K H v d) : ∀ {vs : List V} {ds : List PyData}, DpAll K H vs ds → DpAll K H (vs ++ [v]) (ds ++ [d])
  | _, _, .nil => .cons h .nil
  | _, _, .cons a b => .cons a (DpAll.snoc h b)
theorem DpAll.app {K : PySem.W.Frag} {H : Hp} : ∀ {vs ws : List V} {ds es : List PyData}, DpAll K H vs ds → DpAll K H ws es → DpAll K H (vs ++ ws) (ds ++ es)
  | _, _, _, _, .nil, h => h
  | _, _, _, _, .cons a b, h => .cons a (DpAll.app b h)
theorem DpAll.take {K : PySem.W.Frag} {H : Hp} (n : Nat) : ∀ {vs : List V} {ds : List PyData}, DpAll K H vs ds → DpAll K H (vs.take n) (ds.take n) := by
  induction n with
  | zero => intro vs ds _; exact .nil
  | succ n ih =>
    intro vs ds h
    cases h with
    | nil => exact .nil
    | cons a b => exact .cons a (ih b)
theorem DpAll.drop {K : PySem.W.Frag} {H : Hp} (n : Nat) : ∀ {vs : List V} {ds : List PyData}, DpAll K H vs ds → DpAll K H (vs.drop n) (ds.drop n) := by
  induction n with
  | zero => intro vs ds h; exact h
  | succ n ih =>
    intro vs ds h
    cases h with
    | nil => exact .nil
    | cons a b => exact ih b
theorem DpAll.rev {K : PySem.W.Frag} {H : Hp} : ∀ {vs : List V} {ds : List PyData}, DpAll K H vs ds → DpAll K H vs.reverse ds.reverse
  | _, _, .nil => .nil
  | _, _, .cons a b => by
    rw [List.reverse_cons, List.reverse_cons]
    exact DpAll.snoc a (DpAll.rev b)
theorem dpAll_ints {K : PySem.W.Frag} {H : Hp} : ∀ ns : List Int, DpAll K H (ns.map V.int) (ns.map PyData.int)
  | [] => .nil
  | n :: ns => .cons (.int n) (dpAll_ints ns)

/-! ### repr of data -/
/-- what repr sees at a value: data of lists and tuples, or a dict of int keys whose values are data without lists -/
def Rp (K : PySem.W.Frag) (H : Hp) (x : V) (d : PyData) : Prop :=
  Dp K H x d ∨ ∃ (a : Addr) (kvs : List (Key × V)) (es : List (Int × PyData)), x = .ref a ∧ H a = some (.dK kvs) ∧ kvs.map (·.1) = es.map (fun e => Sum.inl e.1) ∧
    DpAll K H (kvs.map (·.2)) (es.map (·.2)) ∧ flatDs (es.map (·.2)) = true ∧ d = .dict (es.map fun e => (.int e.1, e.2))
mutual
/-- short leaves -/
def okD : PyData → Bool
  | .int i => decide (i.natAbs < 10 ^ 12)
  | .str x => PyData.leavesShort 13 (.str x)
  | .list xs => okDs xs
  | .tuple xs => okDs xs
  | .dict kvs => okDk kvs
  | _ => true
def okDs : List PyData → Bool
  | [] => true
  | x :: xs => okD x && okDs xs
def okDk : List (PyData × PyData) → Bool
  | [] => true
  | (k, v) :: r => okD k && okD v && okDk r
end
mutual
theorem okD_show : ∀ d : PyData, okD d = true → d.showable = true ∧ d.leavesShort 13 = true
  | .none, _ => by constructor <;> first | rfl | decide +kernel | simp [PyData.showable, PyData.leavesShort]
  | .bool b, _ => by cases b <;> constructor <;> first | rfl | decide +kernel
  | .int i, h => by
    have h' : i.natAbs < 10 ^ 12 := by simpa [okD] using h
    refine ⟨?_, ?_⟩
    · have : i.natAbs.log2 < 1920 := by
        by_cases z : i.natAbs = 0
        · rw [z]; decide
        · refine Nat.lt_of_lt_of_le ((Nat.log2_lt z).mpr (show i.natAbs < 2 ^ 64 from Nat.lt_of_lt_of_le h' (by decide))) (by decide)
      simpa [PyData.showable] using this
    · have := PyData.shown_int_le h'
      simpa [PyData.leavesShort] using this
  | .str x, h => by
    exact ⟨by simp [PyData.showable], by simpa only [okD] using h⟩
  | .list xs, h => by
    have := okDs_show xs (by simpa [okD] using h)
    exact ⟨by simpa [PyData.showable] using this.1, by simpa [PyData.leavesShort] using this.2⟩
  | .tuple xs, h => by
    have := okDs_show xs (by simpa [okD] using h)
    exact ⟨by simpa [PyData.showable] using this.1, by simpa [PyData.leavesShort] using this.2⟩
  | .dict kvs, h => by
    have := okDk_show kvs (by simpa [okD] using h)
    exact ⟨by simpa [PyData.showable] using this.1, by simpa [PyData.leavesShort] using this.2⟩
theorem okDs_show : ∀ xs : List PyData, okDs xs = true → PyData.showableAll xs = true ∧ PyData.leavesShortAll 13 xs = true
  | [], _ => ⟨by simp [PyData.showableAll], by simp [PyData.leavesShortAll]⟩
  | x :: xs, h => by
    have h' : okD x = true ∧ okDs xs = true := by simpa [okDs] using h
    have a := okD_show x h'.1
    have b := okDs_show xs h'.2
    exact ⟨by simp [PyData.showableAll, a.1, b.1], by simp [PyData.leavesShortAll, a.2, b.2]⟩
theorem okDk_show : ∀ xs : List (PyData × PyData), okDk xs = true → PyData.showableKv xs = true ∧ PyData.leavesShortKv 13 xs = true
  | [], _ => ⟨by simp [PyData.showableKv], by simp [PyData.leavesShortKv]⟩
  | (k, v) :: xs, h => by
    have h' : (okD k = true ∧ okD v = true) ∧ okDk xs = true := by simpa [okDk] using h
    have a := okD_show k h'.1.1
    have b := okD_show v h'.1.2
    have c := okDk_show xs h'.2
    exact ⟨by simp [PyData.showableKv, a.1, b.1, c.1], by simp [PyData.leavesShortKv, a.2, b.2, c.2]⟩
end
mutual
theorem no_as {h : Heap} : ∀ (d : PyData) (u : Value) (as : List Addr), flatD d = true → Reads h u d as → as = []
  | .none, _, _, _, r => by cases r; rfl
  | .bool _, _, _, _, r => by cases r; rfl
  | .int _, _, _, _, r => by cases r; rfl
  | .str _, _, _, _, r => by cases r; rfl
  | .list _, _, _, f, _ => by simp [flatD] at f
  | .dict _, _, _, f, _ => by simp [flatD] at f
  | .tuple ds, _, _, f, r => by
    cases r with
    | tuple _ _ _ ha => exact no_ass ds _ _ (by simpa [flatD] using f) ha
theorem no_ass {h : Heap} : ∀ (ds : List PyData) (us : List Value) (as : List Addr), flatDs ds = true → ReadsAll h us ds as → as = []
  | [], _, _, _, r => by cases r; rfl
  | d :: ds, _, _, f, r => by
    have f' : flatD d = true ∧ flatDs ds = true := by simpa [flatDs] using f
    cases r with
    | cons r1 r2 => rw [no_as d _ _ f'.1 r1, no_ass ds _ _ f'.2 r2]; rfl
end
mutual
theorem dp_nodict {K : PySem.W.Frag} {H : Hp} : ∀ (d : PyData) (v : V), Dp K H v d → d.hasDict = false
  | .none, _, _ => by simp [PyData.hasDict]
  | .bool _, _, _ => by simp [PyData.hasDict]
  | .int _, _, _ => by simp [PyData.hasDict]
  | .str _, _, _ => by simp [PyData.hasDict]
  | .dict _, _, h => by cases h
  | .list ds, _, h => by
    cases h with
    | lst _ ha => simpa [PyData.hasDict] using dps_nodict ds _ ha
  | .tuple ds, _, h => by
    cases h with
    | tup _ ha => simpa [PyData.hasDict] using dps_nodict ds _ ha
theorem dps_nodict {K : PySem.W.Frag} {H : Hp} : ∀ (ds : List PyData) (vs : List V), DpAll K H vs ds → PyData.hasDictAll ds = false
  | [], _, _ => by simp [PyData.hasDictAll]
  | d :: ds, _, h => by
    cases h with
    | cons h1 h2 => simp [PyData.hasDictAll, dp_nodict d _ h1, dps_nodict ds _ h2]
end
theorem flatDs_ints : ∀ ks : List Int, flatDs (ks.map PyData.int) = true
  | [] => rfl
  | k :: ks => by simp [flatDs, flatD, flatDs_ints ks]
section
variable {X : Cx}
theorem dict_keys {prog : Program} {w : World} {h : Heap} : ∀ (es : List (Int × PyData)) (kvs : List (Key × V)) (l : List DictEntry) (vs : List (Key × Value)), kvs.map (·.1) = es.map (fun e => Sum.inl e.1) → KV kvs vs → Pairs (mixKind prog w) l vs →
    ReadsAll h (l.map (·.key)) (es.map fun e => PyData.int e.1) [] ∧ Vals (kvs.map (·.2)) (l.map (·.val))
  | [], kvs, l, vs, hk, r, p => by
    cases kvs with
    | cons a b => simp at hk
    | nil =>
      cases r
      cases p
      exact ⟨.nil, .nil⟩
  | e :: es, kvs, l, vs, hk, r, p => by
    cases kvs with
    | nil => simp at hk
    | cons a b =>
      simp only [List.map_cons, List.cons.injEq] at hk
      cases r with
      | @cons _ v _ vs' r1 r2 =>
        cases p with
        | @cons en _ l' _ p1 p2 p3 =>
          obtain ⟨q1, q2⟩ := dict_keys es b l' vs' hk.2 r2 p3
          have p1' : keyIs v.1 en.key = true := p1
          rw [← r1.1, hk.1] at p1'
          obtain ⟨t, et⟩ := Value.isInt_shape (k := e.1) (v := en.key) p1'
          refine ⟨?_, .cons ?_ q2⟩
          · rw [List.map_cons, List.map_cons, et]
            exact ReadsAll.cons (as := []) (bs := []) (Reads.int _ _) q1
          · show RelV a.2 en.val
            rw [p2]
            exact r1.2
def rRepr (K : PySem.W.Frag) : List V → Hp → VK → Prop := fun xs H Q => ∃ x d, xs = [x] ∧ Rp K H x d ∧ okD d = true ∧ d.depth ≤ 60 ∧ d.weight ≤ 2 ^ 20 ∧ Q (.str d.shown) H
theorem call_reprD (hg : X.A.guards = some []) (hu : X.A.units + 64 < cLine) : CallR X (.builtin "repr") (rRepr X.K) := by
  intro pins s σ H xs us Q I r h
  obtain ⟨x, d, rfl, hd, ok, hdep, hw, q⟩ := h
  obtain ⟨u, rfl, rx⟩ := vals1 r
  obtain ⟨hsh, hls⟩ := okD_show d ok
  have hsz : d.shown.length ≤ sizeLine := PyData.shown_fits (by decide) (by decide) hls hw
  have fin : ∀ (a : Addr) (as : List Addr), u = .ref a → Reads s.heap u d as → (d.hasDict = true → sysModules ∉ as) → wpAny (model X.prog X.w) X.A (call (.builtin "repr") [u]) (EP X pins σ Q) X.xe s := fun a as e rd no => by
    subst e
    exact repr_of_reads' rd hsh no hg (by omega) (fun _ _ e => e) (fun h' u tk k => ⟨.str _, H, I.kept k, ⟨_, rfl⟩, q⟩) hsz
  rcases hd with hd | ⟨a, kvs, es, rfl, ha, hk, hv, hf, rfl⟩
  · obtain ⟨as, rd⟩ := Dp.reads I d x u hd rx
    cases hd with
    | non => cases rx; exact P.repr_of_none ⟨.str _, H, I.tok _, ⟨_, rfl⟩, q⟩
    | bl b => cases rx; exact P.repr_of_bool ⟨.str _, H, I.tok _, ⟨_, rfl⟩, by cases b <;> exact q⟩
    | int i =>
      obtain ⟨t, rfl⟩ := rx
      exact P.repr_of_int (by simpa [PyData.showable] using hsh) ⟨.str _, H, I.tok _, ⟨_, rfl⟩, by simpa [PyData.shown] using q⟩
    | str z =>
      obtain ⟨t, rfl⟩ := rx
      exact P.repr_of_str ⟨.str _, H, I.tok _, ⟨_, rfl⟩, by simpa [PyData.shown] using q⟩ (by simpa [PyData.shown] using hsz)
    | lst hs ha =>
      have nd := dp_nodict _ _ (Dp.lst hs ha)
      cases rx
      exact fin _ as rfl rd fun z => by rw [nd] at z; cases z
    | tup hs ha =>
      have nd := dp_nodict _ _ (Dp.tup hs ha)
      cases rx
      exact fin _ as rfl rd fun z => by rw [nd] at z; cases z
  · cases rx
    obtain ⟨_, hsys, vs, rv, ob, dl, ep, e1, e2, e3, _, e5, _⟩ := (show kvs.length ≤ sizeLine ∧ (a == sysModules) = false ∧ ∃ vs, KV kvs vs ∧ s.heap.DictOf (mixKind X.prog X.w) a vs from dk_of I.hok ha)
    obtain ⟨q1, q2⟩ := dict_keys es kvs dl.toList vs hk rv e5
    obtain ⟨bs, q3⟩ := Dp.readsAll I _ _ _ hv q2
    obtain rfl := no_ass _ _ _ hf q3
    have rd : Reads s.heap (.ref a) (.dict (es.map fun e => (PyData.int e.1, e.2))) (a :: [] ++ []) :=
      .dict e1 e2.1 e3 (by rw [List.map_map]; exact q1) (by rw [List.map_map]; exact q3)
    exact fin a _ rfl rd fun _ m => by
      have : sysModules = a := by simpa using m
      rw [← this] at hsys
      simp at hsys
end
end Cm

/-! a law's call whose body may ask repr: nothing is under repr there -/
namespace Cm
open PySem L2 PySem.Spec PyProof.Rows
section
variable {P : Program} {w : World} {K : PySem.W.Frag} {mg : Str → Option Value} {base : Heap}
/-- the promise of the law's def, where no repr is under way -/
def LawAt (P : Program) (w : World) (K : PySem.W.Frag) (mg : Str → Option Value) (base : Heap) (k : Nat) (f : Addr) (fd : FuncData) (ps : List Str) (sp : Sp) : Prop :=
  ∀ (A : Around) (outer : List Env) (s : Shared) (H : Hp) (args : Args) (us : List Value) (vs : List V) (Q : VK) (E : XK),
    A.guards = some [] → Room k A → Env0 P w K mg base A outer s H → BindsTo s fd args (ps.zip us) → Vals vs us → sp vs H Q E →
      codeAny (model P w) A (.call (.ref f) args) (CR CX0 outer P w H s Q E) s
theorem lawAt_of {x : Str} {st : Stmt} {f : Addr} {fd : FuncData} {N ps : List Str} {k : Nat} {sp : Sp} (F : Fun K x x st f fd) (S : FnScope N ps (defScope st))
    (len : ∀ vs H Q E, sp vs H Q E → vs.length = ps.length)
    (hb : ∀ (cdv : Value) (A : Around) (outer : List Env) (s : Shared) (H : Hp) (vs : List V) (Q : VK) (E : XK), A.guards = some [] →
      Room k (A.deeper (envOfC x (defScope st) s.heap.objs.size f cdv)) → sp vs H Q E →
      ∃ t, PSs (cxOf CX0 P w K mg base N x (defScope st) f cdv A outer s H E).nox (defBody st) t ∧ t { nx := fun _ H' => Q .non H', rt := Q } (start N vs) H) :
    LawAt P w K mg base (k + 1) f fd ps sp := by
  intro A outer s H args us vs Q E hg hr e0 hbind rv hs
  obtain ⟨oc, od, kV, doc, pm, an, cdv, ct, osl, rfl, lk, hcd⟩ := F.ex
  have keeps : ∀ b o, base.get? b = some o → s.heap.get? b = some o := fun b o e => (e0.bs b o e).1
  have KX : K.In s.heap := e0.mod.kin.keeps keeps
  refine codeAny_call_function hr.depth (KX _ _ lk) rfl S.co S.gen rfl (PySem.W.codeRec_of KX hcd) (hbind _ _ _ _ ?_)
  refine wpAny_newFunctionEnv_cells S.kind (fun z hz => ?_) fun env he s1 xc => ?_
  · rcases S.par z.1 (List.of_mem_zip (show (z.1, z.2) ∈ ps.zip us from hz)).1 with q | q
    · exact Or.inl q
    · exact Or.inr ⟨q, PySem.W.cellsFrom_some _ _ _ (Or.inl q)⟩
  · subst he
    refine ⟨(e0.mod.nolimit.keeps keeps).keeps xc.toInCall.keep, codeAny_func ?_⟩
    obtain ⟨t, ht, hq⟩ := hb cdv A outer s H vs Q E hg (hr.deeper _) hs
    have I := inv_start (E := E) (CX := CX0) S hr.hd e0 (len _ _ _ _ hs) rv xc
    refine wpAny_mono (ht.nox.run [] s1 (start N vs) H _ I hq) (fun fl s' hz => ?_) fun e s' hz => hz
    cases fl with
    | ret u =>
      obtain ⟨v, _, H', J, r, q⟩ := hz
      exact ⟨v, H', J.os, J.bare, J.base, J.hok, r, q⟩
    | next =>
      obtain ⟨_, H', J, q⟩ := hz
      exact ⟨V.non, H', J.os, J.bare, J.base, J.hok, rfl, q⟩
    | brk =>
      obtain ⟨_, _, _, q⟩ := hz
      exact q.elim
    | cont =>
      obtain ⟨_, _, _, q⟩ := hz
      exact q.elim
end
/-- the script tracked at a: known to the object, or one of the module's own -/
def scriptH (a : Addr) (o : Obj) (ns : List Int) : Hp := fun b => if b = a then some (.frz o (.lst (ns.map V.int))) else Option.none
theorem law_goes {P : Program} {w : World} {K : PySem.W.Frag} {mg mb : Str → Option Value} {k : Nat} {fa a : Addr} {fd : FuncData} {x : Str} {sp : Sp} {s₁ : Shared} {vs : List Value} {ns : List Int}
    (KX : K.In s₁.heap) (hns : s₁.heap.Ns mainGlobals mg) (hb : s₁.heap.Ns builtinsNs mb)
    (hbb : ∀ x : Str, x ≠ "__name__" → mb x = bootBuiltins x) (hlim : s₁.heap.NoLimit) (hg : s₁.gens = #[])
    (ha : s₁.heap.get? a = some { cls := .type "list", data := .seq vs.toArray }) (hi : IntsAre vs ns) (hl : ns.length ≤ sizeLine) (hr : Room k callerA)
    (F : ∀ b : Heap, K.In b → b.Ns mainGlobals mg → LawAt P w K mg b k fa fd [x] sp)
    (hbind : ∀ (s : Shared) (u : Value), BindsTo s fd ⟨[u], []⟩ [(x, u)])
    (hsp : ∀ H : Hp, Only H → SqL K H a (ns.map V.int) → sp [.ref a] H (fun v _ => v = .bl true) fun _ _ _ => False) :
    codeAny (model P w) callerA (.call (.ref fa) ⟨[.ref a], []⟩)
      (fun r s' => r = .ok (.ret (.bool true)) ∧ OldK s₁.heap s'.heap ∧ s'.os = s₁.os ∧ AllBare s'.gens) s₁ := by
  have rv := vals_ints hi
  have main : ∀ H : Hp, Only H → SqL K H a (ns.map V.int) → HOk P w H s₁.heap → (∀ b, H b ≠ Option.none → b = a ∧ K.lookup a = Option.none) →
      codeAny (model P w) callerA (.call (.ref fa) ⟨[.ref a], []⟩)
        (fun r s' => r = .ok (.ret (.bool true)) ∧ OldK s₁.heap s'.heap ∧ s'.os = s₁.os ∧ AllBare s'.gens) s₁ := by
    intro H hO hS hok hA
    have free_ns : ∀ {b : Addr} {o : Obj} {es : Array DictEntry} {ep : Nat}, s₁.heap.get? b = some o → o.data = .dict es ep → H b = Option.none := fun {b o es ep} e d => by
      by_cases q : H b = Option.none
      · exact q
      · obtain ⟨rfl, _⟩ := hA b q
        rw [ha] at e
        cases e
        cases d
    have ns_of : ∀ {b : Addr} {m : Str → Option Value}, s₁.heap.Ns b m → (hidT s₁.heap H).Ns b m := fun h => by
      obtain ⟨o, es, ep, e, d, r⟩ := h
      exact ⟨o, es, ep, hidT_get e (free_ns e d), d, r⟩
    have kin : K.In (hidT s₁.heap H) := fun b o e => hidT_get (KX b o e) (by
      by_cases q : H b = Option.none
      · exact q
      · obtain ⟨rfl, q2⟩ := hA b q
        rw [q2] at e
        cases e)
    obtain ⟨mc, l1, l2⟩ := hlim
    have e0 : Env0 P w K mg (hidT s₁.heap H) callerA [] s₁ H :=
      { frames := rfl, mod := ⟨kin, ns_of hns, ⟨mb, ns_of hb, hbb⟩, ⟨mc, ns_of l1, l2⟩⟩, bs := fun b o e => of_hidT e, bsz := Nat.le_of_eq (hidT_size _ _),
        funs := trivial, frf := fun b z => absurd (show b ∈ ([] : List Addr) from z) (by simp), hok := hok, bare := .of_eq hg }
    have run := F _ kin (ns_of hns) callerA [] s₁ H ⟨[.ref a], []⟩ [.ref a] [.ref a] _ _ rfl hr e0 (hbind s₁ (.ref a)) (.cons rfl .nil) (hsp H hO hS)
    refine codeAny_mono run fun r s' h => ?_
    rcases r with e | fl
    · exact False.elim h
    · cases fl with
      | ret u =>
        obtain ⟨v, H', os, bare, un, hok', r', q⟩ := h
        have q' : v = .bl true := q
        subst q'
        have eu : u = Value.bool true := r'
        subst eu
        refine ⟨rfl, OldK.of_keep fun b o e => ?_, os, bare⟩
        by_cases q : H b = Option.none
        · exact un.keep b o e q (fun z => absurd (show b ∈ ([] : List Addr) from z) (by simp)) (by simp)
        · rcases hO b with z | ⟨ob, xs, z⟩
          · exact absurd z q
          · have e1 := (hok b _ z).1
            have e2 := (hok' b _ (un.frzs b ob _ z)).1
            rw [e] at e1
            cases e1
            exact e2
      | next => exact False.elim h
      | brk => exact False.elim h
      | cont => exact False.elim h
  by_cases hk : K.lookup a = Option.none
  · refine main (scriptH a { cls := .type "list", data := .seq vs.toArray } ns) (fun b => ?_) (.inl (.inr ⟨_, if_pos rfl⟩)) (fun b u z => ?_) fun b z => ?_
    · by_cases q : b = a
      · exact .inr ⟨_, _, if_pos q⟩
      · exact .inl (if_neg q)
    · unfold scriptH at z
      by_cases q : b = a
      · rw [if_pos q] at z
        cases z
        subst q
        exact ⟨ha, by rw [List.length_map]; exact hl, vs, _, rv, ha⟩
      · rw [if_neg q] at z
        cases z
    · by_cases q : b = a
      · exact ⟨q, hk⟩
      · exact absurd (if_neg q) z
  · obtain ⟨o, ho⟩ : ∃ o, K.lookup a = some o := by
      cases e : K.lookup a with
      | none => exact absurd e hk
      | some o => exact ⟨o, rfl⟩
    have e := KX a o ho
    rw [ha] at e
    cases e
    refine main (fun _ => Option.none) (fun _ => .inl rfl) ?_ (fun b u z => by cases z) fun b z => absurd rfl z
    exact .inr ⟨_, vs.toArray, _, ho, rfl, rfl, rfl, by rw [List.size_toArray, hi.length]; exact hl, by simpa using rv⟩
theorem walk_law {l : PySem.W.OpenLaw} {n k : Nat} {q : Program} {loose : List Str} {XP : (Str → Option Value) → Heap → Prop} {YP : World → Heap → Prop} {d : DefRec} {K : Params → PySem.W.Frag} {sp : PySem.W.Frag → Sp} {x : Str}
    (hn : l.most = some n) (hn2 : n ≤ sizeLine) (hdf : d.params.defaults = []) (hr : Room k callerA)
    (hY : ∀ (w : World) (h : Heap), YP w h → (K w.params).In h)
    (F : ∀ (w : World) (mg : Str → Option Value) (fa : Addr) (h : Heap), (K w.params).In h → h.Ns mainGlobals mg → mg d.name = some (.ref fa) →
      ∃ fd : FuncData, (∀ (s : Shared) (u : Value), BindsTo s fd ⟨[u], []⟩ [(x, u)]) ∧
        ∀ b : Heap, (K w.params).In b → b.Ns mainGlobals mg → LawAt l.prog w (K w.params) mg b k fa fd [x] (sp (K w.params)))
    (hsp : ∀ (K : PySem.W.Frag) (H : Hp) (a : Addr) (ns : List Int), ns.length ≤ n → Only H → SqL K H a (ns.map V.int) → sp K [.ref a] H (fun v _ => v = .bl true) fun _ _ _ => False) :
    PySem.W.WalkO q loose XP YP l.row.toRowW d [] (fun f vs => PySem.call f vs) := by
  refine Att.attach_call hn hdf fun w s₀ s₁ mg mb fa o pm cd doc a vs ns G Y ho hd hcd hmg hobj hints hlen hg => ?_
  obtain ⟨fd, hb, hF⟩ := F w mg fa _ (hY w _ Y) G.T.g hmg
  exact law_goes (hY w _ Y) G.T.g G.T.b G.T.builtins G.T.nolimit hg hobj hints (Nat.le_trans hlen hn2) hr hF hb fun H hO hS => hsp _ H a ns hlen hO hS
end Cm

/-! defs that are called by name; the hand of draws -/
namespace Cm
open PySem L2 PySem.Spec PyProof.Rows
structure Cl (P : Program) (w : World) (K : PySem.W.Frag) (mg : Str → Option Value) (base : Heap) (k : Nat) (x : Str) (sp : Sp) : Prop where
  ex : ∃ (f : Addr) (fd : FuncData) (ps : List Str), FnOk P w K mg base CX0 k f fd ps sp ∧ mg x = some (.ref f) ∧ PySem.W.keepIn K (.ref f) = true ∧ Binds K fd ps []
/-- where a def of the text stands -/
structure At (K : PySem.W.Frag) (mg : Str → Option Value) (x : Str) (st : Stmt) (ps : List Str) : Prop where
  ex : ∃ (f : Addr) (fd : FuncData), Fun K x x st f fd ∧ mg x = some (.ref f) ∧ Binds K fd ps []
section
variable {P : Program} {w : World} {K : PySem.W.Frag} {mg : Str → Option Value} {base : Heap}
theorem cl_of {x : Str} {st : Stmt} {N ps : List Str} {k : Nat} {sp : Sp} (T : At K mg x st ps) (S : FnScope N ps (defScope st))
    (len : ∀ vs H Q E, sp vs H Q E → vs.length = ps.length)
    (hb : ∀ (f : Addr) (cdv : Value) (A : Around) (outer : List Env) (s : Shared) (H : Hp) (vs : List V) (Q : VK) (E : XK),
      Room k (A.deeper (envOfC x (defScope st) s.heap.objs.size f cdv)) → sp vs H Q E →
      ∃ t, PSs (cxOf CX0 P w K mg base N x (defScope st) f cdv A outer s H E).nox (defBody st) t ∧ t { nx := fun _ H' => Q .non H', rt := Q } (start N vs) H) :
    Cl P w K mg base (k + 1) x sp := by
  obtain ⟨f, fd, F, hm, b⟩ := T.ex
  exact ⟨f, fd, ps, F.ok S len (hb f), hm, F.kp, b⟩
end
section
variable {X : Cx} {j k : Nat} {x : Str} {sp : Sp} {e : Expr} {es : List Expr} {t : TA} {p pos : Pos}
theorem pe_c (c : Cl X.prog X.w X.K X.mg X.base k x sp) (hr : Room j X.A) (hk : k ≤ j) (hg : Gl X x) (ha : PA X (e :: es) t)
    (hdb : (x == ("__debug__" : Str)) = false := by decide) (he : starEach (e :: es) X.env = (false, eval e X.env) :: starEach es X.env := by rfl)
    (hpl : (backTo pos (starEach es X.env)).any (·.1) = false := by rfl) : PE X (.Call (.Name x p) (e :: es) [] pos) (tCall sp [] E0 t) := by
  obtain ⟨f, fd, ps, F, hm, kp, b⟩ := c.ex
  exact pe_call F (hr.mono hk) hg hm kp b .nil pass0 ha hdb he hpl
end

theorem map_at {α β : Type} {f : α → β} {xs : List α} {i : Nat} {y : β} (h : (xs.map f)[i]? = some y) : ∃ x, xs[i]? = some x ∧ y = f x := by
  rw [List.getElem?_map] at h
  obtain ⟨x, a, b⟩ := Option.map_eq_some_iff.mp h
  exact ⟨x, a, b.symm⟩

/-! ### a word between a statement and what follows it -/
def tMid (t u : TS) : TS := fun D σ H => ∃ M : L2.St → Hp → Prop, t { D with nx := M } σ H ∧ ∀ σ' H', M σ' H' → u D σ' H'
theorem pss_mid {X : Cx} {st : Stmt} {rest : List Stmt} {t u : TS} (h1 : PS X st t) (h2 : PSs X rest u) : PSs X (st :: rest) (tMid t u) :=
  ⟨fun pins s σ H D I h => by
    obtain ⟨M, hm, hu⟩ := h
    refine wpAny_execs_cons (thn (h1.run pins s σ H { D with nx := M } I hm) fun fl s1 q => ?_)
    cases fl with
    | next =>
      obtain ⟨σ', H', I', q⟩ := q
      exact h2.run pins s1 σ' H' D I' (hu σ' H' q)
    | ret v => exact q
    | brk => exact q
    | cont => exact q⟩

/-! ### the hand of draws -/
/-- a hand stands at h: the cells, how many were taken, a great cell that is drawn from, a sum -/
def Hand (H : Hp) (h c : Addr) : Prop := ∃ (cells : List Int) (i b t : Int), H h = some (.lst [.ref c, .int i, .int b, .int t]) ∧ H c = some (.lst (cells.map V.int)) ∧ c ≠ h ∧ 0 ≤ i ∧ cells.length ≤ 63
theorem Hand.lst {H : Hp} {h c : Addr} (x : Hand H h c) : ∃ xs, H h = some (.lst xs) := let ⟨_, _, _, _, e, _⟩ := x; ⟨_, e⟩
theorem Hand.same {H H' : Hp} {h c : Addr} (x : Hand H h c) (s : Same H H') : Hand H' h c := by
  obtain ⟨cells, i, b, t, e1, e2, n, z⟩ := x
  exact ⟨cells, i, b, t, s _ _ e1, s _ _ e2, n, z⟩
/-- the hand alone is changed -/
abbrev Kh (h : Addr) : Hp → Hp → Prop := Kp (fun a => a = h)
theorem Hand.kh {H H' : Hp} {h c : Addr} (x : Hand H h c) (s : Same H H') : Kh h H H' := .of_same (fun a m => by subst m; exact x.lst) s
theorem Hand.kr {H : Hp} {h c : Addr} (x : Hand H h c) : Kh h H H := x.kh (Same.refl H)

def spMix : Sp := fun vs H Q _ => ∃ a b : Int, vs = [.int a, .int b] ∧ ∀ n : Int, Q (.int n) H
def spHand (K : PySem.W.Frag) : Sp := fun vs H Q _ => ∃ (a : Addr) (ns : List Int), vs = [.ref a] ∧ SqL K H a (ns.map V.int) ∧ ns.length ≤ 63 ∧ ∀ h c H', Same H H' → H h = Option.none → H c = Option.none → Hand H' h c → Q (.ref h) H'
def spDraw : Sp := fun vs H Q _ => ∃ (h c : Addr) (m : Int), vs = [.ref h, .int m] ∧ Hand H h c ∧ 0 < m ∧ m < 2 ^ 100 ∧ ∀ (n : Int) (H' : Hp), 0 ≤ n → n < m → Kh h H H' → Hand H' h c → Q (.int n) H'
/-- pick out of a list or tuple -/
def spPick (K : PySem.W.Frag) : Sp := fun vs H Q _ => ∃ (h c a : Addr) (xs : List V), vs = [.ref h, .ref a] ∧ Hand H h c ∧ (SqL K H a xs ∧ a ≠ h ∨ SqT K H a xs) ∧ xs ≠ [] ∧ xs.length ≤ 1000 ∧
  ∀ (v : V) (H' : Hp), v ∈ xs → Kh h H H' → Hand H' h c → Q v H'
end Cm

/-! further rules: a tuple read backwards, enumerate over a tuple, sorted(d.keys()) -/
namespace Cm
open PySem L2 PySem.Spec PyProof.Rows
section
variable {prog : Program} {w : World} {A : Around} {E : Value → Shared → Prop} {s : Shared}
theorem adjust_back (n : Nat) : Builtin.Slice.sliceAdjust none none (-1) (n : Int) = ((n : Int) - 1, -1) := by
  unfold Builtin.Slice.sliceAdjust
  simp
theorem places_back (n : Nat) : Builtin.Slice.slicePlaces ((n : Int) - 1) (-1) (-1) = n := by
  unfold Builtin.Slice.slicePlaces
  simp
  try omega
theorem applied_back {sl : Addr} {vs : Value} {n : Nat} {Q : Int × Int × Nat → Shared → Prop} (hs : s.heap.IsSliceOf sl .none .none vs) (ps : IsPart vs (some (-1)))
    (h : Q ((n : Int) - 1, -1, n) s) : wpAny (model prog w) A (Builtin.Slice.sliceApplied (.ref sl) (pure (n : Int))) Q E s := by
  obtain ⟨os, hos, hcs, hds⟩ := id hs
  unfold Builtin.Slice.sliceApplied Builtin.Slice.sliceFields
  refine wpAny_bind (wpAny_bind (wpAny_field hos hds (x := .none) rfl (wpAny_bind (wpAny_field hos hds (x := .none) rfl (wpAny_bind (wpAny_field hos hds (x := vs) rfl (wpAny_pure ?_)))))))
  refine wpAny_bind (HT.slicePart_ ps ?_)
  show wpAny _ _ (if ((-1 : Int) == 0) = true then _ else _) _ _ s
  rw [if_neg (by decide)]
  refine wpAny_bind (slicePart_none (wpAny_bind (slicePart_none (wpAny_bind (wpAny_pure ?_)))))
  show wpAny _ _ (match Builtin.Slice.sliceAdjust none none (-1) (n : Int) with | (lo, hi) => pure (lo, (-1 : Int), Builtin.Slice.slicePlaces lo hi (-1))) _ _ s
  rw [adjust_back]
  show wpAny _ _ (pure ((n : Int) - 1, (-1 : Int), Builtin.Slice.slicePlaces ((n : Int) - 1) (-1) (-1))) _ _ s
  rw [places_back]
  exact wpAny_pure h
theorem filterMap_eqs {α β : Type} {f g : α → Option β} : ∀ l : List α, (∀ x ∈ l, f x = g x) → l.filterMap f = l.filterMap g
  | [], _ => rfl
  | x :: l, h => by
    rw [List.filterMap_cons, List.filterMap_cons, h x List.mem_cons_self, filterMap_eqs l fun y hy => h y (List.mem_cons_of_mem _ hy)]
theorem pick_all (m : List Value) : (List.range m.length).filterMap (fun k => m[k]?) = m := by
  induction m with
  | nil => rfl
  | cons a m ih =>
    rw [List.length_cons, List.range_succ_eq_map, List.filterMap_cons]
    simp only [List.getElem?_cons_zero, List.filterMap_map]
    refine congrArg _ (Eq.trans (filterMap_eqs _ fun k _ => ?_) ih)
    simp
theorem pick_back (xs : Array Value) : ((List.range xs.size).filterMap fun (k : Nat) => xs[((xs.size : Int) - 1 + (k : Int) * -1).toNat]?).toArray = xs.toList.reverse.toArray := by
  have h1 : (List.range xs.size).filterMap (fun (k : Nat) => xs[((xs.size : Int) - 1 + (k : Int) * -1).toNat]?) = (List.range xs.size).filterMap (fun k => xs.toList.reverse[k]?) := by
    refine filterMap_eqs _ fun k hk => ?_
    have hk' : k < xs.size := List.mem_range.mp hk
    have e2 : ((xs.size : Int) - 1 + (k : Int) * -1).toNat = xs.size - 1 - k := by omega
    rw [e2, List.getElem?_reverse (by simpa using hk'), Array.getElem?_toList]
    simp
  have h3 := pick_all xs.toList.reverse
  rw [List.length_reverse, Array.length_toList] at h3
  rw [h1, h3]
theorem getItem_tuple_back {t sl : Addr} {items : Array Value} {vs : Value} {Q : Value → Shared → Prop} (ht : IsTup s.heap t items) (hs : s.heap.IsSliceOf sl .none .none vs) (ps : IsPart vs (some (-1)))
    (h : Q (.ref s.heap.objs.size) { s with heap := s.heap.push { cls := .type "tuple", data := .seq items.toList.reverse.toArray } })
    (hsz : items.size ≤ sizeLine) : wpAny (model prog w) A (getItem (.ref t) (.ref sl)) Q E s := by
  have hok : sizeOk (.seq items.toList.reverse.toArray) := by
    show items.toList.reverse.toArray.size ≤ sizeLine
    rw [List.size_toArray, List.length_reverse, Array.length_toList]
    exact hsz
  obtain ⟨os, hos, hcs, hds⟩ := id hs
  have hTs : s.TypeIs (.ref sl) "slice" := ⟨os, hos, hcs⟩
  unfold getItem
  try with_reducible refine wpAny_holding ?_
  first | refine wpAny_bind (wpAny_pure ?_) | skip
  refine wpAny_bind (wpAny_sequenceKey ht.typeIs (by decide) ?_)
  refine wpAny_bind (wpAny_callSpecial?_slot (name := Str.ofString "__getitem__") ht.typeIs slot_tuple_getitem (wpAny_call_entry slot_tuple_getitem ht.typeIs PyProof.Rows.entry_tuple_getitem ?_ (PyProof.Rows.args_tuple_getitem _ _)))
  show wpAny _ _ (Builtin.Tuple.tupleItemsOf (.ref t) >>= _) _ _ s
  refine wpAny_bind (tupleItemsOf_ ht (wpAny_bind (wpAny_typeOf hTs ?_)))
  rw [if_pos (by decide)]
  refine wpAny_bind (applied_back (n := items.size) hs ps ?_)
  show wpAny _ _ (if ((((items.size : Int) - 1) == 0 && (-1 : Int) == 1 && items.size == items.size) = true) then _ else _) _ _ s
  rw [if_neg (by simp), pick_back]
  first
    | exact wpAny_bind (m := Builtin.Tuple.tupleExact _) (wpAny_newObj_type (wpAny_pure ⟨_, rfl, wpAny_pure h⟩) hok)
    | exact wpAny_bind (m := Builtin.Tuple.tupleExact _) (wpAny_newObj_type (wpAny_bind (wpAny_pure (wpAny_pure ⟨_, rfl, wpAny_pure h⟩))) hok)
end
section
variable {X : Cx}
def tRevT (K : PySem.W.Frag) (te : TE) : TE := fun σ H Q => te σ H fun x H1 => ∃ a xs, x = .ref a ∧ SqT K H1 a xs ∧ ∀ p, H1 p = Option.none → Q (.ref p) (upd H1 p (.tup xs.reverse))
theorem pe_revT {e : Expr} {te : TE} {k : Nat} {p1 p2 p3 pos : Pos} (he : PE X e te) : PE X (.Subscript e (.Slice none none (some (.UnaryOp .USub (.Constant (.int 1) k p1) p2)) p3) pos) (tRevT X.K te) := by
  refine ⟨fun pins s σ H Q I h => ?_⟩
  refine Subscript_ (thn (he.run pins s σ H _ I h) fun v s1 hz => ?_)
  obtain ⟨x, H1, I1, r1, a, xs, ex, hx, q⟩ := hz
  subst ex
  cases r1
  have hst : PO X (some (.UnaryOp .USub (.Constant (.int 1) k p1) p2)) (tPart (tUn (rU fun i => .int (-i)) (tC (.int 1)))) := po_some (pe_un un_neg pe_int)
  refine wpAny_Slice (thn (po_none.run pins s1 σ H1 (fun o H2 => o = none ∧ H2 = H1) I1 ⟨rfl, rfl⟩) fun vl s2 hz => ?_)
  obtain ⟨l, H2, I2, pl, el, e2⟩ := hz
  subst el e2
  refine thn (po_none.run pins s2 σ H2 (fun o H3 => o = none ∧ H3 = H2) I2 ⟨rfl, rfl⟩) fun vu s3 hz => ?_
  obtain ⟨u, H3, I3, pu, eu, e3⟩ := hz
  subst eu e3
  refine thn (hst.run pins s3 σ H3 (fun o H4 => o = some (-1) ∧ H4 = H3) I3 ⟨1, rfl, -1, rfl, rfl, rfl⟩) fun vs s4 hz => ?_
  obtain ⟨o, H4, I4, ps, eo, e4⟩ := hz
  subst eo e4
  cases pl
  cases pu
  have I5 : Inv X pins σ H4 { s4 with heap := s4.heap.push { cls := .type "slice", data := .fields #[.none, .none, vs] } } := I4.kept (t' := s4.toks) fun b ob q => Heap.get?_push_of_some _ q
  obtain ⟨its, r, ht, hz⟩ := I5.tuple hx
  have hlen := r.length
  show wpAny (model X.prog X.w) X.A (subscriptTail e (.Slice none none (some (.UnaryOp .USub (.Constant (.int 1) k p1) p2)) p3) (.ref a) (.ref s4.heap.objs.size)) (EP X pins σ Q) X.xe
    { s4 with heap := s4.heap.push { cls := .type "slice", data := .fields #[.none, .none, vs] } }
  refine tail_any (ops := [.ref a, .ref s4.heap.objs.size]) ht.typeIs slot_tuple_getitem.lookup ?_ (by with_unfolding_all rfl)
  refine getItem_tuple_back ht (Heap.IsSliceOf.new _ .none .none vs) ps ?_ (by rw [List.size_toArray]; omega)
  refine ⟨.ref _, _, I5.laid (t' := s4.toks) (o := .tup xs.reverse) (fun b ob q => Heap.get?_push_of_some _ q) (Nat.le_refl _) ?_, rfl, q _ (I5.hok.fresh (Nat.le_refl _))⟩
  exact ⟨by rw [List.length_reverse]; exact hz, its.reverse, r.reverse, IsTup.new _ _⟩
end

/-! ### enumerate over a tuple -/
theorem enum_new1 {v : Value} {o : Obj} {G : Heap → Prop} (B : Begins v o G) :
    Meets (Builtin.«enumerate.__new__» ⟨[.type "enumerate", v], []⟩) (fun _ R s => G s.heap ∧
      R (.ok (.ret (.ref (s.heap.push o).objs.size))) { s with heap := (s.heap.push o).push { cls := .type "enumerate", data := .fields #[.none, .bool false, .ref s.heap.objs.size, rawInt 0, .none, .none] } }) :=
  .of_wp fun prog w A R s h => by
    obtain ⟨hp, g, d, tk, os⟩ := s
    obtain ⟨h1, h2⟩ := h
    have hsub := sub_enumerate
    have it : ∀ {A' : Around} {E : Value → Shared → Prop} {Q : Value → Shared → Prop}, Q (.ref hp.objs.size) ⟨hp.push o, g, d, tk, os⟩ → wpAny (model prog w) A' (pyIter v) Q E ⟨hp, g, d, tk, os⟩ :=
      fun q => B.iter prog w _ _ ⟨hp, g, d, tk, os⟩ _ h1 q
    wp_walk using it
    refine wpAny_stack_any fun st => wpAny_pure ?_
    split
    · rename_i c _ _ _ _ _
      cases (c == Value.type "enumerate") <;> (wp_walk using it; exact ⟨_, rfl, h2⟩)
    · wp_walk using it
      exact ⟨_, rfl, h2⟩
section
variable {prog : Program} {w : World} {A : Around} {E : Value → Shared → Prop} {s : Shared}
theorem call_enum1 {v : Value} {o : Obj} {G : Heap → Prop} {Q : Value → Shared → Prop} (B : Begins v o G) (h1 : G s.heap)
    (h : ∀ h', IsEnum h' (s.heap.objs.size + 1) s.heap.objs.size 0 .none → h'.get? s.heap.objs.size = some o → h'.objs.size = s.heap.objs.size + 2 →
      (∀ b o, s.heap.get? b = some o → h'.get? b = some o) → Q (.ref (s.heap.objs.size + 1)) { s with heap := h' }) :
    wpAny (model prog w) A (call (.type "enumerate") [v]) Q E s := by
  refine callType_new F.called_enumerate (by decide) (F.typeCall_enumerate_1 _) (F.newCall_enumerate_1 _) (fun obj => F.args_object_init_2 obj _) F.entry_enumerate_new (enum_new1 B) ⟨h1, ?_⟩
  have hz : (s.heap.push o).objs.size = s.heap.objs.size + 1 := Heap.size_push ..
  rw [hz]
  have he : IsEnum ((s.heap.push o).push { cls := .type "enumerate", data := .fields #[.none, .bool false, .ref s.heap.objs.size, rawInt 0, .none, .none] }) (s.heap.objs.size + 1) s.heap.objs.size 0 .none := by
    have e := Heap.get?_push_size (s.heap.push o) (o := { cls := .type "enumerate", data := .fields #[.none, .bool false, .ref s.heap.objs.size, rawInt 0, .none, .none] }) rfl
    rw [hz] at e
    exact e
  exact ⟨⟨_, he, rfl⟩, h _ he (Heap.get?_push_of_some _ (Heap.get?_push_size _ B.free)) (by rw [Heap.size_push, hz]) fun b o x => Heap.get?_push_of_some _ (Heap.get?_push_of_some _ x)⟩
end
/-- the tuple at a, each item in a new pair with its number -/
def IteT (K : PySem.W.Frag) (a : Addr) : It :=
  ⟨fun i H => ∃ (xs : List V) (x : V), SqT K H a xs ∧ xs[i]? = some x, fun i H v H' => ∃ T x, v = .ref T ∧ H T = Option.none ∧ H' = upd H T (.tup [.int (i : Nat), x]) ∧ ∀ xs, SqT K H a xs → xs[i]? = some x,
    fun i H => ∃ xs : List V, SqT K H a xs ∧ xs.length ≤ i⟩
theorem turn_enumT {P : Program} {w : World} {K : PySem.W.Frag} {elts : List Expr} {kk : Nat} {tpos : Pos} (a e it : Addr) :
    Turn P w K (.Tuple elts kk tpos) (IteT K a) [e, it] e (fun i h => (∃ old, IsEnum h e it ((i : Nat) : Int) old) ∧ h.IsTupleIter it a i ∧ e ≠ it ∧ a ≠ it ∧ a ≠ e) where
  mem := by simp
  obj := fun i h st b hb => by
    obtain ⟨⟨old, he⟩, ⟨o, ho, hc, hd⟩, _⟩ := st
    rcases (show b = e ∨ b = it by simpa using hb) with z | z
    · rw [z]; exact ⟨_, he, fun v q => nomatch q⟩
    · rw [z]; exact ⟨o, ho, fun v q => by rw [hd] at q; cases q⟩
  keep := fun i h h' st k => let ⟨⟨old, he⟩, hi, hne⟩ := st; ⟨⟨old, k e (by simp) _ he⟩, hi.at fun o q => k it (by simp) o q, hne⟩
  item := by
    intro X hP hw hK hc i pins s σ H E I hf st hg
    subst hP hw hK
    obtain ⟨⟨old, he⟩, hit, hne, hai, hae⟩ := st
    obtain ⟨xs, x, hq, hx⟩ := hg
    obtain ⟨its, rv, p, hz⟩ := I.tuple hq
    obtain ⟨u, hu, ru⟩ := rv.get hx
    have hel : e < s.heap.objs.size := Heap.lt_size he
    have hil : it < s.heap.objs.size := by obtain ⟨_, q, _⟩ := hit; exact Heap.lt_size q
    have hlt : i < its.toArray.size := by
      rw [List.size_toArray]
      exact (List.getElem?_eq_some_iff.mp hu).1
    refine wpAny_pyNext_enum_itemD (Draws.tuple (prog := X.prog) (w := X.w) (A := X.A.in1) (I.ok.hd hc) it a hai its.toArray) he ⟨hit, p⟩ hlt hne (by simp [hne, Ne.symm hae]) fun y h' tk hy ho hst hT hsz hk => ?_
    have ey : y = u := by
      have q : its[i]? = some y := by simpa using hy
      rw [hu] at q
      exact (Option.some.inj q).symm
    subst ey
    refine ⟨_, rfl, wpAny_letOwnedTupleGo_enum (s := { s with heap := h', toks := tk + 1 }) ho fun h'' he' sb => ?_⟩
    have hT2 : h''.get? s.heap.objs.size = some { cls := .type "tuple", data := .seq #[.int i tk, y] } := (sb.2 _ (Nat.ne_of_gt hel)).trans hT
    have new : ObjOk X.prog X.w (upd H s.heap.objs.size (.tup [.int (i : Nat), x])) h'' s.heap.objs.size (.tup [.int (i : Nat), x]) :=
      ⟨by show 2 ≤ sizeLine; decide, [.int i tk, y], .cons ⟨_, rfl⟩ (.cons ru .nil), ⟨_, hT2, rfl, _, rfl⟩⟩
    have I1 : Inv X pins σ (upd H s.heap.objs.size (.tup [.int (i : Nat), x])) { s with heap := h'', toks := tk + 1 } :=
      I.turnedNew (ch := [e, it]) (fun b ob hb q => (sb.2 b (fun z => hb (by simp [z]))).trans (hk b ob (fun z => hb (by simp [z])) (fun z => hb (by simp [z])) q)) hf (Nat.le_refl _) new
    refine ⟨.ref s.heap.objs.size, _, I1, rfl, ⟨_, x, rfl, I.hok.fresh (Nat.le_refl _), rfl, fun ys hy => by rw [I.tuple_inj hy hq]; exact hx⟩, ⟨⟨y, ?_⟩, hst.1.at fun o q => (sb.2 it (Ne.symm hne)).trans q, hne, hai, hae⟩, fun b hb => ?_⟩
    · have e1 : ((i + 1 : Nat) : Int) = (i : Int) + 1 := by omega
      rw [e1]; exact he'
    · have hb' : b < s.heap.objs.size := by
        rcases (show b = e ∨ b = it by simpa using hb) with z | z
        · rw [z]; exact hel
        · rw [z]; exact hil
      rw [upd_ne (Nat.ne_of_lt hb')]
      exact (hf b hb).1
  done := by
    intro X hP hw hK hc i pins s σ H E I hf st hg
    subst hP hw hK
    obtain ⟨⟨old, he⟩, hit, hne, hai, hae⟩ := st
    obtain ⟨xs, hq, hx⟩ := hg
    obtain ⟨its, rv, p, hz⟩ := I.tuple hq
    obtain ⟨f0, f1, f2, f3, f4, f5⟩ := hf it (by simp)
    have hl := rv.length
    have D : Draws X.prog X.w X.A.in1 it [it, a] i (fun _ _ => False) (fun j h => j = i ∧ h.IsTupleIter it a i ∧ h.IsTuple a its.toArray) :=
      { live := fun _ _ st => let ⟨o, ho, _⟩ := st.2.1; ⟨o, ho⟩
        frame := fun _ _ _ st hk => ⟨st.1, st.2.1.at fun o e => hk it (by simp) o e, st.2.2.at fun o e => hk a (by simp) o e⟩
        item := fun j s Q E hj st => absurd hj (by rw [st.1]; exact Nat.lt_irrefl _)
        done := fun s Q E st hE => wpAny_nextOf_tuple_end (I.ok.hd hc) st.2.1 st.2.2 (by simp; omega) hE }
    exact wpAny_pyNext_enum_endD D he ⟨rfl, hit, p⟩ fun h' eb => ⟨rfl, I.turned (t' := s.toks) (fun b o hb q => eb b o hb q) f0 f1 f3 f4 f5⟩
  self := fun A i s Q E st h => let ⟨⟨_, he⟩, _⟩ := st; wpAny_pyIter_enum he h
def iEnumT (K : PySem.W.Frag) (ta : TA) : TI := fun σ H R => ta σ H fun vs H1 => ∃ a xs, vs = [.ref a] ∧ SqT K H1 a xs ∧ R (IteT K a) H1
theorem pi_enumT {X : Cx} {e : Expr} {ta : TA} {p pos tpos : Pos} {elts : List Expr} {kk : Nat} (hg : Gl X "enumerate") (hm : X.mg "enumerate" = none) (ha : PA X [e] ta) (hs : starEach [e] X.env = [(false, eval e X.env)] := by rfl) :
    PI X (.Tuple elts kk tpos) (.Call (.Name "enumerate" p) [e] [] pos) (iEnumT X.K ta) := by
  refine ⟨fun pins s σ H R I h => ?_⟩
  refine Call_ (ld_blt I hg hm boot_enumerate (PyProof.Rows.callWith_type1 (thn (ha.run pos pins s σ H _ I h) fun us s1 hz => ?_) hs rfl))
  obtain ⟨vs, H1, I1, r1, a, xs, ex, hq, q⟩ := hz
  subst ex
  cases r1 with
  | cons r rr =>
    cases rr
    cases r
    obtain ⟨its, rv, p', hz⟩ := I1.tuple hq
    refine call_enum1 (begins_tuple a its.toArray) p' fun h' he hit hsz hk => wpAny_pyIter_enum he ?_
    have hal : a < s1.heap.objs.size := p'.lt
    refine ⟨s1.heap.objs.size + 1, [s1.heap.objs.size + 1, s1.heap.objs.size], _, _, H1, rfl, I1.kept (t' := s1.toks) hk, turn_enumT a (s1.heap.objs.size + 1) s1.heap.objs.size,
      ⟨⟨.none, he⟩, ⟨_, hit, rfl, rfl⟩, Nat.succ_ne_self _, Nat.ne_of_lt hal, Nat.ne_of_lt (Nat.lt_succ_of_lt hal)⟩, fun b hb => ?_, q⟩
    have hle : s1.heap.objs.size ≤ b := by
      rcases (show b = s1.heap.objs.size + 1 ∨ b = s1.heap.objs.size by simpa using hb) with z | z
      · rw [z]; exact Nat.le_add_right _ _
      · rw [z]; exact Nat.le_refl _
    exact I1.fpOk hle (I1.hok.fresh hle)
theorem walk_enumT {K : PySem.W.Frag} {a : Addr} {xs : List V} : Walk (IteT K a) xs.length (fun H => SqT K H a xs) (YPair (fun i => some (.int (i : Nat))) (fun i => xs[i]?)) := by
  refine ⟨fun i _ hi q => ⟨xs, xs[i], q, by simp [hi]⟩, fun _ q => ⟨xs, q, Nat.le_refl _⟩, fun i H v H' _ q y => ?_⟩
  obtain ⟨T, x, h1, h2, h3, h4⟩ := y
  exact ⟨T, .int (i : Nat), x, h1, h2, h3, rfl, h4 xs q⟩
theorem walk_zipT {K : PySem.W.Frag} {a b : Addr} {xs ys : List V} {n : Nat} (hn : n = min xs.length ys.length) : Walk (RZ.ItzT K a b) n (fun H => SqT K H a xs ∧ SqT K H b ys) (YPair (fun i => xs[i]?) (fun i => ys[i]?)) := by
  subst hn
  refine ⟨fun i _ hi q => ?_, fun _ q => ⟨xs, ys, q.1, q.2, by omega⟩, fun i H v H' _ q y => ?_⟩
  · have h1 : i < xs.length := by omega
    have h2 : i < ys.length := by omega
    exact ⟨xs, ys, xs[i], ys[i], q.1, q.2, by simp [h1], by simp [h2]⟩
  · obtain ⟨T, x, z, h1, h2, h3, h4, h5⟩ := y
    exact ⟨T, x, z, h1, h2, h3, h4 xs q.1, h5 ys q.2⟩

/-! ### sorted(d.keys()) of a dict of int keys -/
section
variable {X : Cx}
/-- the view r of the keys of the dict at d -/
def ViewO (r d : Addr) : HO := .ext fun h => PySem.W.KdlKeysView h r d
def tKeys (td : TE) : TE := fun σ H Q => td σ H fun x H1 => ∃ d, x = .ref d ∧ (∃ kvs, H1 d = some (.dK kvs)) ∧ ∀ r, H1 r = Option.none → Q (.ref r) (upd H1 r (ViewO r d))
theorem pe_keys {e : Expr} {td : TE} {apos cpos : Pos} (he : PE X e td) (hbase : attributeBase e "keys" X.env (eval e X.env) = eval e X.env := by rfl) (hline : (apos.endLine == cpos.line) = true := by rfl) :
    PE X (.Call (.Attribute e "keys" apos) [] [] cpos) (tKeys td) := by
  refine ⟨fun pins s σ H Q I h => ?_⟩
  refine wpAny_Call_method (T := "dict") (id := "dict.keys") hbase rfl hline F.plainAttrs_dict F.slot_dict_keys F.type_dict_keys (thn (he.run pins s σ H _ I h) fun u s1 hz => ?_)
  obtain ⟨x, H1, I1, rx, d, ex, ⟨kvs, hd⟩, q⟩ := hz
  subst ex
  obtain rfl : u = Value.ref d := rx
  obtain ⟨z, lo, vs, rel, dd⟩ := dk_of I1.hok hd
  refine ⟨dd.typeIs, dd.mapOf.noDict, ?_⟩
  show wpAny _ _ (callWith cpos (.builtin "dict.keys") [.ref d] [] []) _ X.xe s1
  have fin : EP X pins σ Q (.ref s1.heap.objs.size) { s1 with heap := s1.heap.push { cls := .type "dict_keys", data := .fields #[.ref d] } } := by
    refine ⟨.ref s1.heap.objs.size, upd H1 s1.heap.objs.size (ViewO s1.heap.objs.size d), I1.laid (t' := s1.toks) (fun b u e => Heap.get?_push_of_some _ e) (Nat.le_refl _) ?_, rfl, q _ (I1.hok.fresh (Nat.le_refl _))⟩
    refine ⟨⟨_, Heap.get?_push_size _ rfl, rfl, rfl⟩, ⟨_, Heap.get?_push_size _ rfl⟩, fun h1 h2 a b => ?_⟩
    obtain ⟨o, ho, c⟩ := a
    exact ⟨o, b o ho, c⟩
  exact method_meetsIn F.slot_dict_keys F.entry_dict_keys rfl (PySem.evalArgs_none ⟨rfl, dd.typeIs, F.args_dict_keys_1 _, _, PySem.W.kdl_meets_keys (mixKind X.prog X.w) d lo, ⟨vs, dd⟩, fin⟩)
theorem call_sortedK (hcalm : X.calm = true) : CallR X (.builtin "sorted") (fun xs H Q => ∃ (r d : Addr) (kvs : List (Key × V)) (ks : List Int), xs = [.ref r] ∧ H r = some (ViewO r d) ∧ H d = some (.dK kvs) ∧ kvs.map (·.1) = ks.map Sum.inl ∧ ks.length < 64 ∧
    ∀ (ys : List Int) (p : Addr), ys.Perm ks → ys.Pairwise (· ≤ ·) → H p = Option.none → Q (.ref p) (upd H p (.lst (ys.map V.int)))) := by
  intro pins s σ H xs us Q I rr q
  obtain ⟨r, d, kvs, ks, ex, hr, hd, hks, h64, q⟩ := q
  subst ex
  obtain ⟨u, eu, rx⟩ := vals1 rr
  subst eu
  cases rx
  have hv : PySem.W.KdlKeysView s.heap r d := (I.hok r _ hr).1
  obtain ⟨z, lo, vs, rel, dd⟩ := dk_of I.hok hd
  obtain ⟨ep, hat⟩ := dd.dictAt
  have hkeys : vs.map (·.1) = ks.map Sum.inl := rel.keys.symm.trans hks
  have hl : vs.length = ks.length := by simpa using congrArg List.length hkeys
  have h16 : vs.length ≤ sizeLine := by rw [hl, sizeLine_eq]; omega
  refine Calls.call_function_entry PyProof.Rows.kind_sorted PyProof.Rows.plain_sorted PyProof.Rows.entry_sorted (PyProof.Rows.args_sorted1 _) ?_
  unfold Builtin.«sorted»
  refine wpAny_bind (m := checkCount "sorted" 1 1 _) (wpAny_pure ?_)
  refine wpAny_bind (PySem.W.kdu_collect (A := X.A.in1) (PySem.W.kdl_keys (knd := mixKind X.prog X.w) (r := r) (d := d) (kvs := vs) (ep := ep)) (I.ok.hd hcalm) ⟨hv, hat⟩ h16 fun h' tk acc hk hacc => ?_)
  have hal : acc.toList.length = ks.length := by rw [Array.length_toList, hacc.1, hl]
  have hS : IntsAre acc.toList ks := ints_each hal fun j v e => by
    obtain ⟨k, x, e1, e2⟩ := hacc.2 j v (by rw [← Array.getElem?_toList]; exact e)
    have e3 : (vs.map (·.1))[j]? = some k := by rw [List.getElem?_map, e1]; rfl
    rw [hkeys, List.getElem?_map] at e3
    obtain ⟨y, ey, e4⟩ := Option.map_eq_some_iff.mp e3
    subst e4
    rcases keyIs_shape (show keyIs (Sum.inl y) v = true from e2) with ⟨i, t, ek, ev⟩ | ⟨_, t, ek, ev⟩
    · cases ek
      exact ⟨y, t, ey, ev⟩
    · cases ek
  have I1 : Inv X pins σ H { s with heap := h', toks := tk } := I.kept hk
  refine wpAny_bind (wpAny_newList ?_ (by rw [hal, sizeLine_eq]; omega))
  have hoL : (h'.push (seqObj "list" acc.toList.toArray 0)).get? h'.objs.size = some (seqObj "list" acc.toList.toArray 0) := Heap.get?_push_size _ rfl
  show wpAny _ _ _ _ _ { s with heap := h'.push (seqObj "list" acc.toList.toArray 0), toks := tk }
  refine wpAny_bind (wpAny_holding (wpAny_call_entry PyProof.Rows.slot_list_sort ⟨_, hoL, rfl⟩ PyProof.Rows.entry_list_sort
    (PyProof.Rows.list_sort_tree (s := { s with heap := h'.push (seqObj "list" acc.toList.toArray 0), toks := tk }) hoL hS (by rw [hal]; exact h64) fun out ys g1 g2 g3 => ⟨_, rfl, ?_⟩) (PyProof.Rows.args_list_sort _)))
  obtain ⟨e', he'⟩ := PyProof.Rows.sortedHeap_at (vs := acc.toList) (out := out) hoL
  have hlen : (ys.map V.int).length ≤ sizeLine := by
    rw [List.length_map, g2.length_eq]
    exact Nat.le_trans (Nat.le_of_lt h64) (by decide)
  refine wpAny_pure ⟨_, rfl, .ref h'.objs.size, upd H h'.objs.size (.lst (ys.map V.int)), I1.laid (t' := tk) (fun b u e => ?_) (Nat.le_refl _)
    (show ObjOk X.prog X.w _ _ _ (.lst (ys.map V.int)) from ⟨hlen, out.toList, e', vals_of_ints g1, by rw [Array.toArray_toList]; exact he'⟩), rfl, q ys _ g2 g3 (I1.hok.fresh (Nat.le_refl _))⟩
  have hb : b < h'.objs.size := Heap.lt_size e
  rw [PyProof.Rows.sortedHeap_old (Nat.ne_of_lt hb) (by rw [size_push']; exact Nat.lt_succ_of_lt hb)]
  exact Heap.get?_push_of_some _ e
end
end Cm

/-! a dict of things by births -/
namespace Cm
open PySem L2
/-- a thing: a word, then data without lists -/
def windD (b : Int) : PyData := .tuple [.str "wind", .int (1000 + b), .int (2000 + b)]
def wordD : PyData → Str
  | .tuple (.str x :: _) => x
  | _ => ""
structure Th (b : Int) (d : PyData) : Prop where
  ex : ∃ (wd : Str) (r : List PyData), d = .tuple (.str wd :: r)
  fl : flatD d = true
  ok : okD d = true
  dp : d.depth ≤ 8
  wt : d.weight ≤ 4000
  wn : wordD d = "wind" → d = windD b
/-- the dict at d holds es -/
structure ThAt (K : PySem.W.Frag) (H : Hp) (d : Addr) (es : List (Int × PyData)) (kvs : List (Key × V)) : Prop where
  at_ : H d = some (.dK kvs)
  ks : kvs.map (·.1) = es.map (fun e => Sum.inl e.1)
  vs : DpAll K H (kvs.map (·.2)) (es.map (·.2))
  th : ∀ e ∈ es, Th e.1 e.2
def thg (es : List (Int × PyData)) (b : Int) : PyData := ((es.find? fun e => decide (e.1 = b)).map (·.2)).getD .none
def word (es : List (Int × PyData)) (b : Int) : Str := wordD (thg es b)
theorem th_find {K : PySem.W.Frag} {H : Hp} (b : Int) : ∀ (es : List (Int × PyData)) (kvs : List (Key × V)), kvs.map (·.1) = es.map (fun e => (Sum.inl e.1 : Key)) → DpAll K H (kvs.map (·.2)) (es.map (·.2)) →
    b ∈ es.map (·.1) → ∃ v, valV kvs (Sum.inl b) = some v ∧ Dp K H v (thg es b) ∧ (b, thg es b) ∈ es
  | [], _, _, _, m => by simp at m
  | e :: es, kvs, hk, hv, m => by
    cases kvs with
    | nil => simp at hk
    | cons a kvs =>
      simp only [List.map_cons, List.cons.injEq] at hk
      cases hv with
      | cons h1 h2 =>
        by_cases q : e.1 = b
        · refine ⟨a.2, ?_, ?_, ?_⟩
          · unfold valV
            rw [List.find?_cons_of_pos (by rw [hk.1, q]; simp)]
            rfl
          · have : thg (e :: es) b = e.2 := by
              unfold thg
              rw [List.find?_cons_of_pos (by simp [q])]
              rfl
            rw [this]
            exact h1
          · have : thg (e :: es) b = e.2 := by
              unfold thg
              rw [List.find?_cons_of_pos (by simp [q])]
              rfl
            rw [this, ← q]
            exact List.mem_cons_self
        · have m' : b ∈ es.map (·.1) := by
            simp only [List.map_cons, List.mem_cons] at m
            rcases m with m | m
            · exact absurd m.symm q
            · exact m
          obtain ⟨v, g1, g2, g3⟩ := th_find b es kvs hk.2 h2 m'
          have e2 : thg (e :: es) b = thg es b := by
            unfold thg
            rw [List.find?_cons_of_neg (by simpa using q)]
          refine ⟨v, ?_, by rw [e2]; exact g2, by rw [e2]; exact List.mem_cons_of_mem _ g3⟩
          unfold valV at g1 ⊢
          rw [List.find?_cons_of_neg (by rw [hk.1]; simpa using q)]
          exact g1
theorem ThAt.get {K : PySem.W.Frag} {H : Hp} {d : Addr} {es : List (Int × PyData)} {kvs : List (Key × V)} (x : ThAt K H d es kvs) {b : Int} (m : b ∈ es.map (·.1)) :
    ∃ (p : Addr) (its : List V), DGet H d (.int b) (some (.ref p)) ∧ SqT K H p its ∧ atI its 0 = some (.str (word es b)) ∧ Dp K H (.ref p) (thg es b) ∧ Th b (thg es b) := by
  obtain ⟨v, h1, h2, h3⟩ := th_find b es kvs x.ks x.vs m
  have t : Th b (thg es b) := x.th _ h3
  obtain ⟨wd, r, ed⟩ := t.ex
  have h2' := h2
  have e3 : word es b = wd := by
    unfold word
    rw [ed]
    rfl
  rw [ed] at h2'
  cases h2' with
  | @tup a its ds hs ha =>
    refine ⟨a, its, ?_, hs, ?_, by rw [ed]; exact .tup hs ha, t⟩
    · have q := DGet.k (k := Sum.inl b) x.at_
      rw [h1] at q
      exact q
    · rw [e3]
      cases ha with
      | cons q1 q2 =>
        cases q1
        exact atI_nat (j := 0) rfl
theorem putK_end {kvs : List (Key × V)} {k : Key} {v : V} (h : ∀ p ∈ kvs, p.1 ≠ k) : putK kvs k v = kvs ++ [(k, v)] := by
  unfold putK
  rw [if_neg]
  intro q
  obtain ⟨p, hp, e⟩ := List.any_eq_true.mp q
  exact h p hp (of_decide_eq_true e)
theorem decS {x y : Str} : decide (V.str x = V.str y) = decide (x = y) := by
  by_cases q : x = y
  · rw [q]; simp
  · rw [decide_eq_false q, decide_eq_false (fun z => q (V.str.inj z))]
theorem ThAt.same {K : PySem.W.Frag} {H H' : Hp} {d : Addr} {es : List (Int × PyData)} {kvs : List (Key × V)} (x : ThAt K H d es kvs) (s : Same H H') : ThAt K H' d es kvs :=
  ⟨s _ _ x.at_, x.ks, dps_same s _ _ x.vs, x.th⟩
theorem flatDs_of : ∀ ds : List PyData, (∀ d ∈ ds, flatD d = true) → flatDs ds = true
  | [], _ => rfl
  | d :: ds, h => by simp [flatDs, h d List.mem_cons_self, flatDs_of ds fun x hx => h x (List.mem_cons_of_mem _ hx)]
theorem ThAt.fl {K : PySem.W.Frag} {H : Hp} {d : Addr} {es : List (Int × PyData)} {kvs : List (Key × V)} (x : ThAt K H d es kvs) : flatDs (es.map (·.2)) = true :=
  flatDs_of _ fun z hz => by
    obtain ⟨e, he, rfl⟩ := List.mem_map.mp hz
    exact (x.th e he).fl
theorem ThAt.kp {M : Addr → Prop} {K : PySem.W.Frag} {H H' : Hp} {d : Addr} {es : List (Int × PyData)} {kvs : List (Key × V)} (x : ThAt K H d es kvs) (k : Kp M H H') (n : ¬ M d) : ThAt K H' d es kvs :=
  ⟨k.st _ _ n x.at_, x.ks, dps_keep (fun _ _ h => k.tup h) _ _ x.fl x.vs, x.th⟩
theorem wt_int {i : Int} (h : i.natAbs < 10 ^ 12) : PyData.weight (.int i) ≤ 64 := by
  simp only [PyData.weight]
  split
  · omega
  · rename_i q
    have q' : i.natAbs ≠ 0 := by
      intro z
      apply q
      simp
      omega
    have := (Nat.log2_lt q').mpr (show i.natAbs < 2 ^ 63 from Nat.lt_of_lt_of_le h (by decide))
    omega
theorem ThAt.snoc {K : PySem.W.Frag} {H : Hp} {d : Addr} {es : List (Int × PyData)} {kvs : List (Key × V)} (x : ThAt K H d es kvs) {b : Int} {v : V} {t : PyData} (n : b ∉ es.map (·.1)) (hv : Dp K H v t) (ht : Th b t) :
    ThAt K (upd H d (.dK (putK kvs (Sum.inl b) v))) d (es ++ [(b, t)]) (putK kvs (Sum.inl b) v) := by
  have e1 : putK kvs (Sum.inl b) v = kvs ++ [(Sum.inl b, v)] := putK_end fun p hp q => n (by
    have : p.1 ∈ kvs.map (·.1) := List.mem_map.mpr ⟨p, hp, rfl⟩
    rw [x.ks] at this
    obtain ⟨e, he, e2⟩ := List.mem_map.mp this
    rw [q] at e2
    exact List.mem_map.mpr ⟨e, he, Sum.inl.inj e2⟩)
  have keep : ∀ a xs, SqT K H a xs → SqT K (upd H d (.dK (putK kvs (Sum.inl b) v))) a xs := fun a xs h => by
    rcases h with (h | ⟨o, h⟩) | h
    · exact .inl (.inl (by rw [upd_ne (ne_of h x.at_ (by intro z; cases z))]; exact h))
    · exact .inl (.inr ⟨o, by rw [upd_ne (ne_of h x.at_ (by intro z; cases z))]; exact h⟩)
    · exact .inr h
  refine ⟨upd_same, ?_, ?_, ?_⟩
  · rw [e1, List.map_append, List.map_append, x.ks]
    rfl
  · have h1 := dps_keep keep _ _ x.fl x.vs
    have h2 := dp_keep keep _ _ ht.fl hv
    rw [show (putK kvs (Sum.inl b) v).map (·.2) = kvs.map (·.2) ++ [v] by rw [e1, List.map_append]; rfl, List.map_append]
    exact DpAll.snoc h2 h1
  · intro e he
    rcases List.mem_append.mp he with he | he
    · exact x.th e he
    · cases List.mem_singleton.mp he
      exact ht
theorem Kp.mut {M : Addr → Prop} {H H' : Hp} {d : Addr} {o : HO} (k : Kp M H H') (hd : H d = Option.none) : Kp M H (upd H' d o) :=
  ⟨fun a u n e => by
    rw [upd_ne (ne_of_none e hd)]
    exact k.st a u n e, k.l1, fun a m => by
    have q : a ≠ d := fun q => k.m_of hd (q ▸ m)
    rw [upd_ne q]
    exact k.l2 a m⟩
theorem Hand.put {H : Hp} {h c d : Addr} {o : HO} (x : Hand H h c) (n : ∀ xs, H d ≠ some (.lst xs)) : Hand (upd H d o) h c := by
  obtain ⟨cells, i, b, t, e1, e2, q⟩ := x
  refine ⟨cells, i, b, t, ?_, ?_, q⟩
  · rw [upd_ne (fun z => n _ (z ▸ e1))]
    exact e1
  · rw [upd_ne (fun z => n _ (z ▸ e2))]
    exact e2
theorem Hand.puts {H : Hp} {h c d : Addr} {o : HO} (x : Hand H h c) (n1 : d ≠ h) (n2 : d ≠ c) : Hand (upd H d o) h c := by
  obtain ⟨cells, i, b, t, e1, e2, q⟩ := x
  exact ⟨cells, i, b, t, by rw [upd_ne (Ne.symm n1)]; exact e1, by rw [upd_ne (Ne.symm n2)]; exact e2, q⟩
theorem Hand.there {H : Hp} {h c d : Addr} (x : Hand H h c) (n : H d = Option.none) : d ≠ h ∧ d ≠ c := by
  obtain ⟨cells, i, b, t, e1, e2, q⟩ := x
  exact ⟨(ne_of_none e1 n).symm, (ne_of_none e2 n).symm⟩
theorem Hand.ne {H : Hp} {h c d : Addr} (x : Hand H h c) (n : ∀ xs, H d ≠ some (.lst xs)) : d ≠ h := fun z => by
  obtain ⟨xs, e⟩ := x.lst
  exact n xs (z ▸ e)
/-- 1 .. n -/
def births (n : Nat) : List Int := (List.range n).map fun (i : Nat) => (i : Int) + 1
theorem births_succ (n : Nat) : births (n + 1) = births n ++ [(n : Int) + 1] := by
  unfold births
  rw [List.range_succ, List.map_append]
  rfl
theorem births_mem {n : Nat} {b : Int} : b ∈ births n ↔ 1 ≤ b ∧ b ≤ n := by
  unfold births
  rw [List.mem_map]
  constructor
  · rintro ⟨i, hi, rfl⟩
    have := List.mem_range.mp hi
    omega
  · intro q
    exact ⟨(b - 1).toNat, List.mem_range.mpr (by omega), by omega⟩
/-- a new thing is put at the next birth -/
theorem things_put {K : PySem.W.Frag} {H H3 : Hp} {h c d : Addr} {es : List (Int × PyData)} {kvs : List (Key × V)} {i : Nat} {v : V} {t : PyData} (kh : Kh h H H3) (hh : Hand H3 h c) (x : ThAt K H3 d es kvs) (hd : H d = Option.none)
    (hk : es.map (·.1) = births i) (hi : i < 1000) (hv : Dp K H3 v t) (ht : Th (1 + i) t) :
    ∃ H4 es' kvs', DPut H3 d (.int (1 + (i : Nat))) v H4 ∧ Kh h H H4 ∧ Hand H4 h c ∧ ThAt K H4 d es' kvs' ∧ es'.map (·.1) = births (i + 1) := by
  have hb : (1 : Int) + i ∉ es.map (·.1) := by
    rw [hk, births_mem]
    omega
  have hl : kvs.length < sizeLine := by
    have e := congrArg List.length x.ks
    rw [List.length_map, List.length_map] at e
    have e2 := congrArg List.length hk
    rw [List.length_map] at e2
    have e3 : (births i).length = i := by unfold births; rw [List.length_map, List.length_range]
    rw [e, e2, e3]
    exact Nat.lt_trans hi (by decide)
  refine ⟨_, _, _, DPut.k (k := Sum.inl (1 + (i : Int))) x.at_ hl, kh.mut hd, hh.put (fun xs e => by rw [x.at_] at e; cases e), x.snoc hb hv ht, ?_⟩
  rw [List.map_append, hk, births_succ]
  show births i ++ [1 + (i : Int)] = _
  rw [show (1 : Int) + i = i + 1 by omega]
theorem births_len (n : Nat) : (births n).length = n := by
  unfold births
  rw [List.length_map, List.length_range]
end Cm

/-! comprehensions over data -/
namespace Cm
open PySem L2
theorem sqt_put {K : PySem.W.Frag} {H : Hp} {D a : Addr} {xs ys zs : List V} (h : H D = some (.lst ys)) (q : SqT K H a xs) : SqT K (upd H D (.lst zs)) a xs := by
  rcases q with (q | ⟨o, q⟩) | q
  · exact .inl (.inl (by rw [upd_ne (ne_of q h (by intro z; cases z))]; exact q))
  · exact .inl (.inr ⟨o, by rw [upd_ne (ne_of q h (by intro z; cases z))]; exact q⟩)
  · exact .inr q
theorem same_put {H H' : Hp} {D : Addr} {o : HO} (s : Same H H') (h : H D = Option.none) : Same H (upd H' D o) := fun b u e => by
  rw [upd_ne (ne_of_none e h)]
  exact s b u e
theorem sqt_same {K : PySem.W.Frag} {H H' : Hp} {a : Addr} {xs : List V} (s : Same H H') (h : SqT K H a xs) : SqT K H' a xs := by
  rcases h with (h | ⟨o, h⟩) | h
  · exact .inl (.inl (s _ _ h))
  · exact .inl (.inr ⟨o, s _ _ h⟩)
  · exact .inr h
theorem flatDs_all {ds : List PyData} (h : flatDs ds = true) : ∀ d ∈ ds, flatD d = true := by
  induction ds with
  | nil => intro d hd; cases hd
  | cons a r ih =>
    have h' : flatD a = true ∧ flatDs r = true := by simpa [flatDs] using h
    intro d hd
    rcases List.mem_cons.mp hd with rfl | hd
    · exact h'.1
    · exact ih h'.2 d hd
theorem flatDs_app {ds es : List PyData} (h1 : flatDs ds = true) (h2 : flatDs es = true) : flatDs (ds ++ es) = true :=
  flatDs_of _ fun d hd => by
    rcases List.mem_append.mp hd with q | q
    · exact flatDs_all h1 d q
    · exact flatDs_all h2 d q
theorem walk_upto {n : Nat} : Walk (Itr 0 n) n (fun _ => True) (YFn fun i => .int ((i : Nat) : Int)) :=
  ⟨fun _ _ hi _ => hi, fun _ _ => Nat.le_refl _, fun i H x H' _ _ y => ⟨y.1, by
    have := y.2
    rw [Int.zero_add] at this
    exact this⟩⟩
/-! ### the same rules where the context is a comprehension's block: K is said -/
section
variable {X : Cx} {K : PySem.W.Frag}
theorem kx_tup (h : X.K = K := by rfl) : IxR X (rIxT K) := by subst h; exact ix_tup
theorem kx_list (h : X.K = K := by rfl) : IxR X (rIxL K) := by subst h; exact ix_list
theorem kx_seq (h : X.K = K := by rfl) : IxR X (rIx K) := by subst h; exact ix_seq
theorem ko_eqD (hu : X.A.units + 64 < cLine) (h : X.K = K := by rfl) : OpR X (compareOp .Eq) (rEqD K) := by subst h; exact op_eqD hu
theorem ko_neD (hu : X.A.units + 64 < cLine) (h : X.K = K := by rfl) : OpR X (compareOp .NotEq) (rNeD K) := by subst h; exact op_neD hu
theorem ko_in (h : X.K = K := by rfl) : OpR X (compareOp .In) (rIn K false) := by subst h; exact op_in_seq
theorem ko_notIn (h : X.K = K := by rfl) : OpR X (compareOp .NotIn) (rIn K true) := by subst h; exact op_notIn_seq
theorem ko_catA (h : X.K = K := by rfl) : OpR X (binaryOp .Add) (rCatA K) := by subst h; exact op_catA
def rLen (K : PySem.W.Frag) : List V → Hp → VK → Prop := fun xs H Q => ∃ p ys, xs = [.ref p] ∧ (SqL K H p ys ∨ SqT K H p ys) ∧ Q (.int ys.length) H
theorem kc_len (h : X.K = K := by rfl) : CallR X (.builtin "len") (rLen K) := by subst h; exact call_len_seq
end
/-- a comprehension whose items are data without lists: R i is the i-th turn's, none if it is left out -/
theorem lc_data {K : PySem.W.Frag} {J : It} {n : Nat} {G : Hp → Prop} {Y : Nat → Hp → V → Hp → Prop} (wk : Walk J n G Y) {g : TG} {tt : TT} {te : TE} {vs : List Nat} {σ : L2.St} {H1 : Hp} {D : Addr} {Qd : Hp → Prop} (R : Nat → Option PyData)
    (hD : H1 D = Option.none) (hn : n ≤ 100000) (hG : ∀ H, Same H1 H → G H) (hfl : ∀ i < n, ∀ d, R i = some d → flatD d = true)
    (hs : ∀ i x H H', i < n → Same H1 H → Y i H x H' → ∀ (Q1 : VK) (Q0 : Hp → Prop), (∀ v H4 d, R i = some d → Same H H4 → Dp K H4 v d → Q1 v H4) → (∀ H3, R i = none → Same H H3 → Q0 H3) →
      g x (wipe σ vs) H' fun σ2 H2 => wipe σ2 vs = wipe σ vs ∧ tt σ2 H2 fun b H3 => if b = true then te σ2 H3 Q1 else Q0 H3)
    (hd : ∀ H acc, Same H1 H → H D = some (.lst acc) → DpAll K H acc ((List.range n).filterMap R) → Qd H) :
    ∃ W : Nat → Nat → Hp → Prop, (∃ m, W 0 m (upd H1 D (.lst []))) ∧ ∀ i m H, W i m H →
      (J.stop i H ∧ Qd H) ∨ (J.go i H ∧ ∃ Nx : Hp → Prop, (∀ H', Nx H' → ∃ m', m' < m ∧ W (i + 1) m' H') ∧ ∀ x H', J.yld i H x H' → g x (wipe σ vs) H' fun σ2 H2 => wipe σ2 vs = wipe σ vs ∧ tt σ2 H2 fun b H3 =>
        if b = true then te σ2 H3 fun y H4 => ∃ acc, H4 D = some (.lst acc) ∧ acc.length < sizeLine ∧ Nx (upd H4 D (.lst (acc ++ [y]))) else Nx H3) := by
  have fl : ∀ i ≤ n, flatDs ((List.range i).filterMap R) = true := fun i hi => flatDs_of _ fun d hd => by
    obtain ⟨j, hj, e⟩ := List.mem_filterMap.mp hd
    exact hfl j (by have := List.mem_range.mp hj; omega) d e
  refine lc_it wk (fun i H => ∃ acc, Same H1 H ∧ H D = some (.lst acc) ∧ DpAll K H acc ((List.range i).filterMap R) ∧ acc.length ≤ i) ⟨[], same_new hD, upd_same, .nil, Nat.le_refl _⟩ (fun i H _ z => ?_) ?_ ?_
  · obtain ⟨acc, s, _⟩ := z
    exact hG H s
  · rintro i x H H' hi ⟨acc, s, hacc, ha, hl⟩ y
    refine hs i x H H' hi s y _ _ (fun v H4 d e s4 hv => ?_) (fun H3 e s3 => ?_)
    · have hD4 := s4 _ _ hacc
      refine ⟨acc, hD4, Nat.lt_of_le_of_lt hl (Nat.lt_of_lt_of_le (show i < 100000 by omega) (by decide)), acc ++ [v], same_put (s.trans s4) hD, upd_same, ?_, by rw [List.length_append]; exact Nat.succ_le_succ hl⟩
      rw [List.range_succ, List.filterMap_append]
      have e1 : ([i].filterMap R) = [d] := by simp [e]
      rw [e1]
      exact DpAll.snoc (dp_keep (fun _ _ q => sqt_put hD4 q) _ _ (hfl i hi d e) hv) (dps_keep (fun _ _ q => sqt_put hD4 q) _ _ (fl i (by omega)) (dps_same s4 _ _ ha))
    · refine ⟨acc, s.trans s3, s3 _ _ hacc, ?_, by omega⟩
      rw [List.range_succ, List.filterMap_append]
      have e1 : ([i].filterMap R) = [] := by simp [e]
      rw [e1, List.append_nil]
      exact dps_same s3 _ _ ha
  · rintro H ⟨acc, s, hacc, ha, _⟩
    exact hd H acc s hacc ha
/-- a comprehension that draws: each item is data that is good -/
theorem lc_draw {K : PySem.W.Frag} {M : Addr → Prop} {J : It} {n : Nat} {G : Hp → Prop} {Y : Nat → Hp → V → Hp → Prop} (wk : Walk J n G Y) {g : TG} {tt : TT} {te : TE} {vs : List Nat} {σ : L2.St} {H1 : Hp} {D : Addr} {Qd : Hp → Prop}
    (I : Hp → Prop) (Gd : PyData → Prop) (hM : ∀ a, M a → ∃ xs, H1 a = some (.lst xs)) (h0 : I (upd H1 D (.lst []))) (hI : ∀ H ys, Kp M H1 H → I H → I (upd H D (.lst ys)))
    (hD : H1 D = Option.none) (hn : n ≤ 100000) (hG : ∀ H, Kp M H1 H → I H → G H) (hfl : ∀ d, Gd d → flatD d = true)
    (hs : ∀ i x H H', i < n → Kp M H1 H → I H → Y i H x H' → ∀ (Q1 : VK) (Q0 : Hp → Prop), (∀ v H4 d, Gd d → Kp M H H4 → I H4 → Dp K H4 v d → Q1 v H4) → (∀ H3, Kp M H H3 → I H3 → Q0 H3) →
      g x (wipe σ vs) H' fun σ2 H2 => wipe σ2 vs = wipe σ vs ∧ tt σ2 H2 fun b H3 => if b = true then te σ2 H3 Q1 else Q0 H3)
    (hd : ∀ H acc ds, Kp M H1 H → I H → H D = some (.lst acc) → DpAll K H acc ds → (∀ d ∈ ds, Gd d) → ds.length ≤ n → Qd H) :
    ∃ W : Nat → Nat → Hp → Prop, (∃ m, W 0 m (upd H1 D (.lst []))) ∧ ∀ i m H, W i m H →
      (J.stop i H ∧ Qd H) ∨ (J.go i H ∧ ∃ Nx : Hp → Prop, (∀ H', Nx H' → ∃ m', m' < m ∧ W (i + 1) m' H') ∧ ∀ x H', J.yld i H x H' → g x (wipe σ vs) H' fun σ2 H2 => wipe σ2 vs = wipe σ vs ∧ tt σ2 H2 fun b H3 =>
        if b = true then te σ2 H3 fun y H4 => ∃ acc, H4 D = some (.lst acc) ∧ acc.length < sizeLine ∧ Nx (upd H4 D (.lst (acc ++ [y]))) else Nx H3) := by
  have nM : ¬ M D := fun m => by
    obtain ⟨xs, e⟩ := hM D m
    rw [hD] at e
    cases e
  refine lc_it wk (fun i H => ∃ acc ds, Kp M H1 H ∧ I H ∧ H D = some (.lst acc) ∧ DpAll K H acc ds ∧ (∀ d ∈ ds, Gd d) ∧ ds.length ≤ i) ⟨[], [], Kp.new hM hD, h0, upd_same, .nil, (by intro d hd; cases hd), Nat.le_refl _⟩ (fun i H _ z => ?_) ?_ ?_
  · obtain ⟨acc, ds, s, iH, _⟩ := z
    exact hG H s iH
  · rintro i x H H' hi ⟨acc, ds, s, iH, hacc, ha, hg, hl⟩ y
    have fl : flatDs ds = true := flatDs_of _ fun d hd => hfl d (hg d hd)
    refine hs i x H H' hi s iH y _ _ (fun v H4 d e s4 i4 hv => ?_) (fun H3 s3 i3 => ?_)
    · have hD4 := s4.st _ _ nM hacc
      refine ⟨acc, hD4, ?_, acc ++ [v], ds ++ [d], (s.trans s4).mut hD, hI _ _ (s.trans s4) i4, upd_same, ?_, ?_, by rw [List.length_append]; exact Nat.succ_le_succ hl⟩
      · rw [DpAll.len ha]
        exact Nat.lt_of_le_of_lt hl (Nat.lt_of_lt_of_le (show i < 100000 by omega) (by decide))
      · exact DpAll.snoc (dp_keep (fun _ _ q => sqt_put hD4 q) _ _ (hfl d e) hv) (dps_keep (fun _ _ q => sqt_put hD4 q) _ _ fl (dps_keep (fun _ _ q => s4.tup q) _ _ fl ha))
      · intro d' hd'
        rcases List.mem_append.mp hd' with q | q
        · exact hg d' q
        · cases List.mem_singleton.mp q
          exact e
    · exact ⟨acc, ds, s.trans s3, i3, s3.st _ _ nM hacc, dps_keep (fun _ _ q => s3.tup q) _ _ fl ha, hg, by omega⟩
  · rintro H ⟨acc, ds, s, iH, hacc, ha, hg, hl⟩
    exact hd H acc ds s iH hacc ha hg hl
/-! ### data that repr takes -/
structure Sm (D W : Nat) (d : PyData) : Prop where
  ok : okD d = true
  dp : d.depth ≤ D
  wt : d.weight ≤ W
theorem Sm.mono {D W D' W' : Nat} {d : PyData} (x : Sm D W d) (h1 : D ≤ D') (h2 : W ≤ W') : Sm D' W' d := ⟨x.ok, Nat.le_trans x.dp h1, Nat.le_trans x.wt h2⟩
theorem sm_int {i : Int} (h : i.natAbs < 10 ^ 12) : Sm 0 64 (.int i) := ⟨by simp only [okD]; exact decide_eq_true h, by simp [PyData.depth], wt_int h⟩
theorem sm_all {D W : Nat} : ∀ {ds : List PyData}, (∀ d ∈ ds, Sm D W d) → okDs ds = true ∧ PyData.depthAll ds ≤ D ∧ PyData.weightAll ds ≤ ds.length * (W + 2)
  | [], _ => ⟨rfl, by simp [PyData.depthAll], by simp [PyData.weightAll]⟩
  | d :: ds, h => by
    have a := h d List.mem_cons_self
    obtain ⟨b1, b2, b3⟩ := sm_all (ds := ds) fun x hx => h x (List.mem_cons_of_mem _ hx)
    refine ⟨by simp [okDs, a.ok, b1], ?_, ?_⟩
    · have := a.dp
      simp only [PyData.depthAll]
      omega
    · have := a.wt
      simp only [PyData.weightAll, List.length_cons, Nat.add_mul]
      omega
theorem Sm.tuple {D W m : Nat} {ds : List PyData} (h : ∀ d ∈ ds, Sm D W d) (hm : ds.length ≤ m) : Sm (D + 1) (m * (W + 2)) (.tuple ds) := by
  obtain ⟨a, b, c⟩ := sm_all h
  refine ⟨by simpa [okD] using a, ?_, ?_⟩
  · simp only [PyData.depth]
    omega
  · simp only [PyData.weight]
    exact Nat.le_trans c (Nat.mul_le_mul_right _ hm)
theorem Sm.rep {K : PySem.W.Frag} {H : Hp} {x : V} {D W : Nat} {d : PyData} {Q : VK} (s : Sm D W d) (h1 : D ≤ 60) (h2 : W ≤ 2 ^ 20) (hd : Rp K H x d) (q : Q (.str d.shown) H) : rRepr K [x] H Q :=
  ⟨x, d, rfl, hd, s.ok, Nat.le_trans s.dp h1, Nat.le_trans s.wt h2, q⟩
theorem sm_kv {D W : Nat} : ∀ {es : List (Int × PyData)}, (∀ e ∈ es, e.1.natAbs < 10 ^ 12 ∧ Sm D W e.2) → okDk (es.map fun e => (PyData.int e.1, e.2)) = true ∧ PyData.depthKv (es.map fun e => (PyData.int e.1, e.2)) ≤ D ∧ PyData.weightKv (es.map fun e => (PyData.int e.1, e.2)) ≤ es.length * (W + 70)
  | [], _ => ⟨rfl, by simp [PyData.depthKv], by simp [PyData.weightKv]⟩
  | e :: es, h => by
    obtain ⟨a1, a⟩ := h e List.mem_cons_self
    obtain ⟨b1, b2, b3⟩ := sm_kv (es := es) fun x hx => h x (List.mem_cons_of_mem _ hx)
    have i := sm_int a1
    refine ⟨by simp [okDk, a.ok, b1, i.ok], ?_, ?_⟩
    · have := a.dp
      have := i.dp
      simp only [List.map_cons, PyData.depthKv]
      omega
    · have := a.wt
      have := i.wt
      simp only [List.map_cons, PyData.weightKv, List.length_cons, Nat.add_mul] at this ⊢
      omega
/-- what repr is asked of -/
def Rok (K : PySem.W.Frag) (H : Hp) (x : V) (d : PyData) : Prop := Rp K H x d ∧ okD d = true ∧ d.depth ≤ 60 ∧ d.weight ≤ 2 ^ 20
theorem Sm.rok {K : PySem.W.Frag} {H : Hp} {x : V} {D W : Nat} {d : PyData} (s : Sm D W d) (h1 : D ≤ 60) (h2 : W ≤ 2 ^ 20) (hd : Rp K H x d) : Rok K H x d :=
  ⟨hd, s.ok, Nat.le_trans s.dp h1, Nat.le_trans s.wt h2⟩
/-- the whole dict of things -/
theorem ThAt.rok {K : PySem.W.Frag} {H : Hp} {d : Addr} {es : List (Int × PyData)} {kvs : List (Key × V)} (x : ThAt K H d es kvs) {n : Nat} (hk : es.map (·.1) = births n) (hn : n ≤ 100) : Rok K H (.ref d) (PyData.dict (es.map fun e => (PyData.int e.1, e.2))) := by
  obtain ⟨a, b, c⟩ := sm_kv (D := 8) (W := 4000) (es := es) fun e he => by
    have m : e.1 ∈ births n := by rw [← hk]; exact List.mem_map.mpr ⟨e, he, rfl⟩
    have := births_mem.mp m
    exact ⟨by omega, ⟨(x.th e he).ok, (x.th e he).dp, (x.th e he).wt⟩⟩
  have hl : es.length = n := by
    have e := congrArg List.length hk
    rw [List.length_map, births_len] at e
    exact e
  refine ⟨.inr ⟨d, kvs, es, rfl, x.at_, x.ks, x.vs, x.fl, rfl⟩, by simpa [okD] using a, ?_, ?_⟩
  · simp only [PyData.depth]
    omega
  · simp only [PyData.weight]
    refine Nat.le_trans c ?_
    rw [hl]
    exact Nat.le_trans (Nat.mul_le_mul_right _ hn) (by decide)
end Cm

/-! defs that may ask repr, called by name where nothing is under repr -/
namespace Cm
open PySem L2 PySem.Spec PyProof.Rows
structure ClG (P : Program) (w : World) (K : PySem.W.Frag) (mg : Str → Option Value) (base : Heap) (k : Nat) (x : Str) (sp : Sp) : Prop where
  ex : ∃ (f : Addr) (fd : FuncData) (ps : List Str), (∀ vs H Q E, sp vs H Q E → vs.length = ps.length) ∧ LawAt P w K mg base k f fd ps sp ∧ mg x = some (.ref f) ∧ PySem.W.keepIn K (.ref f) = true ∧ Binds K fd ps []
section
variable {P : Program} {w : World} {K : PySem.W.Frag} {mg : Str → Option Value} {base : Heap}
theorem clG_of {x : Str} {st : Stmt} {N ps : List Str} {k : Nat} {sp : Sp} (T : At K mg x st ps) (S : FnScope N ps (defScope st))
    (len : ∀ vs H Q E, sp vs H Q E → vs.length = ps.length)
    (hb : ∀ (f : Addr) (cdv : Value) (A : Around) (outer : List Env) (s : Shared) (H : Hp) (vs : List V) (Q : VK) (E : XK), (A.deeper (envOfC x (defScope st) s.heap.objs.size f cdv)).guards = some [] →
      Room k (A.deeper (envOfC x (defScope st) s.heap.objs.size f cdv)) → sp vs H Q E →
      ∃ t, PSs (cxOf CX0 P w K mg base N x (defScope st) f cdv A outer s H E).nox (defBody st) t ∧ t { nx := fun _ H' => Q .non H', rt := Q } (start N vs) H) :
    ClG P w K mg base (k + 1) x sp := by
  obtain ⟨f, fd, F, hm, b⟩ := T.ex
  exact ⟨f, fd, ps, len, lawAt_of F S len fun cdv A outer s H vs Q E hg => hb f cdv A outer s H vs Q E hg, hm, F.kp, b⟩
end
section
variable {X : Cx} {j k : Nat} {x : Str} {sp : Sp} {e : Expr} {es : List Expr} {t : TA} {p pos : Pos}
theorem pe_cG (c : ClG X.prog X.w X.K X.mg X.base k x sp) (hgd : X.A.guards = some []) (hr : Room j X.A) (hk : k ≤ j) (hg : Gl X x) (ha : PA X (e :: es) t)
    (hdb : (x == ("__debug__" : Str)) = false := by decide) (he : starEach (e :: es) X.env = (false, eval e X.env) :: starEach es X.env := by rfl)
    (hpl : (backTo pos (starEach es X.env)).any (·.1) = false := by rfl) : PE X (.Call (.Name x p) (e :: es) [] pos) (tCall sp [] E0 t) := by
  obtain ⟨f, fd, ps, len, F, hm, kp, b⟩ := c.ex
  refine ⟨fun pins s σ H Q I h => ?_⟩
  refine wpAny_Call_Name_kw (ld_glob I hg hm ?_ hdb)
  refine PySem.W.callWith_K (h₀ := X.base) I.ok.mod.kin kp (thn (ha.run pos pins s σ H _ I h) fun us s1 ⟨vs, H1, I1, r, q⟩ => ⟨I1.kIn, ?_⟩) he hpl
  have q' : sp vs H1 Q E0 := by
    have q0 : sp (vs ++ []) H1 Q E0 := q
    rwa [List.append_nil] at q0
  have hl : us.length = ps.length := by rw [← r.length]; exact len _ _ _ _ q'
  have hb := b s1 us I1.kIn (by rw [List.append_nil]; exact hl)
  rw [List.append_nil] at hb
  refine wpAny_call (codeAny_mono (F X.A X.stack s1 H1 ⟨us, []⟩ us vs Q E0 hgd (hr.mono hk) I1.env0 hb r q') fun r s' hq => ?_)
  cases r with
  | error e => exact pass0 pins σ H1 s1 e s' I1 hq
  | ok fl =>
    cases fl with
    | ret u => exact I1.after hq
    | next => exact False.elim hq
    | brk => exact False.elim hq
    | cont => exact False.elim hq
end
/-! ### a walk over a list or a tuple -/
def iSeq (K : PySem.W.Frag) (tl : TE) : TI := fun σ H R => tl σ H fun x H1 => ∃ a, x = .ref a ∧ ((∃ xs, SqL K H1 a xs) ∧ R (Itl K a) H1 ∨ (∃ xs, SqT K H1 a xs) ∧ R (Itt K a) H1)
theorem pi_seq {X : Cx} {tg l : Expr} {tl : TE} (hl : PE X l tl) : PI X tg l (iSeq X.K tl) := by
  refine ⟨fun pins s σ H R I h => ?_⟩
  refine thn (hl.run pins s σ H _ I h) fun v s1 ⟨x, H1, I1, r1, q1⟩ => ?_
  obtain ⟨a, rfl, q1⟩ := q1
  cases r1
  have fp : ∀ b ∈ [s1.heap.objs.size], b = s1.heap.objs.size := fun b hb => by simpa using hb
  rcases q1 with ⟨⟨xs, hq⟩, q⟩ | ⟨⟨xs, hq⟩, q⟩
  · obtain ⟨its, rv, p, hz⟩ := I1.list hq
    refine wpAny_pyIter_list p.isList ?_
    refine ⟨_, _, _, _, H1, rfl, I1.kept (t' := s1.toks) fun b o e => Heap.get?_push_of_some _ e, turn_list a _, ⟨_, Heap.get?_push_size _ rfl, rfl, rfl⟩, fun b hb => ?_, q⟩
    cases fp b hb
    exact I1.fpOk (Nat.le_refl _) (I1.hok.fresh (Nat.le_refl _))
  · obtain ⟨its, rv, p, hz⟩ := I1.tuple hq
    refine wpAny_pyIter_tuple (show s1.heap.IsTuple a its.toArray from p) ?_
    refine ⟨_, _, _, _, H1, rfl, I1.kept (t' := s1.toks) fun b o e => Heap.get?_push_of_some _ e, turn_tuple a _, ⟨_, Heap.get?_push_size _ rfl, rfl, rfl⟩, fun b hb => ?_, q⟩
    cases fp b hb
    exact I1.fpOk (Nat.le_refl _) (I1.hok.fresh (Nat.le_refl _))
theorem ks_tupA {X : Cx} {K : PySem.W.Frag} (h : X.K = K := by rfl) : SlR X (rSlA K) := by subst h; exact sl_tupA
theorem ne_same (x : V) : (!decide (x = x)) = false := by simp
theorem tyx_tup {K : PySem.W.Frag} {H : Hp} {a : Addr} {xs : List V} (h : SqT K H a xs) : TyX K H (.ref a) (.type "tuple") := by
  rcases h with (h | ⟨o, h⟩) | ⟨o, its, n, e, c, _⟩
  · exact .base (.tup h)
  · exact .fTuple h
  · exact .kTuple e c
theorem kit_tup {K : PySem.W.Frag} : PySem.W.kitOne K (.type "tuple") (.type "tuple") = some true := by rfl
end Cm

namespace K00
open PySem L2 Cm
def top (i : Nat) : Stmt := PySem.Challenge.pw_goonagain_k00_whole_texts_read_and_print.main.body.getD i (.Pass ⟨0, 0, 0, 0⟩)
structure Txt (mg : Str → Option Value) : Prop where
  abs : mg "abs" = none
  enumerate : mg "enumerate" = none
  int : mg "int" = none
  isinstance : mg "isinstance" = none
  len : mg "len" = none
  list : mg "list" = none
  min : mg "min" = none
  range : mg "range" = none
  repr : mg "repr" = none
  str : mg "str" = none
  tuple : mg "tuple" = none
section
variable {P : Program} {w : World} {K : PySem.W.Frag} {mg : Str → Option Value} {base : Heap}
-- mix
abbrev s_l_mix : Stmt := top 46
abbrev N_l_mix : List Str := ["_law_number", "_law_turn", "_law_once", "_law_twice"]
theorem sc_l_mix : FnScope N_l_mix ["_law_number", "_law_turn"] (defScope s_l_mix) := ⟨rfl, rfl, rfl, by decide +kernel, rfl, by decide +kernel, by decide +kernel⟩
theorem ok_mix (T : Txt mg) (D : At K mg "_law_mix" s_l_mix ["_law_number", "_law_turn"]) : Cl P w K mg base 1 "_law_mix" spMix := by
  refine cl_of D sc_l_mix (fun vs H Q E h => ?_) fun f cdv A outer s H vs Q E hr h => ?_
  · obtain ⟨a, b, rfl, _⟩ := h
    rfl
  · obtain ⟨a, b, rfl, k⟩ := h
    refine ⟨_, (pss_cons (ps_set (i := 2) sc_l_mix.nd rfl (Or.inl rfl) (pe_op op_mod (pe_callTy call_int1 (by rfl) T.int (by decide +kernel) (pa_cons (pe_op op_add (pe_op op_add (pe_op op_mul (pv 0) pe_int) (pe_op op_mul (pv 1) pe_int)) pe_int) pa_nil)) pe_int))
      (pss_cons (ps_set (i := 3) sc_l_mix.nd rfl (Or.inl rfl) (pe_op op_mod (pe_callTy call_int1 (by rfl) T.int (by decide +kernel) (pa_cons (pe_op op_add (pe_op op_add (pe_op op_mul (pv 2) (pv 2)) (pe_op op_mul (pe_op op_fdiv (pv 2) pe_int) pe_int)) (pe_op op_mul (pv 1) pe_int)) pa_nil)) pe_int))
      (pss_one (ps_ret (pe_op op_fdiv (pe_op op_mod (pe_callTy call_int1 (by rfl) T.int (by decide +kernel) (pa_cons (pe_op op_add (pe_op op_fdiv (pe_op op_mul (pv 3) (pv 3)) pe_int) (pv 2)) pa_nil)) pe_int) pe_int))))), ?_⟩
    refine ⟨_, rfl, _, _, rfl, rfl, .inr (by decide), ?_⟩
    refine ⟨_, rfl, _, _, rfl, rfl, .inr (by decide), ?_⟩
    refine ⟨_, _, rfl, rfl, _, _, rfl, rfl, .inl ⟨_, rfl, _, _, rfl, rfl, (by show (0 : Int) < _; decide), ?_⟩⟩
    generalize hx : (a * 48271 + b * 16807 + 11) % 2147483647 = x
    have x0 : 0 ≤ x := by omega
    have x1 : x < 2147483647 := by omega
    clear hx
    refine ⟨_, rfl, _, rfl, _, _, rfl, rfl, .inl ⟨by omega, by omega⟩, ?_⟩
    refine ⟨_, rfl, _, _, rfl, rfl, ⟨by decide, by decide⟩, _, _, rfl, rfl, .inr (by decide), ?_⟩
    refine ⟨_, _, rfl, rfl, _, rfl, _, _, rfl, rfl, .inr (by decide), _, _, rfl, rfl, .inl ⟨_, rfl, _, _, rfl, rfl, (by show (0 : Int) < _; decide), ?_⟩⟩
    generalize hy : (x * x + x / 127 * 40692 + b * 69621) % 2147483399 = y
    have y0 : 0 ≤ y := by omega
    have y1 : y < 2147483399 := by omega
    clear hy
    refine ⟨_, rfl, _, rfl, _, _, rfl, rfl, .inl ⟨by omega, by omega⟩, _, _, rfl, rfl, ⟨by decide, by decide⟩, ?_⟩
    refine ⟨_, rfl, _, _, rfl, rfl, .inl ⟨_, rfl, _, _, rfl, rfl, (by show (0 : Int) < _; decide), _, _, rfl, rfl, ⟨by decide, by decide⟩, ?_⟩⟩
    exact k _
-- hand
abbrev s_l_hand : Stmt := top 47
abbrev N_l_hand : List Str := ["_law_script", "_law_total", "_law_k", "_law_cell"]
theorem sc_l_hand : FnScope N_l_hand ["_law_script"] (defScope s_l_hand) := ⟨rfl, rfl, rfl, by decide +kernel, rfl, by decide +kernel, by decide +kernel⟩
theorem ok_hand (T : Txt mg) (D : At K mg "_law_hand" s_l_hand ["_law_script"]) : Cl P w K mg base 1 "_law_hand" (spHand K) := by
  refine cl_of D sc_l_hand (fun vs H Q E h => ?_) fun f cdv A outer s H vs Q E hr h => ?_
  · obtain ⟨a, ns, rfl, _⟩ := h
    rfl
  · obtain ⟨a, ns, rfl, hS, hlen, k⟩ := h
    refine ⟨_, (pss_cons (ps_set (i := 1) sc_l_hand.nd rfl (Or.inl rfl) pe_int)
      (pss_cons (ps_for PassesOwn.never rfl (pi_enum (by rfl) T.enumerate (pa_cons (pv 0) pa_nil)) (pg_tup (by rfl) (pgs_cons (pg_name (i := 2) sc_l_hand.nd rfl (Or.inl rfl)) (pgs_cons (pg_name (i := 3) sc_l_hand.nd rfl (Or.inl rfl)) pgs_nil)))
        (pss_one (ps_set (i := 1) sc_l_hand.nd rfl (Or.inl rfl) (pe_op op_mod (pe_callTy call_int1 (by rfl) T.int (by decide +kernel) (pa_cons (pe_op op_add (pe_op op_mul (pv 1) pe_int) (pe_op op_mul (pe_callTy call_int1 (by rfl) T.int (by decide +kernel) (pa_cons (pv 3) pa_nil)) (pe_op op_add (pv 2) pe_int))) pa_nil)) pe_int))))
      (pss_one (ps_ret (pe_lst (pa_cons (pe_lc (own := [("_law_cell", 3)]) rfl sc_l_hand.nd (pi_list (pv 0)) (blkOk_by (N := N_l_hand) (sc := defScope s_l_hand) (by decide +kernel))
      (fun _ _ _ _ _ => (pg_name (i := 3) sc_l_hand.nd rfl (Or.inl rfl)))
      (fun _ _ _ _ _ => pts_nil)
      (fun _ _ _ _ _ => (pe_callB call_abs (by rfl) T.abs (by decide +kernel) (pa_cons (pe_callTy call_int1 (by rfl) T.int (by decide +kernel) (pa_cons (pv 3) pa_nil)) pa_nil)))) (pa_cons pe_int (pa_cons pe_int (pa_cons (pv 1) pa_nil))))))))), ?_⟩
    refine ⟨_, rfl, a, _, rfl, hS, ?_⟩
    refine for_it (walk_enum (xs := ns.map V.int)) (fun i σ H' => ∃ (t : Int) (v2 v3 : Option V), σ = [some (.ref a), some (.int t), v2, v3] ∧ Same H H') ⟨0, none, none, rfl, Same.refl H⟩ (fun i σ H' _ z => ?_) ?_ ?_
    · obtain ⟨t, v2, v3, rfl, s1⟩ := z
      exact s1.seq hS
    · rintro i x σ H1 H2 hi ⟨t, v2, v3, rfl, s1⟩ ⟨T1, x1, x2, rfl, hT, rfl, e1, e2⟩
      cases e1
      obtain ⟨n, en, rfl⟩ := map_at e2
      refine ⟨T1, _, rfl, .inl (.inl upd_same), rfl, _, _, rfl, _, _, rfl, rfl, ?_⟩
      refine ⟨_, rfl, _, _, rfl, rfl, .inr (by decide), _, rfl, .inl ⟨_, rfl, ?_⟩⟩
      refine ⟨_, rfl, _, _, rfl, rfl, _, _, rfl, rfl, .inr ⟨?_, ?_⟩, ?_⟩
      · rw [List.length_map] at hi
        omega
      · rw [List.length_map] at hi
        omega
      refine ⟨_, _, rfl, rfl, .inl ⟨_, rfl, _, _, rfl, rfl, (by show (0 : Int) < _; decide), ?_⟩⟩
      exact ⟨_, _, _, rfl, s1.trans (same_new hT)⟩
    · rintro σ H1 ⟨t, v2, v3, rfl, s1⟩
      refine ⟨_, rfl, a, rfl, ⟨_, s1.seq hS⟩, fun D hD => ?_⟩
      refine lc_it (walk_list (xs := ns.map V.int)) (fun i H' => ∃ acc : List Int, Same H1 H' ∧ H' D = some (.lst (acc.map V.int)) ∧ acc.length = i) ⟨[], same_new hD, upd_same, rfl⟩ (fun i H' _ z => ?_) ?_ ?_
      · obtain ⟨acc, s2, _⟩ := z
        exact (s1.trans s2).seq hS
      · rintro i x H2 H3 hi ⟨acc, s2, hacc, hl⟩ ⟨rfl, e2⟩
        obtain ⟨n, en, rfl⟩ := map_at e2
        rw [List.length_map] at hi
        refine ⟨rfl, ?_⟩
        refine ⟨_, rfl, .inl ⟨_, rfl, _, rfl, _, hacc, ?_, ?_⟩⟩
        · rw [List.length_map]
          exact Nat.lt_of_lt_of_le (show acc.length < 63 by omega) (by decide)
        · refine ⟨acc ++ [if n < 0 then -n else n], fun b o e => ?_, ?_, ?_⟩
          · have hb : b ≠ D := ne_of_none e hD
            rw [upd_ne hb]
            exact s2 b o e
          · rw [upd_same, List.map_append]
            rfl
          · rw [List.length_append, hl]
            rfl
      · rintro H2 ⟨acc, s2, hacc, hl⟩
        refine ⟨_, rfl, by show 4 ≤ sizeLine; decide, fun p hp => ?_⟩
        rw [List.length_map] at hl
        have npD : D ≠ p := ne_of_none hacc hp
        refine k p D _ ((s1.trans s2).trans (same_new hp)) ((s1.trans s2).free hp) (s1.free hD) ⟨acc, _, _, _, upd_same, ?_, npD, Int.le_refl 0, by omega⟩
        rw [upd_ne npD]
        exact hacc
end
section
variable {P : Program} {w : World} {K : PySem.W.Frag} {mg : Str → Option Value} {base : Heap}
abbrev s_l_draw : Stmt := top 48
abbrev N_l_draw : List Str := ["_law_hand_here", "_law_many", "_law_cell", "_law_rest"]
theorem sc_l_draw : FnScope N_l_draw ["_law_hand_here", "_law_many"] (defScope s_l_draw) := ⟨rfl, rfl, rfl, by decide +kernel, rfl, by decide +kernel, by decide +kernel⟩
theorem ok_draw (T : Txt mg) (c_l_mix : Cl P w K mg base 1 "_law_mix" spMix) (D : At K mg "_law_draw" s_l_draw ["_law_hand_here", "_law_many"]) : Cl P w K mg base 2 "_law_draw" spDraw := by
  refine cl_of D sc_l_draw (fun vs H Q E h => ?_) fun f cdv A outer s H vs Q E hr h => ?_
  · obtain ⟨h, c, m, rfl, _⟩ := h
    rfl
  · obtain ⟨h, c, m, rfl, ⟨cells, i, b, t, e1, e2, nch, hi, hlen⟩, hm0, hm1, k⟩ := h
    refine ⟨_, (pss_mid (ps_if (PW.pt (pw_and (pt_cmpR op_eq (pe_ix ix_list (pv 0) pe_int (fun _ _ => rfl)) pe_int (nomark _)) (pw_and1 (pt_cmpR op_lt (pe_ix ix_list (pv 0) pe_int (fun _ _ => rfl)) (pe_callB call_len_seq (by rfl) T.len (by decide +kernel) (pa_cons (pe_ix ix_list (pv 0) pe_int (fun _ _ => rfl)) pa_nil)) (nomark _)))))
        (pss_cons (ps_set (i := 2) sc_l_draw.nd rfl (Or.inl rfl) (pe_ix ix_list (pe_ix ix_list (pv 0) pe_int (fun _ _ => rfl)) (pe_ix ix_list (pv 0) pe_int (fun _ _ => rfl)) (fun _ _ => rfl)))
        (pss_cons (ps_asg (pe_op op_add (pe_ix ix_list (pv 0) pe_int (fun _ _ => rfl)) pe_int) (pg_sub (pv 0) pe_int set_list))
        (pss_cons (ps_if (pt_cmpR op_lt (pv 2) (pe_op op_pow pe_int pe_int) (nomark _))
          (pss_one (ps_ret (pe_op op_mod (pe_callTy call_int1 (by rfl) T.int (by decide +kernel) (pa_cons (pe_c c_l_mix hr (by decide) (by rfl) (pa_cons (pe_op op_mod (pe_callTy call_int1 (by rfl) T.int (by decide +kernel) (pa_cons (pv 2) pa_nil)) pe_int) (pa_cons (pe_ix ix_list (pv 0) pe_int (fun _ _ => rfl)) pa_nil))) pa_nil)) (pv 1))))
          pss_nil)
        (pss_one (ps_asg (pv 2) (pg_sub (pv 0) pe_int set_list))))))
        pss_nil)
      (pss_cons (ps_if (pt_cmpR op_gt (pe_ix ix_list (pv 0) pe_int (fun _ _ => rfl)) pe_int (nomark _))
        (pss_cons (ps_set (i := 3) sc_l_draw.nd rfl (Or.inl rfl) (pe_ix ix_list (pv 0) pe_int (fun _ _ => rfl)))
        (pss_cons (ps_asg (pe_op op_fdivW (pv 3) (pv 1)) (pg_sub (pv 0) pe_int set_list))
        (pss_one (ps_ret (pe_op op_mod (pe_callTy call_int1 (by rfl) T.int (by decide +kernel) (pa_cons (pv 3) pa_nil)) (pv 1))))))
        pss_nil)
      (pss_cons (ps_asg (pe_op op_mod (pe_callTy call_int1 (by rfl) T.int (by decide +kernel) (pa_cons (pe_op op_add (pe_ix ix_list (pv 0) pe_int (fun _ _ => rfl)) pe_int) pa_nil)) pe_int) (pg_sub (pv 0) pe_int set_list))
      (pss_one (ps_ret (pe_op op_mod (pe_callTy call_int1 (by rfl) T.int (by decide +kernel) (pa_cons (pe_c c_l_mix hr (by decide) (by rfl) (pa_cons (pe_ix ix_list (pv 0) pe_int (fun _ _ => rfl)) (pa_cons (pe_ix ix_list (pv 0) pe_int (fun _ _ => rfl)) pa_nil))) pa_nil)) (pv 1))))))), ?_⟩
    have big : CDivW b m := wide_div (b := 100) hm0 (by omega) (by decide) (by decide)
    have kh0 : ∀ {ys : List V}, Kh h H (upd H h (.lst ys)) := Kp.put (fun a ha => by rw [ha]; exact ⟨_, e1⟩) rfl
    refine ⟨fun σ' H' => ∃ (i b t : Int) (v2 v3 : Option V), σ' = [some (.ref h), some (.int m), v2, v3] ∧ Kh h H H' ∧ H' h = some (.lst [.ref c, .int i, .int b, .int t]) ∧ H' c = some (.lst (cells.map V.int)) ∧ 0 ≤ i, ?_, ?_⟩
    · refine ⟨_, rfl, _, _, _, _, rfl, rfl, .inl (.inl e1), rfl, rfl, _, rfl, ?_⟩
      refine ite2 (fun _ => ?_) (fun _ => ?_)
      · refine ⟨_, rfl, _, _, _, _, rfl, rfl, .inl (.inl e1), rfl, _, rfl, _, _, _, _, rfl, rfl, .inl (.inl e1), rfl, c, _, rfl, .inl (.inl (.inl e2)), _, _, rfl, rfl, _, rfl, ?_⟩
        refine ite2 (fun hlt => ?_) (fun _ => ?_)
        · have hlt' : i < (cells.length : Int) := by
            have := of_decide_eq_true hlt
            rw [List.length_map] at this
            exact this
          obtain ⟨j, rfl⟩ : ∃ j : Nat, i = (j : Int) := ⟨i.toNat, by omega⟩
          have hj : j < cells.length := by omega
          have hat : atI (cells.map V.int) (j : Int) = some (.int cells[j]) := atI_nat (by rw [List.getElem?_map, List.getElem?_eq_getElem hj]; rfl)
          refine ⟨_, rfl, _, _, _, _, rfl, rfl, .inl (.inl e1), rfl, _, rfl, _, _, _, _, rfl, rfl, .inl (.inl e1), rfl, c, _, _, _, rfl, rfl, .inl (.inl e2), hat, ?_⟩
          refine ⟨_, rfl, _, _, _, _, rfl, rfl, .inl (.inl e1), rfl, _, _, rfl, rfl, _, rfl, h, _, _, 1, rfl, rfl, e1, rfl, ?_⟩
          have e2' : upd H h (.lst [.ref c, .int ((j : Int) + 1), .int b, .int t]) c = some (.lst (cells.map V.int)) := by rw [upd_ne nch]; exact e2
          refine ⟨_, rfl, _, _, rfl, rfl, ⟨by decide, by decide, by decide⟩, _, _, rfl, rfl, _, rfl, ?_⟩
          refine ite2 (fun _ => ?_) (fun _ => ?_)
          · refine ⟨_, rfl, .inl ⟨_, rfl, _, _, rfl, rfl, (by show (0 : Int) < _; decide), _, rfl, _, _, _, _, rfl, rfl, .inl (.inl upd_same), rfl, ?_⟩⟩
            refine ⟨_, _, rfl, fun n => .inl ⟨_, rfl, _, rfl, _, _, rfl, rfl, hm0, ?_⟩⟩
            exact k _ _ (Int.emod_nonneg _ (by omega)) (Int.emod_lt_of_pos _ hm0) kh0 ⟨cells, _, _, _, upd_same, e2', nch, by omega, hlen⟩
          · refine ⟨_, rfl, _, rfl, h, _, _, 2, rfl, rfl, upd_same, rfl, ?_⟩
            rw [upd_upd]
            exact ⟨_, _, _, _, _, rfl, kh0, upd_same, by rw [upd_ne nch]; exact e2, by omega⟩
        · exact ⟨i, b, t, _, _, rfl, Kp.refl (fun a ha => by rw [ha]; exact ⟨_, e1⟩), e1, e2, hi⟩
      · exact ⟨i, b, t, _, _, rfl, Kp.refl (fun a ha => by rw [ha]; exact ⟨_, e1⟩), e1, e2, hi⟩
    · rintro σ' H' ⟨i, b, t, v2, v3, rfl, kh, e1, e2, hi⟩
      have kh1 : ∀ {ys : List V}, Kh h H (upd H' h (.lst ys)) := kh.trans (Kp.put (fun a ha => by rw [ha]; exact ⟨_, e1⟩) rfl)
      refine ⟨_, rfl, _, _, _, _, rfl, rfl, .inl (.inl e1), rfl, _, _, rfl, rfl, _, rfl, ?_⟩
      refine ite2 (fun _ => ?_) (fun _ => ?_)
      · refine ⟨_, rfl, _, _, _, _, rfl, rfl, .inl (.inl e1), rfl, _, rfl, _, rfl, _, _, rfl, rfl, big, _, rfl, h, _, _, 2, rfl, rfl, e1, rfl, ?_⟩
        refine ⟨_, rfl, .inl ⟨_, rfl, _, rfl, _, _, rfl, rfl, hm0, ?_⟩⟩
        exact k _ _ (Int.emod_nonneg _ (by omega)) (Int.emod_lt_of_pos _ hm0) kh1 ⟨cells, _, _, _, upd_same, by rw [upd_ne nch]; exact e2, nch, hi, hlen⟩
      · refine ⟨_, rfl, _, _, _, _, rfl, rfl, .inl (.inl e1), rfl, _, _, rfl, rfl, .inl ⟨_, rfl, _, _, rfl, rfl, (by show (0 : Int) < _; decide), _, rfl, h, _, _, 3, rfl, rfl, e1, rfl, ?_⟩⟩
        refine ⟨_, rfl, _, _, _, _, rfl, rfl, .inl (.inl upd_same), rfl, _, rfl, _, _, _, _, rfl, rfl, .inl (.inl upd_same), rfl, ?_⟩
        refine ⟨_, _, rfl, fun n => .inl ⟨_, rfl, _, rfl, _, _, rfl, rfl, hm0, ?_⟩⟩
        exact k _ _ (Int.emod_nonneg _ (by omega)) (Int.emod_lt_of_pos _ hm0) kh1 ⟨cells, _, _, _, upd_same, by rw [upd_ne nch]; exact e2, nch, hi, hlen⟩
end
section
variable {P : Program} {w : World} {K : PySem.W.Frag} {mg : Str → Option Value} {base : Heap}
abbrev s_l_pick : Stmt := top 49
abbrev N_l_pick : List Str := ["_law_hand_here", "_law_things"]
theorem sc_l_pick : FnScope N_l_pick ["_law_hand_here", "_law_things"] (defScope s_l_pick) := ⟨rfl, rfl, rfl, by decide +kernel, rfl, by decide +kernel, by decide +kernel⟩
theorem ok_pick (T : Txt mg) (c_l_draw : Cl P w K mg base 2 "_law_draw" spDraw) (D : At K mg "_law_pick" s_l_pick ["_law_hand_here", "_law_things"]) : Cl P w K mg base 3 "_law_pick" (spPick K) := by
  refine cl_of D sc_l_pick (fun vs H Q E h => ?_) fun f cdv A outer s H vs Q E hr h => ?_
  · obtain ⟨h, c, a, xs, rfl, _⟩ := h
    rfl
  · obtain ⟨h, c, a, xs, rfl, hh, hx, hne, hlen, k⟩ := h
    have hpos : 0 < xs.length := List.length_pos_iff.mpr hne
    refine ⟨_, (pss_one (ps_ret (pe_ix ix_seq (pv 1) (pe_c c_l_draw hr (by decide) (by rfl) (pa_cons (pv 0) (pa_cons (pe_callB call_len_seq (by rfl) T.len (by decide +kernel) (pa_cons (pv 1) pa_nil)) pa_nil))) (fun _ _ => rfl)))), ?_⟩
    refine ⟨_, rfl, _, rfl, _, rfl, a, xs, rfl, ?_, h, c, _, rfl, hh, by omega, Int.lt_of_le_of_lt (show (xs.length : Int) ≤ 1000 by omega) (by decide), fun n H1 h0 h1 kh hh1 => ?_⟩
    · rcases hx with hx | hx
      · exact .inl hx.1
      · exact .inr hx
    · obtain ⟨j, rfl⟩ : ∃ j : Nat, n = (j : Int) := ⟨n.toNat, by omega⟩
      have hj : j < xs.length := by omega
      have hat : atI xs (j : Int) = some xs[j] := atI_nat (List.getElem?_eq_getElem hj)
      rcases hx with ⟨hx, hn⟩ | hx
      · refine .inl ⟨a, xs, _, _, rfl, rfl, ?_, hat, k _ _ (List.getElem_mem hj) kh hh1⟩
        rcases hx with (q | ⟨o, q⟩) | q
        · exact .inl (.inl (kh.st _ _ hn q))
        · exact .inl (.inr ⟨o, kh.st _ _ hn q⟩)
        · exact .inr q
      · exact .inr (.inl ⟨a, xs, _, _, rfl, rfl, kh.tup hx, hat, k _ _ (List.getElem_mem hj) kh hh1⟩)
end
end K00

/-! a for over a list or a tuple, as one -/
namespace Cm
open PySem L2 PySem.Spec PyProof.Rows
theorem for_seq {K : PySem.W.Frag} {tl : TE} {g : TG} {tb : TS} {D : Ends} {σ : L2.St} {H Hb : Hp} {a : Addr} {xs : List V} (ht : ∀ Q : VK, Q (.ref a) H → tl σ H Q) (ha : SqL K Hb a xs ∨ SqT K Hb a xs)
    (Pv : Nat → L2.St → Hp → Prop) (h0 : Pv 0 σ H) (hG : ∀ i σ H', Pv i σ H' → Same Hb H')
    (hs : ∀ i x σ H1, i < xs.length → Pv i σ H1 → xs[i]? = some x → g x σ H1 fun σ2 H2 => tb { D with nx := Pv (i + 1), ct := Pv (i + 1), bk := D.nx } σ2 H2) (hd : ∀ σ H1, Pv xs.length σ H1 → D.nx σ H1) :
    tFor (iSeq K tl) g tb D σ H := by
  refine ht _ ⟨a, rfl, ?_⟩
  rcases ha with ha | ha
  · refine .inl ⟨⟨_, (hG _ _ _ h0).seq ha⟩, for_it (walk_list (xs := xs)) Pv h0 (fun i σ H' hi z => (hG i σ H' z).seq ha) (fun i x σ H1 H2 hi z y => ?_) hd⟩
    obtain ⟨rfl, e⟩ := y
    exact hs i x σ _ hi z e
  · refine .inr ⟨⟨_, sqt_same (hG _ _ _ h0) ha⟩, for_it (walk_tup (xs := xs)) Pv h0 (fun i σ H' hi z => sqt_same (hG i σ H' z) ha) (fun i x σ H1 H2 hi z y => ?_) hd⟩
    obtain ⟨rfl, e⟩ := y
    exact hs i x σ _ hi z e
end Cm

/-! trees of forms: a head and its parts; how they lie in tuples -/
namespace Cm
open PySem L2 PySem.Spec PyProof.Rows
inductive Hd where
  | num (i : Int)
  | name (x : Str)
  | lit (w : Str)
  | one (w x : Str)
  | fn (xs : List Str)
  | bind (w : Str) (xs : List Str)
  | doo
  | call
  | op (o : Str)
  | plain (w : Str)
inductive Tr where
  | mk (h : Hd) (ps : List Tr)
def encs (xs : List Str) : PyData := .tuple (xs.map PyData.str)
def rowD (p : Str × PyData) : PyData := .tuple [.str p.1, p.2]
def encH : Hd → List PyData → PyData
  | .num i, _ => .tuple [.str "number", .int i]
  | .name x, _ => .tuple [.str "name", .str x]
  | .lit w, _ => .tuple [.str w]
  | .one w x, ds => .tuple (.str w :: .str x :: ds)
  | .fn xs, ds => .tuple (.str "fn" :: encs xs :: ds)
  | .bind w xs, ds => .tuple (.str w :: .tuple ((xs.zip ds).map rowD) :: ds.drop xs.length)
  | .doo, ds => .tuple [.str "do", .tuple ds]
  | .call, ds => .tuple (.str "call" :: (ds.take 1 ++ [.tuple (ds.drop 1)]))
  | .op o, ds => .tuple [.str "op", .str o, .tuple ds]
  | .plain w, ds => .tuple (.str w :: ds)
mutual
def Tr.enc : Tr → PyData
  | .mk h ps => encH h (Tr.encL ps)
def Tr.encL : List Tr → List PyData
  | [] => []
  | t :: ts => t.enc :: Tr.encL ts
end
mutual
def Tr.dep : Tr → Nat
  | .mk _ ps => Tr.deps ps + 1
def Tr.deps : List Tr → Nat
  | [] => 0
  | t :: ts => max t.dep (Tr.deps ts)
end
def litW : List Str := ["true", "false", "none", "ask"]
def oneW : List Str := ["set", "keep", "once", "take"]
def bindW : List Str := ["let", "rec"]
def plainW : List Str := ["if", "mark", "wind", "show"]
abbrev sok (x : Str) : Prop := PyData.strOk x = true
def hok : Hd → Nat → Prop
  | .num _, n => n = 0
  | .name x, n => n = 0 ∧ sok x
  | .lit w, n => n = 0 ∧ w ∈ litW
  | .one w x, n => n = 1 ∧ w ∈ oneW ∧ sok x
  | .fn xs, n => n = 1 ∧ xs.length ≤ 100 ∧ ∀ x ∈ xs, sok x
  | .bind w xs, n => n = xs.length + 1 ∧ w ∈ bindW ∧ ∀ x ∈ xs, sok x
  | .doo, _ => True
  | .call, n => 1 ≤ n
  | .op o, _ => sok o
  | .plain w, _ => w ∈ plainW
mutual
def Tr.ok : Tr → Prop
  | .mk h ps => hok h ps.length ∧ ps.length ≤ 11 ∧ Tr.oks ps
def Tr.oks : List Tr → Prop
  | [] => True
  | t :: ts => t.ok ∧ Tr.oks ts
end
theorem encL_map : ∀ ps : List Tr, Tr.encL ps = ps.map Tr.enc
  | [] => rfl
  | t :: ts => by
    show t.enc :: Tr.encL ts = _
    rw [encL_map ts]
    rfl
theorem encL_len (ps : List Tr) : (Tr.encL ps).length = ps.length := by rw [encL_map, List.length_map]
theorem deps_le {n : Nat} : ∀ {ps : List Tr}, Tr.deps ps ≤ n ↔ ∀ t ∈ ps, t.dep ≤ n
  | [] => by simp [Tr.deps]
  | t :: ts => by
    have := deps_le (n := n) (ps := ts)
    show max t.dep (Tr.deps ts) ≤ n ↔ _
    rw [Nat.max_le, this]
    simp
theorem oks_iff : ∀ {ps : List Tr}, Tr.oks ps ↔ ∀ t ∈ ps, t.ok
  | [] => by simp [Tr.oks]
  | t :: ts => by
    show t.ok ∧ Tr.oks ts ↔ _
    rw [oks_iff]
    simp
theorem dep_mk {h : Hd} {ps : List Tr} {n : Nat} : (Tr.mk h ps).dep ≤ n + 1 ↔ ∀ t ∈ ps, t.dep ≤ n := by
  show Tr.deps ps + 1 ≤ n + 1 ↔ _
  rw [← deps_le]
  omega
/-- trees by their depth -/
theorem tr_ind {P : Tr → Prop} (h : ∀ hd ps, (∀ t ∈ ps, P t) → P (.mk hd ps)) (t : Tr) : P t := by
  have key : ∀ n, ∀ t : Tr, t.dep ≤ n → P t := by
    intro n
    induction n with
    | zero =>
      intro t ht
      cases t with
      | mk hd ps => exact absurd ht (by show ¬ (Tr.deps ps + 1 ≤ 0); omega)
    | succ n ih =>
      intro t ht
      cases t with
      | mk hd ps => exact h hd ps fun t m => ih t (dep_mk.mp ht t m)
  exact key t.dep t (Nat.le_refl _)
theorem flat_strs (xs : List Str) : flatDs (xs.map PyData.str) = true := flatDs_of _ fun d hd => by
  obtain ⟨x, _, rfl⟩ := List.mem_map.mp hd
  rfl
theorem flat_encH {h : Hd} {ds : List PyData} (f : flatDs ds = true) : flatD (encH h ds) = true := by
  have fd := flatDs_all f
  cases h with
  | num i => rfl
  | name x => rfl
  | lit w => rfl
  | one w x => show flatDs (_ :: _ :: ds) = true; simpa [flatDs, flatD] using f
  | fn xs => show flatDs (_ :: encs xs :: ds) = true; simp [flatDs, flatD, encs, flat_strs, f]
  | bind w xs =>
    show flatDs (_ :: _ :: ds.drop xs.length) = true
    have h1 : flatDs (ds.drop xs.length) = true := flatDs_of _ fun d hd => fd d (List.mem_of_mem_drop hd)
    have h2 : flatDs ((xs.zip ds).map rowD) = true := flatDs_of _ fun d hd => by
      obtain ⟨p, hp, rfl⟩ := List.mem_map.mp hd
      have := fd p.2 (List.of_mem_zip (show (p.1, p.2) ∈ xs.zip ds from hp)).2
      simp [rowD, flatD, flatDs, this]
    simp [flatDs, flatD, h1, h2]
  | doo => show flatDs [_, .tuple ds] = true; simp [flatDs, flatD, f]
  | call =>
    show flatDs (_ :: (ds.take 1 ++ [.tuple (ds.drop 1)])) = true
    refine flatDs_of _ fun d hd => ?_
    rcases List.mem_cons.mp hd with rfl | hd
    · rfl
    rcases List.mem_append.mp hd with hd | hd
    · exact fd d (List.mem_of_mem_take hd)
    · cases List.mem_singleton.mp hd
      show flatDs (ds.drop 1) = true
      exact flatDs_of _ fun d hd => fd d (List.mem_of_mem_drop hd)
  | op o => show flatDs [_, _, .tuple ds] = true; simp [flatDs, flatD, f]
  | plain w => show flatDs (_ :: ds) = true; simpa [flatDs, flatD] using f
theorem flat_enc (t : Tr) : flatD t.enc = true := by
  refine tr_ind (P := fun t => flatD t.enc = true) (fun hd ps ih => ?_) t
  show flatD (encH hd (Tr.encL ps)) = true
  refine flat_encH (flatDs_of _ fun d hd => ?_)
  rw [encL_map] at hd
  obtain ⟨t, m, rfl⟩ := List.mem_map.mp hd
  exact ih t m
theorem flat_encL (ps : List Tr) : flatDs (Tr.encL ps) = true := flatDs_of _ fun d hd => by
  rw [encL_map] at hd
  obtain ⟨t, m, rfl⟩ := List.mem_map.mp hd
  exact flat_enc t
/-! ### that trees can be compared -/
theorem layAll_of : ∀ {ds : List PyData}, (∀ d ∈ ds, PyData.canLay0 d = true) → PyData.canLayAll0 ds = true
  | [], _ => rfl
  | d :: ds, h => by
    show (PyData.canLay0 d && PyData.canLayAll0 ds) = true
    rw [h d List.mem_cons_self, layAll_of fun x hx => h x (List.mem_cons_of_mem _ hx)]
    rfl
theorem depAll_le {n : Nat} : ∀ {ds : List PyData}, (∀ d ∈ ds, d.depth ≤ n) → PyData.depthAll ds ≤ n
  | [], _ => by simp [PyData.depthAll]
  | d :: ds, h => by
    have h1 := h d List.mem_cons_self
    have h2 := depAll_le (ds := ds) fun x hx => h x (List.mem_cons_of_mem _ hx)
    simp only [PyData.depthAll]
    omega
theorem lay_tup {ds : List PyData} (h : ∀ d ∈ ds, PyData.canLay0 d = true) : PyData.canLay0 (.tuple ds) = true := layAll_of h
theorem dep_tup {ds : List PyData} {n : Nat} (h : ∀ d ∈ ds, d.depth ≤ n) : PyData.depth (.tuple ds) ≤ n + 1 := by
  have := depAll_le h
  simp only [PyData.depth]
  omega
theorem dep0_str (x : Str) (n : Nat) : PyData.depth (.str x) ≤ n := by simp [PyData.depth]
theorem dep0_int (x : Int) (n : Nat) : PyData.depth (.int x) ≤ n := by simp [PyData.depth]
/-- a text that may stand in data, and how deep data is -/
structure Lay (n : Nat) (d : PyData) : Prop where
  lay : PyData.canLay0 d = true
  dep : d.depth ≤ n
theorem Lay.mono {n m : Nat} {d : PyData} (h : Lay n d) (k : n ≤ m) : Lay m d := ⟨h.lay, Nat.le_trans h.dep k⟩
theorem Lay.str {x : Str} (h : sok x) (n : Nat) : Lay n (.str x) := ⟨h, dep0_str x n⟩
theorem Lay.int (i : Int) (n : Nat) : Lay n (.int i) := ⟨rfl, dep0_int i n⟩
theorem Lay.tup {n : Nat} {ds : List PyData} (h : ∀ d ∈ ds, Lay n d) : Lay (n + 1) (.tuple ds) := ⟨lay_tup fun d m => (h d m).lay, dep_tup fun d m => (h d m).dep⟩
theorem Lay.lst {n : Nat} {ds : List PyData} (h : ∀ d ∈ ds, Lay n d) : Lay (n + 1) (.list ds) := by
  have h1 : PyData.canLay0 (.list ds) = true := layAll_of fun d m => (h d m).lay
  have h2 := depAll_le fun d m => (h d m).dep
  refine ⟨h1, ?_⟩
  simp only [PyData.depth]
  omega
theorem Lay.sh {n : Nat} {d : PyData} (h : Lay n d) (k : n ≤ 64) : SeqAt.shaped d = true := by
  unfold SeqAt.shaped
  rw [h.lay, decide_eq_true (Nat.le_trans h.dep k)]
  rfl
theorem words_sok : ∀ w ∈ litW ++ oneW ++ bindW ++ plainW, sok w := by
  intro w hw
  unfold litW oneW bindW plainW at hw
  simp only [List.cons_append, List.nil_append, List.mem_cons, List.not_mem_nil, or_false] at hw
  rcases hw with rfl | rfl | rfl | rfl | rfl | rfl | rfl | rfl | rfl | rfl | rfl | rfl | rfl | rfl <;> decide +kernel
theorem mem4 {α : Type} {P : α → Prop} {a b c d : α} (ha : P a) (hb : P b) (hc : P c) (hd : P d) : ∀ x ∈ [a, b, c, d], P x := by
  intro x hx
  simp only [List.mem_cons, List.not_mem_nil, or_false] at hx
  rcases hx with rfl | rfl | rfl | rfl <;> assumption
theorem lay_strs {xs : List Str} (h : ∀ x ∈ xs, sok x) (n : Nat) : Lay (n + 1) (encs xs) := Lay.tup fun d hd => by
  obtain ⟨x, m, rfl⟩ := List.mem_map.mp hd
  exact .str (h x m) n
theorem lay_encH {h : Hd} {ds : List PyData} {n : Nat} (o : hok h ds.length) (f : ∀ d ∈ ds, Lay n d) : Lay (n + 3) (encH h ds) := by
  have up : ∀ d ∈ ds, Lay (n + 2) d := fun d m => (f d m).mono (by omega)
  have hw : ∀ w, (w ∈ litW ∨ w ∈ oneW ∨ w ∈ bindW ∨ w ∈ plainW) → Lay (n + 2) (.str w) := fun w m => .str (words_sok w (by
    simp only [List.mem_append]
    rcases m with m | m | m | m
    · exact .inl (.inl (.inl m))
    · exact .inl (.inl (.inr m))
    · exact .inl (.inr m)
    · exact .inr m)) _
  have c : ∀ {d : PyData} {ds : List PyData}, Lay (n + 2) d → (∀ e ∈ ds, Lay (n + 2) e) → ∀ e ∈ d :: ds, Lay (n + 2) e := fun a b e m => by
    rcases List.mem_cons.mp m with rfl | m
    · exact a
    · exact b e m
  have nil : ∀ e ∈ ([] : List PyData), Lay (n + 2) e := fun e m => by cases m
  have S : ∀ w : Str, sok w → Lay (n + 2) (.str w) := fun w h => .str h _
  cases h with
  | num i => exact .tup (c (S "number" (by decide +kernel)) (c (.int i _) nil))
  | name x => exact .tup (c (S "name" (by decide +kernel)) (c (S x o.2) nil))
  | lit w => exact .tup (c (hw w (.inl o.2)) nil)
  | one w x => exact .tup (c (hw w (.inr (.inl o.2.1))) (c (S x o.2.2) up))
  | fn xs => exact .tup (c (S "fn" (by decide +kernel)) (c (lay_strs o.2.2 (n + 1)) up))
  | bind w xs =>
    refine .tup (c (hw w (.inr (.inr (.inl o.2.1)))) (c (Lay.tup fun d hd => ?_) fun d hd => up d (List.mem_of_mem_drop hd)))
    obtain ⟨p, hp, rfl⟩ := List.mem_map.mp hd
    have hz := List.of_mem_zip (show (p.1, p.2) ∈ xs.zip ds from hp)
    refine Lay.tup fun d hd => ?_
    simp only [List.mem_cons, List.not_mem_nil, or_false] at hd
    rcases hd with rfl | rfl
    · exact .str (o.2.2 _ hz.1) _
    · exact f _ hz.2
  | doo => exact .tup (c (S "do" (by decide +kernel)) (c (Lay.tup (fun d m => (f d m).mono (by omega))) nil))
  | call =>
    refine .tup (c (S "call" (by decide +kernel)) fun d hd => ?_)
    rcases List.mem_append.mp hd with hd | hd
    · exact up d (List.mem_of_mem_take hd)
    · cases List.mem_singleton.mp hd
      exact Lay.tup fun d m => (f d (List.mem_of_mem_drop m)).mono (by omega)
  | op o' => exact .tup (c (S "op" (by decide +kernel)) (c (S o' o) (c (Lay.tup (fun d m => (f d m).mono (by omega))) nil)))
  | plain w => exact .tup (c (hw w (.inr (.inr (.inr o)))) up)
theorem lay_enc : ∀ (n : Nat) (t : Tr), t.ok → t.dep ≤ n → Lay (3 * n) t.enc := by
  intro n
  induction n with
  | zero =>
    intro t _ h
    cases t with
    | mk hd ps => exact absurd h (by show ¬ (Tr.deps ps + 1 ≤ 0); omega)
  | succ n ih =>
    intro t o h
    cases t with
    | mk hd ps =>
      have o' : hok hd ps.length ∧ ps.length ≤ 11 ∧ Tr.oks ps := o
      have : Lay (3 * n + 3) (encH hd (Tr.encL ps)) := lay_encH (by rw [encL_len]; exact o'.1) fun d hd => by
        rw [encL_map] at hd
        obtain ⟨t, m, rfl⟩ := List.mem_map.mp hd
        exact ih t (oks_iff.mp o'.2.2 t m) (dep_mk.mp h t m)
      exact this
end Cm

/-! x in (written words); the items of a tree's tuple -/
namespace Cm
open PySem L2 PySem.Spec PyProof.Rows
/-- written texts -/
inductive StrEs : List Expr → List Str → Prop where
  | nil : StrEs [] []
  | cons {x : Str} {k : Nat} {p : Pos} {es : List Expr} {xs : List Str} (h : StrEs es xs) : StrEs (.Constant (.str x) k p :: es) (x :: xs)
def tVals (vs : List V) : TA := fun _ H Q => Q vs H
section
variable {X : Cx} {e : Expr} {te : TE} {es : List Expr} {ws : List Str} {pos p2 : Pos} {n : Nat}
theorem pa_strs (h : StrEs es ws) : PA X es (tVals (ws.map V.str)) := by
  induction h with
  | nil => exact ⟨fun pos pins s σ H Q I h => pa_nil.run pos pins s σ H Q I h⟩
  | @cons x k p es xs h ih =>
    refine ⟨fun pos pins s σ H Q I q => (pa_cons (te := tC (.str x)) pe_str ih (by rfl)).run pos pins s σ H Q I ?_⟩
    exact q
/-- x in ('a', 'b', ..) -/
def tInW (te : TE) (ws : List Str) : TT := fun σ H Q => te σ H fun x H1 => flatV x = true ∧ ∀ H2, Same H1 H2 → Q (inV x (ws.map V.str)) H2
theorem flat_strV (ws : List Str) : (ws.map V.str).all flatV = true := by
  rw [List.all_eq_true]
  intro x hx
  obtain ⟨w, _, rfl⟩ := List.mem_map.mp hx
  rfl
theorem pt_inW (ha : PE X e te) (he : StrEs es ws) (hl : ws.length ≤ sizeLine) (hm : behindInMarks .In (.Tuple es n p2) = false) : PT X (.Compare e [.In] [.Tuple es n p2] pos) (tInW te ws) := by
  refine ⟨fun pins s σ H Q I h => ?_⟩
  refine wpAny_isTrue_Compare1 (thn (ha.run pins s σ H _ I h) fun v s1 ⟨x, H1, I1, r1, fx, q1⟩ => thn ((pe_tup (pa_strs he)).run pins s1 σ H1 (fun y H2 => y ≠ .non ∧ ∃ p, y = .ref p ∧ H2 p = some (.tup (ws.map V.str)) ∧ Same H1 H2) I1 ?_) fun u s2 ⟨y, H2, I2, r2, _, p, ey, hp, s12⟩ =>
    thn (op_in_seq pins s2 σ H2 x y v u (fun z H3 => ∃ k, z = .bl k ∧ Q k H3) I2 r1 r2 ⟨p, _, ey, .inr (.inl (.inl hp)), fx, flat_strV ws, _, rfl, q1 H2 s12⟩) fun c s3 ⟨z, H3, I3, r3, k, e, q3⟩ => ?_) hm
  · refine ⟨by rw [List.length_map]; exact hl, fun p hp => ⟨(fun z => nomatch z), p, rfl, upd_same, same_new hp⟩⟩
  · subst e
    cases r3
    exact wpAny_truthy_bool ⟨H3, I3, q3⟩
end
/-- x in ('a', ..) as a value -/
def tInWV (te : TE) (ws : List Str) : TE := fun σ H Q => te σ H fun x H1 => flatV x = true ∧ ∀ H2, Same H1 H2 → Q (.bl (inV x (ws.map V.str))) H2
section
variable {X : Cx} {e : Expr} {te : TE} {es : List Expr} {ws : List Str} {pos p2 : Pos} {n : Nat}
theorem pe_inW (ha : PE X e te) (he : StrEs es ws) (hl : ws.length ≤ sizeLine) (hm : behindInMarks .In (.Tuple es n p2) = false) : PE X (.Compare e [.In] [.Tuple es n p2] pos) (tInWV te ws) := by
  refine ⟨fun pins s σ H Q I h => ?_⟩
  refine wpAny_Compare1 (thn (ha.run pins s σ H _ I h) fun v s1 ⟨x, H1, I1, r1, fx, q1⟩ => thn ((pe_tup (pa_strs he)).run pins s1 σ H1 (fun y H2 => ∃ p, y = .ref p ∧ H2 p = some (.tup (ws.map V.str)) ∧ Same H1 H2) I1 ?_) fun u s2 ⟨y, H2, I2, r2, p, ey, hp, s12⟩ =>
    op_in_seq pins s2 σ H2 x y v u Q I2 r1 r2 ⟨p, _, ey, .inr (.inl (.inl hp)), fx, flat_strV ws, q1 H2 s12⟩) hm
  exact ⟨by rw [List.length_map]; exact hl, fun p hp => ⟨p, rfl, upd_same, same_new hp⟩⟩
end
/-! ### the items of a tree's tuple -/
def wd : Hd → Str
  | .num _ => "number"
  | .name _ => "name"
  | .lit w => w
  | .one w _ => w
  | .fn _ => "fn"
  | .bind w _ => w
  | .doo => "do"
  | .call => "call"
  | .op _ => "op"
  | .plain w => w
def Items (K : PySem.W.Frag) (H : Hp) (ds : List PyData) : Hd → List V → Prop
  | .num i, its => its = [.str "number", .int i]
  | .name x, its => its = [.str "name", .str x]
  | .lit w, its => its = [.str w]
  | .one w x, its => ∃ vs, its = .str w :: .str x :: vs ∧ DpAll K H vs ds
  | .fn xs, its => ∃ q vs, its = .str "fn" :: .ref q :: vs ∧ SqT K H q (xs.map V.str) ∧ DpAll K H vs ds
  | .bind w xs, its => ∃ q rows vs, its = .str w :: .ref q :: vs ∧ SqT K H q rows ∧ DpAll K H rows ((xs.zip ds).map rowD) ∧ DpAll K H vs (ds.drop xs.length)
  | .doo, its => ∃ q vs, its = [.str "do", .ref q] ∧ SqT K H q vs ∧ DpAll K H vs ds
  | .call, its => ∃ q us vs, its = .str "call" :: (us ++ [.ref q]) ∧ DpAll K H us (ds.take 1) ∧ SqT K H q vs ∧ DpAll K H vs (ds.drop 1)
  | .op o, its => ∃ q vs, its = [.str "op", .str o, .ref q] ∧ SqT K H q vs ∧ DpAll K H vs ds
  | .plain w, its => ∃ vs, its = .str w :: vs ∧ DpAll K H vs ds
theorem dp_str {K : PySem.W.Frag} {H : Hp} {v : V} {x : Str} (h : Dp K H v (.str x)) : v = .str x := by cases h; rfl
theorem dp_int {K : PySem.W.Frag} {H : Hp} {v : V} {x : Int} (h : Dp K H v (.int x)) : v = .int x := by cases h; rfl
theorem dp_tup {K : PySem.W.Frag} {H : Hp} {v : V} {ds : List PyData} (h : Dp K H v (.tuple ds)) : ∃ a its, v = .ref a ∧ SqT K H a its ∧ DpAll K H its ds := by
  cases h with
  | @tup a its ds hs ha => exact ⟨a, its, rfl, hs, ha⟩
theorem dpAll_strs_inv {K : PySem.W.Frag} {H : Hp} : ∀ {xs : List Str} {vs : List V}, DpAll K H vs (xs.map PyData.str) → vs = xs.map V.str
  | [], _, h => by cases h; rfl
  | x :: xs, _, h => by
    cases h with
    | cons h1 h2 => rw [dp_str h1, dpAll_strs_inv h2]; rfl
theorem dpAll_strs {K : PySem.W.Frag} {H : Hp} : ∀ xs : List Str, DpAll K H (xs.map V.str) (xs.map PyData.str)
  | [] => .nil
  | x :: xs => .cons (.str x) (dpAll_strs xs)
theorem dpAll_split {K : PySem.W.Frag} {H : Hp} : ∀ {ds es : List PyData} {vs : List V}, DpAll K H vs (ds ++ es) → ∃ us ws, vs = us ++ ws ∧ DpAll K H us ds ∧ DpAll K H ws es
  | [], es, vs, h => ⟨[], vs, rfl, .nil, h⟩
  | d :: ds, es, vs, h => by
    cases h with
    | cons h1 h2 =>
      obtain ⟨us, ws, rfl, a, b⟩ := dpAll_split h2
      exact ⟨_ :: us, ws, rfl, .cons h1 a, b⟩
theorem view {K : PySem.W.Frag} {H : Hp} {v : V} {h : Hd} {ds : List PyData} (x : Dp K H v (encH h ds)) : ∃ a its, v = .ref a ∧ SqT K H a its ∧ Items K H ds h its := by
  cases h with
  | num i =>
    obtain ⟨a, its, rfl, hs, ha⟩ := dp_tup x
    cases ha with
    | cons h1 h2 => cases h2 with
      | cons h3 h4 =>
        cases h4
        exact ⟨a, _, rfl, hs, by rw [dp_str h1, dp_int h3]; rfl⟩
  | name i =>
    obtain ⟨a, its, rfl, hs, ha⟩ := dp_tup x
    cases ha with
    | cons h1 h2 => cases h2 with
      | cons h3 h4 =>
        cases h4
        exact ⟨a, _, rfl, hs, by rw [dp_str h1, dp_str h3]; rfl⟩
  | lit i =>
    obtain ⟨a, its, rfl, hs, ha⟩ := dp_tup x
    cases ha with
    | cons h1 h2 =>
      cases h2
      exact ⟨a, _, rfl, hs, by rw [dp_str h1]; rfl⟩
  | one w i =>
    obtain ⟨a, its, rfl, hs, ha⟩ := dp_tup x
    cases ha with
    | cons h1 h2 => cases h2 with
      | cons h3 h4 => exact ⟨a, _, rfl, hs, _, by rw [dp_str h1, dp_str h3], h4⟩
  | fn xs =>
    obtain ⟨a, its, rfl, hs, ha⟩ := dp_tup x
    cases ha with
    | cons h1 h2 => cases h2 with
      | cons h3 h4 =>
        obtain ⟨q, vs, rfl, hq, hv⟩ := dp_tup h3
        rw [dpAll_strs_inv hv] at hq
        exact ⟨a, _, rfl, hs, q, _, by rw [dp_str h1], hq, h4⟩
  | bind w xs =>
    obtain ⟨a, its, rfl, hs, ha⟩ := dp_tup x
    cases ha with
    | cons h1 h2 => cases h2 with
      | cons h3 h4 =>
        obtain ⟨q, vs, rfl, hq, hv⟩ := dp_tup h3
        exact ⟨a, _, rfl, hs, q, vs, _, by rw [dp_str h1], hq, hv, h4⟩
  | doo =>
    obtain ⟨a, its, rfl, hs, ha⟩ := dp_tup x
    cases ha with
    | cons h1 h2 => cases h2 with
      | cons h3 h4 =>
        cases h4
        obtain ⟨q, vs, rfl, hq, hv⟩ := dp_tup h3
        exact ⟨a, _, rfl, hs, q, vs, by rw [dp_str h1], hq, hv⟩
  | call =>
    obtain ⟨a, its, rfl, hs, ha⟩ := dp_tup x
    cases ha with
    | cons h1 h2 =>
      obtain ⟨us, ws, rfl, h3, h4⟩ := dpAll_split h2
      cases h4 with
      | cons h5 h6 =>
        cases h6
        obtain ⟨q, vs, rfl, hq, hv⟩ := dp_tup h5
        exact ⟨a, _, rfl, hs, q, us, vs, by rw [dp_str h1], h3, hq, hv⟩
  | op o =>
    obtain ⟨a, its, rfl, hs, ha⟩ := dp_tup x
    cases ha with
    | cons h1 h2 => cases h2 with
      | cons h3 h4 => cases h4 with
        | cons h5 h6 =>
          cases h6
          obtain ⟨q, vs, rfl, hq, hv⟩ := dp_tup h5
          exact ⟨a, _, rfl, hs, q, vs, by rw [dp_str h1, dp_str h3], hq, hv⟩
  | plain w =>
    obtain ⟨a, its, rfl, hs, ha⟩ := dp_tup x
    cases ha with
    | cons h1 h2 => exact ⟨a, _, rfl, hs, _, by rw [dp_str h1], h2⟩
theorem unview {K : PySem.W.Frag} {H : Hp} {a : Addr} {its : List V} {h : Hd} {ds : List PyData} (hs : SqT K H a its) (x : Items K H ds h its) : Dp K H (.ref a) (encH h ds) := by
  cases h with
  | num i => obtain rfl := (show its = _ from x); exact .tup hs (.cons (.str _) (.cons (.int _) .nil))
  | name i => obtain rfl := (show its = _ from x); exact .tup hs (.cons (.str _) (.cons (.str _) .nil))
  | lit i => obtain rfl := (show its = _ from x); exact .tup hs (.cons (.str _) .nil)
  | one w i => obtain ⟨vs, rfl, hv⟩ := x; exact .tup hs (.cons (.str _) (.cons (.str _) hv))
  | fn xs => obtain ⟨q, vs, rfl, hq, hv⟩ := x; exact .tup hs (.cons (.str _) (.cons (.tup hq (dpAll_strs xs)) hv))
  | bind w xs => obtain ⟨q, rows, vs, rfl, hq, hr, hv⟩ := x; exact .tup hs (.cons (.str _) (.cons (.tup hq hr) hv))
  | doo => obtain ⟨q, vs, rfl, hq, hv⟩ := x; exact .tup hs (.cons (.str _) (.cons (.tup hq hv) .nil))
  | call => obtain ⟨q, us, vs, rfl, hu, hq, hv⟩ := x; exact .tup hs (.cons (.str _) (DpAll.app hu (.cons (.tup hq hv) .nil)))
  | op o => obtain ⟨q, vs, rfl, hq, hv⟩ := x; exact .tup hs (.cons (.str _) (.cons (.str _) (.cons (.tup hq hv) .nil)))
  | plain w => obtain ⟨vs, rfl, hv⟩ := x; exact .tup hs (.cons (.str _) hv)
theorem Items.head {K : PySem.W.Frag} {H : Hp} {h : Hd} {ds : List PyData} {its : List V} (x : Items K H ds h its) : atI its 0 = some (.str (wd h)) := by
  refine atI_nat (j := 0) ?_
  cases h with
  | num i => obtain rfl := (show its = _ from x); rfl
  | name i => obtain rfl := (show its = _ from x); rfl
  | lit i => obtain rfl := (show its = _ from x); rfl
  | one w i => obtain ⟨vs, rfl, _⟩ := x; rfl
  | fn xs => obtain ⟨q, vs, rfl, _⟩ := x; rfl
  | bind w xs => obtain ⟨q, rows, vs, rfl, _⟩ := x; rfl
  | doo => obtain ⟨q, vs, rfl, _⟩ := x; rfl
  | call => obtain ⟨q, us, vs, rfl, _⟩ := x; rfl
  | op o => obtain ⟨q, vs, rfl, _⟩ := x; rfl
  | plain w => obtain ⟨vs, rfl, _⟩ := x; rfl
theorem Items.same {K : PySem.W.Frag} {H H' : Hp} {h : Hd} {ds : List PyData} {its : List V} (x : Items K H ds h its) (s : Same H H') : Items K H' ds h its := by
  cases h with
  | num i => exact x
  | name i => exact x
  | lit i => exact x
  | one w i => obtain ⟨vs, e, hv⟩ := x; exact ⟨vs, e, dps_same s _ _ hv⟩
  | fn xs => obtain ⟨q, vs, e, hq, hv⟩ := x; exact ⟨q, vs, e, sqt_same s hq, dps_same s _ _ hv⟩
  | bind w xs => obtain ⟨q, rows, vs, e, hq, hr, hv⟩ := x; exact ⟨q, rows, vs, e, sqt_same s hq, dps_same s _ _ hr, dps_same s _ _ hv⟩
  | doo => obtain ⟨q, vs, e, hq, hv⟩ := x; exact ⟨q, vs, e, sqt_same s hq, dps_same s _ _ hv⟩
  | call => obtain ⟨q, us, vs, e, hu, hq, hv⟩ := x; exact ⟨q, us, vs, e, dps_same s _ _ hu, sqt_same s hq, dps_same s _ _ hv⟩
  | op o => obtain ⟨q, vs, e, hq, hv⟩ := x; exact ⟨q, vs, e, sqt_same s hq, dps_same s _ _ hv⟩
  | plain w => obtain ⟨vs, e, hv⟩ := x; exact ⟨vs, e, dps_same s _ _ hv⟩
/-! ### what the word of a head is -/
def kd : Hd → Nat
  | .num _ => 0
  | .name _ => 1
  | .lit _ => 2
  | .one _ _ => 3
  | .fn _ => 4
  | .bind _ _ => 5
  | .doo => 6
  | .call => 7
  | .op _ => 8
  | .plain _ => 9
def wordsOf : Nat → List Str
  | 0 => ["number"]
  | 1 => ["name"]
  | 2 => litW
  | 3 => oneW
  | 4 => ["fn"]
  | 5 => bindW
  | 6 => ["do"]
  | 7 => ["call"]
  | 8 => ["op"]
  | _ => plainW
theorem wd_mem {h : Hd} {n : Nat} (o : hok h n) : kd h < 10 ∧ wd h ∈ wordsOf (kd h) := by
  cases h with
  | num i => exact ⟨Nat.le_of_ble_eq_true rfl, List.mem_singleton.mpr rfl⟩
  | name i => exact ⟨Nat.le_of_ble_eq_true rfl, List.mem_singleton.mpr rfl⟩
  | lit w => exact ⟨Nat.le_of_ble_eq_true rfl, o.2⟩
  | one w x => exact ⟨Nat.le_of_ble_eq_true rfl, o.2.1⟩
  | fn xs => exact ⟨Nat.le_of_ble_eq_true rfl, List.mem_singleton.mpr rfl⟩
  | bind w xs => exact ⟨Nat.le_of_ble_eq_true rfl, o.2.1⟩
  | doo => exact ⟨Nat.le_of_ble_eq_true rfl, List.mem_singleton.mpr rfl⟩
  | call => exact ⟨Nat.le_of_ble_eq_true rfl, List.mem_singleton.mpr rfl⟩
  | op i => exact ⟨Nat.le_of_ble_eq_true rfl, List.mem_singleton.mpr rfl⟩
  | plain w => exact ⟨Nat.le_of_ble_eq_true rfl, o⟩
/-- what is asked of the word alone -/
theorem by_kind (p : Str → Bool) (k : Nat → Bool) (hc : ∀ c < 10, ∀ w ∈ wordsOf c, p w = k c) {h : Hd} {n : Nat} (o : hok h n) : p (wd h) = k (kd h) :=
  hc _ (wd_mem o).1 _ (wd_mem o).2
def kF (h : Hd) : Bool := kd h == 3 || kd h == 4
def kB (h : Hd) : Bool := kd h == 5
def kP (h : Hd) : Bool := kd h == 9
def kL (h : Hd) : Bool := kd h < 3
def isDo (h : Hd) : Bool := kd h == 6
def isCall (h : Hd) : Bool := kd h == 7
def isOp (h : Hd) : Bool := kd h == 8
theorem in_words {ws : List Str} {x : Str} : inV (.str x) (ws.map V.str) = decide (x ∈ ws) := by
  induction ws with
  | nil => rfl
  | cons w ws ih =>
    show (eqV (V.str w) (V.str x) || inV (.str x) (ws.map V.str)) = _
    rw [ih]
    have e : eqV (V.str w) (V.str x) = decide (x = w) := by
      show (w == x) = _
      by_cases q : x = w
      · rw [q]; simp
      · have : ¬ w = x := fun z => q z.symm
        simp [q, this]
    rw [e]
    by_cases q : x = w <;> simp [q]
section
variable {h : Hd} {n : Nat}
theorem in_F (o : hok h n) : inV (.str (wd h)) ((["fn", "set", "keep", "once", "take"] : List Str).map V.str) = kF h :=
  by_kind (fun w => inV (.str w) ((["fn", "set", "keep", "once", "take"] : List Str).map V.str)) (fun k => k == 3 || k == 4) (by decide +kernel) o
theorem in_B (o : hok h n) : inV (.str (wd h)) ((["let", "rec"] : List Str).map V.str) = kB h :=
  by_kind (fun w => inV (.str w) ((["let", "rec"] : List Str).map V.str)) (fun k => k == 5) (by decide +kernel) o
theorem in_P (o : hok h n) : inV (.str (wd h)) ((["if", "mark", "wind", "show"] : List Str).map V.str) = kP h :=
  by_kind (fun w => inV (.str w) ((["if", "mark", "wind", "show"] : List Str).map V.str)) (fun k => k == 9) (by decide +kernel) o
theorem in_L (o : hok h n) : inV (.str (wd h)) ((["number", "true", "false", "none", "name", "ask"] : List Str).map V.str) = kL h :=
  by_kind (fun w => inV (.str w) ((["number", "true", "false", "none", "name", "ask"] : List Str).map V.str)) (fun k => k < 3) (by decide +kernel) o
theorem eq_do (o : hok h n) : decide (V.str (wd h) = V.str "do") = isDo h := by
  rw [decS]
  exact by_kind (fun w => decide (w = "do")) (fun k => k == 6) (by decide +kernel) o
theorem eq_call (o : hok h n) : decide (V.str (wd h) = V.str "call") = isCall h := by
  rw [decS]
  exact by_kind (fun w => decide (w = "call")) (fun k => k == 7) (by decide +kernel) o
theorem eq_op (o : hok h n) : decide (V.str (wd h) = V.str "op") = isOp h := by
  rw [decS]
  exact by_kind (fun w => decide (w = "op")) (fun k => k == 8) (by decide +kernel) o
end
end Cm

/-! slices and sums of tuples whichever object they are; rules with K said -/
namespace Cm
open PySem L2 PySem.Spec PyProof.Rows
theorem cut_from {xs : List V} {k : Nat} (h : k ≤ xs.length) : cutV xs (some (k : Int)) Option.none = xs.drop k := by
  unfold cutV
  rw [HT.sIx_nat, HT.sIx_none, Nat.min_eq_left h]
  exact List.take_of_length_le (by rw [List.length_drop]; omega)
theorem cut_to {xs : List V} {k : Nat} (h : k ≤ xs.length) : cutV xs Option.none (some (k : Int)) = xs.take k := by
  unfold cutV
  rw [HT.sIx_nat, HT.sIx_none, Nat.min_eq_left h, List.drop_zero, Nat.sub_zero]
/-- t[k:] of a tuple: whichever object it is -/
theorem sl_from {K : PySem.W.Frag} {a : Addr} {xs : List V} {k : Nat} {σ : L2.St} {H : Hp} {Q : VK} (hs : SqT K H a xs) (hk : k ≤ xs.length) (h : ∀ t H', Same H H' → SqT K H' t (xs.drop k) → Q (.ref t) H') :
    (tNoPart σ H fun u H1 => rSlA K (.ref a) (some (k : Int)) u H1 Q) := by
  refine ⟨a, xs, rfl, hs, fun q => ?_, fun _ p hp => ?_⟩
  · rw [HT.sIx_nat, Nat.min_eq_left hk] at q
    have : k = 0 := q.1
    subst this
    exact h a H (Same.refl H) hs
  · rw [cut_from hk]
    exact h p _ (same_new hp) (.inl (.inl upd_same))
theorem sl_to {K : PySem.W.Frag} {a : Addr} {xs : List V} {k : Nat} {H : Hp} {Q : VK} (hs : SqT K H a xs) (hk : k ≤ xs.length) (h : ∀ t H', Same H H' → SqT K H' t (xs.take k) → Q (.ref t) H') :
    rSlA K (.ref a) Option.none (some (k : Int)) H Q := by
  refine ⟨a, xs, rfl, hs, fun q => ?_, fun _ p hp => ?_⟩
  · rw [HT.sIx_nat, Nat.min_eq_left hk] at q
    have e : xs.take k = xs := List.take_of_length_le (by rw [q.2]; exact Nat.le_refl _)
    refine h a H (Same.refl H) ?_
    rw [e]
    exact hs
  · rw [cut_to hk]
    exact h p _ (same_new hp) (.inl (.inl upd_same))
theorem cat_any {K : PySem.W.Frag} {a b : Addr} {xs ys : List V} {H : Hp} {Q : VK} (ha : SqT K H a xs) (hb : SqT K H b ys) (hl : xs.length + ys.length ≤ sizeLine)
    (h : ∀ t H', Same H H' → SqT K H' t (xs ++ ys) → Q (.ref t) H') : rCatA K (.ref a) (.ref b) H Q := by
  refine ⟨a, b, xs, ys, rfl, rfl, ha, hb, hl, fun e => ?_, fun _ e => ?_, fun _ _ p hp => h p _ (same_new hp) (.inl (.inl upd_same))⟩
  · exact h b H (Same.refl H) (by rw [e]; exact hb)
  · exact h a H (Same.refl H) (by rw [e, List.append_nil]; exact ha)
theorem range_map {α β : Type} (f : α → β) (l : List α) : (List.range l.length).filterMap (fun i => (l[i]?).map f) = l.map f := by
  induction l with
  | nil => rfl
  | cons a l ih =>
    rw [List.length_cons, List.range_succ_eq_map, List.filterMap_cons]
    simp only [List.getElem?_cons_zero, Option.map_some, List.filterMap_map]
    rw [List.map_cons, ← ih]
    congr 1
theorem ke_tupleOf {X : Cx} {K : PySem.W.Frag} {a : Expr} {ta : TE} {p pos : Pos} (hg : Gl X "tuple") (hm : X.mg "tuple" = none) (ha : PE X a ta) (h : X.K = K := by rfl) (na : starEach [a] X.env = (false, eval a X.env) :: starEach [] X.env := by rfl) :
    PE X (.Call (.Name "tuple" p) [a] [] pos) (tThen ta (kTup K)) := by
  subst h
  exact pe_tupleOf hg hm ha na
theorem ne_same' {d : PyData} (h : SeqAt.shaped d = true) : (!PyData.eqv d d) = false := by
  rw [SeqAt.eqv_refl d (SeqAt.canLay_of_shaped h)]
  rfl
theorem kc_isi {X : Cx} {K : PySem.W.Frag} (h : X.K = K := by rfl) : CallR X (.builtin "isinstance") (rIsi K) := by subst h; exact call_isi
theorem one_of {α : Type} {xs : List α} (h : xs.length = 1) : ∃ x, xs = [x] := by
  cases xs with
  | nil => simp at h
  | cons a r =>
    cases r with
    | nil => exact ⟨a, rfl⟩
    | cons b r => simp at h
theorem dpAll_one {K : PySem.W.Frag} {H : Hp} {vs : List V} {d : PyData} (h : DpAll K H vs [d]) : ∃ v, vs = [v] ∧ Dp K H v d := by
  cases h with
  | cons h1 h2 =>
    cases h2
    exact ⟨_, rfl, h1⟩
theorem dps_cat {K : PySem.W.Frag} {H : Hp} {ds es : List PyData} {vs us : List V} (h1 : DpAll K H vs ds) (h2 : DpAll K H us es) : DpAll K H (vs ++ us) (ds ++ es) := DpAll.app h1 h2
theorem free_of {H H' : Hp} {p : Addr} (s : Same H H') (h : H' p = Option.none) : H p = Option.none := by
  cases e : H p with
  | none => rfl
  | some o =>
    have := s _ _ e
    rw [h] at this
    cases this
end Cm

/-! paths of trees -/
namespace Cm
open PySem L2 PySem.Spec PyProof.Rows
def Tr.hd : Tr → Hd
  | .mk h _ => h
def Tr.ps : Tr → List Tr
  | .mk _ ps => ps
def Tr.at : List Int → Tr → Option Tr
  | [], t => some t
  | i :: r, .mk _ ps => if 0 ≤ i then (ps[i.toNat]?).bind (Tr.at r) else none
def Tr.put : List Int → Tr → Tr → Tr
  | [], _, o => o
  | i :: r, .mk h ps, o => match ps[i.toNat]? with
    | some p => .mk h (ps.set i.toNat (Tr.put r p o))
    | none => .mk h ps
mutual
def Tr.paths : Tr → List (List Int)
  | .mk _ ps => [] :: Tr.pathsL 0 ps
def Tr.pathsL : Nat → List Tr → List (List Int)
  | _, [] => []
  | i, t :: ts => t.paths.map (fun p => ((i : Nat) : Int) :: p) ++ Tr.pathsL (i + 1) ts
end
mutual
def Tr.size : Tr → Nat
  | .mk _ ps => Tr.sizes ps + 1
def Tr.sizes : List Tr → Nat
  | [] => 0
  | t :: ts => t.size + Tr.sizes ts
end
theorem at_snoc : ∀ (p : List Int) (i : Int) (t : Tr), Tr.at (p ++ [i]) t = (Tr.at p t).bind (Tr.at [i])
  | [], i, t => rfl
  | j :: r, i, .mk h ps => by
    show (if 0 ≤ j then (ps[j.toNat]?).bind (Tr.at (r ++ [i])) else none) = ((if 0 ≤ j then (ps[j.toNat]?).bind (Tr.at r) else none) : Option Tr).bind (Tr.at [i])
    by_cases q : 0 ≤ j
    · rw [if_pos q, if_pos q]
      cases ps[j.toNat]? with
      | none => rfl
      | some p => exact at_snoc r i p
    · rw [if_neg q, if_neg q]
      rfl
theorem at_one {i : Nat} {h : Hd} {ps : List Tr} : Tr.at [((i : Nat) : Int)] (.mk h ps) = ps[i]? := by
  show (if 0 ≤ ((i : Nat) : Int) then (ps[((i : Nat) : Int).toNat]?).bind (Tr.at []) else none) = _
  rw [if_pos (by omega), Int.toNat_natCast]
  cases ps[i]? <;> rfl
theorem at_ok : ∀ (p : List Int) {t s : Tr}, t.ok → Tr.at p t = some s → s.ok
  | [], t, s, o, e => by cases e; exact o
  | i :: r, .mk h ps, s, o, e => by
    have e' : (if 0 ≤ i then (ps[i.toNat]?).bind (Tr.at r) else none) = some s := e
    by_cases q : 0 ≤ i
    · rw [if_pos q] at e'
      cases hp : ps[i.toNat]? with
      | none => rw [hp] at e'; cases e'
      | some p =>
        rw [hp] at e'
        have o' : hok h ps.length ∧ ps.length ≤ 11 ∧ Tr.oks ps := o
        exact at_ok r (oks_iff.mp o'.2.2 p (List.mem_of_getElem? hp)) e'
    · rw [if_neg q] at e'
      cases e'
theorem at_dep : ∀ (p : List Int) {t s : Tr}, Tr.at p t = some s → s.dep + p.length ≤ t.dep
  | [], t, s, e => by cases e; exact Nat.le_refl _
  | i :: r, .mk h ps, s, e => by
    have e' : (if 0 ≤ i then (ps[i.toNat]?).bind (Tr.at r) else none) = some s := e
    by_cases q : 0 ≤ i
    · rw [if_pos q] at e'
      cases hp : ps[i.toNat]? with
      | none => rw [hp] at e'; cases e'
      | some p =>
        rw [hp] at e'
        have h1 := at_dep r (t := p) e'
        have h2 := deps_le.mp (Nat.le_refl (Tr.deps ps)) p (List.mem_of_getElem? hp)
        show s.dep + (r.length + 1) ≤ Tr.deps ps + 1
        omega
    · rw [if_neg q] at e'
      cases e'
theorem pathsL_snoc (t : Tr) : ∀ (ts : List Tr) (i : Nat), Tr.pathsL i (ts ++ [t]) = Tr.pathsL i ts ++ t.paths.map (fun p => (((i + ts.length : Nat)) : Int) :: p)
  | [], i => by
    show t.paths.map _ ++ [] = [] ++ _
    simp
  | a :: ts, i => by
    show a.paths.map _ ++ Tr.pathsL (i + 1) (ts ++ [t]) = (a.paths.map _ ++ Tr.pathsL (i + 1) ts) ++ _
    rw [pathsL_snoc t ts (i + 1), List.append_assoc, List.length_cons, show i + 1 + ts.length = i + (ts.length + 1) by omega]
mutual
theorem paths_len : ∀ t : Tr, t.paths.length = t.size
  | .mk h ps => by
    show (Tr.pathsL 0 ps).length + 1 = Tr.sizes ps + 1
    rw [pathsL_len 0 ps]
theorem pathsL_len : ∀ (i : Nat) (ts : List Tr), (Tr.pathsL i ts).length = Tr.sizes ts
  | _, [] => rfl
  | i, t :: ts => by
    show (t.paths.map _ ++ Tr.pathsL (i + 1) ts).length = t.size + Tr.sizes ts
    rw [List.length_append, List.length_map, paths_len t, pathsL_len (i + 1) ts]
end
theorem pathsL_mem {q : List Int} : ∀ (ts : List Tr) (i : Nat), q ∈ Tr.pathsL i ts → ∃ (j : Nat) (t : Tr) (p : List Int), ts[j]? = some t ∧ p ∈ t.paths ∧ q = ((i + j : Nat) : Int) :: p
  | [], i, m => by cases m
  | a :: ts, i, m => by
    have m' : q ∈ a.paths.map (fun p => ((i : Nat) : Int) :: p) ++ Tr.pathsL (i + 1) ts := m
    rcases List.mem_append.mp m' with m | m
    · obtain ⟨p, hp, rfl⟩ := List.mem_map.mp m
      exact ⟨0, a, p, rfl, hp, rfl⟩
    · obtain ⟨j, t, p, e1, e2, e3⟩ := pathsL_mem ts (i + 1) m
      exact ⟨j + 1, t, p, by simpa using e1, e2, by rw [e3]; congr 2; omega⟩
theorem paths_at : ∀ (n : Nat) (t : Tr), t.dep ≤ n → ∀ p ∈ t.paths, ∃ s, Tr.at p t = some s := by
  intro n
  induction n with
  | zero =>
    intro t h
    cases t with
    | mk hd ps => exact absurd h (by show ¬ (Tr.deps ps + 1 ≤ 0); omega)
  | succ n ih =>
    intro t h p hp
    cases t with
    | mk hd ps =>
      have hp' : p ∈ ([] : List Int) :: Tr.pathsL 0 ps := hp
      rcases List.mem_cons.mp hp' with rfl | hp'
      · exact ⟨_, rfl⟩
      · obtain ⟨j, t, q, e1, e2, rfl⟩ := pathsL_mem ps 0 hp'
        obtain ⟨s, es⟩ := ih t (dep_mk.mp h t (List.mem_of_getElem? e1)) q e2
        refine ⟨s, ?_⟩
        show (if 0 ≤ ((0 + j : Nat) : Int) then (ps[((0 + j : Nat) : Int).toNat]?).bind (Tr.at q) else none) = some s
        rw [if_pos (by omega), Nat.zero_add, Int.toNat_natCast, e1]
        exact es
theorem paths_size : ∀ (n : Nat) (t : Tr), t.dep ≤ n → ∀ p ∈ t.paths, p.length < t.dep := by
  intro n t h p hp
  obtain ⟨s, es⟩ := paths_at n t h p hp
  have := at_dep p es
  have : 1 ≤ s.dep := by cases s with | mk hd ps => show 1 ≤ Tr.deps ps + 1; omega
  omega
def pathI (x : List Int) : PyData := .tuple (x.map PyData.int)
theorem flat_pathI (xs : List (List Int)) : flatDs (xs.map pathI) = true := flatDs_of _ fun d hd => by
  obtain ⟨x, _, rfl⟩ := List.mem_map.mp hd
  exact flatDs_ints x
theorem dp_pathI {K : PySem.W.Frag} {H : Hp} {t : Addr} {x : List Int} (h : SqT K H t (x.map V.int)) : Dp K H (.ref t) (pathI x) := .tup h (dpAll_ints x)
theorem dpAll_ints_inv {K : PySem.W.Frag} {H : Hp} : ∀ {x : List Int} {vs : List V}, DpAll K H vs (x.map PyData.int) → vs = x.map V.int
  | [], _, h => by cases h; rfl
  | i :: x, _, h => by
    cases h with
    | cons h1 h2 => rw [dp_int h1, dpAll_ints_inv h2]; rfl
theorem pathI_inv {K : PySem.W.Frag} {H : Hp} {v : V} {x : List Int} (h : Dp K H v (pathI x)) : ∃ t, v = .ref t ∧ SqT K H t (x.map V.int) := by
  obtain ⟨a, its, rfl, hs, ha⟩ := dp_tup h
  rw [dpAll_ints_inv ha] at hs
  exact ⟨a, rfl, hs⟩
end Cm

/-! keep forms of trees; once in their place -/
namespace Cm
open PySem L2 PySem.Spec PyProof.Rows
def isKeep : Hd → Bool
  | .one w _ => decide (w = "keep")
  | _ => false
theorem eq_keep {h : Hd} {n : Nat} (o : hok h n) : decide (V.str (wd h) = V.str "keep") = isKeep h := by
  have other : kd h ≠ 3 → decide (wd h = "keep") = false := fun q => by
    have key : ∀ c < 10, c ≠ 3 → ∀ w ∈ wordsOf c, decide (w = ("keep" : Str)) = false := by decide +kernel
    exact key _ (wd_mem o).1 q _ (wd_mem o).2
  rw [decS]
  cases h with
  | one w x => rfl
  | num i => exact other (Nat.ne_of_beq_eq_false rfl)
  | name i => exact other (Nat.ne_of_beq_eq_false rfl)
  | lit i => exact other (Nat.ne_of_beq_eq_false rfl)
  | fn i => exact other (Nat.ne_of_beq_eq_false rfl)
  | bind i _ => exact other (Nat.ne_of_beq_eq_false rfl)
  | doo => exact other (Nat.ne_of_beq_eq_false rfl)
  | call => exact other (Nat.ne_of_beq_eq_false rfl)
  | op i => exact other (Nat.ne_of_beq_eq_false rfl)
  | plain i => exact other (Nat.ne_of_beq_eq_false rfl)
def keepAt (t : Tr) (p : List Int) : Bool := match Tr.at p t with
  | some s => isKeep s.hd
  | none => false
def keepPaths (t : Tr) : List (List Int) := t.paths.filter (keepAt t)
def keepL : Nat → List Tr → List (List Int)
  | _, [] => []
  | i, t :: ts => (keepPaths t).map (fun p => ((i : Nat) : Int) :: p) ++ keepL (i + 1) ts
theorem keepAt_cons {h : Hd} {ps : List Tr} {j : Nat} {t : Tr} (e : ps[j]? = some t) (p : List Int) : keepAt (.mk h ps) (((j : Nat) : Int) :: p) = keepAt t p := by
  unfold keepAt
  show (match (if 0 ≤ ((j : Nat) : Int) then (ps[((j : Nat) : Int).toNat]?).bind (Tr.at p) else none : Option Tr) with | some s => isKeep s.hd | none => false) = _
  rw [if_pos (by omega), Int.toNat_natCast, e]
  rfl
theorem filter_pathsL (h : Hd) : ∀ (ts pre : List Tr), (Tr.pathsL pre.length ts).filter (keepAt (.mk h (pre ++ ts))) = keepL pre.length ts
  | [], pre => rfl
  | t :: ts, pre => by
    show (t.paths.map (fun p => ((pre.length : Nat) : Int) :: p) ++ Tr.pathsL (pre.length + 1) ts).filter _ = (keepPaths t).map _ ++ keepL (pre.length + 1) ts
    have ih := filter_pathsL h ts (pre ++ [t])
    rw [List.length_append, List.length_singleton, List.append_assoc] at ih
    rw [List.filter_append]
    have e2 : pre ++ t :: ts = pre ++ ([t] ++ ts) := rfl
    rw [e2, ih]
    congr 1
    rw [List.filter_map]
    congr 1
    unfold keepPaths
    refine List.filter_congr fun p _ => ?_
    show keepAt (.mk h (pre ++ ([t] ++ ts))) (((pre.length : Nat) : Int) :: p) = keepAt t p
    exact keepAt_cons (by rw [List.getElem?_append_right (Nat.le_refl _), Nat.sub_self]; rfl) p
theorem keepPaths_mk (h : Hd) (ps : List Tr) : keepPaths (.mk h ps) = (if isKeep h = true then [[]] else []) ++ keepL 0 ps := by
  unfold keepPaths
  show (([] : List Int) :: Tr.pathsL 0 ps).filter (keepAt (.mk h ps)) = _
  have e := filter_pathsL h ps []
  simp only [List.nil_append, List.length_nil] at e
  rw [List.filter_cons, e]
  show (if isKeep h = true then _ else _) = _
  by_cases q : isKeep h = true
  · rw [if_pos q, if_pos q]; rfl
  · rw [if_neg q, if_neg q]; rfl
theorem keepL_snoc (t : Tr) : ∀ (ts : List Tr) (i : Nat), keepL i (ts ++ [t]) = keepL i ts ++ (keepPaths t).map (fun p => (((i + ts.length : Nat)) : Int) :: p)
  | [], i => by
    show (keepPaths t).map _ ++ [] = [] ++ _
    simp
  | a :: ts, i => by
    show (keepPaths a).map _ ++ keepL (i + 1) (ts ++ [t]) = ((keepPaths a).map _ ++ keepL (i + 1) ts) ++ _
    rw [keepL_snoc t ts (i + 1), List.append_assoc, List.length_cons, show i + 1 + ts.length = i + (ts.length + 1) by omega]
theorem keepL_le : ∀ (ts : List Tr) (i : Nat), (keepL i ts).length ≤ Tr.sizes ts
  | [], i => Nat.le_refl _
  | t :: ts, i => by
    have := keepL_le ts (i + 1)
    have h1 : (keepPaths t).length ≤ t.size := by rw [← paths_len]; exact List.length_filter_le ..
    show ((keepPaths t).map _ ++ keepL (i + 1) ts).length ≤ t.size + Tr.sizes ts
    rw [List.length_append, List.length_map]
    omega
/-! ### once in the place of keep at the paths of S -/
def reword (b : Bool) : Hd → Hd
  | .one w x => if b = true ∧ w = "keep" then .one "once" x else .one w x
  | h => h
mutual
def Tr.rw (S : List (List Int)) (pre : List Int) : Tr → Tr
  | .mk h ps => .mk (reword (decide (pre ∈ S)) h) (Tr.rwL S pre 0 ps)
def Tr.rwL (S : List (List Int)) (pre : List Int) : Nat → List Tr → List Tr
  | _, [] => []
  | i, t :: ts => Tr.rw S (pre ++ [((i : Nat) : Int)]) t :: Tr.rwL S pre (i + 1) ts
end
theorem rwL_len (S : List (List Int)) (pre : List Int) : ∀ (ts : List Tr) (i : Nat), (Tr.rwL S pre i ts).length = ts.length
  | [], _ => rfl
  | t :: ts, i => by
    show (Tr.rwL S pre (i + 1) ts).length + 1 = ts.length + 1
    rw [rwL_len S pre ts (i + 1)]
theorem rwL_at (S : List (List Int)) (pre : List Int) : ∀ (ts : List Tr) (i j : Nat), (Tr.rwL S pre i ts)[j]? = (ts[j]?).map (Tr.rw S (pre ++ [((i + j : Nat) : Int)]))
  | [], _, _ => rfl
  | t :: ts, i, 0 => rfl
  | t :: ts, i, j + 1 => by
    show (Tr.rwL S pre (i + 1) ts)[j]? = (ts[j]?).map _
    rw [rwL_at S pre ts (i + 1) j, show i + 1 + j = i + (j + 1) by omega]
theorem rwL_eq {S R : List (List Int)} {pre : List Int} : ∀ (ts : List Tr) (i : Nat), (∀ j t, ts[j]? = some t → Tr.rw S (pre ++ [((i + j : Nat) : Int)]) t = Tr.rw R (pre ++ [((i + j : Nat) : Int)]) t) → Tr.rwL S pre i ts = Tr.rwL R pre i ts
  | [], _, _ => rfl
  | t :: ts, i, h => by
    show Tr.rw S _ t :: Tr.rwL S pre (i + 1) ts = Tr.rw R _ t :: Tr.rwL R pre (i + 1) ts
    have h0 := h 0 t rfl
    rw [Nat.add_zero] at h0
    have h1 := rwL_eq (S := S) (R := R) (pre := pre) ts (i + 1) fun j t e => by
      have := h (j + 1) t (by simpa using e)
      rw [show i + 1 + j = i + (j + 1) by omega]
      exact this
    rw [h0, h1]
/-- a path that does not begin so changes nothing -/
theorem rw_irrel {S : List (List Int)} {q : List Int} (t : Tr) : ∀ (pre : List Int), (∀ r, q ≠ pre ++ r) → Tr.rw (S ++ [q]) pre t = Tr.rw S pre t := by
  refine tr_ind (P := fun t => ∀ (pre : List Int), (∀ r, q ≠ pre ++ r) → Tr.rw (S ++ [q]) pre t = Tr.rw S pre t) (fun h ps ih pre hq => ?_) t
  show Tr.mk (reword (decide (pre ∈ S ++ [q])) h) (Tr.rwL (S ++ [q]) pre 0 ps) = Tr.mk (reword (decide (pre ∈ S)) h) (Tr.rwL S pre 0 ps)
  have e1 : decide (pre ∈ S ++ [q]) = decide (pre ∈ S) := by
    have n : pre ≠ q := fun e => hq [] (by rw [e, List.append_nil])
    simp [n]
  rw [e1, rwL_eq ps 0 fun j t e => ih t (List.mem_of_getElem? e) _ fun r z => hq ([((0 + j : Nat) : Int)] ++ r) (by rw [z, List.append_assoc])]
theorem put_rw {S : List (List Int)} : ∀ (p pre : List Int) (t : Tr) (x : Str) (b : Tr), Tr.at p t = some (.mk (.one "keep" x) [b]) →
    ∃ w b', Tr.at p (Tr.rw S pre t) = some (.mk (.one w x) [b']) ∧ Tr.put p (Tr.rw S pre t) (.mk (.one "once" x) [b']) = Tr.rw (S ++ [pre ++ p]) pre t
  | [], pre, t, x, b, e => by
    cases e
    have e2 : Tr.rw (S ++ [pre ++ []]) pre (.mk (.one "keep" x) [b]) = .mk (.one "once" x) [Tr.rw S (pre ++ [((0 : Nat) : Int)]) b] := by
      show Tr.mk (reword (decide (pre ∈ S ++ [pre ++ []])) (.one "keep" x)) [Tr.rw (S ++ [pre ++ []]) (pre ++ [((0 : Nat) : Int)]) b] = _
      rw [List.append_nil, rw_irrel b (pre ++ [((0 : Nat) : Int)]) fun r z => by
        have := congrArg List.length z
        simp at this]
      simp [reword]
    have e3 : ∃ w, reword (decide (pre ∈ S)) (.one "keep" x) = .one w x := by
      show ∃ w, (if decide (pre ∈ S) = true ∧ ("keep" : Str) = "keep" then Hd.one "once" x else Hd.one "keep" x) = .one w x
      split
      · exact ⟨_, rfl⟩
      · exact ⟨_, rfl⟩
    obtain ⟨w, e3⟩ := e3
    refine ⟨w, Tr.rw S (pre ++ [((0 : Nat) : Int)]) b, ?_, ?_⟩
    · show some (Tr.mk (reword (decide (pre ∈ S)) (.one "keep" x)) [Tr.rw S (pre ++ [((0 : Nat) : Int)]) b]) = _
      rw [e3]
    · rw [e2]
      rfl
  | i :: r, pre, .mk h ps, x, b, e => by
    have e' : (if 0 ≤ i then (ps[i.toNat]?).bind (Tr.at r) else none) = some (.mk (.one "keep" x) [b]) := e
    have h0 : 0 ≤ i := by
      by_cases q : 0 ≤ i
      · exact q
      · rw [if_neg q] at e'
        cases e'
    obtain ⟨m, rfl⟩ : ∃ m : Nat, i = (m : Int) := ⟨i.toNat, by omega⟩
    rw [if_pos h0, Int.toNat_natCast] at e'
    cases ec : ps[m]? with
    | none => rw [ec] at e'; cases e'
    | some c =>
      rw [ec] at e'
      obtain ⟨w, b', g1, g2⟩ := put_rw r (pre ++ [(m : Int)]) c x b e'
      have er : (Tr.rwL S pre 0 ps)[m]? = some (Tr.rw S (pre ++ [(m : Int)]) c) := by rw [rwL_at, ec, Nat.zero_add]; rfl
      refine ⟨w, b', ?_, ?_⟩
      · show (if 0 ≤ (m : Int) then ((Tr.rwL S pre 0 ps)[(m : Int).toNat]?).bind (Tr.at r) else none) = _
        rw [if_pos h0, Int.toNat_natCast, er]
        exact g1
      · show (match (Tr.rwL S pre 0 ps)[(m : Int).toNat]? with | some p => Tr.mk (reword (decide (pre ∈ S)) h) ((Tr.rwL S pre 0 ps).set (m : Int).toNat (Tr.put r p _)) | none => _) = _
        rw [Int.toNat_natCast, er]
        show Tr.mk (reword (decide (pre ∈ S)) h) ((Tr.rwL S pre 0 ps).set m (Tr.put r (Tr.rw S (pre ++ [(m : Int)]) c) (.mk (.one "once" x) [b']))) = Tr.mk (reword (decide (pre ∈ S ++ [pre ++ (m : Int) :: r])) h) (Tr.rwL (S ++ [pre ++ (m : Int) :: r]) pre 0 ps)
        rw [g2]
        have e1 : decide (pre ∈ S ++ [pre ++ (m : Int) :: r]) = decide (pre ∈ S) := by
          have n : pre ≠ pre ++ (m : Int) :: r := fun e => by
            have := congrArg List.length e
            simp at this
          simp [n]
        rw [e1]
        congr 1
        have hm : m < ps.length := (List.getElem?_eq_some_iff.mp ec).1
        refine List.ext_getElem? fun j => ?_
        rw [rwL_at]
        by_cases q : j = m
        · subst q
          rw [List.getElem?_set_self (by rw [rwL_len]; exact hm), ec, Nat.zero_add, List.append_assoc]
          rfl
        · rw [List.getElem?_set_ne (Ne.symm q), rwL_at]
          cases ej : ps[j]? with
          | none => rfl
          | some d =>
            show some _ = some _
            rw [rw_irrel d (pre ++ [((0 + j : Nat) : Int)]) fun r' z => q ?_]
            rw [List.append_assoc] at z
            have z2 := List.append_cancel_left z
            simp at z2
            omega
end Cm

/-! paths as data: equality, being in a list -/
namespace Cm
open PySem L2 PySem.Spec PyProof.Rows
theorem eqvAll_intsP : ∀ a b : List Int, PyData.eqvAll (a.map PyData.int) (b.map PyData.int) = decide (a = b)
  | [], [] => by simp [PyData.eqvAll]
  | [], b :: bs => by simp [PyData.eqvAll]
  | a :: as, [] => by simp [PyData.eqvAll]
  | a :: as, b :: bs => by
    have ih := eqvAll_intsP as bs
    simp only [List.map_cons, PyData.eqvAll, PyData.eqv, ih]
    by_cases h : a = b
    · by_cases h2 : as = bs <;> simp [h, h2]
    · simp [h]
theorem eqv_path (a b : List Int) : PyData.eqv (pathI a) (pathI b) = decide (a = b) := by
  have := eqvAll_intsP a b
  simp only [pathI, PyData.eqv]
  exact this
theorem any_path (S : List (List Int)) (p : List Int) : ((S.map pathI).any fun z => PyData.eqv z (pathI p)) = decide (p ∈ S) := by
  induction S with
  | nil => rfl
  | cons s S ih =>
    rw [List.map_cons, List.any_cons, ih, eqv_path]
    by_cases h : s = p
    · simp [h]
    · have : ¬ p = s := fun z => h z.symm
      simp [h, this]
theorem lay_path (p : List Int) : Lay 1 (pathI p) := Lay.tup (n := 0) fun d hd => by
  obtain ⟨i, _, rfl⟩ := List.mem_map.mp hd
  exact .int i 0
theorem lay_paths (S : List (List Int)) : Lay 2 (.list (S.map pathI)) := Lay.lst fun d hd => by
  obtain ⟨i, _, rfl⟩ := List.mem_map.mp hd
  exact lay_path i
theorem lay_pathsT (S : List (List Int)) : Lay 2 (.tuple (S.map pathI)) := Lay.tup fun d hd => by
  obtain ⟨i, _, rfl⟩ := List.mem_map.mp hd
  exact lay_path i
theorem ko_notInD {X : Cx} {K : PySem.W.Frag} (hu : X.A.units + 65 < cLine) (h : X.K = K := by rfl) : OpR X (compareOp .NotIn) (rNotInD K) := by subst h; exact op_notInD hu
theorem ko_inD {X : Cx} {K : PySem.W.Frag} (hu : X.A.units + 65 < cLine) (h : X.K = K := by rfl) : OpR X (compareOp .In) (rInD K) := by subst h; exact op_inD hu
def rListOf (K : PySem.W.Frag) : List V → Hp → VK → Prop := fun xs H Q => ∃ p ys, xs = [.ref p] ∧ (SqL K H p ys ∨ SqT K H p ys) ∧ ∀ l, H l = Option.none → Q (.ref l) (upd H l (.lst ys))
theorem kc_listOf {X : Cx} {K : PySem.W.Frag} (h : X.K = K := by rfl) : CallR X (.type "list") (rListOf K) := by subst h; exact call_list_of
theorem room65 {k : Nat} {A : Around} (r : Room k A) : A.units + 65 < cLine := by have := r.un; omega
end Cm

/-! an exception that is caught and kept as a value -/
namespace Cm
open PySem L2 PySem.Spec PyProof.Rows
/-- an exception object at a: its class, its dict -/
def ExH (a : Addr) (cls : Value) (d : Option Addr) : HO := .ext fun h => ∃ (o : Obj) (vs : Array Value), h.get? a = some o ∧ Zc cls d o ∧ o.data = .fields vs
theorem exH_ok {P : Program} {w : World} {H : Hp} {h : Heap} {a : Addr} {cls : Value} {d : Option Addr} {o : Obj} {vs : Array Value} (e : h.get? a = some o) (z : Zc cls d o) (f : o.data = .fields vs) : ObjOk P w H h a (ExH a cls d) :=
  ⟨⟨o, vs, e, z, f⟩, ⟨o, e⟩, fun h1 h2 ⟨o', vs', e', z', f'⟩ k => ⟨o', vs', k _ e', z', f'⟩⟩
theorem exH_at {P : Program} {w : World} {H : Hp} {h : Heap} {a : Addr} {cls : Value} {d : Option Addr} (hok : HOk P w H h) (e : H a = some (ExH a cls d)) : ∃ (o : Obj) (vs : Array Value), h.get? a = some o ∧ Zc cls d o ∧ o.data = .fields vs := by
  have x : ObjOk P w H h a (ExH a cls d) := hok a _ e
  exact x.1
section
variable {X : Cx} {pins : List (Addr × Obj)} {σ : L2.St} {H : Hp} {s : Shared}
theorem track {a : Addr} {o : HO} (I : Inv X pins σ H s) (na : H a = Option.none) (n0 : X.s_0.heap.get? a = Option.none) (nL : a ≠ X.env.locals) (nC : ∀ x c, X.env.cells.lookup x = some c → c ≠ a) (nP : ∀ p ∈ X.pn ++ pins, p.1 ≠ a)
    (new : ObjOk X.prog X.w (upd H a o) s.heap a o) : Inv X pins σ (upd H a o) s := by
  have other : ∀ {b : Addr} {u : HO}, H b = some u → (upd H a o) b = some u := fun {b u} e => by
    rw [upd_ne (ne_of_none e na)]
    exact e
  refine ⟨I.ok, I.os, I.bare, ⟨I.base.keep, I.base.slot, fun b u e n hx => ?_, I.base.there, fun b xs e => other (I.base.tups b xs e), fun b u xs e => other (I.base.frzs b u xs e), fun b ps e => ?_⟩, I.loc, I.cell, ?_, fun x c e => ?_, fun p hp => ?_, fun b u e => ?_, I.len⟩
  · have hb : b ≠ a := fun z => by
      rw [z, n0] at e
      cases e
    rw [upd_ne hb]
    exact I.base.free b u e n hx
  · obtain ⟨more, q⟩ := I.base.tbls b ps e
    exact ⟨more, other q⟩
  · rw [upd_ne nL.symm]
    exact I.free
  · rw [upd_ne (nC x c e)]
    exact I.freeC x c e
  · obtain ⟨e, n, ne, nf, dd⟩ := I.pin p hp
    exact ⟨e, by rw [upd_ne (nP p hp)]; exact n, ne, nf, dd⟩
  · by_cases hb : b = a
    · subst hb
      rw [upd_same] at e
      cases e
      exact new
    · rw [upd_ne hb] at e
      exact (I.hok b u e).stay (fun c v _ q => q) (fun c q => other q) fun c xs q => other q
theorem suite0 (I : Inv X pins σ H s) (a : Addr) : Inv (X.suite a (X.pn ++ pins)) [] σ H s :=
  ⟨I.ok.suite _ _, I.os, I.bare, I.base, I.loc, I.cell, I.free, I.freeC, fun p hp => I.pin p (by rw [List.append_nil] at hp; exact hp), I.hok, I.len⟩
theorem unsuite0 {a : Addr} {pn' : List (Addr × Obj)} (I : Inv (X.suite a (X.pn ++ pins)) pn' σ H s) (ok : X.Ok) : Inv X pins σ H s :=
  ⟨ok, I.os, I.bare, I.base, I.loc, I.cell, I.free, I.freeC, fun p hp => I.pin p (List.mem_append_left _ hp), I.hok, I.len⟩
end
/-- what the clause asks where the caught exception is kept -/
def wHeld (K : PySem.W.Frag) (c : Value) (i : Nat) (ts : Addr → TS) (D : Ends) : WX := fun cls d σ H =>
  PySem.W.exmOne K cls c = some true ∧ ∀ a, H a = Option.none → ts a { nx := fun σ' H' => D.nx (σ'.set i Option.none) H', rt := D.rt, bk := fun σ' H' => D.bk (σ'.set i Option.none) H', ct := fun σ' H' => D.ct (σ'.set i Option.none) H' } (σ.set i (some (.ref a))) (upd H a (ExH a cls d))
section
variable {X : Cx} {x n : Str} {c : Value} {i : Nat} {body suite : List Stmt} {b₀ : Stmt} {np pos pos' : Pos} {tb : WX → TS} {ts : Addr → TS}
theorem ps_try_held (hs : X.stack = X.env :: X.outer) (hf : X.env.frame = some X.env.locals) (hN : X.N.Nodup) (hi : X.N[i]? = some n) (hln : X.env.kindOf n = some .local) (hc : Names X x c) (hex : X.ex = [])
    (hb : ∀ (W : WX) (pn : List (Addr × Obj)) (xe : Value → Shared → Prop), Takes (X.tr pn xe) W → PassesOwn (model X.prog X.w) X.A X.env xe → PSs (X.tr pn xe) body (tb W))
    (hsu : ∀ (a : Addr) (pn : List (Addr × Obj)), PSs (X.suite a pn) (b₀ :: suite) (ts a)) :
    PS X (.Try body [.ExceptHandler (some (.Name x np)) (some n) (b₀ :: suite) pos'] [] [] pos) (fun D σ H => tb (wHeld X.K c i ts D) D σ H) := by
  refine ⟨fun pins s σ H D I h => ?_⟩
  have ok := I.ok
  have hfr : X.A.frames = some (X.env :: X.outer) := by rw [ok.frames, hs]
  refine wpAny_Try_except ?_
  refine wpAny_mono ((hb (wHeld X.K c i ts D) (X.pn ++ pins) (fun e s₁ => wpAny (model X.prog X.w) X.A (noteFrame e X.env) (fun _ s₂ => wpAny (model X.prog X.w) X.A (setFlight e Option.none) (fun _ s₃ =>
    wpAny (model X.prog X.w) X.A (handleBy e X.env [.ExceptHandler (some (.Name x np)) (some n) (b₀ :: suite) pos']) (SP X pins D) X.xe s₃) X.xe s₂) X.xe s₁) (fun u s' xx => ?_) PassesOwn.looking).run [] s σ H D (I.toTry _) h) (fun f s1 hsp => ?_) (fun e s1 he => he)
  · obtain ⟨a, B, sI, pins', σ', H', cls, d, rfl, J', nb, up, sky, na, os, ag, hb1, hyes⟩ := xx
    have J : Inv X pins σ' H' sI := J'.ofTry ok
    have sky' : Sky B (X.env :: X.outer) a (Zc cls d) X.env.locals s'.heap := by rw [← hs]; exact sky
    show wpAny _ _ (noteFrame (.ref a) X.env) _ _ _
    refine Sky.land Zc.steady hfr hf sky' fun h3 fl3 up3 => ?_
    have J3 : Inv X pins σ' H' { s' with heap := h3 } := J.landed nb fl3.1 (up.trans up3) os ag
    obtain ⟨oe3, vs3, he3, hz3, hd3⟩ := fl3.there
    have nfr : a ∉ frs X.stack := fun hm => by
      rw [hs] at hm
      obtain ⟨_, o', e', hnf⟩ := fl3.2.2.1.mem hm
      rw [he3] at e'
      cases e'
      exact hnf _ hd3
    have nsI : sI.heap.get? a = Option.none := by
      cases q : sI.heap.get? a with
      | none => rfl
      | some o =>
        have z := nb a o q nfr
        rw [fl3.2.1] at z
        cases z
    have n0 : X.s_0.heap.get? a = Option.none := by
      cases q : X.s_0.heap.get? a with
      | none => rfl
      | some o =>
        obtain ⟨o', z⟩ := J.base.there a o q (by rw [hex]; exact List.not_mem_nil)
        rw [nsI] at z
        cases z
    have nL : a ≠ X.env.locals := fun z => nfr (by
      rw [hs]
      exact List.mem_filterMap.mpr ⟨X.env, List.mem_cons_self, by rw [hf, z]⟩)
    have nC : ∀ y c, X.env.cells.lookup y = some c → c ≠ a := fun y c e z => by
      obtain ⟨v, o, ho, _⟩ := J.cell y c e
      rw [z, nsI] at ho
      cases ho
    have nP : ∀ p ∈ X.pn ++ pins, p.1 ≠ a := fun p hp z => by
      have q := (J.pin p hp).1
      rw [z, nsI] at q
      cases q
    have S3 := suite0 J3 a
    refine wpAny_handleBy_cons (codeAny_handlers_test ?_) (by intro q; cases q)
    have LT : PySem.W.Looks (model X.prog X.w) h3 (typeOf (.ref a)) cls := fun A Q E s k q => wpAny_typeOf_ref (k _ _ he3) (by rw [hz3.1]; exact q)
    have LM := PySem.W.exm_one (M := model X.prog X.w) (J3.kIn) LT hb1
    have test : ∀ {Q : Value → Shared → Prop} {E : Value → Shared → Prop}, Q c { s' with heap := h3 } → wpAny (model X.prog X.w) (X.A.mark (some (.ref a))) (eval (.Name x np) X.env) Q E { s' with heap := h3 } := fun {Q E} q => by
      obtain ⟨hg, hdbg, hm | ⟨hm, hv, hnn⟩⟩ := hc
      · exact ld_glob (X := X.suite a (X.pn ++ pins)) S3 hg hm q hdbg
      · exact ld_blt (X := X.suite a (X.pn ++ pins)) S3 hg hm hv q hnn hdbg
    refine test (LM.here ?_)
    refine codeAny_handlers_suite_as ?_
    refine HandSPX.lands_againZ fl3 fun h4 fl4 up4 => ?_
    have J4 : Inv X pins σ' H' { s' with heap := h4 } := J.landed nb fl4.1 ((up.trans up3).trans up4) os ag
    obtain ⟨oe4, vs4, he4, hz4, hd4⟩ := fl4.there
    have T4 := track (o := ExH a cls d) J4 na n0 nL nC nP (exH_ok he4 hz4 hd4)
    have S4 := suite0 T4 a
    refine store_ok (X := X.suite a (X.pn ++ pins)) (v := .ref a) S4 hN hi (.inl hln) rfl (fun s5 S5 => ?_) (.inr hln)
    refine wpAny_mono ((hsu a (X.pn ++ pins)).run [] s5 _ _ _ S5 (hyes a na)) (fun f s6 hsp => ?_) (fun _ _ z => False.elim z)
    have end_ : ∀ {σ6 : L2.St} {H6 : Hp} {Q : Shared → Prop}, Inv (X.suite a (X.pn ++ pins)) [] σ6 H6 s6 → (∀ s7, Inv X pins (σ6.set i Option.none) H6 s7 → Q s7) →
        wpAny (model X.prog X.w) X.A (do bindName X.env n .none; unbindBehindTheSuite X.env n pos') (fun _ s7 => Q s7) X.xe s6 := fun {σ6 H6 Q} S6 hq => gone_ok (unsuite0 S6 ok) hN hi hln hq
    cases f with
    | next =>
      obtain ⟨σ6, H6, S6, q6⟩ := hsp
      exact end_ S6 fun s7 J7 => ⟨_, _, J7, q6⟩
    | brk =>
      obtain ⟨σ6, H6, S6, q6⟩ := hsp
      exact end_ S6 fun s7 J7 => ⟨_, _, J7, q6⟩
    | cont =>
      obtain ⟨σ6, H6, S6, q6⟩ := hsp
      exact end_ S6 fun s7 J7 => ⟨_, _, J7, q6⟩
    | ret u =>
      obtain ⟨v6, σ6, H6, S6, r6, q6⟩ := hsp
      exact end_ S6 fun s7 J7 => ⟨_, _, _, J7, r6, q6⟩
  · cases f with
    | next =>
      obtain ⟨σ', H', J', q⟩ := hsp
      exact wpAny_execs_nil ⟨σ', H', J'.ofTry ok, q⟩
    | brk =>
      obtain ⟨σ', H', J', q⟩ := hsp
      exact ⟨σ', H', J'.ofTry ok, q⟩
    | cont =>
      obtain ⟨σ', H', J', q⟩ := hsp
      exact ⟨σ', H', J'.ofTry ok, q⟩
    | ret u =>
      obtain ⟨v, σ', H', J', r, q⟩ := hsp
      exact ⟨v, σ', H', J'.ofTry ok, r, q⟩
end
/-! ### isinstance(x, C), x a kept exception of just that class -/
theorem ans_same {x t : Value} {P : Heap → Prop} (ty : ∀ (M : Model) (h : Heap), P h → PySem.W.Looks M h (typeOf x) t) : Answers (fun s => P s.heap) x t true := by
  intro dep tk prog w A R s hs
  obtain ⟨h0, g, d, tt, os⟩ := s
  obtain ⟨p, hq⟩ := hs
  have LT := ty (model prog w) h0 p
  unfold Builtin.«isinstance.nested»
  refine wpAny_bind (LT.at ?_)
  have q : (t == t) = true := beq_self_eq_true t
  rw [if_pos q]
  first
    | exact wpAny_bind (wpAny_rule (hq tt))
    | exact wpAny_bind (wpAny_rule (wpAny_pure (hq tt)))
    | exact wpAny_pure (hq tt)
def rIsX : List V → Hp → VK → Prop := fun xs H Q => ∃ (a C : Addr) (d : Option Addr), xs = [.ref a, .ref C] ∧ H a = some (ExH a (.ref C) d) ∧ Q (.bl true) H
theorem call_isX {X : Cx} : CallR X (.builtin "isinstance") rIsX := by
  intro pins s σ H xs us Q I r h
  obtain ⟨a, C, d, rfl, e, q⟩ := h
  obtain ⟨u1, u2, rfl, r1, r2⟩ := vals2 r
  obtain rfl : u1 = Value.ref a := r1
  obtain rfl : u2 = Value.ref C := r2
  obtain ⟨o, vs, ho, z, f⟩ := exH_at I.hok e
  refine call_isinstance (S := fun _ R s => (∃ o, s.heap.get? a = some o ∧ o.cls = .ref C) ∧ ∀ tk, R (.ok (.ret (.bool true))) { s with toks := tk })
    (fun prog w A R s hs => isinstance_outer (ans_same (P := fun h => ∃ o, h.get? a = some o ∧ o.cls = .ref C) (fun M h ⟨o, e, c⟩ => fun A Q E s k q => wpAny_typeOf_ref (k _ _ e) (by rw [c]; exact q)) 0 _ prog w A R s hs) (fun z => nomatch z)) ⟨⟨o, ho, z.1⟩, fun tk => ⟨.bl true, H, I.tok tk, rfl, q⟩⟩
/-! ### x.f, x a kept exception -/
def tFldX (K : PySem.W.Frag) (f : Str) (te : TE) : TE := fun σ H Q => te σ H fun x H1 => ∃ (a C dd : Addr) (fs : List (Str × V)) (v : V), x = .ref a ∧ XfC K C ∧ PySem.W.findIn K (.ref C) f = some Option.none ∧ H1 a = some (ExH a (.ref C) (some dd)) ∧ H1 dd = some (.xd fs) ∧ fs.lookup f = some v ∧ Q v H1
theorem pe_fldX {X : Cx} {e : Expr} {te : TE} {pos : Pos} {n : Str} (he : PE X e te) (hb : attributeBase e n X.env (eval e X.env) = eval e X.env := by rfl) : PE X (.Attribute e n pos) (tFldX X.K n te) := by
  refine ⟨fun pins s σ H Q I h => ?_⟩
  refine attr_of hb (thn (he.run pins s σ H _ I h) fun u s1 hh => ?_)
  obtain ⟨x, H1, I1, rx, a, C, dd, fs, v, ex, T, hno, eh, ea, l, q⟩ := hh
  subst ex
  obtain rfl : u = Value.ref a := rx
  obtain ⟨oe, vs, ha, hz, hd⟩ := exH_at I1.hok eh
  have hx : ObjOk X.prog X.w H1 s1.heap dd (.xd fs) := I1.hok dd _ ea
  obtain ⟨mA, hns, hr⟩ := hx
  obtain ⟨od, ho, hl⟩ := lookIn_ns hns
  obtain ⟨u, hu, ru⟩ := RelO.some_of (v := v) (o := mA n) (by rw [← l]; exact hr n)
  have J : PySem.W.InstAt s1.heap a oe C (some od) := ⟨ha, hz.1, by unfold PySem.W.notCls; rw [hd] <;> rfl, by rw [hz.2]; exact ho⟩
  exact HandSPX.exc_get I1.kIn J T.ga T.gg T.exC (PySem.W.findObj_own T.hdC hno rfl (by rw [hl, hu])) (handed_of ru) ⟨v, H1, I1.tok _, ru, q⟩
end Cm

set_option linter.all false
/-! a tuple times 0, 1, 2, .. -/
namespace L2
open PySem PySem.Spec PyProof.Rows
theorem tuple_mul1 (l : Addr) (items : Array Value) (n : Nat) (dd : Option Addr) (sl : Array (Option Value)) (u : Tok) :
    Meets (Builtin.«tuple.__mul__» ⟨[.ref l, .int 1 u], []⟩) (fun _ R s => s.heap.get? l = some { cls := .type "tuple", dict := dd, data := .seq items n, slots := sl } ∧ R (.ok (.ret (Value.ref l))) s) :=
  .of_wp fun prog w A R s h => by
    obtain ⟨hp, g, d, tk, os⟩ := s
    obtain ⟨hl, h⟩ := h
    have f1 := AutoSeq1.idx_int
    wp_walk using wpAny_loadPart' hl
    exact ⟨_, rfl, h⟩
theorem tuple_mul0 (l : Addr) (items : Array Value) (n : Nat) (dd : Option Addr) (sl : Array (Option Value)) (u : Tok) (hne : items.isEmpty = false) :
    Meets (Builtin.«tuple.__mul__» ⟨[.ref l, .int 0 u], []⟩) (fun _ R s => s.heap.get? l = some { cls := .type "tuple", dict := dd, data := .seq items n, slots := sl } ∧
      R (.ok (.ret (Value.ref s.heap.objs.size))) { s with heap := s.heap.push { cls := Value.type "tuple", data := Data.seq #[] }, toks := s.toks }) :=
  .of_wp fun prog w A R s h => by
    obtain ⟨hp, g, d, tk, os⟩ := s
    obtain ⟨hl, h⟩ := h
    have f1 := AutoSeq1.idx_int
    have c1 : (items.isEmpty || (0 : Int) == 1) = false := by rw [hne]; rfl
    wp_walk using wpAny_loadPart' hl
    repeat (first
      | (refine wpAny_ite_false (decide_eq_false (by rw [c1]; exact Bool.false_ne_true)) ?_; wp_walk using wpAny_loadPart' hl)
      | (refine wpAny_ite_true (decide_eq_true (by simp)) ?_; wp_walk using wpAny_loadPart' hl))
    exact ⟨_, rfl, h⟩
def rRepA (K : PySem.W.Frag) : R2 := fun x y H Q => ∃ (l : Addr) (k : Nat) (xs : List V), x = .ref l ∧ y = .int (k : Nat) ∧ SqT K H l xs ∧ xs ≠ [] ∧ k ≤ 1000 ∧ xs.length ≤ 1000 ∧
  ∀ t H', Same H H' → SqT K H' t (List.replicate k xs).flatten → Q (.ref t) H'
theorem op_repA {X : Cx} : OpR X (binaryOp .Mult) (rRepA X.K) := by
  intro pins s σ H x y v u Q I rx ry h
  obtain ⟨l, k, xs, rfl, rfl, hT, hne, h2, hz, q⟩ := h
  by_cases hk : 2 ≤ k
  · refine op_repT pins s σ H _ _ v u Q I rx ry ⟨l, (k : Int), xs, rfl, rfl, hT, hne, by omega, by omega, hz, fun p hp => ?_⟩
    rw [Int.toNat_natCast]
    exact q p _ (Cm.same_new hp) (.inl (.inl upd_same))
  cases rx
  obtain ⟨t, rfl⟩ := ry
  obtain ⟨its, r, ⟨⟨cls, dd, data, sl⟩, ho, hc, n, hd⟩, hs⟩ := I.tuple hT
  simp only at hc hd
  subst hc hd
  have hi : its.toArray.isEmpty = false := by
    cases its with
    | nil =>
      have := r.length
      exact absurd (List.eq_nil_of_length_eq_zero this) hne
    | cons a b => rfl
  by_cases h1 : k = 1
  · subst h1
    refine wpAny_binaryOp_repeat_ref (T := "tuple") (U := "int") (by decide) ⟨_, ho, rfl⟩ (fun s' => typeIs_int s' 1 t) noFill_tuple_mul F.fills_int_mul F.slot_int_rmul repeat_tuple F.slot_int_index.lookup
      (call_meets F.slot_int_rmul (typeIs_int s 1 t) F.entry_int_rmul (F.args_int_rmul_2 _ _) (int_rmul_tuple 1 t l its.toArray n dd sl)
        ⟨ho, rfl, ⟨_, ho, rfl⟩, call_meets F.slot_tuple_mul ⟨_, ho, rfl⟩ F.entry_tuple_mul (F.args_tuple_mul_2 _ _) (tuple_mul1 l its.toArray n dd sl t) ⟨ho, ?_⟩⟩)
    refine ⟨.ref l, H, I, rfl, q l H (Same.refl H) ?_⟩
    have e : (List.replicate 1 xs).flatten = xs := by simp
    rw [e]
    exact hT
  · have h0 : k = 0 := by omega
    subst h0
    refine wpAny_binaryOp_repeat_ref (T := "tuple") (U := "int") (by decide) ⟨_, ho, rfl⟩ (fun s' => typeIs_int s' 0 t) noFill_tuple_mul F.fills_int_mul F.slot_int_rmul repeat_tuple F.slot_int_index.lookup
      (call_meets F.slot_int_rmul (typeIs_int s 0 t) F.entry_int_rmul (F.args_int_rmul_2 _ _) (int_rmul_tuple 0 t l its.toArray n dd sl)
        ⟨ho, rfl, ⟨_, ho, rfl⟩, call_meets F.slot_tuple_mul ⟨_, ho, rfl⟩ F.entry_tuple_mul (F.args_tuple_mul_2 _ _) (tuple_mul0 l its.toArray n dd sl t hi) ⟨ho, ?_⟩⟩)
    have hn := I.hok.fresh (Nat.le_refl s.heap.objs.size)
    refine ⟨.ref s.heap.objs.size, _, I.laid (t' := s.toks) (o := .tup []) (fun b ob q => Heap.get?_push_of_some _ q) (Nat.le_refl _) ?_, rfl, q _ _ (Cm.same_new hn) (.inl (.inl upd_same))⟩
    exact ⟨by show 0 ≤ sizeLine; rw [sizeLine_eq]; omega, [], .nil, IsTup.new _ _⟩
end L2

set_option linter.all false
/-! sorted of texts and of a dict with text keys, of any length; rows of texts in order -/
namespace Cm
open PySem L2 PySem.Spec PyProof.Rows
section
variable {X : Cx}
def rSortedSA (K : PySem.W.Frag) : List V → Hp → VK → Prop := fun vs H Q => ∃ (a : Addr) (xs : List Str), vs = [V.ref a] ∧ SqL K H a (xs.map V.str) ∧
  ∀ (ys : List Str) (p : Addr), ys.Perm xs → sortedS ys = true → H p = Option.none → Q (.ref p) (upd H p (.lst (ys.map V.str)))
theorem cr_sortedSA : CallR X (.builtin "sorted") (rSortedSA X.K) := by
  intro pins s σ H vs us Q I r h
  obtain ⟨a, xs, rfl, hs, q⟩ := h
  obtain ⟨its, rv, hl, hz⟩ := I.list hs
  rw [Vals.ref1 r]
  have hlen0 := rv.length
  rw [List.length_map] at hlen0 hz
  refine PyProof.Rows.sorted_strsAny hl.isList rv.strs (by rw [← hlen0]; exact hz) fun out ys h1 h2 h3 => ?_
  obtain ⟨ep, he'⟩ := PyProof.Rows.sortedAll_at s.heap its out
  have hlen : (ys.map V.str).length ≤ sizeLine := by rw [List.length_map, h2.length_eq]; exact hz
  exact ⟨.ref _, upd H (s.heap.objs.size + 1) (.lst (ys.map V.str)), I.laid (t' := s.toks) (fun _ _ => PyProof.Rows.sortedAll_old) (Nat.le_succ _) ⟨hlen, out.toList, ep, vals_of_strs h1, he'⟩, rfl, q ys _ h2 h3 (I.hok.fresh (Nat.le_succ _))⟩
def rSortedDA : List V → Hp → VK → Prop := fun xs H Q => ∃ (a : Addr) (kvs : List (Key × V)) (ks : List Str), xs = [.ref a] ∧ Rd H a (.dK kvs) ∧ kvs.map (·.1) = ks.map Sum.inr ∧ ks.length ≤ 16000000 ∧
    ∀ ys p, ys.Perm ks → sortedS ys = true → H p = Option.none → Q (.ref p) (upd H p (.lst (ys.map V.str)))
theorem call_sortedDA (hcalm : X.calm = true) : CallR X (.builtin "sorted") rSortedDA := by
  intro pins s σ H xs us Q I r q
  obtain ⟨a, kvs, ks, ex, hd, hks, h64, q⟩ := q
  subst ex
  obtain ⟨u, eu, rx⟩ := vals1 r
  subst eu
  cases rx
  obtain ⟨z, lo, vs, rel, dd⟩ := dk_rd I.hok hd
  obtain ⟨ep, hat⟩ := dd.dictAt
  have hkeys : vs.map (·.1) = ks.map Sum.inr := rel.keys.symm.trans hks
  have hl : vs.length = ks.length := by
    have e := congrArg List.length hkeys
    rw [List.length_map, List.length_map] at e
    exact e
  have h16 : vs.length ≤ sizeLine := by rw [hl, sizeLine_eq]; omega
  refine Calls.call_function_entry PyProof.Rows.kind_sorted PyProof.Rows.plain_sorted PyProof.Rows.entry_sorted (PyProof.Rows.args_sorted1 _) ?_
  unfold Builtin.«sorted»
  refine wpAny_bind (m := checkCount "sorted" 1 1 _) (wpAny_pure ?_)
  refine wpAny_bind (PySem.W.kdu_collect (A := X.A.in1) (PySem.W.kdl_dict (knd := mixKind X.prog X.w) (kvs := vs) (ep := ep) lo) (I.ok.hd hcalm) hat h16 fun h' tk acc hk hacc => ?_)
  have hal : acc.toList.length = ks.length := by rw [Array.length_toList, hacc.1, hl]
  have hS : StrsAre acc.toList ks := strs_at hal fun j v e => by
    obtain ⟨k, x, e1, e2⟩ := hacc.2 j v (by rw [← Array.getElem?_toList]; exact e)
    have e3 : (vs.map (·.1))[j]? = some k := by rw [List.getElem?_map, e1]; all_goals rfl
    rw [hkeys, List.getElem?_map] at e3
    cases e4 : ks[j]? with
    | none => rw [e4] at e3; cases e3
    | some y =>
      rw [e4] at e3
      have e5 : Sum.inr y = k := Option.some.inj e3
      subst e5
      obtain ⟨t, ev⟩ := Value.isStrOf_shape (x := y) (v := v) e2
      exact ⟨y, t, rfl, ev⟩
  have I1 : Inv X pins σ H { s with heap := h', toks := tk } := I.kept hk
  refine wpAny_bind (wpAny_newList ?_ (by rw [hal, sizeLine_eq]; omega))
  have hoL : (h'.push (seqObj "list" acc.toList.toArray 0)).get? h'.objs.size = some (seqObj "list" acc.toList.toArray 0) := Heap.get?_push_size _ rfl
  show wpAny _ _ _ _ _ { s with heap := h'.push (seqObj "list" acc.toList.toArray 0), toks := tk }
  refine wpAny_bind (wpAny_holding (wpAny_call_entry PyProof.Rows.slot_list_sort ⟨_, hoL, rfl⟩ PyProof.Rows.entry_list_sort
    (list_sort_treeKAny strKind_oneLt (s := { s with heap := h'.push (seqObj "list" acc.toList.toArray 0), toks := tk }) hoL hS.keysOf (fun v₁ v₂ rest e => keyKind_strs (by rw [← e]; exact hS)) (by rw [hal, sizeLine_eq]; omega) fun st' hp hs => ⟨_, rfl, ?_⟩)
    (PyProof.Rows.args_list_sort _)))
  obtain ⟨ys, g1, g2, g3⟩ := sorted_out_str hS hp hs
  obtain ⟨e', he'⟩ := PyProof.Rows.sortedHeap_at (vs := acc.toList) (out := (arrOf st').map (·.2)) hoL
  have hlen : (ys.map V.str).length ≤ sizeLine := by
    rw [List.length_map, g2.length_eq, sizeLine_eq]
    omega
  refine wpAny_pure ⟨_, rfl, .ref h'.objs.size, upd H h'.objs.size (.lst (ys.map V.str)), I1.laid (t' := tk) (fun b u e => ?_) (Nat.le_refl _)
    (show ObjOk X.prog X.w _ _ _ (.lst (ys.map V.str)) from ⟨hlen, ((arrOf st').map (·.2)).toList, e', vals_of_strs g1, by rw [Array.toArray_toList]; exact he'⟩), rfl, q ys _ g2 g3 (I1.hok.fresh (Nat.le_refl _))⟩
  have hb : b < h'.objs.size := Heap.lt_size e
  rw [PyProof.Rows.sortedHeap_old (Nat.ne_of_lt hb) (by rw [size_push']; exact Nat.lt_succ_of_lt hb)]
  exact Heap.get?_push_of_some _ e
end
/-! ### rows of texts in order -/
def leS (a b : Str) : Prop := ¬ b.cps.toList < a.cps.toList
theorem leS.tr {a b c : Str} (h : leS a b) (k : leS b c) : leS a c := fun z =>
  absurd z (List.not_lt.mpr (List.le_trans (show a.cps.toList ≤ b.cps.toList from h) (show b.cps.toList ≤ c.cps.toList from k)))
theorem leS.eq {a b : Str} (h : leS a b) (k : leS b a) : a = b := by
  have e : a.cps.toList = b.cps.toList := List.le_antisymm (show a.cps.toList ≤ b.cps.toList from h) (show b.cps.toList ≤ a.cps.toList from k)
  cases a with
  | mk x => cases b with
    | mk y =>
      have e' : x = y := Array.toList_inj.mp e
      rw [e']
theorem leS.refl (a : Str) : leS a a := List.lt_irrefl _
theorem rising_le : ∀ (l : List Str) (p : Str), risingS p l = true → (p :: l).Pairwise leS
  | [], p, _ => List.pairwise_singleton _ _
  | x :: r, p, h => by
    have h' : (!ltCps x.cps.toList p.cps.toList && risingS x r) = true := h
    rw [Bool.and_eq_true] at h'
    have ih := rising_le r x h'.2
    have le : leS p x := fun z => by
      have := h'.1
      rw [ltCps_eq, decide_eq_true z] at this
      cases this
    refine List.pairwise_cons.mpr ⟨fun y hy => ?_, ih⟩
    rcases List.mem_cons.mp hy with rfl | hy
    · exact le
    · exact le.tr ((List.pairwise_cons.mp ih).1 y hy)
theorem sorted_le : ∀ {l : List Str}, sortedS l = true → l.Pairwise leS
  | [], _ => .nil
  | x :: r, h => rising_le r x h
/-- ascending, without doubles -/
structure Asc (l : List Str) : Prop where
  le : l.Pairwise leS
  nd : l.Nodup
theorem Asc.uniq : ∀ {l m : List Str}, Asc l → Asc m → (∀ x, x ∈ l ↔ x ∈ m) → l = m := fun {l m} hl hm h => by
  have p : l.Perm m := (List.perm_ext_iff_of_nodup hl.nd hm.nd).mpr h
  exact List.Perm.eq_of_pairwise (fun a b _ _ h k => leS.eq h k) hl.le hm.le p
theorem asc_of {l ys : List Str} (h : ys.Perm l) (s : sortedS ys = true) (n : l.Nodup) : Asc ys ∧ ∀ x, x ∈ ys ↔ x ∈ l :=
  ⟨⟨sorted_le s, h.nodup_iff.mpr n⟩, fun x => h.mem_iff⟩
/-- one more text, not less than those that stand -/
theorem Asc.snoc {l : List Str} {x : Str} (h : Asc l) (k : ∀ y ∈ l, leS y x) (n : l.getLast? ≠ some x) : Asc (l ++ [x]) := by
  have no : x ∉ l := fun m => by
    cases e : l.getLast? with
    | none => rw [List.getLast?_eq_none_iff] at e; rw [e] at m; cases m
    | some z =>
      obtain ⟨r, rfl⟩ := List.getLast?_eq_some_iff.mp e
      have hz : leS z x := k z (List.mem_append_right _ List.mem_cons_self)
      rcases List.mem_append.mp m with m | m
      · have hx : leS x z := (List.pairwise_append.mp h.le).2.2 x m z List.mem_cons_self
        exact n (by rw [e, hz.eq hx])
      · exact n (by rw [e, List.mem_singleton.mp m])
  refine ⟨List.pairwise_append.mpr ⟨h.le, List.pairwise_singleton _ _, fun a ha b hb => ?_⟩, List.nodup_append.mpr ⟨h.nd, List.nodup_cons.mpr ⟨List.not_mem_nil, List.nodup_nil⟩, fun a ha b hb e => ?_⟩⟩
  · rw [List.mem_singleton.mp hb]
    exact k a ha
  · rw [List.mem_singleton.mp hb] at e
    exact no (e ▸ ha)
/-! ### keys of a dict that are texts -/
theorem putK_keys {kvs : List (Key × V)} {ns : List Str} (h : kvs.map (·.1) = ns.map Sum.inr) (x : Str) (v : V) : (putK kvs (Sum.inr x) v).map (·.1) = (if x ∈ ns then ns else ns ++ [x]).map Sum.inr := by
  have a : (kvs.any fun kv => decide (kv.1 = Sum.inr x)) = decide (x ∈ ns) := by
    have e : (kvs.any fun kv => decide (kv.1 = Sum.inr x)) = (kvs.map (·.1)).any fun k => decide (k = Sum.inr x) := by rw [List.any_map]; rfl
    rw [e, h, List.any_map]
    clear h e
    induction ns with
    | nil => rfl
    | cons n ns ih =>
      rw [List.any_cons, ih]
      by_cases q : n = x
      · subst q
        simp
      · have : ¬ x = n := fun z => q z.symm
        simp [q, this]
  unfold putK
  rw [a]
  by_cases q : x ∈ ns
  · rw [if_pos (decide_eq_true q), if_pos q, List.map_map, ← h]
    refine List.map_congr_left fun kv _ => ?_
    show (if kv.1 = Sum.inr x then (kv.1, v) else kv).1 = kv.1
    split <;> rfl
  · rw [if_neg (by rw [decide_eq_false q]; exact Bool.false_ne_true), if_neg q, List.map_append, List.map_append, h]
    rfl
/-- what is kept but the dict d -/
structure Kd (d : Addr) (H H' : Hp) : Prop where
  st : ∀ a o, a ≠ d → H a = some o → H' a = some o
  d1 : ∃ kvs, H d = some (.dK kvs)
  d2 : ∃ kvs, H' d = some (.dK kvs)
theorem Kd.trans {d : Addr} {H H1 H2 : Hp} (a : Kd d H H1) (b : Kd d H1 H2) : Kd d H H2 := ⟨fun x o n e => b.st x o n (a.st x o n e), a.d1, b.d2⟩
theorem Kd.of_same {d : Addr} {H H' : Hp} {kvs : List (Key × V)} (h : H d = some (.dK kvs)) (s : Same H H') : Kd d H H' := ⟨fun x o _ e => s x o e, ⟨_, h⟩, ⟨_, s _ _ h⟩⟩
theorem Kd.put {d : Addr} {H : Hp} {kvs kvs' : List (Key × V)} (h : H d = some (.dK kvs)) : Kd d H (upd H d (.dK kvs')) := ⟨fun x o n e => by rw [upd_ne n]; exact e, ⟨_, h⟩, ⟨_, upd_same⟩⟩
theorem Kd.tup {d : Addr} {K : PySem.W.Frag} {H H' : Hp} {a : Addr} {xs : List V} (k : Kd d H H') (h : SqT K H a xs) : SqT K H' a xs := by
  have no : ∀ o, H a = some o → (∀ ys, o ≠ .dK ys) → a ≠ d := fun o e n m => by
    obtain ⟨ys, e2⟩ := k.d1
    rw [m, e2] at e
    exact n ys (Option.some.inj e).symm
  rcases h with (h | ⟨o, h⟩) | h
  · exact .inl (.inl (k.st _ _ (no _ h fun _ z => nomatch z) h))
  · exact .inl (.inr ⟨o, k.st _ _ (no _ h fun _ z => nomatch z) h⟩)
  · exact .inr h
theorem Kd.dp {d : Addr} {K : PySem.W.Frag} {H H' : Hp} (k : Kd d H H') {v : V} {x : PyData} (f : flatD x = true) (h : Dp K H v x) : Dp K H' v x := dp_keep (fun _ _ q => k.tup q) _ _ f h
theorem Kd.dps {d : Addr} {K : PySem.W.Frag} {H H' : Hp} (k : Kd d H H') {vs : List V} {ds : List PyData} (f : flatDs ds = true) (h : DpAll K H vs ds) : DpAll K H' vs ds := dps_keep (fun _ _ q => k.tup q) _ _ f h
/-- a comprehension over data, of any size -/
theorem lc_dataW {K : PySem.W.Frag} {J : It} {n : Nat} {G : Hp → Prop} {Y : Nat → Hp → V → Hp → Prop} (wk : Walk J n G Y) {g : TG} {tt : TT} {te : TE} {vs : List Nat} {σ : L2.St} {H1 : Hp} {D : Addr} {Qd : Hp → Prop} (R : Nat → Option PyData)
    (hD : H1 D = Option.none) (hn : n ≤ 16000000) (hG : ∀ H, Same H1 H → G H) (hfl : ∀ i < n, ∀ d, R i = some d → flatD d = true)
    (hs : ∀ i x H H', i < n → Same H1 H → Y i H x H' → ∀ (Q1 : VK) (Q0 : Hp → Prop), (∀ v H4 d, R i = some d → Same H H4 → Dp K H4 v d → Q1 v H4) → (∀ H3, R i = none → Same H H3 → Q0 H3) →
      g x (wipe σ vs) H' fun σ2 H2 => wipe σ2 vs = wipe σ vs ∧ tt σ2 H2 fun b H3 => if b = true then te σ2 H3 Q1 else Q0 H3)
    (hd : ∀ H acc, Same H1 H → H D = some (.lst acc) → DpAll K H acc ((List.range n).filterMap R) → Qd H) :
    ∃ W : Nat → Nat → Hp → Prop, (∃ m, W 0 m (upd H1 D (.lst []))) ∧ ∀ i m H, W i m H →
      (J.stop i H ∧ Qd H) ∨ (J.go i H ∧ ∃ Nx : Hp → Prop, (∀ H', Nx H' → ∃ m', m' < m ∧ W (i + 1) m' H') ∧ ∀ x H', J.yld i H x H' → g x (wipe σ vs) H' fun σ2 H2 => wipe σ2 vs = wipe σ vs ∧ tt σ2 H2 fun b H3 =>
        if b = true then te σ2 H3 fun y H4 => ∃ acc, H4 D = some (.lst acc) ∧ acc.length < sizeLine ∧ Nx (upd H4 D (.lst (acc ++ [y]))) else Nx H3) := by
  have fl : ∀ i ≤ n, flatDs ((List.range i).filterMap R) = true := fun i hi => flatDs_of _ fun d hd => by
    obtain ⟨j, hj, e⟩ := List.mem_filterMap.mp hd
    exact hfl j (by have := List.mem_range.mp hj; omega) d e
  refine lc_it wk (fun i H => ∃ acc, Same H1 H ∧ H D = some (.lst acc) ∧ DpAll K H acc ((List.range i).filterMap R) ∧ acc.length ≤ i) ⟨[], same_new hD, upd_same, .nil, Nat.le_refl _⟩ (fun i H _ z => ?_) ?_ ?_
  · obtain ⟨acc, s, _⟩ := z
    exact hG H s
  · rintro i x H H' hi ⟨acc, s, hacc, ha, hl⟩ y
    refine hs i x H H' hi s y _ _ (fun v H4 d e s4 hv => ?_) (fun H3 e s3 => ?_)
    · have hD4 := s4 _ _ hacc
      refine ⟨acc, hD4, (by rw [sizeLine_eq]; omega), acc ++ [v], same_put (s.trans s4) hD, upd_same, ?_, by rw [List.length_append]; exact Nat.succ_le_succ hl⟩
      rw [List.range_succ, List.filterMap_append]
      have e1 : ([i].filterMap R) = [d] := by simp [e]
      rw [e1]
      exact DpAll.snoc (dp_keep (fun _ _ q => sqt_put hD4 q) _ _ (hfl i hi d e) hv) (dps_keep (fun _ _ q => sqt_put hD4 q) _ _ (fl i (by omega)) (dps_same s4 _ _ ha))
    · refine ⟨acc, s.trans s3, s3 _ _ hacc, ?_, by omega⟩
      rw [List.range_succ, List.filterMap_append]
      have e1 : ([i].filterMap R) = [] := by simp [e]
      rw [e1, List.append_nil]
      exact dps_same s3 _ _ ha
  · rintro H ⟨acc, s, hacc, ha, _⟩
    exact hd H acc s hacc ha
end Cm

/-! a comprehension that draws, with a word on what was made so far -/
namespace Cm
open PySem L2 PySem.Spec PyProof.Rows
theorem lc_drawJ {K : PySem.W.Frag} {M : Addr → Prop} {I : It} {n : Nat} {G : Hp → Prop} {Y : Nat → Hp → V → Hp → Prop} (wk : Walk I n G Y) {g : TG} {tt : TT} {te : TE} {vs : List Nat} {σ : L2.St} {H1 : Hp} {D : Addr} {Qd : Hp → Prop}
    (J : Nat → List PyData → Hp → Prop) (hM : ∀ a, M a → ∃ xs, H1 a = some (.lst xs)) (h0 : J 0 [] (upd H1 D (.lst []))) (hJ : ∀ i ds H ys, Kp M H1 H → J i ds H → J i ds (upd H D (.lst ys)))
    (hD : H1 D = Option.none) (hn : n ≤ 100000) (hG : ∀ i ds H, Kp M H1 H → J i ds H → G H) (hfl : ∀ i ds H, J i ds H → flatDs ds = true)
    (hs : ∀ i x ds H H', i < n → Kp M H1 H → J i ds H → Y i H x H' → ∀ (Q1 : VK) (Q0 : Hp → Prop), (∀ v H4 d, Kp M H H4 → J (i + 1) (ds ++ [d]) H4 → Dp K H4 v d → Q1 v H4) → (∀ H3, Kp M H H3 → J (i + 1) ds H3 → Q0 H3) →
      g x (wipe σ vs) H' fun σ2 H2 => wipe σ2 vs = wipe σ vs ∧ tt σ2 H2 fun b H3 => if b = true then te σ2 H3 Q1 else Q0 H3)
    (hd : ∀ H acc ds, Kp M H1 H → J n ds H → H D = some (.lst acc) → DpAll K H acc ds → Qd H) :
    ∃ W : Nat → Nat → Hp → Prop, (∃ m, W 0 m (upd H1 D (.lst []))) ∧ ∀ i m H, W i m H →
      (I.stop i H ∧ Qd H) ∨ (I.go i H ∧ ∃ Nx : Hp → Prop, (∀ H', Nx H' → ∃ m', m' < m ∧ W (i + 1) m' H') ∧ ∀ x H', I.yld i H x H' → g x (wipe σ vs) H' fun σ2 H2 => wipe σ2 vs = wipe σ vs ∧ tt σ2 H2 fun b H3 =>
        if b = true then te σ2 H3 fun y H4 => ∃ acc, H4 D = some (.lst acc) ∧ acc.length < sizeLine ∧ Nx (upd H4 D (.lst (acc ++ [y]))) else Nx H3) := by
  have nM : ¬ M D := fun m => by
    obtain ⟨xs, e⟩ := hM D m
    rw [hD] at e
    cases e
  refine lc_it wk (fun i H => ∃ acc ds, Kp M H1 H ∧ J i ds H ∧ H D = some (.lst acc) ∧ DpAll K H acc ds ∧ acc.length ≤ i) ⟨[], [], Kp.new hM hD, h0, upd_same, .nil, Nat.le_refl _⟩ (fun i H _ z => ?_) ?_ ?_
  · obtain ⟨acc, ds, s, j, _⟩ := z
    exact hG i ds H s j
  · rintro i x H H' hi ⟨acc, ds, s, j, hacc, ha, hl⟩ y
    refine hs i x ds H H' hi s j y _ _ (fun v H4 d s4 j4 hv => ?_) (fun H3 s3 j3 => ?_)
    · have hD4 := s4.st _ _ nM hacc
      have f4 := hfl _ _ _ j4
      have f1 : flatDs ds = true := hfl _ _ _ j
      have f2 : flatD d = true := flatDs_all f4 d (List.mem_append_right _ (List.mem_singleton.mpr rfl))
      refine ⟨acc, hD4, Nat.lt_of_le_of_lt hl (Nat.lt_of_lt_of_le (show i < 100000 by omega) (by decide)), acc ++ [v], ds ++ [d], (s.trans s4).mut hD, hJ _ _ _ _ (s.trans s4) j4, upd_same, ?_, by rw [List.length_append]; exact Nat.succ_le_succ hl⟩
      exact DpAll.snoc (dp_keep (fun _ _ q => sqt_put hD4 q) _ _ f2 hv) (dps_keep (fun _ _ q => sqt_put hD4 q) _ _ f1 (dps_keep (fun _ _ q => s4.tup q) _ _ f1 ha))
    · exact ⟨acc, ds, s.trans s3, j3, s3.st _ _ nM hacc, dps_keep (fun _ _ q => s3.tup q) _ _ (hfl _ _ _ j) ha, by omega⟩
  · rintro H ⟨acc, ds, s, j, hacc, ha, _⟩
    exact hd H acc ds s j hacc ha
/-- a built-in method with arguments, where K is said -/
theorem ke_bm {X : Cx} {K : PySem.W.Frag} {T : String} {name : Str} {id : String} {r : V → List V → Hp → VK → Prop} {o e : Expr} {es : List Expr} {to : TE} {t : TA} {apos cpos : Pos} (pa : PlainAttrs T) (slot : Slot T name id)
    (hty : typeOf (.builtin id) = pure (.type "method_descriptor")) (hm : MtR X id r) (ho : PE X o to) (ha : PA X (e :: es) t) (hK : X.K = K := by rfl) (b1 : attributeBase o name X.env (eval o X.env) = eval o X.env := by rfl)
    (b2 : ((backTo cpos (starEach (e :: es) X.env)).all (fun x => !x.1) && (backToKw cpos (keywordEach [] X.env)).all (fun x => x.1.isSome) && decide ((e :: es).length + ([] : List Keyword).length + (if ([] : List Keyword).isEmpty then 0 else 1) < 30)) = true := by rfl)
    (b3 : (apos.endLine == cpos.line) = true := by rfl) (b4 : starEach (e :: es) X.env = (false, eval e X.env) :: starEach es X.env := by rfl) (b5 : (backTo cpos (starEach es X.env)).any (·.1) = false := by rfl) :
    PE X (.Call (.Attribute o name apos) (e :: es) [] cpos) (tBM K T r to t) := by
  subst hK
  exact pe_bm pa slot hty hm ho ha b1 b2 b3 b4 b5
end Cm

/-! trees that are drawn: the hand and the room -/
namespace Cm
open PySem L2 PySem.Spec PyProof.Rows
/-- the hand at h, the room k at r -/
structure Gn (H : Hp) (h c r : Addr) (k : Nat) : Prop where
  hand : Hand H h c
  rm : H r = some (.lst [.int (k : Nat)])
  rh : r ≠ h
  rc : r ≠ c
abbrev Kr (h r : Addr) : Hp → Hp → Prop := Kp (fun a => a = h ∨ a = r)
theorem Gn.lists {H : Hp} {h c r : Addr} {k : Nat} (x : Gn H h c r k) : ∀ a, (a = h ∨ a = r) → ∃ xs, H a = some (.lst xs) := fun a m => by
  rcases m with rfl | rfl
  · exact x.hand.lst
  · exact ⟨_, x.rm⟩
theorem Gn.refl {H : Hp} {h c r : Addr} {k : Nat} (x : Gn H h c r k) : Kr h r H H := Kp.refl x.lists
theorem Gn.same {H H' : Hp} {h c r : Addr} {k : Nat} (x : Gn H h c r k) (s : Same H H') : Gn H' h c r k ∧ Kr h r H H' := ⟨⟨x.hand.same s, s _ _ x.rm, x.rh, x.rc⟩, .of_same x.lists s⟩
theorem Gn.draw {H H' : Hp} {h c r : Addr} {k : Nat} (x : Gn H h c r k) (kh : Kh h H H') (hh : Hand H' h c) : Gn H' h c r k ∧ Kr h r H H' :=
  ⟨⟨hh, kh.st _ _ x.rh x.rm, x.rh, x.rc⟩, kh.wider (fun _ m => .inl m) x.lists⟩
theorem Gn.puts {H : Hp} {h c r D : Addr} {o : HO} {k : Nat} (x : Gn H h c r k) (n1 : D ≠ h) (n2 : D ≠ c) (n3 : D ≠ r) : Gn (upd H D o) h c r k :=
  ⟨x.hand.puts n1 n2, by rw [upd_ne n3.symm]; exact x.rm, x.rh, x.rc⟩
/-- the room is one less -/
theorem Gn.less {H : Hp} {h c r : Addr} {k : Nat} (x : Gn H h c r (k + 1)) : Gn (upd H r (.lst [.int (k : Nat)])) h c r k ∧ Kr h r H (upd H r (.lst [.int (k : Nat)])) :=
  ⟨⟨x.hand.puts x.rh x.rc, upd_same, x.rh, x.rc⟩, Kp.put x.lists (.inr rfl)⟩
theorem sizes_snoc (t : Tr) : ∀ ts : List Tr, Tr.sizes (ts ++ [t]) = Tr.sizes ts + t.size
  | [] => by show t.size + 0 = 0 + t.size; omega
  | a :: ts => by
    have := sizes_snoc t ts
    show a.size + Tr.sizes (ts ++ [t]) = a.size + Tr.sizes ts + t.size
    omega
/-- a comprehension of drawn trees: F says how they lie in the list, E how one of them does -/
theorem lc_gen {K : PySem.W.Frag} {h c r : Addr} {k : Nat} {I : It} {n : Nat} {G : Hp → Prop} {Y : Nat → Hp → V → Hp → Prop} (wk : Walk I n G Y) {g : TG} {te : TE} {vs : List Nat} {σ : L2.St} {H1 : Hp} {D : Addr} {Qd : Hp → Prop}
    (F : List Tr → List PyData) (E : Nat → Tr → PyData) (dm cost : Nat) (F0 : F [] = []) (FS : ∀ ts t, ts.length < n → F (ts ++ [t]) = F ts ++ [E ts.length t]) (Fl : ∀ ts, flatDs (F ts) = true)
    (x0 : Gn H1 h c r k) (hD : H1 D = Option.none) (hn : n ≤ 100000) (hG : ∀ H, Kr h r H1 H → G H)
    (hs : ∀ i x k1 H H', i < n → Kr h r H1 H → Gn H h c r k1 → Y i H x H' → ∀ Q1 : VK, (∀ v t k2 H4, Kr h r H H4 → Gn H4 h c r k2 → Dp K H4 v (E i t) → t.ok → t.dep ≤ dm → t.size + 12 * k2 ≤ cost + 12 * k1 → Q1 v H4) →
      g x (wipe σ vs) H' fun σ2 H2 => wipe σ2 vs = wipe σ vs ∧ te σ2 H2 Q1)
    (hd : ∀ H acc ts k1, Kr h r H1 H → Gn H h c r k1 → H D = some (.lst acc) → DpAll K H acc (F ts) → ts.length = n → (∀ t ∈ ts, t.ok ∧ t.dep ≤ dm) → Tr.sizes ts + 12 * k1 ≤ cost * n + 12 * k → Qd H) :
    ∃ W : Nat → Nat → Hp → Prop, (∃ m, W 0 m (upd H1 D (.lst []))) ∧ ∀ i m H, W i m H →
      (I.stop i H ∧ Qd H) ∨ (I.go i H ∧ ∃ Nx : Hp → Prop, (∀ H', Nx H' → ∃ m', m' < m ∧ W (i + 1) m' H') ∧ ∀ x H', I.yld i H x H' → g x (wipe σ vs) H' fun σ2 H2 => wipe σ2 vs = wipe σ vs ∧ tYes σ2 H2 fun b H3 =>
        if b = true then te σ2 H3 fun y H4 => ∃ acc, H4 D = some (.lst acc) ∧ acc.length < sizeLine ∧ Nx (upd H4 D (.lst (acc ++ [y]))) else Nx H3) := by
  have nD := x0.hand.there hD
  have nDr : D ≠ r := (ne_of_none x0.rm hD).symm
  refine lc_drawJ (K := K) (M := fun a => a = h ∨ a = r) wk (fun i ds H => ∃ ts k1, ds = F ts ∧ Gn H h c r k1 ∧ ts.length = i ∧ (∀ t ∈ ts, t.ok ∧ t.dep ≤ dm) ∧ Tr.sizes ts + 12 * k1 ≤ cost * i + 12 * k) x0.lists
    ⟨[], k, F0.symm, (x0.same (same_new hD)).1, rfl, (fun _ m => by cases m), (by show 0 + 12 * k ≤ cost * 0 + 12 * k; omega)⟩ (fun i ds H ys _ j => ?_) hD hn (fun _ _ H kk _ => hG H kk) (fun i ds H j => ?_) ?_ ?_
  · obtain ⟨ts, k1, a1, a2, a3⟩ := j
    exact ⟨ts, k1, a1, a2.puts nD.1 nD.2 nDr, a3⟩
  · obtain ⟨ts, k1, rfl, _⟩ := j
    exact Fl ts
  · rintro i x ds H H' hi kk ⟨ts, k1, rfl, a2, a3, a4, a5⟩ y Q1 Q0 q1 q0
    refine hs i x k1 H H' hi kk a2 y Q1 fun v t k2 H4 k4 x4 hv ok dp sz => ?_
    refine q1 v H4 (E i t) k4 ⟨ts ++ [t], k2, ?_, x4, ?_, ?_, ?_⟩ hv
    · rw [FS ts t (by omega), a3]
    · rw [List.length_append, a3]; rfl
    · intro u hu
      rcases List.mem_append.mp hu with hu | hu
      · exact a4 u hu
      · cases List.mem_singleton.mp hu
        exact ⟨ok, dp⟩
    · rw [sizes_snoc, Nat.mul_succ]
      omega
  · rintro H acc ds kk ⟨ts, k1, rfl, a2, a3, a4, a5⟩ hacc ha
    exact hd H acc ts k1 kk a2 hacc ha a3 a4 a5
theorem encL_snoc (t : Tr) (ts : List Tr) : Tr.encL (ts ++ [t]) = Tr.encL ts ++ [t.enc] := by
  rw [encL_map, encL_map, List.map_append]
  rfl
/-- rows of names and trees -/
def rowsL (xs : List Str) (ts : List Tr) : List PyData := (xs.zip (Tr.encL ts)).map rowD
theorem rowsL_snoc {t : Tr} : ∀ {xs : List Str} {ts : List Tr}, ts.length < xs.length → rowsL xs (ts ++ [t]) = rowsL xs ts ++ [rowD ((xs[ts.length]?).getD "", t.enc)]
  | x :: xs, [], _ => by simp [rowsL, Tr.encL]
  | x :: xs, a :: ts, h => by
    have ih := rowsL_snoc (t := t) (xs := xs) (ts := ts) (by simpa using h)
    show rowD (x, a.enc) :: rowsL xs (ts ++ [t]) = rowD (x, a.enc) :: rowsL xs ts ++ _
    rw [ih]
    rfl
theorem rowsL_flat (xs : List Str) (ts : List Tr) : flatDs (rowsL xs ts) = true := flatDs_of _ fun d hd => by
  obtain ⟨p, hp, rfl⟩ := List.mem_map.mp hd
  have h := (List.of_mem_zip (show (p.1, p.2) ∈ xs.zip (Tr.encL ts) from hp)).2
  have := flatDs_all (flat_encL ts) _ h
  simp [rowD, flatD, flatDs, this]
end Cm

set_option linter.all false
/-! the names that forms bind -/
namespace Cm
open PySem L2 PySem.Spec PyProof.Rows
/-- the names that a form binds -/
def held : Hd → List Str
  | .fn xs => xs
  | .one w x => if w = "set" then [] else [x]
  | .bind _ xs => xs
  | _ => []
def isLet : Hd → Bool
  | .bind w _ => decide (w = "let")
  | _ => false
def isTak : Hd → Bool
  | .one w _ => !decide (w = "set")
  | _ => false
def isFn (h : Hd) : Bool := kd h == 4
def isName (h : Hd) : Bool := kd h == 1
/-- .. over the i-th of n parts -/
def under (h : Hd) (n i : Nat) : List Str := if isLet h = true ∧ i + 1 < n then [] else held h
def bnds (h : Hd) (n : Nat) : List PyData := (List.range n).map fun i => encs (under h n i)
theorem under_no {h : Hd} (e : isLet h = false) (n i : Nat) : under h n i = held h := by
  unfold under
  rw [e, if_neg (fun z => Bool.false_ne_true z.1)]
theorem bnds_no {h : Hd} (e : isLet h = false) (n : Nat) : bnds h n = List.replicate n (encs (held h)) := by
  unfold bnds
  have : (fun i => encs (under h n i)) = fun _ => encs (held h) := by
    funext i
    rw [under_no e]
  rw [this, List.map_const', List.length_range]
theorem bnds_let {h : Hd} (e : isLet h = true) (n : Nat) : bnds h (n + 1) = List.replicate n (encs []) ++ [encs (held h)] := by
  unfold bnds
  rw [List.range_succ, List.map_append]
  have h1 : (List.range n).map (fun i => encs (under h (n + 1) i)) = List.replicate n (encs []) := by
    have : (List.range n).map (fun i => encs (under h (n + 1) i)) = (List.range n).map (fun _ => encs []) := List.map_congr_left fun i hi => by
      have := List.mem_range.mp hi
      unfold under
      rw [if_pos ⟨e, by omega⟩]
    rw [this, List.map_const', List.length_range]
  rw [h1]
  congr 1
  show [encs (under h (n + 1) n)] = _
  unfold under
  rw [if_neg (fun z => by omega)]
theorem flat_bnds (h : Hd) (n : Nat) : flatDs (bnds h n) = true := flatDs_of _ fun d hd => by
  obtain ⟨i, _, rfl⟩ := List.mem_map.mp hd
  exact flat_strs _
theorem under_at {h : Hd} {n i : Nat} (hi : i < n) : (bnds h n)[i]? = some (encs (under h n i)) := by
  unfold bnds
  rw [List.getElem?_map, List.getElem?_range hi]
  rfl
theorem under_len {h : Hd} {m : Nat} (o : hok h m) (l : m ≤ 11) (n i : Nat) : (under h n i).length ≤ 100 := by
  unfold under
  split
  · exact Nat.zero_le _
  · cases h with
    | fn xs => exact o.2.1
    | one w x =>
      show (if w = "set" then [] else [x] : List Str).length ≤ 100
      split
      · exact Nat.zero_le _
      · exact (by decide : 1 ≤ 100)
    | bind w xs =>
      have := o.1
      show xs.length ≤ 100
      omega
    | _ => exact Nat.zero_le _
theorem held_sok {h : Hd} {m : Nat} (o : hok h m) : ∀ x ∈ held h, sok x := by
  cases h with
  | fn xs => exact o.2.2
  | one w x =>
    show ∀ y ∈ (if w = "set" then [] else [x] : List Str), sok y
    split
    · intro y hy; cases hy
    · intro y hy
      rw [List.mem_singleton.mp hy]
      exact o.2.2
  | bind w xs => exact o.2.2
  | _ => intro y hy; cases hy
section
variable {h : Hd} {n : Nat}
theorem eq_fn (o : hok h n) : decide (V.str (wd h) = V.str "fn") = isFn h := by
  rw [decS]
  exact by_kind (fun w => decide (w = "fn")) (fun k => k == 4) (by decide +kernel) o
theorem eq_name (o : hok h n) : decide (V.str (wd h) = V.str "name") = isName h := by
  rw [decS]
  exact by_kind (fun w => decide (w = "name")) (fun k => k == 1) (by decide +kernel) o
theorem in_T (o : hok h n) : inV (.str (wd h)) ((["keep", "once", "take"] : List Str).map V.str) = isTak h := by
  have other : kd h ≠ 3 → inV (.str (wd h)) ((["keep", "once", "take"] : List Str).map V.str) = false := fun q => by
    have key : ∀ c < 10, c ≠ 3 → ∀ w ∈ wordsOf c, inV (.str w) ((["keep", "once", "take"] : List Str).map V.str) = false := by decide +kernel
    exact key _ (wd_mem o).1 q _ (wd_mem o).2
  cases h with
  | one w x =>
    have key : ∀ w ∈ oneW, inV (.str w) ((["keep", "once", "take"] : List Str).map V.str) = !decide (w = "set") := by decide +kernel
    exact key w o.2.1
  | num i => exact other (Nat.ne_of_beq_eq_false rfl)
  | name i => exact other (Nat.ne_of_beq_eq_false rfl)
  | lit i => exact other (Nat.ne_of_beq_eq_false rfl)
  | fn i => exact other (Nat.ne_of_beq_eq_false rfl)
  | bind i _ => exact other (Nat.ne_of_beq_eq_false rfl)
  | doo => exact other (Nat.ne_of_beq_eq_false rfl)
  | call => exact other (Nat.ne_of_beq_eq_false rfl)
  | op i => exact other (Nat.ne_of_beq_eq_false rfl)
  | plain i => exact other (Nat.ne_of_beq_eq_false rfl)
theorem eq_set (o : hok h n) : decide (V.str (wd h) = V.str "set") = (kd h == 3 && !isTak h) := by
  have other : kd h ≠ 3 → decide (wd h = "set") = false := fun q => by
    have key : ∀ c < 10, c ≠ 3 → ∀ w ∈ wordsOf c, decide (w = ("set" : Str)) = false := by decide +kernel
    exact key _ (wd_mem o).1 q _ (wd_mem o).2
  rw [decS]
  cases h with
  | one w x =>
    show decide (w = "set") = (true && !(!decide (w = "set")))
    rw [Bool.not_not, Bool.true_and]
  | num i => exact other (Nat.ne_of_beq_eq_false rfl)
  | name i => exact other (Nat.ne_of_beq_eq_false rfl)
  | lit i => exact other (Nat.ne_of_beq_eq_false rfl)
  | fn i => exact other (Nat.ne_of_beq_eq_false rfl)
  | bind i _ => exact other (Nat.ne_of_beq_eq_false rfl)
  | doo => exact other (Nat.ne_of_beq_eq_false rfl)
  | call => exact other (Nat.ne_of_beq_eq_false rfl)
  | op i => exact other (Nat.ne_of_beq_eq_false rfl)
  | plain i => exact other (Nat.ne_of_beq_eq_false rfl)
theorem eq_let (o : hok h n) : decide (V.str (wd h) = V.str "let") = isLet h := by
  have other : kd h ≠ 5 → decide (wd h = "let") = false := fun q => by
    have key : ∀ c < 10, c ≠ 5 → ∀ w ∈ wordsOf c, decide (w = ("let" : Str)) = false := by decide +kernel
    exact key _ (wd_mem o).1 q _ (wd_mem o).2
  rw [decS]
  cases h with
  | bind w x => rfl
  | num i => exact other (Nat.ne_of_beq_eq_false rfl)
  | name i => exact other (Nat.ne_of_beq_eq_false rfl)
  | lit i => exact other (Nat.ne_of_beq_eq_false rfl)
  | fn i => exact other (Nat.ne_of_beq_eq_false rfl)
  | one i _ => exact other (Nat.ne_of_beq_eq_false rfl)
  | doo => exact other (Nat.ne_of_beq_eq_false rfl)
  | call => exact other (Nat.ne_of_beq_eq_false rfl)
  | op i => exact other (Nat.ne_of_beq_eq_false rfl)
  | plain i => exact other (Nat.ne_of_beq_eq_false rfl)
end
/-- the names that a tree names (or sets alone), as the form of a list -/
def own (sa : Bool) : Hd → List Str
  | .name x => if sa = true then [] else [x]
  | .one w x => if w = "set" then [x] else []
  | _ => []
mutual
def Tr.free (sa : Bool) : Tr → List Str
  | .mk h ps => own sa h ++ Tr.frees sa h ps.length 0 ps
def Tr.frees (sa : Bool) (h : Hd) (n : Nat) : Nat → List Tr → List Str
  | _, [] => []
  | i, t :: ts => (t.free sa).filter (fun x => !decide (x ∈ under h n i)) ++ Tr.frees sa h n (i + 1) ts
end
theorem frees_snoc (sa : Bool) (h : Hd) (n : Nat) (t : Tr) : ∀ (ts : List Tr) (i : Nat), Tr.frees sa h n i (ts ++ [t]) = Tr.frees sa h n i ts ++ (t.free sa).filter (fun x => !decide (x ∈ under h n (i + ts.length)))
  | [], i => by
    show (t.free sa).filter _ ++ [] = [] ++ _
    simp
  | a :: ts, i => by
    show (a.free sa).filter _ ++ Tr.frees sa h n (i + 1) (ts ++ [t]) = ((a.free sa).filter _ ++ Tr.frees sa h n (i + 1) ts) ++ _
    rw [frees_snoc sa h n t ts (i + 1), List.append_assoc, List.length_cons, show i + 1 + ts.length = i + (ts.length + 1) by omega]
theorem own_len (sa : Bool) (h : Hd) : (own sa h).length ≤ 1 := by
  cases h with
  | name x => show (if sa = true then [] else [x] : List Str).length ≤ 1; split <;> simp
  | one w x => show (if w = "set" then [x] else [] : List Str).length ≤ 1; split <;> simp
  | _ => exact Nat.zero_le _
mutual
theorem free_len (sa : Bool) : ∀ t : Tr, (t.free sa).length ≤ t.size
  | .mk h ps => by
    have h1 := own_len sa h
    have h2 := frees_len sa h ps.length 0 ps
    show (own sa h ++ Tr.frees sa h ps.length 0 ps).length ≤ Tr.sizes ps + 1
    rw [List.length_append]
    omega
theorem frees_len (sa : Bool) (h : Hd) (n : Nat) : ∀ (i : Nat) (ts : List Tr), (Tr.frees sa h n i ts).length ≤ Tr.sizes ts
  | _, [] => Nat.le_refl _
  | i, t :: ts => by
    have h1 := free_len sa t
    have h2 := frees_len sa h n (i + 1) ts
    have h3 := List.length_filter_le (fun x => !decide (x ∈ under h n i)) (t.free sa)
    show ((t.free sa).filter _ ++ Tr.frees sa h n (i + 1) ts).length ≤ t.size + Tr.sizes ts
    rw [List.length_append]
    omega
end
mutual
theorem free_sok (sa : Bool) : ∀ t : Tr, t.ok → ∀ x ∈ t.free sa, sok x
  | .mk h ps, o, x, m => by
    have o' : hok h ps.length ∧ ps.length ≤ 11 ∧ Tr.oks ps := o
    have m' : x ∈ own sa h ++ Tr.frees sa h ps.length 0 ps := m
    rcases List.mem_append.mp m' with m' | m'
    · cases h with
      | name y =>
        have m2 : x ∈ (if sa = true then [] else [y] : List Str) := m'
        split at m2
        · cases m2
        · rw [List.mem_singleton.mp m2]
          exact o'.1.2
      | one w y =>
        have m2 : x ∈ (if w = "set" then [y] else [] : List Str) := m'
        split at m2
        · rw [List.mem_singleton.mp m2]
          exact o'.1.2.2
        · cases m2
      | _ => cases m'
    · exact frees_sok sa h ps.length 0 ps o'.2.2 x m'
theorem frees_sok (sa : Bool) (h : Hd) (n : Nat) : ∀ (i : Nat) (ts : List Tr), Tr.oks ts → ∀ x ∈ Tr.frees sa h n i ts, sok x
  | _, [], _, _, m => by cases m
  | i, t :: ts, o, x, m => by
    have m' : x ∈ (t.free sa).filter (fun x => !decide (x ∈ under h n i)) ++ Tr.frees sa h n (i + 1) ts := m
    rcases List.mem_append.mp m' with m' | m'
    · exact free_sok sa t o.1 x (List.mem_filter.mp m').1
    · exact frees_sok sa h n (i + 1) ts o.2 x m'
end
end Cm

set_option linter.all false
/-! trees whose set names are held in pairs -/
namespace Cm
open PySem L2 PySem.Spec PyProof.Rows
/-- is x set within some part over which it is bound -/
def chg (h : Hd) (n : Nat) : Nat → List Tr → Str → Bool
  | _, [], _ => false
  | i, t :: ts, x => (decide (x ∈ under h n i) && decide (x ∈ t.free true)) || chg h n (i + 1) ts x
def anewOf (h : Hd) (ps : List Tr) : List Str := (held h).filter (chg h ps.length 0 ps)
def pairT (t : Tr) : Tr := .mk (.op "pair") [t, .mk (.lit "none") []]
def nameT (x : Str) : Tr := .mk (.name x) []
def fillT (x : Str) (t : Tr) : Tr := .mk (.op "left!") [nameT x, t]
def noneT : Tr := .mk (.lit "none") []
/-- the last part within a let of pairs -/
def wrapL (anew : List Str) (h : Hd) (qs : List Tr) : Tr :=
  if anew = [] then .mk h qs else .mk h (qs.take (qs.length - 1) ++ [.mk (.bind "let" anew) ((anew.map fun x => pairT (nameT x)) ++ qs.drop (qs.length - 1))])
def recP (xs anew : List Str) (qs : List Tr) : Tr :=
  let fills := ((xs.zip qs).filter fun r => decide (r.1 ∈ anew)).map fun r => fillT r.1 r.2
  let oth := (xs.zip qs).filter fun r => !decide (r.1 ∈ anew)
  let inner := Tr.mk .doo (fills ++ qs.drop xs.length)
  .mk (.bind "let" anew) ((anew.map fun _ => pairT noneT) ++ [if oth = [] then inner else .mk (.bind "rec" (oth.map (·.1))) (oth.map (·.2) ++ [inner])])
def shapeP (hs : Str → Bool) (anew : List Str) (qs : List Tr) : Hd → Tr
  | .name x => if hs x = true then .mk (.op "left") [nameT x] else .mk (.name x) qs
  | .one w x => if w = "set" then .mk (.op "left!") (nameT x :: qs) else wrapL anew (.one w x) qs
  | .bind w xs => if w = "rec" ∧ anew ≠ [] then recP xs anew qs else wrapL anew (.bind w xs) qs
  | h => wrapL anew h qs
/-- the names held within the i-th part -/
def scopeP (hs : Str → Bool) (h : Hd) (n : Nat) (anew : List Str) (i : Nat) (x : Str) : Bool := (hs x && !decide (x ∈ under h n i)) || (decide (x ∈ anew) && decide (x ∈ under h n i))
mutual
def Tr.plain (hs : Str → Bool) : Tr → Tr
  | .mk h ps => shapeP hs (anewOf h ps) (Tr.plains (scopeP hs h ps.length (anewOf h ps)) 0 ps) h
def Tr.plains (sc : Nat → Str → Bool) : Nat → List Tr → List Tr
  | _, [] => []
  | i, t :: ts => t.plain (sc i) :: Tr.plains sc (i + 1) ts
end
theorem plains_len (sc : Nat → Str → Bool) : ∀ (i : Nat) (ps : List Tr), (Tr.plains sc i ps).length = ps.length
  | _, [] => rfl
  | i, t :: ts => by
    show (Tr.plains sc (i + 1) ts).length + 1 = ts.length + 1
    rw [plains_len sc (i + 1) ts]
theorem plains_at (sc : Nat → Str → Bool) : ∀ (i : Nat) (ps : List Tr) (j : Nat), (Tr.plains sc i ps)[j]? = (ps[j]?).map fun (t : Tr) => t.plain (sc (i + j))
  | _, [], j => by simp [Tr.plains]
  | i, t :: ts, 0 => rfl
  | i, t :: ts, j + 1 => by
    show (Tr.plains sc (i + 1) ts)[j]? = _
    rw [plains_at sc (i + 1) ts j, List.getElem?_cons_succ, show i + 1 + j = i + (j + 1) by omega]
theorem plains_snoc (sc : Nat → Str → Bool) (t : Tr) : ∀ (i : Nat) (ps : List Tr), Tr.plains sc i (ps ++ [t]) = Tr.plains sc i ps ++ [t.plain (sc (i + ps.length))]
  | _, [] => rfl
  | i, a :: ts => by
    show a.plain (sc i) :: Tr.plains sc (i + 1) (ts ++ [t]) = a.plain (sc i) :: (Tr.plains sc (i + 1) ts ++ _)
    rw [plains_snoc sc t (i + 1) ts, List.length_cons, show i + 1 + ts.length = i + (ts.length + 1) by omega]
theorem chg_iff (h : Hd) (n : Nat) (x : Str) : ∀ (i : Nat) (ps : List Tr), chg h n i ps x = true ↔ ∃ j t, ps[j]? = some t ∧ x ∈ under h n (i + j) ∧ x ∈ t.free true
  | i, [] => by simp [chg]
  | i, t :: ts => by
    have ih := chg_iff h n x (i + 1) ts
    show ((decide (x ∈ under h n i) && decide (x ∈ t.free true)) || chg h n (i + 1) ts x) = true ↔ _
    rw [Bool.or_eq_true, Bool.and_eq_true, decide_eq_true_eq, decide_eq_true_eq, ih]
    constructor
    · rintro (⟨a, b⟩ | ⟨j, u, e, a, b⟩)
      · exact ⟨0, t, rfl, a, b⟩
      · exact ⟨j + 1, u, e, by rw [show i + (j + 1) = i + 1 + j by omega]; exact a, b⟩
    · rintro ⟨j, u, e, a, b⟩
      cases j with
      | zero => cases e; exact .inl ⟨a, b⟩
      | succ j => exact .inr ⟨j, u, e, by rw [show i + 1 + j = i + (j + 1) by omega]; exact a, b⟩
theorem plains_mem {sc : Nat → Str → Bool} {i : Nat} {ps : List Tr} {q : Tr} (m : q ∈ Tr.plains sc i ps) : ∃ (j : Nat) (t : Tr), ps[j]? = some t ∧ q = t.plain (sc (i + j)) := by
  obtain ⟨j, e⟩ := List.getElem?_of_mem m
  rw [plains_at] at e
  obtain ⟨t, e1, e2⟩ := Option.map_eq_some_iff.mp e
  exact ⟨j, t, e1, e2.symm⟩
/-! ### trees without set -/
def nsH : Hd → Prop
  | .one w _ => w ≠ "set"
  | _ => True
mutual
def Tr.ns : Tr → Prop
  | .mk h ps => nsH h ∧ Tr.nss ps
def Tr.nss : List Tr → Prop
  | [] => True
  | t :: ts => t.ns ∧ Tr.nss ts
end
theorem nss_iff : ∀ {ps : List Tr}, Tr.nss ps ↔ ∀ t ∈ ps, t.ns
  | [] => by simp [Tr.nss]
  | t :: ts => by
    show t.ns ∧ Tr.nss ts ↔ _
    rw [nss_iff]
    simp
theorem ns_mk {h : Hd} {ps : List Tr} (a : nsH h) (b : ∀ t ∈ ps, t.ns) : (Tr.mk h ps).ns := ⟨a, nss_iff.mpr b⟩
theorem ns_name (x : Str) : (nameT x).ns := ns_mk trivial fun t m => by cases m
theorem ns_none : noneT.ns := ns_mk trivial fun t m => by cases m
theorem ns_pair {t : Tr} (h : t.ns) : (pairT t).ns := ns_mk trivial fun u m => by
  rcases List.mem_cons.mp m with rfl | m
  · exact h
  · rw [List.mem_singleton.mp m]; exact ns_none
theorem ns_fill {x : Str} {t : Tr} (h : t.ns) : (fillT x t).ns := ns_mk trivial fun u m => by
  rcases List.mem_cons.mp m with rfl | m
  · exact ns_name x
  · rw [List.mem_singleton.mp m]; exact h
theorem ns_wrap {anew : List Str} {h : Hd} {qs : List Tr} (a : nsH h) (b : ∀ t ∈ qs, t.ns) : (wrapL anew h qs).ns := by
  unfold wrapL
  split
  · exact ns_mk a b
  · refine ns_mk a fun t m => ?_
    rcases List.mem_append.mp m with m | m
    · exact b t (List.mem_of_mem_take m)
    · rw [List.mem_singleton.mp m]
      refine ns_mk trivial fun u mu => ?_
      rcases List.mem_append.mp mu with mu | mu
      · obtain ⟨x, _, rfl⟩ := List.mem_map.mp mu
        exact ns_pair (ns_name x)
      · exact b u (List.mem_of_mem_drop mu)
theorem ns_rec {xs anew : List Str} {qs : List Tr} (b : ∀ t ∈ qs, t.ns) : (recP xs anew qs).ns := by
  have zp : ∀ r ∈ xs.zip qs, r.2.ns := fun r m => b r.2 (List.of_mem_zip (show (r.1, r.2) ∈ xs.zip qs from m)).2
  have inn : (Tr.mk .doo ((((xs.zip qs).filter fun r => decide (r.1 ∈ anew)).map fun r => fillT r.1 r.2) ++ qs.drop xs.length)).ns := ns_mk trivial fun t m => by
    rcases List.mem_append.mp m with m | m
    · obtain ⟨r, mr, rfl⟩ := List.mem_map.mp m
      exact ns_fill (zp r (List.mem_filter.mp mr).1)
    · exact b t (List.mem_of_mem_drop m)
  unfold recP
  refine ns_mk trivial fun t m => ?_
  rcases List.mem_append.mp m with m | m
  · obtain ⟨x, _, rfl⟩ := List.mem_map.mp m
    exact ns_pair ns_none
  · rw [List.mem_singleton.mp m]
    split
    · exact inn
    · refine ns_mk trivial fun u mu => ?_
      rcases List.mem_append.mp mu with mu | mu
      · obtain ⟨r, mr, rfl⟩ := List.mem_map.mp mu
        exact zp r (List.mem_filter.mp mr).1
      · rw [List.mem_singleton.mp mu]
        exact inn
theorem ns_shape {hs : Str → Bool} {anew : List Str} {qs : List Tr} (b : ∀ t ∈ qs, t.ns) (h : Hd) : (shapeP hs anew qs h).ns := by
  cases h with
  | name x =>
    show (if hs x = true then Tr.mk (.op "left") [nameT x] else .mk (.name x) qs).ns
    split
    · exact ns_mk trivial fun t m => by rw [List.mem_singleton.mp m]; exact ns_name x
    · exact ns_mk trivial b
  | one w x =>
    show (if w = "set" then Tr.mk (.op "left!") (nameT x :: qs) else wrapL anew (.one w x) qs).ns
    split
    · refine ns_mk trivial fun t m => ?_
      rcases List.mem_cons.mp m with rfl | m
      · exact ns_name x
      · exact b t m
    · rename_i e
      exact ns_wrap e b
  | bind w xs =>
    show (if w = "rec" ∧ anew ≠ [] then recP xs anew qs else wrapL anew (.bind w xs) qs).ns
    split
    · exact ns_rec b
    · exact ns_wrap trivial b
  | num i => exact ns_wrap trivial b
  | lit i => exact ns_wrap trivial b
  | fn i => exact ns_wrap trivial b
  | doo => exact ns_wrap trivial b
  | call => exact ns_wrap trivial b
  | op i => exact ns_wrap trivial b
  | plain i => exact ns_wrap trivial b
mutual
theorem ns_plain (hs : Str → Bool) : ∀ t : Tr, (t.plain hs).ns
  | .mk h ps => ns_shape (fun t m => nss_iff.mp (ns_plains _ 0 ps) t m) h
theorem ns_plains (sc : Nat → Str → Bool) : ∀ (i : Nat) (ps : List Tr), Tr.nss (Tr.plains sc i ps)
  | _, [] => trivial
  | i, t :: ts => ⟨ns_plain _ t, ns_plains sc (i + 1) ts⟩
end
mutual
theorem free_ns : ∀ t : Tr, t.ns → t.free true = []
  | .mk h ps, n => by
    have n' : nsH h ∧ Tr.nss ps := n
    show own true h ++ Tr.frees true h ps.length 0 ps = []
    rw [frees_ns h ps.length 0 ps n'.2, List.append_nil]
    cases h with
    | one w x => exact if_neg n'.1
    | _ => rfl
theorem frees_ns (h : Hd) (n : Nat) : ∀ (i : Nat) (ps : List Tr), Tr.nss ps → Tr.frees true h n i ps = []
  | _, [], _ => rfl
  | i, t :: ts, m => by
    have m' : t.ns ∧ Tr.nss ts := m
    show (t.free true).filter _ ++ Tr.frees true h n (i + 1) ts = []
    rw [free_ns t m'.1, frees_ns h n (i + 1) ts m'.2]
    rfl
end
theorem anew_ns {h : Hd} {ps : List Tr} (n : Tr.nss ps) : anewOf h ps = [] := by
  unfold anewOf
  rw [List.filter_eq_nil_iff]
  intro x _ e
  obtain ⟨j, t, e1, _, e3⟩ := (chg_iff h ps.length x 0 ps).mp e
  rw [free_ns t (nss_iff.mp n t (List.mem_of_getElem? e1))] at e3
  cases e3
mutual
/-- what has no set stays as it is -/
theorem plain_same : ∀ (t : Tr) (hs : Str → Bool), t.ns → (∀ x, hs x = false) → t.plain hs = t
  | .mk h ps, hs, n, hz => by
    have n' : nsH h ∧ Tr.nss ps := n
    have ea := anew_ns (h := h) n'.2
    show shapeP hs (anewOf h ps) (Tr.plains (scopeP hs h ps.length (anewOf h ps)) 0 ps) h = .mk h ps
    rw [ea, plains_same ps _ 0 n'.2 (fun i x => by unfold scopeP; rw [hz]; simp)]
    cases h with
    | name x =>
      show (if hs x = true then _ else Tr.mk (.name x) ps) = _
      rw [hz]
      rfl
    | one w x => exact (if_neg n'.1).trans rfl
    | bind w xs =>
      show (if w = "rec" ∧ ([] : List Str) ≠ [] then recP xs [] ps else wrapL [] (.bind w xs) ps) = _
      rw [if_neg fun z => z.2 rfl]
      rfl
    | _ => rfl
theorem plains_same : ∀ (ps : List Tr) (sc : Nat → Str → Bool) (i : Nat), Tr.nss ps → (∀ i x, sc i x = false) → Tr.plains sc i ps = ps
  | [], _, _, _, _ => rfl
  | t :: ts, sc, i, m, hz => by
    have m' : t.ns ∧ Tr.nss ts := m
    show t.plain (sc i) :: Tr.plains sc (i + 1) ts = t :: ts
    rw [plain_same t (sc i) m'.1 (hz i), plains_same ts sc (i + 1) m'.2 hz]
end
end Cm

set_option linter.all false
/-! own exceptions that are made as values, their fields, isinstance of them -/
namespace Cm
open PySem L2 PySem.Spec PyProof.Rows
/-- a made exception with fields fs -/
def ExV (H : Hp) (a C : Addr) (fs : List (Str × V)) : Prop := ∃ d, H a = some (exo a C (some d)) ∧ H d = some (exd d fs)
theorem ExV.same {H H' : Hp} {a C : Addr} {fs : List (Str × V)} (x : ExV H a C fs) (s : Same H H') : ExV H' a C fs := by
  obtain ⟨d, e1, e2⟩ := x
  exact ⟨d, s _ _ e1, s _ _ e2⟩
/-- C(e, ..) as a value, C's own __init__ keeping sp -/
def tMkV (C : Addr) (sp : Sp) (ta : TA) : TE := fun σ H Q => ta σ H fun vs H1 => vs.length ≤ 1000 ∧ ∀ a, H1 a = Option.none → sp (.ref a :: vs) (upd H1 a (exo a C Option.none)) (fun v H2 => v = .non ∧ Q (.ref a) H2) E0
theorem pe_mkV {X : Cx} {x : Str} {C fI : Addr} {k : Nat} {fd : FuncData} {ps : List Str} {sp : Sp} {e : Expr} {es : List Expr} {ta : TA} {p pos : Pos} (T : OexC X.K C) (iC : PySem.W.findIn X.K (.ref C) "__init__" = some (some (.ref fI))) (tI : PySem.W.typeIn X.K (.ref fI) = some (.type "function"))
    (F1 : FnOk X.prog X.w X.K X.mg X.base CX0 k fI fd ps sp) (hr : Room (k + 1) X.A) (hb : Binds X.K fd ps []) (hg : Gl X x) (hm : X.mg x = some (.ref C)) (ha : PA X (e :: es) ta)
    (hdb : (x == ("__debug__" : Str)) = false := by decide) (he : starEach (e :: es) X.env = (false, eval e X.env) :: starEach es X.env := by rfl) (hpl : (backTo pos (starEach es X.env)).any (·.1) = false := by rfl) :
    PE X (.Call (.Name x p) (e :: es) [] pos) (tMkV C sp ta) := by
  refine ⟨fun pins s σ H Q I h => ?_⟩
  obtain ⟨nm, q, N, bs, bm, sn, sub, ab, col, dd, k0, k1, k2, k3, k5, hC, hbm⟩ := T.cls
  refine wpAny_Call_Name_kw (ld_glob I hg hm ?_ hdb)
  refine PySem.W.callWith_K (h₀ := X.base) I.ok.mod.kin T.kC (thn (ha.run pos pins s σ H _ I h) fun us s1 ⟨vs, H1, I1, r1, hz, q1⟩ => ⟨I1.kIn, ?_⟩) he hpl
  show wpAny _ _ (call (.ref C) us) _ _ _
  obtain ⟨hp, g, dr, tk, os⟩ := s1
  have hsz : hp.objs.size ≤ hp.objs.size + 1 := Nat.le_succ _
  have hq := q1 (hp.objs.size + 1) (I1.hok.fresh hsz)
  have hget : ((hp.push (PySem.W.kdv_tup us)).push (PySem.HandSPX.excO C hp.objs.size)).get? (hp.objs.size + 1) = some (PySem.HandSPX.excO C hp.objs.size) := by heap_get
  have I2 : Inv X pins σ (upd H1 (hp.objs.size + 1) (exo (hp.objs.size + 1) C Option.none)) ⟨(hp.push (PySem.W.kdv_tup us)).push (PySem.HandSPX.excO C hp.objs.size), g, dr, tk, os⟩ :=
    I1.laid (t' := tk) (a := hp.objs.size + 1) (o := exo (hp.objs.size + 1) C Option.none) (fun b o e => Heap.get?_push_of_some _ (Heap.get?_push_of_some _ e)) hsz (exo_ok hget)
  have r2 : Vals (V.ref (hp.objs.size + 1) :: vs) (Value.ref (hp.objs.size + 1) :: us) := .cons rfl r1
  have hl : (Value.ref (hp.objs.size + 1) :: us).length = ps.length := by
    have e := r2.length
    rw [F1.len _ _ _ _ hq] at e
    exact e.symm
  have hus : us.length ≤ sizeLine := by
    rw [← Paired.length r1, sizeLine_eq]
    omega
  have hbb := hb ⟨(hp.push (PySem.W.kdv_tup us)).push (PySem.HandSPX.excO C hp.objs.size), g, dr, tk, os⟩ (Value.ref (hp.objs.size + 1) :: us) I2.kIn (by rw [List.append_nil]; exact hl)
  rw [List.append_nil] at hbb
  refine wpAny_call (PySem.HandSPX.call_own F.excBase_ValueError (fun Y => PySem.HandSPX.refsVE_contains Y bm hbm) (I1.kIn _ _ hC) (PySem.W.looks_findIn I1.kIn iC) (fun self => PySem.W.bind_fn I1.kIn self tI) hus
    (codeAny_mono (F1.run _ X.stack _ _ ⟨Value.ref (hp.objs.size + 1) :: us, []⟩ (Value.ref (hp.objs.size + 1) :: us) _ _ E0 (hr.make C us []) (I2.env0.make C us []) hbb r2 hq) fun r s' hq' => ?_))
  cases r with
  | error er => exact pass0 pins σ _ _ er s' I2 hq'
  | ok fl =>
    cases fl with
    | ret u =>
      obtain ⟨v, H2, J, rv, ev, q2⟩ := I2.after hq'
      subst ev
      exact ⟨rv, .ref (hp.objs.size + 1), H2, J, rfl, q2⟩
    | next => exact False.elim hq'
    | brk => exact False.elim hq'
    | cont => exact False.elim hq'
/-! ### x.f -/
def tFldE (K : PySem.W.Frag) (f : Str) (te : TE) : TE := fun σ H Q => te σ H fun x H1 => ∃ (a C : Addr) (fs : List (Str × V)) (v : V), x = .ref a ∧ XfC K C ∧ PySem.W.findIn K (.ref C) f = some Option.none ∧ ExV H1 a C fs ∧ fs.lookup f = some v ∧ Q v H1
theorem pe_fldE {X : Cx} {e : Expr} {te : TE} {pos : Pos} {n : Str} (he : PE X e te) (hb : attributeBase e n X.env (eval e X.env) = eval e X.env := by rfl) : PE X (.Attribute e n pos) (tFldE X.K n te) := by
  refine ⟨fun pins s σ H Q I h => ?_⟩
  refine attr_of hb (thn (he.run pins s σ H _ I h) fun u s1 hh => ?_)
  obtain ⟨x, H1, I1, rx, a, C, fs, v, ex, T, hno, ⟨dd, eh, ea⟩, l, q⟩ := hh
  subst ex
  obtain rfl : u = Value.ref a := rx
  obtain ⟨t1, ho⟩ := exo_at I1.hok eh
  obtain ⟨mA, hns, hr⟩ := exd_at I1.hok ea
  obtain ⟨od, hod, hl⟩ := lookIn_ns hns
  obtain ⟨u, hu, ru⟩ := RelO.some_of (v := v) (o := mA n) (by rw [← l]; exact hr n)
  have J : PySem.W.InstAt s1.heap a { cls := .ref C, dict := some dd, data := .fields #[.ref t1, .none, .none, .none, .bool false, .none] } C (some od) := ⟨ho, rfl, rfl, hod⟩
  exact HandSPX.exc_get I1.kIn J T.ga T.gg T.exC (PySem.W.findObj_own T.hdC hno rfl (by rw [hl, hu])) (handed_of ru) ⟨v, H1, I1.tok _, ru, q⟩
end Cm
/-! ### isinstance(x, D), whichever class (after the library's rule for an exception without a dict) -/
namespace PySem.W
open PySem PySem.Spec PySem.Calls PyProof.Rows
theorem cls_ofExc {prog : Program} {w : World} {A : Around} {E : Value → Shared → Prop} {s : Shared} {K : Frag} {x D : Addr} {ox od : Obj} {Q : Option Value → Shared → Prop} (T : L2.ExcC K D) (X : K.In s.heap) (I : InstAt s.heap x ox D (some od))
    (h : Q (some (.ref D)) { s with toks := s.toks + 1 }) : wpAny (model prog w) A (getAttr? (.ref x) "__class__") Q E s := by
  have hf : findObj K D (some od) "__class__" = some (.bind (.builtin "getset_descriptor.__get__") (.builtin "object.__class__")) := findObj_data (by obtain ⟨cd, hc, _⟩ := any_some T.hd; rw [hc]; rfl) T.ha T.hn T.ht
  obtain ⟨hp, g, d, t, os⟩ := s
  have L0 := I.type (M := model prog w)
  have L1 := looks_findIn (M := model prog w) X T.hg
  have L2 := looks_findIn (M := model prog w) X T.hk
  have L3 := looks_find (M := model prog w) X I hf
  have sub : Looks (model prog w) hp (isInstance (.ref x) (.type "BaseException")) true := L0.andThen (looks_subIn X T.hs)
  have ne : (Value.builtin "BaseException.__getattribute__" == Value.builtin "object.__getattribute__") = false := by decide +kernel
  unfold getAttr? getAttrBy? getAttrBy
  refine wpAny_bind (wpAny_mkText (wpAny_bind (wpAny_attempt (wpAny_holding (wpAny_bind (L0.at (wpAny_bind (L1.at ?_))))))))
  show wpAny _ _ (if (onTheHeap (Value.ref D) && Value.builtin "BaseException.__getattribute__" == Value.builtin "object.__getattribute__") = true then _ else _) _ _ _
  rw [show (onTheHeap (Value.ref D) && Value.builtin "BaseException.__getattribute__" == Value.builtin "object.__getattribute__") = false by rw [ne]; rfl, if_neg Bool.false_ne_true]
  unfold getAttrByItsOwn hookBefore
  refine wpAny_bind ?_
  rw [if_pos (show onTheHeap (Value.ref D) = true from rfl)]
  refine L2.at (wpAny_bind (wpAny_attempt (wpAny_holding ?_)))
  unfold callGetattribute
  rw [show (false && onTheHeap (Value.builtin "BaseException.__getattribute__")) = false from rfl, if_neg Bool.false_ne_true]
  unfold boundAndCalled
  rw [PySem.F.excAttr_ValueError.ga.bind (.ref x)]
  refine wpAny_bind (wpAny_pure ?_)
  show wpAny _ _ (call (.builtin "BaseException.__getattribute__") [.ref x, .str "__class__" t]) _ _ _
  refine wpAny_call (codeAny_call_builtin PySem.F.excAttr_ValueError.ga.plain PySem.F.entry_bexc_ga ?_)
  refine @check_slot (model prog w) _ _ ⟨hp, g, d, t + 1, os⟩ "BaseException.__getattribute__" "BaseException" "__getattribute__" (.ref x) [.str "__class__" t] [] _ (by decide +kernel) (by decide +kernel) sub (PySem.F.args_bexc_ga (.ref x) (.str "__class__" t)) ?_
  unfold Builtin.«object.__getattribute__»
  refine wpAny_bind (wpAny_of_eq (a := ((Value.ref x : Value), [Value.str "__class__" t])) (by first | rfl | (simp only [slotArgs]; rfl)) ?_)
  refine wpAny_bind (wpAny_pure (wpAny_bind (L0.at (wpAny_bind (L3.at ?_)))))
  show wpAny _ _ (holding [Value.builtin "object.__class__"] (call (.builtin "getset_descriptor.__get__") [.builtin "object.__class__", .ref x, .ref D]) >>= ret) _ _ _
  refine wpAny_bind (wpAny_holding (wpAny_call (class_get (s := ⟨hp, g, d, t + 1, os⟩) (ox := ox) (od := some od) X I T.hm ?_)))
  refine wpAny_pure ?_
  show wpAny _ _ (handedOut (.ref D)) _ _ _
  rw [handedOut_of (v := .ref D) rfl]
  first
    | exact wpAny_pure (wpAny_pure h)
    | exact wpAny_pure h
    | exact wpAny_pure (wpAny_bind (wpAny_pure (wpAny_pure h)))
theorem kit_ofExc {K : Frag} {x D : Addr} {ox od : Obj} (T : L2.ExcC K D) : KitX K (.ref x) (.ref D) (fun h => InstAt h x ox D (some od)) where
  ty := fun _ _ _ I => I.type
  it := fun _ _ X _ => by
    obtain ⟨cdD, hcD, _⟩ := any_some T.hd
    unfold clsIn at hcD
    split at hcD
    · rename_i c' d' cd' sl' ho
      intro A' Q' E' s' k q
      unfold isType loadHead
      exact wpAny_bind (wpAny_loadPart (k _ _ (X _ _ ho)) (wpAny_pure q))
    · cases hcD
  ne := fun h tp dd its n sl X htp => by
    obtain ⟨cdD, hcD, _⟩ := any_some T.hd
    refine Bool.eq_false_iff.mpr fun q => ?_
    have e : D = tp := Value.ref.inj (beq_iff_eq.mp q)
    subst e
    unfold clsIn at hcD
    split at hcD
    · rename_i c' d' cd' sl' ho
      have z := (X _ _ ho).symm.trans htp
      cases z
    · cases hcD
  ca := fun X I k => cls_ofExc T X I k
end PySem.W
namespace Cm
open PySem L2 PySem.Spec PyProof.Rows
def rIsV (K : PySem.W.Frag) : List V → Hp → VK → Prop := fun xs H Q => ∃ (a C : Addr) (fs : List (Str × V)) (c : V) (cv : Value) (b : Bool), xs = [.ref a, c] ∧ ClsV c cv ∧ ExcC K C ∧ ExV H a C fs ∧ PySem.W.kitOne K (.ref C) cv = some b ∧ Q (.bl b) H
theorem call_isV {X : Cx} : CallR X (.builtin "isinstance") (rIsV X.K) := by
  intro pins s σ H xs us Q I r h
  obtain ⟨a, C, fs, c, cv, b, rfl, kc, T, ⟨dd, eh, ea⟩, e, q⟩ := h
  obtain ⟨u1, u2, rfl, r1, r2⟩ := vals2 r
  obtain rfl : u1 = Value.ref a := r1
  have e2 := kc.eq r2
  subst e2
  obtain ⟨t1, ho⟩ := exo_at I.hok eh
  obtain ⟨mA, hns, hr⟩ := exd_at I.hok ea
  obtain ⟨od, hod, hl⟩ := lookIn_ns hns
  have J : PySem.W.InstAt s.heap a { cls := .ref C, dict := some dd, data := .fields #[.ref t1, .none, .none, .none, .bool false, .none] } C (some od) := ⟨ho, rfl, rfl, hod⟩
  exact PySem.W.kia_one (PySem.W.kit_ofExc T) I.kIn J e (fun z => nomatch z) fun tk => ⟨.bl b, H, I.tok tk, rfl, q⟩
end Cm

set_option linter.all false
/-! classes of errors with fields: what is needed of each -/
namespace Cm
open PySem L2 PySem.Spec PyProof.Rows
/-- what an __init__ that stores its parameters leaves -/
def spI (K : PySem.W.Frag) (fl : List Str) : Sp := fun vs H Q _ => ∃ (a C : Addr) (xs : List V), vs = .ref a :: xs ∧ xs.length = fl.length ∧ OexC K C ∧ (∀ f ∈ fl, PySem.W.findIn K (.ref C) f = some Option.none) ∧ H a = some (exo a C Option.none) ∧
  ∀ (d : Addr) (H' : Hp), H d = Option.none → d ≠ a → (∀ b o, b ≠ a → H b = some o → H' b = some o) → H' a = some (exo a C (some d)) → H' d = some (exd d (fl.zip xs).reverse) → Q .non H'
structure Mk (P : Program) (w : World) (K : PySem.W.Frag) (mg : Str → Option Value) (base : Heap) (C : Addr) (x : Str) (fl : List Str) : Prop where
  oex : OexC K C
  g : mg x = some (.ref C)
  xf : XfC K C
  ec : ExcC K C
  no : ∀ f ∈ fl, PySem.W.findIn K (.ref C) f = some Option.none
  init : ∃ (fI : Addr) (fd : FuncData) (ps : List Str), PySem.W.findIn K (.ref C) "__init__" = some (some (.ref fI)) ∧ PySem.W.typeIn K (.ref fI) = some (.type "function") ∧ FnOk P w K mg base CX0 1 fI fd ps (spI K fl) ∧ Binds K fd ps []
def tMk (C : Addr) (fl : List Str) (ta : TA) : TE := fun σ H Q => ta σ H fun vs H1 => vs.length = fl.length ∧ ∀ a H', Same H1 H' → ExV H' a C (fl.zip vs).reverse → Q (.ref a) H'
theorem pe_mk {X : Cx} {x : Str} {C : Addr} {fl : List Str} {j : Nat} {e : Expr} {es : List Expr} {ta : TA} {p pos : Pos} (M : Mk X.prog X.w X.K X.mg X.base C x fl) (hr : Room j X.A) (hk : 2 ≤ j) (hl : fl.length ≤ 1000) (hg : Gl X x) (ha : PA X (e :: es) ta)
    (hdb : (x == ("__debug__" : Str)) = false := by decide) (he : starEach (e :: es) X.env = (false, eval e X.env) :: starEach es X.env := by rfl) (hpl : (backTo pos (starEach es X.env)).any (·.1) = false := by rfl) :
    PE X (.Call (.Name x p) (e :: es) [] pos) (tMk C fl ta) := by
  obtain ⟨fI, fd, ps, h1, h2, F, b⟩ := M.init
  have ha' : PA X (e :: es) (fun σ H Q => ∃ Q0, ta σ H Q0 ∧ ∀ vs H1, Q0 vs H1 → Q vs H1) := ⟨fun pos pins s σ H Q I ⟨Q0, h0, imp⟩ =>
    wpAny_mono (ha.run pos pins s σ H Q0 I h0) (fun us s1 ⟨vs, H1, I1, r, q⟩ => ⟨vs, H1, I1, r, imp _ _ q⟩) (fun _ _ z => z)⟩
  have R := pe_mkV (p := p) (pos := pos) M.oex h1 h2 F (hr.mono hk) b hg M.g ha' hdb he hpl
  refine ⟨fun pins s σ H Q I h => R.run pins s σ H Q I ⟨_, h, fun vs H1 ⟨hv, hq⟩ => ⟨by omega, fun a ha0 => ?_⟩⟩⟩
  refine ⟨a, C, vs, rfl, hv, M.oex, M.no, upd_same, fun d H' _ _ keep ea ed => ⟨rfl, hq a H' (fun b o q => ?_) ⟨d, ea, ed⟩⟩⟩
  have hb : b ≠ a := fun z => by
    rw [z, ha0] at q
    cases q
  exact keep b o hb (by rw [upd_ne hb]; exact q)
/-- self.f = x, then perhaps self.g = y -/
theorem init1 {K : PySem.W.Frag} {H : Hp} {a C : Addr} {f : Str} {x : V} {Q : Hp → Prop} (T : OexC K C) (no : PySem.W.findIn K (.ref C) f = some Option.none) (ha : H a = some (exo a C Option.none))
    (k : ∀ (d : Addr) (H' : Hp), H d = Option.none → d ≠ a → (∀ b o, b ≠ a → H b = some o → H' b = some o) → H' a = some (exo a C (some d)) → H' d = some (exd d [(f, x)]) → Q H') :
    ∃ a' C', V.ref a = .ref a' ∧ OexC K C' ∧ PySem.W.findIn K (.ref C') f = some Option.none ∧ ((H a' = some (exo a' C' Option.none) ∧ ∀ dx, H dx = Option.none → dx ≠ a' → Q (upd (upd H dx (exd dx [(f, x)])) a' (exo a' C' (some dx)))) ∨
      ∃ (dx : Addr) (fs : List (Str × V)), H a' = some (exo a' C' (some dx)) ∧ H dx = some (exd dx fs) ∧ fs.length ≤ 900 ∧ Q (upd H dx (exd dx ((f, x) :: fs)))) :=
  ⟨a, C, rfl, T, no, .inl ⟨ha, fun dx hd ne => k dx _ hd ne (fun b o hb e => by rw [upd_ne hb, upd_ne (ne_of_none e hd)]; exact e) upd_same (by rw [upd_ne ne]; exact upd_same)⟩⟩
theorem init2 {K : PySem.W.Frag} {H : Hp} {a C d : Addr} {g : Str} {y : V} {fs : List (Str × V)} {Q : Hp → Prop} (T : OexC K C) (no : PySem.W.findIn K (.ref C) g = some Option.none) (ha : H a = some (exo a C (some d))) (hd : H d = some (exd d fs)) (hl : fs.length ≤ 900) (ne : d ≠ a)
    (k : (∀ b o, b ≠ d → H b = some o → (upd H d (exd d ((g, y) :: fs))) b = some o) → Q (upd H d (exd d ((g, y) :: fs)))) :
    ∃ a' C', V.ref a = .ref a' ∧ OexC K C' ∧ PySem.W.findIn K (.ref C') g = some Option.none ∧ ((H a' = some (exo a' C' Option.none) ∧ ∀ dx, H dx = Option.none → dx ≠ a' → Q (upd (upd H dx (exd dx [(g, y)])) a' (exo a' C' (some dx)))) ∨
      ∃ (dx : Addr) (fs : List (Str × V)), H a' = some (exo a' C' (some dx)) ∧ H dx = some (exd dx fs) ∧ fs.length ≤ 900 ∧ Q (upd H dx (exd dx ((g, y) :: fs)))) :=
  ⟨a, C, rfl, T, no, .inr ⟨d, fs, ha, hd, hl, k fun b o hb e => by rw [upd_ne hb]; exact e⟩⟩
end Cm

set_option linter.all false
/-! an error without arguments; isinstance of errors of any kind -/
namespace Cm
open PySem L2 PySem.Spec PyProof.Rows
theorem pe_exc0 {X : Cx} {C : Addr} {bmB : List Value} {B newId initId : String} {x : Str} {p pos : Pos} (F : ExcBaseFacts B newId initId bmB) (q : PySem.W.excIn X.K C bmB newId = true) (gC : X.mg x = some (.ref C)) (kC : PySem.W.keepIn X.K (.ref C) = true) (hg : Gl X x)
    (hdb : (x == ("__debug__" : Str)) = false := by decide) :
    PE X (.Call (.Name x p) [] [] pos) (fun _ H Q => ∀ a, H a = Option.none → Q (.ref a) (upd H a (ExO (.ref C) a))) := by
  refine ⟨fun pins s σ H Q I h => ?_⟩
  refine wpAny_Call_Name_kw (ld_glob I hg gC ?_ hdb)
  refine PySem.W.callWith_K0 I.kIn kC ?_
  show wpAny _ _ (call (.ref C) []) _ _ _
  obtain ⟨bm, N, nm, qn, bs, hdct, sn, sub, ab, col, dd, k0, k1, k2, k3, k5, mN, hC, hN, hni, T⟩ := exc_obj I.kIn q
  refine wpAny_call_exc_subT F T hC hN hni (fun h' a hm => ?_) (by show 0 ≤ sizeLine; rw [sizeLine_eq]; omega)
  have hn : H a = Option.none := I.hok.gone hm.new
  obtain ⟨t, ht, _, _⟩ := hm.there
  exact ⟨.ref a, upd H a (ExO (.ref C) a), I.laidN hm.keeps hm.new hn (exO_ok ht ⟨rfl, rfl⟩ rfl rfl rfl (show 4 < 6 by decide)), rfl, h a hn⟩
/-- an error: with a dict, without, or kept behind a try -/
def ExA (H : Hp) (a C : Addr) : Prop := (∃ fs, ExV H a C fs) ∨ H a = some (ExO (.ref C) a) ∨ ∃ dd fs, H a = some (ExH a (.ref C) (some dd)) ∧ H dd = some (.xd fs)
theorem ExA.same {H H' : Hp} {a C : Addr} (x : ExA H a C) (s : Same H H') : ExA H' a C := by
  rcases x with ⟨fs, x⟩ | x | ⟨dd, fs, x, y⟩
  · exact .inl ⟨fs, x.same s⟩
  · exact .inr (.inl (s _ _ x))
  · exact .inr (.inr ⟨dd, fs, s _ _ x, s _ _ y⟩)
def rIsA (K : PySem.W.Frag) : List V → Hp → VK → Prop := fun xs H Q => ∃ (a C : Addr) (c : V) (cv : Value) (b : Bool), xs = [.ref a, c] ∧ ClsV c cv ∧ ExcC K C ∧ ExA H a C ∧ PySem.W.kitOne K (.ref C) cv = some b ∧ Q (.bl b) H
theorem call_isA {X : Cx} : CallR X (.builtin "isinstance") (rIsA X.K) := by
  intro pins s σ H xs us Q I r h
  obtain ⟨a, C, c, cv, b, rfl, kc, T, x, e, q⟩ := h
  rcases x with ⟨fs, x⟩ | x | ⟨dd, fs, eh, ea⟩
  · exact call_isV pins s σ H _ us Q I r ⟨a, C, fs, c, cv, b, rfl, kc, T, x, e, q⟩
  · obtain ⟨u1, u2, rfl, r1, r2⟩ := vals2 r
    obtain rfl : u1 = Value.ref a := r1
    have e2 := kc.eq r2
    subst e2
    have hx : ObjOk X.prog X.w H s.heap a (ExO (.ref C) a) := I.hok a _ x
    obtain ⟨oe, vs, ho, hz, hd, _⟩ := hx.1
    have J : PySem.W.InstAt s.heap a oe C Option.none := ⟨ho, hz.1, by unfold PySem.W.notCls; rw [hd] <;> rfl, by rw [hz.2]; trivial⟩
    exact PySem.W.kia_one (PySem.W.handS_kitx_exc T.hg T.hk T.hs T.hd T.ha T.hn T.ht T.hm) I.kIn J e (fun z => nomatch z) fun tk => ⟨.bl b, H, I.tok tk, rfl, q⟩
  · obtain ⟨u1, u2, rfl, r1, r2⟩ := vals2 r
    obtain rfl : u1 = Value.ref a := r1
    have e2 := kc.eq r2
    subst e2
    obtain ⟨oe, vs, ho, hz, hd⟩ := exH_at I.hok eh
    have hx : ObjOk X.prog X.w H s.heap dd (.xd fs) := I.hok dd _ ea
    obtain ⟨mA, hns, hr⟩ := hx
    obtain ⟨od, hod, hl⟩ := lookIn_ns hns
    have J : PySem.W.InstAt s.heap a oe C (some od) := ⟨ho, hz.1, by unfold PySem.W.notCls; rw [hd] <;> rfl, by rw [hz.2]; exact hod⟩
    exact PySem.W.kia_one (PySem.W.kit_ofExc T) I.kIn J e (fun z => nomatch z) fun tk => ⟨.bl b, H, I.tok tk, rfl, q⟩
end Cm

set_option linter.all false
/-! raise C(x, ..); try with two clauses of which the second catches and keeps -/
namespace Cm
open PySem L2 PySem.Spec PyProof.Rows
def tRaiseMk (C : Addr) (fl : List Str) (W : WX) (ta : TA) : TS := fun _ σ H => ta σ H fun vs H1 => vs.length = fl.length ∧ ∀ (d : Addr) (H' : Hp), Same H1 H' → H' d = some (.xd (fl.zip vs).reverse) → W (.ref C) (some d) σ H'
theorem ps_raiseMk {X : Cx} {x : Str} {C : Addr} {fl : List Str} {j : Nat} {W : WX} {e : Expr} {es : List Expr} {ta : TA} {p pos pos2 : Pos} (hc : X.calm = true) (M : Mk X.prog X.w X.K X.mg X.base C x fl) (hr : Room j X.A) (hk : 2 ≤ j) (hl : fl.length ≤ 1000) (tk : Takes X W) (hg : Gl X x) (ha : PA X (e :: es) ta)
    (hdb : (x == ("__debug__" : Str)) = false := by decide) (he : starEach (e :: es) X.env = (false, eval e X.env) :: starEach es X.env := by rfl) (hpl : (backTo pos (starEach es X.env)).any (·.1) = false := by rfl) :
    PS X (.Raise (some (.Call (.Name x p) (e :: es) [] pos)) Option.none pos2) (tRaiseMk C fl W ta) := by
  obtain ⟨fI, fd, ps, h1, h2, F, b⟩ := M.init
  have ha' : PA X (e :: es) (fun σ H Q => ∃ Q0, ta σ H Q0 ∧ ∀ vs H1, Q0 vs H1 → Q vs H1) := ⟨fun pos pins s σ H Q I ⟨Q0, h0, imp⟩ =>
    wpAny_mono (ha.run pos pins s σ H Q0 I h0) (fun us s1 ⟨vs, H1, I1, r, q⟩ => ⟨vs, H1, I1, r, imp _ _ q⟩) (fun _ _ z => z)⟩
  have R := ps_raise (pos := pos2) hc tk (pmk_oex (p := p) (pos := pos) M.oex h1 h2 F (hr.mono hk) b .nil (fun _ _ _ _ _ _ _ z => z.elim) hg M.g ha' hdb he hpl)
  refine ⟨fun pins s σ H D I h => R.run pins s σ H D I ⟨_, h, fun vs H1 ⟨hv, hq⟩ => ⟨by omega, fun a ha0 => ?_⟩⟩⟩
  refine ⟨a, C, vs, by rw [List.append_nil], hv, M.oex, M.no, upd_same, fun d H' hd ne keep ea ed => ⟨rfl, d, _, ea, ed, ?_, ?_⟩⟩
  · rw [upd_ne ne] at hd
    exact hd
  · have hd1 : H1 d = Option.none := by rw [upd_ne ne] at hd; exact hd
    refine hq d _ (fun b o q => ?_) upd_same
    have hb : b ≠ a := fun z => by
      rw [z, ha0] at q
      cases q
    rw [upd_ne (ne_of_none q hd1), del_ne hb]
    exact keep b o hb (by rw [upd_ne hb]; exact q)
/-- .. of two clauses, the second catches -/
def wHeld2 (K : PySem.W.Frag) (c1 c : Value) (i : Nat) (ts : Addr → TS) (D : Ends) : WX := fun cls d σ H =>
  PySem.W.exmOne K cls c1 = some false ∧ PySem.W.exmOne K cls c = some true ∧ ∀ a, H a = Option.none → ts a { nx := fun σ' H' => D.nx (σ'.set i Option.none) H', rt := D.rt, bk := fun σ' H' => D.bk (σ'.set i Option.none) H', ct := fun σ' H' => D.ct (σ'.set i Option.none) H' } (σ.set i (some (.ref a))) (upd H a (ExH a cls d))
section
variable {X : Cx} {x n x1 n1 : Str} {c c1 : Value} {i : Nat} {body suite suite1 : List Stmt} {b₀ b1 : Stmt} {np pos pos' np1 pos1 : Pos} {tb : WX → TS} {ts : Addr → TS}
theorem ps_try_held2 (hs : X.stack = X.env :: X.outer) (hf : X.env.frame = some X.env.locals) (hN : X.N.Nodup) (hi : X.N[i]? = some n) (hln : X.env.kindOf n = some .local) (hc1 : Names X x1 c1) (hc : Names X x c) (hex : X.ex = [])
    (hb : ∀ (W : WX) (pn : List (Addr × Obj)) (xe : Value → Shared → Prop), Takes (X.tr pn xe) W → PassesOwn (model X.prog X.w) X.A X.env xe → PSs (X.tr pn xe) body (tb W))
    (hsu : ∀ (a : Addr) (pn : List (Addr × Obj)), PSs (X.suite a pn) (b₀ :: suite) (ts a)) :
    PS X (.Try body [.ExceptHandler (some (.Name x1 np1)) (some n1) (b1 :: suite1) pos1, .ExceptHandler (some (.Name x np)) (some n) (b₀ :: suite) pos'] [] [] pos) (fun D σ H => tb (wHeld2 X.K c1 c i ts D) D σ H) := by
  refine ⟨fun pins s σ H D I h => ?_⟩
  have ok := I.ok
  have hfr : X.A.frames = some (X.env :: X.outer) := by rw [ok.frames, hs]
  refine wpAny_Try_except ?_
  refine wpAny_mono ((hb (wHeld2 X.K c1 c i ts D) (X.pn ++ pins) (fun e s₁ => wpAny (model X.prog X.w) X.A (noteFrame e X.env) (fun _ s₂ => wpAny (model X.prog X.w) X.A (setFlight e Option.none) (fun _ s₃ =>
    wpAny (model X.prog X.w) X.A (handleBy e X.env [.ExceptHandler (some (.Name x1 np1)) (some n1) (b1 :: suite1) pos1, .ExceptHandler (some (.Name x np)) (some n) (b₀ :: suite) pos']) (SP X pins D) X.xe s₃) X.xe s₂) X.xe s₁) (fun u s' xx => ?_) PassesOwn.looking).run [] s σ H D (I.toTry _) h) (fun f s1 hsp => ?_) (fun e s1 he => he)
  · obtain ⟨a, B, sI, pins', σ', H', cls, d, rfl, J', nb, up, sky, na, os, ag, hb0, hb1, hyes⟩ := xx
    have J : Inv X pins σ' H' sI := J'.ofTry ok
    have sky' : Sky B (X.env :: X.outer) a (Zc cls d) X.env.locals s'.heap := by rw [← hs]; exact sky
    show wpAny _ _ (noteFrame (.ref a) X.env) _ _ _
    refine Sky.land Zc.steady hfr hf sky' fun h3 fl3 up3 => ?_
    have J3 : Inv X pins σ' H' { s' with heap := h3 } := J.landed nb fl3.1 (up.trans up3) os ag
    obtain ⟨oe3, vs3, he3, hz3, hd3⟩ := fl3.there
    have nfr : a ∉ frs X.stack := fun hm => by
      rw [hs] at hm
      obtain ⟨_, o', e', hnf⟩ := fl3.2.2.1.mem hm
      rw [he3] at e'
      cases e'
      exact hnf _ hd3
    have nsI : sI.heap.get? a = Option.none := by
      cases q : sI.heap.get? a with
      | none => rfl
      | some o =>
        have z := nb a o q nfr
        rw [fl3.2.1] at z
        cases z
    have n0 : X.s_0.heap.get? a = Option.none := by
      cases q : X.s_0.heap.get? a with
      | none => rfl
      | some o =>
        obtain ⟨o', z⟩ := J.base.there a o q (by rw [hex]; exact List.not_mem_nil)
        rw [nsI] at z
        cases z
    have nL : a ≠ X.env.locals := fun z => nfr (by
      rw [hs]
      exact List.mem_filterMap.mpr ⟨X.env, List.mem_cons_self, by rw [hf, z]⟩)
    have nC : ∀ y c, X.env.cells.lookup y = some c → c ≠ a := fun y c e z => by
      obtain ⟨v, o, ho, _⟩ := J.cell y c e
      rw [z, nsI] at ho
      cases ho
    have nP : ∀ p ∈ X.pn ++ pins, p.1 ≠ a := fun p hp z => by
      have q := (J.pin p hp).1
      rw [z, nsI] at q
      cases q
    have S3 := suite0 J3 a
    refine wpAny_handleBy_cons (codeAny_handlers_test ?_) (by intro q; cases q)
    have LT : PySem.W.Looks (model X.prog X.w) h3 (typeOf (.ref a)) cls := fun A Q E s k q => wpAny_typeOf_ref (k _ _ he3) (by rw [hz3.1]; exact q)
    have LM0 := PySem.W.exm_one (M := model X.prog X.w) (J3.kIn) LT hb0
    have test1 : ∀ {Q : Value → Shared → Prop} {E : Value → Shared → Prop}, Q c1 { s' with heap := h3 } → wpAny (model X.prog X.w) (X.A.mark (some (.ref a))) (eval (.Name x1 np1) X.env) Q E { s' with heap := h3 } := fun {Q E} q => by
      obtain ⟨hg, hdbg, hm | ⟨hm, hv, hnn⟩⟩ := hc1
      · exact ld_glob (X := X.suite a (X.pn ++ pins)) S3 hg hm q hdbg
      · exact ld_blt (X := X.suite a (X.pn ++ pins)) S3 hg hm hv q hnn hdbg
    refine test1 (LM0.here ?_)
    show wpAny _ X.A (handleBy (.ref a) X.env [.ExceptHandler (some (.Name x np)) (some n) (b₀ :: suite) pos']) _ _ _
    refine wpAny_handleBy_cons (codeAny_handlers_test ?_) (by intro q; cases q)
    have LM := PySem.W.exm_one (M := model X.prog X.w) (J3.kIn) LT hb1
    have test : ∀ {Q : Value → Shared → Prop} {E : Value → Shared → Prop}, Q c { s' with heap := h3 } → wpAny (model X.prog X.w) (X.A.mark (some (.ref a))) (eval (.Name x np) X.env) Q E { s' with heap := h3 } := fun {Q E} q => by
      obtain ⟨hg, hdbg, hm | ⟨hm, hv, hnn⟩⟩ := hc
      · exact ld_glob (X := X.suite a (X.pn ++ pins)) S3 hg hm q hdbg
      · exact ld_blt (X := X.suite a (X.pn ++ pins)) S3 hg hm hv q hnn hdbg
    refine test (LM.here ?_)
    refine codeAny_handlers_suite_as ?_
    refine HandSPX.lands_againZ fl3 fun h4 fl4 up4 => ?_
    have J4 : Inv X pins σ' H' { s' with heap := h4 } := J.landed nb fl4.1 ((up.trans up3).trans up4) os ag
    obtain ⟨oe4, vs4, he4, hz4, hd4⟩ := fl4.there
    have T4 := track (o := ExH a cls d) J4 na n0 nL nC nP (exH_ok he4 hz4 hd4)
    have S4 := suite0 T4 a
    refine store_ok (X := X.suite a (X.pn ++ pins)) (v := .ref a) S4 hN hi (.inl hln) rfl (fun s5 S5 => ?_) (.inr hln)
    refine wpAny_mono ((hsu a (X.pn ++ pins)).run [] s5 _ _ _ S5 (hyes a na)) (fun f s6 hsp => ?_) (fun _ _ z => False.elim z)
    have end_ : ∀ {σ6 : L2.St} {H6 : Hp} {Q : Shared → Prop}, Inv (X.suite a (X.pn ++ pins)) [] σ6 H6 s6 → (∀ s7, Inv X pins (σ6.set i Option.none) H6 s7 → Q s7) →
        wpAny (model X.prog X.w) X.A (do bindName X.env n .none; unbindBehindTheSuite X.env n pos') (fun _ s7 => Q s7) X.xe s6 := fun {σ6 H6 Q} S6 hq => gone_ok (unsuite0 S6 ok) hN hi hln hq
    cases f with
    | next =>
      obtain ⟨σ6, H6, S6, q6⟩ := hsp
      exact end_ S6 fun s7 J7 => ⟨_, _, J7, q6⟩
    | brk =>
      obtain ⟨σ6, H6, S6, q6⟩ := hsp
      exact end_ S6 fun s7 J7 => ⟨_, _, J7, q6⟩
    | cont =>
      obtain ⟨σ6, H6, S6, q6⟩ := hsp
      exact end_ S6 fun s7 J7 => ⟨_, _, J7, q6⟩
    | ret u =>
      obtain ⟨v6, σ6, H6, S6, r6, q6⟩ := hsp
      exact end_ S6 fun s7 J7 => ⟨_, _, _, J7, r6, q6⟩
  · cases f with
    | next =>
      obtain ⟨σ', H', J', q⟩ := hsp
      exact wpAny_execs_nil ⟨σ', H', J'.ofTry ok, q⟩
    | brk =>
      obtain ⟨σ', H', J', q⟩ := hsp
      exact ⟨σ', H', J'.ofTry ok, q⟩
    | cont =>
      obtain ⟨σ', H', J', q⟩ := hsp
      exact ⟨σ', H', J'.ofTry ok, q⟩
    | ret u =>
      obtain ⟨v, σ', H', J', r, q⟩ := hsp
      exact ⟨v, σ', H', J'.ofTry ok, r, q⟩
end
end Cm

set_option linter.all false
/-! defs that raise, called by name; the first wrong name of a tree -/
namespace Cm
open PySem L2 PySem.Spec PyProof.Rows
structure ClX (P : Program) (w : World) (K : PySem.W.Frag) (mg : Str → Option Value) (base : Heap) (k : Nat) (x : Str) (sp : Sp) : Prop where
  ex : ∃ (f : Addr) (fd : FuncData) (ps : List Str), FnOk P w K mg base (L2.CX P w) k f fd ps sp ∧ mg x = some (.ref f) ∧ PySem.W.keepIn K (.ref f) = true ∧ Binds K fd ps []
section
variable {P : Program} {w : World} {K : PySem.W.Frag} {mg : Str → Option Value} {base : Heap}
theorem clX_of {x : Str} {st : Stmt} {N ps : List Str} {k : Nat} {sp : Sp} (T : At K mg x st ps) (S : FnScope N ps (defScope st))
    (len : ∀ vs H Q E, sp vs H Q E → vs.length = ps.length)
    (hb : ∀ (f : Addr) (cdv : Value) (A : Around) (outer : List Env) (s : Shared) (H : Hp) (vs : List V) (Q : VK) (E : XK),
      Room k (A.deeper (envOfC x (defScope st) s.heap.objs.size f cdv)) → sp vs H Q E →
      ∃ t, PSs (cxOf (L2.CX P w) P w K mg base N x (defScope st) f cdv A outer s H E) (defBody st) t ∧ t { nx := fun _ H' => Q .non H', rt := Q } (start N vs) H) :
    ClX P w K mg base (k + 1) x sp := by
  obtain ⟨f, fd, F, hm, b⟩ := T.ex
  exact ⟨f, fd, ps, F.okX S len (hb f), hm, F.kp, b⟩
end
section
variable {X : Cx} {j k : Nat} {x : Str} {sp : Sp} {e : Expr} {es : List Expr} {t : TA} {p pos : Pos}
/-- a call that lets nothing out -/
theorem pe_cL (c : ClX X.prog X.w X.K X.mg X.base k x sp) (hr : Room j X.A) (hk : k ≤ j) (hg : Gl X x) (ha : PA X (e :: es) t)
    (hdb : (x == ("__debug__" : Str)) = false := by decide) (he : starEach (e :: es) X.env = (false, eval e X.env) :: starEach es X.env := by rfl)
    (hpl : (backTo pos (starEach es X.env)).any (·.1) = false := by rfl) : PE X (.Call (.Name x p) (e :: es) [] pos) (tCall sp [] E0 t) := by
  obtain ⟨f, fd, ps, F, hm, kp, b⟩ := c.ex
  exact pe_call F (hr.mono hk) hg hm kp b .nil passL ha hdb he hpl
/-- a call in a try -/
theorem pe_cS {W : WX} (c : ClX X.prog X.w X.K X.mg X.base k x sp) (hr : Room j X.A) (hk : k ≤ j) (hg : Gl X x) (tk : Takes X W) (ha : PA X (e :: es) t)
    (hdb : (x == ("__debug__" : Str)) = false := by decide) (he : starEach (e :: es) X.env = (false, eval e X.env) :: starEach es X.env := by rfl)
    (hpl : (backTo pos (starEach es X.env)).any (·.1) = false := by rfl) : PE X (.Call (.Name x p) (e :: es) [] pos) (tCallS sp (WE W) t) := by
  obtain ⟨f, fd, ps, F, hm, kp, b⟩ := c.ex
  exact pe_callS F (hr.mono hk) hg hm kp b (fun σ => passAt tk σ) ha hdb he hpl
end

/-- the first text that stands a second time -/
def twice (pre : List Str) : List Str → Option Str
  | [] => none
  | x :: r => if x ∈ pre then some x else twice (pre ++ [x]) r
theorem twice_sok : ∀ (xs pre : List Str) {x : Str}, twice pre xs = some x → x ∈ xs
  | [], _, _, h => by cases h
  | y :: r, pre, x, h => by
    have h' : (if y ∈ pre then some y else twice (pre ++ [y]) r) = some x := h
    split at h'
    · cases h'
      exact List.mem_cons_self
    · exact List.mem_cons_of_mem _ (twice_sok r _ h')
mutual
/-- the first wrong name, in reading order -/
def Tr.wrong (known : List Str) : Tr → Option (Str × Str)
  | .mk h ps => match (own false h).filter (fun x => !decide (x ∈ known)) with
    | x :: _ => some ("unknown", x)
    | [] => match twice [] (held h) with
      | some x => some ("twice", x)
      | none => Tr.wrongs known h ps.length 0 ps
def Tr.wrongs (known : List Str) (h : Hd) (n : Nat) : Nat → List Tr → Option (Str × Str)
  | _, [] => none
  | i, t :: ts => match t.wrong (known ++ under h n i) with
    | some e => some e
    | none => Tr.wrongs known h n (i + 1) ts
end
mutual
theorem wrong_sok : ∀ (t : Tr) (known : List Str) (e : Str × Str), t.ok → t.wrong known = some e → sok e.1 ∧ sok e.2
  | .mk h ps, known, e, o, w => by
    have o' : hok h ps.length ∧ ps.length ≤ 11 ∧ Tr.oks ps := o
    have w' : (match (own false h).filter (fun x => !decide (x ∈ known)) with
      | x :: _ => some ("unknown", x)
      | [] => match twice [] (held h) with
        | some x => some ("twice", x)
        | none => Tr.wrongs known h ps.length 0 ps) = some e := w
    split at w'
    · rename_i x r q
      cases w'
      refine ⟨show sok "unknown" by decide +kernel, ?_⟩
      have m : x ∈ (own false h).filter (fun x => !decide (x ∈ known)) := by rw [q]; exact List.mem_cons_self
      have m2 : x ∈ (Tr.mk h ps).free false := List.mem_append_left _ (List.mem_filter.mp m).1
      exact free_sok false (.mk h ps) o x m2
    · split at w'
      · rename_i x q
        cases w'
        exact ⟨show sok "twice" by decide +kernel, held_sok o'.1 x (twice_sok _ _ q)⟩
      · exact wrongs_sok 0 ps known h ps.length e o'.2.2 w'
theorem wrongs_sok : ∀ (i : Nat) (ts : List Tr) (known : List Str) (h : Hd) (n : Nat) (e : Str × Str), Tr.oks ts → Tr.wrongs known h n i ts = some e → sok e.1 ∧ sok e.2
  | _, [], _, _, _, _, _, w => by cases w
  | i, t :: ts, known, h, n, e, o, w => by
    have w' : (match t.wrong (known ++ under h n i) with
      | some e => some e
      | none => Tr.wrongs known h n (i + 1) ts) = some e := w
    split at w'
    · rename_i e' q
      cases w'
      exact wrong_sok t _ _ o.1 q
    · exact wrongs_sok (i + 1) ts known h n e o.2 w'
end
end Cm

set_option linter.all false
/-! classes of errors with fields: their facts as one check -/
namespace Cm
open PySem L2 PySem.Spec PyProof.Rows
/-- the def within a class of the text -/
def iniS : Stmt → Stmt
  | .ClassDef _ _ _ b _ _ _ _ _ _ _ => b.getD 0 (.Pass ⟨0, 0, 0, 0⟩)
  | s => s
theorem two_of {α : Type} {xs : List α} (h : xs.length = 2) : ∃ x y, xs = [x, y] := by
  cases xs with
  | nil => simp at h
  | cons a r =>
    obtain ⟨b, rfl⟩ := one_of (show r.length = 1 by simpa using h)
    exact ⟨a, b, rfl⟩
def excB (K : PySem.W.Frag) (C : Addr) : Bool :=
  PySem.W.findIn K (.ref C) "__getattribute__" == some (some (.builtin "BaseException.__getattribute__")) && (PySem.W.findIn K (.ref C) "__getattr__" == some Option.none && (PySem.W.subIn K (.ref C) (.type "BaseException") == some true && (PySem.W.hasDictIn K C &&
    (PySem.W.findIn K (.ref C) "__class__" == some (some (.builtin "object.__class__")) && (PySem.W.specialIn K (.builtin "object.__class__") "__get__" == some (some (.builtin "getset_descriptor.__get__")) && (PySem.W.takesIn K (.builtin "object.__class__") == some true &&
      (PySem.W.mroIn K C (.type "object") == some true && (PySem.W.typeIn K (.ref C) == some (.type "type") && PySem.W.keepIn K (.ref C)))))))))
def clsB (K : PySem.W.Frag) (C fI : Addr) (fl : List Str) : Bool :=
  excB K C && (PySem.W.findIn K (.ref C) "__setattr__" == some (some (.builtin "object.__setattr__")) && ((fl.all fun f => PySem.W.findIn K (.ref C) f == some Option.none) && (PySem.W.typeIn K (.ref fI) == some (.type "function") && PySem.W.keepIn K (.ref fI))))
structure ExcF (K : PySem.W.Frag) (C : Addr) : Prop where
  ec : ExcC K C
  xf : XfC K C
  ty : PySem.W.typeIn K (.ref C) = some (.type "type")
  kp : PySem.W.keepIn K (.ref C) = true
theorem excB_ok {K : PySem.W.Frag} {C : Addr} (h : excB K C = true) : ExcF K C := by
  simp only [excB, Bool.and_eq_true, beq_iff_eq] at h
  obtain ⟨h1, h2, h3, h4, h5, h6, h7, h8, h9, h10⟩ := h
  exact ⟨⟨h1, h2, h3, h4, h5, h6, h7, h8⟩, ⟨h1, h2, h3, h4⟩, h9, h10⟩
theorem clsB_exc {K : PySem.W.Frag} {C fI : Addr} {fl : List Str} (h : clsB K C fI fl = true) : ExcF K C := by
  simp only [clsB, Bool.and_eq_true] at h
  exact excB_ok h.1
theorem clsB_kI {K : PySem.W.Frag} {C fI : Addr} {fl : List Str} (h : clsB K C fI fl = true) : PySem.W.keepIn K (.ref fI) = true := by
  simp only [clsB, Bool.and_eq_true, beq_iff_eq] at h
  exact h.2.2.2.2
theorem mk_of {P : Program} {w : World} {K : PySem.W.Frag} {h : Heap} {mg : Str → Option Value} {base : Heap} {C fI R : Addr} {x : Str} {fl ps : List Str} {fd : FuncData} (X : K.In h) (G : h.Ns mainGlobals mg) (a : PySem.W.nsIn K mainGlobals x = some (some (.ref C)))
    {nm q : Str} {N : Addr} {bs : List Value} {sn : List Str} {sub : List Value} {ab : Bool} {col : Option Bool} {dd : Option Addr} {m0 m1 m2 m3 m5 : Option Value}
    (xl : K.lookup C = some (excClassObj nm q C N bs [.ref R, .type "ValueError", .type "Exception", .type "BaseException", .type "object"] true sn sub ab col dd m0 m1 m2 m3 m5 "ValueError.__new__"))
    (i : PySem.W.findIn K (.ref C) "__init__" = some (some (.ref fI))) (o : clsB K C fI fl = true) (F : FnOk P w K mg base CX0 1 fI fd ps (spI K fl)) (b : Binds K fd ps []) : Mk P w K mg base C x fl := by
  simp only [clsB, Bool.and_eq_true, beq_iff_eq, List.all_eq_true] at o
  obtain ⟨o1, o2, o3, o4, o5⟩ := o
  have E := excB_ok o1
  refine ⟨⟨⟨nm, q, N, bs, _, sn, sub, ab, col, dd, m0, m1, m2, m3, m5, xl, ?_⟩, o2, E.ec.hs, E.ty, E.kp⟩, PySem.W.mg_of X G a, E.xf, E.ec, o3, fI, fd, ps, i, o4, F, b⟩
  show PySem.HandSPX.refsVE [.type "ValueError", .type "Exception", .type "BaseException", .type "object"] = true
  decide +kernel
/-- caught by its own name -/
theorem exm_own {K : PySem.W.Frag} {C fI : Addr} {fl : List Str} (o : clsB K C fI fl = true) (s : PySem.W.subIn K (.ref C) (.ref C) = some true) : PySem.W.exmOne K (.ref C) (.ref C) = some true := by
  have E := clsB_exc o
  exact PySem.W.exm_ref E.ec.hs E.ec.hd E.ty s
end Cm

set_option linter.all false
/-! displays of tuples out of written texts, written numbers and names, as one step -/
namespace Cm
open PySem L2 PySem.Spec PyProof.Rows
inductive DX where
  | str (x : Str)
  | int (i : Int)
  | slot (i : Nat)
  | tup (xs : List DX)
mutual
def DX.data (ρ : Nat → PyData) : DX → PyData
  | .str x => .str x
  | .int i => .int i
  | .slot i => ρ i
  | .tup xs => .tuple (DX.datas ρ xs)
def DX.datas (ρ : Nat → PyData) : List DX → List PyData
  | [] => []
  | x :: xs => x.data ρ :: DX.datas ρ xs
end
mutual
def DX.slots : DX → List Nat
  | .str _ => []
  | .int _ => []
  | .slot i => [i]
  | .tup xs => DX.slotss xs
def DX.slotss : List DX → List Nat
  | [] => []
  | x :: xs => x.slots ++ DX.slotss xs
end
/-- the names hold such data -/
def Has (K : PySem.W.Frag) (ρ : Nat → PyData) (σ : L2.St) (H : Hp) : List Nat → Prop
  | [] => True
  | i :: r => (∃ v, σ[i]? = some (some v) ∧ Dp K H v (ρ i)) ∧ Has K ρ σ H r
theorem Has.same {K : PySem.W.Frag} {ρ : Nat → PyData} {σ : L2.St} {H H' : Hp} (s : Same H H') : ∀ {l : List Nat}, Has K ρ σ H l → Has K ρ σ H' l
  | [], _ => trivial
  | _ :: _, ⟨⟨v, e, h⟩, r⟩ => ⟨⟨v, e, dp_same s _ _ h⟩, Has.same s r⟩
theorem Has.app {K : PySem.W.Frag} {ρ : Nat → PyData} {σ : L2.St} {H : Hp} : ∀ {l m : List Nat}, Has K ρ σ H (l ++ m) → Has K ρ σ H l ∧ Has K ρ σ H m
  | [], _, h => ⟨trivial, h⟩
  | _ :: _, _, ⟨a, r⟩ => ⟨⟨a, (Has.app r).1⟩, (Has.app r).2⟩
def tD (K : PySem.W.Frag) (d : DX) : TE := fun σ H Q => ∃ ρ : Nat → PyData, Has K ρ σ H d.slots ∧ ∀ v H', Same H H' → Dp K H' v (d.data ρ) → Q v H'
def tDs (K : PySem.W.Frag) (ds : List DX) : TA := fun σ H Q => ∃ ρ : Nat → PyData, Has K ρ σ H (DX.slotss ds) ∧ ∀ vs H', Same H H' → DpAll K H' vs (DX.datas ρ ds) → Q vs H'
section
variable {X : Cx} {K : PySem.W.Frag}
theorem pd_str {x : Str} {j : Nat} {pos : Pos} : PE X (.Constant (.str x) j pos) (tD K (.str x)) :=
  ⟨fun pins s σ H Q I ⟨ρ, _, k⟩ => pe_str.run pins s σ H Q I (k _ H (Same.refl H) (.str x))⟩
theorem pd_int {i : Int} {j : Nat} {pos : Pos} : PE X (.Constant (.int i) j pos) (tD K (.int i)) :=
  ⟨fun pins s σ H Q I ⟨ρ, _, k⟩ => pe_int.run pins s σ H Q I (k _ H (Same.refl H) (.int i))⟩
theorem pd_slot {i : Nat} {e : Expr} (h : PE X e (tVar i)) : PE X e (tD K (.slot i)) :=
  ⟨fun pins s σ H Q I ⟨ρ, ⟨⟨v, ev, hv⟩, _⟩, k⟩ => h.run pins s σ H Q I ⟨v, ev, k v H (Same.refl H) hv⟩⟩
theorem pd_nil : PA X [] (tDs K []) :=
  ⟨fun pos pins s σ H Q I ⟨ρ, _, k⟩ => pa_nil.run pos pins s σ H Q I (k [] H (Same.refl H) .nil)⟩
theorem pd_cons {e : Expr} {es : List Expr} {d : DX} {ds : List DX} (h : PE X e (tD K d)) (r : PA X es (tDs K ds)) (hs : starEach (e :: es) X.env = (false, eval e X.env) :: starEach es X.env := by rfl) : PA X (e :: es) (tDs K (d :: ds)) :=
  ⟨fun pos pins s σ H Q I ⟨ρ, hh, k⟩ => (pa_cons h r hs).run pos pins s σ H Q I
    ⟨ρ, (Has.app hh).1, fun v H1 s1 hv => ⟨ρ, (Has.app hh).2.same s1, fun vs H2 s2 hvs => k (v :: vs) H2 (s1.trans s2) (.cons (dp_same s2 _ _ hv) hvs)⟩⟩⟩
theorem datas_len {ρ : Nat → PyData} : ∀ ds : List DX, (DX.datas ρ ds).length = ds.length
  | [] => rfl
  | d :: ds => congrArg (· + 1) (datas_len ds)
theorem pd_tup {es : List Expr} {ds : List DX} {k : Nat} {pos : Pos} (h : PA X es (tDs K ds)) (hl : ds.length ≤ 1000 := by decide) : PE X (.Tuple es k pos) (tD K (.tup ds)) :=
  ⟨fun pins s σ H Q I ⟨ρ, hh, k⟩ => (pe_tup h).run pins s σ H Q I ⟨ρ, hh, fun vs H1 s1 hvs => ⟨by
      have e := DpAll.len hvs
      rw [datas_len] at e
      rw [e]
      exact Nat.le_trans hl (by decide), fun p hp => k _ _ (s1.trans (same_new hp)) (.tup (.inl (.inl upd_same)) (dps_same (same_new hp) _ _ hvs))⟩⟩⟩
end
theorem iteEq {x y : Str} {A B : Prop} (h : x = y) (a : A) : if decide (V.str x = V.str y) = true then A else B := by
  rw [decS, decide_eq_true h]
  exact iteT a
theorem iteNe {x y : Str} {A B : Prop} (h : ¬ x = y) (b : B) : if decide (V.str x = V.str y) = true then A else B := by
  rw [decS, decide_eq_false h]
  exact iteF b
theorem iteIn {x : Str} {ws : List Str} {A B : Prop} (h : x ∈ ws) (a : A) : if inV (.str x) (ws.map V.str) = true then A else B := by
  rw [in_words, decide_eq_true h]
  exact iteT a
theorem iteNi {x : Str} {ws : List Str} {A B : Prop} (h : ¬ x ∈ ws) (b : B) : if inV (.str x) (ws.map V.str) = true then A else B := by
  rw [in_words, decide_eq_false h]
  exact iteF b
theorem mem_str {ws : List Str} {v : V} (h : v ∈ ws.map V.str) : ∃ w, w ∈ ws ∧ v = .str w := by
  obtain ⟨w, hw, rfl⟩ := List.mem_map.mp h
  exact ⟨w, hw, rfl⟩
end Cm

set_option linter.all false
/-! displays of tuples whose parts may draw, as one step -/
namespace Cm
open PySem L2 PySem.Spec PyProof.Rows
inductive GX where
  | str (x : Str)
  | int (i : Int)
  | slot (i : Nat)
  | ex (n : Nat) (te : TE)
  | tup (xs : List GX)
mutual
def GX.data (ρ τ : Nat → PyData) : GX → PyData
  | .str x => .str x
  | .int i => .int i
  | .slot i => ρ i
  | .ex n _ => τ n
  | .tup xs => .tuple (GX.datas ρ τ xs)
def GX.datas (ρ τ : Nat → PyData) : List GX → List PyData
  | [] => []
  | x :: xs => x.data ρ τ :: GX.datas ρ τ xs
end
mutual
def GX.slots : GX → List Nat
  | .slot i => [i]
  | .tup xs => GX.slotss xs
  | _ => []
def GX.slotss : List GX → List Nat
  | [] => []
  | x :: xs => x.slots ++ GX.slotss xs
end
mutual
def GX.exs : GX → List (Nat × TE)
  | .ex n te => [(n, te)]
  | .tup xs => GX.exss xs
  | _ => []
def GX.exss : List GX → List (Nat × TE)
  | [] => []
  | x :: xs => x.exs ++ GX.exss xs
end
/-- the names hold such data, without lists -/
def HasF (K : PySem.W.Frag) (ρ : Nat → PyData) (σ : L2.St) (H : Hp) : List Nat → Prop
  | [] => True
  | i :: r => (∃ v, σ[i]? = some (some v) ∧ Dp K H v (ρ i) ∧ flatD (ρ i) = true) ∧ HasF K ρ σ H r
theorem HasF.kp {K : PySem.W.Frag} {M : Addr → Prop} {ρ : Nat → PyData} {σ : L2.St} {H H' : Hp} (s : Kp M H H') : ∀ {l : List Nat}, HasF K ρ σ H l → HasF K ρ σ H' l
  | [], _ => trivial
  | _ :: _, ⟨⟨v, e, h, f⟩, r⟩ => ⟨⟨v, e, dp_keep (fun _ _ q => s.tup q) _ _ f h, f⟩, HasF.kp s r⟩
theorem HasF.app {K : PySem.W.Frag} {ρ : Nat → PyData} {σ : L2.St} {H : Hp} : ∀ {l m : List Nat}, HasF K ρ σ H (l ++ m) → HasF K ρ σ H l ∧ HasF K ρ σ H m
  | [], _, h => ⟨trivial, h⟩
  | _ :: _, _, ⟨a, r⟩ => ⟨⟨a, (HasF.app r).1⟩, (HasF.app r).2⟩
/-- each part that draws gives data that is good, wherever it is asked -/
def AllE (K : PySem.W.Frag) (h c : Addr) (S : Nat → PyData → Prop) (σ : L2.St) (H : Hp) : List (Nat × TE) → Prop
  | [] => True
  | e :: r => (∀ H1, Kh h H H1 → Hand H1 h c → e.2 σ H1 fun x H2 => Kh h H1 H2 ∧ Hand H2 h c ∧ ∃ d, S e.1 d ∧ flatD d = true ∧ Dp K H2 x d) ∧ AllE K h c S σ H r
theorem AllE.kp {K : PySem.W.Frag} {h c : Addr} {S : Nat → PyData → Prop} {σ : L2.St} {H H' : Hp} (s : Kh h H H') : ∀ {l : List (Nat × TE)}, AllE K h c S σ H l → AllE K h c S σ H' l
  | [], _ => trivial
  | _ :: _, ⟨a, r⟩ => ⟨fun H1 k x => a H1 (s.trans k) x, AllE.kp s r⟩
theorem AllE.app {K : PySem.W.Frag} {h c : Addr} {S : Nat → PyData → Prop} {σ : L2.St} {H : Hp} : ∀ {l m : List (Nat × TE)}, AllE K h c S σ H (l ++ m) → AllE K h c S σ H l ∧ AllE K h c S σ H m
  | [], _, q => ⟨trivial, q⟩
  | _ :: _, _, ⟨a, r⟩ => ⟨⟨a, (AllE.app r).1⟩, (AllE.app r).2⟩
/-- what was drawn -/
def AllS (S : Nat → PyData → Prop) (τ : Nat → PyData) : List (Nat × TE) → Prop
  | [] => True
  | e :: r => S e.1 (τ e.1) ∧ AllS S τ r
def nums (l : List (Nat × TE)) : List Nat := l.map (·.1)
mutual
theorem flat_gdata {K : PySem.W.Frag} {ρ τ : Nat → PyData} {σ : L2.St} {H : Hp} : ∀ (d : GX), HasF K ρ σ H d.slots → (∀ n, flatD (τ n) = true) → flatD (d.data ρ τ) = true
  | .str _, _, _ => rfl
  | .int _, _, _ => rfl
  | .slot _, ⟨⟨_, _, _, f⟩, _⟩, _ => f
  | .ex n _, _, t => t n
  | .tup xs, h, t => by
    show flatDs (GX.datas ρ τ xs) = true
    exact flat_gdatas xs h t
theorem flat_gdatas {K : PySem.W.Frag} {ρ τ : Nat → PyData} {σ : L2.St} {H : Hp} : ∀ (ds : List GX), HasF K ρ σ H (GX.slotss ds) → (∀ n, flatD (τ n) = true) → flatDs (GX.datas ρ τ ds) = true
  | [], _, _ => rfl
  | d :: ds, h, t => by
    have h1 := flat_gdata d h.app.1 t
    have h2 := flat_gdatas ds h.app.2 t
    show (flatD (d.data ρ τ) && flatDs (GX.datas ρ τ ds)) = true
    rw [h1, h2]
    rfl
end
/-- the data of parts with numbers of their own -/
def put (τ : Nat → PyData) (n : Nat) (d : PyData) : Nat → PyData := fun m => if m = n then d else τ m
mutual
theorem data_eq {ρ τ τ' : Nat → PyData} : ∀ (d : GX), (∀ n ∈ nums d.exs, τ n = τ' n) → d.data ρ τ = d.data ρ τ'
  | .str _, _ => rfl
  | .int _, _ => rfl
  | .slot _, _ => rfl
  | .ex n te, h => h n List.mem_cons_self
  | .tup xs, h => congrArg PyData.tuple (datas_eq xs h)
theorem datas_eq {ρ τ τ' : Nat → PyData} : ∀ (ds : List GX), (∀ n ∈ nums (GX.exss ds), τ n = τ' n) → GX.datas ρ τ ds = GX.datas ρ τ' ds
  | [], _ => rfl
  | d :: ds, h => by
    have h' : ∀ n ∈ nums (d.exs ++ GX.exss ds), τ n = τ' n := h
    unfold nums at h'
    rw [List.map_append] at h'
    have e1 := data_eq (ρ := ρ) (τ := τ) (τ' := τ') d fun n m => h' n (List.mem_append_left _ m)
    have e2 := datas_eq (ρ := ρ) (τ := τ) (τ' := τ') ds fun n m => h' n (List.mem_append_right _ m)
    show d.data ρ τ :: GX.datas ρ τ ds = d.data ρ τ' :: GX.datas ρ τ' ds
    rw [e1, e2]
end
theorem alls_eq {S : Nat → PyData → Prop} {τ τ' : Nat → PyData} : ∀ {l : List (Nat × TE)}, (∀ n ∈ nums l, τ n = τ' n) → AllS S τ l → AllS S τ' l
  | [], _, _ => trivial
  | e :: r, h, ⟨a, b⟩ => ⟨by rw [← h e.1 List.mem_cons_self]; exact a, alls_eq (fun n m => h n (List.mem_cons_of_mem _ m)) b⟩
theorem alls_app {S : Nat → PyData → Prop} {τ : Nat → PyData} : ∀ {l m : List (Nat × TE)}, AllS S τ l → AllS S τ m → AllS S τ (l ++ m)
  | [], _, _, q => q
  | _ :: _, _, ⟨a, r⟩, q => ⟨a, alls_app r q⟩
def tG (K : PySem.W.Frag) (d : GX) : TE := fun σ H Q => ∃ (h c : Addr) (ρ : Nat → PyData) (S : Nat → PyData → Prop), Hand H h c ∧ HasF K ρ σ H d.slots ∧ AllE K h c S σ H d.exs ∧
  ∀ v H' τ, Kh h H H' → Hand H' h c → AllS S τ d.exs → (∀ n, flatD (τ n) = true) → Dp K H' v (d.data ρ τ) → Q v H'
def tGs (K : PySem.W.Frag) (ds : List GX) : TA := fun σ H Q => ∃ (h c : Addr) (ρ : Nat → PyData) (S : Nat → PyData → Prop), Hand H h c ∧ HasF K ρ σ H (GX.slotss ds) ∧ AllE K h c S σ H (GX.exss ds) ∧
  ∀ vs H' τ, Kh h H H' → Hand H' h c → AllS S τ (GX.exss ds) → (∀ n, flatD (τ n) = true) → DpAll K H' vs (GX.datas ρ τ ds) → Q vs H'
section
variable {X : Cx} {K : PySem.W.Frag}
theorem pgx_str {x : Str} {j : Nat} {pos : Pos} : PE X (.Constant (.str x) j pos) (tG K (.str x)) :=
  ⟨fun pins s σ H Q I ⟨h, c, ρ, S, hh, _, _, k⟩ => pe_str.run pins s σ H Q I (k _ H (fun _ => .none) hh.kr hh trivial (fun _ => rfl) (.str x))⟩
theorem pgx_int {i : Int} {j : Nat} {pos : Pos} : PE X (.Constant (.int i) j pos) (tG K (.int i)) :=
  ⟨fun pins s σ H Q I ⟨h, c, ρ, S, hh, _, _, k⟩ => pe_int.run pins s σ H Q I (k _ H (fun _ => .none) hh.kr hh trivial (fun _ => rfl) (.int i))⟩
theorem pgx_slot {i : Nat} {e : Expr} (h : PE X e (tVar i)) : PE X e (tG K (.slot i)) :=
  ⟨fun pins s σ H Q I ⟨h', c, ρ, S, hh, ⟨⟨v, ev, hv, _⟩, _⟩, _, k⟩ => h.run pins s σ H Q I ⟨v, ev, k v H (fun _ => .none) hh.kr hh trivial (fun _ => rfl) hv⟩⟩
theorem pgx_ex {e : Expr} {te : TE} (n : Nat) (he : PE X e te) : PE X e (tG K (.ex n te)) :=
  ⟨fun pins s σ H Q I ⟨h, c, ρ, S, hh, _, a, k⟩ => wpAny_mono (he.run pins s σ H _ I (a.1 H hh.kr hh)) (fun u s1 ⟨x, H2, I2, r, ⟨k2, hh2, d, sd, fd, hd⟩⟩ =>
    ⟨x, H2, I2, r, k x H2 (fun _ => d) k2 hh2 ⟨sd, trivial⟩ (fun _ => fd) hd⟩) (fun _ _ z => z)⟩
theorem pgx_nil : PA X [] (tGs K []) :=
  ⟨fun pos pins s σ H Q I ⟨h, c, ρ, S, hh, _, _, k⟩ => pa_nil.run pos pins s σ H Q I (k [] H (fun _ => .none) hh.kr hh trivial (fun _ => rfl) .nil)⟩
/-- the numbers of the first part are not those of the others -/
def apart (l m : List (Nat × TE)) : Bool := (nums l).all fun n => !(nums m).contains n
theorem pgx_cons {e : Expr} {es : List Expr} {d : GX} {ds : List GX} (hd : PE X e (tG K d)) (r : PA X es (tGs K ds)) (ap : apart d.exs (GX.exss ds) = true := by rfl)
    (hs : starEach (e :: es) X.env = (false, eval e X.env) :: starEach es X.env := by rfl) : PA X (e :: es) (tGs K (d :: ds)) :=
  ⟨fun pos pins s σ H Q I ⟨h, c, ρ, S, hh, hf, ha, k⟩ => (pa_cons hd r hs).run pos pins s σ H Q I
    ⟨h, c, ρ, S, hh, hf.app.1, ha.app.1, fun v H1 τ1 k1 hh1 a1 f1 hv => ⟨h, c, ρ, S, hh1, hf.app.2.kp k1, ha.app.2.kp k1, fun vs H2 τ2 k2 hh2 a2 f2 hvs => by
      have no : ∀ n ∈ nums d.exs, ¬ n ∈ nums (GX.exss ds) := fun n m z => by
        have := List.all_eq_true.mp ap n m
        rw [List.contains_iff_mem.mpr z] at this
        cases this
      let τ : Nat → PyData := fun n => if n ∈ nums d.exs then τ1 n else τ2 n
      have e1 : ∀ n ∈ nums d.exs, τ1 n = τ n := fun n m => (if_pos m).symm
      have e2 : ∀ n ∈ nums (GX.exss ds), τ2 n = τ n := fun n m => (if_neg (fun z => no n z m)).symm
      refine k (v :: vs) H2 τ (k1.trans k2) hh2 (alls_app (alls_eq e1 a1) (alls_eq e2 a2)) (fun n => ?_) ?_
      · show flatD (if n ∈ nums d.exs then τ1 n else τ2 n) = true
        split
        · exact f1 n
        · exact f2 n
      · show DpAll K H2 (v :: vs) (d.data ρ τ :: GX.datas ρ τ ds)
        rw [← data_eq d e1, ← datas_eq ds e2]
        exact .cons (dp_keep (fun _ _ q => k2.tup q) _ _ (flat_gdata d hf.app.1 f1) hv) hvs⟩⟩⟩
theorem gdatas_len {ρ τ : Nat → PyData} : ∀ ds : List GX, (GX.datas ρ τ ds).length = ds.length
  | [] => rfl
  | d :: ds => congrArg (· + 1) (gdatas_len ds)
theorem pgx_tup {es : List Expr} {ds : List GX} {k : Nat} {pos : Pos} (h : PA X es (tGs K ds)) (hl : ds.length ≤ 1000 := by exact Nat.le_of_ble_eq_true rfl) : PE X (.Tuple es k pos) (tG K (.tup ds)) :=
  ⟨fun pins s σ H Q I ⟨h', c, ρ, S, hh, hf, ha, k⟩ => (pe_tup h).run pins s σ H Q I ⟨h', c, ρ, S, hh, hf, ha, fun vs H1 τ k1 hh1 a1 f1 hvs => ⟨by
      have e := DpAll.len hvs
      rw [gdatas_len] at e
      rw [e]
      exact Nat.le_trans hl (by decide), fun p hp => k _ _ τ (k1.trans (hh1.kh (same_new hp))) (hh1.same (same_new hp)) a1 f1 (.tup (.inl (.inl upd_same)) (dps_same (same_new hp) _ _ hvs))⟩⟩⟩
end
end Cm

set_option linter.all false
/-! how deep the data of a tree is; where a name is used -/
namespace Cm
open PySem L2 PySem.Spec PyProof.Rows
def wt (b : Nat) : Hd → Nat
  | .bind _ _ => 3
  | .doo => 2
  | .call => 2
  | .op _ => 2
  | .plain w => if w = "wind" then 1 + b else 1
  | _ => 1
mutual
def Tr.dd (b : Nat) : Tr → Nat
  | .mk h ps => wt b h + Tr.dds b ps
def Tr.dds (b : Nat) : List Tr → Nat
  | [] => 0
  | t :: ts => max (t.dd b) (Tr.dds b ts)
end
theorem dds_le {b n : Nat} : ∀ {ps : List Tr}, Tr.dds b ps ≤ n ↔ ∀ t ∈ ps, t.dd b ≤ n
  | [] => by simp [Tr.dds]
  | t :: ts => by
    have := dds_le (b := b) (n := n) (ps := ts)
    show max (t.dd b) (Tr.dds b ts) ≤ n ↔ _
    rw [Nat.max_le, this]
    simp
theorem wt_pos (b : Nat) (h : Hd) : 1 ≤ wt b h := by
  cases h with
  | plain w =>
    show 1 ≤ (if w = "wind" then 1 + b else 1)
    split <;> omega
  | _ => exact Nat.le_of_ble_eq_true rfl
theorem dd_pos (b : Nat) (t : Tr) : 1 ≤ t.dd b := by
  cases t with
  | mk h ps =>
    have := wt_pos b h
    show 1 ≤ wt b h + Tr.dds b ps
    omega
theorem dep_dd (b : Nat) (t : Tr) : t.dep ≤ t.dd b := by
  refine tr_ind (P := fun t => t.dep ≤ t.dd b) (fun h ps ih => ?_) t
  have h1 := wt_pos b h
  have h2 : Tr.deps ps ≤ Tr.dds b ps := deps_le.mpr fun t m => Nat.le_trans (ih t m) (dds_le.mp (Nat.le_refl _) t m)
  show Tr.deps ps + 1 ≤ wt b h + Tr.dds b ps
  omega
theorem lay_encD {b m : Nat} {h : Hd} {ds : List PyData} (o : hok h ds.length) (f : ∀ d ∈ ds, Lay m d) (p : ds ≠ [] → 1 ≤ m) : Lay (wt b h + m) (encH h ds) := by
  have hw : ∀ w, (w ∈ litW ∨ w ∈ oneW ∨ w ∈ bindW ∨ w ∈ plainW) → ∀ n, Lay n (.str w) := fun w q n => .str (words_sok w (by
    simp only [List.mem_append]
    rcases q with q | q | q | q
    · exact .inl (.inl (.inl q))
    · exact .inl (.inl (.inr q))
    · exact .inl (.inr q)
    · exact .inr q)) _
  have c : ∀ {n : Nat} {d : PyData} {ds : List PyData}, Lay n d → (∀ e ∈ ds, Lay n e) → ∀ e ∈ d :: ds, Lay n e := fun a b e q => by
    rcases List.mem_cons.mp q with rfl | q
    · exact a
    · exact b e q
  have nil : ∀ {n : Nat}, ∀ e ∈ ([] : List PyData), Lay n e := fun e q => by cases q
  have S : ∀ (n : Nat) (w : Str), sok w → Lay n (.str w) := fun n w h => .str h _
  cases h with
  | num i => exact (Lay.tup (n := m) (c (S m "number" (by decide +kernel)) (c (.int i _) nil))).mono (by show m + 1 ≤ 1 + m; omega)
  | name x => exact (Lay.tup (n := m) (c (S m "name" (by decide +kernel)) (c (S m x o.2) nil))).mono (by show m + 1 ≤ 1 + m; omega)
  | lit w => exact (Lay.tup (n := m) (c (hw w (.inl o.2) m) nil)).mono (by show m + 1 ≤ 1 + m; omega)
  | one w x => exact (Lay.tup (n := m) (c (hw w (.inr (.inl o.2.1)) m) (c (S m x o.2.2) f))).mono (by show m + 1 ≤ 1 + m; omega)
  | fn xs =>
    have p1 := p (fun z => by rw [z] at o; exact absurd o.1 (by decide))
    obtain ⟨m', rfl⟩ : ∃ m', m = m' + 1 := ⟨m - 1, by omega⟩
    exact (Lay.tup (n := m' + 1) (c (S _ "fn" (by decide +kernel)) (c (lay_strs o.2.2 m') f))).mono (by show m' + 1 + 1 ≤ 1 + (m' + 1); omega)
  | bind w xs =>
    refine (Lay.tup (n := m + 2) (c (hw w (.inr (.inr (.inl o.2.1))) _) (c (Lay.tup (n := m + 1) fun d hd => ?_) fun d hd => (f d (List.mem_of_mem_drop hd)).mono (by omega)))).mono (by show m + 2 + 1 ≤ 3 + m; omega)
    obtain ⟨q, hq, rfl⟩ := List.mem_map.mp hd
    have hz := List.of_mem_zip (show (q.1, q.2) ∈ xs.zip ds from hq)
    refine Lay.tup (n := m) fun d hd => ?_
    simp only [List.mem_cons, List.not_mem_nil, or_false] at hd
    rcases hd with rfl | rfl
    · exact .str (o.2.2 _ hz.1) _
    · exact f _ hz.2
  | doo => exact (Lay.tup (n := m + 1) (c (S _ "do" (by decide +kernel)) (c (Lay.tup f) nil))).mono (by show m + 1 + 1 ≤ 2 + m; omega)
  | call =>
    refine (Lay.tup (n := m + 1) (c (S _ "call" (by decide +kernel)) fun d hd => ?_)).mono (by show m + 1 + 1 ≤ 2 + m; omega)
    rcases List.mem_append.mp hd with hd | hd
    · exact (f d (List.mem_of_mem_take hd)).mono (by omega)
    · cases List.mem_singleton.mp hd
      exact Lay.tup fun d q => f d (List.mem_of_mem_drop q)
  | op o' => exact (Lay.tup (n := m + 1) (c (S _ "op" (by decide +kernel)) (c (S _ o' o) (c (Lay.tup f) nil)))).mono (by show m + 1 + 1 ≤ 2 + m; omega)
  | plain w => exact (Lay.tup (n := m) (c (hw w (.inr (.inr (.inr o))) m) f)).mono (by have := wt_pos b (.plain w); omega)
theorem lay_dd (b : Nat) (t : Tr) : t.ok → Lay (t.dd b) t.enc := by
  refine tr_ind (P := fun t => t.ok → Lay (t.dd b) t.enc) (fun h ps ih o => ?_) t
  have o' : hok h ps.length ∧ ps.length ≤ 11 ∧ Tr.oks ps := o
  show Lay (wt b h + Tr.dds b ps) (encH h (Tr.encL ps))
  refine lay_encD (by rw [encL_len]; exact o'.1) (fun d hd => ?_) fun z => ?_
  · rw [encL_map] at hd
    obtain ⟨u, m, rfl⟩ := List.mem_map.mp hd
    exact (ih u m (oks_iff.mp o'.2.2 u m)).mono (dds_le.mp (Nat.le_refl _) u m)
  · cases ps with
    | nil => exact absurd rfl z
    | cons u r =>
      have := dd_pos b u
      show 1 ≤ max (u.dd b) (Tr.dds b r)
      omega
/-! ### where a name is used -/
def baseU (x : Str) : Hd → List (List Int × Str)
  | .name y => if y = x then [([], "read")] else []
  | .one w y => if w = "set" ∧ y = x then [([], "set")] else []
  | _ => []
def isNm (x : Str) : Hd → Bool
  | .name y => decide (y = x)
  | _ => false
/-- the called part of a call of one argument that is a name -/
def cal (h : Hd) (n i : Nat) (t : Tr) : Bool := isCall h && decide (n = 2) && decide (i = 0) && isName t.hd
def hw (c : Bool) (s : Str) : Str := if c = true then "called" else s
mutual
def Tr.uses (x : Str) : Tr → List (List Int × Str)
  | .mk h ps => baseU x h ++ Tr.usesL x h ps.length 0 ps
def Tr.usesL (x : Str) (h : Hd) (n : Nat) : Nat → List Tr → List (List Int × Str)
  | _, [] => []
  | i, t :: ts => (if x ∈ under h n i then [] else (t.uses x).map fun p => (((i : Nat) : Int) :: p.1, hw (cal h n i t) p.2)) ++ Tr.usesL x h n (i + 1) ts
end
def rawL (x : Str) (h : Hd) (n : Nat) : Nat → List Tr → List (List Int × Str)
  | _, [] => []
  | i, t :: ts => (if x ∈ under h n i then [] else (t.uses x).map fun p => (((i : Nat) : Int) :: p.1, p.2)) ++ rawL x h n (i + 1) ts
theorem usesL_snoc (x : Str) (h : Hd) (n : Nat) (t : Tr) : ∀ (ts : List Tr) (i : Nat), Tr.usesL x h n i (ts ++ [t]) = Tr.usesL x h n i ts ++ (if x ∈ under h n (i + ts.length) then [] else (t.uses x).map fun p => (((i + ts.length : Nat) : Int) :: p.1, hw (cal h n (i + ts.length) t) p.2))
  | [], i => by
    show (if x ∈ under h n i then [] else _) ++ [] = [] ++ _
    simp
  | a :: ts, i => by
    show (if x ∈ under h n i then [] else _) ++ Tr.usesL x h n (i + 1) (ts ++ [t]) = ((if x ∈ under h n i then [] else _) ++ Tr.usesL x h n (i + 1) ts) ++ _
    rw [usesL_snoc x h n t ts (i + 1), List.append_assoc, List.length_cons, show i + 1 + ts.length = i + (ts.length + 1) by omega]
theorem rawL_snoc (x : Str) (h : Hd) (n : Nat) (t : Tr) : ∀ (ts : List Tr) (i : Nat), rawL x h n i (ts ++ [t]) = rawL x h n i ts ++ (if x ∈ under h n (i + ts.length) then [] else (t.uses x).map fun p => (((i + ts.length : Nat) : Int) :: p.1, p.2))
  | [], i => by
    show (if x ∈ under h n i then [] else _) ++ [] = [] ++ _
    simp
  | a :: ts, i => by
    show (if x ∈ under h n i then [] else _) ++ rawL x h n (i + 1) (ts ++ [t]) = ((if x ∈ under h n i then [] else _) ++ rawL x h n (i + 1) ts) ++ _
    rw [rawL_snoc x h n t ts (i + 1), List.append_assoc, List.length_cons, show i + 1 + ts.length = i + (ts.length + 1) by omega]
theorem raw_eq {x : Str} {h : Hd} {n : Nat} : ∀ {ts : List Tr} {i : Nat}, (∀ j t, ts[j]? = some t → cal h n (i + j) t = true → t.uses x = []) → rawL x h n i ts = Tr.usesL x h n i ts
  | [], _, _ => rfl
  | t :: ts, i, q => by
    show (if x ∈ under h n i then [] else _) ++ rawL x h n (i + 1) ts = (if x ∈ under h n i then [] else _) ++ Tr.usesL x h n (i + 1) ts
    have e1 := raw_eq (x := x) (h := h) (n := n) (ts := ts) (i := i + 1) fun j t' e c => q (j + 1) t' (by simpa using e) (by rw [show i + (j + 1) = i + 1 + j by omega]; exact c)
    rw [e1]
    congr 1
    by_cases m : x ∈ under h n i
    · rw [if_pos m, if_pos m]
    · rw [if_neg m, if_neg m]
      by_cases c : cal h n i t = true
      · rw [q 0 t rfl c]; rfl
      · refine List.map_congr_left fun p _ => ?_
        show _ = (((i : Nat) : Int) :: p.1, (if cal h n i t = true then "called" else p.2 : Str))
        rw [if_neg c]
theorem baseU_len (x : Str) (h : Hd) : (baseU x h).length ≤ 1 := by
  cases h with
  | name y => show (if y = x then [([], "read")] else [] : List (List Int × Str)).length ≤ 1; split <;> simp
  | one w y => show (if w = "set" ∧ y = x then [([], "set")] else [] : List (List Int × Str)).length ≤ 1; split <;> simp
  | _ => exact Nat.zero_le _
mutual
theorem uses_len (x : Str) : ∀ t : Tr, (t.uses x).length ≤ t.size
  | .mk h ps => by
    have h1 := baseU_len x h
    have h2 := usesL_len x h ps.length 0 ps
    show (baseU x h ++ Tr.usesL x h ps.length 0 ps).length ≤ Tr.sizes ps + 1
    rw [List.length_append]
    omega
theorem usesL_len (x : Str) (h : Hd) (n : Nat) : ∀ (i : Nat) (ts : List Tr), (Tr.usesL x h n i ts).length ≤ Tr.sizes ts
  | _, [] => Nat.le_refl _
  | i, t :: ts => by
    have h1 := uses_len x t
    have h2 := usesL_len x h n (i + 1) ts
    show ((if x ∈ under h n i then [] else _) ++ Tr.usesL x h n (i + 1) ts).length ≤ t.size + Tr.sizes ts
    rw [List.length_append]
    split
    · simp only [List.length_nil]; omega
    · rw [List.length_map]; omega
end
theorem rawL_len (x : Str) (h : Hd) (n : Nat) : ∀ (i : Nat) (ts : List Tr), (rawL x h n i ts).length ≤ Tr.sizes ts
  | _, [] => Nat.le_refl _
  | i, t :: ts => by
    have h1 := uses_len x t
    have h2 := rawL_len x h n (i + 1) ts
    show ((if x ∈ under h n i then [] else _) ++ rawL x h n (i + 1) ts).length ≤ t.size + Tr.sizes ts
    rw [List.length_append]
    split
    · simp only [List.length_nil]; omega
    · rw [List.length_map]; omega
def useD (p : List Int × Str) : PyData := .tuple [pathI p.1, .str p.2]
theorem flat_useD (p : List Int × Str) : flatD (useD p) = true := by
  have := flatDs_ints p.1
  simp [useD, pathI, flatD, flatDs, this]
theorem flat_usesD (l : List (List Int × Str)) : flatDs (l.map useD) = true := flatDs_of _ fun d hd => by
  obtain ⟨p, _, rfl⟩ := List.mem_map.mp hd
  exact flat_useD p
mutual
theorem use_ok (x : Str) : ∀ t : Tr, ∀ p ∈ t.uses x, p.1.length ≤ t.size ∧ sok p.2
  | .mk h ps, p, m => by
    have m' : p ∈ baseU x h ++ Tr.usesL x h ps.length 0 ps := m
    rcases List.mem_append.mp m' with m' | m'
    · cases h with
      | name y =>
        have m2 : p ∈ (if y = x then [([], "read")] else [] : List (List Int × Str)) := m'
        split at m2
        · rw [List.mem_singleton.mp m2]; exact ⟨Nat.zero_le _, by decide +kernel⟩
        · cases m2
      | one w y =>
        have m2 : p ∈ (if w = "set" ∧ y = x then [([], "set")] else [] : List (List Int × Str)) := m'
        split at m2
        · rw [List.mem_singleton.mp m2]; exact ⟨Nat.zero_le _, by decide +kernel⟩
        · cases m2
      | _ => cases m'
    · have := useL_ok x h ps.length 0 ps p m'
      exact ⟨by show p.1.length ≤ Tr.sizes ps + 1; omega, this.2⟩
theorem useL_ok (x : Str) (h : Hd) (n : Nat) : ∀ (i : Nat) (ts : List Tr), ∀ p ∈ Tr.usesL x h n i ts, p.1.length ≤ Tr.sizes ts + 1 ∧ sok p.2
  | _, [], _, m => by cases m
  | i, t :: ts, p, m => by
    have m' : p ∈ (if x ∈ under h n i then [] else (t.uses x).map fun p => (((i : Nat) : Int) :: p.1, hw (cal h n i t) p.2)) ++ Tr.usesL x h n (i + 1) ts := m
    rcases List.mem_append.mp m' with m' | m'
    · split at m'
      · cases m'
      · obtain ⟨q, hq, rfl⟩ := List.mem_map.mp m'
        have := use_ok x t q hq
        refine ⟨?_, ?_⟩
        · show q.1.length + 1 ≤ t.size + Tr.sizes ts + 1
          omega
        · show sok (if cal h n i t = true then "called" else q.2 : Str)
          split
          · decide +kernel
          · exact this.2
    · have := useL_ok x h n (i + 1) ts p m'
      exact ⟨by show p.1.length ≤ t.size + Tr.sizes ts + 1; omega, this.2⟩
end
/-- the first use of a call of a name -/
theorem raw_call {x : Str} {y : Str} {b : Tr} (e : y = x) : ∃ r : List (List Int × Str), rawL x .call 2 0 [.mk (.name y) [], b] = ([0], ("read" : Str)) :: r ∧ Tr.usesL x .call 2 0 [.mk (.name y) [], b] = ([0], ("called" : Str)) :: r := by
  refine ⟨(b.uses x).map fun p => (((1 : Nat) : Int) :: p.1, p.2), ?_, ?_⟩
  · show (if x ∈ under .call 2 0 then [] else ((Tr.mk (.name y) []).uses x).map _) ++ ((if x ∈ under .call 2 1 then [] else _) ++ []) = _
    have e1 : (Tr.mk (.name y) []).uses x = [([], ("read" : Str))] := by
      show (if y = x then [([], "read")] else [] : List (List Int × Str)) ++ [] = _
      rw [if_pos e]; rfl
    rw [if_neg (by intro z; cases z), if_neg (by intro z; cases z), e1, List.append_nil]
    rfl
  · show (if x ∈ under .call 2 0 then [] else ((Tr.mk (.name y) []).uses x).map _) ++ ((if x ∈ under .call 2 1 then [] else _) ++ []) = _
    have e1 : (Tr.mk (.name y) []).uses x = [([], ("read" : Str))] := by
      show (if y = x then [([], "read")] else [] : List (List Int × Str)) ++ [] = _
      rw [if_pos e]; rfl
    rw [if_neg (by intro z; cases z), if_neg (by intro z; cases z), e1, List.append_nil]
    rfl
theorem enc_hd (h : Hd) (ds : List PyData) : ∃ r, encH h ds = .tuple (.str (wd h) :: r) ∧ (∀ y, h = .name y → r = [.str y]) := by
  cases h with
  | name y => exact ⟨_, rfl, fun z e => by cases e; rfl⟩
  | _ => exact ⟨_, rfl, fun z e => by cases e⟩
theorem eq_nameT {h : Hd} {n : Nat} (o : hok h n) (ds : List PyData) (x : Str) : PyData.eqv (encH h ds) (.tuple [.str "name", .str x]) = isNm x h := by
  obtain ⟨r, e, er⟩ := enc_hd h ds
  rw [e]
  have e2 := eq_name o
  rw [decS] at e2
  by_cases q : isName h = true
  · cases h with
    | name y =>
      rw [er y rfl]
      show PyData.eqvAll [.str "name", .str y] [.str "name", .str x] = decide (y = x)
      simp [PyData.eqvAll, PyData.eqv]
      by_cases z : y = x <;> simp [z]
    | _ => cases q
  · have q' : isName h = false := by cases z : isName h with | true => exact absurd z q | false => rfl
    rw [q'] at e2
    have q2 : ¬ wd h = "name" := of_decide_eq_false e2
    have q3 : isNm x h = false := by
      cases h with
      | name y => exact absurd rfl q
      | _ => rfl
    rw [q3]
    show PyData.eqvAll (.str (wd h) :: r) [.str "name", .str x] = false
    simp [PyData.eqvAll, PyData.eqv, q2]
/-- a name that is no longer free is not used -/
theorem cal_no {x : Str} {t : Tr} (o : t.ok) (n : isName t.hd = true) (e : isNm x t.hd = false) : t.uses x = [] := by
  cases t with
  | mk h ps =>
    have o' : hok h ps.length ∧ ps.length ≤ 11 ∧ Tr.oks ps := o
    cases h with
    | name y =>
      have e0 : ps = [] := List.length_eq_zero_iff.mp o'.1.1
      subst e0
      have e' : ¬ y = x := of_decide_eq_false e
      show (if y = x then [([], "read")] else [] : List (List Int × Str)) ++ [] = []
      rw [if_neg e']; rfl
    | _ => cases n

/-! ### small facts on parts -/
theorem okP {h : Hd} {ps : List Tr} (o : (Tr.mk h ps).ok) : hok h ps.length ∧ ps.length ≤ 11 ∧ ∀ t ∈ ps, t.ok := by
  have o' : hok h ps.length ∧ ps.length ≤ 11 ∧ Tr.oks ps := o
  exact ⟨o'.1, o'.2.1, fun t m => oks_iff.mp o'.2.2 t m⟩
theorem encLat {ps : List Tr} {i : Nat} {d : PyData} (h : (Tr.encL ps)[i]? = some d) : ∃ c, ps[i]? = some c ∧ d = c.enc := by
  rw [encL_map] at h
  obtain ⟨c, e1, e2⟩ := map_at h
  exact ⟨c, e1, e2⟩
theorem takeNext {α : Type} {xs : List α} {i : Nat} {c : α} (h : xs[i]? = some c) : xs.take (i + 1) = xs.take i ++ [c] ∧ (xs.take i).length = i := by
  refine ⟨by rw [List.take_add_one, h]; rfl, ?_⟩
  have := (List.getElem?_eq_some_iff.mp h).1
  rw [List.length_take]
  omega
theorem encsInv {K : PySem.W.Frag} {H : Hp} {v : V} {xs : List Str} (h : Dp K H v (encs xs)) : ∃ q, v = .ref q ∧ SqT K H q (xs.map V.str) := by
  obtain ⟨q, vs, rfl, hq, hv⟩ := dp_tup h
  rw [dpAll_strs_inv hv] at hq
  exact ⟨q, rfl, hq⟩
theorem sizeMem {t : Tr} : ∀ {ps : List Tr}, t ∈ ps → t.size ≤ Tr.sizes ps
  | a :: ps, h => by
    show t.size ≤ a.size + Tr.sizes ps
    rcases List.mem_cons.mp h with rfl | h
    · omega
    · have := sizeMem h
      omega
theorem sizesTake : ∀ (ps : List Tr) (i : Nat), Tr.sizes (ps.take i) ≤ Tr.sizes ps
  | [], i => by rw [List.take_nil]; exact Nat.le_refl _
  | a :: ps, 0 => Nat.zero_le _
  | a :: ps, i + 1 => by
    have := sizesTake ps i
    show a.size + Tr.sizes (ps.take i) ≤ a.size + Tr.sizes ps
    omega
theorem useD_inv {K : PySem.W.Frag} {H : Hp} {v : V} {p : List Int × Str} (h : Dp K H v (useD p)) : ∃ a b, v = .ref a ∧ SqT K H a [.ref b, .str p.2] ∧ SqT K H b (p.1.map V.int) := by
  obtain ⟨a, its, rfl, hs, hi⟩ := dp_tup h
  cases hi with
  | cons h1 h2 =>
    cases h2 with
    | cons h3 h4 =>
      cases h4
      obtain ⟨b, rfl, hb⟩ := pathI_inv h1
      rw [dp_str h3] at hs
      exact ⟨a, b, rfl, hs, hb⟩
theorem dp_useD {K : PySem.W.Frag} {H : Hp} {a b : Addr} {p : List Int × Str} (h : SqT K H a [.ref b, .str p.2]) (hb : SqT K H b (p.1.map V.int)) : Dp K H (.ref a) (useD p) :=
  .tup h (.cons (dp_pathI hb) (.cons (.str _) .nil))
theorem name_only {x : Str} {h : Hd} {ps : List Tr} (o : hok h ps.length) (e : isNm x h = true) : h = .name x ∧ ps = [] := by
  cases h with
  | name y =>
    rw [of_decide_eq_true (show decide (y = x) = true from e)]
    exact ⟨rfl, List.length_eq_zero_iff.mp o.1⟩
  | _ => cases e
end Cm

set_option linter.all false
/-! trees whose set names are held in pairs: sound, narrow, not too deep -/
namespace Cm
open PySem L2 PySem.Spec PyProof.Rows
def nwH : Hd → Prop
  | .fn xs => xs.length ≤ 10
  | _ => True
mutual
def Tr.nw : Tr → Prop
  | .mk h ps => nwH h ∧ Tr.nws ps
def Tr.nws : List Tr → Prop
  | [] => True
  | t :: ts => t.nw ∧ Tr.nws ts
end
theorem nws_iff : ∀ {ps : List Tr}, Tr.nws ps ↔ ∀ t ∈ ps, t.nw
  | [] => by simp [Tr.nws]
  | t :: ts => by
    show t.nw ∧ Tr.nws ts ↔ _
    rw [nws_iff]
    simp
theorem held_len {h : Hd} {n : Nat} (o : hok h n) (l : n ≤ 11) (nw : nwH h) : (held h).length ≤ 10 := by
  cases h with
  | fn xs => exact nw
  | one w x =>
    show (if w = "set" then [] else [x] : List Str).length ≤ 10
    split <;> simp
  | bind w xs =>
    have := o.1
    show xs.length ≤ 10
    omega
  | _ => exact Nat.zero_le _
theorem anew_sub {h : Hd} {ps : List Tr} {x : Str} (m : x ∈ anewOf h ps) : x ∈ held h := (List.mem_filter.mp m).1
theorem anew_len {h : Hd} {ps : List Tr} (o : hok h ps.length) (l : ps.length ≤ 11) (w : nwH h) : (anewOf h ps).length ≤ 10 := Nat.le_trans (List.length_filter_le _ _) (held_len o l w)
theorem okmk {h : Hd} {ps : List Tr} (a : hok h ps.length) (b : ps.length ≤ 11) (c : ∀ t ∈ ps, t.ok ∧ t.nw) (d : nwH h) : (Tr.mk h ps).ok ∧ (Tr.mk h ps).nw := ⟨⟨a, b, oks_iff.mpr fun t m => (c t m).1⟩, d, nws_iff.mpr fun t m => (c t m).2⟩
theorem ok_nameT {x : Str} (h : sok x) : (nameT x).ok ∧ (nameT x).nw := okmk ⟨rfl, h⟩ (Nat.zero_le _) (fun t m => by cases m) trivial
theorem ok_noneT : noneT.ok ∧ noneT.nw := okmk ⟨rfl, by decide +kernel⟩ (Nat.zero_le _) (fun t m => by cases m) trivial
theorem ok_pairT {t : Tr} (h : t.ok ∧ t.nw) : (pairT t).ok ∧ (pairT t).nw := okmk (show sok "pair" by decide +kernel) (by show 2 ≤ 11; decide) (fun u m => by
  rcases List.mem_cons.mp m with rfl | m
  · exact h
  · rw [List.mem_singleton.mp m]; exact ok_noneT) trivial
theorem ok_fillT {x : Str} {t : Tr} (hx : sok x) (h : t.ok ∧ t.nw) : (fillT x t).ok ∧ (fillT x t).nw := okmk (show sok "left!" by decide +kernel) (by show 2 ≤ 11; decide) (fun u m => by
  rcases List.mem_cons.mp m with rfl | m
  · exact ok_nameT hx
  · rw [List.mem_singleton.mp m]; exact h) trivial
theorem last_len {α : Type} {qs : List α} {n : Nat} (h : qs.length = n + 1) : (qs.drop (qs.length - 1)).length = 1 := by rw [List.length_drop]; omega
theorem ok_wrap {anew : List Str} {h : Hd} {qs : List Tr} (o : hok h qs.length) (l : qs.length ≤ 11) (c : ∀ t ∈ qs, t.ok ∧ t.nw) (w : nwH h) (an : ∀ x ∈ anew, sok x) (al : anew.length ≤ 10) (ne : anew ≠ [] → qs.length ≠ 0) : (wrapL anew h qs).ok ∧ (wrapL anew h qs).nw := by
  unfold wrapL
  split
  · exact okmk o l c w
  · rename_i e
    have := ne e
    have e1 : (qs.take (qs.length - 1)).length = qs.length - 1 := by rw [List.length_take]; omega
    have e2 : (qs.drop (qs.length - 1)).length = 1 := by rw [List.length_drop]; omega
    have e3 : (qs.take (qs.length - 1) ++ [Tr.mk (.bind "let" anew) ((anew.map fun x => pairT (nameT x)) ++ qs.drop (qs.length - 1))]).length = qs.length := by
      rw [List.length_append, e1]
      show qs.length - 1 + 1 = _
      omega
    refine okmk (by rw [e3]; exact o) (by rw [e3]; exact l) (fun t m => ?_) w
    rcases List.mem_append.mp m with m | m
    · exact c t (List.mem_of_mem_take m)
    · rw [List.mem_singleton.mp m]
      have e4 : ((anew.map fun x => pairT (nameT x)) ++ qs.drop (qs.length - 1)).length = anew.length + 1 := by rw [List.length_append, List.length_map, e2]
      refine okmk ⟨e4, by decide +kernel, an⟩ (by rw [e4]; omega) (fun u mu => ?_) trivial
      rcases List.mem_append.mp mu with mu | mu
      · obtain ⟨x, mx, rfl⟩ := List.mem_map.mp mu
        exact ok_pairT (ok_nameT (an x mx))
      · exact c u (List.mem_of_mem_drop mu)
theorem filt_len {α : Type} (p : α → Bool) (l : List α) : (l.filter p).length + (l.filter fun x => !p x).length = l.length := by
  induction l with
  | nil => rfl
  | cons a l ih =>
    by_cases z : p a = true
    · rw [List.filter_cons_of_pos z, List.filter_cons_of_neg (by simp [z]), List.length_cons, List.length_cons]
      omega
    · rw [List.filter_cons_of_neg z, List.filter_cons_of_pos (by simpa using z), List.length_cons, List.length_cons]
      omega
theorem ok_recP {xs anew : List Str} {qs : List Tr} (hl : qs.length = xs.length + 1) (l : qs.length ≤ 11) (c : ∀ t ∈ qs, t.ok ∧ t.nw) (sx : ∀ x ∈ xs, sok x) (an : ∀ x ∈ anew, sok x) (al : anew.length ≤ 10) : (recP xs anew qs).ok ∧ (recP xs anew qs).nw := by
  have zp : ∀ r ∈ xs.zip qs, sok r.1 ∧ r.2.ok ∧ r.2.nw := fun r m => by
    have m' := List.of_mem_zip (show (r.1, r.2) ∈ xs.zip qs from m)
    exact ⟨sx _ m'.1, c _ m'.2⟩
  have zl : (xs.zip qs).length = xs.length := by rw [List.length_zip]; omega
  have fl := filt_len (fun r : Str × Tr => decide (r.1 ∈ anew)) (xs.zip qs)
  have dl : (qs.drop xs.length).length = 1 := by rw [List.length_drop]; omega
  have inn : (Tr.mk .doo ((((xs.zip qs).filter fun r => decide (r.1 ∈ anew)).map fun r => fillT r.1 r.2) ++ qs.drop xs.length)).ok ∧ (Tr.mk .doo ((((xs.zip qs).filter fun r => decide (r.1 ∈ anew)).map fun r => fillT r.1 r.2) ++ qs.drop xs.length)).nw := by
    refine okmk trivial ?_ (fun t m => ?_) trivial
    · rw [List.length_append, List.length_map, dl]
      omega
    · rcases List.mem_append.mp m with m | m
      · obtain ⟨r, mr, rfl⟩ := List.mem_map.mp m
        have z := zp r (List.mem_filter.mp mr).1
        exact ok_fillT z.1 z.2
      · exact c t (List.mem_of_mem_drop m)
  unfold recP
  refine okmk ⟨?_, by decide +kernel, an⟩ ?_ (fun t m => ?_) trivial
  · rw [List.length_append, List.length_map]
    rfl
  · rw [List.length_append, List.length_map]
    show anew.length + 1 ≤ 11
    omega
  · rcases List.mem_append.mp m with m | m
    · obtain ⟨x, _, rfl⟩ := List.mem_map.mp m
      exact ok_pairT ok_noneT
    · rw [List.mem_singleton.mp m]
      split
      · exact inn
      · have el : (((xs.zip qs).filter fun r => !decide (r.1 ∈ anew)).map (·.2) ++ [Tr.mk .doo ((((xs.zip qs).filter fun r => decide (r.1 ∈ anew)).map fun r => fillT r.1 r.2) ++ qs.drop xs.length)]).length = (((xs.zip qs).filter fun r => !decide (r.1 ∈ anew)).map (·.1)).length + 1 := by
          rw [List.length_append, List.length_map, List.length_map]
          rfl
        refine okmk ⟨el, by decide +kernel, fun x mx => ?_⟩ ?_ (fun u mu => ?_) trivial
        · obtain ⟨r, mr, rfl⟩ := List.mem_map.mp mx
          exact (zp r (List.mem_filter.mp mr).1).1
        · rw [el, List.length_map]
          omega
        · rcases List.mem_append.mp mu with mu | mu
          · obtain ⟨r, mr, rfl⟩ := List.mem_map.mp mu
            exact (zp r (List.mem_filter.mp mr).1).2
          · rw [List.mem_singleton.mp mu]
            exact inn
theorem ok_shape {hs : Str → Bool} {anew : List Str} {qs : List Tr} {h : Hd} (o : hok h qs.length) (l : qs.length ≤ 11) (c : ∀ t ∈ qs, t.ok ∧ t.nw) (nw : nwH h) (an : ∀ x ∈ anew, x ∈ held h) (al : anew.length ≤ 10) : (shapeP hs anew qs h).ok ∧ (shapeP hs anew qs h).nw := by
  have sa : ∀ x ∈ anew, sok x := fun x m => held_sok o x (an x m)
  have n0 : ∀ x ∈ anew, qs.length ≠ 0 := fun x m => by
    have m' := an x m
    cases h with
    | fn xs => have := o.1; omega
    | one w y => have := o.1; omega
    | bind w xs => have := o.1; omega
    | _ => cases m'
  have wr : (wrapL anew h qs).ok ∧ (wrapL anew h qs).nw := ok_wrap o l c nw sa al fun ne => by
    cases anew with
    | nil => exact absurd rfl ne
    | cons x r => exact n0 x List.mem_cons_self
  cases h with
  | name x =>
    show (if hs x = true then Tr.mk (.op "left") [nameT x] else .mk (.name x) qs).ok ∧ (if hs x = true then Tr.mk (.op "left") [nameT x] else .mk (.name x) qs).nw
    split
    · exact okmk (show sok "left" by decide +kernel) (by show 1 ≤ 11; decide) (fun t m => by rw [List.mem_singleton.mp m]; exact ok_nameT o.2) trivial
    · exact okmk o l c nw
  | one w x =>
    show (if w = "set" then Tr.mk (.op "left!") (nameT x :: qs) else wrapL anew (.one w x) qs).ok ∧ (if w = "set" then Tr.mk (.op "left!") (nameT x :: qs) else wrapL anew (.one w x) qs).nw
    split
    · have := o.1
      refine okmk (show sok "left!" by decide +kernel) (by rw [List.length_cons]; omega) (fun t m => ?_) trivial
      rcases List.mem_cons.mp m with rfl | m
      · exact ok_nameT o.2.2
      · exact c t m
    · exact wr
  | bind w xs =>
    show (if w = "rec" ∧ anew ≠ [] then recP xs anew qs else wrapL anew (.bind w xs) qs).ok ∧ (if w = "rec" ∧ anew ≠ [] then recP xs anew qs else wrapL anew (.bind w xs) qs).nw
    split
    · exact ok_recP o.1 l c o.2.2 sa al
    · exact wr
  | num i => exact wr
  | lit i => exact wr
  | fn i => exact wr
  | doo => exact wr
  | call => exact wr
  | op i => exact wr
  | plain i => exact wr
mutual
theorem ok_plain (hs : Str → Bool) : ∀ t : Tr, t.ok → t.nw → (t.plain hs).ok ∧ (t.plain hs).nw
  | .mk h ps, o, n => by
    have o' : hok h ps.length ∧ ps.length ≤ 11 ∧ Tr.oks ps := o
    have n' : nwH h ∧ Tr.nws ps := n
    have pl := plains_len (scopeP hs h ps.length (anewOf h ps)) 0 ps
    have c := ok_plains (scopeP hs h ps.length (anewOf h ps)) 0 ps o'.2.2 n'.2
    exact ok_shape (by rw [pl]; exact o'.1) (by rw [pl]; exact o'.2.1) (fun t m => ⟨oks_iff.mp c.1 t m, nws_iff.mp c.2 t m⟩) n'.1 (fun x m => anew_sub m) (anew_len o'.1 o'.2.1 n'.1)
theorem ok_plains (sc : Nat → Str → Bool) : ∀ (i : Nat) (ps : List Tr), Tr.oks ps → Tr.nws ps → Tr.oks (Tr.plains sc i ps) ∧ Tr.nws (Tr.plains sc i ps)
  | _, [], _, _ => ⟨trivial, trivial⟩
  | i, t :: ts, o, n => by
    have o' : t.ok ∧ Tr.oks ts := o
    have n' : t.nw ∧ Tr.nws ts := n
    have a := ok_plain (sc i) t o'.1 n'.1
    have b := ok_plains sc (i + 1) ts o'.2 n'.2
    exact ⟨⟨a.1, b.1⟩, ⟨a.2, b.2⟩⟩
end
/-! ### how deep the data is, without and with pairs -/
def lw : Hd → Nat → Nat
  | .bind w xs, i => if i < xs.length then (if w = "rec" then 6 else 3) else (if w = "rec" then 4 else 2)
  | .doo, _ => 2
  | .call, _ => 2
  | .op _, _ => 2
  | .fn _, _ => 2
  | .one _ _, _ => 2
  | _, _ => 1
def lo : Hd → Nat
  | .name _ => 3
  | .fn _ => 7
  | .one _ _ => 7
  | .bind _ _ => 8
  | .doo => 2
  | .call => 2
  | .op _ => 2
  | _ => 1
mutual
def Tr.ld : Tr → Nat
  | .mk h ps => max (lo h) (Tr.lds h 0 ps)
def Tr.lds : Hd → Nat → List Tr → Nat
  | _, _, [] => 0
  | h, i, t :: ts => max (lw h i + t.ld) (Tr.lds h (i + 1) ts)
end
theorem lds_le {h : Hd} {n : Nat} : ∀ {ps : List Tr} {i : Nat}, Tr.lds h i ps ≤ n ↔ ∀ j t, ps[j]? = some t → lw h (i + j) + t.ld ≤ n
  | [], i => by simp [Tr.lds]
  | t :: ts, i => by
    have ih := lds_le (h := h) (n := n) (ps := ts) (i := i + 1)
    show max (lw h i + t.ld) (Tr.lds h (i + 1) ts) ≤ n ↔ _
    rw [Nat.max_le, ih]
    constructor
    · rintro ⟨h1, h2⟩ j u e
      cases j with
      | zero => cases e; exact h1
      | succ j => have := h2 j u e; rwa [show i + 1 + j = i + (j + 1) by omega] at this
    · exact fun z => ⟨z 0 t rfl, fun j u e => by have := z (j + 1) u e; rwa [show i + (j + 1) = i + 1 + j by omega] at this⟩
theorem ld_le {h : Hd} {ps : List Tr} {n : Nat} : (Tr.mk h ps).ld ≤ n ↔ lo h ≤ n ∧ ∀ j t, ps[j]? = some t → lw h j + t.ld ≤ n := by
  show max (lo h) (Tr.lds h 0 ps) ≤ n ↔ _
  rw [Nat.max_le, lds_le]
  simp
theorem lay1 {n : Nat} {a : PyData} (h : Lay n a) : Lay (n + 1) (.tuple [a]) := .tup fun d m => by rw [List.mem_singleton.mp m]; exact h
theorem lay2 {n : Nat} {a b : PyData} (h : Lay n a) (k : Lay n b) : Lay (n + 1) (.tuple [a, b]) := .tup fun d m => by
  rcases List.mem_cons.mp m with rfl | m
  · exact h
  · rw [List.mem_singleton.mp m]; exact k
theorem lay3 {n : Nat} {a b c : PyData} (h : Lay n a) (k : Lay n b) (j : Lay n c) : Lay (n + 1) (.tuple [a, b, c]) := .tup fun d m => by
  rcases List.mem_cons.mp m with rfl | m
  · exact h
  rcases List.mem_cons.mp m with rfl | m
  · exact k
  · rw [List.mem_singleton.mp m]; exact j
theorem lay_nameT {x : Str} (h : sok x) : Lay 1 (nameT x).enc := lay2 (.str (by decide +kernel) 0) (.str h 0)
theorem lay_noneT : Lay 1 noneT.enc := lay1 (.str (by decide +kernel) 0)
theorem lay_op {o : Str} {ds : List PyData} {n : Nat} (ho : sok o) (h : ∀ d ∈ ds, Lay n d) : Lay (n + 2) (.tuple [.str "op", .str o, .tuple ds]) := lay3 (.str (by decide +kernel) _) (.str ho _) (.tup h)
theorem lay_pairT {n : Nat} {t : Tr} (h : Lay (n + 1) t.enc) : Lay (n + 3) (pairT t).enc := lay_op (by decide +kernel) fun d m => by
  rcases List.mem_cons.mp m with rfl | m
  · exact h
  · rw [List.mem_singleton.mp m]; exact lay_noneT.mono (by omega)
theorem lay_fillT {n : Nat} {x : Str} {t : Tr} (hx : sok x) (h : Lay (n + 1) t.enc) : Lay (n + 3) (fillT x t).enc := lay_op (by decide +kernel) fun d m => by
  rcases List.mem_cons.mp m with rfl | m
  · exact (lay_nameT hx).mono (by omega)
  · rw [List.mem_singleton.mp m]; exact h
end Cm

set_option linter.all false
namespace Cm
open PySem L2 PySem.Spec PyProof.Rows
def ew : Hd → Nat → Nat
  | .bind _ xs, i => if i < xs.length then 3 else 1
  | .doo, _ => 2
  | .call, _ => 2
  | .op _, _ => 2
  | _, _ => 1
def eo : Hd → Nat
  | .num _ => 1
  | .name _ => 1
  | .lit _ => 1
  | .plain _ => 1
  | _ => 2
theorem lay_cons {n : Nat} {a : PyData} {ds : List PyData} (h : Lay n a) (k : ∀ d ∈ ds, Lay n d) : Lay (n + 1) (.tuple (a :: ds)) := .tup fun d m => by
  rcases List.mem_cons.mp m with rfl | m
  · exact h
  · exact k d m
theorem lay_encP {h : Hd} {ds : List PyData} {n : Nat} (o : hok h ds.length) (hd : ∀ j d, ds[j]? = some d → ∃ m, Lay m d ∧ ew h j + m ≤ n) (he : eo h ≤ n) : Lay n (encH h ds) := by
  have all : ∀ k, (∀ j, ew h j = k) → ∀ d ∈ ds, ∃ m, Lay m d ∧ k + m ≤ n := fun k hk d m => by
    obtain ⟨j, e⟩ := List.getElem?_of_mem m
    obtain ⟨q, a, b⟩ := hd j d e
    exact ⟨q, a, by rw [hk j] at b; exact b⟩
  obtain ⟨n, rfl⟩ : ∃ k, n = k + 1 := ⟨n - 1, by
    have : 1 ≤ eo h := by cases h <;> simp [eo]
    omega⟩
  have one : (∀ j, ew h j = 1) → ∀ d ∈ ds, Lay n d := fun hk d m => by
    obtain ⟨q, a, b⟩ := all 1 hk d m
    exact a.mono (by omega)
  cases h with
  | num i => exact lay2 (.str (by decide +kernel) n) (.int i n)
  | name x => exact lay2 (.str (by decide +kernel) n) (.str o.2 n)
  | lit w =>
    refine lay1 (.str ?_ n)
    exact words_sok w (by simp [o.2])
  | one w x =>
    refine lay_cons (.str (words_sok w (by simp [o.2.1])) n) fun d m => ?_
    rcases List.mem_cons.mp m with rfl | m
    · exact .str o.2.2 n
    · exact one (fun _ => rfl) d m
  | plain w => exact lay_cons (.str (words_sok w (by simp [show w ∈ plainW from o])) n) (one fun _ => rfl)
  | fn xs =>
    have : 2 ≤ n + 1 := he
    refine lay_cons (.str (by decide +kernel) n) fun d m => ?_
    rcases List.mem_cons.mp m with rfl | m
    · exact (Lay.tup (n := 0) fun d m => by obtain ⟨x, mx, rfl⟩ := List.mem_map.mp m; exact .str (o.2.2 x mx) 0).mono (by omega)
    · exact one (fun _ => rfl) d m
  | doo =>
    have : 2 ≤ n + 1 := he
    obtain ⟨n, rfl⟩ : ∃ k, n = k + 1 := ⟨n - 1, by omega⟩
    exact lay2 (.str (by decide +kernel) _) (.tup fun d m => by
      obtain ⟨q, a, b⟩ := all 2 (fun _ => rfl) d m
      exact a.mono (by omega))
  | op p =>
    have : 2 ≤ n + 1 := he
    obtain ⟨n, rfl⟩ : ∃ k, n = k + 1 := ⟨n - 1, by omega⟩
    exact lay3 (.str (by decide +kernel) _) (.str o _) (.tup fun d m => by
      obtain ⟨q, a, b⟩ := all 2 (fun _ => rfl) d m
      exact a.mono (by omega))
  | call =>
    have : 2 ≤ n + 1 := he
    obtain ⟨n, rfl⟩ : ∃ k, n = k + 1 := ⟨n - 1, by omega⟩
    refine lay_cons (.str (by decide +kernel) _) fun d m => ?_
    have al := all 2 (fun _ => rfl)
    rcases List.mem_append.mp m with m | m
    · obtain ⟨q, a, b⟩ := al d (List.mem_of_mem_take m)
      exact a.mono (by omega)
    · rw [List.mem_singleton.mp m]
      exact .tup fun d m => by
        obtain ⟨q, a, b⟩ := al d (List.mem_of_mem_drop m)
        exact a.mono (by omega)
  | bind w xs =>
    have : 2 ≤ n + 1 := he
    refine lay_cons (.str (words_sok w (by simp [o.2.1])) n) fun d m => ?_
    have hl := o.1
    rcases List.mem_cons.mp m with rfl | m
    · by_cases z : xs = []
      · subst z
        exact (Lay.tup (n := 0) fun d m => by cases m).mono (by omega)
      · have h3 : ∃ k, n = k + 2 := by
          cases xs with
          | nil => exact absurd rfl z
          | cons x xs =>
            obtain ⟨d0, e0⟩ : ∃ d, ds[0]? = some d := ⟨ds[0]'(by rw [hl]; simp), List.getElem?_eq_getElem _⟩
            obtain ⟨q, a, b⟩ := hd 0 d0 e0
            have : ew (.bind w (x :: xs)) 0 = 3 := by
              show (if 0 < (x :: xs).length then 3 else 1) = 3
              simp
            exact ⟨n - 2, by omega⟩
        obtain ⟨k, rfl⟩ := h3
        refine .tup fun d m => ?_
        obtain ⟨r, mr, rfl⟩ := List.mem_map.mp m
        have mz := List.of_mem_zip (show (r.1, r.2) ∈ xs.zip ds from mr)
        refine lay2 (.str (o.2.2 r.1 mz.1) _) ?_
        obtain ⟨j, ej⟩ := List.getElem?_of_mem mr
        obtain ⟨e1, e2⟩ := List.getElem?_zip_eq_some.mp ej
        obtain ⟨q, a, b⟩ := hd j r.2 e2
        have hj : j < xs.length := (List.getElem?_eq_some_iff.mp e1).1
        have : ew (.bind w xs) j = 3 := if_pos hj
        exact a.mono (by omega)
    · obtain ⟨j, ej⟩ := List.getElem?_of_mem m
      rw [List.getElem?_drop] at ej
      obtain ⟨q, a, b⟩ := hd _ d ej
      have : ew (.bind w xs) (xs.length + j) = 1 := if_neg (by omega)
      exact a.mono (by omega)
theorem ew_lw (h : Hd) (i : Nat) : ew h i ≤ lw h i := by
  cases h with
  | bind w xs =>
    show (if i < xs.length then 3 else 1) ≤ if i < xs.length then (if w = "rec" then 6 else 3) else (if w = "rec" then 4 else 2)
    split <;> split <;> decide
  | _ => exact Nat.le_of_ble_eq_true rfl
theorem eo_lo (h : Hd) : eo h ≤ lo h := by cases h <;> exact Nat.le_of_ble_eq_true rfl
theorem lay_ps {h : Hd} {ps : List Tr} {n : Nat} (o : hok h ps.length) (hd : ∀ j t, ps[j]? = some t → ∃ m, Lay m t.enc ∧ ew h j + m ≤ n) (he : eo h ≤ n) : Lay n (Tr.mk h ps).enc :=
  lay_encP (by rw [encL_len]; exact o) (fun j d e => by
    rw [encL_map, List.getElem?_map] at e
    obtain ⟨t, e1, rfl⟩ := Option.map_eq_some_iff.mp e
    exact hd j t e1) he
theorem lay_ld (t : Tr) : t.ok → Lay t.ld t.enc := by
  refine tr_ind (P := fun t => t.ok → Lay t.ld t.enc) (fun h ps ih => ?_) t
  intro o
  have o' : hok h ps.length ∧ ps.length ≤ 11 ∧ Tr.oks ps := o
  have e := ld_le.mp (Nat.le_refl (Tr.mk h ps).ld)
  refine lay_ps o'.1 (fun j t ej => ?_) (Nat.le_trans (eo_lo h) e.1)
  have m := List.mem_of_getElem? ej
  exact ⟨t.ld, ih t m (oks_iff.mp o'.2.2 t m), by have := e.2 j t ej; have := ew_lw h j; omega⟩
theorem lay_let {anew : List Str} {ts : List Tr} {n : Nat} (an : ∀ x ∈ anew, sok x) (f : Str → Tr) (hf : ∀ x ∈ anew, Lay 1 (f x).enc) (h1 : ts.length = 1) (hl : ∀ t ∈ ts, Lay n t.enc) : Lay (max 6 (n + 1)) (Tr.mk (.bind "let" anew) ((anew.map fun x => pairT (f x)) ++ ts)).enc := by
  refine lay_ps ⟨by rw [List.length_append, List.length_map, h1], by decide +kernel, an⟩ (fun j t ej => ?_) (by show 2 ≤ _; omega)
  by_cases hj : j < anew.length
  · rw [List.getElem?_append_left (by rw [List.length_map]; exact hj), List.getElem?_map] at ej
    obtain ⟨x, ex, rfl⟩ := Option.map_eq_some_iff.mp ej
    refine ⟨3, lay_pairT (n := 0) (hf x (List.mem_of_getElem? ex)), ?_⟩
    rw [show ew (.bind "let" anew) j = 3 from if_pos hj]
    omega
  · rw [List.getElem?_append_right (by rw [List.length_map]; omega)] at ej
    refine ⟨n, hl t (List.mem_of_getElem? ej), ?_⟩
    rw [show ew (.bind "let" anew) j = 1 from if_neg hj]
    omega
theorem lay_wrap {anew : List Str} {h : Hd} {qs : List Tr} {n : Nat} (o : hok h qs.length) (an : ∀ x ∈ anew, sok x) (ne : anew ≠ [] → qs.length ≠ 0 ∧ 7 ≤ n ∧ ew h (qs.length - 1) = 1 ∧ 2 ≤ lw h (qs.length - 1)) (hd : ∀ j t, qs[j]? = some t → ∃ m, Lay m t.enc ∧ lw h j + m ≤ n) (he : eo h ≤ n) : Lay n (wrapL anew h qs).enc := by
  unfold wrapL
  split
  · exact lay_ps o (fun j t e => by obtain ⟨m, a, b⟩ := hd j t e; exact ⟨m, a, by have := ew_lw h j; omega⟩) he
  · rename_i e
    obtain ⟨n0, n7, n1, n2⟩ := ne e
    have e1 : (qs.take (qs.length - 1)).length = qs.length - 1 := by rw [List.length_take]; omega
    have e2 : (qs.drop (qs.length - 1)).length = 1 := by rw [List.length_drop]; omega
    have e3 : ∀ z : Tr, (qs.take (qs.length - 1) ++ [z]).length = qs.length := fun z => by
      rw [List.length_append, e1]
      show qs.length - 1 + 1 = _
      omega
    refine lay_ps (by rw [e3]; exact o) (fun j t ej => ?_) he
    by_cases hj : j < qs.length - 1
    · rw [List.getElem?_append_left (by rw [e1]; exact hj), List.getElem?_take_of_lt hj] at ej
      obtain ⟨m, a, b⟩ := hd j t ej
      exact ⟨m, a, by have := ew_lw h j; omega⟩
    · rw [List.getElem?_append_right (by rw [e1]; omega), e1] at ej
      have hj2 : j = qs.length - 1 := by
        have := (List.getElem?_eq_some_iff.mp ej).1
        simp at this
        omega
      subst hj2
      rw [Nat.sub_self] at ej
      cases ej
      obtain ⟨q, eq⟩ : ∃ q, qs[qs.length - 1]? = some q := ⟨qs[qs.length - 1]'(by omega), List.getElem?_eq_getElem _⟩
      obtain ⟨m, a, b⟩ := hd _ q eq
      refine ⟨_, lay_let (n := m) an nameT (fun x mx => lay_nameT (an x mx)) e2 fun t mt => ?_, ?_⟩
      · obtain ⟨i, ei⟩ := List.getElem?_of_mem mt
        rw [List.getElem?_drop] at ei
        have : i = 0 := by
          have := (List.getElem?_eq_some_iff.mp ei).1
          omega
        subst this
        rw [Nat.add_zero, eq] at ei
        cases ei
        exact a
      · rw [n1]
        omega
theorem lay_recP {xs anew : List Str} {qs : List Tr} {n : Nat} (hl : qs.length = xs.length + 1) (sx : ∀ x ∈ xs, sok x) (an : ∀ x ∈ anew, sok x) (n8 : 8 ≤ n) (hd : ∀ j t, qs[j]? = some t → ∃ m, Lay m t.enc ∧ lw (.bind "rec" xs) j + m ≤ n) : Lay n (recP xs anew qs).enc := by
  have zp : ∀ r ∈ xs.zip qs, sok r.1 ∧ Lay (n - 6) r.2.enc := fun r mr => by
    have mz := List.of_mem_zip (show (r.1, r.2) ∈ xs.zip qs from mr)
    obtain ⟨j, ej⟩ := List.getElem?_of_mem mr
    obtain ⟨e1, e2⟩ := List.getElem?_zip_eq_some.mp ej
    obtain ⟨m, a, b⟩ := hd j r.2 e2
    have hj : j < xs.length := (List.getElem?_eq_some_iff.mp e1).1
    rw [show lw (.bind "rec" xs) j = 6 from (if_pos hj).trans (if_pos rfl)] at b
    exact ⟨sx _ mz.1, a.mono (by omega)⟩
  have lst : ∀ t ∈ qs.drop xs.length, Lay (n - 4) t.enc := fun t mt => by
    obtain ⟨i, ei⟩ := List.getElem?_of_mem mt
    rw [List.getElem?_drop] at ei
    obtain ⟨m, a, b⟩ := hd _ t ei
    rw [show lw (.bind "rec" xs) (xs.length + i) = 4 from (if_neg (by omega)).trans (if_pos rfl)] at b
    exact a.mono (by omega)
  have dl : (qs.drop xs.length).length = 1 := by rw [List.length_drop]; omega
  have inn : Lay (n - 2) (Tr.mk .doo ((((xs.zip qs).filter fun r => decide (r.1 ∈ anew)).map fun r => fillT r.1 r.2) ++ qs.drop xs.length)).enc := by
    refine lay_ps trivial (fun j t ej => ?_) (by show 2 ≤ _; omega)
    rcases List.mem_append.mp (List.mem_of_getElem? ej) with m | m
    · obtain ⟨r, mr, rfl⟩ := List.mem_map.mp m
      have z := zp r (List.mem_filter.mp mr).1
      exact ⟨n - 7 + 3, lay_fillT z.1 (z.2.mono (by omega)), by show 2 + _ ≤ _; omega⟩
    · exact ⟨n - 4, lst t m, by show 2 + _ ≤ _; omega⟩
  unfold recP
  refine (lay_let (n := n - 1) an (fun _ => noneT) (fun _ _ => lay_noneT) rfl fun t mt => ?_).mono (by omega)
  rw [List.mem_singleton.mp mt]
  split
  · exact inn.mono (by omega)
  · have el : (((xs.zip qs).filter fun r => !decide (r.1 ∈ anew)).map (·.2) ++ [Tr.mk .doo ((((xs.zip qs).filter fun r => decide (r.1 ∈ anew)).map fun r => fillT r.1 r.2) ++ qs.drop xs.length)]).length = (((xs.zip qs).filter fun r => !decide (r.1 ∈ anew)).map (·.1)).length + 1 := by
      rw [List.length_append, List.length_map, List.length_map]
      rfl
    refine lay_ps ⟨el, by decide +kernel, fun x mx => ?_⟩ (fun j t ej => ?_) (by show 2 ≤ _; omega)
    · obtain ⟨r, mr, rfl⟩ := List.mem_map.mp mx
      exact (zp r (List.mem_filter.mp mr).1).1
    · by_cases hj : j < (((xs.zip qs).filter fun r => !decide (r.1 ∈ anew)).map (·.1)).length
      · rw [List.getElem?_append_left (by rw [List.length_map] at hj ⊢; exact hj), List.getElem?_map] at ej
        obtain ⟨r, er, rfl⟩ := Option.map_eq_some_iff.mp ej
        refine ⟨n - 6, (zp r (List.mem_filter.mp (List.mem_of_getElem? er)).1).2, ?_⟩
        rw [show ew (.bind "rec" (((xs.zip qs).filter fun r => !decide (r.1 ∈ anew)).map (·.1))) j = 3 from if_pos hj]
        omega
      · rw [List.getElem?_append_right (by rw [List.length_map] at hj ⊢; omega)] at ej
        rw [List.mem_singleton.mp (List.mem_of_getElem? ej)]
        refine ⟨n - 2, inn, ?_⟩
        rw [show ew (.bind "rec" (((xs.zip qs).filter fun r => !decide (r.1 ∈ anew)).map (·.1))) j = 1 from if_neg hj]
        omega
end Cm

set_option linter.all false
namespace Cm
open PySem L2 PySem.Spec PyProof.Rows
theorem lay_shape {hs : Str → Bool} {anew : List Str} {qs : List Tr} {h : Hd} {n : Nat} (o : hok h qs.length) (an : ∀ x ∈ anew, x ∈ held h) (hd : ∀ j t, qs[j]? = some t → ∃ m, Lay m t.enc ∧ lw h j + m ≤ n) (he : lo h ≤ n) : Lay n (shapeP hs anew qs h).enc := by
  have sa : ∀ x ∈ anew, sok x := fun x m => held_sok o x (an x m)
  have eh := Nat.le_trans (eo_lo h) he
  have no : held h = [] → anew = [] := fun e => by
    cases anew with
    | nil => rfl
    | cons x r => have := an x List.mem_cons_self; rw [e] at this; cases this
  have wr0 : held h = [] → Lay n (wrapL anew h qs).enc := fun e => lay_wrap o sa (fun ne => absurd (no e) ne) hd eh
  cases h with
  | name x =>
    show Lay n (if hs x = true then Tr.mk (.op "left") [nameT x] else .mk (.name x) qs).enc
    have h3 : 3 ≤ n := he
    split
    · exact (lay_op (n := 1) (by decide +kernel) fun d m => by rw [List.mem_singleton.mp m]; exact lay_nameT o.2).mono h3
    · exact lay_ps o (fun j t e => by obtain ⟨m, a, b⟩ := hd j t e; exact ⟨m, a, b⟩) eh
  | one w x =>
    show Lay n (if w = "set" then Tr.mk (.op "left!") (nameT x :: qs) else wrapL anew (.one w x) qs).enc
    have h7 : 7 ≤ n := he
    split
    · obtain ⟨n, rfl⟩ : ∃ k, n = k + 2 := ⟨n - 2, by omega⟩
      refine lay_op (by decide +kernel) fun d m => ?_
      rcases List.mem_cons.mp m with rfl | m
      · exact (lay_nameT o.2.2).mono (by omega)
      · have m' : d ∈ qs.map Tr.enc := by rw [← encL_map]; exact m
        obtain ⟨t, mt, rfl⟩ := List.mem_map.mp m'
        obtain ⟨j, ej⟩ := List.getElem?_of_mem mt
        obtain ⟨q, a, b⟩ := hd j t ej
        have : lw (.one w x) j = 2 := rfl
        exact a.mono (by omega)
    · exact lay_wrap o sa (fun _ => ⟨by have := o.1; omega, h7, rfl, Nat.le_refl _⟩) hd eh
  | bind w xs =>
    show Lay n (if w = "rec" ∧ anew ≠ [] then recP xs anew qs else wrapL anew (.bind w xs) qs).enc
    have h8 : 8 ≤ n := he
    have hl : qs.length = xs.length + 1 := o.1
    split
    · rename_i e
      rw [e.1] at hd
      exact lay_recP hl o.2.2 sa h8 hd
    · refine lay_wrap o sa (fun _ => ⟨by omega, by omega, ?_, ?_⟩) hd eh
      · exact if_neg (by omega)
      · show 2 ≤ if qs.length - 1 < xs.length then (if w = "rec" then 6 else 3) else (if w = "rec" then 4 else 2)
        split <;> split <;> decide
  | fn xs =>
    have h7 : 7 ≤ n := he
    exact lay_wrap o sa (fun _ => ⟨by have := o.1; omega, h7, rfl, Nat.le_refl _⟩) hd eh
  | num i => exact wr0 rfl
  | lit i => exact wr0 rfl
  | doo => exact wr0 rfl
  | call => exact wr0 rfl
  | op i => exact wr0 rfl
  | plain i => exact wr0 rfl
theorem lay_plain (t : Tr) : t.ok → ∀ hs, Lay t.ld (t.plain hs).enc := by
  refine tr_ind (P := fun t => t.ok → ∀ hs, Lay t.ld (t.plain hs).enc) (fun h ps ih => ?_) t
  intro o hs
  have o' : hok h ps.length ∧ ps.length ≤ 11 ∧ Tr.oks ps := o
  have e := ld_le.mp (Nat.le_refl (Tr.mk h ps).ld)
  have pl := plains_len (scopeP hs h ps.length (anewOf h ps)) 0 ps
  refine lay_shape (by rw [pl]; exact o'.1) (fun x m => anew_sub m) (fun j q ej => ?_) e.1
  rw [plains_at] at ej
  obtain ⟨t, e1, rfl⟩ := Option.map_eq_some_iff.mp ej
  have m := List.mem_of_getElem? e1
  exact ⟨t.ld, ih t m (oks_iff.mp o'.2.2 t m) _, e.2 j t e1⟩
/-! the levels of a tree are no more than its data's -/
theorem depth_mem {d : PyData} : ∀ {ds : List PyData}, d ∈ ds → d.depth ≤ PyData.depthAll ds
  | [], m => by cases m
  | a :: ds, m => by
    simp only [PyData.depthAll]
    rcases List.mem_cons.mp m with rfl | m
    · omega
    · have := depth_mem m
      omega
theorem depth_tup {d : PyData} {ds : List PyData} (m : d ∈ ds) : d.depth + 1 ≤ (PyData.tuple ds).depth := by
  have := depth_mem m
  simp only [PyData.depth]
  omega
theorem depth_part {h : Hd} {ds : List PyData} {d : PyData} (o : hok h ds.length) (m : d ∈ ds) : d.depth + 1 ≤ (encH h ds).depth := by
  cases h with
  | num i => rw [List.length_eq_zero_iff.mp (show ds.length = 0 from o)] at m; cases m
  | name x => rw [List.length_eq_zero_iff.mp (show ds.length = 0 from o.1)] at m; cases m
  | lit x => rw [List.length_eq_zero_iff.mp (show ds.length = 0 from o.1)] at m; cases m
  | one w x => exact depth_tup (List.mem_cons_of_mem _ (List.mem_cons_of_mem _ m))
  | fn xs => exact depth_tup (List.mem_cons_of_mem _ (List.mem_cons_of_mem _ m))
  | plain w => exact depth_tup (List.mem_cons_of_mem _ m)
  | doo =>
    have a := depth_tup m
    have b := depth_tup (d := .tuple ds) (ds := [.str "do", .tuple ds]) (by simp)
    show _ ≤ (PyData.tuple [.str "do", .tuple ds]).depth
    omega
  | op p =>
    have a := depth_tup m
    have b := depth_tup (d := .tuple ds) (ds := [.str "op", .str p, .tuple ds]) (by simp)
    show _ ≤ (PyData.tuple [.str "op", .str p, .tuple ds]).depth
    omega
  | call =>
    show _ ≤ (PyData.tuple (.str "call" :: (ds.take 1 ++ [.tuple (ds.drop 1)]))).depth
    rw [← List.take_append_drop 1 ds] at m
    rcases List.mem_append.mp m with m | m
    · exact depth_tup (List.mem_cons_of_mem _ (List.mem_append_left _ m))
    · have a := depth_tup m
      have b := depth_tup (d := .tuple (ds.drop 1)) (ds := .str "call" :: (ds.take 1 ++ [.tuple (ds.drop 1)])) (by simp)
      omega
  | bind w xs =>
    have hl : ds.length = xs.length + 1 := o.1
    show _ ≤ (PyData.tuple (.str w :: .tuple ((xs.zip ds).map rowD) :: ds.drop xs.length)).depth
    obtain ⟨j, ej⟩ := List.getElem?_of_mem m
    have hj := (List.getElem?_eq_some_iff.mp ej).1
    by_cases z : j < xs.length
    · have mz : rowD (xs[j], d) ∈ (xs.zip ds).map rowD := by
        refine List.mem_map.mpr ⟨(xs[j], d), List.mem_of_getElem? (i := j) ?_, rfl⟩
        exact List.getElem?_zip_eq_some.mpr ⟨List.getElem?_eq_getElem z, ej⟩
      have a := depth_tup mz
      have b := depth_tup (d := d) (ds := [.str xs[j], d]) (by simp)
      have c := depth_tup (d := .tuple ((xs.zip ds).map rowD)) (ds := .str w :: .tuple ((xs.zip ds).map rowD) :: ds.drop xs.length) (by simp)
      have e : (rowD (xs[j], d)).depth = (PyData.tuple [.str xs[j], d]).depth := rfl
      omega
    · refine depth_tup (List.mem_cons_of_mem _ (List.mem_cons_of_mem _ ?_))
      have : (ds.drop xs.length)[j - xs.length]? = some d := by rw [List.getElem?_drop, show xs.length + (j - xs.length) = j by omega]; exact ej
      exact List.mem_of_getElem? this
theorem dep_depth (t : Tr) : t.ok → t.dep ≤ t.enc.depth := by
  refine tr_ind (P := fun t => t.ok → t.dep ≤ t.enc.depth) (fun h ps ih => ?_) t
  intro o
  have o' : hok h ps.length ∧ ps.length ≤ 11 ∧ Tr.oks ps := o
  obtain ⟨k, hk⟩ : ∃ k, (Tr.mk h ps).enc.depth = k + 1 := ⟨(Tr.mk h ps).enc.depth - 1, by
    have : 1 ≤ (encH h (Tr.encL ps)).depth := by cases h <;> simp [encH, PyData.depth]
    have e0 : (Tr.mk h ps).enc.depth = (encH h (Tr.encL ps)).depth := rfl
    omega⟩
  rw [hk]
  refine dep_mk.mpr fun t m => ?_
  have a := ih t m (oks_iff.mp o'.2.2 t m)
  have b := depth_part (h := h) (ds := Tr.encL ps) (d := t.enc) (by rw [encL_len]; exact o'.1) (by rw [encL_map]; exact List.mem_map.mpr ⟨t, m, rfl⟩)
  have c : (encH h (Tr.encL ps)).depth = k + 1 := hk
  omega
theorem dep_ld {t : Tr} (o : t.ok) : t.dep ≤ t.ld := Nat.le_trans (dep_depth t o) (lay_ld t o).dep
theorem dep_plain {t : Tr} (o : t.ok) (n : t.nw) (hs : Str → Bool) : (t.plain hs).dep ≤ t.ld := Nat.le_trans (dep_depth _ (ok_plain hs t o n).1) (lay_plain t o hs).dep
/-! how many forms -/
theorem sizes_app : ∀ a b : List Tr, Tr.sizes (a ++ b) = Tr.sizes a + Tr.sizes b
  | [], b => by simp [Tr.sizes]
  | t :: a, b => by
    show t.size + Tr.sizes (a ++ b) = t.size + Tr.sizes a + Tr.sizes b
    rw [sizes_app a b]
    omega
theorem sizes_cut (n : Nat) (qs : List Tr) : Tr.sizes (qs.take n) + Tr.sizes (qs.drop n) = Tr.sizes qs := by rw [← sizes_app, List.take_append_drop]
theorem sizes_pairs {f : Str → Tr} (hf : ∀ x, (f x).size = 1) : ∀ xs : List Str, Tr.sizes (xs.map fun x => pairT (f x)) = 3 * xs.length
  | [] => rfl
  | x :: xs => by
    show (pairT (f x)).size + Tr.sizes (xs.map fun x => pairT (f x)) = 3 * (xs.length + 1)
    rw [sizes_pairs hf xs]
    have : (pairT (f x)).size = ((f x).size + (0 + 1 + 0)) + 1 := rfl
    rw [this, hf]
    omega
theorem sizes_rows (p : Str × Tr → Bool) : ∀ l : List (Str × Tr), Tr.sizes ((l.filter p).map fun r => fillT r.1 r.2) + Tr.sizes ((l.filter fun r => !p r).map (·.2)) ≤ Tr.sizes (l.map (·.2)) + 2 * l.length
  | [] => Nat.le_refl _
  | r :: l => by
    have ih := sizes_rows p l
    by_cases z : p r = true
    · rw [List.filter_cons_of_pos z, List.filter_cons_of_neg (by simp [z])]
      show (fillT r.1 r.2).size + Tr.sizes ((l.filter p).map fun r => fillT r.1 r.2) + _ ≤ r.2.size + Tr.sizes (l.map (·.2)) + 2 * (l.length + 1)
      have : (fillT r.1 r.2).size = ((0 + 1) + (r.2.size + 0)) + 1 := rfl
      omega
    · rw [List.filter_cons_of_neg z, List.filter_cons_of_pos (by simpa using z)]
      show _ + (r.2.size + Tr.sizes ((l.filter fun r => !p r).map (·.2))) ≤ r.2.size + Tr.sizes (l.map (·.2)) + 2 * (l.length + 1)
      omega
theorem sizes_zip : ∀ (xs : List Str) (qs : List Tr), xs.length ≤ qs.length → Tr.sizes ((xs.zip qs).map (·.2)) = Tr.sizes (qs.take xs.length)
  | [], qs, _ => by simp [Tr.sizes]
  | x :: xs, [], h => by simp at h
  | x :: xs, q :: qs, h => by
    show q.size + Tr.sizes ((xs.zip qs).map (·.2)) = q.size + Tr.sizes (qs.take xs.length)
    rw [sizes_zip xs qs (by simpa using h)]
theorem size_shape {hs : Str → Bool} {anew : List Str} {qs : List Tr} {h : Hd} (o : hok h qs.length) (l : qs.length ≤ 11) (al : anew.length ≤ 10) : (shapeP hs anew qs h).size ≤ 60 + Tr.sizes qs := by
  have wr : (wrapL anew h qs).size ≤ 60 + Tr.sizes qs := by
    unfold wrapL
    split
    · show Tr.sizes qs + 1 ≤ _; omega
    · show Tr.sizes (_ ++ [Tr.mk _ _]) + 1 ≤ _
      rw [sizes_app]
      show Tr.sizes _ + ((Tr.sizes ((anew.map fun x => pairT (nameT x)) ++ qs.drop (qs.length - 1)) + 1) + 0) + 1 ≤ _
      rw [sizes_app, sizes_pairs (f := nameT) (fun _ => rfl)]
      have := sizes_cut (qs.length - 1) qs
      omega
  cases h with
  | name x =>
    show (if hs x = true then Tr.mk (.op "left") [nameT x] else .mk (.name x) qs).size ≤ _
    split
    · show (0 + 1) + 0 + 1 ≤ _; omega
    · show Tr.sizes qs + 1 ≤ _; omega
  | one w x =>
    show (if w = "set" then Tr.mk (.op "left!") (nameT x :: qs) else wrapL anew (.one w x) qs).size ≤ _
    split
    · show (0 + 1) + Tr.sizes qs + 1 ≤ _; omega
    · exact wr
  | bind w xs =>
    show (if w = "rec" ∧ anew ≠ [] then recP xs anew qs else wrapL anew (.bind w xs) qs).size ≤ _
    have hl : qs.length = xs.length + 1 := o.1
    split
    · unfold recP
      show Tr.sizes ((anew.map fun _ => pairT noneT) ++ [_]) + 1 ≤ _
      rw [sizes_app, sizes_pairs (f := fun _ => noneT) (fun _ => rfl)]
      have a := sizes_rows (fun r : Str × Tr => decide (r.1 ∈ anew)) (xs.zip qs)
      rw [sizes_zip xs qs (by omega), List.length_zip] at a
      have b := sizes_cut xs.length qs
      have inn : (Tr.mk .doo ((((xs.zip qs).filter fun r => decide (r.1 ∈ anew)).map fun r => fillT r.1 r.2) ++ qs.drop xs.length)).size = Tr.sizes (((xs.zip qs).filter fun r => decide (r.1 ∈ anew)).map fun r => fillT r.1 r.2) + Tr.sizes (qs.drop xs.length) + 1 := by
        show Tr.sizes _ + 1 = _
        rw [sizes_app]
      split
      · show _ + ((Tr.mk .doo ((((xs.zip qs).filter fun r => decide (r.1 ∈ anew)).map fun r => fillT r.1 r.2) ++ qs.drop xs.length)).size + 0) + 1 ≤ _
        rw [inn]
        omega
      · show _ + (Tr.sizes (_ ++ [Tr.mk .doo _]) + 1 + 0) + 1 ≤ _
        rw [sizes_app]
        show _ + (Tr.sizes _ + ((Tr.mk .doo ((((xs.zip qs).filter fun r => decide (r.1 ∈ anew)).map fun r => fillT r.1 r.2) ++ qs.drop xs.length)).size + 0) + 1 + 0) + 1 ≤ _
        rw [inn]
        omega
    · exact wr
  | num i => exact wr
  | lit i => exact wr
  | fn i => exact wr
  | doo => exact wr
  | call => exact wr
  | op i => exact wr
  | plain i => exact wr
mutual
theorem size_plain (hs : Str → Bool) : ∀ t : Tr, t.ok → t.nw → (t.plain hs).size ≤ 60 * t.size
  | .mk h ps, o, n => by
    have o' : hok h ps.length ∧ ps.length ≤ 11 ∧ Tr.oks ps := o
    have n' : nwH h ∧ Tr.nws ps := n
    have pl := plains_len (scopeP hs h ps.length (anewOf h ps)) 0 ps
    have a := sizes_plain (scopeP hs h ps.length (anewOf h ps)) 0 ps o'.2.2 n'.2
    have b := size_shape (hs := hs) (anew := anewOf h ps) (qs := Tr.plains (scopeP hs h ps.length (anewOf h ps)) 0 ps) (h := h) (by rw [pl]; exact o'.1) (by rw [pl]; exact o'.2.1) (anew_len o'.1 o'.2.1 n'.1)
    show (shapeP hs (anewOf h ps) _ h).size ≤ 60 * (Tr.sizes ps + 1)
    omega
theorem sizes_plain (sc : Nat → Str → Bool) : ∀ (i : Nat) (ps : List Tr), Tr.oks ps → Tr.nws ps → Tr.sizes (Tr.plains sc i ps) ≤ 60 * Tr.sizes ps
  | _, [], _, _ => Nat.le_refl _
  | i, t :: ts, o, n => by
    have o' : t.ok ∧ Tr.oks ts := o
    have n' : t.nw ∧ Tr.nws ts := n
    have a := size_plain (sc i) t o'.1 n'.1
    have b := sizes_plain sc (i + 1) ts o'.2 n'.2
    show (t.plain (sc i)).size + Tr.sizes (Tr.plains sc (i + 1) ts) ≤ 60 * (t.size + Tr.sizes ts)
    omega
end
end Cm

set_option linter.all false
/-! trees with good names; where the word "(set " can stand in a text -/
namespace Cm
open PySem L2 PySem.Spec PyProof.Rows
def patS : List Nat := [40, 115, 101, 116, 32]
def stp (q c : Nat) : Nat := if patS[q]? = some c then q + 1 else if c = 40 then 1 else 0
def scan : Nat → List Nat → Option Nat
  | q, [] => some q
  | q, c :: r => if stp q c = 5 then none else scan (stp q c) r
theorem scan_app : ∀ (a b : List Nat) (q : Nat), scan q (a ++ b) = (scan q a).bind fun p => scan p b
  | [], b, q => rfl
  | c :: a, b, q => by
    show (if stp q c = 5 then none else scan (stp q c) (a ++ b)) = (if stp q c = 5 then none else scan (stp q c) a).bind fun p => scan p b
    split
    · rfl
    · exact scan_app a b _
theorem stp_le {q c : Nat} (h : q ≤ 4) : stp q c ≤ 5 := by
  unfold stp
  split
  · omega
  · split <;> omega
theorem scan_le : ∀ (a : List Nat) {q p : Nat}, q ≤ 4 → scan q a = some p → p ≤ 4
  | [], q, p, h, e => by cases e; exact h
  | c :: a, q, p, h, e => by
    have e' : (if stp q c = 5 then none else scan (stp q c) a) = some p := e
    split at e'
    · cases e'
    · exact scan_le a (by have := stp_le (c := c) h; omega) e'
theorem scan_pat {q : Nat} (h : q ≤ 4) : ∀ b, scan q (patS ++ b) = none := fun b => by
  have key : ∀ q < 5, scan q patS = none := by decide +kernel
  rw [scan_app, key q (by omega)]
  rfl
theorem scan_none {l a b : List Nat} (e : l = a ++ (patS ++ b)) : scan 0 l = none := by
  rw [e, scan_app]
  cases z : scan 0 a with
  | none => rfl
  | some p => exact scan_pat (scan_le a (by decide) z) b
/-- a good name -/
def gw (x : Str) : Prop := sok x ∧ x.length ≤ 2 ∧ scan 0 x.cps.toList = some 0 ∧ scan 1 x.cps.toList = some 0
instance (x : Str) : Decidable (gw x) := by unfold gw; infer_instance
/-- a good operation -/
def go (x : Str) : Prop := sok x ∧ x.length ≤ 6 ∧ scan 0 x.cps.toList = some 0 ∧ scan 1 x.cps.toList = some 0
instance (x : Str) : Decidable (go x) := by unfold go; infer_instance
def gH : Hd → Prop
  | .num i => i.natAbs ≤ 1000000000
  | .name x => gw x
  | .op x => go x
  | .one _ x => gw x
  | .fn xs => ∀ x ∈ xs, gw x
  | .bind _ xs => ∀ x ∈ xs, gw x
  | _ => True
mutual
def Tr.gd : Tr → Prop
  | .mk h ps => gH h ∧ Tr.gds ps
def Tr.gds : List Tr → Prop
  | [] => True
  | t :: ts => t.gd ∧ Tr.gds ts
end
theorem gds_iff : ∀ {ps : List Tr}, Tr.gds ps ↔ ∀ t ∈ ps, t.gd
  | [] => by simp [Tr.gds]
  | t :: ts => by
    show t.gd ∧ Tr.gds ts ↔ _
    rw [gds_iff]
    simp
theorem gd_mk {h : Hd} {ps : List Tr} (a : gH h) (b : ∀ t ∈ ps, t.gd) : (Tr.mk h ps).gd := ⟨a, gds_iff.mpr b⟩
theorem gdNm {x : Str} (h : gw x) : (nameT x).gd := gd_mk h fun t m => by cases m
theorem gdNone : noneT.gd := gd_mk trivial fun t m => by cases m
theorem gdPair {t : Tr} (h : t.gd) : (pairT t).gd := gd_mk (show go "pair" by decide +kernel) fun u m => by
  rcases List.mem_cons.mp m with rfl | m
  · exact h
  · rw [List.mem_singleton.mp m]; exact gdNone
theorem gdFill {x : Str} {t : Tr} (hx : gw x) (h : t.gd) : (fillT x t).gd := gd_mk (show go "left!" by decide +kernel) fun u m => by
  rcases List.mem_cons.mp m with rfl | m
  · exact gdNm hx
  · rw [List.mem_singleton.mp m]; exact h
theorem gdWrap {anew : List Str} {h : Hd} {qs : List Tr} (a : gH h) (an : ∀ x ∈ anew, gw x) (b : ∀ t ∈ qs, t.gd) : (wrapL anew h qs).gd := by
  unfold wrapL
  split
  · exact gd_mk a b
  · refine gd_mk a fun t m => ?_
    rcases List.mem_append.mp m with m | m
    · exact b t (List.mem_of_mem_take m)
    · rw [List.mem_singleton.mp m]
      refine gd_mk an fun u mu => ?_
      rcases List.mem_append.mp mu with mu | mu
      · obtain ⟨x, mx, rfl⟩ := List.mem_map.mp mu
        exact gdPair (gdNm (an x mx))
      · exact b u (List.mem_of_mem_drop mu)
theorem gdRec {xs anew : List Str} {qs : List Tr} (hx : ∀ x ∈ xs, gw x) (an : ∀ x ∈ anew, gw x) (b : ∀ t ∈ qs, t.gd) : (recP xs anew qs).gd := by
  have zp : ∀ r ∈ xs.zip qs, gw r.1 ∧ r.2.gd := fun r m => by
    have z := List.of_mem_zip (show (r.1, r.2) ∈ xs.zip qs from m)
    exact ⟨hx _ z.1, b _ z.2⟩
  have inn : (Tr.mk .doo ((((xs.zip qs).filter fun r => decide (r.1 ∈ anew)).map fun r => fillT r.1 r.2) ++ qs.drop xs.length)).gd := gd_mk trivial fun t m => by
    rcases List.mem_append.mp m with m | m
    · obtain ⟨r, mr, rfl⟩ := List.mem_map.mp m
      have z := zp r (List.mem_filter.mp mr).1
      exact gdFill z.1 z.2
    · exact b t (List.mem_of_mem_drop m)
  unfold recP
  refine gd_mk an fun t m => ?_
  rcases List.mem_append.mp m with m | m
  · obtain ⟨x, _, rfl⟩ := List.mem_map.mp m
    exact gdPair gdNone
  · rw [List.mem_singleton.mp m]
    split
    · exact inn
    · refine gd_mk (fun x mx => ?_) fun u mu => ?_
      · obtain ⟨r, mr, rfl⟩ := List.mem_map.mp mx
        exact (zp r (List.mem_filter.mp mr).1).1
      · rcases List.mem_append.mp mu with mu | mu
        · obtain ⟨r, mr, rfl⟩ := List.mem_map.mp mu
          exact (zp r (List.mem_filter.mp mr).1).2
        · rw [List.mem_singleton.mp mu]
          exact inn
theorem held_gw {h : Hd} (g : gH h) : ∀ x ∈ held h, gw x := fun x m => by
  cases h with
  | fn xs => exact g x m
  | bind w xs => exact g x m
  | one w y =>
    have m' : x ∈ (if w = "set" then [] else [y] : List Str) := m
    split at m'
    · cases m'
    · rw [List.mem_singleton.mp m']; exact g
  | _ => cases m
theorem gdShape {hs : Str → Bool} {anew : List Str} {qs : List Tr} {h : Hd} (g : gH h) (an : ∀ x ∈ anew, x ∈ held h) (b : ∀ t ∈ qs, t.gd) : (shapeP hs anew qs h).gd := by
  have an' : ∀ x ∈ anew, gw x := fun x m => held_gw g x (an x m)
  have wr := gdWrap g an' b
  cases h with
  | name x =>
    show (if hs x = true then Tr.mk (.op "left") [nameT x] else .mk (.name x) qs).gd
    split
    · exact gd_mk (show go "left" by decide +kernel) fun t m => by rw [List.mem_singleton.mp m]; exact gdNm g
    · exact gd_mk g b
  | one w x =>
    show (if w = "set" then Tr.mk (.op "left!") (nameT x :: qs) else wrapL anew (.one w x) qs).gd
    split
    · refine gd_mk (show go "left!" by decide +kernel) fun t m => ?_
      rcases List.mem_cons.mp m with rfl | m
      · exact gdNm g
      · exact b t m
    · exact wr
  | bind w xs =>
    show (if w = "rec" ∧ anew ≠ [] then recP xs anew qs else wrapL anew (.bind w xs) qs).gd
    split
    · exact gdRec g an' b
    · exact wr
  | num i => exact wr
  | lit i => exact wr
  | fn i => exact wr
  | doo => exact wr
  | call => exact wr
  | op i => exact wr
  | plain i => exact wr
mutual
theorem gdTplain (hs : Str → Bool) : ∀ t : Tr, t.gd → (t.plain hs).gd
  | .mk h ps, g => by
    have g' : gH h ∧ Tr.gds ps := g
    exact gdShape g'.1 (fun x m => anew_sub m) (fun t m => gds_iff.mp (gdsTplain _ 0 ps g'.2) t m)
theorem gdsTplain (sc : Nat → Str → Bool) : ∀ (i : Nat) (ps : List Tr), Tr.gds ps → Tr.gds (Tr.plains sc i ps)
  | _, [], _ => trivial
  | i, t :: ts, g => by
    have g' : t.gd ∧ Tr.gds ts := g
    exact ⟨gdTplain (sc i) t g'.1, gdsTplain sc (i + 1) ts g'.2⟩
end
/-! ### good drawn trees -/
structure Gk (d n : Nat) (t : Tr) : Prop where
  ok : t.ok
  nw : t.nw
  gd : t.gd
  ld : t.ld ≤ 8 + d
  sz : t.size ≤ n
structure Gks (d n : Nat) (ts : List Tr) : Prop where
  al : ∀ t ∈ ts, t.ok ∧ t.nw ∧ t.gd ∧ t.ld ≤ 8 + d
  sz : Tr.sizes ts ≤ n
theorem Gk.mono {d n d' n' : Nat} {t : Tr} (h : Gk d n t) (a : d ≤ d') (b : n ≤ n') : Gk d' n' t := ⟨h.ok, h.nw, h.gd, by have := h.ld; omega, Nat.le_trans h.sz b⟩
theorem Gks.nil {d : Nat} : Gks d 0 [] := ⟨fun t m => (by cases m), Nat.zero_le _⟩
theorem Gk.cons {d d1 n m : Nat} {t : Tr} {ts : List Tr} (h : Gk d1 n t) (r : Gks d m ts) (e : d1 ≤ d := by omega) : Gks d (n + m) (t :: ts) :=
  ⟨fun u mu => by
    rcases List.mem_cons.mp mu with rfl | mu
    · exact ⟨h.ok, h.nw, h.gd, by have := h.ld; omega⟩
    · exact r.al u mu, by
    have h1 := h.sz
    have h2 := r.sz
    show t.size + Tr.sizes ts ≤ n + m
    omega⟩
def wk : Hd → Nat
  | .bind w _ => if w = "rec" then 6 else 3
  | .doo => 2
  | .call => 2
  | .op _ => 2
  | .fn _ => 2
  | .one _ _ => 2
  | _ => 1
theorem lw_wk (h : Hd) (j : Nat) : lw h j ≤ wk h := by
  cases h with
  | bind w xs =>
    show (if j < xs.length then (if w = "rec" then 6 else 3) else (if w = "rec" then 4 else 2)) ≤ (if w = "rec" then 6 else 3)
    split <;> split <;> omega
  | _ => exact Nat.le_refl _
theorem lo_8 (h : Hd) : lo h ≤ 8 := by cases h <;> exact Nat.le_of_ble_eq_true rfl
theorem Gk.of {h : Hd} {ps : List Tr} {d n : Nat} (g : Gks d n ps) (o : hok h ps.length) (gh : gH h) (nw : nwH h) (l : ps.length ≤ 11 := by exact Nat.le_of_ble_eq_true rfl) : Gk (wk h + d) (n + 1) (.mk h ps) :=
  ⟨⟨o, l, oks_iff.mpr fun t m => (g.al t m).1⟩, ⟨nw, nws_iff.mpr fun t m => (g.al t m).2.1⟩, gd_mk gh fun t m => (g.al t m).2.2.1, ld_le.mpr ⟨by have := lo_8 h; omega, fun j t e => by
    have := (g.al t (List.mem_of_getElem? e)).2.2.2
    have := lw_wk h j
    omega⟩, Nat.succ_le_succ g.sz⟩
theorem gk_leaf {h : Hd} (o : hok h 0) (gh : gH h) (nw : nwH h) (l : lo h ≤ 8 := by exact Nat.le_of_ble_eq_true rfl) : Gk 0 1 (.mk h []) :=
  ⟨⟨o, Nat.zero_le _, trivial⟩, ⟨nw, trivial⟩, ⟨gh, trivial⟩, ld_le.mpr ⟨by omega, fun j t e => (by cases e)⟩, Nat.le_refl _⟩
theorem gk_num {i : Int} (h : i.natAbs ≤ 1000000000) : Gk 0 1 (.mk (.num i) []) := gk_leaf (h := .num i) rfl h trivial
theorem gk_name {x : Str} (h : gw x) : Gk 0 1 (.mk (.name x) []) := gk_leaf (h := .name x) ⟨rfl, h.1⟩ h trivial
theorem gk_lit {w : Str} (h : w ∈ litW) : Gk 0 1 (.mk (.lit w) []) := gk_leaf (h := .lit w) ⟨rfl, h⟩ trivial trivial
theorem gk_op {o : Str} {d n : Nat} {ps : List Tr} (so : go o) (g : Gks d n ps) (l : ps.length ≤ 11 := by exact Nat.le_of_ble_eq_true rfl) : Gk (2 + d) (n + 1) (.mk (.op o) ps) := Gk.of (h := .op o) g so.1 so trivial l
theorem gk_do {d n : Nat} {ps : List Tr} (g : Gks d n ps) (l : ps.length ≤ 11 := by exact Nat.le_of_ble_eq_true rfl) : Gk (2 + d) (n + 1) (.mk .doo ps) := Gk.of (h := .doo) g True.intro trivial trivial l
theorem gk_call {d n : Nat} {t : Tr} {ps : List Tr} (g : Gks d n (t :: ps)) (l : (t :: ps).length ≤ 11 := by exact Nat.le_of_ble_eq_true rfl) : Gk (2 + d) (n + 1) (.mk .call (t :: ps)) := Gk.of (h := .call) g (Nat.succ_le_succ (Nat.zero_le _)) trivial trivial l
theorem gk_fn {d n : Nat} {xs : List Str} {b : Tr} (hx : ∀ x ∈ xs, gw x) (g : Gk d n b) (l : xs.length ≤ 10 := by exact Nat.le_of_ble_eq_true rfl) : Gk (2 + d) (n + 1) (.mk (.fn xs) [b]) := Gk.of (h := .fn xs) (g.cons Gks.nil (Nat.le_refl _)) ⟨rfl, by omega, fun x m => (hx x m).1⟩ hx l
theorem gk_one {d n : Nat} {w x : Str} {b : Tr} (hw : w ∈ oneW) (hx : gw x) (g : Gk d n b) : Gk (2 + d) (n + 1) (.mk (.one w x) [b]) := Gk.of (h := .one w x) (g.cons Gks.nil (Nat.le_refl _)) ⟨rfl, hw, hx.1⟩ hx trivial
theorem gk_bind {d n : Nat} {w : Str} {xs : List Str} {ps : List Tr} (hw : w ∈ bindW) (hx : ∀ x ∈ xs, gw x) (g : Gks d n ps) (e : ps.length = xs.length + 1 := by rfl) (l : ps.length ≤ 11 := by exact Nat.le_of_ble_eq_true rfl) : Gk (6 + d) (n + 1) (.mk (.bind w xs) ps) := by
  refine Gk.mono (Gk.of (h := .bind w xs) g ⟨e, hw, fun x m => (hx x m).1⟩ hx trivial l) ?_ (Nat.le_refl _)
  show (if w = "rec" then 6 else 3) + d ≤ 6 + d
  split <;> omega
theorem gk_let {d n : Nat} {xs : List Str} {ps : List Tr} (hx : ∀ x ∈ xs, gw x) (g : Gks d n ps) (e : ps.length = xs.length + 1 := by rfl) (l : ps.length ≤ 11 := by exact Nat.le_of_ble_eq_true rfl) : Gk (3 + d) (n + 1) (.mk (.bind "let" xs) ps) := by
  refine Gk.mono (Gk.of (h := .bind "let" xs) g ⟨e, by decide, fun x m => (hx x m).1⟩ hx trivial l) ?_ (Nat.le_refl _)
  show (if ("let" : Str) = "rec" then 6 else 3) + d ≤ 3 + d
  rw [if_neg (by decide +kernel)]
  exact Nat.le_refl _
theorem gk_plain {d n : Nat} {w : Str} {ps : List Tr} (hw : w ∈ plainW) (g : Gks d n ps) (l : ps.length ≤ 11 := by exact Nat.le_of_ble_eq_true rfl) : Gk (1 + d) (n + 1) (.mk (.plain w) ps) := Gk.of (h := .plain w) g hw trivial trivial l
theorem Gk.one {d n : Nat} {t : Tr} (g : Gk d n t) : Gks d n [t] := by
  have := g.cons (Gks.nil (d := d)) (Nat.le_refl _)
  exact this
theorem gk_show {d n : Nat} {b : Tr} (g : Gk d n b) : Gk (1 + d) (n + 1) (.mk (.plain "show") [b]) := gk_plain (by decide) g.one
theorem gk_mark {d n : Nat} {b : Tr} (g : Gk d n b) : Gk (1 + d) (n + 1) (.mk (.plain "mark") [b]) := gk_plain (by decide) g.one
theorem gk_if {d n : Nat} {ps : List Tr} (g : Gks d n ps) (l : ps.length ≤ 11 := by exact Nat.le_of_ble_eq_true rfl) : Gk (1 + d) (n + 1) (.mk (.plain "if") ps) := gk_plain (by decide) g l
theorem gk_wind {d n : Nat} {ps : List Tr} (g : Gks d n ps) (l : ps.length ≤ 11 := by exact Nat.le_of_ble_eq_true rfl) : Gk (1 + d) (n + 1) (.mk (.plain "wind") ps) := gk_plain (by decide) g l
end Cm

set_option linter.all false
/-! the text of a tree; what has no set has no text of it -/
namespace Cm
open PySem L2 PySem.Spec PyProof.Rows
def cs (s : Str) : List Nat := s.cps.toList
theorem cs_app (a b : Str) : cs (a ++ b) = cs a ++ cs b := by
  show (a ++ b).cps.toList = _
  rw [show (a ++ b).cps = a.cps ++ b.cps from rfl, Array.toList_append]
  rfl
theorem len_cs (a : Str) : a.length = (cs a).length := by
  show a.cps.size = a.cps.toList.length
  simp
theorem len_app (a b : Str) : (a ++ b).length = a.length + b.length := by rw [len_cs, cs_app, List.length_append, ← len_cs, ← len_cs]
/-- reading s from state p one comes to q -/
def sc (p : Nat) (s : Str) (q : Nat) : Prop := scan p (cs s) = some q
instance (p : Nat) (s : Str) (q : Nat) : Decidable (sc p s q) := by unfold sc; infer_instance
theorem sc_app {p q r : Nat} {a b : Str} (h : sc p a q) (k : sc q b r) : sc p (a ++ b) r := by
  show scan p (cs (a ++ b)) = some r
  rw [cs_app, scan_app, show scan p (cs a) = some q from h]
  exact k
theorem no_set {s : Str} {q : Nat} (h : sc 0 s q) : (!(Builtin.Str.occurrences s ("(set " : Str) 0 s.length 1).isEmpty) = false := by
  rw [Bool.eq_false_iff]
  intro z
  obtain ⟨i, h1, h2⟩ := (StrLaws.found_iff s _).mp z
  rw [StrLaws.subAt_eq, beq_iff_eq] at h2
  have e5 : ("(set " : Str).length = 5 := by decide +kernel
  have ep : ("(set " : Str).cps.toList = patS := by decide +kernel
  rw [e5, ep] at h2
  have e : cs s = (cs s).take i ++ (patS ++ (cs s).drop (i + 5)) := by
    rw [← h2]
    show cs s = _ ++ (((cs s).drop i).take 5 ++ (cs s).drop (i + 5))
    rw [← List.drop_drop, List.take_append_drop, List.take_append_drop]
  have := scan_none e
  rw [show scan 0 (cs s) = some q from h] at this
  cases this
theorem scan_num : ∀ (l : List Nat) (q : Nat), q ≤ 4 → l ≠ [] → (∀ c ∈ l, (48 ≤ c ∧ c ≤ 57) ∨ c = 45) → scan q l = some 0
  | [], _, _, h, _ => absurd rfl h
  | c :: l, q, hq, _, ha => by
    have hc := ha c List.mem_cons_self
    have e : stp q c = 0 := by
      unfold stp
      have : ∀ q < 5, patS[q]? ≠ some c := fun q hq z => by
        have key : ∀ q < 5, ∀ d, patS[q]? = some d → ¬ ((48 ≤ d ∧ d ≤ 57) ∨ d = 45) := by
          intro q hq d e
          match q, hq with
          | 0, _ => cases e; decide
          | 1, _ => cases e; decide
          | 2, _ => cases e; decide
          | 3, _ => cases e; decide
          | 4, _ => cases e; decide
        exact key q hq c z hc
      rw [if_neg (this q (by omega)), if_neg (by omega)]
    show (if stp q c = 5 then none else scan (stp q c) l) = _
    rw [e, if_neg (by decide)]
    cases l with
    | nil => rfl
    | cons d r => exact scan_num (d :: r) 0 (by decide) (fun z => by cases z) fun x m => ha x (List.mem_cons_of_mem _ m)
theorem cs_num (i : Int) : cs (Str.ofString (toString i)) ≠ [] ∧ (∀ c ∈ cs (Str.ofString (toString i)), (48 ≤ c ∧ c ≤ 57) ∨ c = 45) ∧ (i.natAbs ≤ 1000000000 → (cs (Str.ofString (toString i))).length ≤ 11) := by
  cases i with
  | ofNat n =>
    have e : cs (Str.ofString (toString (Int.ofNat n))) = TL.numL n := TL.tl_num n
    rw [e]
    refine ⟨TL.numL_ne n, fun c m => .inl (TL.numL_digits n c m), fun h => ?_⟩
    have := TL.numL_len (n := n) (k := 10) (by decide) (by have h' : n ≤ 1000000000 := h; omega)
    omega
  | negSucc n =>
    have e : cs (Str.ofString (toString (Int.negSucc n))) = 45 :: TL.numL (n + 1) := by
      rw [← TL.tl_num (n + 1)]
      show (Str.ofString (toString (Int.negSucc n))).cps.toList = 45 :: (Str.ofString (toString (((n + 1 : Nat)) : Int))).cps.toList
      have e1 : toString (Int.negSucc n) = "-" ++ Nat.repr (n + 1) := rfl
      have e2 : toString (((n + 1 : Nat)) : Int) = Nat.repr (n + 1) := rfl
      rw [e1, e2, Str.ofString_eq_toList, Str.ofString_eq_toList, String.toList_append]
      rfl
    rw [e]
    refine ⟨fun z => (by cases z), fun c m => ?_, fun h => ?_⟩
    · rcases List.mem_cons.mp m with rfl | m
      · exact .inr rfl
      · exact .inl (TL.numL_digits (n + 1) c m)
    · have := TL.numL_len (n := n + 1) (k := 10) (by decide) (by have h' : n + 1 ≤ 1000000000 := h; omega)
      rw [List.length_cons]
      omega
/-! ### the text -/
def rowT (x s : Str) : Str := ((("(" : Str) ++ x) ++ (" " : Str)) ++ s ++ (")" : Str)
def txtH : Hd → List Str → Str
  | .num i, _ => Str.ofString (toString i)
  | .name x, _ => x
  | .lit w, _ => if w ∈ (["true", "false", "none"] : List Str) then w else (("(" : Str) ++ Str.join " " [w]) ++ (")" : Str)
  | .fn xs, ss => ((("(fn (" : Str) ++ Str.join " " xs) ++ (") " : Str)) ++ ss.headD "" ++ (")" : Str)
  | .bind w xs, ss => ((((("(" : Str) ++ w) ++ (" (" : Str)) ++ Str.join " " ((xs.zip ss).map fun r => rowT r.1 r.2)) ++ (") " : Str)) ++ (ss.drop xs.length).headD "" ++ (")" : Str)
  | .one w x, ss => ((((("(" : Str) ++ w) ++ (" " : Str)) ++ x) ++ (" " : Str)) ++ ss.headD "" ++ (")" : Str)
  | .doo, ss => (("(" : Str) ++ Str.join " " ("do" :: ss)) ++ (")" : Str)
  | .call, ss => (("(" : Str) ++ Str.join " " ss) ++ (")" : Str)
  | .op o, ss => (("(" : Str) ++ Str.join " " (o :: ss)) ++ (")" : Str)
  | .plain w, ss => (("(" : Str) ++ Str.join " " (w :: ss)) ++ (")" : Str)
mutual
def Tr.txt : Tr → Str
  | .mk h ps => txtH h (Tr.txts ps)
def Tr.txts : List Tr → List Str
  | [] => []
  | t :: ts => t.txt :: Tr.txts ts
end
theorem txts_map : ∀ ps : List Tr, Tr.txts ps = ps.map Tr.txt
  | [] => rfl
  | t :: ts => by
    show t.txt :: Tr.txts ts = _
    rw [txts_map ts]
    rfl
/-! ### how long it is, and how it reads -/
structure TxtOk (n : Nat) (s : Str) : Prop where
  len : s.length + 6 ≤ n
  s0 : sc 0 s 0
  s1 : sc 1 s 0
structure TxtsOk (n : Nat) (ss : List Str) : Prop where
  al : ∀ s ∈ ss, sc 0 s 0 ∧ sc 1 s 0
  sum : (ss.map (·.length)).sum + 6 * ss.length ≤ n
theorem TxtsOk.nil {n : Nat} : TxtsOk n [] := ⟨fun s m => (by cases m), Nat.zero_le _⟩
theorem TxtOk.cons {n m : Nat} {s : Str} {ss : List Str} (h : TxtOk n s) (k : TxtsOk m ss) : TxtsOk (n + m) (s :: ss) :=
  ⟨fun u mu => by
    rcases List.mem_cons.mp mu with rfl | mu
    · exact ⟨h.s0, h.s1⟩
    · exact k.al u mu, by
    have h1 := h.len
    have h2 := k.sum
    rw [List.map_cons, List.sum_cons, List.length_cons]
    omega⟩
theorem join_sc : ∀ (ss : List Str), ss ≠ [] → (∀ s ∈ ss, sc 0 s 0 ∧ sc 1 s 0) → sc 0 (Str.join " " ss) 0 ∧ sc 1 (Str.join " " ss) 0
  | [], h, _ => absurd rfl h
  | [x], _, h => h x List.mem_cons_self
  | x :: y :: r, _, h => by
    have hx := h x List.mem_cons_self
    have ih := join_sc (y :: r) (fun z => by cases z) fun s m => h s (List.mem_cons_of_mem _ m)
    have e : Str.join " " (x :: y :: r) = x ++ (" " : Str) ++ Str.join " " (y :: r) := rfl
    have sp : sc 0 (" " : Str) 0 := by decide +kernel
    rw [e]
    exact ⟨sc_app (sc_app hx.1 sp) ih.1, sc_app (sc_app hx.2 sp) ih.1⟩
theorem join_len : ∀ (ss : List Str), (Str.join " " ss).length ≤ (ss.map (·.length)).sum + ss.length
  | [] => Nat.le_refl _
  | [x] => by
    show x.length ≤ _
    rw [List.map_cons, List.sum_cons, List.length_cons]
    omega
  | x :: y :: r => by
    have ih := join_len (y :: r)
    have e : Str.join " " (x :: y :: r) = x ++ (" " : Str) ++ Str.join " " (y :: r) := rfl
    have sp : (" " : Str).length = 1 := by decide +kernel
    rw [e, len_app, len_app, sp, List.map_cons, List.sum_cons, List.length_cons]
    omega
theorem join_ge : ∀ (ss : List Str), (ss.map (·.length)).sum ≤ (Str.join " " ss).length
  | [] => Nat.zero_le _
  | [x] => by
    show _ ≤ x.length
    simp
  | x :: y :: r => by
    have ih := join_ge (y :: r)
    have e : Str.join " " (x :: y :: r) = x ++ (" " : Str) ++ Str.join " " (y :: r) := rfl
    rw [e, len_app, len_app, List.map_cons, List.sum_cons]
    omega
theorem gw_sc {x : Str} (h : gw x) : sc 0 x 0 ∧ sc 1 x 0 := ⟨h.2.2.1, h.2.2.2⟩
theorem go_sc {x : Str} (h : go x) : sc 0 x 0 ∧ sc 1 x 0 := ⟨h.2.2.1, h.2.2.2⟩
theorem names_sum : ∀ {xs : List Str}, (∀ x ∈ xs, gw x) → (xs.map (·.length)).sum ≤ 2 * xs.length
  | [], _ => Nat.le_refl _
  | x :: xs, h => by
    have h1 := (h x List.mem_cons_self).2.1
    have h2 := names_sum (xs := xs) fun y m => h y (List.mem_cons_of_mem _ m)
    rw [List.map_cons, List.sum_cons, List.length_cons]
    omega
theorem rowT_ok {x s : Str} (h : gw x) (k : sc 0 s 0) : (sc 0 (rowT x s) 0 ∧ sc 1 (rowT x s) 0) ∧ (rowT x s).length ≤ s.length + 5 := by
  have a0 : sc 0 ("(" : Str) 1 := by decide +kernel
  have a1 : sc 1 ("(" : Str) 1 := by decide +kernel
  have b : sc 0 (" " : Str) 0 := by decide +kernel
  have c : sc 0 (")" : Str) 0 := by decide +kernel
  have l1 : ("(" : Str).length = 1 := by decide +kernel
  have l2 : (" " : Str).length = 1 := by decide +kernel
  have l3 : (")" : Str).length = 1 := by decide +kernel
  refine ⟨⟨sc_app (sc_app (sc_app (sc_app a0 (gw_sc h).2) b) k) c, sc_app (sc_app (sc_app (sc_app a1 (gw_sc h).2) b) k) c⟩, ?_⟩
  have := h.2.1
  unfold rowT
  rw [len_app, len_app, len_app, len_app, l1, l2, l3]
  omega
theorem rows_ok : ∀ {xs ss : List Str}, (∀ x ∈ xs, gw x) → (∀ s ∈ ss, sc 0 s 0 ∧ sc 1 s 0) → (∀ s ∈ (xs.zip ss).map fun r => rowT r.1 r.2, sc 0 s 0 ∧ sc 1 s 0) ∧ ((((xs.zip ss).map fun r => rowT r.1 r.2).map (·.length)).sum + ((xs.zip ss).map fun r => rowT r.1 r.2).length ≤ ((ss.take xs.length).map (·.length)).sum + 6 * (ss.take xs.length).length)
  | [], ss, _, _ => ⟨fun s m => (by cases m), Nat.zero_le _⟩
  | x :: xs, [], _, _ => ⟨fun s m => (by cases m), Nat.zero_le _⟩
  | x :: xs, s :: ss, hx, hs => by
    have ih := rows_ok (xs := xs) (ss := ss) (fun y m => hx y (List.mem_cons_of_mem _ m)) (fun y m => hs y (List.mem_cons_of_mem _ m))
    have r := rowT_ok (hx x List.mem_cons_self) (hs s List.mem_cons_self).1
    refine ⟨fun y m => ?_, ?_⟩
    · rcases List.mem_cons.mp m with rfl | m
      · exact r.1
      · exact ih.1 y m
    · have i2 := ih.2
      have r2 := r.2
      show (rowT x s).length + (((xs.zip ss).map fun r => rowT r.1 r.2).map (·.length)).sum + (((xs.zip ss).map fun r => rowT r.1 r.2).length + 1) ≤ s.length + ((ss.take xs.length).map (·.length)).sum + 6 * ((ss.take xs.length).length + 1)
      omega
/-- a head word and texts in brackets -/
theorem brk_ok {w : Str} {ss : List Str} {n : Nat} (hw : sc 1 w 0) (hl : w.length ≤ 6) (h : TxtsOk n ss) : TxtOk (n + 48) ((("(" : Str) ++ Str.join " " (w :: ss)) ++ (")" : Str)) := by
  have a0 : sc 0 ("(" : Str) 1 := by decide +kernel
  have a1 : sc 1 ("(" : Str) 1 := by decide +kernel
  have c : sc 0 (")" : Str) 0 := by decide +kernel
  have l1 : ("(" : Str).length = 1 := by decide +kernel
  have l3 : (")" : Str).length = 1 := by decide +kernel
  have j : sc 1 (Str.join " " (w :: ss)) 0 := by
    cases ss with
    | nil => exact hw
    | cons y r =>
      have e : Str.join " " (w :: y :: r) = w ++ (" " : Str) ++ Str.join " " (y :: r) := rfl
      have sp : sc 0 (" " : Str) 0 := by decide +kernel
      rw [e]
      exact sc_app (sc_app hw sp) (join_sc (y :: r) (fun z => by cases z) h.al).1
  refine ⟨?_, sc_app (sc_app a0 j) c, sc_app (sc_app a1 j) c⟩
  have hj := join_len (w :: ss)
  have := h.sum
  rw [List.map_cons, List.sum_cons, List.length_cons] at hj
  rw [len_app, len_app, l1, l3]
  omega
theorem txtH_ok {h : Hd} {ss : List Str} {n : Nat} (o : hok h ss.length) (g : gH h) (nw : nwH h) (ns : nsH h) (k : TxtsOk n ss) : TxtOk (n + 48) (txtH h ss) := by
  have a0 : sc 0 ("(" : Str) 1 := by decide +kernel
  have a1 : sc 1 ("(" : Str) 1 := by decide +kernel
  have b : sc 0 (" " : Str) 0 := by decide +kernel
  have c : sc 0 (")" : Str) 0 := by decide +kernel
  have l1 : ("(" : Str).length = 1 := by decide +kernel
  have l2 : (" " : Str).length = 1 := by decide +kernel
  have l3 : (")" : Str).length = 1 := by decide +kernel
  have l4 : (") " : Str).length = 2 := by decide +kernel
  have d0 : sc 0 (") " : Str) 0 := by decide +kernel
  have d1 : sc 1 (") " : Str) 0 := by decide +kernel
  have ksum := k.sum
  cases h with
  | num i =>
    obtain ⟨e1, e2, e3⟩ := cs_num i
    refine ⟨?_, scan_num _ 0 (by decide) e1 e2, scan_num _ 1 (by decide) e1 e2⟩
    show (Str.ofString (toString i)).length + 6 ≤ n + 48
    rw [len_cs]
    have := e3 g
    omega
  | name x =>
    have g' : gw x := g
    exact ⟨by have := g'.2.1; show x.length + 6 ≤ _; omega, (gw_sc g').1, (gw_sc g').2⟩
  | lit w =>
    have key : ∀ w ∈ litW, sc 0 (txtH (.lit w) []) 0 ∧ sc 1 (txtH (.lit w) []) 0 ∧ (txtH (.lit w) []).length ≤ 10 := by decide +kernel
    have z := key w o.2
    exact ⟨by have := z.2.2; show (txtH (.lit w) []).length + 6 ≤ _; omega, z.1, z.2.1⟩
  | fn xs =>
    obtain ⟨s, rfl⟩ := one_of (show ss.length = 1 from o.1)
    have ks := k.al s List.mem_cons_self
    have g' : ∀ x ∈ xs, gw x := g
    have f0 : sc 0 ("(fn (" : Str) 1 := by decide +kernel
    have f1 : sc 1 ("(fn (" : Str) 1 := by decide +kernel
    have l5 : ("(fn (" : Str).length = 5 := by decide +kernel
    have j : ∃ q, q ≤ 1 ∧ sc 1 (Str.join " " xs) q := by
      cases xs with
      | nil => exact ⟨1, Nat.le_refl _, by show sc 1 Str.empty 1; decide +kernel⟩
      | cons x r => exact ⟨0, by decide, (join_sc (x :: r) (fun z => by cases z) fun y m => gw_sc (g' y m)).2⟩
    obtain ⟨q, q1, jq⟩ := j
    have dq : sc q (") " : Str) 0 := by
      rcases Nat.le_one_iff_eq_zero_or_eq_one.mp q1 with rfl | rfl
      · exact d0
      · exact d1
    refine ⟨?_, sc_app (sc_app (sc_app (sc_app f0 jq) dq) ks.1) c, sc_app (sc_app (sc_app (sc_app f1 jq) dq) ks.1) c⟩
    have hj := join_len xs
    have hn := names_sum g'
    have hx : xs.length ≤ 10 := nw
    have e : (([s] : List Str).map (·.length)).sum = s.length := by simp
    rw [e] at ksum
    show (((("(fn (" : Str) ++ Str.join " " xs) ++ (") " : Str)) ++ s ++ (")" : Str)).length + 6 ≤ _
    rw [len_app, len_app, len_app, len_app, l5, l4, l3]
    rw [List.length_singleton] at ksum
    omega
  | one w x =>
    obtain ⟨s, rfl⟩ := one_of (show ss.length = 1 from o.1)
    have ks := k.al s List.mem_cons_self
    have g' : gw x := g
    have key : ∀ w ∈ oneW, w ≠ "set" → sc 1 w 0 ∧ w.length ≤ 4 := by decide +kernel
    have z := key w o.2.1 ns
    refine ⟨?_, sc_app (sc_app (sc_app (sc_app (sc_app (sc_app a0 z.1) b) (gw_sc g').1) b) ks.1) c, sc_app (sc_app (sc_app (sc_app (sc_app (sc_app a1 z.1) b) (gw_sc g').1) b) ks.1) c⟩
    have := g'.2.1
    have e : (([s] : List Str).map (·.length)).sum = s.length := by simp
    rw [e, List.length_singleton] at ksum
    show ((((("(" : Str) ++ w) ++ (" " : Str)) ++ x) ++ (" " : Str) ++ s ++ (")" : Str)).length + 6 ≤ _
    rw [len_app, len_app, len_app, len_app, len_app, len_app, l1, l2, l3]
    have := z.2
    omega
  | bind w xs =>
    have g' : ∀ x ∈ xs, gw x := g
    have key : ∀ w ∈ bindW, sc 1 w 0 ∧ w.length = 3 := by decide +kernel
    have z := key w o.2.1
    have lss : ss.length = xs.length + 1 := o.1
    have p0 : sc 0 (" (" : Str) 1 := by decide +kernel
    have l6 : (" (" : Str).length = 2 := by decide +kernel
    obtain ⟨s, es⟩ : ∃ s, ss.drop xs.length = [s] := by
      have : (ss.drop xs.length).length = 1 := by rw [List.length_drop]; omega
      exact one_of this
    have ms : s ∈ ss := List.mem_of_mem_drop (show s ∈ ss.drop xs.length by rw [es]; exact List.mem_cons_self)
    have ks := k.al s ms
    obtain ⟨r1, r2⟩ := rows_ok (xs := xs) (ss := ss) g' k.al
    have j : ∃ q, q ≤ 1 ∧ sc 1 (Str.join " " ((xs.zip ss).map fun r => rowT r.1 r.2)) q := by
      cases er : (xs.zip ss).map fun r => rowT r.1 r.2 with
      | nil => exact ⟨1, Nat.le_refl _, by show sc 1 Str.empty 1; decide +kernel⟩
      | cons x r =>
        rw [er] at r1
        exact ⟨0, by decide, (join_sc (x :: r) (fun z => by cases z) r1).2⟩
    obtain ⟨q, q1, jq⟩ := j
    have dq : sc q (") " : Str) 0 := by
      rcases Nat.le_one_iff_eq_zero_or_eq_one.mp q1 with rfl | rfl
      · exact d0
      · exact d1
    have hj := join_len ((xs.zip ss).map fun r => rowT r.1 r.2)
    have esum : (ss.map (·.length)).sum = ((ss.take xs.length).map (·.length)).sum + s.length := by
      conv => lhs; rw [← List.take_append_drop xs.length ss]
      rw [es, List.map_append, List.sum_append]
      simp
    have elen : (ss.take xs.length).length = xs.length := by rw [List.length_take]; omega
    rw [esum, lss] at ksum
    rw [elen] at r2
    have et : txtH (.bind w xs) ss = ((((("(" : Str) ++ w) ++ (" (" : Str)) ++ Str.join " " ((xs.zip ss).map fun r => rowT r.1 r.2)) ++ (") " : Str)) ++ s ++ (")" : Str) := by
      show ((((("(" : Str) ++ w) ++ (" (" : Str)) ++ Str.join " " ((xs.zip ss).map fun r => rowT r.1 r.2)) ++ (") " : Str)) ++ (ss.drop xs.length).headD "" ++ (")" : Str) = _
      rw [es]
      rfl
    rw [et]
    refine ⟨?_, sc_app (sc_app (sc_app (sc_app (sc_app (sc_app a0 z.1) p0) jq) dq) ks.1) c, sc_app (sc_app (sc_app (sc_app (sc_app (sc_app a1 z.1) p0) jq) dq) ks.1) c⟩
    rw [len_app, len_app, len_app, len_app, len_app, len_app, l1, l3, l4, l6, z.2]
    omega
  | doo => exact brk_ok (by decide +kernel) (by decide +kernel) k
  | op x =>
    have g' : go x := g
    exact brk_ok (go_sc g').2 g'.2.1 k
  | plain w =>
    have key : ∀ w ∈ plainW, sc 1 w 0 ∧ w.length ≤ 6 := by decide +kernel
    have z := key w o
    exact brk_ok z.1 z.2 k
  | call =>
    have hl : 1 ≤ ss.length := o
    have j := join_sc ss (fun z => by rw [z] at hl; exact absurd hl (by decide)) k.al
    refine ⟨?_, sc_app (sc_app a0 j.2) c, sc_app (sc_app a1 j.2) c⟩
    have hj := join_len ss
    show ((("(" : Str) ++ Str.join " " ss) ++ (")" : Str)).length + 6 ≤ _
    rw [len_app, len_app, l1, l3]
    omega
mutual
theorem txt_ok : ∀ t : Tr, t.ok → t.nw → t.gd → t.ns → TxtOk (48 * t.size) t.txt
  | .mk h ps, o, w, g, n => by
    have o' : hok h ps.length ∧ ps.length ≤ 11 ∧ Tr.oks ps := o
    have w' : nwH h ∧ Tr.nws ps := w
    have g' : gH h ∧ Tr.gds ps := g
    have n' : nsH h ∧ Tr.nss ps := n
    have e : (Tr.txts ps).length = ps.length := by rw [txts_map, List.length_map]
    have := txtH_ok (by rw [e]; exact o'.1) g'.1 w'.1 n'.1 (txts_ok ps o'.2.2 w'.2 g'.2 n'.2)
    show TxtOk (48 * (Tr.sizes ps + 1)) (txtH h (Tr.txts ps))
    rw [Nat.mul_succ]
    exact this
theorem txts_ok : ∀ ts : List Tr, Tr.oks ts → Tr.nws ts → Tr.gds ts → Tr.nss ts → TxtsOk (48 * Tr.sizes ts) (Tr.txts ts)
  | [], _, _, _, _ => TxtsOk.nil
  | t :: ts, o, w, g, n => by
    have o' : t.ok ∧ Tr.oks ts := o
    have w' : t.nw ∧ Tr.nws ts := w
    have g' : t.gd ∧ Tr.gds ts := g
    have n' : t.ns ∧ Tr.nss ts := n
    have := TxtOk.cons (txt_ok t o'.1 w'.1 g'.1 n'.1) (txts_ok ts o'.2 w'.2 g'.2 n'.2)
    show TxtsOk (48 * (t.size + Tr.sizes ts)) (t.txt :: Tr.txts ts)
    rw [Nat.mul_add]
    exact this
end
end Cm

set_option linter.all false
/-! enumerate over a text -/
namespace Cm
open PySem L2 PySem.Spec PyProof.Rows
/-- the text x, each sign in a new pair with its number -/
def IteS (x : Str) : It :=
  ⟨fun i _ => i < x.cps.size, fun i H v H' => ∃ T c, v = .ref T ∧ H T = Option.none ∧ H' = upd H T (.tup [.int (i : Nat), .str ⟨#[c]⟩]) ∧ x.cps[i]? = some c, fun i _ => x.cps.size ≤ i⟩
theorem isStr_at {h h' : Heap} {it : Addr} {ty : String} {x : Str} {t : Tok} {i : Nat} (st : h.IsStrIter it ty x t i) (k : ∀ o, h.get? it = some o → h'.get? it = some o) : h'.IsStrIter it ty x t i := let ⟨o, ho, r⟩ := st; ⟨o, k o ho, r⟩
theorem turn_enumS {P : Program} {w : World} {K : PySem.W.Frag} {elts : List Expr} {kk : Nat} {tpos : Pos} (x : Str) (t : Tok) (e it : Addr) :
    Turn P w K (.Tuple elts kk tpos) (IteS x) [e, it] e (fun i h => (∃ old, IsEnum h e it ((i : Nat) : Int) old) ∧ h.IsStrIter it (strIterType x) x t i ∧ e ≠ it) where
  mem := by simp
  obj := fun i h st b hb => by
    obtain ⟨⟨old, he⟩, ⟨o, ho, hc, hd⟩, _⟩ := st
    rcases (show b = e ∨ b = it by simpa using hb) with z | z
    · rw [z]; exact ⟨_, he, fun v q => nomatch q⟩
    · rw [z]; exact ⟨o, ho, fun v q => by rw [hd] at q; cases q⟩
  keep := fun i h h' st k => let ⟨⟨old, he⟩, hi, hne⟩ := st; ⟨⟨old, k e (by simp) _ he⟩, isStr_at hi fun o q => k it (by simp) o q, hne⟩
  item := by
    intro X hP hw hK hc i pins s σ H E I hf st hg
    subst hP hw hK
    obtain ⟨⟨old, he⟩, hit, hne⟩ := st
    have hel : e < s.heap.objs.size := Heap.lt_size he
    have hil : it < s.heap.objs.size := by obtain ⟨_, q, _⟩ := hit; exact Heap.lt_size q
    refine wpAny_pyNext_enum_itemD (Draws.text (prog := X.prog) (w := X.w) (A := X.A.in1) (I.ok.hd hc) it x t) he hit hg hne (by simp [hne]) fun y h' tk hy ho hst hT hsz hk => ?_
    obtain ⟨c, u, hcx, rfl⟩ := hy
    refine ⟨_, rfl, wpAny_letOwnedTupleGo_enum (s := { s with heap := h', toks := tk + 1 }) ho fun h'' he' sb => ?_⟩
    have hT2 : h''.get? s.heap.objs.size = some { cls := .type "tuple", data := .seq #[.int i tk, .str ⟨#[c]⟩ u] } := (sb.2 _ (Nat.ne_of_gt hel)).trans hT
    have new : ObjOk X.prog X.w (upd H s.heap.objs.size (.tup [.int (i : Nat), .str ⟨#[c]⟩])) h'' s.heap.objs.size (.tup [.int (i : Nat), .str ⟨#[c]⟩]) :=
      ⟨by show 2 ≤ sizeLine; decide, [.int i tk, .str ⟨#[c]⟩ u], .cons ⟨_, rfl⟩ (.cons ⟨_, rfl⟩ .nil), ⟨_, hT2, rfl, _, rfl⟩⟩
    have I1 : Inv X pins σ (upd H s.heap.objs.size (.tup [.int (i : Nat), .str ⟨#[c]⟩])) { s with heap := h'', toks := tk + 1 } :=
      I.turnedNew (ch := [e, it]) (fun b ob hb q => (sb.2 b (fun z => hb (by simp [z]))).trans (hk b ob (fun z => hb (by simp [z])) (fun z => hb (by simp [z])) q)) hf (Nat.le_refl _) new
    refine ⟨.ref s.heap.objs.size, _, I1, rfl, ⟨_, c, rfl, I.hok.fresh (Nat.le_refl _), rfl, hcx⟩, ⟨⟨.str ⟨#[c]⟩ u, ?_⟩, isStr_at hst fun o q => (sb.2 it (Ne.symm hne)).trans q, hne⟩, fun b hb => ?_⟩
    · have e1 : ((i + 1 : Nat) : Int) = (i : Int) + 1 := by omega
      rw [e1]; exact he'
    · have hb' : b < s.heap.objs.size := by
        rcases (show b = e ∨ b = it by simpa using hb) with z | z
        · rw [z]; exact hel
        · rw [z]; exact hil
      rw [upd_ne (Nat.ne_of_lt hb')]
      exact (hf b hb).1
  done := by
    intro X hP hw hK hc i pins s σ H E I hf st hg
    subst hP hw hK
    obtain ⟨⟨old, he⟩, hit, hne⟩ := st
    obtain ⟨f0, f1, f2, f3, f4, f5⟩ := hf it (by simp)
    have hx : x.cps[i]? = none := Array.getElem?_eq_none hg
    have D : Draws X.prog X.w X.A.in1 it [it] i (fun _ _ => False) (fun j h => j = i ∧ h.IsStrIter it (strIterType x) x t i) :=
      { live := fun _ _ st => let ⟨o, ho, _⟩ := st.2; ⟨o, ho⟩
        frame := fun _ _ _ st hk => ⟨st.1, isStr_at st.2 fun o e => hk it (by simp) o e⟩
        item := fun j s Q E hj st => absurd hj (by rw [st.1]; exact Nat.lt_irrefl _)
        done := fun s Q E st hE => by
          have st2 := st.2
          cases ha : x.cps.all (· < 128)
          · simp only [strIterType, ha, Bool.false_eq_true, if_false] at st2
            exact wpAny_nextOf_wide_end (I.ok.hd hc) st2 hx hE
          · simp only [strIterType, ha, if_true] at st2
            exact wpAny_nextOf_ascii_end (I.ok.hd hc) st2 hx hE }
    exact wpAny_pyNext_enum_endD D he ⟨rfl, hit⟩ fun h' eb => ⟨rfl, I.turned (t' := s.toks) (fun b o hb q => eb b o hb q) f0 f1 f3 f4 f5⟩
  self := fun A i s Q E st h => let ⟨⟨_, he⟩, _⟩ := st; wpAny_pyIter_enum he h
def iEnumS (ta : TA) : TI := fun σ H R => ta σ H fun vs H1 => ∃ x, vs = [.str x] ∧ R (IteS x) H1
theorem pi_enumS {X : Cx} {e : Expr} {ta : TA} {p pos tpos : Pos} {elts : List Expr} {kk : Nat} (hg : Gl X "enumerate") (hm : X.mg "enumerate" = none) (ha : PA X [e] ta) (hs : starEach [e] X.env = [(false, eval e X.env)] := by rfl) :
    PI X (.Tuple elts kk tpos) (.Call (.Name "enumerate" p) [e] [] pos) (iEnumS ta) := by
  refine ⟨fun pins s σ H R I h => ?_⟩
  refine Call_ (ld_blt I hg hm boot_enumerate (PyProof.Rows.callWith_type1 (thn (ha.run pos pins s σ H _ I h) fun us s1 hz => ?_) hs rfl))
  obtain ⟨vs, H1, I1, r1, x, ex, q⟩ := hz
  subst ex
  cases r1 with
  | cons r rr =>
    cases rr
    obtain ⟨t, rfl⟩ := r
    refine call_enum1 (begins_text x t) trivial fun h' he hit hsz hk => wpAny_pyIter_enum he ?_
    refine ⟨s1.heap.objs.size + 1, [s1.heap.objs.size + 1, s1.heap.objs.size], _, _, H1, rfl, I1.kept (t' := s1.toks) hk, turn_enumS x t (s1.heap.objs.size + 1) s1.heap.objs.size,
      ⟨⟨.none, he⟩, ⟨_, hit, rfl, rfl⟩, Nat.succ_ne_self _⟩, fun b hb => ?_, q⟩
    have hle : s1.heap.objs.size ≤ b := by
      rcases (show b = s1.heap.objs.size + 1 ∨ b = s1.heap.objs.size by simpa using hb) with z | z
      · rw [z]; exact Nat.le_add_right _ _
      · rw [z]; exact Nat.le_refl _
    exact I1.fpOk hle (I1.hok.fresh hle)
theorem walk_enumS {x : Str} : Walk (IteS x) (cs x).length (fun _ => True) (YPair (fun i => some (.int (i : Nat))) (fun i => ((cs x)[i]?).map fun c => .str ⟨#[c]⟩)) := by
  have el : (cs x).length = x.cps.size := by rw [← len_cs]; rfl
  have eg : ∀ i : Nat, (cs x)[i]? = x.cps[i]? := fun i => by show x.cps.toList[i]? = _; simp
  refine ⟨fun i _ hi _ => by rw [el] at hi; exact hi, fun _ _ => by rw [el]; exact Nat.le_refl _, fun i H v H' _ q y => ?_⟩
  obtain ⟨T, c, h1, h2, h3, h4⟩ := y
  exact ⟨T, .int (i : Nat), .str ⟨#[c]⟩, h1, h2, h3, rfl, by
    show ((cs x)[i]?).map (fun c => V.str ⟨#[c]⟩) = _
    rw [eg, h4]
    rfl⟩
/-! ### None or a text among the keys of a written dict -/
theorem none_K {P : Program} {w : World} {K : PySem.W.Frag} {h : Heap} {a : Addr} {es : Array DictEntry} {n : Nat} (X : K.In h) (hl : K.lookup a = some ⟨.type "dict", none, .dict es n, #[]⟩) (hk : PySem.W.KeysLit w.params es.toList) :
    ∃ f, h.MapOf (noneKind P w) a f ∧ f none = none := by
  refine ⟨fun k => findBy (noneKind P w).is es k, ⟨_, es, n, X _ _ hl, ⟨rfl, rfl, rfl⟩, rfl, fun e he => ?_, fun k => rfl⟩, ?_⟩
  · obtain ⟨x, t, e1, e2⟩ := hk.all e (Array.mem_toList_iff.mpr he)
    refine ⟨some (.inr x), ?_, e2⟩
    rw [e1]
    show keyIs (.inr x) (.str x t) = true
    exact strKind_is P w x t
  · have q : (es.find? fun e => nkIs none e.key) = none := by
      rw [Array.find?_eq_none]
      intro e he hq
      obtain ⟨x, t, e1, _⟩ := hk.all e (Array.mem_toList_iff.mpr he)
      rw [e1] at hq
      exact nomatch (show false = true from hq)
    show (es.find? fun e => nkIs none e.key).map (·.val) = none
    rw [q]
    rfl
def rNotInKd (K : PySem.W.Frag) (d : Addr) : V → V → Hp → VK → Prop := fun x y H Q => y = .ref d ∧ ((∃ (z : Str) (r : Option Value), x = .str z ∧ PySem.W.nsIn K d z = some r ∧ Q (.bl (!r.isSome)) H) ∨ (x = .non ∧ Q (.bl true) H))
theorem op_notInNkd {X : Cx} {d : Addr} {es : Array DictEntry} {n : Nat} (D : KDict X.K X.w d es n) : OpR X (compareOp .NotIn) (rNotInKd X.K d) := by
  intro pins s σ H x y v u Q I rx ry h
  obtain ⟨rfl, h⟩ := h
  rcases h with ⟨z, r, rfl, e, q⟩ | ⟨rfl, q⟩
  · exact op_notIn_kd D pins s σ H (.str z) (.ref d) v u Q I rx ry ⟨z, r, rfl, rfl, e, q⟩
  · cases ry
    obtain rfl : v = Value.none := rx
    obtain ⟨f, hm, hf⟩ := none_K (P := X.prog) (w := X.w) I.kIn D.at_ D.lit
    refine wpAny_notIn_of (show (noneKind X.prog X.w).is none .none = true from rfl) D.low hm ?_
    rw [hf]
    exact ⟨.bl true, H, I.tok _, rfl, q⟩
end Cm

set_option linter.all false
/-! texts as nodes: words and brackets; how a text lays nodes out -/
namespace Cm
open PySem L2 PySem.Spec PyProof.Rows
inductive Nd where
  | w (s : Str)
  | l (ns : List Nd)
mutual
def Nd.toks : Nd → List Str
  | .w s => [s]
  | .l ns => ("(" : Str) :: (Nd.tokss ns ++ [(")" : Str)])
def Nd.tokss : List Nd → List Str
  | [] => []
  | n :: ns => n.toks ++ Nd.tokss ns
end
mutual
/-- how deep brackets stand in one another -/
def Nd.dep : Nd → Nat
  | .w _ => 0
  | .l ns => Nd.deps ns + 1
def Nd.deps : List Nd → Nat
  | [] => 0
  | n :: ns => max n.dep (Nd.deps ns)
end
def sep (c : Nat) : Bool := c == 32 || c == 10 || c == 40 || c == 41
def ofL (l : List Nat) : Str := ⟨l.toArray⟩
theorem cs_ofL (l : List Nat) : cs (ofL l) = l := by show l.toArray.toList = l; simp
theorem ofL_cs (s : Str) : ofL (cs s) = s := by cases s; show Str.mk _ = _; simp [cs]
theorem cs_inj {a b : Str} (h : cs a = cs b) : a = b := by rw [← ofL_cs a, ← ofL_cs b, h]
/-- a word: signs that part nothing -/
def wdOk (s : Str) : Prop := cs s ≠ [] ∧ ∀ c ∈ cs s, sep c = false ∧ 32 ≤ c ∧ c ≤ 126
instance (s : Str) : Decidable (wdOk s) := by unfold wdOk; infer_instance
mutual
def Nd.good : Nd → Prop
  | .w s => wdOk s
  | .l ns => Nd.goods ns
def Nd.goods : List Nd → Prop
  | [] => True
  | n :: ns => n.good ∧ Nd.goods ns
end
def blank (b : List Nat) : Prop := ∀ c ∈ b, c = 32 ∨ c = 10
inductive Lays : List Nat → List Nd → Prop
  | nil {b : List Nat} : blank b → Lays b []
  | word {b r : List Nat} {s : Str} {ns : List Nd} : blank b → wdOk s → (r = [] ∨ ∃ c r', r = c :: r' ∧ sep c = true) → Lays r ns → Lays (b ++ (cs s ++ r)) (.w s :: ns)
  | list {b m r : List Nat} {ms ns : List Nd} : blank b → Lays m ms → Lays r ns → Lays (b ++ (40 :: (m ++ (41 :: r)))) (.l ms :: ns)
/-! ### pieces -/
def stT (st : List Str × List Nat) (c : Nat) : List Str × List Nat :=
  if sep c = true then (st.1 ++ (if st.2 = [] then [] else [ofL st.2]) ++ (if c = 40 ∨ c = 41 then [ofL [c]] else []), []) else (st.1, st.2 ++ [c])
def runT (st : List Str × List Nat) (l : List Nat) : List Str × List Nat := l.foldl stT st
theorem runT_app (st : List Str × List Nat) (a b : List Nat) : runT st (a ++ b) = runT (runT st a) b := List.foldl_append
theorem runT_blank {b : List Nat} (h : blank b) (d : List Str) : runT (d, []) b = (d, []) := by
  induction b with
  | nil => rfl
  | cons c b ih =>
    have hc := h c List.mem_cons_self
    have e : stT (d, []) c = (d, []) := by
      rcases hc with rfl | rfl
      · show (if sep 32 = true then (d ++ [] ++ [], []) else _) = _
        rw [if_pos (by decide)]
        simp
      · show (if sep 10 = true then (d ++ [] ++ [], []) else _) = _
        rw [if_pos (by decide)]
        simp
    show runT (stT (d, []) c) b = _
    rw [e]
    exact ih fun x m => h x (List.mem_cons_of_mem _ m)
theorem runT_word : ∀ (l : List Nat) (d : List Str) (u : List Nat), (∀ c ∈ l, sep c = false) → runT (d, u) l = (d, u ++ l)
  | [], d, u, _ => by simp [runT]
  | c :: l, d, u, h => by
    have e : stT (d, u) c = (d, u ++ [c]) := if_neg (by rw [h c List.mem_cons_self]; exact Bool.false_ne_true)
    show runT (stT (d, u) c) l = _
    rw [e, runT_word l d (u ++ [c]) fun x m => h x (List.mem_cons_of_mem _ m), List.append_assoc]
    rfl
theorem stT_sep {d : List Str} {u : List Nat} {c : Nat} (h : sep c = true) (n : u ≠ []) : stT (d, u) c = stT (d ++ [ofL u], []) c := by
  unfold stT
  rw [if_pos h, if_pos h]
  simp [n]
theorem runT_lays {l : List Nat} {ns : List Nd} (h : Lays l ns) : ∀ (d : List Str) (c : Nat) (t : List Nat), sep c = true → runT (d, []) (l ++ c :: t) = runT (d ++ Nd.tokss ns, []) (c :: t) := by
  induction h with
  | nil hb =>
    intro d c t hc
    rw [runT_app, runT_blank hb]
    show _ = runT (d ++ [], []) (c :: t)
    rw [List.append_nil]
  | @word b r s ns hb hs hr _ ih =>
    intro d c t hc
    rw [List.append_assoc, List.append_assoc, runT_app, runT_blank hb, runT_app, runT_word (cs s) d [] (fun c m => (hs.2 c m).1), List.nil_append]
    have step : ∀ (c0 : Nat) (t0 : List Nat), sep c0 = true → runT (d, cs s) (c0 :: t0) = runT (d ++ [s], []) (c0 :: t0) := fun c0 t0 h0 => by
      show runT (stT (d, cs s) c0) t0 = runT (stT (d ++ [s], []) c0) t0
      rw [stT_sep h0 hs.1, ofL_cs]
    have e2 : d ++ Nd.tokss (.w s :: ns) = d ++ [s] ++ Nd.tokss ns := by
      show d ++ ([s] ++ Nd.tokss ns) = _
      rw [List.append_assoc]
    rw [e2]
    rcases hr with rfl | ⟨c0, r', rfl, h0⟩
    · rw [List.nil_append, step c t hc, ← List.nil_append (c :: t), ih (d ++ [s]) c t hc]
      rfl
    · rw [List.cons_append, step c0 _ h0, ← List.cons_append, ih (d ++ [s]) c t hc]
  | @list b m r ms ns hb _ _ ih1 ih2 =>
    intro d c t hc
    have e1 : b ++ (40 :: (m ++ (41 :: r))) ++ c :: t = b ++ (40 :: (m ++ (41 :: (r ++ c :: t)))) := by simp
    rw [e1, runT_app, runT_blank hb]
    have p1 : stT (d, []) 40 = (d ++ [("(" : Str)], []) := by
      unfold stT
      rw [if_pos (by decide), if_pos rfl, if_pos (.inl rfl), List.append_nil]
      rfl
    show runT (stT (d, []) 40) (m ++ (41 :: (r ++ c :: t))) = _
    rw [p1, ih1 _ 41 _ (by decide)]
    have p2 : ∀ d' : List Str, stT (d', []) 41 = (d' ++ [(")" : Str)], []) := fun d' => by
      unfold stT
      rw [if_pos (by decide), if_pos rfl, if_pos (.inr rfl), List.append_nil]
      rfl
    show runT (stT (d ++ [("(" : Str)] ++ Nd.tokss ms, []) 41) (r ++ c :: t) = _
    rw [p2, ih2 _ c t hc]
    congr 2
    show d ++ [("(" : Str)] ++ Nd.tokss ms ++ [(")" : Str)] ++ Nd.tokss ns = d ++ ((("(" : Str) :: (Nd.tokss ms ++ [(")" : Str)])) ++ Nd.tokss ns)
    simp
theorem pieces_lays {l : List Nat} {ns : List Nd} (h : Lays l ns) : (runT ([], []) (l ++ [32])).1 = Nd.tokss ns := by
  rw [runT_lays h [] 32 [] (by decide), List.nil_append]
  show ((Nd.tokss ns) ++ [] ++ []) = _
  simp
/-! ### brackets, signs -/
def brk : Nat → List Nat → Option Nat
  | d, [] => some d
  | d, c :: r => if c = 40 then (if d = 30 then none else brk (d + 1) r) else if c = 41 then (if d = 0 then none else brk (d - 1) r) else brk d r
theorem brk_blank {b : List Nat} (h : ∀ c ∈ b, c ≠ 40 ∧ c ≠ 41) (d : Nat) (t : List Nat) : brk d (b ++ t) = brk d t := by
  induction b with
  | nil => rfl
  | cons c b ih =>
    have hc := h c List.mem_cons_self
    show (if c = 40 then _ else if c = 41 then _ else brk d (b ++ t)) = _
    rw [if_neg hc.1, if_neg hc.2]
    exact ih fun x m => h x (List.mem_cons_of_mem _ m)
theorem brk_lays {l : List Nat} {ns : List Nd} (h : Lays l ns) : ∀ (d : Nat) (t : List Nat), Nd.deps ns + d ≤ 30 → brk d (l ++ t) = brk d t := by
  have bl : ∀ {b : List Nat}, blank b → ∀ c ∈ b, c ≠ 40 ∧ c ≠ 41 := fun hb c m => by rcases hb c m with rfl | rfl <;> decide
  induction h with
  | nil hb => intro d t _; exact brk_blank (bl hb) d t
  | @word b r s ns hb hs _ _ ih =>
    intro d t hd
    have hd' : max 0 (Nd.deps ns) + d ≤ 30 := hd
    rw [List.append_assoc, List.append_assoc, brk_blank (bl hb), brk_blank, ih d t (by omega)]
    intro c m
    have := (hs.2 c m).1
    constructor
    · rintro rfl; exact absurd this (by decide)
    · rintro rfl; exact absurd this (by decide)
  | @list b m r ms ns hb _ _ ih1 ih2 =>
    intro d t hd
    have hd' : max (Nd.deps ms + 1) (Nd.deps ns) + d ≤ 30 := hd
    have e1 : b ++ (40 :: (m ++ (41 :: r))) ++ t = b ++ (40 :: (m ++ (41 :: (r ++ t)))) := by simp
    rw [e1, brk_blank (bl hb)]
    show (if (40 : Nat) = 40 then (if d = 30 then none else brk (d + 1) (m ++ (41 :: (r ++ t)))) else _) = _
    rw [if_pos rfl, if_neg (by omega), ih1 (d + 1) _ (by omega)]
    show (if (41 : Nat) = 40 then _ else if (41 : Nat) = 41 then (if d + 1 = 0 then none else brk (d + 1 - 1) (r ++ t)) else _) = _
    rw [if_neg (by decide), if_pos rfl, if_neg (by omega), Nat.add_sub_cancel, ih2 d t (by omega)]
def sgnOk (c : Nat) : Prop := c = 10 ∨ (32 ≤ c ∧ c ≤ 126)
theorem sgn_lays {l : List Nat} {ns : List Nd} (h : Lays l ns) : ∀ c ∈ l, sgnOk c := by
  have bl : ∀ {b : List Nat}, blank b → ∀ c ∈ b, sgnOk c := fun hb c m => by
    rcases hb c m with rfl | rfl
    · exact .inr (by decide)
    · exact .inl rfl
  induction h with
  | nil hb => exact bl hb
  | @word b r s ns hb hs _ _ ih =>
    intro c m
    rcases List.mem_append.mp m with m | m
    · exact bl hb c m
    rcases List.mem_append.mp m with m | m
    · exact .inr (hs.2 c m).2
    · exact ih c m
  | @list b m' r ms ns hb _ _ ih1 ih2 =>
    intro c m
    rcases List.mem_append.mp m with m | m
    · exact bl hb c m
    rcases List.mem_cons.mp m with rfl | m
    · exact .inr (by decide)
    rcases List.mem_append.mp m with m | m
    · exact ih1 c m
    rcases List.mem_cons.mp m with rfl | m
    · exact .inr (by decide)
    · exact ih2 c m
theorem good_lays {l : List Nat} {ns : List Nd} (h : Lays l ns) : Nd.goods ns := by
  induction h with
  | nil _ => trivial
  | word _ hs _ _ ih => exact ⟨hs, ih⟩
  | list _ _ _ ih1 ih2 => exact ⟨ih1, ih2⟩
/-! ### the rows that stand open -/
def stO : List (List Nd) → Str → Option (List (List Nd))
  | [], _ => none
  | s :: r, k => if k = "(" then some ([] :: s :: r) else if k = ")" then (match r with | [] => none | p :: r' => some ((p ++ [.l s]) :: r')) else some ((s ++ [.w k]) :: r)
theorem stO_eq (s : List Nd) (r : List (List Nd)) (k : Str) : stO (s :: r) k = if k = ("(" : Str) then some ([] :: s :: r) else if k = (")" : Str) then (match r with | [] => none | p :: r' => some ((p ++ [.l s]) :: r')) else some ((s ++ [.w k]) :: r) := rfl
def runO : List (List Nd) → List Str → Option (List (List Nd))
  | st, [] => some st
  | st, k :: ks => (stO st k).bind fun st' => runO st' ks
theorem runO_app : ∀ (a : List Str) (st : List (List Nd)) (b : List Str), runO st (a ++ b) = (runO st a).bind fun st' => runO st' b
  | [], _, _ => rfl
  | k :: a, st, b => by
    show (stO st k).bind (fun st' => runO st' (a ++ b)) = ((stO st k).bind fun st' => runO st' a).bind fun st' => runO st' b
    cases stO st k with
    | none => rfl
    | some st' => exact runO_app a st' b
theorem wd_no {s : Str} (h : wdOk s) : s ≠ "(" ∧ s ≠ ")" := by
  have e1 : cs ("(" : Str) = [40] := by decide +kernel
  have e2 : cs (")" : Str) = [41] := by decide +kernel
  constructor
  · rintro rfl
    have := (h.2 40 (by rw [e1]; exact List.mem_cons_self)).1
    exact absurd this (by decide)
  · rintro rfl
    have := (h.2 41 (by rw [e2]; exact List.mem_cons_self)).1
    exact absurd this (by decide)
mutual
theorem runO_nd : ∀ (n : Nd), n.good → ∀ (s : List Nd) (r : List (List Nd)) (t : List Str), runO (s :: r) (n.toks ++ t) = runO ((s ++ [n]) :: r) t
  | .w k, h, s, r, t => by
    show (stO (s :: r) k).bind (fun st' => runO st' t) = _
    have z := wd_no h
    have e : stO (s :: r) k = some ((s ++ [.w k]) :: r) := by
      rw [stO_eq, if_neg z.1, if_neg z.2]
    rw [e]
    rfl
  | .l ns, h, s, r, t => by
    have h' : Nd.goods ns := h
    have e : (Nd.l ns).toks ++ t = ("(" : Str) :: (Nd.tokss ns ++ ((")" : Str) :: t)) := by
      show (("(" : Str) :: (Nd.tokss ns ++ [(")" : Str)])) ++ t = _
      simp
    rw [e]
    have e1 : stO (s :: r) "(" = some ([] :: s :: r) := by
      rw [stO_eq, if_pos rfl]
    show (stO (s :: r) "(").bind (fun st' => runO st' (Nd.tokss ns ++ ((")" : Str) :: t))) = _
    rw [e1]
    show runO ([] :: s :: r) (Nd.tokss ns ++ ((")" : Str) :: t)) = _
    rw [runO_nds ns h' [] (s :: r) _, List.nil_append]
    have e2 : stO (ns :: s :: r) ")" = some ((s ++ [.l ns]) :: r) := by
      rw [stO_eq, if_neg (by decide +kernel), if_pos rfl]
    show (stO (ns :: s :: r) ")").bind (fun st' => runO st' t) = _
    rw [e2]
    rfl
theorem runO_nds : ∀ (ns : List Nd), Nd.goods ns → ∀ (s : List Nd) (r : List (List Nd)) (t : List Str), runO (s :: r) (Nd.tokss ns ++ t) = runO ((s ++ ns) :: r) t
  | [], _, s, r, t => by
    show runO (s :: r) t = _
    rw [List.append_nil]
  | n :: ns, h, s, r, t => by
    have h' : n.good ∧ Nd.goods ns := h
    show runO (s :: r) ((n.toks ++ Nd.tokss ns) ++ t) = _
    rw [List.append_assoc, runO_nd n h'.1, runO_nds ns h'.2, List.append_assoc]
    rfl
end
theorem runO_all {ns : List Nd} (h : Nd.goods ns) : runO [[]] (Nd.tokss ns) = some [ns] := by
  have := runO_nds ns h [] [] []
  rw [List.append_nil] at this
  exact this
theorem runO_take {st : List (List Nd)} {ks : List Str} {z : List (List Nd)} (h : runO st ks = some z) (i : Nat) : ∃ s, runO st (ks.take i) = some s ∧ runO s (ks.drop i) = some z := by
  rw [← List.take_append_drop i ks, runO_app] at h
  obtain ⟨s, e1, e2⟩ := Option.bind_eq_some_iff.mp h
  exact ⟨s, e1, e2⟩
end Cm

set_option linter.all false
/-! the names of a row that pass a test, as a comprehension -/
namespace Cm
open PySem L2 PySem.Spec PyProof.Rows
theorem range_filtS (p : Str → Bool) (l : List Str) : (List.range l.length).filterMap (fun i => (l[i]?).bind fun x => if p x = true then some (PyData.str x) else none) = (l.filter p).map PyData.str := by
  induction l with
  | nil => rfl
  | cons a l ih =>
    rw [List.length_cons, List.range_succ_eq_map, List.filterMap_cons]
    simp only [List.getElem?_cons_zero, Option.bind_some, List.filterMap_map]
    have e : List.filterMap ((fun i => ((a :: l)[i]?).bind fun x => if p x = true then some (PyData.str x) else none) ∘ Nat.succ) (List.range l.length) = (l.filter p).map PyData.str := by
      rw [← ih]
      rfl
    rw [e]
    by_cases q : p a = true
    · rw [if_pos q, List.filter_cons_of_pos q]
      rfl
    · rw [if_neg q, List.filter_cons_of_neg q]
theorem lc_filt {K : PySem.W.Frag} {J : It} {G : Hp → Prop} (l : List Str) (p : Str → Bool) (wk : Walk J (l.map V.str).length G (YAt (l.map V.str))) {g : TG} {tt : TT} {te : TE} {vs : List Nat} {σ : L2.St} {H1 : Hp} {D : Addr} {Qd : Hp → Prop}
    (hD : H1 D = Option.none) (hn : l.length ≤ 100000) (hG : ∀ H, Same H1 H → G H)
    (hs : ∀ y H, y ∈ l → Same H1 H → ∀ (Q1 : VK) (Q0 : Hp → Prop), (∀ H4, Same H H4 → p y = true → Q1 (.str y) H4) → (∀ H4, Same H H4 → p y = false → Q0 H4) →
      g (.str y) (wipe σ vs) H fun σ2 H2 => wipe σ2 vs = wipe σ vs ∧ tt σ2 H2 fun b H3 => if b = true then te σ2 H3 Q1 else Q0 H3)
    (hd : ∀ H, Same H1 H → H D = some (.lst ((l.filter p).map V.str)) → Qd H) :
    ∃ W : Nat → Nat → Hp → Prop, (∃ m, W 0 m (upd H1 D (.lst []))) ∧ ∀ i m H, W i m H →
      (J.stop i H ∧ Qd H) ∨ (J.go i H ∧ ∃ Nx : Hp → Prop, (∀ H', Nx H' → ∃ m', m' < m ∧ W (i + 1) m' H') ∧ ∀ x H', J.yld i H x H' → g x (wipe σ vs) H' fun σ2 H2 => wipe σ2 vs = wipe σ vs ∧ tt σ2 H2 fun b H3 =>
        if b = true then te σ2 H3 fun y H4 => ∃ acc, H4 D = some (.lst acc) ∧ acc.length < sizeLine ∧ Nx (upd H4 D (.lst (acc ++ [y]))) else Nx H3) := by
  refine lc_data (K := K) wk (fun i => (l[i]?).bind fun x => if p x = true then some (.str x) else none) hD (by rw [List.length_map]; exact hn) hG (fun i _ d e => ?_) ?_ ?_
  · obtain ⟨b, _, e⟩ := Option.bind_eq_some_iff.mp e
    split at e
    · cases e; rfl
    · cases e
  · rintro i x H H' hi s ⟨rfl, ex⟩ Q1 Q0 q1 q0
    obtain ⟨y, ey, rfl⟩ := map_at ex
    refine hs y _ (List.mem_of_getElem? ey) s Q1 Q0 (fun H4 s4 z => q1 _ _ (.str y) (by rw [ey]; exact if_pos z) s4 (.str y)) (fun H4 s4 z => q0 _ (by rw [ey]; exact if_neg (by rw [z]; exact Bool.false_ne_true)) s4)
  · intro H acc s hacc ha
    rw [List.length_map, range_filtS p] at ha
    have := dpAll_strs_inv ha
    subst this
    exact hd H s hacc
/-- is a name in a row of names -/
theorem in_strs {l : List Str} {y : Str} {A B : Prop} (t : y ∈ l → A) (f : y ∉ l → B) : if inV (.str y) (l.map V.str) = true then A else B := by
  rw [in_words]
  by_cases z : y ∈ l
  · rw [decide_eq_true z]
    exact (if_pos rfl).mpr (t z)
  · rw [decide_eq_false z]
    exact (if_neg Bool.false_ne_true).mpr (f z)
theorem nin_strs {l : List Str} {y : Str} {A B : Prop} (t : y ∉ l → A) (f : y ∈ l → B) : if (!inV (.str y) (l.map V.str)) = true then A else B := by
  rw [in_words]
  by_cases z : y ∈ l
  · rw [decide_eq_true z]
    exact (if_neg Bool.false_ne_true).mpr (f z)
  · rw [decide_eq_false z]
    exact (if_pos rfl).mpr (t z)
end Cm

set_option linter.all false
/-! nodes as they lie: tuples of a place and a word or a list -/
namespace Cm
open PySem L2 PySem.Spec PyProof.Rows
theorem take_snoc {α : Type} {xs : List α} {m : Nat} {y : α} (h : xs[m]? = some y) : xs.take (m + 1) = xs.take m ++ [y] := by
  rw [List.take_succ, h]
  rfl
mutual
def NdV (K : PySem.W.Frag) (H : Hp) (S : Addr → Prop) : Nd → V → Prop
  | .w s, v => ∃ (t : Addr) (p : Int), v = .ref t ∧ SqT K H t [.int p, .str s]
  | .l ns, v => ∃ (t : Addr) (p : Int) (L : Addr) (vs : List V), v = .ref t ∧ SqT K H t [.int p, .ref L] ∧ S L ∧ H L = some (.lst vs) ∧ NdsV K H S ns vs
def NdsV (K : PySem.W.Frag) (H : Hp) (S : Addr → Prop) : List Nd → List V → Prop
  | [], vs => vs = []
  | n :: ns, vs => ∃ (v : V) (r : List V), vs = v :: r ∧ NdV K H S n v ∧ NdsV K H S ns r
end
mutual
theorem NdV.keep {K : PySem.W.Frag} {H H' : Hp} {S S' : Addr → Prop} (ht : ∀ a xs, SqT K H a xs → SqT K H' a xs) (hl : ∀ L vs, S L → H L = some (.lst vs) → S' L ∧ H' L = some (.lst vs)) : ∀ (n : Nd) (v : V), NdV K H S n v → NdV K H' S' n v
  | .w s, v, h => by
    obtain ⟨t, p, e, q⟩ := h
    exact ⟨t, p, e, ht _ _ q⟩
  | .l ns, v, h => by
    obtain ⟨t, p, L, vs, e, q, sl, el, r⟩ := h
    have z := hl L vs sl el
    exact ⟨t, p, L, vs, e, ht _ _ q, z.1, z.2, NdsV.keep ht hl ns vs r⟩
theorem NdsV.keep {K : PySem.W.Frag} {H H' : Hp} {S S' : Addr → Prop} (ht : ∀ a xs, SqT K H a xs → SqT K H' a xs) (hl : ∀ L vs, S L → H L = some (.lst vs) → S' L ∧ H' L = some (.lst vs)) : ∀ (ns : List Nd) (vs : List V), NdsV K H S ns vs → NdsV K H' S' ns vs
  | [], vs, h => h
  | n :: ns, vs, h => by
    obtain ⟨v, r, e, a, b⟩ := h
    exact ⟨v, r, e, NdV.keep ht hl n v a, NdsV.keep ht hl ns r b⟩
end
theorem NdsV.snoc {K : PySem.W.Frag} {H : Hp} {S : Addr → Prop} {n : Nd} {v : V} (a : NdV K H S n v) : ∀ {ns : List Nd} {vs : List V}, NdsV K H S ns vs → NdsV K H S (ns ++ [n]) (vs ++ [v])
  | [], vs, h => by
    have h' : vs = [] := h
    subst h'
    exact ⟨v, [], rfl, a, rfl⟩
  | m :: ns, vs, h => by
    obtain ⟨u, r, rfl, b, q⟩ := h
    exact ⟨u, r ++ [v], rfl, b, NdsV.snoc a q⟩
theorem NdsV.len {K : PySem.W.Frag} {H : Hp} {S : Addr → Prop} : ∀ {ns : List Nd} {vs : List V}, NdsV K H S ns vs → vs.length = ns.length
  | [], vs, h => by rw [show vs = [] from h]; rfl
  | n :: ns, vs, h => by
    obtain ⟨v, r, rfl, _, q⟩ := h
    exact congrArg (· + 1) (NdsV.len q)
theorem NdsV.at {K : PySem.W.Frag} {H : Hp} {S : Addr → Prop} : ∀ {ns : List Nd} {vs : List V} {i : Nat} {v : V}, NdsV K H S ns vs → vs[i]? = some v → ∃ n, ns[i]? = some n ∧ NdV K H S n v
  | [], vs, i, v, h, e => by rw [show vs = [] from h] at e; cases e
  | n :: ns, vs, i, v, h, e => by
    obtain ⟨u, r, rfl, a, q⟩ := h
    cases i with
    | zero => cases e; exact ⟨n, rfl, a⟩
    | succ i =>
        obtain ⟨m, a, b⟩ := NdsV.at (ns := ns) (i := i) q (show r[i]? = some v from e)
        exact ⟨m, a, b⟩
theorem NdsV.drop {K : PySem.W.Frag} {H : Hp} {S : Addr → Prop} : ∀ {ns : List Nd} {vs : List V} (k : Nat), NdsV K H S ns vs → NdsV K H S (ns.drop k) (vs.drop k)
  | _, _, 0, h => h
  | [], vs, k + 1, h => by rw [show vs = [] from h]; exact (rfl : ([] : List V) = [])
  | n :: ns, vs, k + 1, h => by
    obtain ⟨u, r, rfl, a, q⟩ := h
    exact NdsV.drop k q
/-! ### the rows that stand open -/
def chV (K : PySem.W.Frag) (H : Hp) : Option Addr → List V → Prop
  | none, e => e = []
  | some c, e => ∃ (t : Addr) (p : Int), e = [.ref t] ∧ SqT K H t [.int p, .ref c]
def LvV (K : PySem.W.Frag) (H : Hp) (S : Addr → Prop) (R : Addr) : Option Addr → List (List Nd) → List Addr → Prop
  | _, [], Ls => Ls = []
  | ch, s :: r, Ls => ∃ (L : Addr) (Lr : List Addr) (vs e : List V), Ls = L :: Lr ∧ H L = some (.lst (vs ++ e)) ∧ NdsV K H S s vs ∧ chV K H ch e ∧ ¬ S L ∧ L ≠ R ∧ L ∉ Lr ∧ LvV K H S R (some L) r Lr
theorem chV.keep {K : PySem.W.Frag} {H H' : Hp} (ht : ∀ a xs, SqT K H a xs → SqT K H' a xs) : ∀ {ch : Option Addr} {e : List V}, chV K H ch e → chV K H' ch e
  | none, e, h => h
  | some c, e, h => by
    obtain ⟨t, p, a, b⟩ := h
    exact ⟨t, p, a, ht _ _ b⟩
theorem LvV.keep {K : PySem.W.Frag} {H H' : Hp} {S S' : Addr → Prop} {R : Addr} (ht : ∀ a xs, SqT K H a xs → SqT K H' a xs) (hl : ∀ L vs, S L → H L = some (.lst vs) → S' L ∧ H' L = some (.lst vs)) :
    ∀ {st : List (List Nd)} {ch : Option Addr} {Ls : List Addr}, (∀ L ∈ Ls, ∀ vs, H L = some (.lst vs) → H' L = some (.lst vs)) → (∀ L ∈ Ls, ¬ S L → ¬ S' L) → LvV K H S R ch st Ls → LvV K H' S' R ch st Ls
  | [], ch, Ls, _, _, h => h
  | s :: r, ch, Ls, k, ns, h => by
    obtain ⟨L, Lr, vs, e, rfl, a, b, c, d, f, g, i⟩ := h
    exact ⟨L, Lr, vs, e, rfl, k L List.mem_cons_self _ a, NdsV.keep ht hl s vs b, chV.keep ht c, ns L List.mem_cons_self d, f, g, LvV.keep ht hl (fun x m => k x (List.mem_cons_of_mem _ m)) (fun x m => ns x (List.mem_cons_of_mem _ m)) i⟩
theorem LvV.there {K : PySem.W.Frag} {H : Hp} {S : Addr → Prop} {R : Addr} : ∀ {st : List (List Nd)} {ch : Option Addr} {Ls : List Addr}, LvV K H S R ch st Ls → ∀ L ∈ Ls, ∃ ws, H L = some (.lst ws)
  | [], ch, Ls, h, L, m => by rw [show Ls = [] from h] at m; cases m
  | s :: r, ch, Ls, h, L, m => by
    obtain ⟨L', Lr, vs, e, rfl, a, _, _, _, _, _, i⟩ := h
    rcases List.mem_cons.mp m with rfl | m
    · exact ⟨_, a⟩
    · exact LvV.there i L m
end Cm

set_option linter.all false
/-! trees that can be read; the nodes that are read as a tree; how their text lies -/
namespace Cm
open PySem L2 PySem.Spec PyProof.Rows
def keptW : List Str := ["true", "false", "none", "fn", "let", "rec", "set", "if", "do", "keep", "once", "take", "mark", "wind", "show", "ask", "quot", "rem", "pair", "left", "right"]
def consW : List Str := ["true", "false", "none"]
def funW : List Str := ["fn", "take", "wind"]
def op2W : List Str := ["+", "-", "*", "quot", "rem", "<", "=", "same?", "pair", "left!", "right!"]
def op1W : List Str := ["left", "right", "pair?", "none?", "rest?", "fun?"]
def nmOk (x : Str) : Prop := sok x ∧ x.length ≤ 12 ∧ (∃ c r, cs x = c :: r ∧ 97 ≤ c ∧ c ≤ 122) ∧ (∀ c ∈ cs x, (97 ≤ c ∧ c ≤ 122) ∨ (48 ≤ c ∧ c ≤ 57) ∨ c = 45) ∧ x ∉ keptW
def numS (i : Int) : Str := Str.ofString (toString i)
def rgH : Hd → Nat → Prop
  | .num i, _ => i.natAbs ≤ 1000000000
  | .name x, _ => nmOk x
  | .lit _, _ => True
  | .one _ x, _ => nmOk x
  | .fn xs, _ => xs.length ≤ 8 ∧ ∀ x ∈ xs, nmOk x
  | .bind _ xs, _ => 1 ≤ xs.length ∧ xs.length ≤ 10 ∧ ∀ x ∈ xs, nmOk x
  | .doo, n => 1 ≤ n ∧ n ≤ 10
  | .call, n => 1 ≤ n ∧ n ≤ 11
  | .op o, n => (o ∈ op2W ∧ n = 2) ∨ (o ∈ op1W ∧ n = 1)
  | .plain w, n => n = (if w = "if" ∨ w = "wind" then 3 else 1)
def isFnT : Tr → Bool
  | .mk (.fn _) _ => true
  | _ => false
def recH : Hd → List Tr → Prop
  | .bind w xs, ps => w = "rec" → ∀ t ∈ ps.take xs.length, isFnT t = true
  | _, _ => True
mutual
def Tr.rg : Tr → Prop
  | .mk h ps => rgH h ps.length ∧ recH h ps ∧ Tr.rgs ps
def Tr.rgs : List Tr → Prop
  | [] => True
  | t :: ts => t.rg ∧ Tr.rgs ts
end
theorem rgs_iff : ∀ {ps : List Tr}, Tr.rgs ps ↔ ∀ t ∈ ps, t.rg
  | [] => by simp [Tr.rgs]
  | t :: ts => by
    show t.rg ∧ Tr.rgs ts ↔ _
    rw [rgs_iff]
    simp
def rowN (x : Str) (n : Nd) : Nd := .l [.w x, n]
def rowsN (xs : List Str) (ms : List Nd) : List Nd := (xs.zip ms).map fun r => rowN r.1 r.2
mutual
inductive Rd : Tr → Nd → Prop
  | num (i : Int) : Rd (.mk (.num i) []) (.w (numS i))
  | name (x : Str) : Rd (.mk (.name x) []) (.w x)
  | lit (w : Str) : w ∈ consW → Rd (.mk (.lit w) []) (.w w)
  | ask : Rd (.mk (.lit "ask") []) (.l [.w "ask"])
  | one (w x : Str) (t : Tr) (n : Nd) : Rd t n → Rd (.mk (.one w x) [t]) (.l [.w w, .w x, n])
  | fn (xs : List Str) (t : Tr) (ns : List Nd) : Bd t ns → ns.length ≤ 9 → Rd (.mk (.fn xs) [t]) (.l (.w "fn" :: .l (xs.map Nd.w) :: ns))
  | bind (w : Str) (xs : List Str) (ps : List Tr) (t : Tr) (ms ns : List Nd) : Rds ps ms → ps.length = xs.length → Bd t ns → ns.length ≤ 9 → Rd (.mk (.bind w xs) (ps ++ [t])) (.l (.w w :: .l (rowsN xs ms) :: ns))
  | doo (ps : List Tr) (ns : List Nd) : Rds ps ns → Rd (.mk .doo ps) (.l (.w "do" :: ns))
  | call (ps : List Tr) (ns : List Nd) : Rds ps ns → Rd (.mk .call ps) (.l ns)
  | op (o : Str) (ps : List Tr) (ns : List Nd) : Rds ps ns → Rd (.mk (.op o) ps) (.l (.w o :: ns))
  | plain (w : Str) (ps : List Tr) (ns : List Nd) : Rds ps ns → Rd (.mk (.plain w) ps) (.l (.w w :: ns))
inductive Rds : List Tr → List Nd → Prop
  | nil : Rds [] []
  | cons (t : Tr) (n : Nd) (ts : List Tr) (ns : List Nd) : Rd t n → Rds ts ns → Rds (t :: ts) (n :: ns)
inductive Bd : Tr → List Nd → Prop
  | one (t : Tr) (n : Nd) : Rd t n → Bd t [n]
  | bare (ps : List Tr) (ns : List Nd) : Rds ps ns → 2 ≤ ps.length → ps.length ≤ 10 → Bd (.mk .doo ps) ns
end
theorem Rds.len : ∀ {ts : List Tr} {ns : List Nd}, Rds ts ns → ns.length = ts.length
  | [], _, h => by cases h; rfl
  | t :: ts, _, h => by
    cases h with
    | cons _ n _ ns a b => exact congrArg (· + 1) (Rds.len b)
theorem Rds.app : ∀ {ts us : List Tr} {ns ms : List Nd}, Rds ts ns → Rds us ms → Rds (ts ++ us) (ns ++ ms)
  | [], _, _, _, h, k => by cases h; exact k
  | t :: ts, _, _, _, h, k => by
    cases h with
    | cons _ n _ ns a b => exact .cons _ _ _ _ a (Rds.app b k)
theorem Rds.one {t : Tr} {n : Nd} (h : Rd t n) : Rds [t] [n] := .cons _ _ _ _ h .nil
theorem Bd.len {t : Tr} {ns : List Nd} (h : Bd t ns) : 1 ≤ ns.length ∧ ns.length ≤ 10 := by
  cases h with
  | one => exact ⟨Nat.le_refl _, Nat.le_of_ble_eq_true rfl⟩
  | bare ps _ a b c => have := a.len; omega
/-! ### how deep nodes lie in one another -/
def dnH : Hd → Nat → Nat
  | .num _, _ => 0
  | .name _, _ => 0
  | .lit _, _ => 1
  | .fn _, d => max 1 d + 1
  | .bind _ _, d => d + 3
  | _, d => d + 1
mutual
def Tr.dn : Tr → Nat
  | .mk h ps => dnH h (Tr.dns ps)
def Tr.dns : List Tr → Nat
  | [] => 0
  | t :: ts => max t.dn (Tr.dns ts)
end
theorem dns_le {n : Nat} : ∀ {ps : List Tr}, Tr.dns ps ≤ n ↔ ∀ t ∈ ps, t.dn ≤ n
  | [] => by simp [Tr.dns]
  | t :: ts => by
    have := dns_le (n := n) (ps := ts)
    show max t.dn (Tr.dns ts) ≤ n ↔ _
    rw [Nat.max_le, this]
    simp
theorem dnH_mono {h : Hd} {a b : Nat} (k : a ≤ b) : dnH h a ≤ dnH h b := by
  cases h <;> simp only [dnH] <;> omega
theorem ndeps_le {n : Nat} : ∀ {ns : List Nd}, Nd.deps ns ≤ n ↔ ∀ m ∈ ns, m.dep ≤ n
  | [] => by simp [Nd.deps]
  | t :: ts => by
    have := ndeps_le (n := n) (ns := ts)
    show max t.dep (Nd.deps ts) ≤ n ↔ _
    rw [Nat.max_le, this]
    simp
theorem deps_words (xs : List Str) : Nd.deps (xs.map Nd.w) = 0 := Nat.le_zero.mp (ndeps_le.mpr fun m h => by
  obtain ⟨x, _, rfl⟩ := List.mem_map.mp h
  exact Nat.le_refl _)
theorem deps_rows {xs : List Str} {ms : List Nd} : Nd.deps (rowsN xs ms) ≤ Nd.deps ms + 1 := ndeps_le.mpr fun m h => by
  obtain ⟨r, hr, rfl⟩ := List.mem_map.mp h
  have hm := (List.of_mem_zip (show (r.1, r.2) ∈ xs.zip ms from hr)).2
  have := (ndeps_le (ns := ms)).mp (Nat.le_refl _) _ hm
  show max 0 (max r.2.dep 0) + 1 ≤ _
  omega
theorem dns_app (as bs : List Tr) : Tr.dns (as ++ bs) = max (Tr.dns as) (Tr.dns bs) := by
  induction as with
  | nil => show Tr.dns bs = max 0 _; omega
  | cons a as ih => show max a.dn (Tr.dns (as ++ bs)) = max (max a.dn (Tr.dns as)) _; rw [ih]; omega
theorem Rd.dn {t : Tr} {n : Nd} (h : Rd t n) : n.dep ≤ t.dn := by
  refine Rd.rec (motive_1 := fun t n _ => n.dep ≤ t.dn) (motive_2 := fun ts ns _ => Nd.deps ns ≤ Tr.dns ts) (motive_3 := fun t ns _ => Nd.deps ns ≤ t.dn) ?_ ?_ ?_ ?_ ?_ ?_ ?_ ?_ ?_ ?_ ?_ ?_ ?_ ?_ ?_ h
  · intro i; exact Nat.le_refl _
  · intro x; exact Nat.le_refl _
  · intro w _; exact Nat.zero_le _
  · exact Nat.le_refl _
  · intro w x t n _ ih
    show max 0 (max 0 (max n.dep 0)) + 1 ≤ max t.dn 0 + 1
    omega
  · intro xs t ns _ _ ih
    show max 0 (max (Nd.deps (xs.map Nd.w) + 1) (Nd.deps ns)) + 1 ≤ max 1 (max t.dn 0) + 1
    rw [deps_words]
    omega
  · intro w xs ps t ms ns _ _ _ _ i1 i2
    have := deps_rows (xs := xs) (ms := ms)
    show max 0 (max (Nd.deps (rowsN xs ms) + 1) (Nd.deps ns)) + 1 ≤ Tr.dns (ps ++ [t]) + 3
    rw [dns_app]
    show _ ≤ max (Tr.dns ps) (max t.dn 0) + 3
    omega
  · intro ps ns _ ih
    show max 0 (Nd.deps ns) + 1 ≤ Tr.dns ps + 1
    omega
  · intro ps ns _ ih
    show Nd.deps ns + 1 ≤ Tr.dns ps + 1
    omega
  · intro o ps ns _ ih
    show max 0 (Nd.deps ns) + 1 ≤ Tr.dns ps + 1
    omega
  · intro o ps ns _ ih
    show max 0 (Nd.deps ns) + 1 ≤ Tr.dns ps + 1
    omega
  · exact Nat.le_refl _
  · intro t n ts ns _ _ i1 i2
    show max n.dep (Nd.deps ns) ≤ max t.dn (Tr.dns ts)
    omega
  · intro t n _ ih
    show max n.dep 0 ≤ t.dn
    omega
  · intro ps ns _ _ _ ih
    show Nd.deps ns ≤ Tr.dns ps + 1
    omega
theorem Bd.dn {t : Tr} {ns : List Nd} (h : Bd t ns) : Nd.deps ns ≤ t.dn := by
  cases h with
  | one t n a => show max n.dep 0 ≤ t.dn; have := a.dn; omega
  | bare ps ns a b c =>
    have : ∀ {ts : List Tr} {ns : List Nd}, Rds ts ns → Nd.deps ns ≤ Tr.dns ts := fun {ts} => by
      induction ts with
      | nil => intro ns h; cases h; exact Nat.le_refl _
      | cons t ts ih =>
        intro ns h
        cases h with
        | cons _ n _ ns a b =>
          have := a.dn
          have := ih b
          show max n.dep (Nd.deps ns) ≤ max t.dn (Tr.dns ts)
          omega
    have := this a
    show Nd.deps ns ≤ Tr.dns ps + 1
    omega
/-! ### numbers as words -/
theorem num_cs (i : Int) : cs (numS i) = (if i < 0 then [45] else []) ++ TL.numL i.natAbs := by
  cases i with
  | ofNat n =>
    have : ¬ (Int.ofNat n < 0) := by have : (0 : Int) ≤ Int.ofNat n := Int.natCast_nonneg n; omega
    rw [if_neg this]
    exact TL.tl_num n
  | negSucc n =>
    rw [if_pos (Int.negSucc_lt_zero n)]
    show _ = 45 :: TL.numL (n + 1)
    rw [← TL.tl_num (n + 1)]
    show (Str.ofString (toString (Int.negSucc n))).cps.toList = 45 :: (Str.ofString (toString (((n + 1 : Nat)) : Int))).cps.toList
    have e1 : toString (Int.negSucc n) = "-" ++ Nat.repr (n + 1) := rfl
    have e2 : toString (((n + 1 : Nat)) : Int) = Nat.repr (n + 1) := rfl
    rw [e1, e2, Str.ofString_eq_toList, Str.ofString_eq_toList, String.toList_append]
    rfl
theorem num_has (i : Int) : ∃ c ∈ cs (numS i), 48 ≤ c ∧ c ≤ 57 := by
  rw [num_cs]
  have ne := TL.numL_ne i.natAbs
  cases e : TL.numL i.natAbs with
  | nil => exact absurd e ne
  | cons c r => exact ⟨c, List.mem_append.mpr (.inr List.mem_cons_self), TL.numL_digits i.natAbs c (by rw [e]; exact List.mem_cons_self)⟩
theorem num_no {i : Int} {s : Str} (h : (cs s).all (fun c => decide (c < 48 ∨ 57 < c)) = true) : numS i ≠ s := by
  rintro rfl
  obtain ⟨c, m, h1, h2⟩ := num_has i
  have := of_decide_eq_true (List.all_eq_true.mp h c m)
  omega
theorem num_len {i : Int} (h : i.natAbs ≤ 1000000000) : (numS i).length ≤ 11 := by
  rw [len_cs]
  exact (cs_num i).2.2 h
theorem num_wd (i : Int) : wdOk (numS i) := by
  refine ⟨(cs_num i).1, fun c m => ?_⟩
  have := (cs_num i).2.1 c m
  have hs : sep c = false := by
    unfold sep
    have h1 : c ≠ 32 ∧ c ≠ 10 ∧ c ≠ 40 ∧ c ≠ 41 := by omega
    simp [h1]
  exact ⟨hs, by omega, by omega⟩
theorem nm_wd {x : Str} (h : nmOk x) : wdOk x := by
  obtain ⟨_, _, ⟨c, r, e, _⟩, al, _⟩ := h
  refine ⟨(by rw [e]; exact fun z => by cases z), fun c m => ?_⟩
  have := al c m
  have hs : sep c = false := by
    unfold sep
    have h1 : c ≠ 32 ∧ c ≠ 10 ∧ c ≠ 40 ∧ c ≠ 41 := by omega
    simp [h1]
  exact ⟨hs, by omega, by omega⟩
def headW : List Str := ["fn", "let", "rec", "set", "if", "do", "keep", "once", "take", "mark", "wind", "show", "ask", "+", "-", "*", "quot", "rem", "<", "=", "same?", "pair", "left!", "right!", "left", "right", "pair?", "none?", "rest?", "fun?"]
theorem nm_head {x : Str} (h : nmOk x) : x ∉ headW := by
  obtain ⟨_, _, ⟨c, r, e, h1, h2⟩, al, nk⟩ := h
  intro m
  have key : ∀ y ∈ headW, y ∈ keptW ∨ ¬ ((cs y).all fun c => decide ((97 ≤ c ∧ c ≤ 122) ∨ (48 ≤ c ∧ c ≤ 57) ∨ c = 45)) = true ∨ (cs y).headD 0 < 97 := by decide +kernel
  rcases key x m with z | z | z
  · exact nk z
  · exact z (List.all_eq_true.mpr fun c m => decide_eq_true (al c m))
  · rw [e] at z
    have z' : c < 97 := z
    omega
theorem fun_head : ∀ w ∈ funW, w ∈ headW := by decide +kernel
theorem num_head (i : Int) : numS i ∉ headW := fun m => by
  have key : ∀ y ∈ headW, (cs y).all (fun c => decide (c < 48 ∨ 57 < c)) = true := by decide +kernel
  exact num_no (key _ m) rfl
theorem cons_head : ∀ w ∈ consW, w ∉ headW := by decide +kernel
/-- a word that is read as a tree -/
theorem rd_word {t : Tr} {s : Str} (h : Rd t (.w s)) (g : t.rg) : s ∉ headW := by
  cases h with
  | num i => exact num_head i
  | name x => exact nm_head (show nmOk s from g.1)
  | lit w m => exact cons_head _ m
/-! ### how many funs -/
def fst : List Nd → Option Str
  | .w s :: _ => some s
  | _ => none
def fun1 (ns : List Nd) : Nat := match fst ns with
  | some s => if s ∈ funW then 1 else 0
  | none => 0
mutual
def Nd.funs : Nd → Nat
  | .w _ => 0
  | .l ns => fun1 ns + Nd.funss ns
def Nd.funss : List Nd → Nat
  | [] => 0
  | n :: ns => n.funs + Nd.funss ns
end
def fwH : Hd → Nat
  | .fn _ => 1
  | .one w _ => if w = "take" then 1 else 0
  | .plain w => if w = "wind" then 1 else 0
  | _ => 0
mutual
def Tr.fw : Tr → Nat
  | .mk h ps => fwH h + Tr.fws ps
def Tr.fws : List Tr → Nat
  | [] => 0
  | t :: ts => t.fw + Tr.fws ts
end
theorem fws_app (as bs : List Tr) : Tr.fws (as ++ bs) = Tr.fws as + Tr.fws bs := by
  induction as with
  | nil => show Tr.fws bs = 0 + Tr.fws bs; omega
  | cons a as ih => show a.fw + Tr.fws (as ++ bs) = a.fw + Tr.fws as + _; rw [ih]; omega
theorem fun1_no {ns : List Nd} (h : ∀ s, fst ns = some s → s ∉ funW) : fun1 ns = 0 := by
  unfold fun1
  cases e : fst ns with
  | none => rfl
  | some s => exact if_neg (h s e)
theorem funs_words {xs : List Str} : Nd.funss (xs.map Nd.w) = 0 := by
  induction xs with
  | nil => rfl
  | cons x xs ih => show 0 + Nd.funss (xs.map Nd.w) = 0; omega
theorem funs_rows : ∀ {xs : List Str} {ms : List Nd}, (∀ x ∈ xs, nmOk x) → Nd.funss (rowsN xs ms) ≤ Nd.funss ms
  | [], _, _ => Nat.zero_le _
  | _ :: _, [], _ => Nat.zero_le _
  | x :: xs, m :: ms, h => by
    have ih := funs_rows (xs := xs) (ms := ms) fun y my => h y (List.mem_cons_of_mem _ my)
    have hx : fun1 [.w x, m] = 0 := fun1_no fun s e => by
      cases e
      exact fun z => nm_head (h x List.mem_cons_self) (fun_head _ z)
    show fun1 [.w x, m] + (0 + (m.funs + 0)) + Nd.funss (rowsN xs ms) ≤ m.funs + Nd.funss ms
    omega
theorem Rd.fw {t : Tr} {n : Nd} (h : Rd t n) : t.ok → t.rg → n.funs ≤ t.fw := by
  refine Rd.rec (motive_1 := fun t n _ => t.ok → t.rg → n.funs ≤ t.fw) (motive_2 := fun ts ns _ => Tr.oks ts → Tr.rgs ts → Nd.funss ns ≤ Tr.fws ts) (motive_3 := fun t ns _ => t.ok → t.rg → Nd.funss ns ≤ t.fw) ?_ ?_ ?_ ?_ ?_ ?_ ?_ ?_ ?_ ?_ ?_ ?_ ?_ ?_ ?_ h
  · intro i _ _; exact Nat.zero_le _
  · intro x _ _; exact Nat.zero_le _
  · intro w _ _ _; exact Nat.zero_le _
  · intro _ _
    have : fun1 [.w "ask"] = 0 := fun1_no fun s e => by cases e; decide +kernel
    show fun1 [.w "ask"] + (0 + 0) ≤ 0 + 0
    omega
  · intro w x t n _ ih o g
    have i1 := ih o.2.2.1 g.2.2.1
    have e : fun1 [.w w, .w x, n] ≤ fwH (.one w x) := by
      show (if w ∈ funW then 1 else 0) ≤ (if w = "take" then 1 else 0)
      have key : ∀ w ∈ oneW, w ∈ funW → w = "take" := by decide +kernel
      by_cases q : w ∈ funW
      · rw [if_pos q, if_pos (key w o.1.2.1 q)]; exact Nat.le_refl _
      · rw [if_neg q]; exact Nat.zero_le _
    show fun1 [.w w, .w x, n] + (0 + (0 + (n.funs + 0))) ≤ fwH (.one w x) + (t.fw + 0)
    omega
  · intro xs t ns _ _ ih o g
    have i1 := ih o.2.2.1 g.2.2.1
    have e : fun1 (.w "fn" :: .l (xs.map Nd.w) :: ns) = 1 := by show (if ("fn" : Str) ∈ funW then 1 else 0) = 1; exact if_pos (by decide +kernel)
    have e2 : fun1 (xs.map Nd.w) = 0 := fun1_no fun s e => by
      cases xs with
      | nil => cases e
      | cons x xs => cases e; exact fun z => nm_head (g.1.2 _ List.mem_cons_self) (fun_head _ z)
    show fun1 (.w "fn" :: .l (xs.map Nd.w) :: ns) + (0 + ((fun1 (xs.map Nd.w) + Nd.funss (xs.map Nd.w)) + Nd.funss ns)) ≤ 1 + (t.fw + 0)
    rw [e, e2, funs_words]
    omega
  · intro w xs ps t ms ns _ _ _ _ i1 i2 o g
    have oo := oks_iff.mp o.2.2
    have gg := rgs_iff.mp g.2.2
    have j1 := i1 (oks_iff.mpr fun u m => oo u (List.mem_append.mpr (.inl m))) (rgs_iff.mpr fun u m => gg u (List.mem_append.mpr (.inl m)))
    have j2 := i2 (oo t (List.mem_append.mpr (.inr List.mem_cons_self))) (gg t (List.mem_append.mpr (.inr List.mem_cons_self)))
    have e : fun1 (.w w :: .l (rowsN xs ms) :: ns) = 0 := if_neg (by
      have key : ∀ w ∈ bindW, w ∉ funW := by decide +kernel
      exact key w o.1.2.1)
    have e2 : fun1 (rowsN xs ms) = 0 := fun1_no fun s e => by
      cases xs with
      | nil => cases e
      | cons x xs => cases ms with
        | nil => cases e
        | cons m ms => cases e
    have j3 := funs_rows (ms := ms) g.1.2.2
    show fun1 (.w w :: .l (rowsN xs ms) :: ns) + (0 + ((fun1 (rowsN xs ms) + Nd.funss (rowsN xs ms)) + Nd.funss ns)) ≤ 0 + Tr.fws (ps ++ [t])
    rw [e, e2, fws_app]
    show _ ≤ 0 + (Tr.fws ps + (t.fw + 0))
    omega
  · intro ps ns _ ih o g
    have i1 := ih o.2.2 g.2.2
    have e : fun1 (.w "do" :: ns) = 0 := by show (if ("do" : Str) ∈ funW then 1 else 0) = 0; exact if_neg (by decide +kernel)
    show fun1 (.w "do" :: ns) + (0 + Nd.funss ns) ≤ 0 + Tr.fws ps
    omega
  · intro ps ns hr ih o g
    have i1 := ih o.2.2 g.2.2
    have e : fun1 ns = 0 := fun1_no fun s e => by
      cases hr with
      | nil => cases e
      | cons t n ts ns a b => cases n with
        | l ms => cases e
        | w s' => cases e; exact fun z => rd_word a (g.2.2.1) (fun_head _ z)
    show fun1 ns + Nd.funss ns ≤ 0 + Tr.fws ps
    omega
  · intro w ps ns _ ih o g
    have i1 := ih o.2.2 g.2.2
    have e : fun1 (.w w :: ns) = 0 := if_neg (by
      have k2 : ∀ w ∈ op2W, w ∉ funW := by decide +kernel
      have k1 : ∀ w ∈ op1W, w ∉ funW := by decide +kernel
      rcases g.1 with z | z
      · exact k2 w z.1
      · exact k1 w z.1)
    show fun1 (.w w :: ns) + (0 + Nd.funss ns) ≤ 0 + Tr.fws ps
    omega
  · intro w ps ns _ ih o g
    have i1 := ih o.2.2 g.2.2
    have e : fun1 (.w w :: ns) ≤ fwH (.plain w) := by
      show (if w ∈ funW then 1 else 0) ≤ (if w = "wind" then 1 else 0)
      have key : ∀ w ∈ plainW, w ∈ funW → w = "wind" := by decide +kernel
      by_cases q : w ∈ funW
      · rw [if_pos q, if_pos (key w o.1 q)]; exact Nat.le_refl _
      · rw [if_neg q]; exact Nat.zero_le _
    show fun1 (.w w :: ns) + (0 + Nd.funss ns) ≤ fwH (.plain w) + Tr.fws ps
    omega
  · intro _ _; exact Nat.zero_le _
  · intro t n ts ns _ _ i1 i2 o g
    have := i1 o.1 g.1
    have := i2 o.2 g.2
    show n.funs + Nd.funss ns ≤ t.fw + Tr.fws ts
    omega
  · intro t n _ ih o g
    have := ih o g
    show n.funs + 0 ≤ t.fw
    omega
  · intro ps ns _ _ _ ih o g
    have := ih o.2.2 g.2.2
    show Nd.funss ns ≤ 0 + Tr.fws ps
    omega
/-! ### texts that lie one behind the other -/
def sepSt (r : List Nat) : Prop := r = [] ∨ ∃ c r', r = c :: r' ∧ sep c = true
/-- the text lays the nodes out, whatever follows -/
def LayN (l : List Nat) (ns : List Nd) : Prop := ∀ r ms, sepSt r → Lays r ms → Lays (l ++ r) (ns ++ ms)
theorem blank_app {a b : List Nat} (h : blank a) (k : blank b) : blank (a ++ b) := fun c m => (List.mem_append.mp m).elim (h c) (k c)
theorem lays_blank {b r : List Nat} {ms : List Nd} (hb : blank b) (h : Lays r ms) : Lays (b ++ r) ms := by
  cases h with
  | nil k => exact .nil (blank_app hb k)
  | word k a c d => rw [← List.append_assoc]; exact .word (blank_app hb k) a c d
  | list k a d => rw [← List.append_assoc]; exact .list (blank_app hb k) a d
theorem sep_blank {b r : List Nat} (hb : blank b) (h : sepSt r) : sepSt (b ++ r) := by
  cases b with
  | nil => exact h
  | cons c b => exact .inr ⟨c, b ++ r, rfl, by rcases hb c List.mem_cons_self with rfl | rfl <;> decide⟩
theorem LayN.nil : LayN [] [] := fun r ms _ h => h
theorem LayN.word {s : Str} (h : wdOk s) : LayN (cs s) [.w s] := fun r ms hs hr => .word (b := []) (fun _ m => by cases m) h hs hr
theorem LayN.gap {l l' g : List Nat} {ns ns' : List Nd} (h : LayN l ns) (h' : LayN l' ns') (hg : blank g) (ne : g ≠ []) : LayN (l ++ (g ++ l')) (ns ++ ns') := fun r ms hs hr => by
  have z := h' r ms hs hr
  have e : l ++ (g ++ l') ++ r = l ++ (g ++ (l' ++ r)) := by simp
  rw [e, List.append_assoc]
  refine h _ _ ?_ (lays_blank hg z)
  cases g with
  | nil => exact absurd rfl ne
  | cons c g => exact .inr ⟨c, _, rfl, by rcases hg c List.mem_cons_self with rfl | rfl <;> decide⟩
theorem LayN.lays {l : List Nat} {ns : List Nd} (h : LayN l ns) : Lays l ns := by
  have := h [] [] (.inl rfl) (.nil fun _ m => by cases m)
  rwa [List.append_nil, List.append_nil] at this
theorem LayN.list {l : List Nat} {ns : List Nd} (h : LayN l ns) : LayN (40 :: (l ++ [41])) [.l ns] := fun r ms _ hr => by
  have := Lays.list (b := []) (fun _ m => by cases m) h.lays hr
  have e : 40 :: (l ++ [41]) ++ r = [] ++ (40 :: (l ++ (41 :: r))) := by simp
  rw [e]
  exact this
theorem LayN.tail {l b : List Nat} {ns : List Nd} (h : LayN l ns) (hb : blank b) : Lays (l ++ b) ns := by
  have := h b [] (by rw [← List.append_nil b]; exact sep_blank hb (.inl rfl)) (.nil hb)
  rwa [List.append_nil] at this
theorem sp_blank : blank [32] := fun c m => .inl (List.mem_singleton.mp m)
theorem join_cs {x y : Str} {r : List Str} : cs (Str.join " " (x :: y :: r)) = cs x ++ ([32] ++ cs (Str.join " " (y :: r))) := by
  have e : Str.join " " (x :: y :: r) = x ++ (" " : Str) ++ Str.join " " (y :: r) := rfl
  rw [e, cs_app, cs_app, List.append_assoc]
  rfl
inductive LayNs : List Str → List Nd → Prop
  | nil : LayNs [] []
  | cons {s : Str} {n : Nd} {ss : List Str} {ns : List Nd} : LayN (cs s) [n] → LayNs ss ns → LayNs (s :: ss) (n :: ns)
theorem LayNs.join : ∀ {ss : List Str} {ns : List Nd}, LayNs ss ns → LayN (cs (Str.join " " ss)) ns
  | [], _, h => by cases h; exact LayN.nil
  | [s], _, h => by
    cases h with
    | cons a b => cases b; exact a
  | s :: s2 :: ss, _, h => by
    cases h with
    | cons a b =>
      have := LayNs.join b
      rw [join_cs]
      exact LayN.gap a this sp_blank (fun z => by cases z)
theorem LayNs.words : ∀ {xs : List Str}, (∀ x ∈ xs, wdOk x) → LayNs xs (xs.map Nd.w)
  | [], _ => .nil
  | x :: xs, h => .cons (.word (h x List.mem_cons_self)) (LayNs.words fun y m => h y (List.mem_cons_of_mem _ m))
/-- brackets round a text -/
theorem LayN.brk {s : Str} {ns : List Nd} (h : LayN (cs s) ns) : LayN (cs ((("(" : Str) ++ s) ++ (")" : Str))) [.l ns] := by
  have e : cs ((("(" : Str) ++ s) ++ (")" : Str)) = 40 :: (cs s ++ [41]) := by
    rw [cs_app, cs_app]
    show [40] ++ cs s ++ [41] = _
    simp
  rw [e]
  exact h.list
end Cm

set_option linter.all false
/-! good trees: their winds have three parts, how deep and how large they are; trees without takes, with marked winds -/
namespace Cm
open PySem L2 PySem.Spec PyProof.Rows
def isWind : Hd → Bool
  | .plain w => decide (w = "wind")
  | _ => false
mutual
def Tr.w3 : Tr → Prop
  | .mk h ps => (isWind h = true → ps.length = 3) ∧ Tr.w3s ps
def Tr.w3s : List Tr → Prop
  | [] => True
  | t :: ts => t.w3 ∧ Tr.w3s ts
end
theorem w3s_iff : ∀ {ps : List Tr}, Tr.w3s ps ↔ ∀ t ∈ ps, t.w3
  | [] => by simp [Tr.w3s]
  | t :: ts => by
    show t.w3 ∧ Tr.w3s ts ↔ _
    rw [w3s_iff]
    simp
structure Gd (d n : Nat) (t : Tr) : Prop where
  ok : t.ok
  w3 : t.w3
  dd : t.dd 1 ≤ d
  sz : t.size ≤ n
structure Gds (d n : Nat) (ts : List Tr) : Prop where
  ok : Tr.oks ts
  w3 : Tr.w3s ts
  dd : Tr.dds 1 ts ≤ d
  sz : Tr.sizes ts ≤ n
theorem Gd.mono {d n d' n' : Nat} {t : Tr} (h : Gd d n t) (a : d ≤ d') (b : n ≤ n') : Gd d' n' t := ⟨h.ok, h.w3, Nat.le_trans h.dd a, Nat.le_trans h.sz b⟩
theorem Gds.nil {d : Nat} : Gds d 0 [] := ⟨trivial, trivial, Nat.zero_le _, Nat.zero_le _⟩
theorem Gds.cons {d d1 n m : Nat} {t : Tr} {ts : List Tr} (h : Gd d1 n t) (r : Gds d m ts) (e : d1 ≤ d := by omega) : Gds d (n + m) (t :: ts) :=
  ⟨⟨h.ok, r.ok⟩, ⟨h.w3, r.w3⟩, by
    have h1 := h.dd
    have h2 := r.dd
    show max (t.dd 1) (Tr.dds 1 ts) ≤ d
    omega, by
    have h1 := h.sz
    have h2 := r.sz
    show t.size + Tr.sizes ts ≤ n + m
    omega⟩
theorem Gd.of {h : Hd} {ps : List Tr} {d n : Nat} (g : Gds d n ps) (o : hok h ps.length) (l : ps.length ≤ 11 := by exact Nat.le_of_ble_eq_true rfl) (w : isWind h = true → ps.length = 3 := by intro z; first | rfl | exact absurd z Bool.false_ne_true) : Gd (wt 1 h + d) (n + 1) (.mk h ps) :=
  ⟨⟨o, l, g.ok⟩, ⟨w, g.w3⟩, Nat.add_le_add_left g.dd _, Nat.succ_le_succ g.sz⟩
theorem gd_num (i : Int) : Gd 1 1 (.mk (.num i) []) := Gd.of (h := .num i) (d := 0) (n := 0) .nil rfl
theorem gd_name {x : Str} (h : sok x) : Gd 1 1 (.mk (.name x) []) := Gd.of (h := .name x) (d := 0) (n := 0) .nil ⟨rfl, h⟩
theorem gd_lit {w : Str} (h : w ∈ litW) : Gd 1 1 (.mk (.lit w) []) := Gd.of (h := .lit w) (d := 0) (n := 0) .nil ⟨rfl, h⟩
/-! ### keep in the place of take -/
def noTake : Hd → Hd
  | .one w x => if w = "take" then .one "keep" x else .one w x
  | h => h
mutual
def Tr.nt : Tr → Tr
  | .mk h ps => .mk (noTake h) (Tr.nts ps)
def Tr.nts : List Tr → List Tr
  | [] => []
  | t :: ts => t.nt :: Tr.nts ts
end
theorem nts_map : ∀ ps : List Tr, Tr.nts ps = ps.map Tr.nt
  | [] => rfl
  | t :: ts => by
    show t.nt :: Tr.nts ts = _
    rw [nts_map ts]
    rfl
theorem hok_noTake {h : Hd} {n : Nat} (o : hok h n) : hok (noTake h) n := by
  cases h with
  | one w x =>
    show hok (if w = "take" then .one "keep" x else .one w x) n
    split
    · exact ⟨o.1, by decide, o.2.2⟩
    · exact o
  | _ => exact o
theorem wt_noTake (b : Nat) (h : Hd) : wt b (noTake h) = wt b h := by
  cases h with
  | one w x =>
    show wt b (if w = "take" then .one "keep" x else .one w x) = _
    split <;> rfl
  | _ => rfl
theorem wind_noTake (h : Hd) : isWind (noTake h) = isWind h := by
  cases h with
  | one w x =>
    show isWind (if w = "take" then .one "keep" x else .one w x) = _
    split <;> rfl
  | _ => rfl
mutual
theorem gd_nt : ∀ (t : Tr) {d n : Nat}, Gd d n t → Gd d n t.nt
  | .mk h ps, d, n, g => by
    have o : hok h ps.length ∧ ps.length ≤ 11 ∧ Tr.oks ps := g.ok
    have w : (isWind h = true → ps.length = 3) ∧ Tr.w3s ps := g.w3
    have h1 : wt 1 h + Tr.dds 1 ps ≤ d := g.dd
    have h2 : Tr.sizes ps + 1 ≤ n := g.sz
    have r := gds_nt ps (d := Tr.dds 1 ps) (n := Tr.sizes ps) ⟨o.2.2, w.2, Nat.le_refl _, Nat.le_refl _⟩
    have e : (Tr.nts ps).length = ps.length := by rw [nts_map, List.length_map]
    refine Gd.mono (Gd.of (h := noTake h) r (by rw [e]; exact hok_noTake o.1) (by rw [e]; exact o.2.1) (fun z => by rw [e]; rw [wind_noTake] at z; exact w.1 z)) ?_ h2
    rw [wt_noTake]
    exact h1
theorem gds_nt : ∀ (ts : List Tr) {d n : Nat}, Gds d n ts → Gds d n (Tr.nts ts)
  | [], _, _, g => g
  | t :: ts, d, n, g => by
    have o : t.ok ∧ Tr.oks ts := g.ok
    have w : t.w3 ∧ Tr.w3s ts := g.w3
    have h1 : max (t.dd 1) (Tr.dds 1 ts) ≤ d := g.dd
    have h2 : t.size + Tr.sizes ts ≤ n := g.sz
    have a := gd_nt t (d := d) (n := t.size) ⟨o.1, w.1, by omega, Nat.le_refl _⟩
    have b := gds_nt ts (d := d) (n := n - t.size) ⟨o.2, w.2, by omega, by omega⟩
    have := Gds.cons a b (Nat.le_refl _)
    have e : t.size + (n - t.size) = n := by omega
    rw [e] at this
    exact this
end
/-! ### a mark around the middle of each wind -/
def markMid (h : Hd) (ps : List Tr) : List Tr :=
  if isWind h = true then match ps with
    | [a, b, c] => [a, .mk (.plain "mark") [b], c]
    | ps => ps
  else ps
mutual
def Tr.mw : Tr → Tr
  | .mk h ps => .mk h (markMid h (Tr.mws ps))
def Tr.mws : List Tr → List Tr
  | [] => []
  | t :: ts => t.mw :: Tr.mws ts
end
theorem mws_map : ∀ ps : List Tr, Tr.mws ps = ps.map Tr.mw
  | [] => rfl
  | t :: ts => by
    show t.mw :: Tr.mws ts = _
    rw [mws_map ts]
    rfl
/-- what is left of a good tree with marked winds -/
structure Gm (d n : Nat) (t : Tr) : Prop where
  ok : t.ok
  dd : t.dd 0 ≤ d
  sz : t.size ≤ n
structure Gms (d n : Nat) (ts : List Tr) : Prop where
  ok : Tr.oks ts
  dd : Tr.dds 0 ts ≤ d
  sz : Tr.sizes ts ≤ n
mutual
theorem dd01 : ∀ t : Tr, t.dd 0 ≤ t.dd 1
  | .mk h ps => by
    have h1 := dds01 ps
    have h2 : wt 0 h ≤ wt 1 h := by
      cases h with
      | plain w =>
        show (if w = "wind" then 1 + 0 else 1) ≤ (if w = "wind" then 1 + 1 else 1)
        split <;> omega
      | _ => exact Nat.le_refl _
    show wt 0 h + Tr.dds 0 ps ≤ wt 1 h + Tr.dds 1 ps
    omega
theorem dds01 : ∀ ts : List Tr, Tr.dds 0 ts ≤ Tr.dds 1 ts
  | [] => Nat.le_refl _
  | t :: ts => by
    have h1 := dd01 t
    have h2 := dds01 ts
    show max (t.dd 0) (Tr.dds 0 ts) ≤ max (t.dd 1) (Tr.dds 1 ts)
    omega
end
theorem Gd.gm {d n : Nat} {t : Tr} (g : Gd d n t) : Gm d n t := ⟨g.ok, Nat.le_trans (dd01 t) g.dd, g.sz⟩
mutual
theorem gm_mw : ∀ (t : Tr) {d n : Nat}, Gd d n t → Gm d (2 * n) t.mw
  | .mk h ps, d, n, g => by
    have o : hok h ps.length ∧ ps.length ≤ 11 ∧ Tr.oks ps := g.ok
    have w : (isWind h = true → ps.length = 3) ∧ Tr.w3s ps := g.w3
    have h1 : wt 1 h + Tr.dds 1 ps ≤ d := g.dd
    have h2 : Tr.sizes ps + 1 ≤ n := g.sz
    have r := gms_mw ps (d := Tr.dds 1 ps) (n := Tr.sizes ps) ⟨o.2.2, w.2, Nat.le_refl _, Nat.le_refl _⟩
    have e : (Tr.mws ps).length = ps.length := by rw [mws_map, List.length_map]
    have r1 := r.dd
    have r2 := r.sz
    have r3 := r.ok
    show Gm d (2 * n) (.mk h (markMid h (Tr.mws ps)))
    by_cases z : isWind h = true
    · have l3 := w.1 z
      rw [← e] at l3
      generalize Tr.mws ps = qs at *
      match qs, l3 with
      | [a, b, c], _ =>
        have em : markMid h [a, b, c] = [a, .mk (.plain "mark") [b], c] := by unfold markMid; rw [if_pos z]
        rw [em]
        have e3 : ps.length = 3 := by rw [← e]; rfl
        obtain ⟨oa, ob, oc, _⟩ := r3
        cases h with
        | plain wd =>
          have z' : wd = "wind" := of_decide_eq_true z
          subst z'
          refine ⟨⟨o.1, Nat.le_of_ble_eq_true rfl, oa, ⟨show ("mark" : Str) ∈ plainW by decide, Nat.le_of_ble_eq_true rfl, ob, trivial⟩, oc, trivial⟩, ?_, ?_⟩
          · have r1' : max (a.dd 0) (max (b.dd 0) (max (c.dd 0) 0)) ≤ Tr.dds 1 ps := r1
            have h1' : 1 + 1 + Tr.dds 1 ps ≤ d := h1
            show (1 + 0) + max (a.dd 0) (max (1 + max (b.dd 0) 0) (max (c.dd 0) 0)) ≤ d
            omega
          · have r2' : a.size + (b.size + (c.size + 0)) ≤ 2 * Tr.sizes ps := r2
            show (a.size + ((b.size + 0 + 1) + (c.size + 0))) + 1 ≤ 2 * n
            omega
        | _ => cases z
    · have em : markMid h (Tr.mws ps) = Tr.mws ps := by unfold markMid; rw [if_neg z]
      rw [em]
      have h3 : wt 0 h ≤ wt 1 h := by
        cases h with
        | plain wd =>
          show (if wd = "wind" then 1 + 0 else 1) ≤ (if wd = "wind" then 1 + 1 else 1)
          split <;> omega
        | _ => exact Nat.le_refl _
      refine ⟨⟨by rw [e]; exact o.1, by rw [e]; exact o.2.1, r3⟩, ?_, ?_⟩
      · show wt 0 h + Tr.dds 0 (Tr.mws ps) ≤ d
        omega
      · show Tr.sizes (Tr.mws ps) + 1 ≤ 2 * n
        omega
theorem gms_mw : ∀ (ts : List Tr) {d n : Nat}, Gds d n ts → Gms d (2 * n) (Tr.mws ts)
  | [], _, _, g => ⟨trivial, Nat.zero_le _, Nat.zero_le _⟩
  | t :: ts, d, n, g => by
    have o : t.ok ∧ Tr.oks ts := g.ok
    have w : t.w3 ∧ Tr.w3s ts := g.w3
    have h1 : max (t.dd 1) (Tr.dds 1 ts) ≤ d := g.dd
    have h2 : t.size + Tr.sizes ts ≤ n := g.sz
    have a := gm_mw t (d := d) (n := t.size) ⟨o.1, w.1, by omega, Nat.le_refl _⟩
    have b := gms_mw ts (d := d) (n := n - t.size) ⟨o.2, w.2, by omega, by omega⟩
    refine ⟨⟨a.ok, b.ok⟩, ?_, ?_⟩
    · have := a.dd
      have := b.dd
      show max (t.mw.dd 0) (Tr.dds 0 (Tr.mws ts)) ≤ d
      omega
    · have := a.sz
      have := b.sz
      show t.mw.size + Tr.sizes (Tr.mws ts) ≤ 2 * n
      omega
end
end Cm

set_option linter.all false
/-! drawn trees: promises -/
namespace Cm
open PySem L2 PySem.Spec PyProof.Rows
theorem DpAll.some {K : PySem.W.Frag} {H : Hp} {v : V} : ∀ {vs : List V} {ds : List PyData}, DpAll K H vs ds → v ∈ vs → ∃ d, d ∈ ds ∧ Dp K H v d
  | _, _, .nil, m => by cases m
  | _, _, .cons a b, m => by
    rcases List.mem_cons.mp m with rfl | m
    · exact ⟨_, List.mem_cons_self, a⟩
    · obtain ⟨d, hm, hd⟩ := DpAll.some b m
      exact ⟨d, List.mem_cons_of_mem _ hm, hd⟩
theorem pick_of {K : PySem.W.Frag} {H : Hp} {h c : Addr} {v : V} {ds : List PyData} {Q : VK} {E : XK} (hh : Hand H h c) (hd : Dp K H v (.tuple ds)) (fl : flatDs ds = true) (n0 : ds ≠ []) (hl : ds.length ≤ 1000)
    (k : ∀ v' H' d, d ∈ ds → Kh h H H' → Hand H' h c → Dp K H' v' d → Q v' H') : spPick K [.ref h, v] H Q E := by
  obtain ⟨a, its, rfl, hs, hi⟩ := dp_tup hd
  have e := DpAll.len hi
  refine ⟨h, c, a, its, rfl, hh, .inr hs, ?_, by omega, fun v' H' m kh hh' => ?_⟩
  · intro z
    subst z
    cases hi
    exact n0 rfl
  · obtain ⟨d, m2, d2⟩ := DpAll.some hi m
    exact k v' H' d m2 kh hh' (dp_keep (fun _ _ q => kh.tup q) _ _ (flatDs_all fl d m2) d2)
/-- a drawn tree -/
def spGenT (K : PySem.W.Frag) (d n : Nat) : Sp := fun vs H Q _ => ∃ h c : Addr, vs = [.ref h] ∧ Hand H h c ∧ ∀ (v : V) (t : Tr) (H' : Hp), Kh h H H' → Hand H' h c → Dp K H' v t.enc → Gd d n t → Q v H'
/-- what a drawn part is -/
def IntS (d : PyData) : Prop := ∃ i : Int, d = .int i
def WordS (ws : List Str) (d : PyData) : Prop := ∃ w ∈ ws, d = .str w
def TreeS (d n : Nat) (e : PyData) : Prop := ∃ t : Tr, e = t.enc ∧ Gd d n t
theorem ex_draw {h c : Addr} {σ : L2.St} {H : Hp} {m : Int} {Q : VK} (h0 : σ[0]? = some (some (.ref h))) (hh : Hand H h c) (m0 : 0 < m := by decide) (m1 : m < 2 ^ 100 := by decide)
    (k : ∀ (n : Int) (H' : Hp), 0 ≤ n → n < m → Kh h H H' → Hand H' h c → Q (.int n) H') : tCall spDraw [] E0 (tCons (tVar 0) (tCons (tC (.int m)) tNil)) σ H Q :=
  ⟨_, h0, h, c, m, rfl, hh, m0, m1, k⟩
theorem ex_gen {K : PySem.W.Frag} {d n : Nat} {h c : Addr} {σ : L2.St} {H : Hp} {Q : VK} (h0 : σ[0]? = some (some (.ref h))) (hh : Hand H h c)
    (k : ∀ (v : V) (t : Tr) (H' : Hp), Kh h H H' → Hand H' h c → Dp K H' v t.enc → Gd d n t → Q v H') : tCall (spGenT K d n) [] E0 (tCons (tVar 0) tNil) σ H Q :=
  ⟨_, h0, h, c, rfl, hh, k⟩
/-- pick out of a display without drawn parts -/
theorem ex_pick {K : PySem.W.Frag} {h c : Addr} {σ : L2.St} {H : Hp} {ds : List GX} {Q : VK} (ρ : Nat → PyData) (h0 : σ[0]? = some (some (.ref h))) (hh : Hand H h c) (hf : HasF K ρ σ H (GX.slotss ds)) (he : GX.exss ds = []) (n0 : ds ≠ []) (hl : ds.length ≤ 1000)
    (k : ∀ v' H' d, d ∈ GX.datas ρ (fun _ => .int 0) ds → Kh h H H' → Hand H' h c → flatD d = true → Dp K H' v' d → Q v' H') : tCall (spPick K) [] E0 (tCons (tVar 0) (tCons (tG K (.tup ds)) tNil)) σ H Q := by
  refine ⟨_, h0, h, c, ρ, fun _ _ => True, hh, hf, ?_, fun v H1 τ kh hh1 _ ft dp => ?_⟩
  · show AllE K h c (fun _ _ => True) σ H (GX.exss ds)
    rw [he]
    trivial
  · have ed : GX.datas ρ τ ds = GX.datas ρ (fun _ => .int 0) ds := datas_eq ds (by rw [he]; intro n m; cases m)
    have fl : flatDs (GX.datas ρ τ ds) = true := flat_gdatas ds hf ft
    have dp' : Dp K H1 v (.tuple (GX.datas ρ τ ds)) := dp
    rw [ed] at dp' fl
    refine pick_of (E := E0) hh1 dp' fl ?_ (by rw [gdatas_len]; exact hl) fun v' H' d m kh' hh' dd => k v' H' d m (kh.trans kh') hh' (flatDs_all fl d m) dd
    intro z
    have := congrArg List.length z
    rw [gdatas_len] at this
    exact n0 (List.length_eq_zero_iff.mp this)
theorem Gd.cons {d d1 n m : Nat} {t : Tr} {ts : List Tr} (h : Gd d1 n t) (r : Gds d m ts) (e : d1 ≤ d := by omega) : Gds d (n + m) (t :: ts) := Gds.cons h r e
theorem gd_op {o : Str} {d n : Nat} {ps : List Tr} (so : sok o) (g : Gds d n ps) (l : ps.length ≤ 11 := by exact Nat.le_of_ble_eq_true rfl) : Gd (2 + d) (n + 1) (.mk (.op o) ps) := Gd.of (h := .op o) g so l
theorem gd_do {d n : Nat} {ps : List Tr} (g : Gds d n ps) (l : ps.length ≤ 11 := by exact Nat.le_of_ble_eq_true rfl) : Gd (2 + d) (n + 1) (.mk .doo ps) := Gd.of (h := .doo) g True.intro l
theorem gd_call {d n : Nat} {t : Tr} {ps : List Tr} (g : Gds d n (t :: ps)) (l : (t :: ps).length ≤ 11 := by exact Nat.le_of_ble_eq_true rfl) : Gd (2 + d) (n + 1) (.mk .call (t :: ps)) := Gd.of (h := .call) g (Nat.succ_le_succ (Nat.zero_le _)) l
theorem gd_fn {d n : Nat} {xs : List Str} {b : Tr} (hx : ∀ x ∈ xs, sok x) (g : Gd d n b) (l : xs.length ≤ 100 := by exact Nat.le_of_ble_eq_true rfl) : Gd (1 + d) (n + 1) (.mk (.fn xs) [b]) := Gd.of (h := .fn xs) (g.cons Gds.nil (Nat.le_refl _)) ⟨rfl, l, hx⟩
theorem gd_one {d n : Nat} {w x : Str} {b : Tr} (hw : w ∈ oneW) (hx : sok x) (g : Gd d n b) : Gd (1 + d) (n + 1) (.mk (.one w x) [b]) := Gd.of (h := .one w x) (g.cons Gds.nil (Nat.le_refl _)) ⟨rfl, hw, hx⟩
theorem gd_bind {d n : Nat} {w : Str} {xs : List Str} {ps : List Tr} (hw : w ∈ bindW) (hx : ∀ x ∈ xs, sok x) (g : Gds d n ps) (e : ps.length = xs.length + 1 := by rfl) (l : ps.length ≤ 11 := by exact Nat.le_of_ble_eq_true rfl) : Gd (3 + d) (n + 1) (.mk (.bind w xs) ps) := Gd.of (h := .bind w xs) g ⟨e, hw, hx⟩ l
theorem gd_plain {d n : Nat} {w : Str} {ps : List Tr} (hw : w ∈ plainW) (nw : isWind (.plain w) = false) (g : Gds d n ps) (l : ps.length ≤ 11 := by exact Nat.le_of_ble_eq_true rfl) : Gd (1 + d) (n + 1) (.mk (.plain w) ps) := by
  have := Gd.of (h := .plain w) g hw l (fun z => by rw [nw] at z; cases z)
  have e : wt 1 (.plain w) = 1 := if_neg (of_decide_eq_false nw)
  rw [e] at this
  exact this
theorem gd_show {d n : Nat} {b : Tr} (g : Gd d n b) : Gd (1 + d) (n + 1) (.mk (.plain "show") [b]) := gd_plain (by decide) (by decide +kernel) (g.cons Gds.nil (Nat.le_refl _))
theorem gd_mark {d n : Nat} {b : Tr} (g : Gd d n b) : Gd (1 + d) (n + 1) (.mk (.plain "mark") [b]) := gd_plain (by decide) (by decide +kernel) (g.cons Gds.nil (Nat.le_refl _))
theorem gd_if {d n : Nat} {ps : List Tr} (g : Gds d n ps) (l : ps.length ≤ 11 := by exact Nat.le_of_ble_eq_true rfl) : Gd (1 + d) (n + 1) (.mk (.plain "if") ps) := gd_plain (by decide) (by decide +kernel) g l
theorem gd_wind {d n : Nat} {a b c : Tr} (g : Gds d n [a, b, c]) : Gd (2 + d) (n + 1) (.mk (.plain "wind") [a, b, c]) := Gd.of (h := .plain "wind") g (show ("wind" : Str) ∈ plainW by decide) (w := fun _ => rfl)
theorem mvT {K : PySem.W.Frag} {h : Addr} {H H' : Hp} {v : V} {t : Tr} (kh : Kh h H H') (d : Dp K H v t.enc) : Dp K H' v t.enc := dp_keep (fun _ _ q => kh.tup q) _ _ (flat_enc t) d
/-- a display without drawn parts -/
theorem tg_pure {K : PySem.W.Frag} {h c : Addr} {σ : L2.St} {H : Hp} {d : GX} {Q : VK} (ρ : Nat → PyData) (hh : Hand H h c) (hf : HasF K ρ σ H d.slots) (he : d.exs = [])
    (k : ∀ v H', Kh h H H' → Hand H' h c → Dp K H' v (d.data ρ (fun _ => .int 0)) → Q v H') : tG K d σ H Q := by
  refine ⟨h, c, ρ, fun _ _ => True, hh, hf, ?_, fun v H' τ kh hh' _ _ dp => ?_⟩
  · rw [he]
    trivial
  · rw [data_eq (τ' := fun _ => .int 0) d (by rw [he]; intro n m; cases m)] at dp
    exact k v H' kh hh' dp
/-- a tree grown out of a tree, a name and a number -/
def spMore (K : PySem.W.Frag) : Sp := fun vs H Q _ => ∃ (h c : Addr) (v : V) (x : Str) (p : Int) (s : Tr) (d n : Nat), vs = [.ref h, v, .str x, .int p] ∧ Hand H h c ∧ Dp K H v s.enc ∧ Gd d n s ∧ 7 ≤ d ∧ sok x ∧
  ∀ (u : V) (t : Tr) (H' : Hp), Kh h H H' → Hand H' h c → Dp K H' u t.enc → Gd (6 + d) (n + 30) t → Q u H'
theorem words_of {ρ τ : Nat → PyData} {d : PyData} : ∀ {ws : List Str}, d ∈ GX.datas ρ τ (ws.map GX.str) → WordS ws d
  | w :: ws, m => by
    have m' : d ∈ PyData.str w :: GX.datas ρ τ (ws.map GX.str) := m
    rcases List.mem_cons.mp m' with rfl | m'
    · exact ⟨w, List.mem_cons_self, rfl⟩
    · obtain ⟨x, hx, e⟩ := words_of m'
      exact ⟨x, List.mem_cons_of_mem _ hx, e⟩
theorem trees_of {d n : Nat} {e : PyData} : ∀ {ts : List Tr}, e ∈ ts.map Tr.enc → (∀ t ∈ ts, Gd d n t) → TreeS d n e := fun m g => by
  obtain ⟨t, ht, rfl⟩ := List.mem_map.mp m
  exact ⟨t, rfl, g t ht⟩
theorem all_nil {α : Type} {P : α → Prop} : ∀ x ∈ ([] : List α), P x := fun x m => by cases m
theorem all_cons {α : Type} {P : α → Prop} {a : α} {l : List α} (h : P a) (r : ∀ x ∈ l, P x) : ∀ x ∈ a :: l, P x := fun x m => by
  rcases List.mem_cons.mp m with rfl | m
  · exact h
  · exact r x m
theorem iteIeq {n m : Int} {A B : Prop} (h : n = m) (a : A) : if decide (V.int n = V.int m) = true then A else B := by
  rw [dec_int, h, beq_self_eq_true]
  exact iteT a
theorem iteIne {n m : Int} {A B : Prop} (h : ¬ n = m) (b : B) : if decide (V.int n = V.int m) = true then A else B := by
  rw [dec_int, beq_eq_false_iff_ne.mpr h]
  exact iteF b
theorem Gm.mono {d n d' n' : Nat} {t : Tr} (h : Gm d n t) (a : d ≤ d') (b : n ≤ n') : Gm d' n' t := ⟨h.ok, Nat.le_trans h.dd a, Nat.le_trans h.sz b⟩
theorem gms0 {d : Nat} : Gms d 0 [] := ⟨trivial, Nat.zero_le _, Nat.zero_le _⟩
theorem Gms.cons {d1 d2 n m : Nat} {t : Tr} {ts : List Tr} (h : Gm d1 n t) (r : Gms d2 m ts) : Gms (max d1 d2) (n + m) (t :: ts) :=
  ⟨⟨h.ok, r.ok⟩, by
    have h1 := h.dd
    have h2 := r.dd
    show max (t.dd 0) (Tr.dds 0 ts) ≤ max d1 d2
    omega, by
    have h1 := h.sz
    have h2 := r.sz
    show t.size + Tr.sizes ts ≤ n + m
    omega⟩
theorem gms1 {d n : Nat} {t : Tr} (h : Gm d n t) : Gms d n [t] := by
  have := Gms.cons h (gms0 (d := d))
  rw [Nat.max_self] at this
  exact this
theorem gms2 {d1 d2 n m : Nat} {t u : Tr} (h : Gm d1 n t) (r : Gm d2 m u) : Gms (max d1 d2) (n + m) [t, u] := Gms.cons h (gms1 r)
theorem Gm.gms3 {d1 d2 d3 n m k : Nat} {t u v : Tr} (h : Gm d1 n t) (r : Gm d2 m u) (q : Gm d3 k v) : Gms (max d1 (max d2 d3)) (n + (m + k)) [t, u, v] := Gms.cons h (gms2 r q)
theorem gm_of {d d' n n' : Nat} {h : Hd} {ps : List Tr} (g : Gms d n ps) (o : hok h ps.length) (a : wt 0 h + d ≤ d') (b : n + 1 ≤ n') (l : ps.length ≤ 11 := by exact Nat.le_of_ble_eq_true rfl) : Gm d' n' (.mk h ps) := by
  refine ⟨⟨o, l, g.ok⟩, ?_, ?_⟩
  · have := g.dd
    show wt 0 h + Tr.dds 0 ps ≤ d'
    omega
  · have := g.sz
    show Tr.sizes ps + 1 ≤ n'
    omega
theorem gm_op {d n : Nat} {o : Str} {ps : List Tr} (so : sok o) (g : Gms d n ps) (l : ps.length ≤ 11 := by exact Nat.le_of_ble_eq_true rfl) : Gm (2 + d) (n + 1) (.mk (.op o) ps) := gm_of g so (Nat.le_refl _) (Nat.le_refl _) l
end Cm

namespace K00
open PySem L2 Cm
structure Glb (K : PySem.W.Frag) (mg : Str → Option Value) : Prop where
  ms : ∃ k : Tok, mg "MOST_SIGNS" = some (.int 3000 k)
  md : ∃ k : Tok, mg "MOST_DEEP" = some (.int 30 k)
  mi : ∃ k : Tok, mg "MOST_ITEMS" = some (.int 10 k)
  mn : ∃ k : Tok, mg "MOST_NAMES" = some (.int 8 k)
  mf : ∃ k : Tok, mg "MOST_FUNS" = some (.int 60 k)
  gr : ∃ k : Tok, mg "GREATEST" = some (.int 1000000000 k)
  ns : ∃ k : Tok, mg "NAME_SIGNS" = some (.int 12 k)
  lt : ∃ k : Tok, mg "LETTERS" = some (.str "abcdefghijklmnopqrstuvwxyz" k)
  fg : ∃ k : Tok, mg "FIGURES" = some (.str "0123456789" k)
  kw : ∃ a : Addr, mg "KEPT_WORDS" = some (.ref a) ∧ ∀ H, SqT K H a (keptW.map V.str)
  cn : ∃ a : Addr, mg "CONSTANTS" = some (.ref a) ∧ ∀ H, SqT K H a (consW.map V.str)
  fw : ∃ a : Addr, mg "FUN_WORDS" = some (.ref a) ∧ ∀ H, SqT K H a (funW.map V.str)
/-- a statement that is never reached -/
theorem ps_no {X : Cx} {st : Stmt} : PS X st (fun _ _ _ => False) := ⟨fun _ _ _ _ _ _ h => h.elim⟩
def spSigns : Sp := fun vs H Q _ => ∃ x : Str, vs = [.str x] ∧ x.length ≤ 3000 ∧ (∀ c ∈ cs x, sgnOk c) ∧ ∀ H', Same H H' → Q .non H'
def spBrks : Sp := fun vs H Q _ => ∃ x : Str, vs = [.str x] ∧ x.length ≤ 3000 ∧ brk 0 (cs x) = some 0 ∧ ∀ H', Same H H' → Q .non H'
def pieceD (r : Int × Str) : PyData := .tuple [.int r.1, .str r.2]
def spPieces (K : PySem.W.Frag) : Sp := fun vs H Q _ => ∃ x : Str, vs = [.str x] ∧ x.length ≤ 3000 ∧
  ∀ (l : Addr) (us : List V) (rs : List (Int × Str)) (H' : Hp), Same H H' → H l = none → H' l = some (.lst us) → DpAll K H' us (rs.map pieceD) → rs.map (·.2) = (runT ([], []) (cs x ++ [32])).1 → us.length ≤ 10000 → Q (.ref l) H'
theorem flat_pieces (rs : List (Int × Str)) : flatDs (rs.map pieceD) = true := flatDs_of _ fun d hd => by
  obtain ⟨r, _, rfl⟩ := List.mem_map.mp hd
  rfl
theorem lt_sign {c d : Nat} : decide (([c] : List Nat) < [d]) = decide (c < d) := by
  rw [Bool.eq_iff_iff, decide_eq_true_eq, decide_eq_true_eq, List.cons_lt_cons_iff]
  constructor
  · rintro (h | ⟨_, h⟩)
    · exact h
    · exact absurd h (by simp)
  · exact .inl
theorem lit1 {s : Str} {c : Nat} (h : s = ⟨#[c]⟩) (d : Nat) : decide (V.str ⟨#[d]⟩ = V.str s) = decide (d = c) := by
  subst h
  rw [decS, Bool.eq_iff_iff, decide_eq_true_eq, decide_eq_true_eq]
  constructor
  · intro e
    injection e with e
    simpa using e
  · rintro rfl; rfl
section
variable {P : Program} {w : World} {K : PySem.W.Frag} {mg : Str → Option Value} {base : Heap}
abbrev s_p_check_signs : Stmt := top 18
abbrev N_p_check_signs : List Str := ["text", "place", "sign"]
theorem sc_p_check_signs : FnScope N_p_check_signs ["text"] (defScope s_p_check_signs) := ⟨rfl, rfl, rfl, by decide +kernel, rfl, by decide +kernel, by decide +kernel⟩
theorem ok_check_signs (T : Txt mg) (G : Glb K mg) (D : At K mg "_check_signs" s_p_check_signs ["text"]) : Cl P w K mg base 1 "_check_signs" spSigns := by
  refine cl_of D sc_p_check_signs (fun vs H Q E h => ?_) fun f cdv A outer s H vs Q E hr h => ?_
  · obtain ⟨x, rfl, _⟩ := h
    rfl
  · obtain ⟨x, rfl, hl, hs, k⟩ := h
    obtain ⟨kms, hms⟩ := G.ms
    refine ⟨_, (pss_cons (ps_if (pt_cmpR op_gt (pe_callB call_len_str (by rfl) T.len (by decide +kernel) (pa_cons (pv 0) pa_nil)) (pe_glob (v := .int 3000) (by rfl) hms ⟨_, rfl⟩) (nomark _))
        (pss_one ps_no)
        pss_nil)
      (pss_one (ps_for PassesOwn.never rfl (pi_enumS (by rfl) T.enumerate (pa_cons (pv 0) pa_nil)) (pg_tup (by rfl) (pgs_cons (pg_name (i := 1) sc_p_check_signs.nd rfl (Or.inl rfl)) (pgs_cons (pg_name (i := 2) sc_p_check_signs.nd rfl (Or.inl rfl)) pgs_nil)))
        (pss_one (ps_if (PW.pt (pw_and (pt_cmpR op_ne (pv 2) pe_str (nomark _)) (pw_and1 (pt_not (pt_chain op_le_str op_le_str pe_str (pv 2) pe_str)))))
          (pss_one ps_no)
          pss_nil))))), ?_⟩
    refine ⟨_, rfl, x, rfl, by rw [sizeLine_eq]; omega, _, _, rfl, rfl, _, rfl, ?_⟩
    have z : decide ((3000 : Int) < (x.length : Int)) = false := decide_eq_false (by omega)
    rw [z]
    refine iteF ⟨_, rfl, x, rfl, ?_⟩
    refine for_it walk_enumS (fun i σ H' => ∃ v1 v2 : Option V, σ = [some (.str x), v1, v2] ∧ Same H H') ⟨_, _, rfl, Same.refl _⟩ (fun _ _ _ _ _ => trivial) ?_ ?_
    · rintro i v σ H1 H2 hi ⟨v1, v2, rfl, s1⟩ ⟨T1, y1, y2, rfl, hT, rfl, e1, e2⟩
      cases e1
      obtain ⟨c, ec, rfl⟩ := Option.map_eq_some_iff.mp e2
      have s2 := same_new (o := .tup [V.int (i : Nat), V.str ⟨#[c]⟩]) hT
      have hc := hs c (List.mem_of_getElem? ec)
      refine ⟨T1, _, rfl, .inl (.inl upd_same), rfl, _, _, rfl, _, _, rfl, rfl, ?_⟩
      refine ⟨_, rfl, rfl, _, rfl, ?_⟩
      rw [lit1 (c := 10) (by decide +kernel)]
      by_cases q : c = 10
      · rw [decide_eq_true q]
        exact iteF ⟨_, _, rfl, s1.trans s2⟩
      · rw [decide_eq_false q]
        have hc2 : 32 ≤ c ∧ c ≤ 126 := hc.resolve_left q
        refine iteT ⟨_, rfl, _, _, rfl, rfl, _, rfl, ?_⟩
        have h1 : (!decide ((⟨#[c]⟩ : Str).cps.toList < ((" " : Str)).cps.toList)) = true := by
          rw [show ((" " : Str)).cps.toList = [32] by decide +kernel, show ((⟨#[c]⟩ : Str)).cps.toList = [c] from rfl, lt_sign, decide_eq_false (by omega)]
          rfl
        have h2 : (!decide ((("~" : Str)).cps.toList < (⟨#[c]⟩ : Str).cps.toList)) = true := by
          rw [show (("~" : Str)).cps.toList = [126] by decide +kernel, show ((⟨#[c]⟩ : Str)).cps.toList = [c] from rfl, lt_sign, decide_eq_false (by omega)]
          rfl
        rw [h1]
        refine iteT ⟨_, _, rfl, rfl, _, rfl, ?_⟩
        rw [h2]
        exact iteF ⟨_, _, rfl, s1.trans s2⟩
    · rintro σ H1 ⟨v1, v2, rfl, s1⟩
      exact k _ s1
abbrev s_p_check_brackets : Stmt := top 19
abbrev N_p_check_brackets : List Str := ["text", "deep", "place", "sign"]
theorem sc_p_check_brackets : FnScope N_p_check_brackets ["text"] (defScope s_p_check_brackets) := ⟨rfl, rfl, rfl, by decide +kernel, rfl, by decide +kernel, by decide +kernel⟩
theorem brk_app : ∀ (a b : List Nat) (d : Nat), brk d (a ++ b) = (brk d a).bind fun e => brk e b
  | [], _, _ => rfl
  | c :: a, b, d => by
    show (if c = 40 then (if d = 30 then none else brk (d + 1) (a ++ b)) else if c = 41 then (if d = 0 then none else brk (d - 1) (a ++ b)) else brk d (a ++ b)) = (if c = 40 then (if d = 30 then none else brk (d + 1) a) else if c = 41 then (if d = 0 then none else brk (d - 1) a) else brk d a).bind fun e => brk e b
    split
    · split
      · rfl
      · exact brk_app a b _
    · split
      · split
        · rfl
        · exact brk_app a b _
      · exact brk_app a b _
theorem ok_check_brackets (T : Txt mg) (G : Glb K mg) (D : At K mg "_check_brackets" s_p_check_brackets ["text"]) : Cl P w K mg base 1 "_check_brackets" spBrks := by
  refine cl_of D sc_p_check_brackets (fun vs H Q E h => ?_) fun f cdv A outer s H vs Q E hr h => ?_
  · obtain ⟨x, rfl, _⟩ := h
    rfl
  · obtain ⟨x, rfl, hl, hb, k⟩ := h
    obtain ⟨kmd, hmd⟩ := G.md
    refine ⟨_, (pss_cons (ps_set (i := 1) sc_p_check_brackets.nd rfl (Or.inl rfl) pe_int)
      (pss_cons (ps_for PassesOwn.never rfl (pi_enumS (by rfl) T.enumerate (pa_cons (pv 0) pa_nil)) (pg_tup (by rfl) (pgs_cons (pg_name (i := 2) sc_p_check_brackets.nd rfl (Or.inl rfl)) (pgs_cons (pg_name (i := 3) sc_p_check_brackets.nd rfl (Or.inl rfl)) pgs_nil)))
        (pss_one (ps_if (pt_cmpR op_eq (pv 3) pe_str (nomark _))
          (pss_cons (ps_if (pt_cmpR op_eq (pv 1) (pe_glob (v := .int 30) (by rfl) hmd ⟨_, rfl⟩) (nomark _))
            (pss_one ps_no)
            pss_nil)
          (pss_one (ps_aug (i := 1) sc_p_check_brackets.nd rfl (Or.inl rfl) pe_int ip_add)))
          (pss_one (ps_if (pt_cmpR op_eq (pv 3) pe_str (nomark _))
            (pss_cons (ps_if (pt_cmpR op_eq (pv 1) pe_int (nomark _))
              (pss_one ps_no)
              pss_nil)
            (pss_one (ps_aug (i := 1) sc_p_check_brackets.nd rfl (Or.inl rfl) pe_int ip_sub)))
            pss_nil)))))
      (pss_one (ps_if (pt_cmpR op_gt (pv 1) pe_int (nomark _))
        (pss_one ps_no)
        pss_nil)))), ?_⟩
    refine ⟨_, rfl, x, rfl, ?_⟩
    refine for_it walk_enumS (fun i σ H' => ∃ (d : Nat) (v2 v3 : Option V), σ = [some (.str x), some (.int (d : Nat)), v2, v3] ∧ Same H H' ∧ brk 0 ((cs x).take i) = some d) ⟨0, _, _, rfl, Same.refl _, rfl⟩ (fun _ _ _ _ _ => trivial) ?_ ?_
    · rintro i v σ H1 H2 hi ⟨d, v2, v3, rfl, s1, hd⟩ ⟨T1, y1, y2, rfl, hT, rfl, e1, e2⟩
      cases e1
      obtain ⟨c, ec, rfl⟩ := Option.map_eq_some_iff.mp e2
      have s2 := same_new (o := .tup [V.int (i : Nat), V.str ⟨#[c]⟩]) hT
      have et : (cs x).take (i + 1) = (cs x).take i ++ [c] := take_snoc ec
      have hall : brk d [c] ≠ none := fun z => by
        have e : brk 0 (cs x) = none := by
          rw [← List.take_append_drop (i + 1) (cs x), et, brk_app, brk_app, hd]
          show ((brk d [c])).bind _ = none
          rw [z]
          rfl
        rw [hb] at e
        cases e
      have hnext : ∀ e, brk d [c] = some e → brk 0 ((cs x).take (i + 1)) = some e := fun e z => by
        rw [et, brk_app, hd]
        exact z
      refine ⟨T1, _, rfl, .inl (.inl upd_same), rfl, _, _, rfl, _, _, rfl, rfl, ?_⟩
      refine ⟨_, rfl, rfl, _, rfl, ?_⟩
      rw [lit1 (c := 40) (by decide +kernel)]
      by_cases q : c = 40
      · subst q
        rw [decide_eq_true rfl]
        have n30 : d ≠ 30 := fun z => hall (by subst z; rfl)
        refine iteT ⟨_, rfl, rfl, _, rfl, ?_⟩
        refine iteIne (by omega) ⟨_, rfl, _, _, rfl, rfl, d + 1, some (.int (i : Nat)), some (.str ⟨#[40]⟩), rfl, s1.trans s2, hnext _ (by show (if (40 : Nat) = 40 then (if d = 30 then none else some (d + 1)) else _) = _; rw [if_pos rfl, if_neg n30])⟩
      · rw [decide_eq_false q]
        refine iteF ⟨_, rfl, rfl, _, rfl, ?_⟩
        rw [lit1 (c := 41) (by decide +kernel)]
        by_cases q2 : c = 41
        · subst q2
          rw [decide_eq_true rfl]
          have n0 : d ≠ 0 := fun z => hall (by subst z; rfl)
          refine iteT ⟨_, rfl, rfl, _, rfl, ?_⟩
          have e : ((d : Nat) : Int) - 1 = ((d - 1 : Nat) : Int) := by omega
          refine iteIne (by omega) ⟨_, rfl, _, _, rfl, rfl, d - 1, some (.int (i : Nat)), some (.str ⟨#[41]⟩), ?_, s1.trans s2, hnext _ (by show (if (41 : Nat) = 40 then _ else if (41 : Nat) = 41 then (if d = 0 then none else some (d - 1)) else _) = _; rw [if_neg (by decide), if_pos rfl, if_neg n0])⟩
          show [some (V.str x), some (V.int (((d : Nat) : Int) - 1)), some (.int (i : Nat)), some (.str ⟨#[41]⟩)] = _
          rw [e]
        · rw [decide_eq_false q2]
          exact iteF ⟨d, some (.int (i : Nat)), some (.str ⟨#[c]⟩), rfl, s1.trans s2, hnext _ (by show (if c = 40 then _ else if c = 41 then _ else some d) = _; rw [if_neg q, if_neg q2])⟩
    · rintro σ H1 ⟨d, v2, v3, rfl, s1, hd⟩
      rw [List.take_length, hb] at hd
      cases hd
      refine ⟨_, rfl, _, _, rfl, rfl, _, rfl, ?_⟩
      exact iteF (k _ s1)
abbrev s_p_pieces_of : Stmt := top 21
abbrev N_p_pieces_of : List Str := ["text", "found", "begin", "place", "sign"]
theorem sc_p_pieces_of : FnScope N_p_pieces_of ["text"] (defScope s_p_pieces_of) := ⟨rfl, rfl, rfl, by decide +kernel, rfl, by decide +kernel, by decide +kernel⟩
theorem ok_pieces_of (T : Txt mg) (D : At K mg "_pieces_of" s_p_pieces_of ["text"]) : Cl P w K mg base 1 "_pieces_of" (spPieces K) := by
  refine cl_of D sc_p_pieces_of (fun vs H Q E h => ?_) fun f cdv A outer s H vs Q E hr h => ?_
  · obtain ⟨x, rfl, _⟩ := h
    rfl
  · obtain ⟨x, rfl, hl, k⟩ := h
    refine ⟨_, (pss_cons (ps_set (i := 1) sc_p_pieces_of.nd rfl (Or.inl rfl) (pe_lst pa_nil))
      (pss_cons (ps_set (i := 2) sc_p_pieces_of.nd rfl (Or.inl rfl) pe_int)
      (pss_cons (ps_for PassesOwn.never rfl (pi_enumS (by rfl) T.enumerate (pa_cons (pe_op op_add_str (pv 0) pe_str) pa_nil)) (pg_tup (by rfl) (pgs_cons (pg_name (i := 3) sc_p_pieces_of.nd rfl (Or.inl rfl)) (pgs_cons (pg_name (i := 4) sc_p_pieces_of.nd rfl (Or.inl rfl)) pgs_nil)))
        (pss_one (ps_if (pt_cmpR op_in_sign (pv 4) pe_str (by rfl))
          (pss_mid (ps_if (pt_cmpR op_lt (pv 2) (pv 3) (nomark _))
            (pss_one (ps_expr (pe_bm PySem.F.plainAttrs_list PySem.F.slot_list_append PySem.F.type_list_append mt_append (pv 1) (pa_cons (pe_tup (pa_cons (pv 2) (pa_cons (pe_slice sl_str (pv 0) (po_some (pv 2)) (po_some (pv 3))) pa_nil))) pa_nil))))
            pss_nil)
          (pss_mid (ps_if (pt_cmpR op_in_sign (pv 4) pe_str (by rfl))
            (pss_one (ps_expr (pe_bm PySem.F.plainAttrs_list PySem.F.slot_list_append PySem.F.type_list_append mt_append (pv 1) (pa_cons (pe_tup (pa_cons (pv 3) (pa_cons (pv 4) pa_nil))) pa_nil))))
            pss_nil)
          (pss_one (ps_set (i := 2) sc_p_pieces_of.nd rfl (Or.inl rfl) (pe_op op_add (pv 3) pe_int)))))
          pss_nil)))
      (pss_one (ps_ret (pv 1)))))), ?_⟩
    have lx : (cs x).length ≤ 3000 := by rw [← len_cs]; exact hl
    have l1 : (" " : Str).length = 1 := by decide +kernel
    have e1 : cs (x ++ (" " : Str)) = cs x ++ [32] := by rw [cs_app]; rfl
    refine ⟨by show 0 ≤ sizeLine; decide, fun L hL => ?_⟩
    have s0 := same_new (o := .lst ([] : List V)) hL
    refine ⟨_, rfl, _, _, rfl, rfl, by rw [l1, sizeLine_eq]; omega, _, rfl, ?_⟩
    refine for_it walk_enumS (fun i σ H' => ∃ (b : Nat) (v3 v4 : Option V) (us : List V) (rs : List (Int × Str)), σ = [some (.str x), some (.ref L), some (.int (b : Nat)), v3, v4] ∧ Same H H' ∧ H' L = some (.lst us) ∧ DpAll K H' us (rs.map pieceD) ∧ b ≤ i ∧
        runT ([], []) ((cs x ++ [32]).take i) = (rs.map (·.2), ((cs x ++ [32]).take i).drop b) ∧ us.length ≤ 2 * i)
      ⟨0, _, _, [], [], rfl, s0, upd_same, .nil, Nat.le_refl _, rfl, Nat.zero_le _⟩ (fun _ _ _ _ _ => trivial) ?_ ?_
    · rintro i v σ H1 H2 hi ⟨b, v3, v4, us, rs, rfl, s1, hL1, hus, hb, hrun, hlen⟩ ⟨T1, y1, y2, rfl, hT, rfl, ee1, ee2⟩
      cases ee1
      obtain ⟨c, ec, rfl⟩ := Option.map_eq_some_iff.mp ee2
      rw [e1] at hi ec
      have sT := same_new (o := .tup [V.int (i : Nat), V.str ⟨#[c]⟩]) hT
      have s2 := s1.trans sT
      have hL2 := sT _ _ hL1
      have hus2 := dps_same sT _ _ hus
      have hT2 : SqT K (upd H1 T1 (.tup [V.int (i : Nat), V.str ⟨#[c]⟩])) T1 [V.int (i : Nat), V.str ⟨#[c]⟩] := .inl (.inl upd_same)
      generalize upd H1 T1 (.tup [V.int (i : Nat), V.str ⟨#[c]⟩]) = H2 at *
      have hi' : i ≤ (cs x).length := by rw [List.length_append] at hi; exact Nat.le_of_lt_succ hi
      have et : (cs x ++ [32]).take (i + 1) = (cs x ++ [32]).take i ++ [c] := take_snoc ec
      have etk : (cs x ++ [32]).take i = (cs x).take i := List.take_append_of_le_length hi'
      have hstep : runT ([], []) ((cs x ++ [32]).take (i + 1)) = stT (rs.map (·.2), ((cs x ++ [32]).take i).drop b) c := by
        rw [et, runT_app, hrun]
        rfl
      refine ⟨T1, _, rfl, hT2, rfl, _, _, rfl, _, _, rfl, rfl, ?_⟩
      refine ⟨_, rfl, c, _, rfl, rfl, _, rfl, ?_⟩
      have esep : decide (c ∈ ((" 
()" : Str)).cps.toList) = sep c := by
        rw [show ((" 
()" : Str)).cps.toList = [32, 10, 40, 41] by decide +kernel]
        unfold sep
        rw [Bool.eq_iff_iff, decide_eq_true_eq]
        simp [or_assoc]
      rw [esep]
      cases hsep : sep c with
      | false =>
        refine iteF ⟨b, _, _, us, rs, rfl, s2, hL2, hus2, by omega, ?_, by omega⟩
        rw [hstep, et]
        unfold stT
        rw [if_neg (by rw [hsep]; exact Bool.false_ne_true), List.drop_append_of_le_length (by rw [List.length_take, List.length_append]; show b ≤ min i ((cs x).length + 1); omega)]
      | true =>
        obtain ⟨cur, hcur⟩ : ∃ cur, cur = ((cs x ++ [32]).take i).drop b := ⟨_, rfl⟩
        have lcur : cur.length = i - b := by rw [hcur, List.length_drop, List.length_take, List.length_append]; show min i ((cs x).length + 1) - b = i - b; omega
        refine iteT ⟨fun σ' H' => ∃ (us2 : List V) (rs2 : List (Int × Str)), σ' = [some (.str x), some (.ref L), some (.int (b : Nat)), some (.int (i : Nat)), some (.str ⟨#[c]⟩)] ∧ Same H H' ∧ H' L = some (.lst us2) ∧ DpAll K H' us2 (rs2.map pieceD) ∧ rs2.map (·.2) = rs.map (·.2) ++ (if cur = [] then [] else [ofL cur]) ∧ us2.length ≤ us.length + 1, ?_, ?_⟩
        · refine ⟨_, rfl, _, rfl, _, _, rfl, rfl, _, rfl, ?_⟩
          by_cases hbi : b < i
          · have ne : cur ≠ [] := fun z => by rw [z] at lcur; simp at lcur; omega
            rw [show decide (((b : Nat) : Int) < ((i : Nat) : Int)) = true from decide_eq_true (by omega)]
            refine iteT ⟨_, rfl, .inl ⟨rfl, us, .inl (.inl hL2)⟩, _, rfl, _, rfl, _, rfl, _, rfl, _, rfl, _, rfl, x, rfl, by rw [sizeLine_eq]; omega, by show 2 ≤ sizeLine; decide, fun T2 hT2' => ?_⟩
            have sT2 := same_new (o := .tup [V.int (b : Nat), V.str (cutS x (some (b : Nat)) (some (i : Nat)))]) hT2'
            have ecut : cutS x (some ((b : Nat) : Int)) (some ((i : Nat) : Int)) = ofL cur := by
              apply cs_inj
              rw [cs_ofL, hcur, etk]
              unfold cutS
              rw [HT.sIx_nat, HT.sIx_nat]
              show cs (ofL _) = _
              rw [cs_ofL, Nat.min_eq_left (show b ≤ x.length by rw [len_cs]; omega), Nat.min_eq_left (show i ≤ x.length by rw [len_cs]; exact hi'), List.drop_take]
              rfl
            have hL3 := sT2 _ _ hL2
            have pu : ∀ {a : Addr} {ys zs : List V}, SqT K (upd H2 T2 (.tup [V.int (b : Nat), V.str (cutS x (some (b : Nat)) (some (i : Nat)))])) a ys → SqT K (upd (upd H2 T2 (.tup [V.int (b : Nat), V.str (cutS x (some (b : Nat)) (some (i : Nat)))])) L (.lst zs)) a ys := fun q => sqt_put hL3 q
            refine ⟨L, us, .ref T2, rfl, rfl, hL3, Nat.lt_of_le_of_lt (show us.length ≤ 6002 by omega) (by decide), us ++ [.ref T2], rs ++ [(((b : Nat) : Int), ofL cur)], rfl, same_put (s2.trans sT2) hL, upd_same, ?_, ?_, by rw [List.length_append]; exact Nat.le_refl _⟩
            · rw [List.map_append]
              refine DpAll.app (dps_keep (fun _ _ q => pu q) _ _ (flat_pieces rs) (dps_same sT2 _ _ hus2)) (.cons (.tup (pu (.inl (.inl upd_same))) (.cons (.int _) (.cons ?_ .nil))) .nil)
              rw [ecut]
              exact .str _
            · rw [if_neg ne, List.map_append]
              rfl
          · have nil : cur = [] := List.length_eq_zero_iff.mp (by omega)
            rw [show decide (((b : Nat) : Int) < ((i : Nat) : Int)) = false from decide_eq_false (by omega)]
            exact iteF ⟨us, rs, rfl, s2, hL2, hus2, by rw [if_pos nil, List.append_nil], by omega⟩
        · rintro σ' H3 ⟨us2, rs2, rfl, s3, hL3, hus3, hrs2, hl2⟩
          have fin : ∀ (us3 : List V) (rs3 : List (Int × Str)) (H4 : Hp), Same H H4 → H4 L = some (.lst us3) → DpAll K H4 us3 (rs3.map pieceD) → rs3.map (·.2) = rs2.map (·.2) ++ (if c = 40 ∨ c = 41 then [ofL [c]] else []) → us3.length ≤ us2.length + 1 →
              ∃ (b' : Nat) (v3 v4 : Option V) (us' : List V) (rs' : List (Int × Str)), [some (V.str x), some (.ref L), some (.int (((i : Nat) : Int) + 1)), some (.int (i : Nat)), some (.str ⟨#[c]⟩)] = [some (V.str x), some (.ref L), some (.int (b' : Nat)), v3, v4] ∧ Same H H4 ∧ H4 L = some (.lst us') ∧ DpAll K H4 us' (rs'.map pieceD) ∧ b' ≤ i + 1 ∧
              runT ([], []) ((cs x ++ [32]).take (i + 1)) = (rs'.map (·.2), ((cs x ++ [32]).take (i + 1)).drop b') ∧ us'.length ≤ 2 * (i + 1) := fun us3 rs3 H4 a1 a2 a3 a4 a5 => by
            refine ⟨i + 1, some (.int (i : Nat)), some (.str ⟨#[c]⟩), us3, rs3, rfl, a1, a2, a3, Nat.le_refl _, ?_, by omega⟩
            rw [hstep, a4, hrs2]
            unfold stT
            rw [if_pos hsep, ← hcur, List.drop_of_length_le (by rw [List.length_take]; omega)]
          refine ⟨fun σ' H' => ∃ (us3 : List V) (rs3 : List (Int × Str)), σ' = [some (.str x), some (.ref L), some (.int (b : Nat)), some (.int (i : Nat)), some (.str ⟨#[c]⟩)] ∧ Same H H' ∧ H' L = some (.lst us3) ∧ DpAll K H' us3 (rs3.map pieceD) ∧ rs3.map (·.2) = rs2.map (·.2) ++ (if c = 40 ∨ c = 41 then [ofL [c]] else []) ∧ us3.length ≤ us2.length + 1, ?_, ?_⟩
          · refine ⟨_, rfl, c, _, rfl, rfl, _, rfl, ?_⟩
            have eb : decide (c ∈ (("()" : Str)).cps.toList) = decide (c = 40 ∨ c = 41) := by
              rw [show (("()" : Str)).cps.toList = [40, 41] by decide +kernel, Bool.eq_iff_iff, decide_eq_true_eq, decide_eq_true_eq]
              simp
            rw [eb]
            by_cases q : c = 40 ∨ c = 41
            · rw [decide_eq_true q]
              refine iteT ⟨_, rfl, .inl ⟨rfl, us2, .inl (.inl hL3)⟩, _, rfl, _, rfl, by show 2 ≤ sizeLine; decide, fun T2 hT2' => ?_⟩
              have sT2 := same_new (o := .tup [V.int (i : Nat), V.str ⟨#[c]⟩]) hT2'
              have hL4 := sT2 _ _ hL3
              have pu : ∀ {a : Addr} {ys zs : List V}, SqT K (upd H3 T2 (.tup [V.int (i : Nat), V.str ⟨#[c]⟩])) a ys → SqT K (upd (upd H3 T2 (.tup [V.int (i : Nat), V.str ⟨#[c]⟩])) L (.lst zs)) a ys := fun q => sqt_put hL4 q
              refine ⟨L, us2, .ref T2, rfl, rfl, hL4, Nat.lt_of_le_of_lt (show us2.length ≤ 6003 by omega) (by decide), us2 ++ [.ref T2], rs2 ++ [(((i : Nat) : Int), ofL [c])], rfl, same_put (s3.trans sT2) hL, upd_same, ?_, ?_, by rw [List.length_append]; exact Nat.le_refl _⟩
              · rw [List.map_append]
                exact DpAll.app (dps_keep (fun _ _ q => pu q) _ _ (flat_pieces rs2) (dps_same sT2 _ _ hus3)) (.cons (.tup (pu (.inl (.inl upd_same))) (.cons (.int _) (.cons (.str _) .nil))) .nil)
              · rw [if_pos q, List.map_append]
                rfl
            · rw [decide_eq_false q]
              exact iteF ⟨us2, rs2, rfl, s3, hL3, hus3, by rw [if_neg q, List.append_nil], by omega⟩
          · rintro σ' H4 ⟨us3, rs3, rfl, a1, a2, a3, a4, a5⟩
            exact ⟨_, rfl, _, _, rfl, rfl, fin us3 rs3 H4 a1 a2 a3 a4 a5⟩
    · rintro σ H1 ⟨b, v3, v4, us, rs, rfl, s1, hL1, hus, hb, hrun, hlen⟩
      rw [e1, List.take_length] at hrun
      refine ⟨_, rfl, k L us rs H1 s1 hL hL1 hus ?_ ?_⟩
      · rw [hrun]
      · rw [e1, List.length_append] at hlen
        have : us.length ≤ 2 * ((cs x).length + 1) := hlen
        omega
end
end K00

namespace K00
open PySem L2 Cm
def spNodes (K : PySem.W.Frag) : Sp := fun vs H Q _ => ∃ (x : Str) (ns : List Nd), vs = [.str x] ∧ x.length ≤ 3000 ∧ Lays (cs x) ns ∧
  ∀ (L : Addr) (us : List V) (S : Addr → Prop) (H' : Hp), Same H H' → H' L = some (.lst us) → NdsV K H' S ns us → Q (.ref L) H'
/-- the rows while the text is read -/
structure Rs (K : PySem.W.Frag) (H0 H : Hp) (R l : Addr) (st : List (List Nd)) (Ls : List Addr) (S : Addr → Prop) (i : Nat) : Prop where
  rows : H R = some (.lst (Ls.reverse.map V.ref))
  lv : LvV K H S R none st Ls
  sR : ¬ S R
  sa : ∀ L, S L → H L ≠ none
  ll : l ≠ R ∧ ¬ S l ∧ l ∉ Ls
  new : ∀ L ∈ Ls, H0 L = none
  nR : H0 R = none
  same : Same H0 H
  len : ∀ s ∈ st, s.length ≤ i
  ln : Ls.length ≤ i + 1
theorem Rs.top {K : PySem.W.Frag} {H0 H : Hp} {R l : Addr} {s : List Nd} {r : List (List Nd)} {Ls : List Addr} {S : Addr → Prop} {i : Nat} (z : Rs K H0 H R l (s :: r) Ls S i) :
    ∃ (L : Addr) (Lr : List Addr) (vs : List V), Ls = L :: Lr ∧ H L = some (.lst vs) ∧ NdsV K H S s vs ∧ ¬ S L ∧ L ≠ R ∧ L ∉ Lr ∧ LvV K H S R (some L) r Lr := by
  obtain ⟨L, Lr, vs, e, a, b, c, d, f, g, h, j⟩ := z.lv
  have d' : e = [] := d
  subst d'
  rw [List.append_nil] at b
  exact ⟨L, Lr, vs, a, b, c, f, g, h, j⟩
section
variable {P : Program} {w : World} {K : PySem.W.Frag} {mg : Str → Option Value} {base : Heap}
abbrev s_p_nodes_of : Stmt := top 20
abbrev N_p_nodes_of : List Str := ["text", "rows", "place", "word", "inner"]
theorem sc_p_nodes_of : FnScope N_p_nodes_of ["text"] (defScope s_p_nodes_of) := ⟨rfl, rfl, rfl, by decide +kernel, rfl, by decide +kernel, by decide +kernel⟩
theorem ok_nodes_of (T : Txt mg) (c_p_pieces_of : Cl P w K mg base 1 "_pieces_of" (spPieces K)) (D : At K mg "_nodes_of" s_p_nodes_of ["text"]) : Cl P w K mg base 2 "_nodes_of" (spNodes K) := by
  refine cl_of D sc_p_nodes_of (fun vs H Q E h => ?_) fun f cdv A outer s H vs Q E hr h => ?_
  · obtain ⟨x, ns, rfl, _⟩ := h
    rfl
  · obtain ⟨x, ns, rfl, hl, hlay, k⟩ := h
    refine ⟨_, (pss_cons (ps_set (i := 1) sc_p_nodes_of.nd rfl (Or.inl rfl) (pe_lst (pa_cons (pe_lst pa_nil) pa_nil)))
      (pss_cons (ps_for PassesOwn.never rfl (pi_list (pe_c c_p_pieces_of hr (by omega) (by rfl) (pa_cons (pv 0) pa_nil))) (pg_tup (by rfl) (pgs_cons (pg_name (i := 2) sc_p_nodes_of.nd rfl (Or.inl rfl)) (pgs_cons (pg_name (i := 3) sc_p_nodes_of.nd rfl (Or.inl rfl)) pgs_nil)))
        (pss_one (ps_if (pt_cmpR op_eq (pv 3) pe_str (nomark _))
          (pss_cons (ps_set (i := 4) sc_p_nodes_of.nd rfl (Or.inl rfl) (pe_lst pa_nil))
          (pss_cons (ps_expr (pe_bm PySem.F.plainAttrs_list PySem.F.slot_list_append PySem.F.type_list_append mt_append (pe_ix ix_list (pv 1) (pe_un un_neg pe_int) (fun _ _ => rfl)) (pa_cons (pe_tup (pa_cons (pv 2) (pa_cons (pv 4) pa_nil))) pa_nil)))
          (pss_one (ps_expr (pe_bm PySem.F.plainAttrs_list PySem.F.slot_list_append PySem.F.type_list_append mt_append (pv 1) (pa_cons (pv 4) pa_nil))))))
          (pss_one (ps_if (pt_cmpR op_eq (pv 3) pe_str (nomark _))
            (pss_one (ps_expr (pe_bm0 PySem.F.plainAttrs_list PySem.F.slot_list_pop PySem.F.type_list_pop mt_pop (pv 1))))
            (pss_one (ps_expr (pe_bm PySem.F.plainAttrs_list PySem.F.slot_list_append PySem.F.type_list_append mt_append (pe_ix ix_list (pv 1) (pe_un un_neg pe_int) (fun _ _ => rfl)) (pa_cons (pe_tup (pa_cons (pv 2) (pa_cons (pv 3) pa_nil))) pa_nil)))))))))
      (pss_one (ps_ret (pe_ix ix_list (pv 1) pe_int (fun _ _ => rfl)))))), ?_⟩
    have hrun := runO_all (good_lays hlay)
    refine ⟨by show 0 ≤ sizeLine; decide, fun L0 hL0 => ⟨by show 1 ≤ sizeLine; decide, fun R hR => ?_⟩⟩
    have s0 := same_new (o := .lst ([] : List V)) hL0
    have s1 := same_new (o := .lst [V.ref L0]) hR
    have eL0 := s1 _ _ (upd_same (H := H) (a := L0) (o := .lst ([] : List V)))
    have eR : upd (upd H L0 (.lst [])) R (.lst [V.ref L0]) R = some (.lst [V.ref L0]) := upd_same
    have nLR : L0 ≠ R := ne_of_none (upd_same (H := H) (a := L0) (o := .lst ([] : List V))) hR
    have S1 := s0.trans s1
    have nR : H R = none := free_of s0 hR
    generalize upd (upd H L0 (.lst [])) R (.lst [V.ref L0]) = H1 at *
    refine ⟨_, rfl, x, rfl, hl, fun l us rs H2 s2 nl hl2 hus hrs hlen => ?_⟩
    have hrs' : rs.map (·.2) = Nd.tokss ns := by rw [hrs, pieces_lays hlay]
    have hul : us.length = rs.length := by have := DpAll.len hus; rwa [List.length_map] at this
    refine ⟨l, rfl, ⟨_, .inl (.inl hl2)⟩, ?_⟩
    refine for_it (walk_list (xs := us)) (fun i σ H' => ∃ (st : List (List Nd)) (Ls : List Addr) (S : Addr → Prop) (v2 v3 v4 : Option V), σ = [some (.str x), some (.ref R), v2, v3, v4] ∧ runO [[]] ((Nd.tokss ns).take i) = some st ∧ Rs K H H' R l st Ls S i ∧ H' l = some (.lst us) ∧ DpAll K H' us (rs.map pieceD))
      ⟨[[]], [L0], fun _ => False, _, _, _, rfl, rfl, ?_, hl2, hus⟩ (fun i σ H' _ z => ?_) ?_ ?_
    · refine ⟨s2 _ _ eR, ⟨L0, [], [], [], rfl, s2 _ _ eL0, rfl, rfl, fun z => z, nLR, List.not_mem_nil, rfl⟩, fun z => z, fun L z => z.elim, ⟨(ne_of_none eR nl).symm, fun z => z, fun z => ?_⟩, fun L m => ?_, nR, S1.trans s2, fun s m => ?_, Nat.le_refl _⟩
      · rw [List.mem_singleton.mp z, eL0] at nl
        cases nl
      · rw [List.mem_singleton.mp m]; exact hL0
      · rw [List.mem_singleton.mp m]; exact Nat.le_refl _
    · obtain ⟨_, _, _, _, _, _, _, _, _, z, _⟩ := z
      exact .inl (.inl z)
    · rintro i x0 σ H3 H3' hi ⟨st, Ls, S, v2, v3, v4, rfl, hst, hR3, hl3, hus3⟩ ⟨rfl, e2⟩
      obtain ⟨d, g1, g2⟩ := DpAll.atV hus3 e2
      obtain ⟨⟨p, wd⟩, er, rfl⟩ := map_at g1
      have ew : (Nd.tokss ns)[i]? = some wd := by rw [← hrs', List.getElem?_map, er]; rfl
      obtain ⟨t, its, rfl, ht, hi2⟩ := dp_tup g2
      obtain rfl : its = [.int p, .str wd] := by
        cases hi2 with
        | cons a b =>
          obtain ⟨u, rfl, c⟩ := dpAll_one b
          rw [dp_int a, dp_str c]
      obtain ⟨st', est', _⟩ : ∃ st', stO st wd = some st' ∧ True := by
        obtain ⟨s', e1, _⟩ := runO_take hrun (i + 1)
        rw [take_snoc ew, runO_app, hst] at e1
        cases z : stO st wd with
        | none =>
          have e1' : (stO st wd).bind (fun st' => runO st' []) = some s' := e1
          rw [z] at e1'
          cases e1'
        | some st' => exact ⟨st', rfl, trivial⟩
      have hst' : runO [[]] ((Nd.tokss ns).take (i + 1)) = some st' := by
        rw [take_snoc ew, runO_app, hst]
        show (stO st wd).bind (fun st' => runO st' []) = some st'
        rw [est']
        rfl
      obtain ⟨s, r, rfl⟩ : ∃ s r, st = s :: r := by
        cases st with
        | nil => cases est'
        | cons s r => exact ⟨s, r, rfl⟩
      obtain ⟨L, Lr, vs, rfl, hL, hvs, nSL, nLR2, nLr, hlv⟩ := hR3.top
      have hrows := hR3.rows
      have hlast : atI ((L :: Lr).reverse.map V.ref) (-1) = some (.ref L) := by
        rw [List.reverse_cons, List.map_append]
        exact atI_last _ _
      have lvs : vs.length ≤ i := by rw [hvs.len]; exact hR3.len s List.mem_cons_self
      have lLs : (L :: Lr).length ≤ i + 1 := hR3.ln
      have hi10 : i < 10000 := by omega
      rw [stO_eq] at est'
      refine ⟨t, _, rfl, ht, rfl, _, _, rfl, _, _, rfl, rfl, ?_⟩
      refine ⟨_, rfl, rfl, _, rfl, ?_⟩
      rw [decS]
      by_cases q1 : wd = "("
      · rw [decide_eq_true q1]
        rw [if_pos q1] at est'
        cases est'
        have thr := hR3.lv.there
        refine iteT ⟨by show 0 ≤ sizeLine; decide, fun I hI => ?_⟩
        have sI := same_new (o := .lst ([] : List V)) hI
        have nIR : I ≠ R := (ne_of_none hrows hI).symm
        have nIL : I ∉ L :: Lr := fun m => by
          obtain ⟨ws, e⟩ := thr I m
          rw [hI] at e
          cases e
        have nSI : ¬ S I := fun z => hR3.sa I z hI
        have nHI : H I = none := free_of hR3.same hI
        have nIl : I ≠ l := (ne_of_none hl3 hI).symm
        refine ⟨_, rfl, _, rfl, R, _, _, _, rfl, rfl, .inl (.inl (sI _ _ hrows)), hlast, .inl ⟨rfl, vs, .inl (.inl (sI _ _ hL))⟩, _, rfl, _, rfl, by show 2 ≤ sizeLine; decide, fun T2 hT2 => ?_⟩
        have sT := same_new (o := .tup [V.int p, V.ref I]) hT2
        obtain ⟨H4, eH4⟩ : ∃ H4, H4 = upd (upd H3' I (.lst [])) T2 (.tup [V.int p, V.ref I]) := ⟨_, rfl⟩
        have hT4 : SqT K H4 T2 [V.int p, V.ref I] := by rw [eH4]; exact .inl (.inl upd_same)
        have hI4 : H4 I = some (.lst []) := by rw [eH4]; exact sT _ _ upd_same
        have s4 : Same H3' H4 := by rw [eH4]; exact sI.trans sT
        have hL4 := s4 _ _ hL
        have nLI : L ≠ I := fun z => nIL (z ▸ List.mem_cons_self)
        refine ⟨L, vs, .ref T2, rfl, rfl, by rw [← eH4]; exact hL4, Nat.lt_of_le_of_lt (show vs.length ≤ 10000 by omega) (by decide), ?_⟩
        rw [← eH4]
        obtain ⟨H5, eH5⟩ : ∃ H5, H5 = upd H4 L (.lst (vs ++ [.ref T2])) := ⟨_, rfl⟩
        rw [← eH5]
        have hR5 : H5 R = some (.lst ((L :: Lr).reverse.map V.ref)) := by rw [eH5, upd_ne nLR2.symm]; exact s4 _ _ hrows
        refine ⟨_, rfl, .inl ⟨rfl, _, .inl (.inl hR5)⟩, _, rfl, R, _, .ref I, rfl, rfl, hR5, ?_, ?_⟩
        · rw [List.length_map, List.length_reverse]
          exact Nat.lt_of_le_of_lt (show (L :: Lr).length ≤ 10001 by omega) (by decide)
        obtain ⟨H6, eH6⟩ : ∃ H6, H6 = upd H5 R (.lst ((L :: Lr).reverse.map V.ref ++ [.ref I])) := ⟨_, rfl⟩
        rw [← eH6]
        have pt : ∀ (a : Addr) (ys : List V), SqT K H4 a ys → SqT K H6 a ys := fun a ys q => by rw [eH6]; exact sqt_put hR5 (by rw [eH5]; exact sqt_put hL4 q)
        have keep4 : ∀ a o, H4 a = some o → a ≠ L → a ≠ R → H6 a = some o := fun a o e n1 n2 => by rw [eH6, upd_ne n2, eH5, upd_ne n1]; exact e
        have keepL : ∀ a o, H3' a = some o → a ≠ L → a ≠ R → H6 a = some o := fun a o e n1 n2 => keep4 _ _ (s4 _ _ e) n1 n2
        have pt3 : ∀ (a : Addr) (ys : List V), SqT K H3' a ys → SqT K H6 a ys := fun a ys q => pt _ _ (sqt_same s4 q)
        have kS : ∀ M ws, S M → H3' M = some (.lst ws) → S M ∧ H6 M = some (.lst ws) := fun M ws sm e => ⟨sm, keepL _ _ e (fun z => nSL (z ▸ sm)) fun z => hR3.sR (z ▸ sm)⟩
        have thr2 : ∀ M ∈ Lr, M ≠ R := fun M m => by
          have : ∀ {st : List (List Nd)} {ch : Option Addr} {Ls : List Addr}, LvV K H3' S R ch st Ls → ∀ M ∈ Ls, M ≠ R := fun {st} => by
            induction st with
            | nil => intro ch Ls h M m; rw [show Ls = [] from h] at m; cases m
            | cons s r ih =>
              intro ch Ls h M m
              obtain ⟨L', Lr', vs', e', rfl, _, _, _, _, b, _, i'⟩ := h
              rcases List.mem_cons.mp m with rfl | m
              · exact b
              · exact ih i' M m
          exact this hlv M m
        refine ⟨_, I :: L :: Lr, S, _, _, _, rfl, hst', ?_, keepL _ _ hl3 (fun z => hR3.ll.2.2 (by rw [z]; exact List.mem_cons_self)) hR3.ll.1, dps_keep (fun _ _ q => pt3 _ _ q) _ _ (flat_pieces rs) hus3⟩
        refine ⟨?_, ⟨I, L :: Lr, [], [], rfl, keep4 _ _ hI4 nLI.symm nIR, rfl, rfl, nSI, nIR, nIL, ⟨L, Lr, vs, [.ref T2], rfl, ?_, NdsV.keep pt3 kS s vs hvs, ⟨T2, p, rfl, pt _ _ hT4⟩, nSL, nLR2, nLr, ?_⟩⟩, hR3.sR, fun M sm => ?_, ⟨hR3.ll.1, hR3.ll.2.1, fun m => ?_⟩, fun M m => ?_, hR3.nR, ?_, fun u m => ?_, ?_⟩
        · rw [eH6, upd_same, List.reverse_cons (a := I), List.map_append]
          rfl
        · rw [eH6, upd_ne nLR2, eH5, upd_same]
        · exact LvV.keep pt3 kS (fun M m ws e => keepL _ _ e (fun z => nLr (z ▸ m)) (thr2 M m)) (fun _ _ z => z) hlv
        · have := hR3.sa M sm
          cases e : H3' M with
          | none => exact absurd e this
          | some o => rw [keepL _ _ e (fun z => nSL (z ▸ sm)) fun z => hR3.sR (z ▸ sm)]; exact fun z => by cases z
        · rcases List.mem_cons.mp m with z | m
          · exact nIl z.symm
          · exact hR3.ll.2.2 m
        · rcases List.mem_cons.mp m with rfl | m
          · exact nHI
          · exact hR3.new M m
        · intro b o e
          have hb : b ≠ L := fun z => by rw [z, hR3.new L List.mem_cons_self] at e; cases e
          have hb2 : b ≠ R := fun z => by rw [z, hR3.nR] at e; cases e
          exact keepL _ _ (hR3.same _ _ e) hb hb2
        · rcases List.mem_cons.mp m with rfl | m
          · exact Nat.zero_le _
          · exact Nat.le_succ_of_le (hR3.len u m)
        · rw [List.length_cons]
          omega
      rw [decide_eq_false q1]
      rw [if_neg q1] at est'
      refine iteF ⟨_, rfl, rfl, _, rfl, ?_⟩
      rw [decS]
      by_cases q2 : wd = ")"
      · rw [decide_eq_true q2]
        rw [if_pos q2] at est'
        cases r with
        | nil => cases est'
        | cons p2 r' =>
        cases est'
        obtain ⟨L2, Lr2, vs2, e2', rfl, hL2, hvs2, ⟨t0, p0, rfl, ht0⟩, nSL2, nLR3, nLr2, hlv2⟩ := hlv
        have nL2L : L2 ≠ L := fun z => nLr (z ▸ List.mem_cons_self)
        have ey : ((L :: L2 :: Lr2).reverse.map V.ref)[((L :: L2 :: Lr2).reverse.map V.ref).length - 1]? = some (.ref L) := by
          rw [List.reverse_cons, List.map_append, List.length_append]
          simp
        refine iteT ⟨_, rfl, .inl ⟨rfl, _, .inl (.inl hrows)⟩, R, _, _, rfl, rfl, hrows, ey, ?_⟩
        have ed : ((L :: L2 :: Lr2).reverse.map V.ref).dropLast = (L2 :: Lr2).reverse.map V.ref := by
          rw [List.reverse_cons (a := L), List.map_append]
          exact List.dropLast_concat
        rw [ed]
        obtain ⟨H4, eH4⟩ : ∃ H4, H4 = upd H3' R (.lst ((L2 :: Lr2).reverse.map V.ref)) := ⟨_, rfl⟩
        rw [← eH4]
        have pt : ∀ (a : Addr) (ys : List V), SqT K H3' a ys → SqT K H4 a ys := fun a ys q => by rw [eH4]; exact sqt_put hrows q
        have keepL : ∀ a o, H3' a = some o → a ≠ R → H4 a = some o := fun a o e n => by rw [eH4, upd_ne n]; exact e
        have kS : ∀ M ws, S M → H3' M = some (.lst ws) → (S M ∨ M = L) ∧ H4 M = some (.lst ws) := fun M ws sm e => ⟨.inl sm, keepL _ _ e fun z => hR3.sR (z ▸ sm)⟩
        have thr2 : ∀ M ∈ Lr2, M ≠ R := fun M m => by
          have : ∀ {st : List (List Nd)} {ch : Option Addr} {Ls : List Addr}, LvV K H3' S R ch st Ls → ∀ M ∈ Ls, M ≠ R := fun {st} => by
            induction st with
            | nil => intro ch Ls h M m; rw [show Ls = [] from h] at m; cases m
            | cons s r ih =>
              intro ch Ls h M m
              obtain ⟨L', Lr', vs', e', rfl, _, _, _, _, b, _, i'⟩ := h
              rcases List.mem_cons.mp m with rfl | m
              · exact b
              · exact ih i' M m
          exact this hlv2 M m
        refine ⟨_, L2 :: Lr2, fun M => S M ∨ M = L, _, _, _, rfl, hst', ?_, keepL _ _ hl3 hR3.ll.1, dps_keep (fun _ _ q => pt _ _ q) _ _ (flat_pieces rs) hus3⟩
        refine ⟨?_, ⟨L2, Lr2, vs2 ++ [.ref t0], [], rfl, ?_, NdsV.snoc (n := .l s) ⟨t0, p0, L, vs, rfl, pt _ _ ht0, .inr rfl, keepL _ _ hL nLR2, NdsV.keep pt kS s vs hvs⟩ (NdsV.keep pt kS p2 vs2 hvs2), rfl, ?_, nLR3, nLr2, ?_⟩, ?_, fun M sm => ?_, ⟨hR3.ll.1, ?_, fun m => hR3.ll.2.2 (List.mem_cons_of_mem _ m)⟩, fun M m => hR3.new M (List.mem_cons_of_mem _ m), hR3.nR, ?_, fun u m => ?_, ?_⟩
        · rw [eH4, upd_same]
        · rw [List.append_nil]; exact keepL _ _ hL2 nLR3
        · exact fun z => z.elim nSL2 nL2L
        · exact LvV.keep pt kS (fun M m ws e => keepL _ _ e (thr2 M m)) (fun M m ns z => z.elim ns fun z => nLr (z ▸ List.mem_cons_of_mem _ m)) hlv2
        · exact fun z => z.elim hR3.sR fun z => nLR2 z.symm
        · rcases sm with sm | rfl
          · have := hR3.sa M sm
            cases e : H3' M with
            | none => exact absurd e this
            | some o => rw [keepL _ _ e fun z => hR3.sR (z ▸ sm)]; exact fun z => by cases z
          · rw [keepL _ _ hL nLR2]; exact fun z => by cases z
        · exact fun z => z.elim hR3.ll.2.1 fun z => hR3.ll.2.2 (by rw [z]; exact List.mem_cons_self)
        · intro b o e
          have hb2 : b ≠ R := fun z => by rw [z, hR3.nR] at e; cases e
          exact keepL _ _ (hR3.same _ _ e) hb2
        · rcases List.mem_cons.mp m with rfl | m
          · rw [List.length_append]
            exact Nat.succ_le_succ (hR3.len p2 (List.mem_cons_of_mem _ List.mem_cons_self))
          · exact Nat.le_succ_of_le (hR3.len u (List.mem_cons_of_mem _ (List.mem_cons_of_mem _ m)))
        · rw [List.length_cons] at lLs
          omega
      rw [decide_eq_false q2]
      rw [if_neg q2] at est'
      cases est'
      refine iteF ⟨_, rfl, _, rfl, R, _, _, _, rfl, rfl, .inl (.inl hrows), hlast, .inl ⟨rfl, vs, .inl (.inl hL)⟩, _, rfl, _, rfl, by show 2 ≤ sizeLine; decide, fun T2 hT2 => ?_⟩
      have sT := same_new (o := .tup [V.int p, V.str wd]) hT2
      obtain ⟨H4, eH4⟩ : ∃ H4, H4 = upd H3' T2 (.tup [V.int p, V.str wd]) := ⟨_, rfl⟩
      have hT4 : SqT K H4 T2 [V.int p, V.str wd] := by rw [eH4]; exact .inl (.inl upd_same)
      rw [← eH4] at sT
      have hL4 := sT _ _ hL
      refine ⟨L, vs, .ref T2, rfl, rfl, by rw [← eH4]; exact hL4, Nat.lt_of_le_of_lt (show vs.length ≤ 10000 by omega) (by decide), ?_⟩
      rw [← eH4]
      have pu : ∀ {a : Addr} {ys zs : List V}, SqT K H4 a ys → SqT K (upd H4 L (.lst zs)) a ys := fun q => sqt_put hL4 q
      have pt : ∀ (a : Addr) (ys : List V), SqT K H3' a ys → SqT K (upd H4 L (.lst (vs ++ [.ref T2]))) a ys := fun a ys q => pu (sqt_same sT q)
      have keepL : ∀ a o, H3' a = some o → a ≠ L → (upd H4 L (.lst (vs ++ [.ref T2]))) a = some o := fun a o e n => by rw [upd_ne n]; exact sT _ _ e
      have kS : ∀ M ws, S M → H3' M = some (.lst ws) → S M ∧ (upd H4 L (.lst (vs ++ [.ref T2]))) M = some (.lst ws) := fun M ws sm e => ⟨sm, keepL _ _ e fun z => nSL (z ▸ sm)⟩
      refine ⟨_, L :: Lr, S, _, _, _, rfl, hst', ?_, keepL _ _ hl3 (fun z => hR3.ll.2.2 (by rw [z]; exact List.mem_cons_self)), dps_keep (fun _ _ q => pt _ _ q) _ _ (flat_pieces rs) hus3⟩
      refine ⟨keepL _ _ hrows nLR2.symm, ⟨L, Lr, vs ++ [.ref T2], [], rfl, ?_, ?_, rfl, nSL, nLR2, nLr, ?_⟩, hR3.sR, fun M sm => ?_, hR3.ll, hR3.new, hR3.nR, ?_, fun u m => ?_, by omega⟩
      · rw [upd_same, List.append_nil]
      · exact NdsV.snoc (n := .w wd) ⟨T2, p, rfl, pu hT4⟩ (NdsV.keep pt kS s vs hvs)
      · exact LvV.keep pt kS (fun M m ws e => keepL _ _ e fun z => nLr (z ▸ m)) (fun _ _ z => z) hlv
      · by_cases z : M = L
        · exact absurd (z ▸ sm) nSL
        · have := hR3.sa M sm
          cases e : H3' M with
          | none => exact absurd e this
          | some o => rw [keepL _ _ e z]; exact fun z => by cases z
      · intro b o e
        have hb : b ≠ L := fun z => by rw [z, hR3.new L List.mem_cons_self] at e; cases e
        exact keepL _ _ (hR3.same _ _ e) hb
      · rcases List.mem_cons.mp m with rfl | m
        · rw [List.length_append]
          exact Nat.succ_le_succ (hR3.len s List.mem_cons_self)
        · exact Nat.le_succ_of_le (hR3.len u (List.mem_cons_of_mem _ m))
    · rintro σ H3 ⟨st, Ls, S, v2, v3, v4, rfl, hst, hR3, hl3, hus3⟩
      rw [List.take_of_length_le (by rw [← hrs', List.length_map]; omega), hrun] at hst
      cases hst
      obtain ⟨L, Lr, vs, rfl, hL, hvs, nSL, nLR2, nLr, hlv⟩ := hR3.top
      have hlv' : Lr = [] := hlv
      subst hlv'
      refine ⟨_, rfl, R, _, _, _, rfl, rfl, .inl (.inl hR3.rows), atI_nat (j := 0) rfl, k L vs S H3 hR3.same hL hvs⟩
end
end K00

namespace K00
open PySem L2 Cm
def isW : Nd → Bool
  | .w _ => true
  | .l _ => false
def fw1 : Nd → Option Str
  | .w _ => none
  | .l ns => fst ns
def oS : Option Str → V
  | some s => .str s
  | none => .non
def spIsWord (K : PySem.W.Frag) : Sp := fun vs H Q _ => ∃ (v : V) (n : Nd) (S : Addr → Prop), vs = [v] ∧ NdV K H S n v ∧ Q (.bl (isW n)) H
def spFst (K : PySem.W.Frag) : Sp := fun vs H Q _ => ∃ (v : V) (n : Nd) (S : Addr → Prop), vs = [v] ∧ NdV K H S n v ∧ Q (oS (fw1 n)) H
/-- what is not a list of nodes: words; a node: what stands in it -/
theorem ndv_tup {K : PySem.W.Frag} {H : Hp} {S : Addr → Prop} : ∀ {n : Nd} {v : V}, NdV K H S n v → ∃ (t : Addr) (p : Int) (x : V), v = .ref t ∧ SqT K H t [.int p, x] ∧ (match n with
    | .w s => x = .str s
    | .l ns => ∃ (L : Addr) (vs : List V), x = .ref L ∧ S L ∧ H L = some (.lst vs) ∧ NdsV K H S ns vs)
  | .w s, v, h => by
    obtain ⟨t, p, e, q⟩ := h
    exact ⟨t, p, _, e, q, rfl⟩
  | .l ns, v, h => by
    obtain ⟨t, p, L, vs, e, q, a, b, c⟩ := h
    exact ⟨t, p, _, e, q, L, vs, rfl, a, b, c⟩
theorem kit_str : PySem.W.kitOne (K : PySem.W.Frag) (.type "str") (.type "str") = some true := kit_ty (by decide +kernel)
theorem kit_lst : PySem.W.kitOne (K : PySem.W.Frag) (.type "list") (.type "str") = some false := kit_ty (by decide +kernel)
theorem inV_non (ws : List Str) : inV .non (ws.map V.str) = false := by
  induction ws with
  | nil => rfl
  | cons w ws ih =>
    show (eqV (V.str w) .non || inV .non (ws.map V.str)) = false
    rw [ih]
    rfl
theorem NdsV.same {K : PySem.W.Frag} {H H' : Hp} {S : Addr → Prop} {ns : List Nd} {vs : List V} (s : Same H H') (h : NdsV K H S ns vs) : NdsV K H' S ns vs :=
  NdsV.keep (fun _ _ q => sqt_same s q) (fun _ _ z e => ⟨z, s _ _ e⟩) ns vs h
theorem NdV.same {K : PySem.W.Frag} {H H' : Hp} {S : Addr → Prop} {n : Nd} {v : V} (s : Same H H') (h : NdV K H S n v) : NdV K H' S n v :=
  NdV.keep (fun _ _ q => sqt_same s q) (fun _ _ z e => ⟨z, s _ _ e⟩) n v h
section
variable {P : Program} {w : World} {K : PySem.W.Frag} {mg : Str → Option Value} {base : Heap}
abbrev s_p_is_word : Stmt := top 22
abbrev N_p_is_word : List Str := ["node"]
theorem sc_p_is_word : FnScope N_p_is_word ["node"] (defScope s_p_is_word) := ⟨rfl, rfl, rfl, by decide +kernel, rfl, by decide +kernel, by decide +kernel⟩
theorem ok_is_word (T : Txt mg) (D : At K mg "_is_word" s_p_is_word ["node"]) : Cl P w K mg base 1 "_is_word" (spIsWord K) := by
  refine cl_of D sc_p_is_word (fun vs H Q E h => ?_) fun f cdv A outer s H vs Q E hr h => ?_
  · obtain ⟨v, n, S, rfl, _⟩ := h
    rfl
  · obtain ⟨v, n, S, rfl, hn, k⟩ := h
    refine ⟨_, (pss_one (ps_ret (pe_callB call_isi (by rfl) T.isinstance (by decide +kernel) (pa_cons (pe_ix ix_tup (pv 0) pe_int (fun _ _ => rfl)) (pa_cons (pe_bltn (v := .ty "str") (by rfl) T.str (by rfl) (show RelV (.ty "str") (.type "str") from rfl)) pa_nil))))), ?_⟩
    obtain ⟨t, p, x, rfl, ht, hx⟩ := ndv_tup hn
    cases n with
    | w s =>
      cases hx
      exact ⟨_, rfl, t, _, _, _, rfl, rfl, ht, atI_nat (j := 1) rfl, _, _, _, _, true, rfl, .ty _, .base (.str _), kit_str, k⟩
    | l ns =>
      obtain ⟨L, vs, rfl, _, hL, _⟩ := hx
      exact ⟨_, rfl, t, _, _, _, rfl, rfl, ht, atI_nat (j := 1) rfl, _, _, _, _, false, rfl, .ty _, .base (.lst hL), kit_lst, k⟩
abbrev s_p_first_word : Stmt := top 23
abbrev N_p_first_word : List Str := ["node"]
theorem sc_p_first_word : FnScope N_p_first_word ["node"] (defScope s_p_first_word) := ⟨rfl, rfl, rfl, by decide +kernel, rfl, by decide +kernel, by decide +kernel⟩
theorem ok_first_word (T : Txt mg) (c_p_is_word : Cl P w K mg base 1 "_is_word" (spIsWord K)) (D : At K mg "_first_word" s_p_first_word ["node"]) : Cl P w K mg base 2 "_first_word" (spFst K) := by
  refine cl_of D sc_p_first_word (fun vs H Q E h => ?_) fun f cdv A outer s H vs Q E hr h => ?_
  · obtain ⟨v, n, S, rfl, _⟩ := h
    rfl
  · obtain ⟨v, n, S, rfl, hn, k⟩ := h
    refine ⟨_, (pss_cons (ps_if (PW.pt (pw_or (pt_val (pe_c c_p_is_word hr (by decide) (by rfl) (pa_cons (pv 0) pa_nil))) (pw_or (pt_not (pt_truth (pe_ix ix_tup (pv 0) pe_int (fun _ _ => rfl)) (by intro _; rfl))) (pw_or1 (pt_not (pt_val (pe_c c_p_is_word hr (by decide) (by rfl) (pa_cons (pe_ix ix_list (pe_ix ix_tup (pv 0) pe_int (fun _ _ => rfl)) pe_int (fun _ _ => rfl)) pa_nil))))))))
        (pss_one (ps_ret pe_non))
        pss_nil)
      (pss_one (ps_ret (pe_ix ix_tup (pe_ix ix_list (pe_ix ix_tup (pv 0) pe_int (fun _ _ => rfl)) pe_int (fun _ _ => rfl)) pe_int (fun _ _ => rfl))))), ?_⟩
    refine ⟨_, rfl, v, n, S, rfl, hn, _, rfl, ?_⟩
    obtain ⟨t, p, x, rfl, ht, hx⟩ := ndv_tup hn
    cases n with
    | w s => exact iteT k
    | l ns =>
      obtain ⟨L, vs, rfl, _, hL, hv⟩ := hx
      refine iteF ⟨_, rfl, t, _, _, _, rfl, rfl, ht, atI_nat (j := 1) rfl, _, .inl ⟨_, .inl (.inl hL), rfl⟩, ?_⟩
      cases ns with
      | nil =>
        cases (show vs = [] from hv)
        exact iteT k
      | cons m ns =>
        obtain ⟨u, r, rfl, hm, _⟩ := hv
        refine iteF ⟨_, rfl, t, _, _, _, rfl, rfl, ht, atI_nat (j := 1) rfl, _, _, _, _, rfl, rfl, .inl (.inl hL), atI_nat (j := 0) rfl, u, m, S, rfl, hm, _, rfl, ?_⟩
        cases m with
        | l ms => exact iteT k
        | w s =>
          obtain ⟨t2, p2, rfl, ht2⟩ := hm
          exact iteF ⟨_, rfl, t, _, _, _, rfl, rfl, ht, atI_nat (j := 1) rfl, _, _, _, _, rfl, rfl, .inl (.inl hL), atI_nat (j := 0) rfl, _, _, _, _, rfl, rfl, ht2, atI_nat (j := 1) rfl, k⟩
end
end K00

namespace K00
open PySem L2 Cm
theorem funss_app (as bs : List Nd) : Nd.funss (as ++ bs) = Nd.funss as + Nd.funss bs := by
  induction as with
  | nil => show Nd.funss bs = 0 + Nd.funss bs; omega
  | cons a as ih => show a.funs + Nd.funss (as ++ bs) = a.funs + Nd.funss as + _; rw [ih]; omega
/-- nodes less than n deep -/
def spCount (K : PySem.W.Frag) (n : Nat) : Sp := fun vs H Q _ => ∃ (L : Addr) (us : List V) (ns : List Nd) (S : Addr → Prop), vs = [.ref L] ∧ H L = some (.lst us) ∧ NdsV K H S ns us ∧ Nd.deps ns < n ∧ Q (.int (Nd.funss ns : Nat)) H
theorem numL_head : ∀ (n : Nat), n ≠ 0 → (TL.numL n).head? ≠ some 48 := by
  intro n
  induction n using Nat.strongRecOn with
  | _ n ih =>
    intro h0 e
    by_cases h : n < 10
    · rw [TL.numL_lt h] at e
      have : 48 + n = 48 := by simpa using e
      omega
    · rw [TL.numL_step (by omega)] at e
      have h1 := ih (n / 10) (by omega) (by omega)
      have h2 := TL.numL_ne (n / 10)
      cases q : TL.numL (n / 10) with
      | nil => exact h2 q
      | cons c r =>
        rw [q] at e h1
        exact h1 (by simpa using e)
def lower (c : Nat) : Prop := 97 ≤ c ∧ c ≤ 122
/-- a word that is a number, or one that begins with a letter -/
inductive Nw : Str → Bool → Prop
  | num (i : Int) : i.natAbs ≤ 1000000000 → Nw (numS i) true
  | oth (s : Str) (c : Nat) (r : List Nat) : cs s = c :: r → lower c → s.length ≤ 1000 → Nw s false
def spIsNum : Sp := fun vs H Q _ => ∃ (s : Str) (b : Bool), vs = [.str s] ∧ Nw s b ∧ ∀ H', Same H H' → Q (.bl b) H'
def spIsName : Sp := fun vs H Q _ => ∃ (s : Str) (b : Bool), vs = [.str s] ∧ ((nmOk s ∧ b = true) ∨ (s ∈ consW ∧ b = false)) ∧ Q (.bl b) H
def spNameOf (K : PySem.W.Frag) : Sp := fun vs H Q _ => ∃ (v : V) (x : Str) (S : Addr → Prop), vs = [v] ∧ NdV K H S (.w x) v ∧ nmOk x ∧ Q (.str x) H
def spFormW (K : PySem.W.Frag) : Sp := fun vs H Q _ => ∃ (v : V) (s : Str) (t : Tr) (S : Addr → Prop), vs = [v] ∧ NdV K H S (.w s) v ∧ Rd t (.w s) ∧ t.rg ∧ ∀ (r : V) (H' : Hp), Same H H' → Dp K H' r t.enc → Q r H'
theorem starts {s p : Str} {c : Nat} {r : List Nat} (hs : cs s = c :: r) {d : Nat} (hp : cs p = [d]) : Txt.startswith s p = decide (c = d) := by
  have l1 : s.length = r.length + 1 := by rw [len_cs, hs]; rfl
  have l2 : p.length = 1 := by rw [len_cs, hp]; rfl
  have e : Builtin.Str.subAt s p 0 = decide (c = d) := by
    rw [StrLaws.subAt_eq, l2]
    show (((cs s).drop 0).take 1 == cs p) = _
    rw [hs, hp]
    show ([c] == [d]) = _
    rw [Bool.eq_iff_iff, beq_iff_eq, decide_eq_true_eq]
    constructor
    · intro e; injection e
    · rintro rfl; rfl
  show (decide (0 + p.length ≤ s.length) && Builtin.Str.subAt s p 0) = _
  rw [e, decide_eq_true (by omega), Bool.true_and]
section
variable {P : Program} {w : World} {K : PySem.W.Frag} {mg : Str → Option Value} {base : Heap}
abbrev s_p_count_funs : Stmt := top 24
abbrev N_p_count_funs : List Str := ["nodes", "many", "node"]
theorem sc_p_count_funs : FnScope N_p_count_funs ["nodes"] (defScope s_p_count_funs) := ⟨rfl, rfl, rfl, by decide +kernel, rfl, by decide +kernel, by decide +kernel⟩
theorem ok_count_funs (G : Glb K mg) (c_p_is_word : Cl P w K mg base 1 "_is_word" (spIsWord K)) (c_p_first_word : Cl P w K mg base 2 "_first_word" (spFst K)) (D : At K mg "_count_funs" s_p_count_funs ["nodes"]) :
    ∀ n, Cl P w K mg base (n + 3) "_count_funs" (spCount K n) := by
  intro n
  induction n with
  | zero =>
    refine cl_of (k := 2) D sc_p_count_funs (fun vs H Q E h => ?_) fun f cdv A outer s H vs Q E hr h => ?_
    · obtain ⟨L, us, ns, S, rfl, _⟩ := h
      rfl
    · obtain ⟨L, us, ns, S, _, _, _, z, _⟩ := h
      exact absurd z (Nat.not_lt_zero _)
  | succ n ih =>
    refine cl_of (k := n + 3) D sc_p_count_funs (fun vs H Q E h => ?_) fun f cdv A outer s H vs Q E hr h => ?_
    · obtain ⟨L, us, ns, S, rfl, _⟩ := h
      rfl
    · obtain ⟨L, us, ns, S, rfl, hL, hv, hd, k⟩ := h
      obtain ⟨fa, hfa, sfa⟩ := G.fw
      refine ⟨_, (pss_cons (ps_set (i := 1) sc_p_count_funs.nd rfl (Or.inl rfl) pe_int)
      (pss_cons (ps_for PassesOwn.never rfl (pi_list (pv 0)) (pg_name (i := 2) sc_p_count_funs.nd rfl (Or.inl rfl))
        (pss_one (ps_if (pt_not (pt_val (pe_c c_p_is_word hr (by omega) (by rfl) (pa_cons (pv 2) pa_nil))))
          (pss_mid (ps_if (pt_cmpR op_in_seq (pe_c c_p_first_word hr (by omega) (by rfl) (pa_cons (pv 2) pa_nil)) (pe_glob (v := .ref fa) (by rfl) hfa rfl) (by rfl))
            (pss_one (ps_aug (i := 1) sc_p_count_funs.nd rfl (Or.inl rfl) pe_int ip_add))
            pss_nil)
          (pss_one (ps_set (i := 1) sc_p_count_funs.nd rfl (Or.inl rfl) (pe_op op_add (pv 1) (pe_c ih hr (by omega) (by rfl) (pa_cons (pe_ix ix_tup (pv 2) pe_int (fun _ _ => rfl)) pa_nil))))))
          pss_nil)))
      (pss_one (ps_ret (pv 1))))), ?_⟩
      refine ⟨_, rfl, L, rfl, ⟨_, .inl (.inl hL)⟩, ?_⟩
      refine for_it (walk_list (xs := us)) (fun i σ H' => ∃ v2 : Option V, σ = [some (.ref L), some (.int (Nd.funss (ns.take i) : Nat)), v2] ∧ H' = H) ⟨_, rfl, rfl⟩ (fun i σ H' _ z => ?_) ?_ ?_
      · obtain ⟨_, _, rfl⟩ := z
        exact .inl (.inl hL)
      · rintro i x0 σ H3 H3' hi ⟨v2, rfl, rfl⟩ ⟨rfl, e2⟩
        obtain ⟨m, em, hm⟩ := NdsV.at hv e2
        have et : Nd.funss (ns.take (i + 1)) = Nd.funss (ns.take i) + m.funs := by
          rw [take_snoc em, funss_app]
          show _ + (m.funs + 0) = _
          omega
        refine ⟨_, rfl, x0, m, S, rfl, hm, _, rfl, ?_⟩
        obtain ⟨t, p, y, rfl, ht, hx⟩ := ndv_tup hm
        cases m with
        | w s =>
          refine iteF ⟨some (.ref t), ?_, rfl⟩
          rw [et]
          rfl
        | l ms =>
          obtain ⟨L2, vs2, rfl, _, hL2, hv2⟩ := hx
          have hdm : Nd.deps ms < n := by
            have := ndeps_le.mp (Nat.le_of_lt_succ hd) _ (List.mem_of_getElem? em)
            have h' : Nd.deps ms + 1 ≤ n := this
            omega
          refine iteT ⟨fun σ' H' => σ' = [some (.ref L), some (.int ((Nd.funss (ns.take i) + fun1 ms : Nat))), some (.ref t)] ∧ H' = H3', ?_, ?_⟩
          · refine ⟨_, rfl, .ref t, .l ms, S, rfl, hm, fa, _, rfl, .inr (sfa _), ?_, flat_strV _, _, rfl, ?_⟩
            · show flatV (oS (fst ms)) = true
              cases fst ms <;> rfl
            show if inV (oS (fst ms)) (funW.map V.str) = true then _ else _
            cases ef : fst ms with
            | none =>
              have e1 : fun1 ms = 0 := by unfold fun1; rw [ef]
              show if inV .non (funW.map V.str) = true then _ else _
              rw [inV_non, e1]
              exact iteF ⟨rfl, rfl⟩
            | some s =>
              show if inV (.str s) (funW.map V.str) = true then _ else _
              rw [in_words]
              by_cases q : s ∈ funW
              · have e1 : fun1 ms = 1 := by unfold fun1; rw [ef]; exact if_pos q
                rw [decide_eq_true q, e1]
                exact iteT ⟨_, rfl, _, _, rfl, rfl, rfl, rfl⟩
              · have e1 : fun1 ms = 0 := by unfold fun1; rw [ef]; exact if_neg q
                rw [decide_eq_false q, e1]
                exact iteF ⟨rfl, rfl⟩
          · rintro σ' H4 ⟨rfl, rfl⟩
            refine ⟨_, rfl, _, rfl, t, _, _, _, rfl, rfl, ht, atI_nat (j := 1) rfl, L2, vs2, ms, S, rfl, hL2, hv2, hdm, _, _, rfl, rfl, some (.ref t), ?_, rfl⟩
            rw [et]
            show [some (V.ref L), some (V.int (((Nd.funss (ns.take i) + fun1 ms : Nat) : Int) + ((Nd.funss ms : Nat) : Int))), _] = [_, some (V.int (((Nd.funss (ns.take i) + (fun1 ms + Nd.funss ms) : Nat)) : Int)), _]
            rw [show (((Nd.funss (ns.take i) + (fun1 ms + Nd.funss ms) : Nat)) : Int) = ((Nd.funss (ns.take i) + fun1 ms : Nat) : Int) + ((Nd.funss ms : Nat) : Int) by omega]
      · rintro σ H3 ⟨v2, rfl, rfl⟩
        refine ⟨_, rfl, ?_⟩
        rw [hv.len, List.take_length]
        exact k
end
end K00

namespace K00
open PySem L2 Cm
theorem figs : cs ("0123456789" : Str) = [48, 49, 50, 51, 52, 53, 54, 55, 56, 57] := by decide +kernel
theorem lets : cs ("abcdefghijklmnopqrstuvwxyz" : Str) = [97, 98, 99, 100, 101, 102, 103, 104, 105, 106, 107, 108, 109, 110, 111, 112, 113, 114, 115, 116, 117, 118, 119, 120, 121, 122] := by decide +kernel
theorem in_figs (c : Nat) : c ∈ cs ("0123456789" : Str) ↔ 48 ≤ c ∧ c ≤ 57 := by
  rw [figs]
  simp only [List.mem_cons, List.not_mem_nil, or_false]
  omega
theorem in_lets (c : Nat) : c ∈ cs ("abcdefghijklmnopqrstuvwxyz" : Str) ↔ 97 ≤ c ∧ c ≤ 122 := by
  rw [lets]
  simp only [List.mem_cons, List.not_mem_nil, or_false]
  omega
section
variable {P : Program} {w : World} {K : PySem.W.Frag} {mg : Str → Option Value} {base : Heap}
abbrev s_p_is_number : Stmt := top 25
abbrev N_p_is_number : List Str := ["word", "figures", "sign"]
theorem sc_p_is_number : FnScope N_p_is_number ["word"] (defScope s_p_is_number) := ⟨rfl, rfl, rfl, by decide +kernel, rfl, by decide +kernel, by decide +kernel⟩
theorem ok_is_number (T : Txt mg) (G : Glb K mg) (D : At K mg "is_number" s_p_is_number ["word"]) : Cl P w K mg base 1 "is_number" spIsNum := by
  refine cl_of D sc_p_is_number (fun vs H Q E h => ?_) fun f cdv A outer s H vs Q E hr h => ?_
  · obtain ⟨s, b, rfl, _⟩ := h
    rfl
  · obtain ⟨s, b, rfl, hw, k⟩ := h
    obtain ⟨kg, hg⟩ := G.gr
    obtain ⟨kf, hf⟩ := G.fg
    refine ⟨_, (pss_mid (ps_set (i := 1) sc_p_is_number.nd rfl (Or.inl rfl) (pe_ifExp (pt_truth (pe_m1 PySem.F.slot_str_startswith PySem.F.type_str_startswith mt_startswith (pv 0) pe_str) (by intro _; rfl)) (pe_slice sl_str (pv 0) (po_some pe_int) po_none) (pv 0)))
      (pss_cons (ps_if (PW.pt (pw_or (pt_cmpR op_eq (pv 1) pe_str (nomark _)) (pw_or1 (pt_cmpR op_gt (pe_callB call_len_str (by rfl) T.len (by decide +kernel) (pa_cons (pv 1) pa_nil)) (pe_callB call_len_str (by rfl) T.len (by decide +kernel) (pa_cons (pe_callTy call_str_int (by rfl) T.str (by decide +kernel) (pa_cons (pe_glob (v := .int 1000000000) (by rfl) hg ⟨_, rfl⟩) pa_nil)) pa_nil)) (nomark _)))))
        (pss_one (ps_ret pe_bl))
        pss_nil)
      (pss_cons (ps_for PassesOwn.never rfl (pi_str (pv 1)) (pg_name (i := 2) sc_p_is_number.nd rfl (Or.inl rfl))
        (pss_one (ps_if (pt_cmpR op_notIn_sign (pv 2) (pe_glob (v := .str "0123456789") (by rfl) hf ⟨_, rfl⟩) (by rfl))
          (pss_one (ps_ret pe_bl))
          pss_nil)))
      (pss_cons (ps_if (pt_truth (pe_m1 PySem.F.slot_str_startswith PySem.F.type_str_startswith mt_startswith (pv 1) pe_str) (by intro _; rfl))
        (pss_one (ps_ret (pe_cmpR op_eq (pv 0) pe_str (nomark _))))
        pss_nil)
      (pss_one (ps_ret (pe_cmpR op_le (pe_callTy call_int_str (by rfl) T.int (by decide +kernel) (pa_cons (pv 1) pa_nil)) (pe_glob (v := .int 1000000000) (by rfl) hg ⟨_, rfl⟩) (nomark _)))))))), ?_⟩
    have lg : (Str.ofString (toString (1000000000 : Int))).length = 10 := by decide +kernel
    cases hw with
    | oth s c r e hc hl =>
      have hc' : 97 ≤ c ∧ c ≤ 122 := hc
      have ne : s ≠ "" := fun z => by rw [z] at e; cases e
      have e0 : s.cps[0]? = some c := by
        have : (cs s)[0]? = some c := by rw [e]; rfl
        rwa [show cs s = s.cps.toList from rfl, Array.getElem?_toList] at this
      have st : Txt.startswith s "-" = decide (c = 45) := starts e (by decide +kernel)
      refine ⟨fun σ' H' => σ' = [some (.str s), some (.str s), none] ∧ H' = H, ?_, ?_⟩
      · refine ⟨_, rfl, ⟨_, rfl⟩, _, _, rfl, rfl, _, rfl, ?_⟩
        rw [st, decide_eq_false (by omega)]
        exact iteF ⟨_, rfl, rfl, rfl⟩
      · rintro σ' H' ⟨rfl, rfl⟩
        refine ⟨_, rfl, rfl, _, rfl, ?_⟩
        refine iteNe ne ⟨_, rfl, s, rfl, by rw [sizeLine_eq]; omega, _, rfl, by decide +kernel, _, rfl, by rw [lg]; decide, _, _, rfl, rfl, _, rfl, ?_⟩
        refine ite2 (fun _ => k _ (Same.refl _)) (fun _ => ?_)
        refine ⟨_, rfl, s, rfl, ?_⟩
        refine for_it walk_str (fun i σ H2 => i = 0 ∧ σ = [some (.str s), some (.str s), none] ∧ H2 = H') ⟨rfl, rfl, rfl⟩ (fun _ _ _ _ _ => trivial) ?_ ?_
        · rintro i v σ H1 H2 hi ⟨rfl, rfl, rfl⟩ ⟨rfl, d, ed, rfl⟩
          rw [e0] at ed
          cases ed
          refine ⟨_, rfl, c, _, rfl, rfl, _, rfl, ?_⟩
          show if (!decide (c ∈ cs ("0123456789" : Str))) = true then _ else _
          rw [decide_eq_false (fun m => by have := (in_figs c).mp m; omega)]
          exact iteT (k _ (Same.refl _))
        · rintro σ H1 ⟨z, _⟩
          have : s.length = 0 := z
          rw [len_cs, e] at this
          cases this
    | num i hi =>
      obtain ⟨n, hn⟩ : ∃ n, n = i.natAbs := ⟨_, rfl⟩
      have e := num_cs i
      rw [← hn] at e hi
      have ef : cs (numS (n : Nat)) = TL.numL n := TL.tl_num n
      have ll : (TL.numL n).length ≤ 10 := TL.numL_len (n := n) (k := 10) (by decide) (by omega)
      have lf : (numS (n : Nat)).length ≤ 10 := by rw [len_cs, ef]; exact ll
      have ls : (numS i).length ≤ 11 := num_len (by omega)
      obtain ⟨c, r, ec⟩ : ∃ c r, TL.numL n = c :: r := by
        cases q : TL.numL n with
        | nil => exact absurd q (TL.numL_ne n)
        | cons c r => exact ⟨c, r, rfl⟩
      have hc := TL.numL_digits n c (by rw [ec]; exact List.mem_cons_self)
      have hc' : 48 ≤ c ∧ c ≤ 57 := hc
      refine ⟨fun σ' H' => σ' = [some (.str (numS i)), some (.str (numS (n : Nat))), none] ∧ H' = H, ?_, ?_⟩
      · refine ⟨_, rfl, ⟨_, rfl⟩, _, _, rfl, rfl, _, rfl, ?_⟩
        by_cases hneg : i < 0
        · rw [if_pos hneg] at e
          rw [starts (d := 45) e (by decide +kernel), decide_eq_true rfl]
          refine iteT ⟨_, rfl, _, rfl, _, rfl, by rw [sizeLine_eq]; omega, ?_⟩
          have ecut : cutS (numS i) (some (1 : Int)) Option.none = numS (n : Nat) := by
            apply cs_inj
            unfold cutS
            have z := HT.sIx_nat (numS i).length 0 1
            rw [show (some (1 : Int)) = some ((1 : Nat) : Int) from rfl, z]
            show cs (ofL _) = _
            rw [cs_ofL, ef]
            have l1 : 1 ≤ (numS i).length := by rw [len_cs, e, ec]; simp
            rw [Nat.min_eq_left l1]
            show List.take _ ((cs (numS i)).drop 1) = _
            rw [e]
            show List.take ((numS i).length - 1) (TL.numL n) = _
            refine List.take_of_length_le ?_
            rw [len_cs, e]
            simp
          rw [ecut]
          exact ⟨rfl, rfl⟩
        · rw [if_neg hneg, List.nil_append] at e
          rw [starts (d := 45) (e.trans ec) (by decide +kernel), decide_eq_false (by omega)]
          have : numS i = numS (n : Nat) := cs_inj (by rw [e, ef])
          refine iteF ⟨_, rfl, ?_, rfl⟩
          rw [← this]
          rfl
      · rintro σ' H' ⟨rfl, rfl⟩
        have ne : numS (n : Nat) ≠ "" := fun z => by
          have := congrArg cs z
          rw [ef, ec] at this
          cases this
        refine ⟨_, rfl, rfl, _, rfl, ?_⟩
        refine iteNe ne ⟨_, rfl, _, rfl, by rw [sizeLine_eq]; omega, _, rfl, by decide +kernel, _, rfl, by rw [lg]; decide, _, _, rfl, rfl, _, rfl, ?_⟩
        rw [lg, decide_eq_false (by omega)]
        refine iteF ⟨_, rfl, _, rfl, ?_⟩
        refine for_it walk_str (fun j σ H2 => ∃ v2 : Option V, σ = [some (.str (numS i)), some (.str (numS (n : Nat))), v2] ∧ H2 = H') ⟨_, rfl, rfl⟩ (fun _ _ _ _ _ => trivial) ?_ ?_
        · rintro j v σ H1 H2 hj ⟨v2, rfl, rfl⟩ ⟨rfl, d, ed, rfl⟩
          have hd : 48 ≤ d ∧ d ≤ 57 := by
            have m : (cs (numS (n : Nat)))[j]? = some d := by
              show (numS (n : Nat)).cps.toList[j]? = some d
              rw [Array.getElem?_toList]; exact ed
            rw [ef] at m
            exact TL.numL_digits n d (List.mem_of_getElem? m)
          refine ⟨_, rfl, d, _, rfl, rfl, _, rfl, ?_⟩
          show if (!decide (d ∈ cs ("0123456789" : Str))) = true then _ else _
          rw [decide_eq_true ((in_figs d).mpr hd)]
          exact iteF ⟨some (.str ⟨#[d]⟩), rfl, rfl⟩
        · rintro σ H1 ⟨v2, rfl, rfl⟩
          refine ⟨_, rfl, ⟨_, rfl⟩, _, _, rfl, rfl, _, rfl, ?_⟩
          rw [starts (d := 48) (ef.trans ec) (by decide +kernel)]
          by_cases z : c = 48
          · rw [decide_eq_true z]
            have n0 : n = 0 := by
              by_cases q : n = 0
              · exact q
              · exact absurd (by rw [ec, z]; rfl) (numL_head n q)
            have i0 : i = 0 := by omega
            refine iteT ⟨_, rfl, rfl, ?_⟩
            rw [decS, decide_eq_true (show numS i = "0" by rw [i0]; decide +kernel)]
            exact k _ (Same.refl _)
          · rw [decide_eq_false z]
            refine iteF ⟨_, rfl, _, _, rfl, TL.int_num (n := n) (by omega), by show (numS (n : Nat)).length ≤ 640; omega, _, _, rfl, rfl, ?_⟩
            show Q (V.bl (decide (((n : Nat) : Int) ≤ 1000000000))) H1
            rw [decide_eq_true (show ((n : Nat) : Int) ≤ 1000000000 by omega)]
            exact k _ (Same.refl _)
end
end K00

namespace K00
open PySem L2 Cm
def shapeW : List Str := ["fn", "let", "rec", "set", "if", "do", "keep", "once", "take", "mark", "wind", "show", "ask"]
def countsL : List (Str × Int × Int) := [("fn", 2, 10), ("let", 2, 10), ("rec", 2, 10), ("set", 2, 2), ("if", 3, 3), ("do", 1, 10), ("keep", 2, 2), ("once", 2, 2), ("take", 2, 2), ("mark", 1, 1), ("wind", 3, 3), ("show", 1, 1), ("ask", 0, 0), ("+", 2, 2), ("-", 2, 2), ("*", 2, 2), ("quot", 2, 2), ("rem", 2, 2), ("<", 2, 2), ("=", 2, 2), ("same?", 2, 2), ("pair", 2, 2), ("left!", 2, 2), ("right!", 2, 2), ("left", 1, 1), ("right", 1, 1), ("pair?", 1, 1), ("none?", 1, 1), ("rest?", 1, 1), ("fun?", 1, 1)]
def shapesL : List (Str × Str) := [("fn", "_fn_shape"), ("let", "_rows_shape"), ("rec", "_rows_shape"), ("set", "_name_shape"), ("if", "_plain_shape"), ("do", "_do_shape"), ("keep", "_name_shape"), ("once", "_name_shape"), ("take", "_name_shape"), ("mark", "_plain_shape"), ("wind", "_plain_shape"), ("show", "_plain_shape"), ("ask", "_plain_shape")]
theorem shapes_w : shapesL.map (·.1) = shapeW := rfl
structure GlbD (K : PySem.W.Frag) (w : World) (mg : Str → Option Value) : Prop where
  ct : ∃ (ca : Addr) (es : Array DictEntry) (n : Nat), mg "COUNTS" = some (.ref ca) ∧ KDict K w ca es n ∧ (∀ z, z ∉ headW → PySem.W.nsIn K ca z = some none) ∧ ∀ r ∈ countsL, ∃ tp : Addr, PySem.W.nsIn K ca r.1 = some (some (.ref tp)) ∧ ∀ H, SqT K H tp [.int r.2.1, .int r.2.2]
  sh : ∃ (ca : Addr) (es : Array DictEntry) (n : Nat), mg "SHAPES" = some (.ref ca) ∧ KDict K w ca es n ∧ (∀ z, z ∉ shapeW → PySem.W.nsIn K ca z = some none) ∧ ∀ r ∈ shapesL, ∃ f : Addr, PySem.W.nsIn K ca r.1 = some (some (.ref f)) ∧ mg r.2 = some (.ref f)
theorem counts_head : countsL.map (·.1) = headW := rfl
/-- is it the word of an operation -/
def spIsOp : Sp := fun vs H Q _ => ∃ s : Str, vs = [.str s] ∧ Q (.bl (decide (s ∈ headW) && !decide (s ∈ shapeW))) H
section
variable {P : Program} {w : World} {K : PySem.W.Frag} {mg : Str → Option Value} {base : Heap}
abbrev s_p_is_name : Stmt := top 26
abbrev N_p_is_name : List Str := ["word", "sign"]
theorem sc_p_is_name : FnScope N_p_is_name ["word"] (defScope s_p_is_name) := ⟨rfl, rfl, rfl, by decide +kernel, rfl, by decide +kernel, by decide +kernel⟩
theorem ok_is_name (T : Txt mg) (G : Glb K mg) (D : At K mg "_is_name" s_p_is_name ["word"]) : Cl P w K mg base 1 "_is_name" spIsName := by
  refine cl_of D sc_p_is_name (fun vs H Q E h => ?_) fun f cdv A outer s H vs Q E hr h => ?_
  · obtain ⟨s, b, rfl, _⟩ := h
    rfl
  · obtain ⟨x, b, rfl, hw, k⟩ := h
    obtain ⟨kn, hn⟩ := G.ns
    obtain ⟨kl, hl⟩ := G.lt
    obtain ⟨kf, hf⟩ := G.fg
    obtain ⟨ka, hk, sk⟩ := G.kw
    refine ⟨_, (pss_cons (ps_if (PW.pt (pw_or (pt_cmpR op_gt (pe_callB call_len_str (by rfl) T.len (by decide +kernel) (pa_cons (pv 0) pa_nil)) (pe_glob (v := .int 12) (by rfl) hn ⟨_, rfl⟩) (nomark _)) (pw_or (pt_cmpR op_notIn_sign (pe_ix ix_str (pv 0) pe_int (fun _ _ => rfl)) (pe_glob (v := .str "abcdefghijklmnopqrstuvwxyz") (by rfl) hl ⟨_, rfl⟩) (by rfl)) (pw_or1 (pt_cmpR op_in_seq (pv 0) (pe_glob (v := .ref ka) (by rfl) hk rfl) (by rfl))))))
        (pss_one (ps_ret pe_bl))
        pss_nil)
      (pss_cons (ps_for PassesOwn.never rfl (pi_str (pv 0)) (pg_name (i := 1) sc_p_is_name.nd rfl (Or.inl rfl))
        (pss_one (ps_if (PW.pt (pw_and (pt_cmpR op_notIn_sign (pv 1) (pe_glob (v := .str "abcdefghijklmnopqrstuvwxyz") (by rfl) hl ⟨_, rfl⟩) (by rfl)) (pw_and (pt_cmpR op_notIn_sign (pv 1) (pe_glob (v := .str "0123456789") (by rfl) hf ⟨_, rfl⟩) (by rfl)) (pw_and1 (pt_cmpR op_ne (pv 1) pe_str (nomark _))))))
          (pss_one (ps_ret pe_bl))
          pss_nil)))
      (pss_one (ps_ret pe_bl)))), ?_⟩
    have at0 : ∀ (c : Nat) (r : List Nat), cs x = c :: r → atI x.cps.toList 0 = some c := fun c r e => atI_nat (j := 0) (by show (cs x)[0]? = some c; rw [e]; rfl)
    rcases hw with ⟨hx, rfl⟩ | ⟨hx, rfl⟩
    · obtain ⟨h1, h2, ⟨c, r, e, h3, h4⟩, al, nk⟩ := hx
      refine ⟨_, rfl, x, rfl, by rw [sizeLine_eq]; omega, _, _, rfl, rfl, _, rfl, ?_⟩
      rw [decide_eq_false (show ¬ ((12 : Int) < (x.length : Nat)) by omega)]
      refine iteF ⟨_, rfl, _, _, c, rfl, rfl, by rw [sizeLine_eq]; omega, at0 c r e, c, _, rfl, rfl, _, rfl, ?_⟩
      show if (!decide (c ∈ cs ("abcdefghijklmnopqrstuvwxyz" : Str))) = true then _ else _
      rw [decide_eq_true ((in_lets c).mpr ⟨h3, h4⟩)]
      refine iteF ⟨_, rfl, ka, _, rfl, .inr (sk _), rfl, flat_strV _, _, rfl, ?_⟩
      show if inV (.str x) (keptW.map V.str) = true then _ else _
      rw [in_words, decide_eq_false nk]
      refine iteF ⟨_, rfl, x, rfl, ?_⟩
      refine for_it walk_str (fun j σ H2 => ∃ v1 : Option V, σ = [some (.str x), v1] ∧ H2 = H) ⟨_, rfl, rfl⟩ (fun _ _ _ _ _ => trivial) ?_ ?_
      · rintro j v σ H1 H2 hj ⟨v1, rfl, rfl⟩ ⟨rfl, d, ed, rfl⟩
        have hd := al d (by
          have m : (cs x)[j]? = some d := by
            show x.cps.toList[j]? = some d
            rw [Array.getElem?_toList]; exact ed
          exact List.mem_of_getElem? m)
        refine ⟨_, rfl, d, _, rfl, rfl, _, rfl, ?_⟩
        show if (!decide (d ∈ cs ("abcdefghijklmnopqrstuvwxyz" : Str))) = true then _ else _
        by_cases q1 : d ∈ cs ("abcdefghijklmnopqrstuvwxyz" : Str)
        · rw [decide_eq_true q1]
          exact iteF ⟨some (.str ⟨#[d]⟩), rfl, rfl⟩
        · rw [decide_eq_false q1]
          refine iteT ⟨_, rfl, d, _, rfl, rfl, _, rfl, ?_⟩
          show if (!decide (d ∈ cs ("0123456789" : Str))) = true then _ else _
          by_cases q2 : d ∈ cs ("0123456789" : Str)
          · rw [decide_eq_true q2]
            exact iteF ⟨some (.str ⟨#[d]⟩), rfl, rfl⟩
          · rw [decide_eq_false q2]
            have : d = 45 := by
              have : ¬ (97 ≤ d ∧ d ≤ 122) := fun h => q1 ((in_lets d).mpr h)
              have : ¬ (48 ≤ d ∧ d ≤ 57) := fun h => q2 ((in_figs d).mpr h)
              omega
            subst this
            refine iteT ⟨_, rfl, rfl, _, rfl, ?_⟩
            rw [lit1 (c := 45) (by decide +kernel)]
            exact iteF ⟨some (.str ⟨#[45]⟩), rfl, rfl⟩
      · rintro σ H1 ⟨v1, rfl, rfl⟩
        exact k
    · have key : ∀ y ∈ consW, y.length ≤ 12 ∧ y ∈ keptW ∧ ∃ c r, cs y = c :: r ∧ 97 ≤ c ∧ c ≤ 122 := by
        intro y hy
        simp only [consW, List.mem_cons, List.not_mem_nil, or_false] at hy
        rcases hy with rfl | rfl | rfl
        · exact ⟨by decide +kernel, by decide +kernel, _, _, (show cs ("true" : Str) = 116 :: [114, 117, 101] by decide +kernel), by decide, by decide⟩
        · exact ⟨by decide +kernel, by decide +kernel, _, _, (show cs ("false" : Str) = 102 :: [97, 108, 115, 101] by decide +kernel), by decide, by decide⟩
        · exact ⟨by decide +kernel, by decide +kernel, _, _, (show cs ("none" : Str) = 110 :: [111, 110, 101] by decide +kernel), by decide, by decide⟩
      obtain ⟨h2, mk, c, r, e, h3, h4⟩ := key x hx
      refine ⟨_, rfl, x, rfl, by rw [sizeLine_eq]; omega, _, _, rfl, rfl, _, rfl, ?_⟩
      rw [decide_eq_false (show ¬ ((12 : Int) < (x.length : Nat)) by omega)]
      refine iteF ⟨_, rfl, _, _, c, rfl, rfl, by rw [sizeLine_eq]; omega, at0 c r e, c, _, rfl, rfl, _, rfl, ?_⟩
      show if (!decide (c ∈ cs ("abcdefghijklmnopqrstuvwxyz" : Str))) = true then _ else _
      rw [decide_eq_true ((in_lets c).mpr ⟨h3, h4⟩)]
      refine iteF ⟨_, rfl, ka, _, rfl, .inr (sk _), rfl, flat_strV _, _, rfl, ?_⟩
      show if inV (.str x) (keptW.map V.str) = true then _ else _
      rw [in_words, decide_eq_true mk]
      exact iteT k
abbrev s_p_is_op : Stmt := top 28
abbrev N_p_is_op : List Str := ["word"]
theorem sc_p_is_op : FnScope N_p_is_op ["word"] (defScope s_p_is_op) := ⟨rfl, rfl, rfl, by decide +kernel, rfl, by decide +kernel, by decide +kernel⟩
theorem ok_is_op (G : GlbD K w mg) (D : At K mg "is_op" s_p_is_op ["word"]) : Cl P w K mg base 1 "is_op" spIsOp := by
  refine cl_of D sc_p_is_op (fun vs H Q E h => ?_) fun f cdv A outer s H vs Q E hr h => ?_
  · obtain ⟨s, rfl, _⟩ := h
    rfl
  · obtain ⟨x, rfl, k⟩ := h
    obtain ⟨ca, es, n, hca, DC, ncn, ncs⟩ := G.ct
    obtain ⟨sa, es2, n2, hsa, DS, nsn, nss⟩ := G.sh
    refine ⟨_, (pss_one (ps_ret (pe_and (pe_cmpR (op_in_kd DC) (pv 0) (pe_glob (v := .ref ca) (by rfl) hca rfl) (by rfl)) (pe_one (pe_cmpR (op_notIn_kd DS) (pv 0) (pe_glob (v := .ref sa) (by rfl) hsa rfl) (by rfl)))))), ?_⟩
    by_cases q : x ∈ headW
    · rw [decide_eq_true q] at k
      have q' := q
      rw [← counts_head] at q'
      obtain ⟨r, hr1, rfl⟩ := List.mem_map.mp q'
      obtain ⟨tp, e, _⟩ := ncs r hr1
      refine ⟨_, rfl, r.1, some (.ref tp), rfl, rfl, e, _, rfl, ?_⟩
      refine iteT ?_
      by_cases q2 : r.1 ∈ shapeW
      · have q3 := q2
        rw [← shapes_w] at q3
        obtain ⟨r2, hr2, e3⟩ := List.mem_map.mp q3
        obtain ⟨f, e2, _⟩ := nss r2 hr2
        rw [show r2.1 = r.1 from e3] at e2
        rw [decide_eq_true q2] at k
        exact ⟨_, rfl, r.1, some (.ref f), rfl, rfl, e2, k⟩
      · rw [decide_eq_false q2] at k
        exact ⟨_, rfl, r.1, none, rfl, rfl, nsn _ q2, k⟩
    · rw [decide_eq_false q] at k
      exact ⟨_, rfl, x, none, rfl, rfl, ncn _ q, _, rfl, iteF k⟩
abbrev s_p_form_of_word : Stmt := top 29
abbrev N_p_form_of_word : List Str := ["node", "place", "word"]
theorem sc_p_form_of_word : FnScope N_p_form_of_word ["node"] (defScope s_p_form_of_word) := ⟨rfl, rfl, rfl, by decide +kernel, rfl, by decide +kernel, by decide +kernel⟩
theorem num_int {i : Int} (h : i.natAbs ≤ 1000000000) : intText? (numS i) = some i := by
  have e := num_cs i
  have ls := num_len h
  by_cases q : i < 0
  · rw [if_pos q] at e
    have z := PySem.intText_neg (x := numS i) (cs := TL.numL i.natAbs) e (TL.numL_digits _) (TL.numL_ne _) (by omega)
    rw [TL.numL_val] at z
    rw [z]
    congr 1
    omega
  · have z := TL.int_num (n := i.natAbs) (by have := TL.numL_len (n := i.natAbs) (k := 10) (by decide) (by omega); omega)
    have e2 : numS i = Str.ofString (toString ((i.natAbs : Nat) : Int)) := by
      rw [show ((i.natAbs : Nat) : Int) = i by omega]
      rfl
    rw [e2, z]
    congr 1
    omega
theorem rdw_cases {t : Tr} {s : Str} (h : Rd t (.w s)) (g : t.rg) : (∃ i : Int, s = numS i ∧ i.natAbs ≤ 1000000000 ∧ t = .mk (.num i) []) ∨ (nmOk s ∧ t = .mk (.name s) []) ∨ (s ∈ consW ∧ t = .mk (.lit s) []) := by
  cases h with
  | num i => exact .inl ⟨i, rfl, g.1, rfl⟩
  | name x => exact .inr (.inl ⟨g.1, rfl⟩)
  | lit w m => exact .inr (.inr ⟨m, rfl⟩)
theorem nm_nw {x : Str} (h : nmOk x) : Nw x false := by
  obtain ⟨_, h1, ⟨c, r, e, h3, h4⟩, _, _⟩ := h
  exact .oth x c r e ⟨h3, h4⟩ (by omega)
theorem cons_nw : ∀ x ∈ consW, Nw x false := by
  intro y hy
  simp only [consW, List.mem_cons, List.not_mem_nil, or_false] at hy
  rcases hy with rfl | rfl | rfl
  · exact .oth _ 116 [114, 117, 101] (by decide +kernel) ⟨by decide, by decide⟩ (by decide +kernel)
  · exact .oth _ 102 [97, 108, 115, 101] (by decide +kernel) ⟨by decide, by decide⟩ (by decide +kernel)
  · exact .oth _ 110 [111, 110, 101] (by decide +kernel) ⟨by decide, by decide⟩ (by decide +kernel)
theorem ok_form_of_word (T : Txt mg) (G : Glb K mg) (c_p_is_number : Cl P w K mg base 1 "is_number" spIsNum) (c_p_is_name : Cl P w K mg base 1 "_is_name" spIsName) (D : At K mg "_form_of_word" s_p_form_of_word ["node"]) : Cl P w K mg base 2 "_form_of_word" (spFormW K) := by
  refine cl_of D sc_p_form_of_word (fun vs H Q E h => ?_) fun f cdv A outer s H vs Q E hr h => ?_
  · obtain ⟨v, s, t, S, rfl, _⟩ := h
    rfl
  · obtain ⟨v, x, t, S, rfl, hv, hrd, hrg, k⟩ := h
    obtain ⟨ca, hca, sc⟩ := G.cn
    refine ⟨_, (pss_cons (ps_asg (pv 0) (pg_tup (by rfl) (pgs_cons (pg_name (i := 1) sc_p_form_of_word.nd rfl (Or.inl rfl)) (pgs_cons (pg_name (i := 2) sc_p_form_of_word.nd rfl (Or.inl rfl)) pgs_nil))))
      (pss_cons (ps_if (pt_val (pe_c c_p_is_number hr (by decide) (by rfl) (pa_cons (pv 2) pa_nil)))
        (pss_one (ps_ret (pe_tup (pa_cons pe_str (pa_cons (pe_callTy call_int_str (by rfl) T.int (by decide +kernel) (pa_cons (pv 2) pa_nil)) pa_nil)))))
        pss_nil)
      (pss_cons (ps_if (pt_val (pe_c c_p_is_name hr (by decide) (by rfl) (pa_cons (pv 2) pa_nil)))
        (pss_one (ps_ret (pe_tup (pa_cons pe_str (pa_cons (pv 2) pa_nil)))))
        pss_nil)
      (pss_cons (ps_if (pt_cmpR op_in_seq (pv 2) (pe_glob (v := .ref ca) (by rfl) hca rfl) (by rfl))
        (pss_one (ps_ret (pe_tup (pa_cons (pv 2) pa_nil))))
        pss_nil)
      (pss_one ps_no))))), ?_⟩
    obtain ⟨tp, p, rfl, ht⟩ := hv
    refine ⟨_, rfl, tp, _, rfl, ht, rfl, _, _, rfl, _, _, rfl, rfl, ?_⟩
    rcases rdw_cases hrd hrg with ⟨i, rfl, hi, rfl⟩ | ⟨hx, rfl⟩ | ⟨hx, rfl⟩
    · refine ⟨_, rfl, _, true, rfl, .num i hi, fun H1 s1 => ⟨_, rfl, ?_⟩⟩
      refine iteT ⟨_, rfl, _, i, rfl, num_int hi, by have := num_len hi; omega, by show 2 ≤ sizeLine; decide, fun t2 ht2 => ?_⟩
      exact k _ _ (s1.trans (same_new ht2)) (.tup (.inl (.inl upd_same)) (.cons (.str _) (.cons (.int _) .nil)))
    · refine ⟨_, rfl, _, false, rfl, nm_nw hx, fun H1 s1 => ⟨_, rfl, ?_⟩⟩
      refine iteF ⟨_, rfl, x, true, rfl, .inl ⟨hx, rfl⟩, _, rfl, ?_⟩
      refine iteT ⟨_, rfl, by show 2 ≤ sizeLine; decide, fun t2 ht2 => ?_⟩
      exact k _ _ (s1.trans (same_new ht2)) (.tup (.inl (.inl upd_same)) (.cons (.str _) (.cons (.str _) .nil)))
    · refine ⟨_, rfl, _, false, rfl, cons_nw x hx, fun H1 s1 => ⟨_, rfl, ?_⟩⟩
      refine iteF ⟨_, rfl, x, false, rfl, .inr ⟨hx, rfl⟩, _, rfl, ?_⟩
      refine iteF ⟨_, rfl, ca, _, rfl, .inr (sc _), rfl, flat_strV _, _, rfl, ?_⟩
      show if inV (.str x) (consW.map V.str) = true then _ else _
      rw [in_words, decide_eq_true hx]
      refine iteT ⟨_, rfl, by show 1 ≤ sizeLine; decide, fun t2 ht2 => ?_⟩
      exact k _ _ (s1.trans (same_new ht2)) (.tup (.inl (.inl upd_same)) (.cons (.str _) .nil))
abbrev s_p_name_of : Stmt := top 32
abbrev N_p_name_of : List Str := ["node"]
theorem sc_p_name_of : FnScope N_p_name_of ["node"] (defScope s_p_name_of) := ⟨rfl, rfl, rfl, by decide +kernel, rfl, by decide +kernel, by decide +kernel⟩
theorem ok_name_of (c_p_is_word : Cl P w K mg base 1 "_is_word" (spIsWord K)) (c_p_is_name : Cl P w K mg base 1 "_is_name" spIsName) (D : At K mg "_name_of" s_p_name_of ["node"]) : Cl P w K mg base 2 "_name_of" (spNameOf K) := by
  refine cl_of D sc_p_name_of (fun vs H Q E h => ?_) fun f cdv A outer s H vs Q E hr h => ?_
  · obtain ⟨v, x, S, rfl, _⟩ := h
    rfl
  · obtain ⟨v, x, S, rfl, hv, hx, k⟩ := h
    refine ⟨_, (pss_cons (ps_if (PW.pt (pw_or (pt_not (pt_val (pe_c c_p_is_word hr (by decide) (by rfl) (pa_cons (pv 0) pa_nil)))) (pw_or1 (pt_not (pt_val (pe_c c_p_is_name hr (by decide) (by rfl) (pa_cons (pe_ix ix_tup (pv 0) pe_int (fun _ _ => rfl)) pa_nil)))))))
        (pss_one ps_no)
        pss_nil)
      (pss_one (ps_ret (pe_ix ix_tup (pv 0) pe_int (fun _ _ => rfl))))), ?_⟩
    refine ⟨_, rfl, v, .w x, S, rfl, hv, _, rfl, ?_⟩
    obtain ⟨tp, p, rfl, ht⟩ := hv
    refine iteF ⟨_, rfl, tp, _, _, _, rfl, rfl, ht, atI_nat (j := 1) rfl, x, true, rfl, .inl ⟨hx, rfl⟩, _, rfl, ?_⟩
    exact iteF ⟨_, rfl, tp, _, _, _, rfl, rfl, ht, atI_nat (j := 1) rfl, k⟩
end
end K00

namespace K00
open PySem L2 Cm
/-- a node less than n deep is read -/
def spForm (K : PySem.W.Frag) (n : Nat) : Sp := fun vs H Q _ => ∃ (v : V) (m : Nd) (t : Tr) (S : Addr → Prop), vs = [v] ∧ NdV K H S m v ∧ m.dep < n ∧ Rd t m ∧ t.ok ∧ t.rg ∧ ∀ (r : V) (H' : Hp), Same H H' → Dp K H' r t.enc → Q r H'
def spForms (K : PySem.W.Frag) (n : Nat) : Sp := fun vs H Q _ => ∃ (L : Addr) (us : List V) (ms : List Nd) (ts : List Tr) (S : Addr → Prop), vs = [.ref L] ∧ H L = some (.lst us) ∧ NdsV K H S ms us ∧ Nd.deps ms < n ∧ Rds ts ms ∧ Tr.oks ts ∧ Tr.rgs ts ∧ ts.length ≤ 100 ∧
  ∀ (r : Addr) (xs : List V) (H' : Hp), Same H H' → SqT K H' r xs → DpAll K H' xs (Tr.encL ts) → Q (.ref r) H'
def spBody (K : PySem.W.Frag) (n : Nat) : Sp := fun vs H Q _ => ∃ (L : Addr) (us : List V) (ms : List Nd) (t : Tr) (S : Addr → Prop), vs = [.ref L] ∧ H L = some (.lst us) ∧ NdsV K H S ms us ∧ Nd.deps ms < n ∧ Bd t ms ∧ t.ok ∧ t.rg ∧
  ∀ (r : V) (H' : Hp), Same H H' → Dp K H' r t.enc → Q r H'
def spRow (K : PySem.W.Frag) (n : Nat) : Sp := fun vs H Q _ => ∃ (w x : Str) (v : V) (m : Nd) (t : Tr) (S : Addr → Prop), vs = [.str w, v] ∧ NdV K H S (rowN x m) v ∧ m.dep < n ∧ nmOk x ∧ Rd t m ∧ t.ok ∧ t.rg ∧ (w = "rec" → isFnT t = true) ∧
  ∀ (r : V) (H' : Hp), Same H H' → Dp K H' r (rowD (x, t.enc)) → Q r H'
/-- what stands behind the word w -/
def spShape (K : PySem.W.Frag) (n : Nat) (w : Str) : Sp := fun vs H Q _ => ∃ (L : Addr) (us : List V) (ms : List Nd) (t : Tr) (S : Addr → Prop), vs = [.str w, .ref L] ∧ H L = some (.lst us) ∧ NdsV K H S ms us ∧ Nd.deps ms < n ∧ Rd t (.l (.w w :: ms)) ∧ t.ok ∧ t.rg ∧
  ∀ (r : V) (H' : Hp), Same H H' → Dp K H' r t.enc → Q r H'
theorem rds_at : ∀ {ts : List Tr} {ns : List Nd} {i : Nat} {m : Nd}, Rds ts ns → ns[i]? = some m → ∃ t, ts[i]? = some t ∧ Rd t m
  | [], _, i, m, h, e => by cases h; cases e
  | t :: ts, _, i, m, h, e => by
    cases h with
    | cons _ n _ ns a b =>
      cases i with
      | zero => cases e; exact ⟨t, rfl, a⟩
      | succ i => exact rds_at (ts := ts) (i := i) b e
theorem encL_at3 {ts : List Tr} {i : Nat} {t : Tr} (h : ts[i]? = some t) : (ts[i]?).map Tr.enc = some t.enc := by rw [h]; rfl
section
variable {P : Program} {w : World} {K : PySem.W.Frag} {mg : Str → Option Value} {base : Heap}
abbrev s_p_forms_of : Stmt := top 30
abbrev N_p_forms_of : List Str := ["nodes", "node"]
theorem sc_p_forms_of : FnScope N_p_forms_of ["nodes"] (defScope s_p_forms_of) := ⟨rfl, rfl, rfl, by decide +kernel, rfl, by decide +kernel, by decide +kernel⟩
theorem ok_forms_of {n lv : Nat} (T : Txt mg) (c_p_form_of : Cl P w K mg base lv "_form_of" (spForm K n)) (D : At K mg "_forms_of" s_p_forms_of ["nodes"]) : Cl P w K mg base (lv + 1) "_forms_of" (spForms K n) := by
  refine cl_of (k := lv) D sc_p_forms_of (fun vs H Q E h => ?_) fun f cdv A outer s H vs Q E hr h => ?_
  · obtain ⟨L, us, ms, ts, S, rfl, _⟩ := h
    rfl
  · obtain ⟨L, us, ms, ts, S, rfl, hL, hv, hd, hrd, ho, hrg, hln, k⟩ := h
    refine ⟨_, (pss_one (ps_ret (pe_tupleOf (by rfl) T.tuple (pe_lc (own := [("node", 1)]) rfl sc_p_forms_of.nd (pi_list (pv 0)) (blkOk_by (N := N_p_forms_of) (sc := defScope s_p_forms_of) (by decide +kernel))
      (fun _ _ _ _ _ => (pg_name (i := 1) sc_p_forms_of.nd rfl (Or.inl rfl)))
      (fun _ _ _ _ _ => pts_nil)
      (fun _ _ _ _ _ => (pe_c c_p_form_of hr (Nat.le_refl _) (by rfl) (pa_cons (pv 1) pa_nil))))))), ?_⟩
    have lu : us.length = ts.length := by rw [hv.len, hrd.len]
    refine ⟨_, rfl, L, rfl, ⟨_, .inl (.inl hL)⟩, fun D1 hD1 => ?_⟩
    refine lc_data (K := K) (walk_list (K := K) (a := L) (xs := us)) (fun i => (ts[i]?).map Tr.enc) hD1 (by omega) (fun H' s => .inl (.inl (s _ _ hL))) (fun i _ d e => ?_) ?_ ?_
    · obtain ⟨x, _, rfl⟩ := Option.map_eq_some_iff.mp e
      exact flat_enc _
    · rintro i x0 H4' H4 hi s4 ⟨rfl, ex⟩ Q1 Q0 q1 q0
      obtain ⟨m, em, hm⟩ := NdsV.at hv ex
      obtain ⟨t, et, hrt⟩ := rds_at hrd em
      have tm := List.mem_of_getElem? et
      have dm : m.dep < n := Nat.lt_of_le_of_lt (ndeps_le.mp (Nat.le_refl _) m (List.mem_of_getElem? em)) hd
      exact ⟨rfl, iteT (B := Q0 H4) ⟨_, rfl, x0, m, t, S, rfl, NdV.same s4 hm, dm, hrt, oks_iff.mp ho t tm, rgs_iff.mp hrg t tm, fun r H5 s5 dr => q1 _ _ t.enc (encL_at3 et) s5 dr⟩⟩
    intro H4 acc s4 hacc dacc
    rw [lu, Cm.range_map Tr.enc, ← encL_map] at dacc
    refine .inl ⟨D1, acc, rfl, .inl (.inl hacc), fun t1 ht1 => ?_⟩
    have s5 := same_new (o := .tup acc) ht1
    exact k _ _ _ (s4.trans s5) (.inl (.inl upd_same)) (dps_same s5 _ _ dacc)
abbrev s_p_body_of : Stmt := top 31
abbrev N_p_body_of : List Str := ["nodes", "forms"]
theorem sc_p_body_of : FnScope N_p_body_of ["nodes"] (defScope s_p_body_of) := ⟨rfl, rfl, rfl, by decide +kernel, rfl, by decide +kernel, by decide +kernel⟩
theorem ok_body_of {n lv : Nat} (T : Txt mg) (c_p_forms_of : Cl P w K mg base lv "_forms_of" (spForms K n)) (D : At K mg "_body_of" s_p_body_of ["nodes"]) : Cl P w K mg base (lv + 1) "_body_of" (spBody K n) := by
  refine cl_of (k := lv) D sc_p_body_of (fun vs H Q E h => ?_) fun f cdv A outer s H vs Q E hr h => ?_
  · obtain ⟨L, us, ms, t, S, rfl, _⟩ := h
    rfl
  · obtain ⟨L, us, ms, t, S, rfl, hL, hv, hd, hb, ho, hrg, k⟩ := h
    refine ⟨_, (pss_cons (ps_set (i := 1) sc_p_body_of.nd rfl (Or.inl rfl) (pe_c c_p_forms_of hr (Nat.le_refl _) (by rfl) (pa_cons (pv 0) pa_nil)))
      (pss_one (ps_ret (pe_ifExp (pt_cmpR op_eq (pe_callB call_len_seq (by rfl) T.len (by decide +kernel) (pa_cons (pv 1) pa_nil)) pe_int (nomark _)) (pe_ix ix_tup (pv 1) pe_int (fun _ _ => rfl)) (pe_tup (pa_cons pe_str (pa_cons (pv 1) pa_nil))))))), ?_⟩
    cases hb with
    | one _ m hrt =>
      refine ⟨_, rfl, L, us, [m], [t], S, rfl, hL, hv, hd, Rds.one hrt, ⟨ho, trivial⟩, ⟨hrg, trivial⟩, Nat.le_of_ble_eq_true rfl, fun r xs H1 s1 hr1 hxs => ?_⟩
      obtain ⟨u, rfl, hu⟩ := dpAll_one (d := t.enc) hxs
      refine ⟨_, rfl, r, _, rfl, .inr hr1, rfl, _, rfl, ?_⟩
      exact iteT ⟨_, rfl, r, _, _, _, rfl, rfl, hr1, atI_nat (j := 0) rfl, k _ _ s1 hu⟩
    | bare ps _ hrs h2 h9 =>
      have o' : hok Hd.doo ps.length ∧ ps.length ≤ 11 ∧ Tr.oks ps := ho
      have g' : rgH Hd.doo ps.length ∧ recH Hd.doo ps ∧ Tr.rgs ps := hrg
      refine ⟨_, rfl, L, us, ms, ps, S, rfl, hL, hv, hd, hrs, o'.2.2, g'.2.2, by omega, fun r xs H1 s1 hr1 hxs => ?_⟩
      have lx : xs.length = ps.length := by have := DpAll.len hxs; rwa [encL_len] at this
      refine ⟨_, rfl, r, _, rfl, .inr hr1, rfl, _, rfl, ?_⟩
      rw [decide_eq_false (fun z => by have := V.int.inj z; omega)]
      refine iteF ⟨_, rfl, by show 2 ≤ sizeLine; decide, fun t1 ht1 => ?_⟩
      have s5 := same_new (o := .tup [V.str "do", V.ref r]) ht1
      exact k _ _ (s1.trans s5) (.tup (.inl (.inl upd_same)) (.cons (.str _) (.cons (.tup (sqt_same s5 hr1) (dps_same s5 _ _ hxs)) .nil)))
abbrev s_p_row_of : Stmt := top 35
abbrev N_p_row_of : List Str := ["word", "row", "name", "side"]
theorem sc_p_row_of : FnScope N_p_row_of ["word", "row"] (defScope s_p_row_of) := ⟨rfl, rfl, rfl, by decide +kernel, rfl, by decide +kernel, by decide +kernel⟩
theorem ok_row_of {n lv : Nat} (hlv : 2 ≤ lv) (T : Txt mg) (c_p_is_word : Cl P w K mg base 1 "_is_word" (spIsWord K)) (c_p_first_word : Cl P w K mg base 2 "_first_word" (spFst K)) (c_p_name_of : Cl P w K mg base 2 "_name_of" (spNameOf K)) (c_p_form_of : Cl P w K mg base lv "_form_of" (spForm K n)) (D : At K mg "_row_of" s_p_row_of ["word", "row"]) : Cl P w K mg base (lv + 1) "_row_of" (spRow K n) := by
  refine cl_of (k := lv) D sc_p_row_of (fun vs H Q E h => ?_) fun f cdv A outer s H vs Q E hr h => ?_
  · obtain ⟨w', x, v, m, t, S, rfl, _⟩ := h
    rfl
  · obtain ⟨w', x, v, m, t, S, rfl, hv, hd, hx, hrd, ho, hrg, hrec, k⟩ := h
    refine ⟨_, (pss_cons (ps_if (PW.pt (pw_or (pt_val (pe_c c_p_is_word hr (by omega) (by rfl) (pa_cons (pv 1) pa_nil))) (pw_or1 (pt_cmpR op_ne (pe_callB call_len_seq (by rfl) T.len (by decide +kernel) (pa_cons (pe_ix ix_tup (pv 1) pe_int (fun _ _ => rfl)) pa_nil)) pe_int (nomark _)))))
        (pss_one ps_no)
        pss_nil)
      (pss_cons (ps_set (i := 2) sc_p_row_of.nd rfl (Or.inl rfl) (pe_c c_p_name_of hr (by omega) (by rfl) (pa_cons (pe_ix ix_list (pe_ix ix_tup (pv 1) pe_int (fun _ _ => rfl)) pe_int (fun _ _ => rfl)) pa_nil)))
      (pss_cons (ps_set (i := 3) sc_p_row_of.nd rfl (Or.inl rfl) (pe_ix ix_list (pe_ix ix_tup (pv 1) pe_int (fun _ _ => rfl)) pe_int (fun _ _ => rfl)))
      (pss_cons (ps_if (PW.pt (pw_and (pt_cmpR op_eq (pv 0) pe_str (nomark _)) (pw_and1 (pt_cmpR op_ne (pe_c c_p_first_word hr (by omega) (by rfl) (pa_cons (pv 3) pa_nil)) pe_str (nomark _)))))
        (pss_one ps_no)
        pss_nil)
      (pss_one (ps_ret (pe_tup (pa_cons (pv 2) (pa_cons (pe_c c_p_form_of hr (Nat.le_refl _) (by rfl) (pa_cons (pv 3) pa_nil)) pa_nil))))))))), ?_⟩
    have hv0 := hv
    obtain ⟨tp, p, L, vs, rfl, ht, hS, hL, hvs⟩ := hv
    obtain ⟨u, r0, rfl, hu, hr0⟩ := hvs
    obtain ⟨y, r1, rfl, hy, hr1⟩ := hr0
    cases (show r1 = [] from hr1)
    refine ⟨_, rfl, .ref tp, rowN x m, S, rfl, hv0, _, rfl, ?_⟩
    refine iteF ⟨_, rfl, tp, _, _, _, rfl, rfl, ht, atI_nat (j := 1) rfl, L, _, rfl, .inl (.inl (.inl hL)), rfl, _, rfl, ?_⟩
    refine iteF ⟨_, rfl, tp, _, _, _, rfl, rfl, ht, atI_nat (j := 1) rfl, L, _, _, _, rfl, rfl, .inl (.inl hL), atI_nat (j := 0) rfl, u, x, S, rfl, hu, hx, ?_⟩
    refine ⟨_, rfl, tp, _, _, _, rfl, rfl, ht, atI_nat (j := 1) rfl, L, _, _, _, rfl, rfl, .inl (.inl hL), atI_nat (j := 1) rfl, ?_⟩
    refine ⟨_, rfl, rfl, _, rfl, ?_⟩
    rw [decS]
    by_cases q : w' = "rec"
    · rw [decide_eq_true q]
      refine iteT ⟨_, rfl, y, m, S, rfl, hy, ?_⟩
      have ef : oS (fw1 m) = .str "fn" := by
        have z := hrec q
        cases hrd with
        | fn xs t ns _ => rfl
        | _ => cases z
      rw [ef]
      refine ⟨rfl, _, rfl, ?_⟩
      refine iteF ⟨_, rfl, _, rfl, y, m, t, S, rfl, hy, hd, hrd, ho, hrg, fun r H1 s1 dr => ⟨by show 2 ≤ sizeLine; decide, fun t1 ht1 => ?_⟩⟩
      have s5 := same_new (o := .tup [V.str x, r]) ht1
      exact k _ _ (s1.trans s5) (.tup (.inl (.inl upd_same)) (.cons (.str _) (.cons (dp_same s5 _ _ dr) .nil)))
    · rw [decide_eq_false q]
      refine iteF ⟨_, rfl, _, rfl, y, m, t, S, rfl, hy, hd, hrd, ho, hrg, fun r H1 s1 dr => ⟨by show 2 ≤ sizeLine; decide, fun t1 ht1 => ?_⟩⟩
      have s5 := same_new (o := .tup [V.str x, r]) ht1
      exact k _ _ (s1.trans s5) (.tup (.inl (.inl upd_same)) (.cons (.str _) (.cons (dp_same s5 _ _ dr) .nil)))
end
end K00

namespace K00
open PySem L2 Cm
/-- what is read from a list that begins with the word w -/
inductive RH (w : Str) (ms : List Nd) : Tr → Prop
  | ask : w = "ask" → ms = [] → RH w ms (.mk (.lit "ask") [])
  | one (x : Str) (u : Tr) (n : Nd) : w ∈ oneW → ms = [.w x, n] → Rd u n → RH w ms (.mk (.one w x) [u])
  | fn (xs : List Str) (u : Tr) (ns : List Nd) : w = "fn" → ms = .l (xs.map Nd.w) :: ns → Bd u ns → ns.length ≤ 9 → RH w ms (.mk (.fn xs) [u])
  | bind (xs : List Str) (ps : List Tr) (u : Tr) (ms' ns : List Nd) : w ∈ bindW → ms = .l (rowsN xs ms') :: ns → Rds ps ms' → ps.length = xs.length → Bd u ns → ns.length ≤ 9 → RH w ms (.mk (.bind w xs) (ps ++ [u]))
  | doo (ps : List Tr) : w = "do" → Rds ps ms → RH w ms (.mk .doo ps)
  | op (ps : List Tr) : w ∈ op2W ++ op1W → Rds ps ms → RH w ms (.mk (.op w) ps)
  | plain (ps : List Tr) : w ∈ plainW → Rds ps ms → RH w ms (.mk (.plain w) ps)
  | call (ps : List Tr) : w ∉ headW → Rds ps (.w w :: ms) → RH w ms (.mk .call ps)
theorem rd_head {w : Str} {ms : List Nd} {t : Tr} (h : Rd t (.l (.w w :: ms))) (o : t.ok) (g : t.rg) : RH w ms t := by
  generalize hn : Nd.l (.w w :: ms) = N at h
  cases h with
  | num i => cases hn
  | name x => cases hn
  | lit x => cases hn
  | ask => injection hn with z; injection z with z z2; injection z with z; exact .ask z z2
  | one w' x t' n' a => injection hn with z; injection z with z z2; injection z with z; subst z; exact .one x t' n' (show hok (.one w x) 1 from o.1).2.1 z2 a
  | fn xs t' ns' a l9 => injection hn with z; injection z with z z2; injection z with z; exact .fn xs t' ns' z z2 a l9
  | bind w' xs ps t' ms' ns' a b c l9 => injection hn with z; injection z with z z2; injection z with z; subst z; exact .bind xs ps t' ms' ns' (show hok (.bind w xs) _ from o.1).2.1 z2 a b c l9
  | doo ps ns' a => injection hn with z; injection z with z z2; injection z with z; subst z2; exact .doo ps z a
  | op w' ps ns' a =>
    injection hn with z; injection z with z z2; injection z with z; subst z z2
    refine .op ps ?_ a
    rcases (show rgH (.op w) ps.length from g.1) with z | z
    · exact List.mem_append.mpr (.inl z.1)
    · exact List.mem_append.mpr (.inr z.1)
  | plain w' ps ns' a => injection hn with z; injection z with z z2; injection z with z; subst z z2; exact .plain ps (show hok (.plain w) _ from o.1) a
  | call ps ns' hrs =>
    injection hn with z
    subst z
    cases hrs with
    | cons t' n' ts ns' a b => exact .call _ (rd_word a g.2.2.1) (.cons _ _ _ _ a b)
section
variable {P : Program} {w : World} {K : PySem.W.Frag} {mg : Str → Option Value} {base : Heap}
abbrev s_p_fn_shape : Stmt := top 33
abbrev N_p_fn_shape : List Str := ["word", "nodes", "place", "names", "name"]
theorem sc_p_fn_shape : FnScope N_p_fn_shape ["word", "nodes"] (defScope s_p_fn_shape) := ⟨rfl, rfl, rfl, by decide +kernel, rfl, by decide +kernel, by decide +kernel⟩
theorem at_words {xs : List Str} {i : Nat} {m : Nd} (h : (xs.map Nd.w)[i]? = some m) : ∃ x, xs[i]? = some x ∧ m = .w x := by
  rw [List.getElem?_map] at h
  obtain ⟨x, e, rfl⟩ := Option.map_eq_some_iff.mp h
  exact ⟨x, e, rfl⟩
theorem ok_fn_shape {n lv : Nat} (hlv : 2 ≤ lv) (T : Txt mg) (G : Glb K mg) (c_p_is_word : Cl P w K mg base 1 "_is_word" (spIsWord K)) (c_p_name_of : Cl P w K mg base 2 "_name_of" (spNameOf K)) (c_p_body_of : Cl P w K mg base lv "_body_of" (spBody K n))
    (D : At K mg "_fn_shape" s_p_fn_shape ["word", "nodes"]) : Cl P w K mg base (lv + 1) "_fn_shape" (spShape K n "fn") := by
  refine cl_of (k := lv) D sc_p_fn_shape (fun vs H Q E h => ?_) fun f cdv A outer s H vs Q E hr h => ?_
  · obtain ⟨L, us, ms, t, S, rfl, _⟩ := h
    rfl
  · obtain ⟨L, us, ms, t, S, rfl, hL, hv, hd, hrd, ho, hrg, k⟩ := h
    obtain ⟨km, hm⟩ := G.mn
    refine ⟨_, (pss_cons (ps_asg (pe_ix ix_list (pv 1) pe_int (fun _ _ => rfl)) (pg_tup (by rfl) (pgs_cons (pg_name (i := 2) sc_p_fn_shape.nd rfl (Or.inl rfl)) (pgs_cons (pg_name (i := 3) sc_p_fn_shape.nd rfl (Or.inl rfl)) pgs_nil))))
      (pss_cons (ps_if (pt_val (pe_c c_p_is_word hr (by omega) (by rfl) (pa_cons (pe_ix ix_list (pv 1) pe_int (fun _ _ => rfl)) pa_nil)))
        (pss_one ps_no)
        pss_nil)
      (pss_cons (ps_if (pt_cmpR op_gt (pe_callB call_len_seq (by rfl) T.len (by decide +kernel) (pa_cons (pv 3) pa_nil)) (pe_glob (v := .int 8) (by rfl) hm ⟨_, rfl⟩) (nomark _))
        (pss_one ps_no)
        pss_nil)
      (pss_one (ps_ret (pe_tup (pa_cons (pv 0) (pa_cons (pe_tupleOf (by rfl) T.tuple (pe_lc (own := [("name", 4)]) rfl sc_p_fn_shape.nd (pi_list (pv 3)) (blkOk_by (N := N_p_fn_shape) (sc := defScope s_p_fn_shape) (by decide +kernel))
      (fun _ _ _ _ _ => (pg_name (i := 4) sc_p_fn_shape.nd rfl (Or.inl rfl)))
      (fun _ _ _ _ _ => pts_nil)
      (fun _ _ _ _ _ => (pe_c c_p_name_of hr (by omega) (by rfl) (pa_cons (pv 4) pa_nil))))) (pa_cons (pe_c c_p_body_of hr (Nat.le_refl _) (by rfl) (pa_cons (pe_slice sl_list (pv 1) (po_some pe_int) po_none) pa_nil)) pa_nil))))))))), ?_⟩
    cases rd_head hrd ho hrg with
    | ask z => exact absurd z (by decide +kernel)
    | one x u n' z => exact absurd z (by decide +kernel)
    | bind xs ps u ms' ns z => exact absurd z (by decide +kernel)
    | doo ps z => exact absurd z (by decide +kernel)
    | op ps z => exact absurd z (by decide +kernel)
    | plain ps z => exact absurd z (by decide +kernel)
    | call ps z => exact absurd (show ("fn" : Str) ∈ headW by decide +kernel) z
    | fn xs t' ns' _ z hb hl9 =>
      subst z
      have ho' : hok (.fn xs) 1 ∧ 1 ≤ 11 ∧ (t'.ok ∧ True) := ho
      have hg' : rgH (.fn xs) 1 ∧ True ∧ (t'.rg ∧ True) := hrg
      obtain ⟨u, r, rfl, hu, hr0⟩ := hv
      obtain ⟨tp, p, L2, vs2, rfl, ht, hS2, hL2, hv2⟩ := hu
      have lv2 : vs2.length = xs.length := by rw [hv2.len, List.length_map]
      have hx8 : xs.length ≤ 8 := hg'.1.1
      have hlen : r.length ≤ 9 := by rw [NdsV.len hr0]; exact hl9
      refine ⟨_, rfl, L, _, _, _, rfl, rfl, .inl (.inl hL), atI_nat (j := 0) rfl, tp, _, rfl, ht, rfl, _, _, rfl, _, _, rfl, rfl, ?_⟩
      refine ⟨_, rfl, L, _, _, _, rfl, rfl, .inl (.inl hL), atI_nat (j := 0) rfl, .ref tp, .l (xs.map Nd.w), S, rfl, ⟨tp, p, L2, vs2, rfl, ht, hS2, hL2, hv2⟩, _, rfl, ?_⟩
      refine iteF ⟨_, rfl, L2, _, rfl, .inl (.inl (.inl hL2)), _, _, rfl, rfl, _, rfl, ?_⟩
      rw [decide_eq_false (show ¬ ((8 : Int) < (vs2.length : Nat)) by omega)]
      refine iteF ⟨_, rfl, _, rfl, L2, rfl, ⟨_, .inl (.inl hL2)⟩, fun D1 hD1 => ?_⟩
      refine lc_data (K := K) (walk_list (K := K) (a := L2) (xs := vs2)) (fun i => (xs[i]?).map PyData.str) hD1 (by omega) (fun H' s => .inl (.inl (s _ _ hL2))) (fun i _ d e => ?_) ?_ ?_
      · obtain ⟨x, _, rfl⟩ := Option.map_eq_some_iff.mp e
        rfl
      · rintro i x0 H4' H4 hi s4 ⟨rfl, ex⟩ Q1 Q0 q1 q0
        obtain ⟨m, em, hm'⟩ := NdsV.at hv2 ex
        obtain ⟨x, exi, rfl⟩ := at_words em
        exact ⟨rfl, iteT (B := Q0 H4) ⟨_, rfl, x0, x, S, rfl, NdV.same s4 hm', hg'.1.2 x (List.mem_of_getElem? exi), q1 _ _ (.str x) (by rw [exi]; rfl) (Same.refl _) (.str _)⟩⟩
      intro H4 acc s4 hacc dacc
      rw [lv2, Cm.range_map PyData.str] at dacc
      have := dpAll_strs_inv dacc
      subst this
      refine .inl ⟨D1, _, rfl, .inl (.inl hacc), fun t1 ht1 => ?_⟩
      have s5 := same_new (o := .tup (xs.map V.str)) ht1
      refine ⟨_, rfl, 1, rfl, L, _, rfl, .inl (.inl ((s4.trans s5) _ _ hL)), fun L3 hL3 => ?_⟩
      have ec : cutV (V.ref tp :: r) (some 1) none = r := by rw [show (1 : Int) = ((1 : Nat) : Int) from rfl, cut_from (by rw [List.length_cons]; omega)]; rfl
      rw [ec]
      have s6 := same_new (o := .lst r) hL3
      have hdb : Nd.deps ns' < n := by
        have : max (Nd.l (xs.map Nd.w)).dep (Nd.deps ns') < n := hd
        omega
      refine ⟨L3, r, ns', t', S, rfl, upd_same, NdsV.same (s4.trans (s5.trans s6)) hr0, hdb, hb, ho'.2.2.1, hg'.2.2.1, fun v H5 s7 dv => ⟨by show 3 ≤ sizeLine; decide, fun t2 ht2 => ?_⟩⟩
      have s8 := same_new (o := .tup [V.str "fn", V.ref t1, v]) ht2
      have e1 : SqT K (upd H4 t1 (.tup (xs.map V.str))) t1 (xs.map V.str) := .inl (.inl upd_same)
      exact k _ _ (s4.trans (s5.trans (s6.trans (s7.trans s8)))) (unview (h := .fn xs) (ds := [t'.enc]) (.inl (.inl upd_same)) ⟨t1, [v], rfl, sqt_same (s6.trans (s7.trans s8)) e1, .cons (dp_same s8 _ _ dv) .nil⟩)
end
end K00

namespace K00
open PySem L2 Cm
theorem zip_end {xs : List Str} {ts : List Tr} {t : Tr} (h : ts.length = xs.length) : (xs.zip (Tr.encL (ts ++ [t]))).map rowD = rowsL xs ts ∧ (Tr.encL (ts ++ [t])).drop xs.length = [t.enc] := by
  rw [encL_snoc]
  have hl : (Tr.encL ts).length = xs.length := by rw [encL_len, h]
  refine ⟨?_, ?_⟩
  · unfold rowsL
    congr 1
    have e : xs = xs ++ [] := (List.append_nil xs).symm
    conv => lhs; rw [e]
    rw [List.zip_append hl.symm]
    simp
  · rw [List.drop_append, hl, Nat.sub_self, List.drop_of_length_le (Nat.le_of_eq hl)]
    rfl
def plainA : List Str := ["ask", "if", "mark", "wind", "show"]
theorem rowsN_at {xs : List Str} {ms : List Nd} {i : Nat} {m : Nd} (h : (rowsN xs ms)[i]? = some m) : ∃ x n, xs[i]? = some x ∧ ms[i]? = some n ∧ m = rowN x n := by
  unfold rowsN at h
  rw [List.getElem?_map] at h
  obtain ⟨r, e, rfl⟩ := Option.map_eq_some_iff.mp h
  rw [List.getElem?_zip_eq_some] at e
  exact ⟨_, _, e.1, e.2, rfl⟩
theorem rowsN_len {xs : List Str} {ms : List Nd} (h : ms.length = xs.length) : (rowsN xs ms).length = xs.length := by
  unfold rowsN
  rw [List.length_map, List.length_zip, h, Nat.min_self]
theorem rowsN_dep {xs : List Str} {ms : List Nd} {i : Nat} {x : Str} {n : Nd} (h1 : xs[i]? = some x) (h2 : ms[i]? = some n) : n.dep ≤ Nd.deps (rowsN xs ms) := by
  have m : rowN x n ∈ rowsN xs ms := List.mem_map.mpr ⟨(x, n), List.mem_of_getElem? (List.getElem?_zip_eq_some.mpr ⟨h1, h2⟩), rfl⟩
  have := ndeps_le.mp (Nat.le_refl (Nd.deps (rowsN xs ms))) _ m
  have e : max 0 (max n.dep 0) + 1 ≤ Nd.deps (rowsN xs ms) := this
  omega
section
variable {P : Program} {w : World} {K : PySem.W.Frag} {mg : Str → Option Value} {base : Heap}
abbrev s_p_rows_shape : Stmt := top 34
abbrev N_p_rows_shape : List Str := ["word", "nodes", "place", "rows", "row"]
theorem sc_p_rows_shape : FnScope N_p_rows_shape ["word", "nodes"] (defScope s_p_rows_shape) := ⟨rfl, rfl, rfl, by decide +kernel, rfl, by decide +kernel, by decide +kernel⟩
theorem ok_rows_shape {n lv lv2 : Nat} (hlv : 2 ≤ lv) (hlv2 : lv2 ≤ lv) (T : Txt mg) (G : Glb K mg) (c_p_is_word : Cl P w K mg base 1 "_is_word" (spIsWord K)) (c_p_row_of : Cl P w K mg base lv2 "_row_of" (spRow K n)) (c_p_body_of : Cl P w K mg base lv "_body_of" (spBody K n))
    (D : At K mg "_rows_shape" s_p_rows_shape ["word", "nodes"]) : ∀ w' ∈ bindW, Cl P w K mg base (lv + 1) "_rows_shape" (spShape K n w') := by
  intro w' hw'
  refine cl_of (k := lv) D sc_p_rows_shape (fun vs H Q E h => ?_) fun f cdv A outer s H vs Q E hr h => ?_
  · obtain ⟨L, us, ms, t, S, rfl, _⟩ := h
    rfl
  · obtain ⟨L, us, ms, t, S, rfl, hL, hv, hd, hrd, ho, hrg, k⟩ := h
    obtain ⟨km, hm⟩ := G.mi
    refine ⟨_, (pss_cons (ps_asg (pe_ix ix_list (pv 1) pe_int (fun _ _ => rfl)) (pg_tup (by rfl) (pgs_cons (pg_name (i := 2) sc_p_rows_shape.nd rfl (Or.inl rfl)) (pgs_cons (pg_name (i := 3) sc_p_rows_shape.nd rfl (Or.inl rfl)) pgs_nil))))
      (pss_cons (ps_if (PW.pt (pw_or (pt_val (pe_c c_p_is_word hr (by omega) (by rfl) (pa_cons (pe_ix ix_list (pv 1) pe_int (fun _ _ => rfl)) pa_nil))) (pw_or1 (pt_not (pt_truth (pv 3) (by intro _; rfl))))))
        (pss_one ps_no)
        pss_nil)
      (pss_cons (ps_if (pt_cmpR op_gt (pe_callB call_len_seq (by rfl) T.len (by decide +kernel) (pa_cons (pv 3) pa_nil)) (pe_glob (v := .int 10) (by rfl) hm ⟨_, rfl⟩) (nomark _))
        (pss_one ps_no)
        pss_nil)
      (pss_one (ps_ret (pe_tup (pa_cons (pv 0) (pa_cons (pe_tupleOf (by rfl) T.tuple (pe_lc (own := [("row", 4)]) rfl sc_p_rows_shape.nd (pi_list (pv 3)) (blkOk_by (N := N_p_rows_shape) (sc := defScope s_p_rows_shape) (by decide +kernel))
      (fun _ _ _ _ _ => (pg_name (i := 4) sc_p_rows_shape.nd rfl (Or.inl rfl)))
      (fun _ _ _ _ _ => pts_nil)
      (fun _ _ _ _ _ => (pe_c c_p_row_of hr (by omega) (by rfl) (pa_cons (pv 0) (pa_cons (pv 4) pa_nil)))))) (pa_cons (pe_c c_p_body_of hr (Nat.le_refl _) (by rfl) (pa_cons (pe_slice sl_list (pv 1) (po_some pe_int) po_none) pa_nil)) pa_nil))))))))), ?_⟩
    have nb : ∀ y ∈ bindW, y ≠ "ask" ∧ y ∉ oneW ∧ y ≠ "fn" ∧ y ≠ "do" ∧ y ∉ op2W ++ op1W ∧ y ∉ plainW ∧ y ∈ headW := by decide +kernel
    obtain ⟨b1, b2, b3, b4, b5, b6, b7⟩ := nb w' hw'
    cases rd_head hrd ho hrg with
    | ask z => exact absurd z b1
    | one x u n' z => exact absurd z b2
    | fn xs t' ns' z => exact absurd z b3
    | doo ps z => exact absurd z b4
    | op ps z => exact absurd z b5
    | plain ps z => exact absurd z b6
    | call ps z => exact absurd b7 z
    | bind xs ps t' ms' ns' _ z hrs hpl hb hl9 =>
      subst z
      have ho' : hok (.bind w' xs) (ps ++ [t']).length ∧ (ps ++ [t']).length ≤ 11 ∧ Tr.oks (ps ++ [t']) := ho
      have hg' : rgH (.bind w' xs) (ps ++ [t']).length ∧ (w' = "rec" → ∀ t ∈ (ps ++ [t']).take xs.length, isFnT t = true) ∧ Tr.rgs (ps ++ [t']) := hrg
      have ho3 := oks_iff.mp ho'.2.2
      have hg3 := rgs_iff.mp hg'.2.2
      have hx1 : 1 ≤ xs.length := hg'.1.1
      have hx10 : xs.length ≤ 10 := hg'.1.2.1
      obtain ⟨u, r, rfl, hu, hr0⟩ := hv
      obtain ⟨tp, p, L2, vs2, rfl, ht, hS2, hL2, hv2⟩ := hu
      have lm : ms'.length = xs.length := by rw [hrs.len, hpl]
      have lv2 : vs2.length = xs.length := by rw [hv2.len, rowsN_len lm]
      have hlen : r.length ≤ 9 := by rw [NdsV.len hr0]; exact hl9
      have hdr : Nd.deps (rowsN xs ms') + 1 ≤ n := by
        have : max (Nd.l (rowsN xs ms')).dep (Nd.deps ns') < n := hd
        have e : (Nd.l (rowsN xs ms')).dep = Nd.deps (rowsN xs ms') + 1 := rfl
        omega
      have hdb : Nd.deps ns' < n := by
        have : max (Nd.l (rowsN xs ms')).dep (Nd.deps ns') < n := hd
        omega
      refine ⟨_, rfl, L, _, _, _, rfl, rfl, .inl (.inl hL), atI_nat (j := 0) rfl, tp, _, rfl, ht, rfl, _, _, rfl, _, _, rfl, rfl, ?_⟩
      obtain ⟨a0, b0, ev⟩ : ∃ a0 b0, vs2 = a0 :: b0 := by
        cases vs2 with
        | nil => simp at lv2; omega
        | cons a b => exact ⟨a, b, rfl⟩
      refine ⟨_, rfl, L, _, _, _, rfl, rfl, .inl (.inl hL), atI_nat (j := 0) rfl, .ref tp, .l (rowsN xs ms'), S, rfl, ⟨tp, p, L2, vs2, rfl, ht, hS2, hL2, hv2⟩, _, rfl, ?_⟩
      refine iteF ⟨_, rfl, true, .inl ⟨_, .inl (.inl hL2), by rw [ev]; rfl⟩, ?_⟩
      refine iteF ⟨_, rfl, L2, _, rfl, .inl (.inl (.inl hL2)), _, _, rfl, rfl, _, rfl, ?_⟩
      rw [decide_eq_false (show ¬ ((10 : Int) < (vs2.length : Nat)) by omega)]
      refine iteF ⟨_, rfl, _, rfl, L2, rfl, ⟨_, .inl (.inl hL2)⟩, fun D1 hD1 => ?_⟩
      refine lc_data (K := K) (walk_list (K := K) (a := L2) (xs := vs2)) (fun i => ((xs.zip ps)[i]?).map fun r => rowD (r.1, r.2.enc)) hD1 (by omega) (fun H' s => .inl (.inl (s _ _ hL2))) (fun i _ d e => ?_) ?_ ?_
      · obtain ⟨x, _, rfl⟩ := Option.map_eq_some_iff.mp e
        simp [rowD, flatD, flatDs, flat_enc]
      · rintro i x0 H4' H4 hi s4 ⟨rfl, ex⟩ Q1 Q0 q1 q0
        obtain ⟨m, em, hm'⟩ := NdsV.at hv2 ex
        obtain ⟨x, m2, exi, emi, rfl⟩ := rowsN_at em
        obtain ⟨tt, et, hrt⟩ := rds_at hrs emi
        have tm : tt ∈ ps ++ [t'] := List.mem_append.mpr (.inl (List.mem_of_getElem? et))
        refine ⟨rfl, iteT (B := Q0 H4) ⟨_, rfl, _, rfl, w', x, x0, m2, tt, S, rfl, NdV.same s4 hm', Nat.lt_of_lt_of_le (Nat.lt_succ_of_le (rowsN_dep exi emi)) hdr, hg'.1.2.2 x (List.mem_of_getElem? exi), hrt, ho3 tt tm, hg3 tt tm, fun z => hg'.2.1 z tt ?_, fun r2 H5 s5 dr => ?_⟩⟩
        · rw [List.take_append_of_le_length (by omega), ← hpl, List.take_length]
          exact List.mem_of_getElem? et
        · exact q1 _ _ (rowD (x, tt.enc)) (by rw [show (xs.zip ps)[i]? = some (x, tt) from List.getElem?_zip_eq_some.mpr ⟨exi, et⟩]; rfl) s5 dr
      intro H4 acc s4 hacc dacc
      have lz : vs2.length = (xs.zip ps).length := by rw [lv2, List.length_zip]; omega
      rw [lz, Cm.range_map (fun r : Str × Tr => rowD (r.1, r.2.enc))] at dacc
      have er : (xs.zip ps).map (fun r : Str × Tr => rowD (r.1, r.2.enc)) = rowsL xs ps := by
        unfold rowsL
        rw [encL_map, List.zip_map_right, List.map_map]
        rfl
      rw [er] at dacc
      refine .inl ⟨D1, _, rfl, .inl (.inl hacc), fun t1 ht1 => ?_⟩
      have s5 := same_new (o := .tup acc) ht1
      refine ⟨_, rfl, 1, rfl, L, _, rfl, .inl (.inl ((s4.trans s5) _ _ hL)), fun L3 hL3 => ?_⟩
      have ec : cutV (V.ref tp :: r) (some 1) none = r := by rw [show (1 : Int) = ((1 : Nat) : Int) from rfl, cut_from (by rw [List.length_cons]; omega)]; rfl
      rw [ec]
      have s6 := same_new (o := .lst r) hL3
      have et : t' ∈ ps ++ [t'] := List.mem_append.mpr (.inr (List.mem_singleton.mpr rfl))
      refine ⟨L3, r, ns', t', S, rfl, upd_same, NdsV.same (s4.trans (s5.trans s6)) hr0, hdb, hb, ho3 t' et, hg3 t' et, fun v H5 s7 dv => ⟨by show 3 ≤ sizeLine; decide, fun t2 ht2 => ?_⟩⟩
      have s8 := same_new (o := .tup [V.str w', V.ref t1, v]) ht2
      have e1 : SqT K (upd H4 t1 (.tup acc)) t1 acc := .inl (.inl upd_same)
      have ze := zip_end (t := t') hpl
      refine k _ _ (s4.trans (s5.trans (s6.trans (s7.trans s8)))) (unview (h := .bind w' xs) (ds := Tr.encL (ps ++ [t'])) (.inl (.inl upd_same)) ⟨t1, acc, [v], rfl, sqt_same (s6.trans (s7.trans s8)) e1, ?_, ?_⟩)
      · rw [ze.1]
        exact dps_same (s5.trans (s6.trans (s7.trans s8))) _ _ dacc
      · rw [ze.2]
        exact .cons (dp_same s8 _ _ dv) .nil
abbrev s_p_name_shape : Stmt := top 36
abbrev N_p_name_shape : List Str := ["word", "nodes"]
theorem sc_p_name_shape : FnScope N_p_name_shape ["word", "nodes"] (defScope s_p_name_shape) := ⟨rfl, rfl, rfl, by decide +kernel, rfl, by decide +kernel, by decide +kernel⟩
theorem ok_name_shape {n lv : Nat} (hlv : 2 ≤ lv) (c_p_name_of : Cl P w K mg base 2 "_name_of" (spNameOf K)) (c_p_form_of : Cl P w K mg base lv "_form_of" (spForm K n)) (D : At K mg "_name_shape" s_p_name_shape ["word", "nodes"]) :
    ∀ w' ∈ oneW, Cl P w K mg base (lv + 1) "_name_shape" (spShape K n w') := by
  intro w' hw'
  refine cl_of (k := lv) D sc_p_name_shape (fun vs H Q E h => ?_) fun f cdv A outer s H vs Q E hr h => ?_
  · obtain ⟨L, us, ms, t, S, rfl, _⟩ := h
    rfl
  · obtain ⟨L, us, ms, t, S, rfl, hL, hv, hd, hrd, ho, hrg, k⟩ := h
    refine ⟨_, (pss_one (ps_ret (pe_tup (pa_cons (pv 0) (pa_cons (pe_c c_p_name_of hr (by omega) (by rfl) (pa_cons (pe_ix ix_list (pv 1) pe_int (fun _ _ => rfl)) pa_nil)) (pa_cons (pe_c c_p_form_of hr (Nat.le_refl _) (by rfl) (pa_cons (pe_ix ix_list (pv 1) pe_int (fun _ _ => rfl)) pa_nil)) pa_nil)))))), ?_⟩
    have nb : ∀ y ∈ oneW, y ≠ "ask" ∧ y ∉ bindW ∧ y ≠ "fn" ∧ y ≠ "do" ∧ y ∉ op2W ++ op1W ∧ y ∉ plainW ∧ y ∈ headW := by decide +kernel
    obtain ⟨b1, b2, b3, b4, b5, b6, b7⟩ := nb w' hw'
    cases rd_head hrd ho hrg with
    | ask z => exact absurd z b1
    | bind xs ps t' ms' ns' z => exact absurd z b2
    | fn xs t' ns' z => exact absurd z b3
    | doo ps z => exact absurd z b4
    | op ps z => exact absurd z b5
    | plain ps z => exact absurd z b6
    | call ps z => exact absurd b7 z
    | one x t' n' _ z hrt =>
      subst z
      obtain ⟨u, r0, rfl, hu, hr0⟩ := hv
      obtain ⟨y, r1, rfl, hy, hr1⟩ := hr0
      cases (show r1 = [] from hr1)
      have hx : nmOk x := (show rgH (.one w' x) 1 from hrg.1)
      have hdn : n'.dep < n := by
        have : max (Nd.w x).dep (max n'.dep 0) < n := hd
        omega
      refine ⟨_, rfl, _, rfl, L, _, _, _, rfl, rfl, .inl (.inl hL), atI_nat (j := 0) rfl, u, x, S, rfl, hu, hx, _, rfl, L, _, _, _, rfl, rfl, .inl (.inl hL), atI_nat (j := 1) rfl, y, n', t', S, rfl, hy, hdn, hrt, (show t'.ok ∧ True from ho.2.2).1, (show t'.rg ∧ True from hrg.2.2).1, fun v H1 s1 dv => ⟨by show 3 ≤ sizeLine; decide, fun t1 ht1 => ?_⟩⟩
      have s2 := same_new (o := .tup [V.str w', V.str x, v]) ht1
      exact k _ _ (s1.trans s2) (unview (h := .one w' x) (ds := [t'.enc]) (.inl (.inl upd_same)) ⟨[v], rfl, .cons (dp_same s2 _ _ dv) .nil⟩)
abbrev s_p_plain_shape : Stmt := top 37
abbrev N_p_plain_shape : List Str := ["word", "nodes"]
theorem sc_p_plain_shape : FnScope N_p_plain_shape ["word", "nodes"] (defScope s_p_plain_shape) := ⟨rfl, rfl, rfl, by decide +kernel, rfl, by decide +kernel, by decide +kernel⟩
theorem ok_plain_shape {n lv : Nat} (c_p_forms_of : Cl P w K mg base lv "_forms_of" (spForms K n)) (D : At K mg "_plain_shape" s_p_plain_shape ["word", "nodes"]) :
    ∀ w' ∈ plainA, Cl P w K mg base (lv + 1) "_plain_shape" (spShape K n w') := by
  intro w' hw'
  refine cl_of (k := lv) D sc_p_plain_shape (fun vs H Q E h => ?_) fun f cdv A outer s H vs Q E hr h => ?_
  · obtain ⟨L, us, ms, t, S, rfl, _⟩ := h
    rfl
  · obtain ⟨L, us, ms, t, S, rfl, hL, hv, hd, hrd, ho, hrg, k⟩ := h
    refine ⟨_, (pss_one (ps_ret (pe_op op_catA (pe_tup (pa_cons (pv 0) pa_nil)) (pe_c c_p_forms_of hr (Nat.le_refl _) (by rfl) (pa_cons (pv 1) pa_nil))))), ?_⟩
    have nb : ∀ y ∈ plainA, y ∉ oneW ∧ y ∉ bindW ∧ y ≠ "fn" ∧ y ≠ "do" ∧ y ∉ op2W ++ op1W ∧ y ∈ headW := by decide +kernel
    obtain ⟨b2, b1, b3, b4, b5, b7⟩ := nb w' hw'
    refine ⟨_, rfl, by show 1 ≤ sizeLine; decide, fun t1 ht1 => ⟨_, rfl, ?_⟩⟩
    have s1 := same_new (o := .tup [V.str w']) ht1
    have e1 : SqT K (upd H t1 (.tup [V.str w'])) t1 [V.str w'] := .inl (.inl upd_same)
    have fin : ∀ ts : List Tr, Rds ts ms → Tr.oks ts → Tr.rgs ts → ts.length ≤ 11 → t.enc = .tuple (.str w' :: Tr.encL ts) → spForms K n [.ref L] (upd H t1 (.tup [V.str w'])) (fun v H1 => rCatA K (.ref t1) v H1 Q) E0 := fun ts a1 a2 a3 a4 a5 => by
      refine ⟨L, us, ms, ts, S, rfl, s1 _ _ hL, NdsV.same s1 hv, hd, a1, a2, a3, by omega, fun r xs H2 s2 hr2 hxs => ?_⟩
      have lx : xs.length = ts.length := by have := DpAll.len hxs; rwa [encL_len] at this
      refine cat_any (sqt_same s2 e1) hr2 (Nat.le_trans (show 1 + xs.length ≤ 100 by omega) (by decide)) fun t3 H3 s3 ht3 => k _ _ (s1.trans (s2.trans s3)) ?_
      rw [a5]
      exact .tup ht3 (.cons (.str _) (dps_same s3 _ _ hxs))
    cases rd_head hrd ho hrg with
    | one x u n' z => exact absurd z b2
    | bind xs ps t' ms' ns' z => exact absurd z b1
    | fn xs t' ns' z => exact absurd z b3
    | doo ps z => exact absurd z b4
    | op ps z => exact absurd z b5
    | call ps z => exact absurd b7 z
    | ask z z2 =>
      subst z z2
      exact fin [] .nil trivial trivial (by decide) rfl
    | plain ps z hrs => exact fin ps hrs (show _ ∧ ps.length ≤ 11 ∧ Tr.oks ps from ho).2.2 (show _ ∧ _ ∧ Tr.rgs ps from hrg).2.2 (show _ ∧ ps.length ≤ 11 ∧ Tr.oks ps from ho).2.1 rfl
abbrev s_p_do_shape : Stmt := top 38
abbrev N_p_do_shape : List Str := ["word", "nodes"]
theorem sc_p_do_shape : FnScope N_p_do_shape ["word", "nodes"] (defScope s_p_do_shape) := ⟨rfl, rfl, rfl, by decide +kernel, rfl, by decide +kernel, by decide +kernel⟩
theorem ok_do_shape {n lv : Nat} (c_p_forms_of : Cl P w K mg base lv "_forms_of" (spForms K n)) (D : At K mg "_do_shape" s_p_do_shape ["word", "nodes"]) : Cl P w K mg base (lv + 1) "_do_shape" (spShape K n "do") := by
  refine cl_of (k := lv) D sc_p_do_shape (fun vs H Q E h => ?_) fun f cdv A outer s H vs Q E hr h => ?_
  · obtain ⟨L, us, ms, t, S, rfl, _⟩ := h
    rfl
  · obtain ⟨L, us, ms, t, S, rfl, hL, hv, hd, hrd, ho, hrg, k⟩ := h
    refine ⟨_, (pss_one (ps_ret (pe_tup (pa_cons (pv 0) (pa_cons (pe_c c_p_forms_of hr (Nat.le_refl _) (by rfl) (pa_cons (pv 1) pa_nil)) pa_nil))))), ?_⟩
    cases rd_head hrd ho hrg with
    | ask z => exact absurd z (by decide +kernel)
    | one x u n' z => exact absurd z (by decide +kernel)
    | fn xs u ns z => exact absurd z (by decide +kernel)
    | bind xs ps u ms' ns z => exact absurd z (by decide +kernel)
    | op ps z => exact absurd z (by decide +kernel)
    | plain ps z => exact absurd z (by decide +kernel)
    | call ps z => exact absurd (show ("do" : Str) ∈ headW by decide +kernel) z
    | doo ps _ hrs =>
      have ho' : hok .doo ps.length ∧ ps.length ≤ 11 ∧ Tr.oks ps := ho
      refine ⟨_, rfl, _, rfl, L, us, ms, ps, S, rfl, hL, hv, hd, hrs, ho'.2.2, (show _ ∧ _ ∧ Tr.rgs ps from hrg).2.2, by omega, fun r xs H2 s2 hr2 hxs => ⟨by show 2 ≤ sizeLine; decide, fun t1 ht1 => ?_⟩⟩
      have s3 := same_new (o := .tup [V.str "do", V.ref r]) ht1
      exact k _ _ (s2.trans s3) (unview (h := .doo) (ds := Tr.encL ps) (.inl (.inl upd_same)) ⟨r, xs, rfl, sqt_same s3 hr2, dps_same s3 _ _ hxs⟩)
end
end K00

namespace K00
open PySem L2 Cm
theorem held_of {P : Program} {w : World} {K : PySem.W.Frag} {mg : Str → Option Value} {base : Heap} {j k : Nat} {x : Str} {sp : Sp} {f : Addr} (c : Cl P w K mg base j x sp) (h : mg x = some (.ref f)) (hk : j ≤ k) : Held P w K mg base k f sp := by
  obtain ⟨f', fd, ps, F, hm, kp, b⟩ := c.ex
  rw [h] at hm
  cases hm
  exact ⟨fd, ps, F.mono hk, kp, b⟩
/-- what a list of nodes is read as -/
inductive LI : Tr → List Nd → Prop
  | head (t : Tr) (w : Str) (ms : List Nd) (lo hi : Nat) : (w, ((lo : Nat) : Int), ((hi : Nat) : Int)) ∈ countsL → lo ≤ ms.length → ms.length ≤ hi → hi ≤ 10 → (w ∈ shapeW ∨ (w ∉ shapeW ∧ ∃ ps, t = .mk (.op w) ps ∧ Rds ps ms)) → LI t (.w w :: ms)
  | call (p : Tr) (ps : List Tr) (n : Nd) (ms : List Nd) : Rd p n → Rds ps ms → ms.length ≤ 10 → (∀ s, fst (n :: ms) = some s → s ∉ headW) → LI (.mk .call (p :: ps)) (n :: ms)
theorem li_of {t : Tr} {ns : List Nd} (h : Rd t (.l ns)) (o : t.ok) (g : t.rg) : LI t ns := by
  have oo := o
  cases h with
  | ask => exact .head _ _ _ 0 0 (by decide +kernel) (Nat.le_refl _) (Nat.le_refl _) (by decide) (.inl (by decide +kernel))
  | one w x t n a =>
    have key : ∀ y ∈ oneW, (y, ((2 : Nat) : Int), ((2 : Nat) : Int)) ∈ countsL ∧ y ∈ shapeW := by decide +kernel
    have := key w (show hok (.one w x) 1 from o.1).2.1
    exact .head _ _ _ 2 2 this.1 (Nat.le_refl _) (Nat.le_refl _) (by decide) (.inl this.2)
  | fn xs t ns a l9 =>
    have l := a.len
    exact .head _ _ _ 2 10 (by decide +kernel) (by rw [List.length_cons]; omega) (by rw [List.length_cons]; omega) (by decide) (.inl (by decide +kernel))
  | bind w xs ps t ms ns a b c l9 =>
    have key : ∀ y ∈ bindW, (y, ((2 : Nat) : Int), ((10 : Nat) : Int)) ∈ countsL ∧ y ∈ shapeW := by decide +kernel
    have := key w (show hok (.bind w xs) _ from o.1).2.1
    have l := c.len
    exact .head _ _ _ 2 10 this.1 (by rw [List.length_cons]; omega) (by rw [List.length_cons]; omega) (by decide) (.inl this.2)
  | doo ps ns a =>
    have g1 : 1 ≤ ps.length ∧ ps.length ≤ 10 := g.1
    have l := a.len
    exact .head _ _ _ 1 10 (by decide +kernel) (by omega) (by omega) (by decide) (.inl (by decide +kernel))
  | op w ps ns a =>
    have l := a.len
    have k2 : ∀ y ∈ op2W, (y, ((2 : Nat) : Int), ((2 : Nat) : Int)) ∈ countsL ∧ y ∉ shapeW := by decide +kernel
    have k1 : ∀ y ∈ op1W, (y, ((1 : Nat) : Int), ((1 : Nat) : Int)) ∈ countsL ∧ y ∉ shapeW := by decide +kernel
    rcases (show rgH (.op w) ps.length from g.1) with z | z
    · exact .head _ _ _ 2 2 (k2 w z.1).1 (by omega) (by omega) (by decide) (.inr ⟨(k2 w z.1).2, ps, rfl, a⟩)
    · exact .head _ _ _ 1 1 (k1 w z.1).1 (by omega) (by omega) (by decide) (.inr ⟨(k1 w z.1).2, ps, rfl, a⟩)
  | plain w ps ns a =>
    have l := a.len
    have z : ps.length = (if w = "if" ∨ w = "wind" then 3 else 1) := g.1
    have key : ∀ y ∈ plainW, (y, (((if y = "if" ∨ y = "wind" then 3 else 1 : Nat) : Nat) : Int), (((if y = "if" ∨ y = "wind" then 3 else 1 : Nat) : Nat) : Int)) ∈ countsL ∧ y ∈ shapeW := by decide +kernel
    have := key w (show hok (.plain w) _ from o.1)
    refine .head _ _ _ (if w = "if" ∨ w = "wind" then 3 else 1) (if w = "if" ∨ w = "wind" then 3 else 1) this.1 (by omega) (by omega) (by split <;> decide) (.inl this.2)
  | call ps ns hrs =>
    have g1 : 1 ≤ ps.length ∧ ps.length ≤ 11 := g.1
    cases hrs with
    | nil => exact absurd g1.1 (by decide)
    | cons t n ts ns a b =>
      have := b.len
      have l11 : (t :: ts).length ≤ 11 := g1.2
      rw [List.length_cons] at l11
      refine .call t ts n ns a b (by omega) fun s e => ?_
      cases n with
      | l ms => cases e
      | w s' => cases e; exact rd_word a g.2.2.1
section
variable {P : Program} {w : World} {K : PySem.W.Frag} {mg : Str → Option Value} {base : Heap}
abbrev s_p_form_of : Stmt := top 27
abbrev N_p_form_of : List Str := ["node", "place", "nodes", "word", "least", "most", "shape"]
theorem sc_p_form_of : FnScope N_p_form_of ["node"] (defScope s_p_form_of) := ⟨rfl, rfl, rfl, by decide +kernel, rfl, by decide +kernel, by decide +kernel⟩
structure Rdr (P : Program) (w : World) (K : PySem.W.Frag) (mg : Str → Option Value) (base : Heap) : Prop where
  T : Txt mg
  G : Glb K mg
  GD : GlbD K w mg
  isw : Cl P w K mg base 1 "_is_word" (spIsWord K)
  fst : Cl P w K mg base 2 "_first_word" (spFst K)
  num : Cl P w K mg base 1 "is_number" spIsNum
  nm : Cl P w K mg base 1 "_is_name" spIsName
  op : Cl P w K mg base 1 "is_op" spIsOp
  fow : Cl P w K mg base 2 "_form_of_word" (spFormW K)
  nmo : Cl P w K mg base 2 "_name_of" (spNameOf K)
  d1 : At K mg "_forms_of" s_p_forms_of ["nodes"]
  d2 : At K mg "_body_of" s_p_body_of ["nodes"]
  d3 : At K mg "_row_of" s_p_row_of ["word", "row"]
  d4 : At K mg "_fn_shape" s_p_fn_shape ["word", "nodes"]
  d5 : At K mg "_rows_shape" s_p_rows_shape ["word", "nodes"]
  d6 : At K mg "_name_shape" s_p_name_shape ["word", "nodes"]
  d7 : At K mg "_plain_shape" s_p_plain_shape ["word", "nodes"]
  d8 : At K mg "_do_shape" s_p_do_shape ["word", "nodes"]
theorem ok_form_of (R : Rdr P w K mg base) (D : At K mg "_form_of" s_p_form_of ["node"]) : ∀ n, Cl P w K mg base (4 * n + 3) "_form_of" (spForm K n) := by
  intro n
  induction n with
  | zero =>
    refine cl_of (k := 2) D sc_p_form_of (fun vs H Q E h => ?_) fun f cdv A outer s H vs Q E hr h => ?_
    · obtain ⟨v, m, t, S, rfl, _⟩ := h
      rfl
    · obtain ⟨v, m, t, S, _, _, z, _⟩ := h
      exact absurd z (Nat.not_lt_zero _)
  | succ n ih =>
    have c1 := ok_forms_of R.T ih R.d1
    have c2 := ok_body_of R.T c1 R.d2
    have c3 := ok_row_of (by omega) R.T R.isw R.fst R.nmo ih R.d3
    have h4 := ok_fn_shape (by omega) R.T R.G R.isw R.nmo c2 R.d4
    have h5 := ok_rows_shape (by omega) (by omega) R.T R.G R.isw c3 c2 R.d5
    have h6 := ok_name_shape (by omega) R.nmo ih R.d6
    have h7 := ok_plain_shape c1 R.d7
    have h8 := ok_do_shape c1 R.d8
    have T := R.T
    obtain ⟨sa, es2, n2, hsa, DS, nsn, nss⟩ := R.GD.sh
    have acts : ∀ w' ∈ shapeW, ∃ f : Addr, KDct K w sa w' (.ref f) ∧ Held P w K mg base (4 * n + 6) f (spShape K n w') := by
      intro w' hw'
      rw [← shapes_w] at hw'
      obtain ⟨r, hr, rfl⟩ := List.mem_map.mp hw'
      obtain ⟨f, e1, e2⟩ := nss r hr
      refine ⟨f, ⟨es2, n2, _, DS.at_, DS.lit, e1, rfl⟩, ?_⟩
      simp only [shapesL, List.mem_cons, List.not_mem_nil, or_false] at hr
      rcases hr with rfl | rfl | rfl | rfl | rfl | rfl | rfl | rfl | rfl | rfl | rfl | rfl | rfl
      · exact held_of h4 e2 (by omega)
      · exact held_of (h5 "let" (by decide +kernel)) e2 (by omega)
      · exact held_of (h5 "rec" (by decide +kernel)) e2 (by omega)
      · exact held_of (h6 "set" (by decide +kernel)) e2 (by omega)
      · exact held_of (h7 "if" (by decide +kernel)) e2 (by omega)
      · exact held_of h8 e2 (by omega)
      · exact held_of (h6 "keep" (by decide +kernel)) e2 (by omega)
      · exact held_of (h6 "once" (by decide +kernel)) e2 (by omega)
      · exact held_of (h6 "take" (by decide +kernel)) e2 (by omega)
      · exact held_of (h7 "mark" (by decide +kernel)) e2 (by omega)
      · exact held_of (h7 "wind" (by decide +kernel)) e2 (by omega)
      · exact held_of (h7 "show" (by decide +kernel)) e2 (by omega)
      · exact held_of (h7 "ask" (by decide +kernel)) e2 (by omega)
    refine cl_of (k := 4 * n + 6) D sc_p_form_of (fun vs H Q E h => ?_) fun f cdv A outer s H vs Q E hr h => ?_
    · obtain ⟨v, m, t, S, rfl, _⟩ := h
      rfl
    · obtain ⟨v, m, t, S, rfl, hv, hd, hrd, ho, hrg, k⟩ := h
      obtain ⟨km, hm⟩ := R.G.mi
      obtain ⟨ca, es, n1, hca, DC, ncn, ncs⟩ := R.GD.ct
      obtain ⟨SS, hS, hS2⟩ : ∃ SS : Addr → Option Sp, (∀ (f : Addr) (sp : Sp), SS f = some sp → Held P w K mg base (4 * n + 6) f sp) ∧ (∀ w', fw1 m = some w' → w' ∈ shapeW → ∃ f, KDct K w sa w' (.ref f) ∧ SS f = some (spShape K n w')) := by
        by_cases q : ∃ w', fw1 m = some w' ∧ w' ∈ shapeW
        · obtain ⟨w', e1, e2⟩ := q
          obtain ⟨f0, hk, hh⟩ := acts w' e2
          refine ⟨fun g => if g = f0 then some (spShape K n w') else none, ⟨fun g sp e => ?_, fun w2 z _ => ?_⟩⟩
          · by_cases z : g = f0
            · simp only [z, if_true, Option.some.injEq] at e
              rw [z, ← e]
              exact hh
            · simp only [z, if_false] at e
              cases e
          · rw [e1] at z
            cases z
            exact ⟨f0, hk, if_pos rfl⟩
        · exact ⟨fun _ => none, ⟨fun _ _ e => (by cases e), fun w' z1 z2 => absurd ⟨w', z1, z2⟩ q⟩⟩
      refine ⟨_, (pss_cons (ps_if (pt_val (pe_c R.isw hr (by omega) (by rfl) (pa_cons (pv 0) pa_nil)))
        (pss_one (ps_ret (pe_c R.fow hr (by omega) (by rfl) (pa_cons (pv 0) pa_nil))))
        pss_nil)
      (pss_cons (ps_asg (pv 0) (pg_tup (by rfl) (pgs_cons (pg_name (i := 1) sc_p_form_of.nd rfl (Or.inl rfl)) (pgs_cons (pg_name (i := 2) sc_p_form_of.nd rfl (Or.inl rfl)) pgs_nil))))
      (pss_cons (ps_if (pt_not (pt_truth (pv 2) (by intro _; rfl)))
        (pss_one ps_no)
        pss_nil)
      (pss_cons (ps_if (pt_cmpR op_gt (pe_op op_sub (pe_callB call_len_seq (by rfl) T.len (by decide +kernel) (pa_cons (pv 2) pa_nil)) pe_int) (pe_glob (v := .int 10) (by rfl) hm ⟨_, rfl⟩) (nomark _))
        (pss_one ps_no)
        pss_nil)
      (pss_cons (ps_set (i := 3) sc_p_form_of.nd rfl (Or.inl rfl) (pe_c R.fst hr (by omega) (by rfl) (pa_cons (pv 0) pa_nil)))
      (pss_cons (ps_if (pt_cmpR (op_notInNkd DC) (pv 3) (pe_glob (v := .ref ca) (by rfl) hca rfl) (by rfl))
        (pss_one (ps_ret (pe_tup (pa_cons pe_str (pa_cons (pe_c ih hr (by omega) (by rfl) (pa_cons (pe_ix ix_list (pv 2) pe_int (fun _ _ => rfl)) pa_nil)) (pa_cons (pe_c c1 hr (by omega) (by rfl) (pa_cons (pe_slice sl_list (pv 2) (po_some pe_int) po_none) pa_nil)) pa_nil))))))
        pss_nil)
      (pss_cons (ps_asg (pe_ix ix_kdict (pe_glob (v := .ref ca) (by rfl) hca rfl) (pv 3) (fun _ _ => rfl)) (pg_tup (by rfl) (pgs_cons (pg_name (i := 4) sc_p_form_of.nd rfl (Or.inl rfl)) (pgs_cons (pg_name (i := 5) sc_p_form_of.nd rfl (Or.inl rfl)) pgs_nil))))
      (pss_cons (ps_if (pt_not (pt_chain op_le op_le (pv 4) (pe_op op_sub (pe_callB call_len_seq (by rfl) T.len (by decide +kernel) (pa_cons (pv 2) pa_nil)) pe_int) (pv 5)))
        (pss_one ps_no)
        pss_nil)
      (pss_cons (ps_if (pt_val (pe_c R.op hr (by omega) (by rfl) (pa_cons (pv 3) pa_nil)))
        (pss_one (ps_ret (pe_tup (pa_cons pe_str (pa_cons (pv 3) (pa_cons (pe_c c1 hr (by omega) (by rfl) (pa_cons (pe_slice sl_list (pv 2) (po_some pe_int) po_none) pa_nil)) pa_nil))))))
        pss_nil)
      (pss_cons (ps_set (i := 6) sc_p_form_of.nd rfl (Or.inl rfl) (pe_ix ix_kdict (pe_glob (v := .ref sa) (by rfl) hsa rfl) (pv 3) (fun _ _ => rfl)))
      (pss_one (ps_ret (pe_callA (i := 6) hS hr rfl (Or.inl rfl) (pa_cons (pv 3) (pa_cons (pe_slice sl_list (pv 2) (po_some pe_int) po_none) pa_nil))))))))))))))), ?_⟩
      refine ⟨_, rfl, v, m, S, rfl, hv, _, rfl, ?_⟩
      have hv0 := hv
      obtain ⟨tp, p, x, rfl, ht, hx⟩ := ndv_tup hv
      cases m with
      | w s => exact iteT ⟨_, rfl, _, s, t, S, rfl, hv0, hrd, hrg, k⟩
      | l ns =>
        obtain ⟨L, us, rfl, hSL, hL, hus⟩ := hx
        have hdn : Nd.deps ns < n := by
          have : Nd.deps ns + 1 < n + 1 := hd
          omega
        refine iteF ⟨_, rfl, tp, _, rfl, ht, rfl, _, _, rfl, _, _, rfl, rfl, ?_⟩
        cases li_of hrd ho hrg with
        | call p1 ps n1' ms hr1 hrs hl10 hnh =>
          obtain ⟨u, r, rfl, hu, hr0⟩ := hus
          have lr : r.length = ms.length := hr0.len
          refine ⟨_, rfl, true, .inl ⟨_, .inl (.inl hL), rfl⟩, ?_⟩
          refine iteF ⟨_, rfl, L, _, rfl, .inl (.inl (.inl hL)), _, _, rfl, rfl, _, _, rfl, rfl, _, rfl, ?_⟩
          rw [decide_eq_false (show ¬ ((10 : Int) < (((u :: r).length : Nat) : Int) - 1) by rw [List.length_cons]; omega)]
          refine iteF ⟨_, rfl, .ref tp, _, S, rfl, hv0, _, rfl, rfl, ?_⟩
          have ho' : hok .call (p1 :: ps).length ∧ (p1 :: ps).length ≤ 11 ∧ p1.ok ∧ Tr.oks ps := ho
          have hg' : _ ∧ _ ∧ p1.rg ∧ Tr.rgs ps := hrg
          have hd2 : max n1'.dep (Nd.deps ms) < n := hdn
          cases n1' with
          | w s0 =>
            refine .inl ⟨s0, none, rfl, ncn s0 (hnh s0 rfl), _, rfl, ?_⟩
            refine iteT ⟨_, rfl, L, _, _, _, rfl, rfl, .inl (.inl hL), atI_nat (j := 0) rfl, u, _, p1, S, rfl, hu, by omega, hr1, ho'.2.2.1, hg'.2.2.1, fun r1 H1 s1 dr1 => ⟨_, rfl, 1, rfl, L, _, rfl, .inl (.inl (s1 _ _ hL)), fun L3 hL3 => ?_⟩⟩
            have ec : cutV (u :: r) (some 1) none = r := by rw [show (1 : Int) = ((1 : Nat) : Int) from rfl, cut_from (by rw [List.length_cons]; omega)]; rfl
            rw [ec]
            have s2 := same_new (o := .lst r) hL3
            refine ⟨L3, r, ms, ps, S, rfl, upd_same, NdsV.same (s1.trans s2) hr0, by omega, hrs, ho'.2.2.2, hg'.2.2.2, by have := hrs.len; omega, fun r2 xs H3 s3 hr2 hxs => ⟨by show 3 ≤ sizeLine; decide, fun t4 ht4 => ?_⟩⟩
            have s4 := same_new (o := .tup [V.str "call", r1, V.ref r2]) ht4
            have s24 := s2.trans (s3.trans s4)
            exact k _ _ (s1.trans s24) (unview (h := .call) (ds := p1.enc :: Tr.encL ps) (.inl (.inl upd_same)) ⟨r2, [r1], xs, rfl, .cons (dp_same s24 _ _ dr1) .nil, sqt_same s4 hr2, dps_same s4 _ _ hxs⟩)
          | l ms0 =>
            refine .inr ⟨rfl, _, rfl, ?_⟩
            refine iteT ⟨_, rfl, L, _, _, _, rfl, rfl, .inl (.inl hL), atI_nat (j := 0) rfl, u, _, p1, S, rfl, hu, by omega, hr1, ho'.2.2.1, hg'.2.2.1, fun r1 H1 s1 dr1 => ⟨_, rfl, 1, rfl, L, _, rfl, .inl (.inl (s1 _ _ hL)), fun L3 hL3 => ?_⟩⟩
            have ec : cutV (u :: r) (some 1) none = r := by rw [show (1 : Int) = ((1 : Nat) : Int) from rfl, cut_from (by rw [List.length_cons]; omega)]; rfl
            rw [ec]
            have s2 := same_new (o := .lst r) hL3
            refine ⟨L3, r, ms, ps, S, rfl, upd_same, NdsV.same (s1.trans s2) hr0, by omega, hrs, ho'.2.2.2, hg'.2.2.2, by have := hrs.len; omega, fun r2 xs H3 s3 hr2 hxs => ⟨by show 3 ≤ sizeLine; decide, fun t4 ht4 => ?_⟩⟩
            have s4 := same_new (o := .tup [V.str "call", r1, V.ref r2]) ht4
            have s24 := s2.trans (s3.trans s4)
            exact k _ _ (s1.trans s24) (unview (h := .call) (ds := p1.enc :: Tr.encL ps) (.inl (.inl upd_same)) ⟨r2, [r1], xs, rfl, .cons (dp_same s24 _ _ dr1) .nil, sqt_same s4 hr2, dps_same s4 _ _ hxs⟩)
        | head t w' ms lo hi hc h1 h2 h10 hsh =>
          obtain ⟨u, r, rfl, hu, hr0⟩ := hus
          have lr : r.length = ms.length := hr0.len
          obtain ⟨cp, ecp, hcp⟩ := ncs _ hc
          have hd2 : max (Nd.w w').dep (Nd.deps ms) < n := hdn
          have hwh : w' ∈ headW := by rw [← counts_head]; exact List.mem_map.mpr ⟨_, hc, rfl⟩
          have ec : cutV (u :: r) (some 1) none = r := by rw [show (1 : Int) = ((1 : Nat) : Int) from rfl, cut_from (by rw [List.length_cons]; omega)]; rfl
          refine ⟨_, rfl, true, .inl ⟨_, .inl (.inl hL), rfl⟩, ?_⟩
          refine iteF ⟨_, rfl, L, _, rfl, .inl (.inl (.inl hL)), _, _, rfl, rfl, _, _, rfl, rfl, _, rfl, ?_⟩
          rw [decide_eq_false (show ¬ ((10 : Int) < (((u :: r).length : Nat) : Int) - 1) by rw [List.length_cons]; omega)]
          refine iteF ⟨_, rfl, .ref tp, _, S, rfl, hv0, _, rfl, rfl, .inl ⟨w', some (.ref cp), rfl, ecp, _, rfl, ?_⟩⟩
          refine iteF ⟨_, rfl, ca, w', _, rfl, rfl, ⟨es, n1, _, DC.at_, DC.lit, ecp, (show RelV (V.ref cp) (Value.ref cp) from rfl)⟩, cp, _, rfl, hcp _, rfl, _, _, rfl, _, _, rfl, rfl, ?_⟩
          refine ⟨_, rfl, _, rfl, L, _, rfl, .inl (.inl (.inl hL)), _, _, rfl, rfl, _, _, rfl, rfl, _, rfl, ?_⟩
          rw [decide_eq_true (show ((lo : Nat) : Int) ≤ (((u :: r).length : Nat) : Int) - 1 by rw [List.length_cons]; omega)]
          refine iteT ⟨_, rfl, _, _, rfl, rfl, _, rfl, ?_⟩
          rw [decide_eq_true (show (((u :: r).length : Nat) : Int) - 1 ≤ ((hi : Nat) : Int) by rw [List.length_cons]; omega)]
          refine iteF ⟨_, rfl, w', rfl, _, rfl, ?_⟩
          rw [decide_eq_true hwh]
          rcases hsh with hsh | ⟨hsh, ps, rfl, hrs⟩
          · rw [decide_eq_true hsh]
            obtain ⟨f0, hk, hf0⟩ := hS2 w' rfl hsh
            refine iteF ⟨_, rfl, sa, w', _, rfl, rfl, hk, ?_⟩
            refine ⟨f0, _, rfl, hf0, _, rfl, _, rfl, 1, rfl, L, _, rfl, .inl (.inl hL), fun L3 hL3 => ?_⟩
            rw [ec]
            have s2 := same_new (o := .lst r) hL3
            exact ⟨L3, r, ms, t, S, rfl, upd_same, NdsV.same s2 hr0, by omega, hrd, ho, hrg, fun r1 H3 s3 dr => k _ _ (s2.trans s3) dr⟩
          · rw [decide_eq_false hsh]
            have ho' : hok (.op w') ps.length ∧ ps.length ≤ 11 ∧ Tr.oks ps := ho
            refine iteT ⟨_, rfl, _, rfl, 1, rfl, L, _, rfl, .inl (.inl hL), fun L3 hL3 => ?_⟩
            rw [ec]
            have s2 := same_new (o := .lst r) hL3
            refine ⟨L3, r, ms, ps, S, rfl, upd_same, NdsV.same s2 hr0, by omega, hrs, ho'.2.2, (show _ ∧ _ ∧ Tr.rgs ps from hrg).2.2, by omega, fun r2 xs H3 s3 hr2 hxs => ⟨by show 3 ≤ sizeLine; decide, fun t4 ht4 => ?_⟩⟩
            have s4 := same_new (o := .tup [V.str "op", V.str w', V.ref r2]) ht4
            exact k _ _ (s2.trans (s3.trans s4)) (unview (h := .op w') (ds := Tr.encL ps) (.inl (.inl upd_same)) ⟨r2, xs, rfl, sqt_same s4 hr2, dps_same s4 _ _ hxs⟩)
/-- a text that lays out nodes which are read as a body -/
def spRead (K : PySem.W.Frag) : Sp := fun vs H Q _ => ∃ (x : Str) (ns : List Nd) (t : Tr), vs = [.str x] ∧ x.length ≤ 3000 ∧ Lays (cs x) ns ∧ Nd.deps ns ≤ 30 ∧ Nd.funss ns ≤ 60 ∧ Bd t ns ∧ t.ok ∧ t.rg ∧ ∀ (r : V) (H' : Hp), Same H H' → Dp K H' r t.enc → Q r H'
abbrev s_p_read_program : Stmt := top 17
abbrev N_p_read_program : List Str := ["text", "nodes", "tree"]
theorem sc_p_read_program : FnScope N_p_read_program ["text"] (defScope s_p_read_program) := ⟨rfl, rfl, rfl, by decide +kernel, rfl, by decide +kernel, by decide +kernel⟩
theorem ok_read_program (R : Rdr P w K mg base) (c_sg : Cl P w K mg base 1 "_check_signs" spSigns) (c_br : Cl P w K mg base 1 "_check_brackets" spBrks) (c_nd : Cl P w K mg base 2 "_nodes_of" (spNodes K))
    (DF : At K mg "_form_of" s_p_form_of ["node"]) (DC : At K mg "_count_funs" s_p_count_funs ["nodes"]) (D : At K mg "read_program" s_p_read_program ["text"]) : Cl P w K mg base 131 "read_program" (spRead K) := by
  have cf := ok_form_of R DF 31
  have c1 := ok_forms_of R.T cf R.d1
  have c2 := ok_body_of R.T c1 R.d2
  have cc := ok_count_funs R.G R.isw R.fst DC 31
  have T := R.T
  refine cl_of (k := 130) D sc_p_read_program (fun vs H Q E h => ?_) fun f cdv A outer s H vs Q E hr h => ?_
  · obtain ⟨x, ns, t, rfl, _⟩ := h
    rfl
  · obtain ⟨x, ns, t, rfl, hl, hlay, hd, hf, hb, ho, hg, k⟩ := h
    obtain ⟨km, hm⟩ := R.G.mi
    obtain ⟨kf, hmf⟩ := R.G.mf
    refine ⟨_, (pss_cons (ps_expr (pe_c c_sg hr (by decide) (by rfl) (pa_cons (pv 0) pa_nil)))
      (pss_cons (ps_expr (pe_c c_br hr (by decide) (by rfl) (pa_cons (pv 0) pa_nil)))
      (pss_cons (ps_set (i := 1) sc_p_read_program.nd rfl (Or.inl rfl) (pe_c c_nd hr (by decide) (by rfl) (pa_cons (pv 0) pa_nil)))
      (pss_cons (ps_if (pt_not (pt_truth (pv 1) (by intro _; rfl)))
        (pss_one ps_no)
        pss_nil)
      (pss_cons (ps_if (pt_cmpR op_gt (pe_callB call_len_seq (by rfl) T.len (by decide +kernel) (pa_cons (pv 1) pa_nil)) (pe_glob (v := .int 10) (by rfl) hm ⟨_, rfl⟩) (nomark _))
        (pss_one ps_no)
        pss_nil)
      (pss_cons (ps_set (i := 2) sc_p_read_program.nd rfl (Or.inl rfl) (pe_c c2 hr (by decide) (by rfl) (pa_cons (pv 1) pa_nil)))
      (pss_cons (ps_if (pt_cmpR op_gt (pe_c cc hr (by decide) (by rfl) (pa_cons (pv 1) pa_nil)) (pe_glob (v := .int 60) (by rfl) hmf ⟨_, rfl⟩) (nomark _))
        (pss_one ps_no)
        pss_nil)
      (pss_one (ps_ret (pv 2)))))))))), ?_⟩
    have hbr : brk 0 (cs x) = some 0 := by
      have := brk_lays hlay 0 [] (by omega)
      rw [List.append_nil] at this
      exact this
    refine ⟨_, rfl, x, rfl, hl, sgn_lays hlay, fun H1 s1 => ⟨_, rfl, x, rfl, hl, hbr, fun H2 s2 => ⟨_, rfl, x, ns, rfl, hl, hlay, fun L us S H3 s3 hL hus => ?_⟩⟩⟩
    have lu : us.length = ns.length := hus.len
    have lb := hb.len
    obtain ⟨a0, b0, ev⟩ : ∃ a0 b0, us = a0 :: b0 := by
      cases us with
      | nil => simp at lu; omega
      | cons a b => exact ⟨a, b, rfl⟩
    refine ⟨_, rfl, true, .inl ⟨_, .inl (.inl hL), by rw [ev]; rfl⟩, ?_⟩
    refine iteF ⟨_, rfl, L, _, rfl, .inl (.inl (.inl hL)), _, _, rfl, rfl, _, rfl, ?_⟩
    rw [decide_eq_false (show ¬ ((10 : Int) < (us.length : Nat)) by omega)]
    refine iteF ⟨_, rfl, L, us, ns, t, S, rfl, hL, hus, by omega, hb, ho, hg, fun r H4 s4 dr => ?_⟩
    refine ⟨_, rfl, L, us, ns, S, rfl, s4 _ _ hL, NdsV.same s4 hus, by omega, _, _, rfl, rfl, _, rfl, ?_⟩
    rw [decide_eq_false (show ¬ ((60 : Int) < ((Nd.funss ns : Nat) : Int)) by omega)]
    exact iteF ⟨_, rfl, k _ _ ((s1.trans s2).trans (s3.trans s4)) dr⟩
end
end K00

set_option linter.all false
/-! how long the text of a tree is at most, and what it lays out -/
namespace Cm
open PySem L2 PySem.Spec PyProof.Rows
def hwH : Hd → Nat
  | .num _ => 11
  | .name _ => 12
  | .lit _ => 7
  | .one _ _ => 21
  | .fn xs => 9 + 13 * xs.length
  | .bind _ xs => 10 + 17 * xs.length
  | .doo => 5
  | .call => 2
  | .op _ => 9
  | .plain _ => 7
mutual
def Tr.lw : Tr → Nat
  | .mk h ps => hwH h + 3 + Tr.lws ps
def Tr.lws : List Tr → Nat
  | [] => 0
  | t :: ts => t.lw + Tr.lws ts
end
theorem lws_app (as bs : List Tr) : Tr.lws (as ++ bs) = Tr.lws as + Tr.lws bs := by
  induction as with
  | nil => show Tr.lws bs = 0 + Tr.lws bs; omega
  | cons a as ih => show a.lw + Tr.lws (as ++ bs) = a.lw + Tr.lws as + _; rw [ih]; omega
theorem lw_mem {t : Tr} : ∀ {ps : List Tr}, t ∈ ps → t.lw ≤ Tr.lws ps
  | p :: ps, m => by
    show t.lw ≤ p.lw + Tr.lws ps
    rcases List.mem_cons.mp m with rfl | m
    · omega
    · have := lw_mem m
      omega
theorem lw_split (ps : List Tr) (k : Nat) : Tr.lws ps = Tr.lws (ps.take k) + Tr.lws (ps.drop k) := by
  rw [← lws_app, List.take_append_drop]
/-- the words of heads, written -/
theorem wd_one : ∀ w ∈ oneW, wdOk w ∧ w.length ≤ 4 := by decide +kernel
theorem wd_bind : ∀ w ∈ bindW, wdOk w ∧ w.length ≤ 3 := by decide +kernel
theorem wd_plain : ∀ w ∈ plainW, wdOk w ∧ w.length ≤ 4 := by decide +kernel
theorem wd_lit : ∀ w ∈ litW, wdOk w ∧ w.length ≤ 5 := by decide +kernel
theorem wd_op2 : ∀ w ∈ op2W, wdOk w ∧ w.length ≤ 6 := by decide +kernel
theorem wd_op1 : ∀ w ∈ op1W, wdOk w ∧ w.length ≤ 6 := by decide +kernel
theorem rg_op {w : Str} {n : Nat} (g : rgH (.op w) n) : wdOk w ∧ w.length ≤ 6 := by
  rcases g with z | z
  · exact wd_op2 w z.1
  · exact wd_op1 w z.1
theorem names_sum12 : ∀ {xs : List Str}, (∀ x ∈ xs, nmOk x) → (xs.map (·.length)).sum ≤ 12 * xs.length
  | [], _ => Nat.le_refl _
  | x :: xs, h => by
    have h1 := (h x List.mem_cons_self).2.1
    have h2 := names_sum12 (xs := xs) fun y m => h y (List.mem_cons_of_mem _ m)
    rw [List.map_cons, List.sum_cons, List.length_cons]
    omega
/-- the rows' texts -/
def rowS (xs : List Str) (ss : List Str) : List Str := (xs.zip ss).map fun r => rowT r.1 r.2
theorem rowT_len (x s : Str) : (rowT x s).length = x.length + s.length + 3 := by
  have l1 : ("(" : Str).length = 1 := by decide +kernel
  have l2 : (" " : Str).length = 1 := by decide +kernel
  have l3 : (")" : Str).length = 1 := by decide +kernel
  unfold rowT
  rw [len_app, len_app, len_app, len_app, l1, l2, l3]
  omega
theorem rows_sum : ∀ {xs ss : List Str}, (∀ x ∈ xs, nmOk x) → ((rowS xs ss).map (·.length)).sum + (rowS xs ss).length ≤ 16 * xs.length + ((ss.take xs.length).map (·.length)).sum
  | [], ss, _ => Nat.zero_le _
  | x :: xs, [], _ => Nat.zero_le _
  | x :: xs, s :: ss, h => by
    have ih := rows_sum (xs := xs) (ss := ss) fun y m => h y (List.mem_cons_of_mem _ m)
    have h1 := (h x List.mem_cons_self).2.1
    have := rowT_len x s
    show ((rowT x s).length + ((rowS xs ss).map (·.length)).sum) + ((rowS xs ss).length + 1) ≤ 16 * (xs.length + 1) + (s.length + ((ss.take xs.length).map (·.length)).sum)
    omega
mutual
theorem lw_txt : ∀ t : Tr, t.ok → t.rg → t.txt.length + 3 ≤ t.lw
  | .mk h ps, o, g => by
    have sm := lw_txts ps (show _ ∧ _ ∧ Tr.oks ps from o).2.2 (show _ ∧ _ ∧ Tr.rgs ps from g).2.2
    have o1 : hok h ps.length := o.1
    have g1 : rgH h ps.length := g.1
    have l1 : ("(" : Str).length = 1 := by decide +kernel
    have l2 : (" " : Str).length = 1 := by decide +kernel
    have l3 : (")" : Str).length = 1 := by decide +kernel
    have jb : ∀ (w : Str) (ss : List Str), ((("(" : Str) ++ Str.join " " (w :: ss)) ++ (")" : Str)).length ≤ 3 + w.length + (ss.map (·.length)).sum + ss.length := fun w ss => by
      have := join_len (w :: ss)
      rw [List.map_cons, List.sum_cons, List.length_cons] at this
      rw [len_app, len_app, l1, l3]
      omega
    have goal : (txtH h (Tr.txts ps)).length ≤ hwH h + Tr.lws ps := by
      cases h with
      | num i =>
        show (numS i).length ≤ 11 + _
        have := num_len g1
        omega
      | name x =>
        show x.length ≤ 12 + _
        have := (show nmOk x from g1).2.1
        omega
      | lit w =>
        have := (wd_lit w o1.2).2
        show (if w ∈ (["true", "false", "none"] : List Str) then w else (("(" : Str) ++ Str.join " " [w]) ++ (")" : Str)).length ≤ 7 + _
        split
        · omega
        · rw [len_app, len_app, l1, l3]
          show 1 + w.length + 1 ≤ _
          omega
      | one w x =>
        have h1 := (wd_one w o1.2.1).2
        have h2 := (show nmOk x from g1).2.1
        have hh : (Tr.txts ps).headD "" = (Tr.txts ps).headD "" := rfl
        have hd : ((Tr.txts ps).headD "").length ≤ ((Tr.txts ps).map (·.length)).sum := by
          cases Tr.txts ps with
          | nil => exact Nat.zero_le _
          | cons a b => show a.length ≤ a.length + (b.map (·.length)).sum; omega
        show (((((("(" : Str) ++ w) ++ (" " : Str)) ++ x) ++ (" " : Str)) ++ (Tr.txts ps).headD "" ++ (")" : Str)).length ≤ 21 + _
        rw [len_app, len_app, len_app, len_app, len_app, len_app, l1, l2, l3]
        omega
      | fn xs =>
        have h1 := names_sum12 (show xs.length ≤ 8 ∧ ∀ x ∈ xs, nmOk x from g1).2
        have h2 := join_len xs
        have l4 : ("(fn (" : Str).length = 5 := by decide +kernel
        have l5 : (") " : Str).length = 2 := by decide +kernel
        have hd : ((Tr.txts ps).headD "").length ≤ ((Tr.txts ps).map (·.length)).sum := by
          cases Tr.txts ps with
          | nil => exact Nat.zero_le _
          | cons a b => show a.length ≤ a.length + (b.map (·.length)).sum; omega
        show (((("(fn (" : Str) ++ Str.join " " xs) ++ (") " : Str)) ++ (Tr.txts ps).headD "" ++ (")" : Str)).length ≤ 9 + 13 * xs.length + _
        rw [len_app, len_app, len_app, len_app, l4, l5, l3]
        omega
      | bind w xs =>
        have h1 := (wd_bind w o1.2.1).2
        have hx := (show 1 ≤ xs.length ∧ xs.length ≤ 10 ∧ ∀ x ∈ xs, nmOk x from g1).2.2
        have h2 := rows_sum (ss := Tr.txts ps) hx
        have h3 := join_len (rowS xs (Tr.txts ps))
        have l4 : (" (" : Str).length = 2 := by decide +kernel
        have l5 : (") " : Str).length = 2 := by decide +kernel
        have sp : ((Tr.txts ps).map (·.length)).sum = (((Tr.txts ps).take xs.length).map (·.length)).sum + (((Tr.txts ps).drop xs.length).map (·.length)).sum := by
          rw [← List.sum_append, ← List.map_append, List.take_append_drop]
        have hd : (((Tr.txts ps).drop xs.length).headD "").length ≤ (((Tr.txts ps).drop xs.length).map (·.length)).sum := by
          cases (Tr.txts ps).drop xs.length with
          | nil => exact Nat.zero_le _
          | cons a b => show a.length ≤ a.length + (b.map (·.length)).sum; omega
        show ((((("(" : Str) ++ w) ++ (" (" : Str)) ++ Str.join " " (rowS xs (Tr.txts ps))) ++ (") " : Str) ++ ((Tr.txts ps).drop xs.length).headD "" ++ (")" : Str)).length ≤ 10 + 17 * xs.length + _
        rw [len_app, len_app, len_app, len_app, len_app, len_app, l1, l3, l4, l5]
        omega
      | doo =>
        have := jb "do" (Tr.txts ps)
        have ld : ("do" : Str).length = 2 := by decide +kernel
        show ((("(" : Str) ++ Str.join " " ("do" :: Tr.txts ps)) ++ (")" : Str)).length ≤ 5 + _
        omega
      | call =>
        have := join_len (Tr.txts ps)
        show ((("(" : Str) ++ Str.join " " (Tr.txts ps)) ++ (")" : Str)).length ≤ 2 + _
        rw [len_app, len_app, l1, l3]
        omega
      | op w =>
        have := jb w (Tr.txts ps)
        have := (rg_op g1).2
        show ((("(" : Str) ++ Str.join " " (w :: Tr.txts ps)) ++ (")" : Str)).length ≤ 9 + _
        omega
      | plain w =>
        have := jb w (Tr.txts ps)
        have := (wd_plain w o1).2
        show ((("(" : Str) ++ Str.join " " (w :: Tr.txts ps)) ++ (")" : Str)).length ≤ 7 + _
        omega
    show (txtH h (Tr.txts ps)).length + 3 ≤ hwH h + 3 + Tr.lws ps
    omega
theorem lw_txts : ∀ ps : List Tr, Tr.oks ps → Tr.rgs ps → ((Tr.txts ps).map (·.length)).sum + 3 * (Tr.txts ps).length ≤ Tr.lws ps
  | [], _, _ => Nat.le_refl _
  | t :: ts, o, g => by
    have h1 := lw_txt t o.1 g.1
    have h2 := lw_txts ts o.2 g.2
    show (t.txt.length + ((Tr.txts ts).map (·.length)).sum) + 3 * ((Tr.txts ts).length + 1) ≤ t.lw + Tr.lws ts
    omega
end
/-! ### what it lays out -/
theorem laysS_at : ∀ {ss : List Str} {ns : List Nd}, LayNs ss ns → ns.length = ss.length
  | [], _, h => by cases h; rfl
  | s :: ss, _, h => by
    cases h with
    | cons a b => exact congrArg (· + 1) (laysS_at b)
/-- a word ahead -/
theorem LayNs.head {w : Str} {ss : List Str} {ns : List Nd} (hw : wdOk w) (h : LayNs ss ns) : LayN (cs ((("(" : Str) ++ Str.join " " (w :: ss)) ++ (")" : Str))) [.l (.w w :: ns)] := LayN.brk (LayNs.join (.cons (.word hw) h))
theorem rowT_lays {x s : Str} {n : Nd} (hx : wdOk x) (h : LayN (cs s) [n]) : LayN (cs (rowT x s)) [rowN x n] := by
  have e : rowT x s = (("(" : Str) ++ Str.join " " [x, s]) ++ (")" : Str) := by
    apply cs_inj
    have e1 : Str.join " " [x, s] = x ++ (" " : Str) ++ s := rfl
    rw [e1]
    unfold rowT
    simp only [cs_app, List.append_assoc]
  rw [e]
  exact LayNs.head hx (.cons h .nil)
theorem rows_lays : ∀ {xs ss : List Str} {ns : List Nd}, (∀ x ∈ xs, wdOk x) → LayNs ss ns → LayNs (rowS xs ss) (rowsN xs ns)
  | [], _, _, _, _ => .nil
  | x :: xs, [], _, _, h => by cases h; exact .nil
  | x :: xs, s :: ss, _, hx, h => by
    cases h with
    | cons a b => exact .cons (rowT_lays (hx x List.mem_cons_self) a) (rows_lays (fun y m => hx y (List.mem_cons_of_mem _ m)) b)
theorem LayNs.app : ∀ {as bs : List Str} {ns ms : List Nd}, LayNs as ns → LayNs bs ms → LayNs (as ++ bs) (ns ++ ms)
  | [], _, _, _, h, k => by cases h; exact k
  | a :: as, _, _, _, h, k => by
    cases h with
    | cons p q => exact .cons p (LayNs.app q k)
/-- joined texts as one text of several nodes -/
theorem txts_app (as bs : List Tr) : Tr.txts (as ++ bs) = Tr.txts as ++ Tr.txts bs := by
  rw [txts_map, txts_map, txts_map, List.map_append]
theorem last_split {ps : List Tr} {n : Nat} (h : ps.length = n + 1) : ∃ qs u, ps = qs ++ [u] ∧ qs.length = n := by
  refine ⟨ps.take n, ps[n]'(by omega), ?_, by rw [List.length_take]; omega⟩
  have e : ps.drop n = [ps[n]'(by omega)] := by
    rw [List.drop_eq_getElem_cons (by omega), List.drop_of_length_le (by omega)]
  rw [← e, List.take_append_drop]
mutual
theorem txt_rd : ∀ t : Tr, t.ok → t.rg → ∃ n, Rd t n ∧ LayN (cs t.txt) [n]
  | .mk h ps, o, g => by
    obtain ⟨ns, hrs, hls⟩ := txts_rd ps (show _ ∧ _ ∧ Tr.oks ps from o).2.2 (show _ ∧ _ ∧ Tr.rgs ps from g).2.2
    have o1 : hok h ps.length := o.1
    have g1 : rgH h ps.length := g.1
    cases h with
    | num i =>
      have e0 : ps = [] := List.length_eq_zero_iff.mp o1
      subst e0
      exact ⟨_, .num i, .word (num_wd i)⟩
    | name x =>
      have e0 : ps = [] := List.length_eq_zero_iff.mp o1.1
      subst e0
      exact ⟨_, .name x, .word (nm_wd (show nmOk x from g1))⟩
    | lit w =>
      have e0 : ps = [] := List.length_eq_zero_iff.mp o1.1
      subst e0
      have hw := (wd_lit w o1.2).1
      by_cases q : w ∈ consW
      · refine ⟨_, .lit w q, ?_⟩
        show LayN (cs (if w ∈ (["true", "false", "none"] : List Str) then w else _)) _
        rw [if_pos (show w ∈ (["true", "false", "none"] : List Str) from q)]
        exact .word hw
      · have key : ∀ y ∈ litW, y ∉ consW → y = "ask" := by decide +kernel
        have := key w o1.2 q
        subst this
        exact ⟨_, .ask, LayNs.head hw .nil⟩
    | one w x =>
      obtain ⟨p, rfl⟩ := one_of (show ps.length = 1 from o1.1)
      cases hrs with
      | cons _ n _ ns' a b =>
        cases b
        cases hls with
        | cons c d =>
          refine ⟨_, .one w x p n a, ?_⟩
          have e : (Tr.mk (.one w x) [p]).txt = (("(" : Str) ++ Str.join " " [w, x, p.txt]) ++ (")" : Str) := by
            apply cs_inj
            have e1 : Str.join " " [w, x, p.txt] = w ++ (" " : Str) ++ (x ++ (" " : Str) ++ p.txt) := rfl
            rw [e1]
            show cs (((((("(" : Str) ++ w) ++ (" " : Str)) ++ x) ++ (" " : Str)) ++ p.txt ++ (")" : Str)) = _
            simp only [cs_app, List.append_assoc]
          rw [e]
          exact LayNs.head (wd_one w o1.2.1).1 (.cons (.word (nm_wd (show nmOk x from g1))) (.cons c .nil))
    | fn xs =>
      obtain ⟨p, rfl⟩ := one_of (show ps.length = 1 from o1.1)
      have hx := (show xs.length ≤ 8 ∧ ∀ x ∈ xs, nmOk x from g1).2
      cases hrs with
      | cons _ n _ ns' a b =>
        cases b
        cases hls with
        | cons c d =>
          refine ⟨_, .fn xs p [n] (.one p n a) (Nat.le_of_ble_eq_true rfl), ?_⟩
          have e : (Tr.mk (.fn xs) [p]).txt = (("(" : Str) ++ Str.join " " ["fn", (("(" : Str) ++ Str.join " " xs) ++ (")" : Str), p.txt]) ++ (")" : Str) := by
            apply cs_inj
            have e1 : Str.join " " [("fn" : Str), (("(" : Str) ++ Str.join " " xs) ++ (")" : Str), p.txt] = ("fn" : Str) ++ (" " : Str) ++ (((("(" : Str) ++ Str.join " " xs) ++ (")" : Str)) ++ (" " : Str) ++ p.txt) := rfl
            rw [e1]
            show cs (((("(fn (" : Str) ++ Str.join " " xs) ++ (") " : Str)) ++ p.txt ++ (")" : Str)) = _
            have s1 : cs ("(fn (" : Str) = cs ("(" : Str) ++ (cs ("fn" : Str) ++ (cs (" " : Str) ++ cs ("(" : Str))) := by decide +kernel
            have s2 : cs (") " : Str) = cs (")" : Str) ++ cs (" " : Str) := by decide +kernel
            simp only [cs_app, List.append_assoc, s1, s2]
          rw [e]
          exact LayNs.head (by decide +kernel) (.cons (LayN.brk (LayNs.join (LayNs.words fun x m => nm_wd (hx x m)))) (.cons c .nil))
    | bind w xs =>
      obtain ⟨qs, u, rfl, hq⟩ := last_split (show ps.length = xs.length + 1 from o1.1)
      have hx := (show 1 ≤ xs.length ∧ xs.length ≤ 10 ∧ ∀ x ∈ xs, nmOk x from g1).2.2
      have split : ∃ ms m, ns = ms ++ [m] ∧ Rds qs ms ∧ Rd u m ∧ LayNs (Tr.txts qs) ms ∧ LayN (cs u.txt) [m] := by
        clear o g o1 g1 hq
        rw [txts_app] at hls
        revert ns
        induction qs with
        | nil =>
          intro ns hrs hls
          cases hrs with
          | cons _ n _ ns' a b =>
            cases b
            cases hls with
            | cons c d => exact ⟨[], n, rfl, .nil, a, .nil, c⟩
        | cons q qs ih =>
          intro ns hrs hls
          cases hrs with
          | cons _ n _ ns' a b =>
            cases hls with
            | cons c d =>
              obtain ⟨ms, m, rfl, k1, k2, k3, k4⟩ := ih _ b d
              exact ⟨n :: ms, m, rfl, .cons _ _ _ _ a k1, k2, .cons c k3, k4⟩
      obtain ⟨ms, m, rfl, k1, k2, k3, k4⟩ := split
      refine ⟨_, .bind w xs qs u ms [m] k1 hq (.one u m k2) (Nat.le_of_ble_eq_true rfl), ?_⟩
      have e : (Tr.mk (.bind w xs) (qs ++ [u])).txt = (("(" : Str) ++ Str.join " " [w, (("(" : Str) ++ Str.join " " (rowS xs (Tr.txts qs))) ++ (")" : Str), u.txt]) ++ (")" : Str) := by
        apply cs_inj
        have e1 : Str.join " " [w, (("(" : Str) ++ Str.join " " (rowS xs (Tr.txts qs))) ++ (")" : Str), u.txt] = w ++ (" " : Str) ++ (((("(" : Str) ++ Str.join " " (rowS xs (Tr.txts qs))) ++ (")" : Str)) ++ (" " : Str) ++ u.txt) := rfl
        rw [e1]
        have lq : (Tr.txts qs).length = xs.length := by rw [txts_map, List.length_map, hq]
        have z1 : rowS xs (Tr.txts (qs ++ [u])) = rowS xs (Tr.txts qs) := by
          unfold rowS
          rw [txts_app]
          congr 1
          have e2 : xs = xs ++ [] := (List.append_nil xs).symm
          conv => lhs; rw [e2]
          rw [List.zip_append lq.symm]
          simp
        have z2 : ((Tr.txts (qs ++ [u])).drop xs.length).headD "" = u.txt := by
          rw [txts_app, List.drop_append, lq, Nat.sub_self, List.drop_of_length_le (Nat.le_of_eq lq)]
          rfl
        show cs ((((("(" : Str) ++ w) ++ (" (" : Str)) ++ Str.join " " (rowS xs (Tr.txts (qs ++ [u])))) ++ (") " : Str) ++ ((Tr.txts (qs ++ [u])).drop xs.length).headD "" ++ (")" : Str)) = _
        rw [z1, z2]
        have s1 : cs (" (" : Str) = cs (" " : Str) ++ cs ("(" : Str) := by decide +kernel
        have s2 : cs (") " : Str) = cs (")" : Str) ++ cs (" " : Str) := by decide +kernel
        simp only [cs_app, List.append_assoc, s1, s2]
      rw [e]
      exact LayNs.head (wd_bind w o1.2.1).1 (.cons (LayN.brk (LayNs.join (rows_lays (fun x m => nm_wd (hx x m)) k3))) (.cons k4 .nil))
    | doo => exact ⟨_, .doo ps ns hrs, LayNs.head (by decide +kernel) hls⟩
    | call => exact ⟨_, .call ps ns hrs, LayN.brk (LayNs.join hls)⟩
    | op w => exact ⟨_, .op w ps ns hrs, LayNs.head (rg_op g1).1 hls⟩
    | plain w => exact ⟨_, .plain w ps ns hrs, LayNs.head (wd_plain w o1).1 hls⟩
theorem txts_rd : ∀ ps : List Tr, Tr.oks ps → Tr.rgs ps → ∃ ns, Rds ps ns ∧ LayNs (Tr.txts ps) ns
  | [], _, _ => ⟨[], .nil, .nil⟩
  | t :: ts, o, g => by
    obtain ⟨n, a, b⟩ := txt_rd t o.1 g.1
    obtain ⟨ns, c, d⟩ := txts_rd ts o.2 g.2
    exact ⟨n :: ns, .cons _ _ _ _ a c, .cons b d⟩
end
end Cm

namespace K00
open PySem L2 Cm
def isNum (h : Hd) : Bool := kd h == 0
def isLit3 : Hd → Bool
  | .lit w => decide (w ∈ (["true", "false", "none"] : List Str))
  | _ => false
def isOne (h : Hd) : Bool := kd h == 3
theorem eq_num {h : Hd} {n : Nat} (o : hok h n) : decide (V.str (wd h) = V.str "number") = isNum h := by
  rw [decS]
  exact by_kind (fun x => decide (x = "number")) (fun c => c == 0) (by decide +kernel) o
theorem in_one4 {h : Hd} {n : Nat} (o : hok h n) : inV (.str (wd h)) ((["set", "keep", "once", "take"] : List Str).map V.str) = isOne h := by
  rw [in_words]
  exact by_kind (fun x => decide (x ∈ (["set", "keep", "once", "take"] : List Str))) (fun c => c == 3) (by decide +kernel) o
theorem in_lit3 {h : Hd} {n : Nat} (o : hok h n) : inV (.str (wd h)) ((["true", "false", "none"] : List Str).map V.str) = isLit3 h := by
  rw [in_words]
  have other : kd h ≠ 2 → decide (wd h ∈ (["true", "false", "none"] : List Str)) = false := fun q => by
    have key : ∀ c < 10, c ≠ 2 → ∀ w ∈ Cm.wordsOf c, decide (w ∈ (["true", "false", "none"] : List Str)) = false := by decide +kernel
    exact key _ (wd_mem o).1 q _ (wd_mem o).2
  cases h with
  | lit w => rfl
  | num i => exact other (Nat.ne_of_beq_eq_false rfl)
  | name i => exact other (Nat.ne_of_beq_eq_false rfl)
  | fn i => exact other (Nat.ne_of_beq_eq_false rfl)
  | one i _ => exact other (Nat.ne_of_beq_eq_false rfl)
  | bind i _ => exact other (Nat.ne_of_beq_eq_false rfl)
  | doo => exact other (Nat.ne_of_beq_eq_false rfl)
  | call => exact other (Nat.ne_of_beq_eq_false rfl)
  | op i => exact other (Nat.ne_of_beq_eq_false rfl)
  | plain i => exact other (Nat.ne_of_beq_eq_false rfl)
def spText (K : PySem.W.Frag) (n : Nat) : Sp := fun vs H Q _ => ∃ (v : V) (t : Tr), vs = [v] ∧ Dp K H v t.enc ∧ t.ok ∧ t.rg ∧ t.dep ≤ n ∧ t.lw ≤ 14000000 ∧ ∀ H', Same H H' → Q (.str t.txt) H'
theorem log_ok {i : Int} (h : i.natAbs ≤ 1000000000) : i.natAbs.log2 < 1920 := by
  by_cases z : i.natAbs = 0
  · rw [z]; decide +kernel
  · exact Nat.lt_trans ((Nat.log2_lt (k := 30) z).mpr (Nat.lt_of_le_of_lt h (by decide))) (by decide)
theorem encL_at' {ps : List Tr} {i : Nat} {d : PyData} (h : (Tr.encL ps)[i]? = some d) : ∃ c, ps[i]? = some c ∧ d = c.enc := by
  rw [encL_map, List.getElem?_map] at h
  obtain ⟨c, e, rfl⟩ := Option.map_eq_some_iff.mp h
  exact ⟨c, e, rfl⟩
theorem ok_mk' {h : Hd} {ps : List Tr} (o : (Tr.mk h ps).ok) : hok h ps.length ∧ ps.length ≤ 11 ∧ ∀ t ∈ ps, t.ok := ⟨o.1, o.2.1, oks_iff.mp o.2.2⟩
theorem rg_mk' {h : Hd} {ps : List Tr} (o : (Tr.mk h ps).rg) : rgH h ps.length ∧ recH h ps ∧ ∀ t ∈ ps, t.rg := ⟨o.1, o.2.1, rgs_iff.mp o.2.2⟩
theorem dp_row {K : PySem.W.Frag} {H : Hp} {v : V} {p : Str × PyData} (h : Dp K H v (rowD p)) : ∃ (t : Addr) (u : V), v = .ref t ∧ SqT K H t [.str p.1, u] ∧ Dp K H u p.2 := by
  obtain ⟨t, its, rfl, hs, ha⟩ := dp_tup h
  cases ha with
  | cons h1 h2 =>
    obtain ⟨u, rfl, h3⟩ := dpAll_one h2
    exact ⟨t, u, rfl, by rw [dp_str h1] at hs; exact hs, h3⟩
section
variable {P : Program} {w : World} {K : PySem.W.Frag} {mg : Str → Option Value} {base : Heap}
-- _law_text, level 100: 0 _law_tree | 1 _law_word | 2 _law_rows | 3 _law_pair | 4 _law_head | 5 _law_inner | 6 _law_part
abbrev s_l_text : Stmt := top 50
abbrev N_l_text : List Str := ["_law_tree", "_law_word", "_law_rows", "_law_pair", "_law_head", "_law_inner", "_law_part"]
theorem sc_l_text : FnScope N_l_text ["_law_tree"] (defScope s_l_text) := ⟨rfl, rfl, rfl, by decide +kernel, rfl, by decide +kernel, by decide +kernel⟩
theorem ok_l_text (T : Txt mg) (D : At K mg "_law_text" s_l_text ["_law_tree"]) : ∀ n, Cl P w K mg base (n + 2) "_law_text" (spText K n) := by
  intro n
  induction n with
  | zero =>
    refine cl_of (k := 1) D sc_l_text (fun vs H Q E h => ?_) fun f cdv A outer s H vs Q E hr h => ?_
    · obtain ⟨v, t, rfl, _⟩ := h
      rfl
    · obtain ⟨v, t, _, _, _, _, z, _⟩ := h
      cases t with
      | mk hd ps => exact absurd z (by show ¬ (Tr.deps ps + 1 ≤ 0); omega)
  | succ n ih =>
    refine cl_of (k := n + 2) D sc_l_text (fun vs H Q E h => ?_) fun f cdv A outer s H vs Q E hr h => ?_
    · obtain ⟨v, t, rfl, _⟩ := h
      rfl
    · obtain ⟨v, t, rfl, hd, o, g, hdep, hsz, k⟩ := h
      cases t with
      | mk h ps =>
      obtain ⟨o1, o2, o3⟩ := ok_mk' o
      obtain ⟨g1, _, g3⟩ := rg_mk' g
      have tx := lw_txts ps (oks_iff.mpr o3) (rgs_iff.mpr g3)
      have tok := lw_txt _ o g
      have hsz' : hwH h + 3 + Tr.lws ps ≤ 14000000 := hsz
      have dpm : ∀ c ∈ ps, c.dep ≤ n := fun c m => dep_mk.mp hdep c m
      obtain ⟨a, its, rfl, hs, hx⟩ := view hd
      have hu := hu_of hr
      have tl14 : (Tr.mk h ps).txt.length ≤ 14400000 := by
        have : (Tr.mk h ps).lw ≤ 14000000 := hsz
        omega
      refine ⟨_, (pss_cons (ps_set (i := 1) sc_l_text.nd rfl (Or.inl rfl) (pe_ix ix_tup (pv 0) pe_int (fun _ _ => rfl)))
      (pss_cons (ps_if (pt_cmpR op_eq (pv 1) pe_str (nomark _))
        (pss_one (ps_ret (pe_callTy call_str_int (by rfl) T.str (by decide +kernel) (pa_cons (pe_ix ix_tup (pv 0) pe_int (fun _ _ => rfl)) pa_nil))))
        pss_nil)
      (pss_cons (ps_if (pt_cmpR op_eq (pv 1) pe_str (nomark _))
        (pss_one (ps_ret (pe_ix ix_tup (pv 0) pe_int (fun _ _ => rfl))))
        pss_nil)
      (pss_cons (ps_if (pt_inW (pv 1) (.cons (.cons (.cons .nil))) (show 3 ≤ sizeLine by decide) (by rfl))
        (pss_one (ps_ret (pv 1)))
        pss_nil)
      (pss_cons (ps_if (pt_cmpR op_eq (pv 1) pe_str (nomark _))
        (pss_one (ps_ret (pe_op op_add_str (pe_op op_add_str (pe_op op_add_str (pe_op op_add_str pe_str (pe_join pe_str (pe_ix ix_tup (pv 0) pe_int (fun _ _ => rfl)))) pe_str) (pe_c ih hr (by omega) (by rfl) (pa_cons (pe_ix ix_tup (pv 0) pe_int (fun _ _ => rfl)) pa_nil))) pe_str)))
        pss_nil)
      (pss_cons (ps_if (pt_inW (pv 1) (.cons (.cons .nil)) (show 2 ≤ sizeLine by decide) (by rfl))
        (pss_cons (ps_setLc (i := 2) (own := [("_law_pair", 3)]) rfl sc_l_text.nd rfl rfl (sw_true rfl rfl rfl (by decide +kernel)) (pi_tup (pe_ix ix_tup (pv 0) pe_int (fun _ _ => rfl))) (blkOk_by (N := N_l_text) (sc := defScope s_l_text) (by decide +kernel))
      (fun _ _ _ _ _ => (pg_name (i := 3) sc_l_text.nd rfl (Or.inl rfl)))
      (fun _ _ _ _ _ => pts_nil)
      (fun _ _ _ _ _ => (pe_op op_add_str (pe_op op_add_str (pe_op op_add_str (pe_op op_add_str pe_str (pe_ix (kx_tup (K := K)) (pv 3) pe_int (fun _ _ => rfl))) pe_str) (pe_c ih hr (by omega) (by rfl) (pa_cons (pe_ix (kx_tup (K := K)) (pv 3) pe_int (fun _ _ => rfl)) pa_nil))) pe_str)))
        (pss_one (ps_ret (pe_op op_add_str (pe_op op_add_str (pe_op op_add_str (pe_op op_add_str (pe_op op_add_str (pe_op op_add_str pe_str (pv 1)) pe_str) (pe_join pe_str (pv 2))) pe_str) (pe_c ih hr (by omega) (by rfl) (pa_cons (pe_ix ix_tup (pv 0) pe_int (fun _ _ => rfl)) pa_nil))) pe_str))))
        pss_nil)
      (pss_cons (ps_if (pt_inW (pv 1) (.cons (.cons (.cons (.cons .nil)))) (show 4 ≤ sizeLine by decide) (by rfl))
        (pss_one (ps_ret (pe_op op_add_str (pe_op op_add_str (pe_op op_add_str (pe_op op_add_str (pe_op op_add_str (pe_op op_add_str pe_str (pv 1)) pe_str) (pe_ix ix_tup (pv 0) pe_int (fun _ _ => rfl))) pe_str) (pe_c ih hr (by omega) (by rfl) (pa_cons (pe_ix ix_tup (pv 0) pe_int (fun _ _ => rfl)) pa_nil))) pe_str)))
        pss_nil)
      (pss_cons (ps_set (i := 4) sc_l_text.nd rfl (Or.inl rfl) (pv 1))
      (pss_cons (ps_set (i := 5) sc_l_text.nd rfl (Or.inl rfl) (pe_slice sl_tupA (pv 0) (po_some pe_int) po_none))
      (pss_mid (ps_if (pt_cmpR op_eq (pv 1) pe_str (nomark _))
        (pss_one (ps_set (i := 5) sc_l_text.nd rfl (Or.inl rfl) (pe_ix ix_tup (pv 0) pe_int (fun _ _ => rfl))))
        (pss_one (ps_if (pt_cmpR op_eq (pv 1) pe_str (nomark _))
          (pss_cons (ps_set (i := 4) sc_l_text.nd rfl (Or.inl rfl) (pe_ix ix_tup (pv 0) pe_int (fun _ _ => rfl)))
          (pss_one (ps_set (i := 5) sc_l_text.nd rfl (Or.inl rfl) (pe_ix ix_tup (pv 0) pe_int (fun _ _ => rfl)))))
          (pss_one (ps_if (pt_cmpR op_eq (pv 1) pe_str (nomark _))
            (pss_cons (ps_set (i := 4) sc_l_text.nd rfl (Or.inl rfl) (pe_c ih hr (by omega) (by rfl) (pa_cons (pe_ix ix_tup (pv 0) pe_int (fun _ _ => rfl)) pa_nil)))
            (pss_one (ps_set (i := 5) sc_l_text.nd rfl (Or.inl rfl) (pe_ix ix_tup (pv 0) pe_int (fun _ _ => rfl)))))
            pss_nil)))))
      (pss_one (ps_ret (pe_op op_add_str (pe_op op_add_str pe_str (pe_join pe_str (pe_op op_cat (pe_lst (pa_cons (pv 4) pa_nil)) (pe_lc (own := [("_law_part", 6)]) rfl sc_l_text.nd (pi_tup (pv 5)) (blkOk_by (N := N_l_text) (sc := defScope s_l_text) (by decide +kernel))
      (fun _ _ _ _ _ => (pg_name (i := 6) sc_l_text.nd rfl (Or.inl rfl)))
      (fun _ _ _ _ _ => pts_nil)
      (fun _ _ _ _ _ => (pe_c ih hr (by omega) (by rfl) (pa_cons (pv 6) pa_nil))))))) pe_str))))))))))))), ?_⟩
      have k' : ∀ H', Same H H' → Q (.str (txtH h (Tr.txts ps))) H' := k
      have tl' : (txtH h (Tr.txts ps)).length ≤ 14400000 := tl14
      refine ⟨_, rfl, a, its, _, _, rfl, rfl, hs, hx.head, ?_⟩
      refine ⟨_, rfl, rfl, _, rfl, ?_⟩
      rw [eq_num o1]
      cases eN : isNum h with
      | true =>
        refine iteT ?_
        cases h with
        | num i =>
          obtain rfl := (show its = _ from hx)
          exact ⟨_, rfl, a, _, _, _, rfl, rfl, hs, atI_nat (j := 1) rfl, i, rfl, log_ok (show i.natAbs ≤ 1000000000 from g1), k' _ (Same.refl _)⟩
        | _ => cases eN
      | false =>
      refine iteF ⟨_, rfl, rfl, _, rfl, ?_⟩
      rw [eq_name o1]
      cases en : isName h with
      | true =>
        refine iteT ?_
        cases h with
        | name x =>
          obtain rfl := (show its = _ from hx)
          exact ⟨_, rfl, a, _, _, _, rfl, rfl, hs, atI_nat (j := 1) rfl, k' _ (Same.refl _)⟩
        | _ => cases en
      | false =>
      refine iteF ⟨_, rfl, rfl, fun H1 s1 => ?_⟩
      rw [in_lit3 o1]
      cases e3 : isLit3 h with
      | true =>
        refine iteT ⟨_, rfl, ?_⟩
        cases h with
        | lit w =>
          have e : txtH (.lit w) (Tr.txts ps) = w := if_pos (of_decide_eq_true e3)
          rw [e] at k'
          exact k' _ s1
        | _ => cases e3
      | false =>
      refine iteF ⟨_, rfl, rfl, _, rfl, ?_⟩
      rw [eq_fn o1]
      have hs1 := sqt_same s1 hs
      have hx1 := hx.same s1
      cases eF : isFn h with
      | true =>
        refine iteT ?_
        cases h with
        | fn xs =>
          obtain ⟨p, rfl⟩ := one_of (show ps.length = 1 from o1.1)
          obtain ⟨q, vs, rfl, hq, hv⟩ := hx1
          obtain ⟨u, rfl, hu'⟩ := dpAll_one (d := p.enc) hv
          have mp : p ∈ [p] := List.mem_singleton.mpr rfl
          have szp := lw_mem mp
          have l1 : ("(fn (" : Str).length = 5 := by decide +kernel
          have l2 : (") " : Str).length = 2 := by decide +kernel
          have l3 : (")" : Str).length = 1 := by decide +kernel
          have l4 : (" " : Str).length = 1 := by decide +kernel
          have hn := names_sum12 (show xs.length ≤ 8 ∧ ∀ x ∈ xs, nmOk x from g1).2
          have hx10 : xs.length ≤ 8 := (show xs.length ≤ 8 ∧ ∀ x ∈ xs, nmOk x from g1).1
          have hj := join_len xs
          have et : (txtH (.fn xs) (Tr.txts [p])).length = 5 + (Str.join " " xs).length + 2 + p.txt.length + 1 := by
            show (((("(fn (" : Str) ++ Str.join " " xs) ++ (") " : Str)) ++ p.txt ++ (")" : Str)).length = _
            rw [len_app, len_app, len_app, len_app, l1, l2, l3]
          rw [et] at tl'
          refine ⟨⟨_, rfl⟩, _, rfl, a, _, _, _, rfl, rfl, hs1, atI_nat (j := 1) rfl, _, q, xs, rfl, rfl, .inr hq, by rw [l4]; omega, ?_⟩
          rw [TL.join_eq]
          refine ⟨_, _, rfl, rfl, by rw [l1, sizeLine_eq]; omega, _, _, rfl, rfl, by rw [len_app, l1, l2, sizeLine_eq]; omega, ?_⟩
          refine ⟨_, rfl, a, _, _, _, rfl, rfl, hs1, atI_nat (j := 2) rfl, u, p, rfl, hu', o3 p mp, g3 p mp, dpm p mp, by omega, fun H2 s2 => ?_⟩
          refine ⟨_, _, rfl, rfl, by rw [len_app, len_app, l1, l2, sizeLine_eq]; omega, _, _, rfl, rfl, by rw [len_app, len_app, len_app, l1, l2, l3, sizeLine_eq]; omega, k' _ (s1.trans s2)⟩
        | _ => cases eF
      | false =>
      refine iteF ⟨_, rfl, rfl, fun H2 s2 => ?_⟩
      have S2 := s1.trans s2
      have hs2 := sqt_same s2 hs1
      have hx2 := hx1.same s2
      rw [in_B o1]
      cases eB : kB h with
      | true =>
        refine iteT ?_
        cases h with
        | bind w xs =>
          obtain ⟨q, rows, vs, rfl, hq, hrows, hv⟩ := hx2
          have hpl : ps.length = xs.length + 1 := o1.1
          have gb : ∀ x ∈ xs, nmOk x := (show 1 ≤ xs.length ∧ xs.length ≤ 10 ∧ ∀ x ∈ xs, nmOk x from g1).2.2
          have gb10 : xs.length ≤ 10 := (show 1 ≤ xs.length ∧ xs.length ≤ 10 ∧ ∀ x ∈ xs, nmOk x from g1).2.1
          obtain ⟨pL, epL⟩ : ∃ p, ps[xs.length]? = some p := ⟨ps[xs.length]'(by omega), List.getElem?_eq_getElem _⟩
          have mp : pL ∈ ps := List.mem_of_getElem? epL
          have edrop : ps.drop xs.length = [pL] := by
            obtain ⟨hx, e⟩ := List.getElem?_eq_some_iff.mp epL
            rw [List.drop_eq_getElem_cons hx, e, List.drop_of_length_le (by omega)]
          rw [encL_map, ← List.map_drop, edrop] at hv
          obtain ⟨ul, rfl, hul⟩ := dpAll_one (d := pL.enc) hv
          have lrows : rows.length = xs.length := by
            have := DpAll.len hrows
            rw [List.length_map, List.length_zip, encL_len] at this
            omega
          have szp := lw_mem mp
          obtain ⟨Z, hZ⟩ : ∃ Z, Z = xs.zip ps := ⟨_, rfl⟩
          have lZ : Z.length = xs.length := by rw [hZ, List.length_zip]; omega
          obtain ⟨rs, hrs⟩ : ∃ rs, rs = (xs.zip (Tr.txts ps)).map fun r => rowT r.1 r.2 := ⟨_, rfl⟩
          have ers : rs = Z.map fun r => rowT r.1 r.2.txt := by
            rw [hrs, hZ, txts_map, List.zip_map_right, List.map_map]
            rfl
          have l1 : ("(" : Str).length = 1 := by decide +kernel
          have l2 : (" (" : Str).length = 2 := by decide +kernel
          have l3 : (") " : Str).length = 2 := by decide +kernel
          have l4 : (")" : Str).length = 1 := by decide +kernel
          have l5 : (" " : Str).length = 1 := by decide +kernel
          have et : txtH (.bind w xs) (Tr.txts ps) = ((((("(" : Str) ++ w) ++ (" (" : Str)) ++ Str.join " " rs) ++ (") " : Str)) ++ pL.txt ++ (")" : Str) := by
            show ((((("(" : Str) ++ w) ++ (" (" : Str)) ++ Str.join " " ((xs.zip (Tr.txts ps)).map fun r => rowT r.1 r.2)) ++ (") " : Str)) ++ ((Tr.txts ps).drop xs.length).headD "" ++ (")" : Str) = _
            rw [← hrs, txts_map, ← List.map_drop, edrop]
            rfl
          rw [et] at k' tl'
          rw [len_app, len_app, len_app, len_app, len_app, len_app, l1, l2, l3, l4] at tl'
          have rsum : (rs.map (·.length)).sum + rs.length * (" " : Str).length ≤ 16777216 := by
            have z := rows_sum (xs := xs) (ss := Tr.txts ps) gb
            rw [show rowS xs (Tr.txts ps) = rs from hrs.symm] at z
            have z3 : (((Tr.txts ps).take xs.length).map (·.length)).sum ≤ ((Tr.txts ps).map (·.length)).sum := by
              conv => rhs; rw [← List.take_append_drop xs.length (Tr.txts ps), List.map_append, List.sum_append]
              omega
            rw [l5]
            omega
          refine ⟨_, rfl, a, _, _, _, rfl, rfl, hs2, atI_nat (j := 1) rfl, q, rfl, ⟨_, hq⟩, fun D1 hD1 => ?_⟩
          refine lc_data (K := K) (walk_tup (K := K) (a := q) (xs := rows)) (fun i => (Z[i]?).map fun r => PyData.str (rowT r.1 r.2.txt)) hD1 (by omega) (fun H' s => sqt_same s hq) (fun i _ d e => ?_) ?_ ?_
          · obtain ⟨b, _, rfl⟩ := Option.map_eq_some_iff.mp e
            rfl
          · rintro i x0 H3' H3 hi s3 ⟨rfl, ex⟩ Q1 Q0 q1 q0
            obtain ⟨d, g1, g2⟩ := DpAll.atV (dps_same s3 _ _ hrows) ex
            obtain ⟨⟨x, e⟩, er, rfl⟩ := map_at g1
            obtain ⟨g4, g5⟩ := List.getElem?_zip_eq_some.mp er
            obtain ⟨c, ec, rfl⟩ := encL_at' g5
            have hcm : c ∈ ps := List.mem_of_getElem? ec
            have szc := lw_mem hcm
            obtain ⟨t, u, rfl, ht, hu'⟩ := dp_row g2
            have eZ : Z[i]? = some (x, c) := by rw [hZ]; exact List.getElem?_zip_eq_some.mpr ⟨g4, ec⟩
            have gx : nmOk x := gb x (List.mem_of_getElem? g4)
            have lx : (x, c.enc).fst.length ≤ 12 := gx.2.1
            have tc := lw_txt c (o3 c hcm) (g3 c hcm)
            have lc : c.txt.length ≤ 14400000 := by omega
            refine ⟨rfl, iteT (B := Q0 H3) ⟨_, rfl, t, _, _, _, rfl, rfl, ht, atI_nat (j := 0) rfl, _, _, rfl, rfl, by rw [l1, sizeLine_eq]; omega, _, _, rfl, rfl, by rw [len_app, l1, l5, sizeLine_eq]; omega, ?_⟩⟩
            refine ⟨_, rfl, t, _, _, _, rfl, rfl, ht, atI_nat (j := 1) rfl, u, c, rfl, hu', o3 c hcm, g3 c hcm, dpm c hcm, by omega, fun H4 s4 => ?_⟩
            refine ⟨_, _, rfl, rfl, by rw [len_app, len_app, l1, l5, sizeLine_eq]; omega, _, _, rfl, rfl, by rw [len_app, len_app, len_app, l1, l4, l5, sizeLine_eq]; omega, ?_⟩
            exact q1 _ _ (.str (rowT x c.txt)) (by rw [eZ]; rfl) s4 (.str _)
          intro H3 acc s3 hacc ha
          rw [lrows, ← lZ, Cm.range_map (fun r : Str × Tr => PyData.str (rowT r.1 r.2.txt))] at ha
          have e2 : Z.map (fun r : Str × Tr => PyData.str (rowT r.1 r.2.txt)) = rs.map PyData.str := by rw [ers, List.map_map]; rfl
          rw [e2] at ha
          have := dpAll_strs_inv ha
          subst this
          have hs3 := sqt_same s3 hs2
          refine ⟨_, rfl, _, _, rfl, rfl, by show ("(" : Str).length + w.length ≤ _; rw [l1, sizeLine_eq]; omega, _, _, rfl, rfl, by show (("(" : Str) ++ w).length + _ ≤ _; rw [len_app, l1, l2, sizeLine_eq]; omega, ?_⟩
          refine ⟨⟨_, rfl⟩, _, rfl, _, D1, rs, rfl, rfl, .inl (.inl (.inl hacc)), rsum, ?_⟩
          rw [TL.join_eq]
          refine ⟨_, _, rfl, rfl, by show ((("(" : Str) ++ w) ++ (" (" : Str)).length + _ ≤ _; rw [len_app, len_app, l1, l2, sizeLine_eq]; omega, _, _, rfl, rfl, by show (((("(" : Str) ++ w) ++ (" (" : Str)) ++ Str.join " " rs).length + _ ≤ _; rw [len_app, len_app, len_app, l1, l2, l3, sizeLine_eq]; omega, ?_⟩
          refine ⟨_, rfl, a, _, _, _, rfl, rfl, hs3, atI_nat (j := 2) rfl, ul, pL, rfl, dp_same s3 _ _ hul, o3 pL mp, g3 pL mp, dpm pL mp, by omega, fun H4 s4 => ?_⟩
          exact ⟨_, _, rfl, rfl, by show ((((("(" : Str) ++ w) ++ (" (" : Str)) ++ Str.join " " rs) ++ (") " : Str)).length + _ ≤ _; rw [len_app, len_app, len_app, len_app, l1, l2, l3, sizeLine_eq]; omega, _, _, rfl, rfl, by show (((((("(" : Str) ++ w) ++ (" (" : Str)) ++ Str.join " " rs) ++ (") " : Str)) ++ pL.txt).length + _ ≤ _; rw [len_app, len_app, len_app, len_app, len_app, l1, l2, l3, l4, sizeLine_eq]; omega, k' _ ((S2.trans s3).trans s4)⟩
        | _ => cases eB
      | false =>
      refine iteF ⟨_, rfl, rfl, fun H3 s3 => ?_⟩
      have S3 := S2.trans s3
      have hs3 := sqt_same s3 hs2
      have hx3 := hx2.same s3
      rw [in_one4 o1]
      cases eO : isOne h with
      | true =>
        refine iteT ?_
        cases h with
        | one w x =>
          obtain ⟨p, rfl⟩ := one_of (show ps.length = 1 from o1.1)
          obtain ⟨vs, rfl, hv⟩ := hx3
          obtain ⟨u, rfl, hu'⟩ := dpAll_one (d := p.enc) hv
          have mp : p ∈ [p] := List.mem_singleton.mpr rfl
          have szp := lw_mem mp
          have l1 : ("(" : Str).length = 1 := by decide +kernel
          have l4 : (")" : Str).length = 1 := by decide +kernel
          have l5 : (" " : Str).length = 1 := by decide +kernel
          have k2 : ∀ H', Same H H' → Q (.str (((((("(" : Str) ++ w) ++ (" " : Str)) ++ x) ++ (" " : Str)) ++ p.txt ++ (")" : Str))) H' := k'
          have tl2 : (((((("(" : Str) ++ w) ++ (" " : Str)) ++ x) ++ (" " : Str)) ++ p.txt ++ (")" : Str)).length ≤ 14400000 := tl'
          rw [len_app, len_app, len_app, len_app, len_app, len_app, l1, l4, l5] at tl2
          refine ⟨_, rfl, _, _, rfl, rfl, by show ("(" : Str).length + w.length ≤ _; rw [l1, sizeLine_eq]; omega, _, _, rfl, rfl, by show (("(" : Str) ++ w).length + _ ≤ _; rw [len_app, l1, l5, sizeLine_eq]; omega, ?_⟩
          refine ⟨_, rfl, a, _, _, _, rfl, rfl, hs3, atI_nat (j := 1) rfl, _, _, rfl, rfl, by show ((("(" : Str) ++ w) ++ (" " : Str)).length + x.length ≤ _; rw [len_app, len_app, l1, l5, sizeLine_eq]; omega, _, _, rfl, rfl, by show (((("(" : Str) ++ w) ++ (" " : Str)) ++ x).length + _ ≤ _; rw [len_app, len_app, len_app, l1, l5, sizeLine_eq]; omega, ?_⟩
          refine ⟨_, rfl, a, _, _, _, rfl, rfl, hs3, atI_nat (j := 2) rfl, u, p, rfl, hu', o3 p mp, g3 p mp, dpm p mp, by omega, fun H4 s4 => ?_⟩
          exact ⟨_, _, rfl, rfl, by show ((((("(" : Str) ++ w) ++ (" " : Str)) ++ x) ++ (" " : Str)).length + _ ≤ _; rw [len_app, len_app, len_app, len_app, l1, l5, sizeLine_eq]; omega, _, _, rfl, rfl, by show (((((("(" : Str) ++ w) ++ (" " : Str)) ++ x) ++ (" " : Str)) ++ p.txt).length + _ ≤ _; rw [len_app, len_app, len_app, len_app, len_app, l1, l4, l5, sizeLine_eq]; omega, k2 _ (S3.trans s4)⟩
        | _ => cases eO
      | false =>
      refine iteF ⟨_, rfl, _, rfl, 1, rfl, ?_⟩
      have lits : 1 ≤ its.length := by
        have := hx.head
        cases its with
        | nil => cases this
        | cons _ _ => exact Nat.succ_le_succ (Nat.zero_le _)
      refine sl_from (k := 1) hs3 lits fun t4 H4 s4 ht4 => ?_
      have S4 := S3.trans s4
      have hs4 := sqt_same s4 hs3
      have hx4 := hx3.same s4
      refine ⟨fun σ' H' => ∃ (hw : Str) (q : Addr) (us : List V) (qs : List Tr), σ' = [some (.ref a), some (.str (wd h)), none, none, some (.str hw), some (.ref q), none] ∧ Same H H' ∧ SqT K H' q us ∧ DpAll K H' us (Tr.encL qs) ∧ (∀ c ∈ qs, c ∈ ps) ∧ txtH h (Tr.txts ps) = (("(" : Str) ++ Str.join " " (hw :: Tr.txts qs)) ++ (")" : Str) ∧ qs.length ≤ 11 ∧ hw.length ≤ 14400000, ?_, ?_⟩
      · refine ⟨_, rfl, rfl, _, rfl, ?_⟩
        rw [eq_do o1]
        cases eD : isDo h with
        | true =>
          refine iteT ?_
          cases h with
          | doo =>
            obtain ⟨q, vs, rfl, hq, hv⟩ := hx4
            exact ⟨_, rfl, a, _, _, _, rfl, rfl, hs4, atI_nat (j := 1) rfl, _, q, vs, ps, rfl, S4, hq, hv, fun c m => m, rfl, o2, by decide +kernel⟩
          | _ => cases eD
        | false =>
        refine iteF ⟨_, rfl, rfl, _, rfl, ?_⟩
        rw [eq_op o1]
        cases eP : isOp h with
        | true =>
          refine iteT ?_
          cases h with
          | op x =>
            obtain ⟨q, vs, rfl, hq, hv⟩ := hx4
            have gx := (rg_op g1).2
            exact ⟨_, rfl, a, _, _, _, rfl, rfl, hs4, atI_nat (j := 1) rfl, _, rfl, a, _, _, _, rfl, rfl, hs4, atI_nat (j := 2) rfl, _, q, vs, ps, rfl, S4, hq, hv, fun c m => m, rfl, o2, by omega⟩
          | _ => cases eP
        | false =>
        refine iteF ⟨_, rfl, rfl, _, rfl, ?_⟩
        rw [eq_call o1]
        cases eC : isCall h with
        | true =>
          refine iteT ?_
          cases h with
          | call =>
            have hp1 : 1 ≤ ps.length := o1
            obtain ⟨p, qs, rfl⟩ : ∃ p qs, ps = p :: qs := by
              cases ps with
              | nil => exact absurd hp1 (by decide)
              | cons p qs => exact ⟨p, qs, rfl⟩
            obtain ⟨q, us, vs, rfl, hus, hq, hv⟩ := hx4
            obtain ⟨u, rfl, hu'⟩ := dpAll_one (d := p.enc) hus
            have mp : p ∈ p :: qs := List.mem_cons_self
            have szp := lw_mem mp
            have tc := lw_txt p (o3 p mp) (g3 p mp)
            refine ⟨_, rfl, a, _, _, _, rfl, rfl, hs4, atI_nat (j := 1) rfl, u, p, rfl, hu', o3 p mp, g3 p mp, dpm p mp, by omega, fun H5 s5 => ?_⟩
            exact ⟨_, rfl, a, _, _, _, rfl, rfl, sqt_same s5 hs4, atI_nat (j := 2) rfl, _, q, vs, qs, rfl, S4.trans s5, sqt_same s5 hq, dps_same s5 _ _ hv, fun c m => List.mem_cons_of_mem _ m, rfl, by rw [List.length_cons] at o2; omega, by omega⟩
          | _ => cases eC
        | false =>
        refine iteF ?_
        cases h with
        | plain w =>
          obtain ⟨vs, rfl, hv⟩ := hx4
          have key : ∀ w ∈ plainW, w.length ≤ 6 := by decide +kernel
          exact ⟨_, t4, vs, ps, rfl, S4, ht4, hv, fun c m => m, rfl, o2, by have := key w o1; show w.length ≤ _; omega⟩
        | lit w =>
          have e0 : ps = [] := List.length_eq_zero_iff.mp o1.1
          subst e0
          obtain rfl := (show its = _ from hx4)
          have key : ∀ w ∈ litW, w.length ≤ 6 := by decide +kernel
          have en3 : ¬ w ∈ (["true", "false", "none"] : List Str) := of_decide_eq_false e3
          exact ⟨_, t4, [], [], rfl, S4, ht4, .nil, fun c m => m, if_neg en3, Nat.zero_le _, by have := key w o1.2; show w.length ≤ _; omega⟩
        | num i => cases eN
        | name x => cases en
        | fn x => cases eF
        | bind w x => cases eB
        | one w x => cases eO
        | doo => cases eD
        | op x => cases eP
        | call => cases eC
      · rintro σ' H5 ⟨hw, q, us, qs, rfl, s5, hq, hus, hsub, et, hsq, lhw⟩
        have l1 : ("(" : Str).length = 1 := by decide +kernel
        have l4 : (")" : Str).length = 1 := by decide +kernel
        have l5 : (" " : Str).length = 1 := by decide +kernel
        rw [et] at k' tl'
        rw [len_app, len_app, l1, l4] at tl'
        have lq : us.length = qs.length := by have := DpAll.len hus; rwa [encL_len] at this
        refine ⟨⟨_, rfl⟩, _, rfl, by show 1 ≤ sizeLine; decide, fun L1 hL1 => ?_⟩
        have s6 := same_new (o := .lst [V.str hw]) hL1
        have e6 : upd H5 L1 (.lst [V.str hw]) L1 = some (.lst [V.str hw]) := upd_same
        have hq6 := sqt_same s6 hq
        have hus6 := dps_same s6 _ _ hus
        generalize upd H5 L1 (.lst [V.str hw]) = H6 at *
        refine ⟨_, rfl, q, rfl, ⟨_, hq6⟩, fun D1 hD1 => ?_⟩
        refine lc_dataW (K := K) (walk_tup (K := K) (a := q) (xs := us)) (fun i => (qs[i]?).map fun c => PyData.str c.txt) hD1 (by omega) (fun H' s => sqt_same s hq6) (fun i _ d e => ?_) ?_ ?_
        · obtain ⟨b, _, rfl⟩ := Option.map_eq_some_iff.mp e
          rfl
        · rintro i x0 H7' H7 hi s7 ⟨rfl, ex⟩ Q1 Q0 q1 q0
          obtain ⟨d, g1, g2⟩ := DpAll.atV (dps_same s7 _ _ hus6) ex
          obtain ⟨c, ec, rfl⟩ := encL_at' g1
          have hcm : c ∈ ps := hsub c (List.mem_of_getElem? ec)
          have szc := lw_mem hcm
          exact ⟨rfl, iteT (B := Q0 H7) ⟨_, rfl, x0, c, rfl, g2, o3 c hcm, g3 c hcm, dpm c hcm, by omega, fun H8 s8 => q1 _ _ (.str c.txt) (by rw [ec]; rfl) s8 (.str _)⟩⟩
        intro H7 acc s7 hacc ha
        rw [lq, Cm.range_map (fun c : Tr => PyData.str c.txt)] at ha
        have e2 : qs.map (fun c : Tr => PyData.str c.txt) = (Tr.txts qs).map PyData.str := by rw [txts_map, List.map_map]; rfl
        rw [e2] at ha
        have := dpAll_strs_inv ha
        subst this
        have lt : (Tr.txts qs).length = qs.length := by rw [txts_map, List.length_map]
        refine ⟨L1, D1, _, _, rfl, rfl, s7 _ _ e6, hacc, by rw [List.length_map, lt, sizeLine_eq]; show 1 + _ ≤ _; omega, fun D2 hD2 => ?_⟩
        have s8 := same_new (o := .lst ([V.str hw] ++ (Tr.txts qs).map V.str)) hD2
        refine ⟨_, D2, hw :: Tr.txts qs, rfl, rfl, .inl (.inl (.inl upd_same)), ?_, ?_⟩
        · have := join_ge (hw :: Tr.txts qs)
          rw [List.map_cons, List.sum_cons] at this
          rw [l5, List.map_cons, List.sum_cons, List.length_cons]
          omega
        rw [TL.join_eq]
        exact ⟨_, _, rfl, rfl, by rw [l1, sizeLine_eq]; omega, _, _, rfl, rfl, by rw [len_app, l1, l4, sizeLine_eq]; omega, k' _ ((s5.trans s6).trans (s7.trans s8))⟩
end
end K00

namespace K00
open PySem L2 Cm
def brkS (s : Str) : Str := (("(" : Str) ++ s) ++ (")" : Str)
def itemsT : Hd → List Str → List Str
  | .fn xs, ss => ["fn", brkS (Str.join " " xs), ss.headD ""]
  | .bind w xs, ss => [w, brkS (Str.join " " (rowS xs ss)), (ss.drop xs.length).headD ""]
  | .one w x, ss => [w, x, ss.headD ""]
  | .doo, ss => "do" :: ss
  | .call, ss => ss
  | .op o, ss => o :: ss
  | .plain w, ss => w :: ss
  | .lit w, _ => [w]
  | _, _ => []
theorem rowT_brk (x s : Str) : brkS (Str.join " " [x, s]) = rowT x s := by
  apply cs_inj
  have e1 : Str.join " " [x, s] = x ++ (" " : Str) ++ s := rfl
  unfold rowT brkS
  rw [e1]
  simp only [cs_app, List.append_assoc]
theorem items_txt {h : Hd} {ss : List Str} (n0 : isNum h = false) (n1 : isName h = false) (n2 : isLit3 h = false) : txtH h ss = brkS (Str.join " " (itemsT h ss)) := by
  cases h with
  | num i => cases n0
  | name x => cases n1
  | lit w =>
    show (if w ∈ (["true", "false", "none"] : List Str) then w else _) = _
    rw [if_neg (of_decide_eq_false n2)]
    rfl
  | one w x =>
    apply cs_inj
    have e1 : Str.join " " [w, x, ss.headD ""] = w ++ (" " : Str) ++ (x ++ (" " : Str) ++ ss.headD "") := rfl
    show cs (((((("(" : Str) ++ w) ++ (" " : Str)) ++ x) ++ (" " : Str)) ++ ss.headD "" ++ (")" : Str)) = cs ((("(" : Str) ++ Str.join " " [w, x, ss.headD ""]) ++ (")" : Str))
    rw [e1]
    simp only [cs_app, List.append_assoc]
  | fn xs =>
    apply cs_inj
    have e1 : Str.join " " [("fn" : Str), brkS (Str.join " " xs), ss.headD ""] = ("fn" : Str) ++ (" " : Str) ++ (((("(" : Str) ++ Str.join " " xs) ++ (")" : Str)) ++ (" " : Str) ++ ss.headD "") := rfl
    show cs (((("(fn (" : Str) ++ Str.join " " xs) ++ (") " : Str)) ++ ss.headD "" ++ (")" : Str)) = cs ((("(" : Str) ++ Str.join " " [("fn" : Str), brkS (Str.join " " xs), ss.headD ""]) ++ (")" : Str))
    rw [e1]
    have s1 : cs ("(fn (" : Str) = cs ("(" : Str) ++ (cs ("fn" : Str) ++ (cs (" " : Str) ++ cs ("(" : Str))) := by decide +kernel
    have s2 : cs (") " : Str) = cs (")" : Str) ++ cs (" " : Str) := by decide +kernel
    simp only [cs_app, List.append_assoc, s1, s2]
  | bind w xs =>
    apply cs_inj
    have e1 : Str.join " " [w, brkS (Str.join " " (rowS xs ss)), (ss.drop xs.length).headD ""] = w ++ (" " : Str) ++ (((("(" : Str) ++ Str.join " " (rowS xs ss)) ++ (")" : Str)) ++ (" " : Str) ++ (ss.drop xs.length).headD "") := rfl
    show cs ((((("(" : Str) ++ w) ++ (" (" : Str)) ++ Str.join " " (rowS xs ss)) ++ (") " : Str) ++ (ss.drop xs.length).headD "" ++ (")" : Str)) = cs ((("(" : Str) ++ Str.join " " [w, brkS (Str.join " " (rowS xs ss)), (ss.drop xs.length).headD ""]) ++ (")" : Str))
    rw [e1]
    have s1 : cs (" (" : Str) = cs (" " : Str) ++ cs ("(" : Str) := by decide +kernel
    have s2 : cs (") " : Str) = cs (")" : Str) ++ cs (" " : Str) := by decide +kernel
    simp only [cs_app, List.append_assoc, s1, s2]
  | doo => rfl
  | call => rfl
  | op o => rfl
  | plain w => rfl
def lsum (ss : List Str) : Nat := (ss.map (·.length)).sum + ss.length
def spBrk : Sp := fun vs H Q _ => ∃ (l : Addr) (ss : List Str), vs = [.ref l] ∧ H l = some (.lst (ss.map V.str)) ∧ lsum ss ≤ 16000000 ∧ Q (.str (brkS (Str.join " " ss))) H
def spTexts (K : PySem.W.Frag) (n : Nat) : Sp := fun vs H Q _ => ∃ (q : Addr) (us : List V) (ts : List Tr), vs = [.ref q] ∧ SqT K H q us ∧ DpAll K H us (Tr.encL ts) ∧ Tr.oks ts ∧ Tr.rgs ts ∧ (∀ t ∈ ts, t.dep ≤ n) ∧ Tr.lws ts ≤ 14000000 ∧
  ∀ (l : Addr) (H' : Hp), Same H H' → H' l = some (.lst ((Tr.txts ts).map V.str)) → Q (.ref l) H'
def spItems (K : PySem.W.Frag) (n : Nat) : Sp := fun vs H Q _ => ∃ (v : V) (h : Hd) (ps : List Tr), vs = [v] ∧ Dp K H v (Tr.mk h ps).enc ∧ (Tr.mk h ps).ok ∧ (Tr.mk h ps).rg ∧ isNum h = false ∧ isName h = false ∧ isLit3 h = false ∧ (∀ t ∈ ps, t.dep ≤ n) ∧ (Tr.mk h ps).lw ≤ 14000000 ∧
  ∀ (l : Addr) (H' : Hp), Same H H' → H' l = some (.lst ((itemsT h (Tr.txts ps)).map V.str)) → Q (.ref l) H'
section
variable {P : Program} {w : World} {K : PySem.W.Frag} {mg : Str → Option Value} {base : Heap}
abbrev s_p_in_brackets : Stmt := top 44
abbrev N_p_in_brackets : List Str := ["texts"]
theorem sc_p_in_brackets : FnScope N_p_in_brackets ["texts"] (defScope s_p_in_brackets) := ⟨rfl, rfl, rfl, by decide +kernel, rfl, by decide +kernel, by decide +kernel⟩
theorem ok_in_brackets (D : At K mg "_in_brackets" s_p_in_brackets ["texts"]) : Cl P w K mg base 1 "_in_brackets" spBrk := by
  refine cl_of D sc_p_in_brackets (fun vs H Q E h => ?_) fun f cdv A outer s H vs Q E hr h => ?_
  · obtain ⟨l, ss, rfl, _⟩ := h
    rfl
  · obtain ⟨l, ss, rfl, hl, hs, k⟩ := h
    refine ⟨_, (pss_one (ps_ret (pe_op op_add_str (pe_op op_add_str pe_str (pe_join pe_str (pv 0))) pe_str))), ?_⟩
    have l1 : ("(" : Str).length = 1 := by decide +kernel
    have l2 : (" " : Str).length = 1 := by decide +kernel
    have l3 : (")" : Str).length = 1 := by decide +kernel
    have hj := join_len ss
    have hs' : (ss.map (·.length)).sum + ss.length ≤ 16000000 := hs
    refine ⟨⟨_, rfl⟩, _, rfl, _, l, ss, rfl, rfl, .inl (.inl (.inl hl)), by rw [l2]; omega, ?_⟩
    rw [TL.join_eq]
    exact ⟨_, _, rfl, rfl, by rw [l1, sizeLine_eq]; omega, _, _, rfl, rfl, by rw [len_app, l1, l3, sizeLine_eq]; omega, k⟩
abbrev s_p_texts_of : Stmt := top 43
abbrev N_p_texts_of : List Str := ["trees", "tree"]
theorem sc_p_texts_of : FnScope N_p_texts_of ["trees"] (defScope s_p_texts_of) := ⟨rfl, rfl, rfl, by decide +kernel, rfl, by decide +kernel, by decide +kernel⟩
theorem ok_texts_of {n lv : Nat} (c_p_program_text : Cl P w K mg base lv "program_text" (spText K n)) (D : At K mg "_texts_of" s_p_texts_of ["trees"]) : Cl P w K mg base (lv + 1) "_texts_of" (spTexts K n) := by
  refine cl_of (k := lv) D sc_p_texts_of (fun vs H Q E h => ?_) fun f cdv A outer s H vs Q E hr h => ?_
  · obtain ⟨q, us, ts, rfl, _⟩ := h
    rfl
  · obtain ⟨q, us, ts, rfl, hq, hus, ho, hg, hd, hw, k⟩ := h
    refine ⟨_, (pss_one (ps_ret (pe_lc (own := [("tree", 1)]) rfl sc_p_texts_of.nd (pi_tup (pv 0)) (blkOk_by (N := N_p_texts_of) (sc := defScope s_p_texts_of) (by decide +kernel))
      (fun _ _ _ _ _ => (pg_name (i := 1) sc_p_texts_of.nd rfl (Or.inl rfl)))
      (fun _ _ _ _ _ => pts_nil)
      (fun _ _ _ _ _ => (pe_c c_p_program_text hr (Nat.le_refl _) (by rfl) (pa_cons (pv 1) pa_nil)))))), ?_⟩
    have lq : us.length = ts.length := by have := DpAll.len hus; rwa [encL_len] at this
    have tl := lw_txts ts ho hg
    have ll : (Tr.txts ts).length = ts.length := by rw [txts_map, List.length_map]
    refine ⟨_, rfl, q, rfl, ⟨_, hq⟩, fun D1 hD1 => ?_⟩
    refine lc_dataW (K := K) (walk_tup (K := K) (a := q) (xs := us)) (fun i => (ts[i]?).map fun c => PyData.str c.txt) hD1 (by omega) (fun H' s => sqt_same s hq) (fun i _ d e => ?_) ?_ ?_
    · obtain ⟨b, _, rfl⟩ := Option.map_eq_some_iff.mp e
      rfl
    · rintro i x0 H7' H7 hi s7 ⟨rfl, ex⟩ Q1 Q0 q1 q0
      obtain ⟨d, g1, g2⟩ := DpAll.atV (dps_same s7 _ _ hus) ex
      obtain ⟨c, ec, rfl⟩ := encL_at' g1
      have hcm : c ∈ ts := List.mem_of_getElem? ec
      have szc := lw_mem hcm
      exact ⟨rfl, iteT (B := Q0 H7) ⟨_, rfl, x0, c, rfl, g2, oks_iff.mp ho c hcm, rgs_iff.mp hg c hcm, hd c hcm, by omega, fun H8 s8 => q1 _ _ (.str c.txt) (by rw [ec]; rfl) s8 (.str _)⟩⟩
    intro H7 acc s7 hacc ha
    rw [lq, Cm.range_map (fun c : Tr => PyData.str c.txt)] at ha
    have e2 : ts.map (fun c : Tr => PyData.str c.txt) = (Tr.txts ts).map PyData.str := by rw [txts_map, List.map_map]; rfl
    rw [e2] at ha
    have := dpAll_strs_inv ha
    subst this
    exact k _ _ s7 hacc
abbrev s_p_items_of : Stmt := top 42
abbrev N_p_items_of : List Str := ["tree", "word", "rows", "name", "side"]
theorem sc_p_items_of : FnScope N_p_items_of ["tree"] (defScope s_p_items_of) := ⟨rfl, rfl, rfl, by decide +kernel, rfl, by decide +kernel, by decide +kernel⟩
theorem lsum3 (a b c : Str) : lsum [a, b, c] = a.length + b.length + c.length + 3 := by
  show a.length + (b.length + (c.length + 0)) + 3 = _
  omega
theorem ok_items_of {n lv : Nat} (hlv : 1 ≤ lv) (T : Txt mg) (c_p_in_brackets : Cl P w K mg base 1 "_in_brackets" spBrk) (c_p_program_text : Cl P w K mg base lv "program_text" (spText K n)) (c_p_texts_of : Cl P w K mg base (lv + 1) "_texts_of" (spTexts K n)) (D : At K mg "_items_of" s_p_items_of ["tree"]) : Cl P w K mg base (lv + 2) "_items_of" (spItems K n) := by
  refine cl_of (k := lv + 1) D sc_p_items_of (fun vs H Q E h => ?_) fun f cdv A outer s H vs Q E hr h => ?_
  · obtain ⟨v, h, ps, rfl, _⟩ := h
    rfl
  · obtain ⟨v, h, ps, rfl, hd, o, g, n0, n1, n2, hdep, hsz, k⟩ := h
    refine ⟨_, (pss_cons (ps_set (i := 1) sc_p_items_of.nd rfl (Or.inl rfl) (pe_ix ix_tup (pv 0) pe_int (fun _ _ => rfl)))
      (pss_cons (ps_if (pt_cmpR op_eq (pv 1) pe_str (nomark _))
        (pss_one (ps_ret (pe_lst (pa_cons (pv 1) (pa_cons (pe_c c_p_in_brackets hr (by omega) (by rfl) (pa_cons (pe_callTy call_list_of (by rfl) T.list (by decide +kernel) (pa_cons (pe_ix ix_tup (pv 0) pe_int (fun _ _ => rfl)) pa_nil)) pa_nil)) (pa_cons (pe_c c_p_program_text hr (by omega) (by rfl) (pa_cons (pe_ix ix_tup (pv 0) pe_int (fun _ _ => rfl)) pa_nil)) pa_nil))))))
        pss_nil)
      (pss_cons (ps_if (pt_inW (pv 1) (.cons (.cons .nil)) (show 2 ≤ sizeLine by decide) (by rfl))
        (pss_cons (ps_setLc (i := 2) (own := [("name", 3), ("side", 4)]) (g := gTup K 2 (gCons (gName 3) (gCons (gName 4) gNil))) rfl sc_p_items_of.nd rfl rfl (sw_true rfl rfl rfl (by decide +kernel)) (pi_tup (pe_ix ix_tup (pv 0) pe_int (fun _ _ => rfl))) (blkOk_by (N := N_p_items_of) (sc := defScope s_p_items_of) (by decide +kernel))
      (fun _ _ _ _ _ => (pg_tup rfl (pgs_cons (pg_name (i := 3) sc_p_items_of.nd rfl (Or.inl rfl)) (pgs_cons (pg_name (i := 4) sc_p_items_of.nd rfl (Or.inl rfl)) pgs_nil))))
      (fun _ _ _ _ _ => pts_nil)
      (fun _ _ _ _ _ => (pe_c c_p_in_brackets hr (by omega) (by rfl) (pa_cons (pe_lst (pa_cons (pv 3) (pa_cons (pe_c c_p_program_text hr (by omega) (by rfl) (pa_cons (pv 4) pa_nil)) pa_nil))) pa_nil))))
        (pss_one (ps_ret (pe_lst (pa_cons (pv 1) (pa_cons (pe_c c_p_in_brackets hr (by omega) (by rfl) (pa_cons (pv 2) pa_nil)) (pa_cons (pe_c c_p_program_text hr (by omega) (by rfl) (pa_cons (pe_ix ix_tup (pv 0) pe_int (fun _ _ => rfl)) pa_nil)) pa_nil)))))))
        pss_nil)
      (pss_cons (ps_if (pt_inW (pv 1) (.cons (.cons (.cons (.cons .nil)))) (show 4 ≤ sizeLine by decide) (by rfl))
        (pss_one (ps_ret (pe_lst (pa_cons (pv 1) (pa_cons (pe_ix ix_tup (pv 0) pe_int (fun _ _ => rfl)) (pa_cons (pe_c c_p_program_text hr (by omega) (by rfl) (pa_cons (pe_ix ix_tup (pv 0) pe_int (fun _ _ => rfl)) pa_nil)) pa_nil))))))
        pss_nil)
      (pss_cons (ps_if (pt_cmpR op_eq (pv 1) pe_str (nomark _))
        (pss_one (ps_ret (pe_op op_cat (pe_lst (pa_cons (pv 1) pa_nil)) (pe_c c_p_texts_of hr (by omega) (by rfl) (pa_cons (pe_ix ix_tup (pv 0) pe_int (fun _ _ => rfl)) pa_nil)))))
        pss_nil)
      (pss_cons (ps_if (pt_cmpR op_eq (pv 1) pe_str (nomark _))
        (pss_one (ps_ret (pe_op op_cat (pe_lst (pa_cons (pe_c c_p_program_text hr (by omega) (by rfl) (pa_cons (pe_ix ix_tup (pv 0) pe_int (fun _ _ => rfl)) pa_nil)) pa_nil)) (pe_c c_p_texts_of hr (by omega) (by rfl) (pa_cons (pe_ix ix_tup (pv 0) pe_int (fun _ _ => rfl)) pa_nil)))))
        pss_nil)
      (pss_cons (ps_if (pt_cmpR op_eq (pv 1) pe_str (nomark _))
        (pss_one (ps_ret (pe_op op_cat (pe_lst (pa_cons (pe_ix ix_tup (pv 0) pe_int (fun _ _ => rfl)) pa_nil)) (pe_c c_p_texts_of hr (by omega) (by rfl) (pa_cons (pe_ix ix_tup (pv 0) pe_int (fun _ _ => rfl)) pa_nil)))))
        pss_nil)
      (pss_one (ps_ret (pe_op op_cat (pe_lst (pa_cons (pv 1) pa_nil)) (pe_c c_p_texts_of hr (by omega) (by rfl) (pa_cons (pe_slice sl_tupA (pv 0) (po_some pe_int) po_none) pa_nil)))))))))))), ?_⟩
    obtain ⟨o1, o2, o3⟩ := ok_mk' o
    obtain ⟨g1, _, g3⟩ := rg_mk' g
    have tx := lw_txts ps (oks_iff.mpr o3) (rgs_iff.mpr g3)
    have hsz' : hwH h + 3 + Tr.lws ps ≤ 14000000 := hsz
    have lt : (Tr.txts ps).length = ps.length := by rw [txts_map, List.length_map]
    obtain ⟨a, its, rfl, hs, hx⟩ := view hd
    refine ⟨_, rfl, a, its, _, _, rfl, rfl, hs, hx.head, ?_⟩
    refine ⟨_, rfl, rfl, _, rfl, ?_⟩
    rw [eq_fn o1]
    cases eF : isFn h with
    | true =>
      refine iteT ?_
      cases h with
      | fn xs =>
        obtain ⟨p, rfl⟩ := one_of (show ps.length = 1 from o1.1)
        obtain ⟨q, vs, rfl, hq, hv⟩ := hx
        obtain ⟨u, rfl, hu'⟩ := dpAll_one (d := p.enc) hv
        have mp : p ∈ [p] := List.mem_singleton.mpr rfl
        have szp := lw_mem mp
        have hn := names_sum12 (show xs.length ≤ 8 ∧ ∀ x ∈ xs, nmOk x from g1).2
        have hx8 := (show xs.length ≤ 8 ∧ ∀ x ∈ xs, nmOk x from g1).1
        refine ⟨_, rfl, _, rfl, a, _, _, _, rfl, rfl, hs, atI_nat (j := 1) rfl, q, _, rfl, .inr hq, fun l1 hl1 => ?_⟩
        have s1 := same_new (o := .lst (xs.map V.str)) hl1
        refine ⟨l1, xs, rfl, upd_same, by show (xs.map (·.length)).sum + xs.length ≤ _; omega, ?_⟩
        refine ⟨_, rfl, a, _, _, _, rfl, rfl, sqt_same s1 hs, atI_nat (j := 2) rfl, u, p, rfl, dp_same s1 _ _ hu', o3 p mp, g3 p mp, hdep p mp, by omega, fun H2 s2 => ⟨by show 3 ≤ sizeLine; decide, fun l2 hl2 => ?_⟩⟩
        exact k _ _ (s1.trans (s2.trans (same_new hl2))) upd_same
      | _ => cases eF
    | false =>
    refine iteF ⟨_, rfl, rfl, fun H1 s1 => ?_⟩
    have hs1 := sqt_same s1 hs
    have hx1 := hx.same s1
    rw [in_B o1]
    cases eB : kB h with
    | true =>
      refine iteT ?_
      cases h with
      | bind w' xs =>
        obtain ⟨q, rows, vs, rfl, hq, hrows, hv⟩ := hx1
        have hpl : ps.length = xs.length + 1 := o1.1
        have gb : ∀ x ∈ xs, nmOk x := (show 1 ≤ xs.length ∧ xs.length ≤ 10 ∧ ∀ x ∈ xs, nmOk x from g1).2.2
        have gb10 : xs.length ≤ 10 := (show 1 ≤ xs.length ∧ xs.length ≤ 10 ∧ ∀ x ∈ xs, nmOk x from g1).2.1
        obtain ⟨pL, epL⟩ : ∃ p, ps[xs.length]? = some p := ⟨ps[xs.length]'(by omega), List.getElem?_eq_getElem _⟩
        have mp : pL ∈ ps := List.mem_of_getElem? epL
        have edrop : ps.drop xs.length = [pL] := by
          obtain ⟨hx, e⟩ := List.getElem?_eq_some_iff.mp epL
          rw [List.drop_eq_getElem_cons hx, e, List.drop_of_length_le (by omega)]
        rw [encL_map, ← List.map_drop, edrop] at hv
        obtain ⟨ul, rfl, hul⟩ := dpAll_one (d := pL.enc) hv
        have lrows : rows.length = xs.length := by
          have := DpAll.len hrows
          rw [List.length_map, List.length_zip, encL_len] at this
          omega
        have szp := lw_mem mp
        obtain ⟨Z, hZ⟩ : ∃ Z, Z = xs.zip ps := ⟨_, rfl⟩
        have lZ : Z.length = xs.length := by rw [hZ, List.length_zip]; omega
        have ers : rowS xs (Tr.txts ps) = Z.map fun r => rowT r.1 r.2.txt := by
          unfold rowS
          rw [hZ, txts_map, List.zip_map_right, List.map_map]
          rfl
        have el : ((Tr.txts ps).drop xs.length).headD "" = pL.txt := by rw [txts_map, ← List.map_drop, edrop]; rfl
        have rsum : lsum (rowS xs (Tr.txts ps)) ≤ 16000000 := by
          have z := rows_sum (xs := xs) (ss := Tr.txts ps) gb
          have z3 : (((Tr.txts ps).take xs.length).map (·.length)).sum ≤ ((Tr.txts ps).map (·.length)).sum := by
            conv => rhs; rw [← List.take_append_drop xs.length (Tr.txts ps), List.map_append, List.sum_append]
            omega
          show ((rowS xs (Tr.txts ps)).map (·.length)).sum + (rowS xs (Tr.txts ps)).length ≤ _
          omega
        refine ⟨_, rfl, a, _, _, _, rfl, rfl, hs1, atI_nat (j := 1) rfl, q, rfl, ⟨_, hq⟩, fun D1 hD1 => ?_⟩
        refine lc_data (K := K) (walk_tup (K := K) (a := q) (xs := rows)) (fun i => (Z[i]?).map fun r => PyData.str (rowT r.1 r.2.txt)) hD1 (by omega) (fun H' s => sqt_same s hq) (fun i _ d e => ?_) ?_ ?_
        · obtain ⟨b, _, rfl⟩ := Option.map_eq_some_iff.mp e
          rfl
        · rintro i x0 H3' H3 hi s3 ⟨rfl, ex⟩ Q1 Q0 q1 q0
          obtain ⟨d, e1, e2⟩ := DpAll.atV (dps_same s3 _ _ hrows) ex
          obtain ⟨⟨x, e⟩, er, rfl⟩ := map_at e1
          obtain ⟨e4, e5⟩ := List.getElem?_zip_eq_some.mp er
          obtain ⟨c, ec, rfl⟩ := encL_at' e5
          have hcm : c ∈ ps := List.mem_of_getElem? ec
          have szc := lw_mem hcm
          obtain ⟨t, u, rfl, ht, hu'⟩ := dp_row e2
          have eZ : Z[i]? = some (x, c) := by rw [hZ]; exact List.getElem?_zip_eq_some.mpr ⟨e4, ec⟩
          have gx : nmOk x := gb x (List.mem_of_getElem? e4)
          have lx := gx.2.1
          have tc := lw_txt c (o3 c hcm) (g3 c hcm)
          refine ⟨t, _, rfl, ht, rfl, _, _, rfl, _, _, rfl, rfl, ?_⟩
          refine ⟨rfl, iteT (B := Q0 H3) ⟨_, rfl, _, rfl, u, c, rfl, hu', o3 c hcm, g3 c hcm, hdep c hcm, by omega, fun H4 s4 => ⟨by show 2 ≤ sizeLine; decide, fun l4 hl4 => ?_⟩⟩⟩
          have s5 := same_new (o := .lst ([x, c.txt].map V.str)) hl4
          refine ⟨l4, [x, c.txt], rfl, upd_same, by show x.length + (c.txt.length + 0) + 2 ≤ _; omega, ?_⟩
          rw [rowT_brk]
          exact q1 _ _ (.str (rowT x c.txt)) (by rw [eZ]; rfl) (s4.trans s5) (.str _)
        intro H3 acc s3 hacc ha
        rw [lrows, ← lZ, Cm.range_map (fun r : Str × Tr => PyData.str (rowT r.1 r.2.txt))] at ha
        have e2 : Z.map (fun r : Str × Tr => PyData.str (rowT r.1 r.2.txt)) = (rowS xs (Tr.txts ps)).map PyData.str := by rw [ers, List.map_map]; rfl
        rw [e2] at ha
        have := dpAll_strs_inv ha
        subst this
        have hs3 := sqt_same s3 hs1
        refine ⟨_, rfl, _, rfl, D1, rowS xs (Tr.txts ps), rfl, hacc, rsum, ?_⟩
        refine ⟨_, rfl, a, _, _, _, rfl, rfl, hs3, atI_nat (j := 2) rfl, ul, pL, rfl, dp_same s3 _ _ hul, o3 pL mp, g3 pL mp, hdep pL mp, by omega, fun H4 s4 => ⟨by show 3 ≤ sizeLine; decide, fun l2 hl2 => ?_⟩⟩
        refine k _ _ (s1.trans (s3.trans (s4.trans (same_new hl2)))) ?_
        show _ = some (HO.lst (([w', brkS (Str.join " " (rowS xs (Tr.txts ps))), ((Tr.txts ps).drop xs.length).headD ""]).map V.str))
        rw [el]
        exact upd_same
      | _ => cases eB
    | false =>
    refine iteF ⟨_, rfl, rfl, fun H2 s2 => ?_⟩
    have S2 := s1.trans s2
    have hs2 := sqt_same s2 hs1
    have hx2 := hx1.same s2
    rw [in_one4 o1]
    cases eO : isOne h with
    | true =>
      refine iteT ?_
      cases h with
      | one w' x =>
        obtain ⟨p, rfl⟩ := one_of (show ps.length = 1 from o1.1)
        obtain ⟨vs, rfl, hv⟩ := hx2
        obtain ⟨u, rfl, hu'⟩ := dpAll_one (d := p.enc) hv
        have mp : p ∈ [p] := List.mem_singleton.mpr rfl
        have szp := lw_mem mp
        refine ⟨_, rfl, _, rfl, a, _, _, _, rfl, rfl, hs2, atI_nat (j := 1) rfl, ?_⟩
        refine ⟨_, rfl, a, _, _, _, rfl, rfl, hs2, atI_nat (j := 2) rfl, u, p, rfl, hu', o3 p mp, g3 p mp, hdep p mp, by omega, fun H4 s4 => ⟨by show 3 ≤ sizeLine; decide, fun l2 hl2 => ?_⟩⟩
        exact k _ _ (S2.trans (s4.trans (same_new hl2))) upd_same
      | _ => cases eO
    | false =>
    -- a head text and texts
    have fin : ∀ (hw : Str) (q : Addr) (us : List V) (qs : List Tr) (L1 : Addr) (H3 : Hp), Same H H3 → H3 L1 = some (.lst [V.str hw]) → SqT K H3 q us → DpAll K H3 us (Tr.encL qs) → (∀ c ∈ qs, c ∈ ps) → qs.length ≤ 11 → Tr.lws qs ≤ 14000000 → itemsT h (Tr.txts ps) = hw :: Tr.txts qs →
        spTexts K n [.ref q] H3 (fun x H4 => rCat (.ref L1) x H4 Q) E0 := fun hw q us qs L1 H3 s3 e1 hq hus sub h11 hl ei => by
      refine ⟨q, us, qs, rfl, hq, hus, oks_iff.mpr fun c m => o3 c (sub c m), rgs_iff.mpr fun c m => g3 c (sub c m), fun c m => hdep c (sub c m), hl, fun l H4 s4 hl4 => ?_⟩
      have ll : (Tr.txts qs).length = qs.length := by rw [txts_map, List.length_map]
      refine ⟨L1, l, _, _, rfl, rfl, s4 _ _ e1, hl4, by rw [List.length_map, ll, sizeLine_eq]; show 1 + _ ≤ _; omega, fun D2 hD2 => ?_⟩
      refine k _ _ (s3.trans (s4.trans (same_new hD2))) ?_
      rw [ei]
      exact upd_same
    refine iteF ⟨_, rfl, rfl, _, rfl, ?_⟩
    rw [eq_do o1]
    cases eD : isDo h with
    | true =>
      refine iteT ?_
      cases h with
      | doo =>
        obtain ⟨q, vs, rfl, hq, hv⟩ := hx2
        refine ⟨_, rfl, by show 1 ≤ sizeLine; decide, fun L1 hL1 => ?_⟩
        have s3 := same_new (o := .lst [V.str "do"]) hL1
        exact ⟨_, rfl, a, _, _, _, rfl, rfl, sqt_same s3 hs2, atI_nat (j := 1) rfl, fin "do" q vs ps L1 _ (S2.trans s3) upd_same (sqt_same s3 hq) (dps_same s3 _ _ hv) (fun c m => m) o2 (by omega) rfl⟩
      | _ => cases eD
    | false =>
    refine iteF ⟨_, rfl, rfl, _, rfl, ?_⟩
    rw [eq_call o1]
    cases eC : isCall h with
    | true =>
      refine iteT ?_
      cases h with
      | call =>
        have hp1 : 1 ≤ ps.length := o1
        obtain ⟨p, qs, rfl⟩ : ∃ p qs, ps = p :: qs := by
          cases ps with
          | nil => exact absurd hp1 (by decide)
          | cons p qs => exact ⟨p, qs, rfl⟩
        obtain ⟨q, us, vs, rfl, hus, hq, hv⟩ := hx2
        obtain ⟨u, rfl, hu'⟩ := dpAll_one (d := p.enc) hus
        have mp : p ∈ p :: qs := List.mem_cons_self
        have szp := lw_mem mp
        have szq : Tr.lws (p :: qs) = p.lw + Tr.lws qs := rfl
        refine ⟨_, rfl, a, _, _, _, rfl, rfl, hs2, atI_nat (j := 1) rfl, u, p, rfl, hu', o3 p mp, g3 p mp, hdep p mp, by omega, fun H5 s5 => ⟨by show 1 ≤ sizeLine; decide, fun L1 hL1 => ?_⟩⟩
        have s6 := same_new (o := .lst [V.str p.txt]) hL1
        have s56 := s5.trans s6
        exact ⟨_, rfl, a, _, _, _, rfl, rfl, sqt_same s56 hs2, atI_nat (j := 2) rfl, fin p.txt q vs qs L1 _ (S2.trans s56) upd_same (sqt_same s56 hq) (dps_same s56 _ _ hv) (fun c m => List.mem_cons_of_mem _ m) (by rw [List.length_cons] at o2; omega) (by omega) rfl⟩
      | _ => cases eC
    | false =>
    refine iteF ⟨_, rfl, rfl, _, rfl, ?_⟩
    rw [eq_op o1]
    cases eP : isOp h with
    | true =>
      refine iteT ?_
      cases h with
      | op x =>
        obtain ⟨q, vs, rfl, hq, hv⟩ := hx2
        refine ⟨_, rfl, a, _, _, _, rfl, rfl, hs2, atI_nat (j := 1) rfl, by show 1 ≤ sizeLine; decide, fun L1 hL1 => ?_⟩
        have s3 := same_new (o := .lst [V.str x]) hL1
        exact ⟨_, rfl, a, _, _, _, rfl, rfl, sqt_same s3 hs2, atI_nat (j := 2) rfl, fin x q vs ps L1 _ (S2.trans s3) upd_same (sqt_same s3 hq) (dps_same s3 _ _ hv) (fun c m => m) o2 (by omega) rfl⟩
      | _ => cases eP
    | false =>
    refine iteF ⟨_, rfl, by show 1 ≤ sizeLine; decide, fun L1 hL1 => ?_⟩
    have s3 := same_new (o := .lst [V.str (wd h)]) hL1
    have hs3 := sqt_same s3 hs2
    have hx3 := hx2.same s3
    have eL1 : (upd H2 L1 (.lst [V.str (wd h)])) L1 = some (.lst [V.str (wd h)]) := upd_same
    have lits : 1 ≤ its.length := by
      have := hx.head
      cases its with
      | nil => cases this
      | cons _ _ => exact Nat.succ_le_succ (Nat.zero_le _)
    refine ⟨_, rfl, 1, rfl, ?_⟩
    refine sl_from (k := 1) hs3 lits fun t4 H4 s4 ht4 => ?_
    have hx4 := hx3.same s4
    cases h with
    | plain w' =>
      obtain ⟨vs, rfl, hv⟩ := hx4
      exact fin w' t4 vs ps L1 _ (S2.trans (s3.trans s4)) (s4 _ _ eL1) ht4 hv (fun c m => m) o2 (by omega) rfl
    | lit w' =>
      have e0 : ps = [] := List.length_eq_zero_iff.mp o1.1
      subst e0
      obtain rfl := (show its = _ from hx4)
      exact fin w' t4 [] [] L1 _ (S2.trans (s3.trans s4)) (s4 _ _ eL1) ht4 .nil (fun c m => m) (Nat.zero_le _) (by show 0 ≤ _; omega) rfl
    | num i => cases n0
    | name x => cases n1
    | fn x => cases eF
    | bind w' x => cases eB
    | one w' x => cases eO
    | doo => cases eD
    | op x => cases eP
    | call => cases eC
end
end K00

namespace K00
open PySem L2 Cm
section
variable {P : Program} {w : World} {K : PySem.W.Frag} {mg : Str → Option Value} {base : Heap}
abbrev s_p_program_text : Stmt := top 41
abbrev N_p_program_text : List Str := ["tree", "word"]
theorem sc_p_program_text : FnScope N_p_program_text ["tree"] (defScope s_p_program_text) := ⟨rfl, rfl, rfl, by decide +kernel, rfl, by decide +kernel, by decide +kernel⟩
theorem ok_program_text (T : Txt mg) (c_br : Cl P w K mg base 1 "_in_brackets" spBrk) (DT : At K mg "_texts_of" s_p_texts_of ["trees"]) (DI : At K mg "_items_of" s_p_items_of ["tree"]) (D : At K mg "program_text" s_p_program_text ["tree"]) :
    ∀ n, Cl P w K mg base (3 * n + 2) "program_text" (spText K n) := by
  intro n
  induction n with
  | zero =>
    refine cl_of (k := 1) D sc_p_program_text (fun vs H Q E h => ?_) fun f cdv A outer s H vs Q E hr h => ?_
    · obtain ⟨v, t, rfl, _⟩ := h
      rfl
    · obtain ⟨v, t, _, _, _, _, z, _⟩ := h
      cases t with
      | mk hd ps => exact absurd z (by show ¬ (Tr.deps ps + 1 ≤ 0); omega)
  | succ n ih =>
    have c1 := ok_texts_of ih DT
    have c2 := ok_items_of (by omega) T c_br ih c1 DI
    refine cl_of (k := 3 * n + 4) D sc_p_program_text (fun vs H Q E h => ?_) fun f cdv A outer s H vs Q E hr h => ?_
    · obtain ⟨v, t, rfl, _⟩ := h
      rfl
    · obtain ⟨v, t, rfl, hd, o, g, hdep, hsz, k⟩ := h
      refine ⟨_, (pss_cons (ps_set (i := 1) sc_p_program_text.nd rfl (Or.inl rfl) (pe_ix ix_tup (pv 0) pe_int (fun _ _ => rfl)))
      (pss_cons (ps_if (pt_cmpR op_eq (pv 1) pe_str (nomark _))
        (pss_one (ps_ret (pe_callTy call_str_int (by rfl) T.str (by decide +kernel) (pa_cons (pe_ix ix_tup (pv 0) pe_int (fun _ _ => rfl)) pa_nil))))
        pss_nil)
      (pss_cons (ps_if (pt_cmpR op_eq (pv 1) pe_str (nomark _))
        (pss_one (ps_ret (pe_ix ix_tup (pv 0) pe_int (fun _ _ => rfl))))
        pss_nil)
      (pss_cons (ps_if (pt_inW (pv 1) (.cons (.cons (.cons .nil))) (show 3 ≤ sizeLine by decide) (by rfl))
        (pss_one (ps_ret (pv 1)))
        pss_nil)
      (pss_one (ps_ret (pe_c c_br hr (by omega) (by rfl) (pa_cons (pe_c c2 hr (by omega) (by rfl) (pa_cons (pv 0) pa_nil)) pa_nil)))))))), ?_⟩
      cases t with
      | mk h ps =>
      obtain ⟨o1, o2, o3⟩ := ok_mk' o
      obtain ⟨g1, _, g3⟩ := rg_mk' g
      have tl := lw_txt _ o g
      obtain ⟨a, its, rfl, hs, hx⟩ := view hd
      have k' : ∀ H', Same H H' → Q (.str (txtH h (Tr.txts ps))) H' := k
      refine ⟨_, rfl, a, its, _, _, rfl, rfl, hs, hx.head, ?_⟩
      refine ⟨_, rfl, rfl, _, rfl, ?_⟩
      rw [eq_num o1]
      cases eN : isNum h with
      | true =>
        refine iteT ?_
        cases h with
        | num i =>
          obtain rfl := (show its = _ from hx)
          exact ⟨_, rfl, a, _, _, _, rfl, rfl, hs, atI_nat (j := 1) rfl, i, rfl, log_ok (show i.natAbs ≤ 1000000000 from g1), k' _ (Same.refl _)⟩
        | _ => cases eN
      | false =>
      refine iteF ⟨_, rfl, rfl, _, rfl, ?_⟩
      rw [eq_name o1]
      cases en : isName h with
      | true =>
        refine iteT ?_
        cases h with
        | name x =>
          obtain rfl := (show its = _ from hx)
          exact ⟨_, rfl, a, _, _, _, rfl, rfl, hs, atI_nat (j := 1) rfl, k' _ (Same.refl _)⟩
        | _ => cases en
      | false =>
      refine iteF ⟨_, rfl, rfl, fun H1 s1 => ?_⟩
      rw [in_lit3 o1]
      cases e3 : isLit3 h with
      | true =>
        refine iteT ⟨_, rfl, ?_⟩
        cases h with
        | lit w =>
          have e : txtH (.lit w) (Tr.txts ps) = w := if_pos (of_decide_eq_true e3)
          rw [e] at k'
          exact k' _ s1
        | _ => cases e3
      | false =>
      have ei := items_txt (ss := Tr.txts ps) eN en e3
      have tl2 : (txtH h (Tr.txts ps)).length + 3 ≤ (Tr.mk h ps).lw := tl
      refine iteF ⟨_, rfl, .ref a, h, ps, rfl, dp_same s1 _ _ hd, o, g, eN, en, e3, fun t m => dep_mk.mp hdep t m, hsz, fun l H2 s2 hl => ⟨l, _, rfl, hl, ?_, ?_⟩⟩
      · have l1 : ("(" : Str).length = 1 := by decide +kernel
        have l3 : (")" : Str).length = 1 := by decide +kernel
        have z := join_ge (itemsT h (Tr.txts ps))
        have e5 : (brkS (Str.join " " (itemsT h (Tr.txts ps)))).length = (Str.join " " (itemsT h (Tr.txts ps))).length + 2 := by
          unfold brkS
          rw [len_app, len_app, l1, l3]
          omega
        rw [ei] at tl2
        have lt : (Tr.txts ps).length ≤ 11 := by rw [txts_map, List.length_map]; exact o2
        have li : (itemsT h (Tr.txts ps)).length ≤ 12 := by
          cases h <;> simp only [itemsT, List.length_cons, List.length_nil] <;> omega
        show ((itemsT h (Tr.txts ps)).map (·.length)).sum + (itemsT h (Tr.txts ps)).length ≤ 16000000
        omega
      · rw [← ei]
        exact k' _ (s1.trans s2)
end
end K00

set_option linter.all false
/-! drawn trees that can be read: how deep, how long -/
namespace Cm
open PySem L2 PySem.Spec PyProof.Rows
structure Gr (e d : Nat) (t : Tr) : Prop where
  ok : t.ok
  rg : t.rg
  dep : t.dep ≤ 1 + e
  dn : t.dn ≤ 1 + d
theorem Gr.mono {e e' d d' : Nat} {t : Tr} (g : Gr e d t) (h : e ≤ e') (k : d ≤ d') : Gr e' d' t := ⟨g.ok, g.rg, by have := g.dep; omega, by have := g.dn; omega⟩
theorem Gr.of {h : Hd} {ps : List Tr} {e d e' d' : Nat} (al : ∀ t ∈ ps, Gr e d t) (o : hok h ps.length) (g : rgH h ps.length) (r : recH h ps) (l : ps.length ≤ 11) (e1 : e + 1 ≤ e') (e2 : dnH h (1 + d) ≤ 1 + d') : Gr e' d' (.mk h ps) :=
  ⟨⟨o, l, oks_iff.mpr fun t m => (al t m).ok⟩, ⟨g, r, rgs_iff.mpr fun t m => (al t m).rg⟩,
   Nat.le_trans (dep_mk.mpr fun t m => (al t m).dep) (by omega), Nat.le_trans (dnH_mono (dns_le.mpr fun t m => (al t m).dn)) e2⟩
theorem gr_one {e d : Nat} {t : Tr} (g : Gr e d t) : ∀ u ∈ [t], Gr e d u := fun u m => by rw [List.mem_singleton.mp m]; exact g
theorem gr_snoc {e d : Nat} {ts : List Tr} {t : Tr} (al : ∀ u ∈ ts, Gr e d u) (g : Gr e d t) : ∀ u ∈ ts ++ [t], Gr e d u := fun u m => by
  rcases List.mem_append.mp m with m | m
  · exact al u m
  · rw [List.mem_singleton.mp m]; exact g
theorem gr_cons {e d : Nat} {ts : List Tr} {t : Tr} (g : Gr e d t) (al : ∀ u ∈ ts, Gr e d u) : ∀ u ∈ t :: ts, Gr e d u := fun u m => by
  rcases List.mem_cons.mp m with rfl | m
  · exact g
  · exact al u m
theorem gr_num {i : Int} (h : i.natAbs ≤ 1000000000) : Gr 0 0 (.mk (.num i) []) := ⟨⟨rfl, Nat.zero_le _, trivial⟩, ⟨h, trivial, trivial⟩, Nat.le_refl _, Nat.zero_le _⟩
theorem gr_name {x : Str} (h : nmOk x) : Gr 0 0 (.mk (.name x) []) := ⟨⟨⟨rfl, h.1⟩, Nat.zero_le _, trivial⟩, ⟨h, trivial, trivial⟩, Nat.le_refl _, Nat.zero_le _⟩
theorem gr_lit {w : Str} (h : w ∈ litW) : Gr 0 0 (.mk (.lit w) []) := ⟨⟨⟨rfl, h⟩, Nat.zero_le _, trivial⟩, ⟨trivial, trivial, trivial⟩, Nat.le_refl _, Nat.le_refl _⟩
def GrF (e d : Nat) (t : Tr) : Prop := Gr e d t ∧ isFnT t = true
/-- a comprehension of drawn trees, measured by their length and their funs -/
theorem lc_genM {K : PySem.W.Frag} {h c r : Addr} {k : Nat} {I : It} {n : Nat} {G : Hp → Prop} {Y : Nat → Hp → V → Hp → Prop} (wk : Walk I n G Y) {g : TG} {te : TE} {vs : List Nat} {σ : L2.St} {H1 : Hp} {D : Addr} {Qd : Hp → Prop}
    (F : List Tr → List PyData) (E : Nat → Tr → PyData) (Pt : Tr → Prop) (c1 c2 : Nat) (F0 : F [] = []) (FS : ∀ ts t, ts.length < n → F (ts ++ [t]) = F ts ++ [E ts.length t]) (Fl : ∀ ts, flatDs (F ts) = true)
    (x0 : Gn H1 h c r k) (hD : H1 D = Option.none) (hn : n ≤ 100000) (hG : ∀ H, Kr h r H1 H → G H)
    (hs : ∀ i x k1 H H', i < n → Kr h r H1 H → Gn H h c r k1 → Y i H x H' → ∀ Q1 : VK, (∀ v t k2 H4, Kr h r H H4 → Gn H4 h c r k2 → Dp K H4 v (E i t) → Pt t → (t.lw + 180 * k2 ≤ c1 + 180 * k1 ∧ t.fw + 2 * k2 ≤ c2 + 2 * k1) → Q1 v H4) →
      g x (wipe σ vs) H' fun σ2 H2 => wipe σ2 vs = wipe σ vs ∧ te σ2 H2 Q1)
    (hd : ∀ H acc ts k1, Kr h r H1 H → Gn H h c r k1 → H D = some (.lst acc) → DpAll K H acc (F ts) → ts.length = n → (∀ t ∈ ts, Pt t) → (Tr.lws ts + 180 * k1 ≤ c1 * n + 180 * k ∧ Tr.fws ts + 2 * k1 ≤ c2 * n + 2 * k) → Qd H) :
    ∃ W : Nat → Nat → Hp → Prop, (∃ m, W 0 m (upd H1 D (.lst []))) ∧ ∀ i m H, W i m H →
      (I.stop i H ∧ Qd H) ∨ (I.go i H ∧ ∃ Nx : Hp → Prop, (∀ H', Nx H' → ∃ m', m' < m ∧ W (i + 1) m' H') ∧ ∀ x H', I.yld i H x H' → g x (wipe σ vs) H' fun σ2 H2 => wipe σ2 vs = wipe σ vs ∧ tYes σ2 H2 fun b H3 =>
        if b = true then te σ2 H3 fun y H4 => ∃ acc, H4 D = some (.lst acc) ∧ acc.length < sizeLine ∧ Nx (upd H4 D (.lst (acc ++ [y]))) else Nx H3) := by
  have nD := x0.hand.there hD
  have nDr : D ≠ r := (ne_of_none x0.rm hD).symm
  refine lc_drawJ (K := K) (M := fun a => a = h ∨ a = r) wk (fun i ds H => ∃ ts k1, ds = F ts ∧ Gn H h c r k1 ∧ ts.length = i ∧ (∀ t ∈ ts, Pt t) ∧ Tr.lws ts + 180 * k1 ≤ c1 * i + 180 * k ∧ Tr.fws ts + 2 * k1 ≤ c2 * i + 2 * k) x0.lists
    ⟨[], k, F0.symm, (x0.same (same_new hD)).1, rfl, (fun _ m => by cases m), (by show 0 + 180 * k ≤ c1 * 0 + 180 * k; omega), (by show 0 + 2 * k ≤ c2 * 0 + 2 * k; omega)⟩ (fun i ds H ys _ j => ?_) hD hn (fun _ _ H kk _ => hG H kk) (fun i ds H j => ?_) ?_ ?_
  · obtain ⟨ts, k1, a1, a2, a3⟩ := j
    exact ⟨ts, k1, a1, a2.puts nD.1 nD.2 nDr, a3⟩
  · obtain ⟨ts, k1, rfl, _⟩ := j
    exact Fl ts
  · rintro i x ds H H' hi kk ⟨ts, k1, rfl, a2, a3, a4, a5, a6⟩ y Q1 Q0 q1 q0
    refine hs i x k1 H H' hi kk a2 y Q1 fun v t k2 H4 k4 x4 hv ok sz => ?_
    obtain ⟨sz1, sz2⟩ := sz
    refine q1 v H4 (E i t) k4 ⟨ts ++ [t], k2, ?_, x4, ?_, ?_, ?_, ?_⟩ hv
    · rw [FS ts t (by omega), a3]
    · rw [List.length_append, a3]; rfl
    · intro u hu
      rcases List.mem_append.mp hu with hu | hu
      · exact a4 u hu
      · cases List.mem_singleton.mp hu
        exact ok
    · rw [lws_app, Nat.mul_succ]
      show Tr.lws ts + (t.lw + 0) + 180 * k2 ≤ _
      omega
    · rw [fws_app, Nat.mul_succ]
      show Tr.fws ts + (t.fw + 0) + 2 * k2 ≤ _
      omega
  · rintro H acc ds kk ⟨ts, k1, rfl, a2, a3, a4, a5⟩ hacc ha
    exact hd H acc ts k1 kk a2 hacc ha a3 a4 a5
end Cm

namespace K00
open PySem L2 Cm
def spLeaf (K : PySem.W.Frag) : Sp := fun vs H Q _ => ∃ (h c nm : Addr) (names : List Str), vs = [.ref h, .ref nm] ∧ Hand H h c ∧ SqT K H nm (names.map V.str) ∧ names ≠ [] ∧ names.length ≤ 10 ∧ (∀ x ∈ names, nmOk x) ∧
  ∀ (v : V) (t : Tr) (H' : Hp), Kh h H H' → Hand H' h c → Dp K H' v t.enc → Gr 0 0 t → (t.lw ≤ 15 ∧ t.fw = 0) → Q v H'
section
variable {P : Program} {w : World} {K : PySem.W.Frag} {mg : Str → Option Value} {base : Heap}
abbrev s_l_any_leaf : Stmt := top 52
abbrev N_l_any_leaf : List Str := ["_law_hand_here", "_law_names", "_law_pick_here", "_law_number"]
theorem sc_l_any_leaf : FnScope N_l_any_leaf ["_law_hand_here", "_law_names"] (defScope s_l_any_leaf) := ⟨rfl, rfl, rfl, by decide +kernel, rfl, by decide +kernel, by decide +kernel⟩
theorem ok_any_leaf (c_l_draw : Cl P w K mg base 2 "_law_draw" spDraw) (c_l_pick : Cl P w K mg base 3 "_law_pick" (spPick K)) (D : At K mg "_law_any_leaf" s_l_any_leaf ["_law_hand_here", "_law_names"]) :
    Cl P w K mg base 4 "_law_any_leaf" (spLeaf K) := by
  refine cl_of D sc_l_any_leaf (fun vs H Q E h => ?_) fun f cdv A outer s H vs Q E hr h => ?_
  · obtain ⟨h, c, nm, names, rfl, _⟩ := h
    rfl
  · obtain ⟨h, c, nm, names, rfl, hh, hn, hne, hnl, hso, k⟩ := h
    refine ⟨_, (pss_cons (ps_set (i := 2) sc_l_any_leaf.nd rfl (Or.inl rfl) (pe_c c_l_draw hr (by decide) (by rfl) (pa_cons (pv 0) (pa_cons pe_int pa_nil))))
      (pss_cons (ps_if (pt_cmpR op_lt (pv 2) pe_int (nomark _))
        (pss_one (ps_ret (pe_tup (pa_cons pe_str (pa_cons (pe_c c_l_pick hr (by decide) (by rfl) (pa_cons (pv 0) (pa_cons (pv 1) pa_nil))) pa_nil)))))
        pss_nil)
      (pss_cons (ps_if (pt_cmpR op_lt (pv 2) pe_int (nomark _))
        (pss_mid (ps_set (i := 3) sc_l_any_leaf.nd rfl (Or.inl rfl) (pe_ix ix_tup (pe_tup (pa_cons pe_int (pa_cons (pe_op op_pow pe_int pe_int) (pa_cons (pe_c c_l_draw hr (by decide) (by rfl) (pa_cons (pv 0) (pa_cons pe_int pa_nil))) (pa_cons (pe_c c_l_draw hr (by decide) (by rfl) (pa_cons (pv 0) (pa_cons (pe_op op_add (pe_op op_pow pe_int pe_int) pe_int) pa_nil))) pa_nil))))) (pe_c c_l_draw hr (by decide) (by rfl) (pa_cons (pv 0) (pa_cons pe_int pa_nil))) (fun _ _ => rfl)))
        (pss_one (ps_ret (pe_tup (pa_cons pe_str (pa_cons (pe_ifExp (pt_cmpR op_eq (pe_c c_l_draw hr (by decide) (by rfl) (pa_cons (pv 0) (pa_cons pe_int pa_nil))) pe_int (nomark _)) (pe_un un_neg (pv 3)) (pv 3)) pa_nil))))))
        pss_nil)
      (pss_one (ps_ret (pe_ix ix_tup (pe_ix ix_tup (pe_tup (pa_cons (pe_tup (pa_cons (pe_tup (pa_cons pe_str pa_nil)) (pa_cons (pe_tup (pa_cons pe_str pa_nil)) (pa_cons (pe_tup (pa_cons pe_str pa_nil)) pa_nil)))) (pa_cons (pe_tup (pa_cons (pe_tup (pa_cons pe_str pa_nil)) (pa_cons (pe_tup (pa_cons pe_str pa_nil)) (pa_cons (pe_tup (pa_cons pe_str pa_nil)) pa_nil)))) pa_nil))) (pe_c c_l_draw hr (by decide) (by rfl) (pa_cons (pv 0) (pa_cons pe_int pa_nil))) (fun _ _ => rfl)) (pe_op op_sub (pv 2) pe_int) (fun _ _ => rfl))))))), ?_⟩
    refine ⟨_, rfl, h, c, _, rfl, hh, by decide, by decide, fun n H1 n0 n1 k1 hh1 => ?_⟩
    refine ⟨_, rfl, _, _, rfl, rfl, _, rfl, ?_⟩
    refine ite2 (fun _ => ?_) (fun q3 => ?_)
    · refine ⟨_, rfl, _, rfl, h, c, nm, _, rfl, hh1, .inr (k1.tup hn), ?_, by rw [List.length_map]; omega, fun v H2 hv k2 hh2 => ?_⟩
      · intro e
        exact hne (List.map_eq_nil_iff.mp e)
      obtain ⟨x, hx, rfl⟩ := List.mem_map.mp hv
      refine ⟨by show 2 ≤ sizeLine; decide, fun t ht => ?_⟩
      have s3 := same_new (o := .tup [.str "name", .str x]) ht
      exact k _ (.mk (.name x) []) _ ((k1.trans k2).trans (hh2.kh s3)) (hh2.same s3) (unview (ds := []) (h := .name x) (.inl (.inl upd_same)) rfl) (gr_name (hso x hx)) ⟨Nat.le_refl _, rfl⟩
    refine ⟨_, rfl, _, _, rfl, rfl, _, rfl, ?_⟩
    refine ite2 (fun _ => ?_) (fun q6 => ?_)
    · refine ⟨fun σ' H' => ∃ m : Int, σ' = [some (.ref h), some (.ref nm), some (.int n), some (.int m)] ∧ m.natAbs ≤ 1000000000 ∧ Kh h H H' ∧ Hand H' h c, ?_, ?_⟩
      · refine ⟨_, _, rfl, rfl, ⟨by decide, by decide, by decide⟩, ?_⟩
        refine ⟨_, rfl, h, c, _, rfl, hh1, by decide, by decide, fun a2 H2 q20 q21 k2 hh2 => ?_⟩
        refine ⟨_, rfl, _, _, rfl, rfl, ⟨by decide, by decide, by decide⟩, _, _, rfl, rfl, h, c, _, rfl, hh2, by decide, by decide, fun a3 H3 q30 q31 k3 hh3 => ?_⟩
        refine ⟨by show 4 ≤ sizeLine; decide, fun t ht => ?_⟩
        have s4 := same_new (o := .tup [.int 0, .int ((10 : Int) ^ (9 : Int).toNat), .int a2, .int a3]) ht
        refine ⟨_, rfl, h, c, _, rfl, hh3.same s4, by decide, by decide, fun j H5 j0 j1 k5 hh5 => ?_⟩
        have p9 : ((10 : Int) ^ (9 : Int).toNat) = 1000000000 := by decide
        have hall : ∃ m : Int, m.natAbs ≤ 1000000000 ∧ atI [V.int 0, V.int ((10 : Int) ^ (9 : Int).toNat), .int a2, .int a3] j = some (.int m) := by
          have : j = 0 ∨ j = 1 ∨ j = 2 ∨ j = 3 := by omega
          rcases this with rfl | rfl | rfl | rfl
          · exact ⟨_, by decide, atI_nat (j := 0) rfl⟩
          · exact ⟨_, by rw [p9]; decide, atI_nat (j := 1) rfl⟩
          · exact ⟨_, by omega, atI_nat (j := 2) rfl⟩
          · exact ⟨_, by rw [p9] at q31; omega, atI_nat (j := 3) rfl⟩
        obtain ⟨m, hm, em⟩ := hall
        exact ⟨t, _, _, _, rfl, rfl, k5.tup (.inl (.inl upd_same)), em, m, rfl, hm, (((k1.trans k2).trans k3).trans (hh3.kh s4)).trans k5, hh5⟩
      · rintro σ' H2 ⟨m, rfl, hm, k2, hh2⟩
        refine ⟨_, rfl, h, c, _, rfl, hh2, by decide, by decide, fun j H3 _ _ k3 hh3 => ?_⟩
        refine ⟨rfl, _, rfl, ?_⟩
        have fin : ∀ i : Int, i.natAbs ≤ 1000000000 → 2 ≤ sizeLine ∧ ∀ p, H3 p = none → Q (.ref p) (upd H3 p (.tup [.str "number", .int i])) := fun i hi => ⟨by decide, fun t ht => (by
          have s4 := same_new (o := .tup [.str "number", .int i]) ht
          exact k _ (.mk (.num i) []) _ ((k2.trans k3).trans (hh3.kh s4)) (hh3.same s4) (unview (ds := []) (h := .num i) (.inl (.inl upd_same)) rfl) (gr_num hi) ⟨Nat.le_of_ble_eq_true rfl, rfl⟩)⟩
        refine ite2 (fun _ => ?_) (fun _ => ?_)
        · exact ⟨_, rfl, _, rfl, fin _ (by omega)⟩
        · exact ⟨_, rfl, fin _ hm⟩
    · have c3 : (n = 6 ∨ n = 7 ∨ n = 8) := by
        have : ¬ n < 6 := fun z => q6 (decide_eq_true z)
        omega
      refine ⟨by show 1 ≤ sizeLine; decide, fun t1 ht1 => ⟨by show 1 ≤ sizeLine; decide, fun t2 ht2 => ⟨by show 1 ≤ sizeLine; decide, fun t3 ht3 => ⟨by show 3 ≤ sizeLine; decide, fun t4 ht4 =>
        ⟨by show 1 ≤ sizeLine; decide, fun t5 ht5 => ⟨by show 1 ≤ sizeLine; decide, fun t6 ht6 => ⟨by show 1 ≤ sizeLine; decide, fun t7 ht7 => ⟨by show 3 ≤ sizeLine; decide, fun t8 ht8 => ⟨by show 2 ≤ sizeLine; decide, fun t9 ht9 => ?_⟩⟩⟩⟩⟩⟩⟩⟩⟩
      have u1 := same_new (o := .tup [.str "true"]) ht1
      have u2 := same_new (o := .tup [.str "false"]) ht2
      have u3 := same_new (o := .tup [.str "none"]) ht3
      have u4 := same_new (o := .tup [.ref t1, .ref t2, .ref t3]) ht4
      have u5 := same_new (o := .tup [.str "ask"]) ht5
      have u6 := same_new (o := .tup [.str "none"]) ht6
      have u7 := same_new (o := .tup [.str "true"]) ht7
      have u8 := same_new (o := .tup [.ref t5, .ref t6, .ref t7]) ht8
      have u9 := same_new (o := .tup [.ref t4, .ref t8]) ht9
      have v8 := u9
      have v7 := u8.trans v8
      have v6 := u7.trans v7
      have v5 := u6.trans v6
      have v4 := u5.trans v5
      have v3 := u4.trans v4
      have v2 := u3.trans v3
      have v1 := u2.trans v2
      have S9 := u1.trans v1
      have e1 := v1 _ _ upd_same
      have e2 := v2 _ _ upd_same
      have e3 := v3 _ _ upd_same
      have e4 := v4 _ _ upd_same
      have e5 := v5 _ _ upd_same
      have e6 := v6 _ _ upd_same
      have e7 := v7 _ _ upd_same
      have e8 := v8 _ _ upd_same
      have hh9 := hh1.same S9
      have k9 := k1.trans (hh1.kh S9)
      have e9 : (upd _ t9 (.tup [.ref t4, .ref t8])) t9 = some (.tup [.ref t4, .ref t8]) := upd_same (H := upd (upd (upd (upd (upd (upd (upd (upd H1 t1 (.tup [.str "true"])) t2 (.tup [.str "false"])) t3 (.tup [.str "none"])) t4 (.tup [.ref t1, .ref t2, .ref t3])) t5 (.tup [.str "ask"])) t6 (.tup [.str "none"])) t7 (.tup [.str "true"])) t8 (.tup [.ref t5, .ref t6, .ref t7]))
      clear u1 u2 u3 u4 u5 u6 u7 u8 u9 v1 v2 v3 v4 v5 v6 v7 v8 S9
      generalize upd (upd (upd (upd (upd (upd (upd (upd (upd H1 t1 (.tup [.str "true"])) t2 (.tup [.str "false"])) t3 (.tup [.str "none"])) t4 (.tup [.ref t1, .ref t2, .ref t3])) t5 (.tup [.str "ask"])) t6 (.tup [.str "none"])) t7 (.tup [.str "true"])) t8 (.tup [.ref t5, .ref t6, .ref t7])) t9 (.tup [.ref t4, .ref t8]) = H9 at *
      refine ⟨_, rfl, h, c, _, rfl, hh9, by decide, by decide, fun j HA j0 j1 kA hhA => ?_⟩
      have tp : ∀ {a : Addr} {xs : List V}, H9 a = some (.tup xs) → SqT K HA a xs := fun e => kA.tup (.inl (.inl e))
      have fin : ∀ (a : Addr) (w : Str), SqT K HA a [.str w] → w ∈ litW → Q (.ref a) HA := fun a w hs hw =>
        k _ (.mk (.lit w) []) _ (k9.trans kA) hhA (unview (ds := []) (h := .lit w) hs rfl) (gr_lit hw) ⟨Nat.le_of_ble_eq_true rfl, rfl⟩
      have hj : j = 0 ∨ j = 1 := by omega
      rcases hj with rfl | rfl
      · refine ⟨t9, _, _, _, rfl, rfl, tp e9, atI_nat (j := 0) rfl, _, rfl, _, _, rfl, rfl, ?_⟩
        rcases c3 with rfl | rfl | rfl
        · exact ⟨t4, _, _, _, rfl, rfl, tp e4, atI_nat (j := 0) rfl, fin t1 _ (tp e1) (by decide +kernel)⟩
        · exact ⟨t4, _, _, _, rfl, rfl, tp e4, atI_nat (j := 1) rfl, fin t2 _ (tp e2) (by decide +kernel)⟩
        · exact ⟨t4, _, _, _, rfl, rfl, tp e4, atI_nat (j := 2) rfl, fin t3 _ (tp e3) (by decide +kernel)⟩
      · refine ⟨t9, _, _, _, rfl, rfl, tp e9, atI_nat (j := 1) rfl, _, rfl, _, _, rfl, rfl, ?_⟩
        rcases c3 with rfl | rfl | rfl
        · exact ⟨t8, _, _, _, rfl, rfl, tp e8, atI_nat (j := 0) rfl, fin t5 _ (tp e5) (by decide +kernel)⟩
        · exact ⟨t8, _, _, _, rfl, rfl, tp e8, atI_nat (j := 1) rfl, fin t6 _ (tp e6) (by decide +kernel)⟩
        · exact ⟨t8, _, _, _, rfl, rfl, tp e8, atI_nat (j := 2) rfl, fin t7 _ (tp e7) (by decide +kernel)⟩
end
end K00

namespace K00
open PySem L2 Cm
def spNames (K : PySem.W.Frag) : Sp := fun vs H Q _ => ∃ (h c nm : Addr) (names : List Str) (most : Int), vs = [.ref h, .ref nm, .int most] ∧ Hand H h c ∧ SqT K H nm (names.map V.str) ∧ names.length ≤ 10 ∧ 0 ≤ most ∧ most ≤ 20 ∧
  ∀ (r : Addr) (xs : List Str) (H' : Hp), Kh h H H' → Hand H' h c → SqT K H' r (xs.map V.str) → (xs.length : Int) ≤ most → (∀ x ∈ xs, x ∈ names) → Q (.ref r) H'
theorem ixn_at {n m : Nat} (h : m < n) : ixN n ((m : Nat) : Int) = some m := by
  unfold ixN
  have h1 : ((m : Nat) : Int) < (n : Int) := by omega
  simp [h1]
  try omega
theorem map_erase {α β : Type} (f : α → β) : ∀ (xs : List α) (j : Nat), (xs.map f).eraseIdx j = (xs.eraseIdx j).map f
  | [], _ => rfl
  | _ :: _, 0 => rfl
  | x :: xs, j + 1 => by
    show f x :: (xs.map f).eraseIdx j = f x :: (xs.eraseIdx j).map f
    rw [map_erase f xs j]
theorem all_strs {K : PySem.W.Frag} {H : Hp} {P : Str → Prop} : ∀ {acc : List V} {ds : List PyData}, DpAll K H acc ds → (∀ d ∈ ds, ∃ x : Str, d = .str x ∧ P x) → ∃ xs : List Str, acc = xs.map V.str ∧ ds = xs.map PyData.str ∧ ∀ x ∈ xs, P x
  | _, _, .nil, _ => ⟨[], rfl, rfl, fun _ h => by cases h⟩
  | _, _, .cons a t, g => by
    obtain ⟨b, rfl, hb⟩ := g _ List.mem_cons_self
    obtain ⟨xs, rfl, rfl, hf⟩ := all_strs t fun d hd => g d (List.mem_cons_of_mem _ hd)
    cases a
    exact ⟨b :: xs, rfl, rfl, fun x hx => by
      rcases List.mem_cons.mp hx with rfl | hx
      · exact hb
      · exact hf x hx⟩
section
variable {P : Program} {w : World} {K : PySem.W.Frag} {mg : Str → Option Value} {base : Heap}
abbrev s_l_any_names : Stmt := top 53
abbrev N_l_any_names : List Str := ["_law_hand_here", "_law_names", "_law_most", "_law_left", "_law_name_here", "_law_many", "_law_k"]
theorem sc_l_any_names : FnScope N_l_any_names ["_law_hand_here", "_law_names", "_law_most"] (defScope s_l_any_names) := ⟨rfl, rfl, rfl, by decide +kernel, rfl, by decide +kernel, by decide +kernel⟩
theorem ok_any_names (T : Txt mg) (c_l_draw : Cl P w K mg base 2 "_law_draw" spDraw) (D : At K mg "_law_any_names" s_l_any_names ["_law_hand_here", "_law_names", "_law_most"]) : Cl P w K mg base 3 "_law_any_names" (spNames K) := by
  refine cl_of D sc_l_any_names (fun vs H Q E h => ?_) fun f cdv A outer s H vs Q E hr h => ?_
  · obtain ⟨h, c, nm, names, most, rfl, _⟩ := h
    rfl
  · obtain ⟨h, c, nm, names, most, rfl, hh, hn, hnl, hm0, hm1, k⟩ := h
    refine ⟨_, (pss_cons (ps_set (i := 3) sc_l_any_names.nd rfl (Or.inr rfl) (pe_lst pa_nil))
      (pss_cons (ps_for PassesOwn.never rfl (pi_tup (pv 1)) (pg_name (i := 4) sc_l_any_names.nd rfl (Or.inl rfl))
        (pss_one (ps_if (pt_cmpR op_notIn_seq (pv 4) (pv 3) (by rfl))
          (pss_one (ps_expr (pe_bm PySem.F.plainAttrs_list PySem.F.slot_list_append PySem.F.type_list_append mt_append (pv 3) (pa_cons (pv 4) pa_nil))))
          pss_nil)))
      (pss_cons (ps_set (i := 5) sc_l_any_names.nd rfl (Or.inl rfl) (pe_callB (call_min2 rfl) (by rfl) T.min (by decide +kernel) (pa_cons (pe_c c_l_draw hr (by decide) (by rfl) (pa_cons (pv 0) (pa_cons (pe_op op_add (pv 2) pe_int) pa_nil))) (pa_cons (pe_callB call_len_seq (by rfl) T.len (by decide +kernel) (pa_cons (pv 3) pa_nil)) pa_nil))))
      (pss_one (ps_ret (pe_tupleOf (by rfl) T.tuple (pe_lc (own := [("_law_k", 6)]) rfl sc_l_any_names.nd (pi_range1 (by rfl) T.range (pa_cons (pv 5) pa_nil)) (blkOk_by (N := N_l_any_names) (sc := defScope s_l_any_names) (by decide +kernel))
      (fun _ _ _ _ _ => (pg_name (i := 6) sc_l_any_names.nd rfl (Or.inl rfl)))
      (fun _ _ _ _ _ => pts_nil)
      (fun _ _ _ _ _ => (ke_bm (K := K) PySem.F.plainAttrs_list PySem.F.slot_list_pop PySem.F.type_list_pop mt_popAt (pv 3) (pa_cons (pe_c c_l_draw hr (by decide) (by rfl) (pa_cons (pv 0) (pa_cons (pe_callB (kc_len (K := K)) (by rfl) T.len (by decide +kernel) (pa_cons (pv 3) pa_nil)) pa_nil))) pa_nil)))))))))), ?_⟩
    refine ⟨by show 0 ≤ sizeLine; decide, fun L hL => ?_⟩
    have s0 := same_new (o := .lst []) hL
    have hh0 := hh.same s0
    have nL := hh.there hL
    refine ⟨_, rfl, nm, rfl, ⟨_, sqt_same s0 hn⟩, ?_⟩
    refine for_it (walk_tup (xs := names.map V.str)) (fun i σ H' => ∃ (ls : List Str) (v4 : Option V), σ = [some (.ref h), some (.ref nm), some (.int most), some (.ref L), v4, none, none] ∧ Same H H' ∧ H' L = some (.lst (ls.map V.str)) ∧ (∀ x ∈ ls, x ∈ names) ∧ ls.length ≤ i)
      ⟨[], none, rfl, s0, upd_same, fun _ h => (by cases h), Nat.le_refl _⟩ (fun i σ H' _ z => ?_) ?_ ?_
    · obtain ⟨_, _, _, z, _⟩ := z
      exact sqt_same z hn
    · rintro i x σ H1 H2 hi ⟨ls, v4, rfl, s1, hL1, hls, hll⟩ ⟨rfl, e2⟩
      obtain ⟨y, ey, rfl⟩ := map_at e2
      rw [List.length_map] at hi
      refine ⟨_, rfl, _, rfl, L, _, rfl, .inl (.inl (.inl hL1)), rfl, flat_strV ls, _, rfl, ?_⟩
      refine ite2 (fun _ => ?_) (fun _ => ⟨ls, _, rfl, s1, hL1, hls, by omega⟩)
      refine ⟨_, rfl, .inl ⟨rfl, _, .inl (.inl hL1)⟩, _, rfl, L, _, _, rfl, rfl, hL1, ?_, ls ++ [y], _, rfl, same_put s1 hL, ?_, ?_, ?_⟩
      · rw [List.length_map]
        exact Nat.lt_of_le_of_lt (show ls.length ≤ 10 by omega) (by decide)
      · rw [upd_same, List.map_append]
        rfl
      · intro x hx
        rcases List.mem_append.mp hx with hx | hx
        · exact hls x hx
        · cases List.mem_singleton.mp hx
          exact List.mem_of_getElem? ey
      · rw [List.length_append]
        exact Nat.succ_le_succ hll
    · rintro σ H1 ⟨ls, v4, rfl, s1, hL1, hls, hll⟩
      rw [List.length_map] at hll
      have hh1 := hh.same s1
      refine ⟨_, rfl, _, rfl, _, _, rfl, rfl, h, c, _, rfl, hh1, by omega, Int.lt_of_le_of_lt (show most + 1 ≤ 21 by omega) (by decide), fun m H2 m0 m1 k2 hh2 => ?_⟩
      have hL2 : H2 L = some (.lst (ls.map V.str)) := k2.st _ _ nL.1 hL1
      refine ⟨_, rfl, L, _, rfl, .inl (.inl (.inl hL2)), _, _, rfl, ?_⟩
      rw [List.length_map]
      show gName 5 (V.int (if ((ls.length : Nat) : Int) < m then ((ls.length : Nat) : Int) else m)) _ _ _
      have hmm : ∃ mm : Nat, (if ((ls.length : Nat) : Int) < m then ((ls.length : Nat) : Int) else m) = (mm : Int) ∧ mm ≤ ls.length ∧ (mm : Int) ≤ most := by
        split
        · exact ⟨ls.length, rfl, Nat.le_refl _, by omega⟩
        · exact ⟨m.toNat, by omega, by omega, by omega⟩
      obtain ⟨mm, em, h1, h2⟩ := hmm
      rw [em]
      refine ⟨_, rfl, _, rfl, by omega, by omega, fun D hD => ?_⟩
      have nD := hh2.there hD
      have nDL : L ≠ D := ne_of_none hL2 hD
      have K2 : Kp (fun a => a = h ∨ a = L) H2 H2 := Kp.refl fun a ha => by
        rcases ha with rfl | rfl
        · exact hh2.lst
        · exact ⟨_, hL2⟩
      refine lc_drawJ (K := K) (M := fun a => a = h ∨ a = L) (walk_range (lo := 0) (n := mm)) (fun i ds H' => Hand H' h c ∧ ∃ ls' : List Str, H' L = some (.lst (ls'.map V.str)) ∧ (∀ x ∈ ls', x ∈ names) ∧ ls'.length + i = ls.length ∧ ds.length = i ∧ ∀ d ∈ ds, ∃ x : Str, d = .str x ∧ x ∈ names)
        K2.l1 ⟨hh2.same (same_new hD), ls, (same_new hD) _ _ hL2, hls, rfl, rfl, fun _ h => (by cases h)⟩ (fun i ds H' ys kk j => ?_) hD (by omega) (fun _ _ _ _ _ => trivial) (fun i ds H' j => ?_) ?_ ?_
      · obtain ⟨a, ls', b1, b2, b3, b4, b5⟩ := j
        exact ⟨a.puts nD.1 nD.2, ls', by rw [upd_ne nDL]; exact b1, b2, b3, b4, b5⟩
      · obtain ⟨_, _, _, _, _, _, b5⟩ := j
        exact flatDs_of _ fun d hd => by
          obtain ⟨x, rfl, _⟩ := b5 d hd
          rfl
      · rintro i x ds H3 H4 hi k3 ⟨hh3, ls', hL3, b2, b3, b4, b5⟩ ⟨rfl, rfl⟩ Q1 Q0 q1 q0
        refine ⟨rfl, ?_⟩
        have hpos : 0 < ls'.length := by omega
        refine ⟨_, rfl, .inl ⟨rfl, _, .inl (.inl hL3)⟩, _, rfl, _, rfl, L, _, rfl, .inl (.inl (.inl hL3)), h, c, _, rfl, hh3, by rw [List.length_map]; omega, ?_, fun j H5 j0 j1 k5 hh5 => ?_⟩
        · rw [List.length_map]
          exact Int.lt_of_le_of_lt (show (ls'.length : Int) ≤ 10 by omega) (by decide)
        rw [List.length_map] at j1
        obtain ⟨jj, rfl⟩ : ∃ jj : Nat, j = (jj : Int) := ⟨j.toNat, by omega⟩
        have hjj : jj < ls'.length := by omega
        have hL5 : H5 L = some (.lst (ls'.map V.str)) := k5.st _ _ nL.1 hL3
        refine ⟨L, _, _, jj, .str ls'[jj], rfl, rfl, hL5, by omega, by omega, ?_, ?_, ?_⟩
        · rw [List.length_map]
          exact (ixN_seq (ixn_at hjj)).1
        · rw [List.getElem?_map, List.getElem?_eq_getElem hjj]
          rfl
        have kp : Kp (fun a => a = h ∨ a = L) H4 (upd H5 L (.lst ((ls'.map V.str).eraseIdx jj))) := by
          have w1 : Kp (fun a => a = h ∨ a = L) H4 H5 := k5.wider (fun a ha => .inl ha) fun a ha => by
            rcases ha with rfl | rfl
            · exact hh3.lst
            · exact ⟨_, hL3⟩
          exact w1.trans (Kp.put w1.l2 (.inr rfl))
        refine q1 _ _ (.str ls'[jj]) kp ⟨hh5.puts nL.1 nL.2, ls'.eraseIdx jj, ?_, fun x hx => b2 x (List.mem_of_mem_eraseIdx hx), ?_, ?_, ?_⟩ (.str _)
        · rw [upd_same, map_erase]
        · rw [List.length_eraseIdx_of_lt hjj]
          omega
        · rw [List.length_append, List.length_singleton, b4]
        · intro d hd
          rcases List.mem_append.mp hd with hd | hd
          · exact b5 d hd
          · cases List.mem_singleton.mp hd
            exact ⟨_, rfl, b2 _ (List.getElem_mem hjj)⟩
      · rintro H3 acc ds k3 ⟨hh3, ls', hL3, b2, b3, b4, b5⟩ hacc ha
        obtain ⟨xs, rfl, rfl, hx⟩ := all_strs ha b5
        refine .inl ⟨D, _, rfl, .inl (.inl hacc), fun t ht => ?_⟩
        have kall : Kh h H H3 := by
          have k02 : Kh h H H2 := (hh.kh s1).trans k2
          refine ⟨fun b o nb e => ?_, k02.l1, fun b hb => by subst hb; exact hh3.lst⟩
          have nbL : b ≠ L := ne_of_none e hL
          refine k3.st _ _ (fun z => ?_) (k02.st _ _ nb e)
          rcases z with z | z
          · exact nb z
          · exact nbL z
        refine k t xs _ (kall.trans (hh3.kh (same_new ht))) (hh3.same (same_new ht)) (.inl (.inl upd_same)) ?_ hx
        rw [List.length_map] at b4
        omega
end
end K00

namespace K00
open PySem L2 Cm
/-- a tree is drawn, less than n deep -/
def spAny (K : PySem.W.Frag) (n : Nat) : Sp := fun vs H Q _ => ∃ (h c nm r : Addr) (names : List Str) (k deep : Nat), vs = [.ref h, .int (deep : Nat), .ref nm, .ref r] ∧ Gn H h c r k ∧ SqT K H nm (names.map V.str) ∧ names ≠ [] ∧ names.length ≤ 10 ∧ (∀ x ∈ names, nmOk x) ∧ deep < n ∧
  ∀ (v : V) (t : Tr) (k' : Nat) (H' : Hp), Kr h r H H' → Gn H' h c r k' → Dp K H' v t.enc → Gr (2 * deep) (4 * deep) t → (t.lw + 180 * k' ≤ 15 + 180 * k ∧ t.fw + 2 * k' ≤ 0 + 2 * k) → Q v H'
def spFun (K : PySem.W.Frag) (n : Nat) : Sp := fun vs H Q _ => ∃ (h c nm r : Addr) (names : List Str) (k deep : Nat) (most : Nat), vs = [.ref h, .int ((deep + 1 : Nat) : Int), .ref nm, .ref r, .int (most : Nat)] ∧ Gn H h c r k ∧ SqT K H nm (names.map V.str) ∧ names ≠ [] ∧ names.length ≤ 10 ∧ (∀ x ∈ names, nmOk x) ∧ deep < n ∧ most ≤ 8 ∧
  ∀ (v : V) (t : Tr) (k' : Nat) (H' : Hp), Kr h r H H' → Gn H' h c r k' → Dp K H' v t.enc → GrF (1 + 2 * deep) (1 + 4 * deep) t → (t.lw + 180 * k' ≤ 27 + 13 * most + 180 * k ∧ t.fw + 2 * k' ≤ 1 + 2 * k) → Q v H'
theorem dec1 (d : Nat) : ((d + 1 : Nat) : Int) - 1 = ((d : Nat) : Int) := by omega
section
variable {P : Program} {w : World} {K : PySem.W.Frag} {mg : Str → Option Value} {base : Heap}
abbrev s_l_any_fun : Stmt := top 54
abbrev N_l_any_fun : List Str := ["_law_hand_here", "_law_deep", "_law_names", "_law_room", "_law_most", "_law_handed"]
theorem sc_l_any_fun : FnScope N_l_any_fun ["_law_hand_here", "_law_deep", "_law_names", "_law_room", "_law_most"] (defScope s_l_any_fun) := ⟨rfl, rfl, rfl, by decide +kernel, rfl, by decide +kernel, by decide +kernel⟩
theorem ok_any_fun {n lv : Nat} (hlv : 3 ≤ lv) (c_l_any_names : Cl P w K mg base 3 "_law_any_names" (spNames K)) (c_l_any : Cl P w K mg base lv "_law_any" (spAny K n)) (D : At K mg "_law_any_fun" s_l_any_fun ["_law_hand_here", "_law_deep", "_law_names", "_law_room", "_law_most"]) :
    Cl P w K mg base (lv + 1) "_law_any_fun" (spFun K n) := by
  refine cl_of D sc_l_any_fun (fun vs H Q E h => ?_) fun f cdv A outer s H vs Q E hr h => ?_
  · obtain ⟨h, c, nm, r, names, k, deep, most, rfl, _⟩ := h
    rfl
  · obtain ⟨h, c, nm, r, names, k, deep, most, rfl, x, hn, hne, hnl, hso, hdn, hm1, q⟩ := h
    refine ⟨_, (pss_cons (ps_set (i := 5) sc_l_any_fun.nd rfl (Or.inl rfl) (pe_c c_l_any_names hr hlv (by rfl) (pa_cons (pv 0) (pa_cons (pv 2) (pa_cons (pv 4) pa_nil)))))
      (pss_one (ps_ret (pe_tup (pa_cons pe_str (pa_cons (pv 5) (pa_cons (pe_c c_l_any hr (Nat.le_refl _) (by rfl) (pa_cons (pv 0) (pa_cons (pe_op op_sub (pv 1) pe_int) (pa_cons (pv 2) (pa_cons (pv 3) pa_nil))))) pa_nil))))))), ?_⟩
    refine ⟨_, rfl, _, rfl, _, rfl, h, c, nm, names, _, rfl, x.hand, hn, hnl, by omega, (by omega), fun rx xs H1 kh hh1 hrx hxl hxs => ?_⟩
    obtain ⟨x1, kr1⟩ := x.draw kh hh1
    refine ⟨_, rfl, _, rfl, _, rfl, _, _, rfl, rfl, _, rfl, _, rfl, h, c, nm, r, names, k, deep, ?_, x1, kr1.tup hn, hne, hnl, hso, hdn, fun v t k2 H2 kr2 x2 hv ok sz => ?_⟩
    · show [V.ref h, V.int (((deep + 1 : Nat) : Int) - 1), V.ref nm, V.ref r] = _
      rw [dec1]
    refine ⟨by show 3 ≤ sizeLine; decide, fun tt ht => ?_⟩
    have s3 := same_new (o := .tup [.str "fn", .ref rx, v]) ht
    obtain ⟨x3, kr3⟩ := x2.same s3
    refine q _ (.mk (.fn xs) [t]) k2 _ ((kr1.trans kr2).trans kr3) x3 ?_ ?_ ?_
    · exact unview (h := .fn xs) (ds := [t.enc]) (.inl (.inl upd_same)) ⟨rx, [v], rfl, sqt_same s3 (kr2.tup hrx), .cons (dp_same s3 _ _ hv) .nil⟩
    · exact ⟨Gr.of (gr_one ok) ⟨rfl, by omega, fun y hy => (hso y (hxs y hy)).1⟩ ⟨show xs.length ≤ 8 by omega, fun y hy => hso y (hxs y hy)⟩ trivial (by show 1 ≤ 11; decide) (by omega) (by show max 1 (1 + 4 * deep) + 1 ≤ _; omega), rfl⟩
    · show (9 + 13 * xs.length) + 3 + (t.lw + 0) + 180 * k2 ≤ _ ∧ 1 + (t.fw + 0) + 2 * k2 ≤ _
      omega
def genW : List Str := ["fn", "let", "rec", "set", "if", "do", "call", "op", "op", "keep", "once", "take", "mark", "wind", "show", "call"]
def opW : List Str := ["+", "-", "*", "quot", "rem", "<", "=", "same?", "pair", "left!", "right!", "left", "right", "pair?", "none?", "rest?", "fun?"]
def lastW : List Str := ["if", "do", "mark", "wind", "show"]
theorem genW_cases : ∀ w ∈ genW, w = "fn" ∨ w = "let" ∨ w = "rec" ∨ w ∈ oneW ∨ w = "op" ∨ w = "call" ∨ w ∈ lastW := by decide +kernel
theorem mem_str {ws : List Str} {v : V} (h : v ∈ ws.map V.str) : ∃ w, w ∈ ws ∧ v = .str w := by
  obtain ⟨w, hw, rfl⟩ := List.mem_map.mp h
  exact ⟨w, hw, rfl⟩
abbrev manyK (m : Nat) : List (Key × V) := [(Sum.inr "if", V.int 3), (Sum.inr "do", V.int (m : Nat)), (Sum.inr "mark", V.int 1), (Sum.inr "wind", V.int 3), (Sum.inr "show", V.int 1)]
def cntOk (y : Str) (m2 : Nat) : Prop := (y = "do" → 1 ≤ m2) ∧ (y ∈ plainW → m2 = (if y = "if" ∨ y = "wind" then 3 else 1))
theorem many_at {m : Nat} (hm : m ≤ 10) (hm1 : 1 ≤ m) : ∀ y ∈ lastW, ∃ m2 : Nat, m2 ≤ 10 ∧ cntOk y m2 ∧ valV (mergeK [] (manyK m)) (Sum.inr y) = some (.int (m2 : Nat)) := by
  intro y hy
  simp only [lastW, List.mem_cons, List.not_mem_nil, or_false] at hy
  rcases hy with rfl | rfl | rfl | rfl | rfl
  · exact ⟨3, by decide, ⟨fun z => absurd z (by decide +kernel), fun _ => by decide +kernel⟩, rfl⟩
  · exact ⟨m, hm, ⟨fun _ => hm1, fun z => absurd z (by decide +kernel)⟩, rfl⟩
  · exact ⟨1, by decide, ⟨fun z => absurd z (by decide +kernel), fun _ => by decide +kernel⟩, rfl⟩
  · exact ⟨3, by decide, ⟨fun z => absurd z (by decide +kernel), fun _ => by decide +kernel⟩, rfl⟩
  · exact ⟨1, by decide, ⟨fun z => absurd z (by decide +kernel), fun _ => by decide +kernel⟩, rfl⟩
abbrev s_l_any : Stmt := top 55
abbrev N_l_any : List Str := ["_law_hand_here", "_law_deep", "_law_names", "_law_room", "_law_word", "_law_bound", "_law_rows", "_law_name_here", "_law_op", "_law_many", "_law_k", "_law_called", "_law_inner"]
theorem sc_l_any : FnScope N_l_any ["_law_hand_here", "_law_deep", "_law_names", "_law_room"] (defScope s_l_any) := ⟨rfl, rfl, rfl, by decide +kernel, rfl, by decide +kernel, by decide +kernel⟩
theorem ok_any (T : Txt mg) (c_l_draw : Cl P w K mg base 2 "_law_draw" spDraw) (c_l_pick : Cl P w K mg base 3 "_law_pick" (spPick K)) (c_l_any_leaf : Cl P w K mg base 4 "_law_any_leaf" (spLeaf K)) (c_l_any_names : Cl P w K mg base 3 "_law_any_names" (spNames K))
    (DF : At K mg "_law_any_fun" s_l_any_fun ["_law_hand_here", "_law_deep", "_law_names", "_law_room", "_law_most"]) (D : At K mg "_law_any" s_l_any ["_law_hand_here", "_law_deep", "_law_names", "_law_room"]) :
    ∀ n, Cl P w K mg base (2 * n + 5) "_law_any" (spAny K n) := by
  intro n
  induction n with
  | zero =>
    refine cl_of D sc_l_any (fun vs H Q E h => ?_) fun f cdv A outer s H vs Q E hr h => ?_
    · obtain ⟨h, c, nm, r, names, k, deep, rfl, _⟩ := h
      rfl
    · obtain ⟨h, c, nm, r, names, k, deep, _, _, _, _, _, _, z, _⟩ := h
      exact absurd z (Nat.not_lt_zero _)
  | succ n ih =>
    have c_l_any_fun := ok_any_fun (by omega) c_l_any_names ih DF
    refine cl_of (k := 2 * n + 6) D sc_l_any (fun vs H Q E h => ?_) fun f cdv A outer s H vs Q E hr h => ?_
    · obtain ⟨h, c, nm, r, names, k, deep, rfl, _⟩ := h
      rfl
    · obtain ⟨h, c, nm, r, names, k, deep, rfl, x, hn, hne, hnl, hso, hdn, q⟩ := h
      have hu := hu_of hr
      refine ⟨_, (pss_cons (ps_if (PW.pt (pw_or (pt_cmpR op_le (pv 1) pe_int (nomark _)) (pw_or1 (pt_cmpR op_le (pe_ix ix_list (pv 3) pe_int (fun _ _ => rfl)) pe_int (nomark _)))))
        (pss_one (ps_ret (pe_c c_l_any_leaf hr (by omega) (by rfl) (pa_cons (pv 0) (pa_cons (pv 2) pa_nil)))))
        pss_nil)
      (pss_mid (ps_asg (pe_op op_sub (pe_ix ix_list (pv 3) pe_int (fun _ _ => rfl)) pe_int) (pg_sub (pv 3) pe_int set_list))
      (pss_cons (ps_set (i := 4) sc_l_any.nd rfl (Or.inl rfl) (pe_c c_l_pick hr (by omega) (by rfl) (pa_cons (pv 0) (pa_cons (pe_tup (pa_cons pe_str (pa_cons pe_str (pa_cons pe_str (pa_cons pe_str (pa_cons pe_str (pa_cons pe_str (pa_cons pe_str (pa_cons pe_str (pa_cons pe_str (pa_cons pe_str (pa_cons pe_str (pa_cons pe_str (pa_cons pe_str (pa_cons pe_str (pa_cons pe_str (pa_cons pe_str pa_nil))))))))))))))))) pa_nil))))
      (pss_cons (ps_if (pt_cmpR op_eq (pv 4) pe_str (nomark _))
        (pss_one (ps_ret (pe_c c_l_any_fun hr (by omega) (by rfl) (pa_cons (pv 0) (pa_cons (pv 1) (pa_cons (pv 2) (pa_cons (pv 3) (pa_cons pe_int pa_nil))))))))
        pss_nil)
      (pss_cons (ps_if (pt_inW (pv 4) (.cons (.cons .nil)) (show 2 ≤ sizeLine by decide) (by rfl))
        (pss_cons (ps_set (i := 5) sc_l_any.nd rfl (Or.inl rfl) (pe_c c_l_any_names hr (by omega) (by rfl) (pa_cons (pv 0) (pa_cons (pv 2) (pa_cons pe_int pa_nil)))))
        (pss_mid (ps_if (pt_cmpR (op_eqD hr.units) (pv 5) (pe_tup pa_nil) (nomark _))
          (pss_one (ps_set (i := 5) sc_l_any.nd rfl (Or.inl rfl) (pe_slice sl_tupA (pv 2) po_none (po_some pe_int))))
          pss_nil)
        (pss_mid (ps_if (pt_cmpR op_eq (pv 4) pe_str (nomark _))
          (pss_one (ps_setLc (i := 6) (own := [("_law_name_here", 7)]) rfl sc_l_any.nd rfl rfl (sw_true rfl rfl rfl (by decide +kernel)) (pi_tup (pv 5)) (blkOk_by (N := N_l_any) (sc := defScope s_l_any) (by decide +kernel))
      (fun _ _ _ _ _ => (pg_name (i := 7) sc_l_any.nd rfl (Or.inl rfl)))
      (fun _ _ _ _ _ => pts_nil)
      (fun _ _ _ _ _ => (pe_tup (pa_cons (pv 7) (pa_cons (pe_c ih hr (by omega) (by rfl) (pa_cons (pv 0) (pa_cons (pe_op op_sub (pv 1) pe_int) (pa_cons (pv 2) (pa_cons (pv 3) pa_nil))))) pa_nil))))))
          (pss_one (ps_setLc (i := 6) (own := [("_law_name_here", 7)]) rfl sc_l_any.nd rfl rfl (sw_true rfl rfl rfl (by decide +kernel)) (pi_tup (pe_slice sl_tupA (pv 5) po_none (po_some pe_int))) (blkOk_by (N := N_l_any) (sc := defScope s_l_any) (by decide +kernel))
      (fun _ _ _ _ _ => (pg_name (i := 7) sc_l_any.nd rfl (Or.inl rfl)))
      (fun _ _ _ _ _ => pts_nil)
      (fun _ _ _ _ _ => (pe_tup (pa_cons (pv 7) (pa_cons (pe_c c_l_any_fun hr (by omega) (by rfl) (pa_cons (pv 0) (pa_cons (pv 1) (pa_cons (pv 2) (pa_cons (pv 3) (pa_cons pe_int pa_nil)))))) pa_nil)))))))
        (pss_one (ps_ret (pe_tup (pa_cons (pv 4) (pa_cons (pe_tupleOf (by rfl) T.tuple (pv 6)) (pa_cons (pe_c ih hr (by omega) (by rfl) (pa_cons (pv 0) (pa_cons (pe_op op_sub (pv 1) pe_int) (pa_cons (pv 2) (pa_cons (pv 3) pa_nil))))) pa_nil)))))))))
        pss_nil)
      (pss_cons (ps_if (pt_inW (pv 4) (.cons (.cons (.cons (.cons .nil)))) (show 4 ≤ sizeLine by decide) (by rfl))
        (pss_one (ps_ret (pe_tup (pa_cons (pv 4) (pa_cons (pe_c c_l_pick hr (by omega) (by rfl) (pa_cons (pv 0) (pa_cons (pv 2) pa_nil))) (pa_cons (pe_c ih hr (by omega) (by rfl) (pa_cons (pv 0) (pa_cons (pe_op op_sub (pv 1) pe_int) (pa_cons (pv 2) (pa_cons (pv 3) pa_nil))))) pa_nil))))))
        pss_nil)
      (pss_cons (ps_if (pt_cmpR op_eq (pv 4) pe_str (nomark _))
        (pss_cons (ps_set (i := 8) sc_l_any.nd rfl (Or.inl rfl) (pe_c c_l_pick hr (by omega) (by rfl) (pa_cons (pv 0) (pa_cons (pe_tup (pa_cons pe_str (pa_cons pe_str (pa_cons pe_str (pa_cons pe_str (pa_cons pe_str (pa_cons pe_str (pa_cons pe_str (pa_cons pe_str (pa_cons pe_str (pa_cons pe_str (pa_cons pe_str (pa_cons pe_str (pa_cons pe_str (pa_cons pe_str (pa_cons pe_str (pa_cons pe_str (pa_cons pe_str pa_nil)))))))))))))))))) pa_nil))))
        (pss_mid (ps_set (i := 9) sc_l_any.nd rfl (Or.inl rfl) (pe_ifExp (pt_inW (pv 8) (.cons (.cons (.cons (.cons (.cons (.cons .nil)))))) (show 6 ≤ sizeLine by decide) (by rfl)) pe_int pe_int))
        (pss_one (ps_ret (pe_tup (pa_cons pe_str (pa_cons (pv 8) (pa_cons (pe_tupleOf (by rfl) T.tuple (pe_lc (own := [("_law_k", 10)]) rfl sc_l_any.nd (pi_range1 (by rfl) T.range (pa_cons (pv 9) pa_nil)) (blkOk_by (N := N_l_any) (sc := defScope s_l_any) (by decide +kernel))
      (fun _ _ _ _ _ => (pg_name (i := 10) sc_l_any.nd rfl (Or.inl rfl)))
      (fun _ _ _ _ _ => pts_nil)
      (fun _ _ _ _ _ => (pe_c ih hr (by omega) (by rfl) (pa_cons (pv 0) (pa_cons (pe_op op_sub (pv 1) pe_int) (pa_cons (pv 2) (pa_cons (pv 3) pa_nil)))))))) pa_nil))))))))
        pss_nil)
      (pss_cons (ps_if (pt_cmpR op_eq (pv 4) pe_str (nomark _))
        (pss_cons (ps_set (i := 11) sc_l_any.nd rfl (Or.inl rfl) (pe_c ih hr (by omega) (by rfl) (pa_cons (pv 0) (pa_cons (pe_op op_sub (pv 1) pe_int) (pa_cons (pv 2) (pa_cons (pv 3) pa_nil))))))
        (pss_one (ps_ret (pe_tup (pa_cons pe_str (pa_cons (pv 11) (pa_cons (pe_tupleOf (by rfl) T.tuple (pe_lc (own := [("_law_k", 10)]) rfl sc_l_any.nd (pi_range1 (by rfl) T.range (pa_cons (pe_ix ix_tup (pe_tup (pa_cons pe_int (pa_cons pe_int (pa_cons pe_int (pa_cons pe_int pa_nil))))) (pe_c c_l_draw hr (by omega) (by rfl) (pa_cons (pv 0) (pa_cons pe_int pa_nil))) (fun _ _ => rfl)) pa_nil)) (blkOk_by (N := N_l_any) (sc := defScope s_l_any) (by decide +kernel))
      (fun _ _ _ _ _ => (pg_name (i := 10) sc_l_any.nd rfl (Or.inl rfl)))
      (fun _ _ _ _ _ => pts_nil)
      (fun _ _ _ _ _ => (pe_c ih hr (by omega) (by rfl) (pa_cons (pv 0) (pa_cons (pe_op op_sub (pv 1) pe_int) (pa_cons (pv 2) (pa_cons (pv 3) pa_nil)))))))) pa_nil)))))))
        pss_nil)
      (pss_mid (ps_set (i := 9) sc_l_any.nd rfl (Or.inl rfl) (pe_dget hu (pe_disp (pps_cons pe_str pe_int (pps_cons pe_str (pe_ix ix_tup (pe_tup (pa_cons pe_int (pa_cons pe_int (pa_cons pe_int (pa_cons pe_int pa_nil))))) (pe_c c_l_draw hr (by omega) (by rfl) (pa_cons (pv 0) (pa_cons pe_int pa_nil))) (fun _ _ => rfl)) (pps_cons pe_str pe_int (pps_cons pe_str pe_int (pps_cons pe_str pe_int pps_nil))))) (by rfl) (by rfl) (fun z => by cases z) (by decide)) (pv 4) (fun _ _ => rfl)))
      (pss_cons (ps_set (i := 12) sc_l_any.nd rfl (Or.inl rfl) (pe_tupleOf (by rfl) T.tuple (pe_lc (own := [("_law_k", 10)]) rfl sc_l_any.nd (pi_range1 (by rfl) T.range (pa_cons (pv 9) pa_nil)) (blkOk_by (N := N_l_any) (sc := defScope s_l_any) (by decide +kernel))
      (fun _ _ _ _ _ => (pg_name (i := 10) sc_l_any.nd rfl (Or.inl rfl)))
      (fun _ _ _ _ _ => pts_nil)
      (fun _ _ _ _ _ => (pe_c ih hr (by omega) (by rfl) (pa_cons (pv 0) (pa_cons (pe_op op_sub (pv 1) pe_int) (pa_cons (pv 2) (pa_cons (pv 3) pa_nil)))))))))
      (pss_one (ps_ret (pe_ifExp (pt_cmpR op_eq (pv 4) pe_str (nomark _)) (pe_tup (pa_cons pe_str (pa_cons (pv 12) pa_nil))) (pe_op op_catA (pe_tup (pa_cons (pv 4) pa_nil)) (pv 12))))))))))))))), ?_⟩
      refine ⟨_, rfl, _, _, rfl, rfl, _, rfl, ?_⟩
      refine ite2 (fun _ => iteT ⟨_, rfl, _, rfl, h, c, nm, names, rfl, x.hand, hn, hne, hnl, hso, fun v t H' kh hh hv ok sz => q v t k H' (x.draw kh hh).2 (x.draw kh hh).1 hv (ok.mono (by omega) (by omega)) (by omega)⟩) (fun hd0 => ?_)
      refine ⟨_, rfl, _, _, _, _, rfl, rfl, .inl (.inl x.rm), rfl, _, _, rfl, rfl, _, rfl, ?_⟩
      refine ite2 (fun _ => ⟨_, rfl, _, rfl, h, c, nm, names, rfl, x.hand, hn, hne, hnl, hso, fun v t H' kh hh hv ok sz => q v t k H' (x.draw kh hh).2 (x.draw kh hh).1 hv (ok.mono (by omega) (by omega)) (by omega)⟩) (fun hk0 => ?_)
      obtain ⟨d1, rfl⟩ : ∃ d1, deep = d1 + 1 := ⟨deep - 1, by
        have : ¬ ((deep : Nat) : Int) ≤ 0 := fun z => hd0 (decide_eq_true z)
        omega⟩
      obtain ⟨k1, rfl⟩ : ∃ k1, k = k1 + 1 := ⟨k - 1, by
        have : ¬ ((k : Nat) : Int) ≤ 0 := fun z => hk0 (decide_eq_true z)
        omega⟩
      clear hd0 hk0
      refine ⟨fun σ' H' => σ' = [some (.ref h), some (.int ((d1 + 1 : Nat) : Int)), some (.ref nm), some (.ref r), none, none, none, none, none, none, none, none, none] ∧ Gn H' h c r k1 ∧ Kr h r H H', ?_, ?_⟩
      · refine ⟨_, rfl, _, _, _, _, rfl, rfl, .inl (.inl x.rm), rfl, _, _, rfl, rfl, _, rfl, r, _, _, 0, rfl, rfl, x.rm, rfl, rfl, ?_⟩
        have e : ((k1 + 1 : Nat) : Int) - 1 = ((k1 : Nat) : Int) := dec1 k1
        have z := x.less
        rw [← e] at z
        exact z
      rintro σ' H1 ⟨rfl, x1, kr1⟩
      refine ⟨_, rfl, by show 16 ≤ sizeLine; decide, fun tw htw => ?_⟩
      obtain ⟨x1', kr1'⟩ := x1.same (same_new (o := .tup (genW.map V.str)) htw)
      refine ⟨h, c, tw, genW.map V.str, rfl, x1'.hand, .inr (.inl (.inl upd_same)), by decide, by decide, fun v H2 hv kh2 hh2 => ?_⟩
      obtain ⟨x2, kr2'⟩ := x1'.draw kh2 hh2
      have kr2 := (kr1.trans kr1').trans kr2'
      obtain ⟨wd0, hwd, rfl⟩ := mem_str hv
      have hn2 := kr2.tup hn
      clear hv kh2 hh2 x1 kr1 x1' kr1' kr2' htw
      have hdn1 : d1 < n := by omega
      have argEq : ∀ vs : List V, vs = [V.ref h, V.int (((d1 + 1 : Nat) : Int) - 1), V.ref nm, V.ref r] → vs = [V.ref h, V.int ((d1 : Nat) : Int), V.ref nm, V.ref r] := fun vs e => by rw [e, dec1]
      rcases genW_cases wd0 hwd with rfl | rfl | rfl | hw | rfl | rfl | hw
      · refine ⟨_, rfl, rfl, _, rfl, iteEq rfl ?_⟩
        exact ⟨_, rfl, _, rfl, _, rfl, _, rfl, h, c, nm, r, names, k1, d1, 8, rfl, x2, hn2, hne, hnl, hso, hdn1, by decide, fun v t k2 H3 kr3 x3 hv ok sz => q v t k2 H3 (kr2.trans kr3) x3 hv (ok.1.mono (by omega) (by omega)) (by omega)⟩
      · refine ⟨_, rfl, rfl, _, rfl, iteNe (by decide +kernel) ?_⟩
        refine ⟨_, rfl, rfl, fun H2b s2b => iteIn (ws := ["let", "rec"]) (by decide +kernel) ?_⟩
        obtain ⟨x3, kr3'⟩ := x2.same s2b
        have kr3 := kr2.trans kr3'
        refine ⟨_, rfl, _, rfl, h, c, nm, names, 3, rfl, x3.hand, kr3.tup hn, hnl, by decide, by decide, fun rb bs H3 kh3 hh3 hrb hbl hbs => ?_⟩
        obtain ⟨x4, kr4'⟩ := x3.draw kh3 hh3
        have kr4 := kr3.trans kr4'
        clear kr3' kr4' kh3 hh3 x2 x3
        refine ⟨fun σ' H' => ∃ (rb : Addr) (bs : List Str), σ' = [some (.ref h), some (.int ((d1 + 1 : Nat) : Int)), some (.ref nm), some (.ref r), some (.str "let"), some (.ref rb), none, none, none, none, none, none, none] ∧ Gn H' h c r k1 ∧ Kr h r H H' ∧ SqT K H' rb (bs.map V.str) ∧ 1 ≤ bs.length ∧ bs.length ≤ 3 ∧ ∀ x ∈ bs, x ∈ names, ?_, ?_⟩
        · refine ⟨_, rfl, by show 0 ≤ sizeLine; decide, fun e0 he0 => ?_⟩
          have s5 := same_new (o := .tup []) he0
          obtain ⟨x5, kr5⟩ := x4.same s5
          have bne : ¬ (PyData.eqv (encs bs) (.tuple []) = true) → 1 ≤ bs.length := fun z => by
            cases bs with
            | nil => exact absurd (by decide +kernel) z
            | cons b bs => exact Nat.succ_le_succ (Nat.zero_le _)
          refine ⟨encs bs, .tuple [], .tup (sqt_same s5 hrb) (dpAll_strs bs), .tup (.inl (.inl upd_same)) .nil, (lay_strs (fun y hy => (hso y (hbs y hy)).1) 0).sh (by decide), by decide +kernel, _, rfl, ?_⟩
          refine ite2 (fun _ => ?_) (fun ez => ⟨rb, bs, rfl, x5, kr4.trans kr5, sqt_same s5 hrb, bne ez, by omega, hbs⟩)
          refine ⟨_, rfl, 1, rfl, ?_⟩
          have hpos : 0 < names.length := List.length_pos_iff.mpr hne
          refine sl_to (k := 1) ((kr4.trans kr5).tup hn) (by rw [List.length_map]; omega) fun t6 H6 s6 ht6 => ?_
          obtain ⟨x6, kr6⟩ := x5.same s6
          rw [← List.map_take] at ht6
          exact ⟨t6, names.take 1, rfl, x6, (kr4.trans kr5).trans kr6, ht6, by rw [List.length_take]; omega, by rw [List.length_take]; omega, fun y hy => List.mem_of_mem_take hy⟩
        clear hbs hbl hrb x4 kr4
        rintro σ' H4 ⟨rb, bs, rfl, x4, kr4, hrb, hb1, hbl, hbs⟩
        refine ⟨fun σ' H' => ∃ (L : Addr) (bs : List Str) (acc : List V) (ts : List Tr) (k2 : Nat) (v5 v7 : Option V), σ' = [some (.ref h), some (.int ((d1 + 1 : Nat) : Int)), some (.ref nm), some (.ref r), some (.str "let"), v5, some (.ref L), v7, none, none, none, none, none] ∧ Gn H' h c r k2 ∧ Kr h r H H' ∧
          H' L = some (.lst acc) ∧ DpAll K H' acc (rowsL bs ts) ∧ ts.length = bs.length ∧ 1 ≤ bs.length ∧ bs.length ≤ 3 ∧ (∀ x ∈ bs, x ∈ names) ∧ (∀ t ∈ ts, Gr (2 * d1) (4 * d1) t) ∧ Tr.lws ts + 180 * k2 ≤ 15 * bs.length + 180 * k1 ∧ Tr.fws ts + 2 * k2 ≤ 0 * bs.length + 2 * k1, ?_, ?_⟩
        · refine ⟨_, rfl, rfl, _, rfl, iteEq rfl ?_⟩
          refine ⟨_, rfl, rb, rfl, ⟨_, hrb⟩, fun D hD => ?_⟩
          refine lc_genM (K := K) (walk_tup (xs := bs.map V.str)) (rowsL bs) (fun i t => rowD ((bs[i]?).getD "", t.enc)) (Gr (2 * d1) (4 * d1)) 15 0 (by simp [rowsL, Tr.encL]) (fun ts t hl => rowsL_snoc (by rw [List.length_map] at hl; exact hl)) (rowsL_flat bs) x4 hD (by rw [List.length_map]; omega)
            (fun H' kk => kk.tup hrb) ?_ ?_
          · rintro i y k2 H5 H6 hi kk x5 ⟨rfl, e2⟩ Q1 q1
            obtain ⟨b, eb, rfl⟩ := map_at e2
            refine ⟨rfl, ?_⟩
            refine ⟨_, rfl, _, rfl, _, rfl, _, _, rfl, rfl, _, rfl, _, rfl, h, c, nm, r, names, k2, d1, argEq _ rfl, x5, (kr4.trans kk).tup hn, hne, hnl, hso, hdn1, fun v t k3 H7 kr7 x7 hv ok sz => ?_⟩
            refine ⟨by show 2 ≤ sizeLine; decide, fun p hp => ?_⟩
            have s8 := same_new (o := .tup [.str b, v]) hp
            obtain ⟨x8, kr8⟩ := x7.same s8
            refine q1 _ t k3 _ (kr7.trans kr8) x8 ?_ ok (by omega)
            rw [eb]
            exact .tup (.inl (.inl upd_same)) (.cons (.str _) (.cons (dp_same s8 _ _ hv) .nil))
          · intro H5 acc ts k2 kk x5 hacc ha hts hok hsz
            rw [List.length_map] at hts hsz
            exact ⟨D, bs, acc, ts, k2, _, _, rfl, x5, kr4.trans kk, hacc, ha, hts, hb1, hbl, hbs, hok, hsz.1, hsz.2⟩
        rintro σ' H5 ⟨L, bs, acc, ts, k2, v5, v7, rfl, x5, kr5, hL5, ha5, hts, hb1, hbl, hbs, hok, hsz⟩
        refine ⟨_, rfl, _, rfl, .inl ⟨L, _, rfl, .inl (.inl hL5), fun t6 ht6 => ?_⟩⟩
        have s6 := same_new (o := .tup acc) ht6
        obtain ⟨x6, kr6'⟩ := x5.same s6
        have kr6 := kr5.trans kr6'
        have ha6 := dps_same s6 _ _ ha5
        have ht6' : SqT K (upd H5 t6 (.tup acc)) t6 acc := .inl (.inl upd_same)
        generalize upd H5 t6 (.tup acc) = H6 at *
        refine ⟨_, rfl, _, rfl, _, _, rfl, rfl, _, rfl, _, rfl, h, c, nm, r, names, k2, d1, argEq _ rfl, x6, kr6.tup hn, hne, hnl, hso, hdn1, fun v t k3 H7 kr7 x7 hv ok sz => ?_⟩
        refine ⟨by show 3 ≤ sizeLine; decide, fun p hp => ?_⟩
        have s8 := same_new (o := .tup [.str "let", .ref t6, v]) hp
        obtain ⟨x8, kr8⟩ := x7.same s8
        obtain ⟨ez1, ez2⟩ := zip_end (t := t) hts
        refine q _ (.mk (.bind "let" bs) (ts ++ [t])) k3 _ ((kr6.trans kr7).trans kr8) x8 ?_ ?_ ?_
        · refine unview (h := .bind "let" bs) (ds := Tr.encL (ts ++ [t])) (.inl (.inl upd_same)) ⟨t6, acc, [v], rfl, sqt_same s8 (kr7.tup ht6'), ?_, ?_⟩
          · rw [ez1]
            exact dps_same s8 _ _ (dps_keep (fun _ _ z => kr7.tup z) _ _ (rowsL_flat bs ts) ha6)
          · rw [ez2]
            exact .cons (dp_same s8 _ _ hv) .nil
        · exact Gr.of (h := .bind "let" bs) (gr_snoc hok ok) ⟨by rw [List.length_append, hts]; rfl, by decide +kernel, fun y hy => (hso y (hbs y hy)).1⟩ ⟨hb1, by omega, fun y hy => hso y (hbs y hy)⟩ (fun z => absurd z (by decide +kernel)) (by rw [List.length_append, hts]; show bs.length + 1 ≤ 11; omega) (by omega) (by
            show (1 + 4 * d1) + 3 ≤ 1 + 4 * (d1 + 1)
            omega)
        · show (10 + 17 * bs.length) + 3 + Tr.lws (ts ++ [t]) + 180 * k3 ≤ _ ∧ 0 + Tr.fws (ts ++ [t]) + 2 * k3 ≤ _
          rw [lws_app, fws_app]
          show (10 + 17 * bs.length) + 3 + (Tr.lws ts + (t.lw + 0)) + 180 * k3 ≤ _ ∧ 0 + (Tr.fws ts + (t.fw + 0)) + 2 * k3 ≤ _
          omega
      · refine ⟨_, rfl, rfl, _, rfl, iteNe (by decide +kernel) ?_⟩
        refine ⟨_, rfl, rfl, fun H2b s2b => iteIn (ws := ["let", "rec"]) (by decide +kernel) ?_⟩
        obtain ⟨x3, kr3'⟩ := x2.same s2b
        have kr3 := kr2.trans kr3'
        refine ⟨_, rfl, _, rfl, h, c, nm, names, 3, rfl, x3.hand, kr3.tup hn, hnl, by decide, by decide, fun rb bs H3 kh3 hh3 hrb hbl hbs => ?_⟩
        obtain ⟨x4, kr4'⟩ := x3.draw kh3 hh3
        have kr4 := kr3.trans kr4'
        clear kr3' kr4' kh3 hh3 x2 x3
        refine ⟨fun σ' H' => ∃ (rb : Addr) (bs : List Str), σ' = [some (.ref h), some (.int ((d1 + 1 : Nat) : Int)), some (.ref nm), some (.ref r), some (.str "rec"), some (.ref rb), none, none, none, none, none, none, none] ∧ Gn H' h c r k1 ∧ Kr h r H H' ∧ SqT K H' rb (bs.map V.str) ∧ 1 ≤ bs.length ∧ bs.length ≤ 3 ∧ ∀ x ∈ bs, x ∈ names, ?_, ?_⟩
        · refine ⟨_, rfl, by show 0 ≤ sizeLine; decide, fun e0 he0 => ?_⟩
          have s5 := same_new (o := .tup []) he0
          obtain ⟨x5, kr5⟩ := x4.same s5
          have bne : ¬ (PyData.eqv (encs bs) (.tuple []) = true) → 1 ≤ bs.length := fun z => by
            cases bs with
            | nil => exact absurd (by decide +kernel) z
            | cons b bs => exact Nat.succ_le_succ (Nat.zero_le _)
          refine ⟨encs bs, .tuple [], .tup (sqt_same s5 hrb) (dpAll_strs bs), .tup (.inl (.inl upd_same)) .nil, (lay_strs (fun y hy => (hso y (hbs y hy)).1) 0).sh (by decide), by decide +kernel, _, rfl, ?_⟩
          refine ite2 (fun _ => ?_) (fun ez => ⟨rb, bs, rfl, x5, kr4.trans kr5, sqt_same s5 hrb, bne ez, by omega, hbs⟩)
          refine ⟨_, rfl, 1, rfl, ?_⟩
          have hpos : 0 < names.length := List.length_pos_iff.mpr hne
          refine sl_to (k := 1) ((kr4.trans kr5).tup hn) (by rw [List.length_map]; omega) fun t6 H6 s6 ht6 => ?_
          obtain ⟨x6, kr6⟩ := x5.same s6
          rw [← List.map_take] at ht6
          exact ⟨t6, names.take 1, rfl, x6, (kr4.trans kr5).trans kr6, ht6, by rw [List.length_take]; omega, by rw [List.length_take]; omega, fun y hy => List.mem_of_mem_take hy⟩
        clear hbs hbl hrb x4 kr4
        rintro σ' H4 ⟨rb, bs, rfl, x4, kr4, hrb, hb1, hbl, hbs⟩
        refine ⟨fun σ' H' => ∃ (L : Addr) (bs : List Str) (acc : List V) (ts : List Tr) (k2 : Nat) (v5 v7 : Option V), σ' = [some (.ref h), some (.int ((d1 + 1 : Nat) : Int)), some (.ref nm), some (.ref r), some (.str "rec"), v5, some (.ref L), v7, none, none, none, none, none] ∧ Gn H' h c r k2 ∧ Kr h r H H' ∧
          H' L = some (.lst acc) ∧ DpAll K H' acc (rowsL bs ts) ∧ ts.length = bs.length ∧ 1 ≤ bs.length ∧ bs.length ≤ 2 ∧ (∀ x ∈ bs, x ∈ names) ∧ (∀ t ∈ ts, GrF (1 + 2 * d1) (1 + 4 * d1) t) ∧ Tr.lws ts + 180 * k2 ≤ 53 * bs.length + 180 * k1 ∧ Tr.fws ts + 2 * k2 ≤ 1 * bs.length + 2 * k1, ?_, ?_⟩
        · refine ⟨_, rfl, rfl, _, rfl, iteNe (by decide +kernel) ?_⟩
          refine ⟨_, rfl, 2, rfl, ?_⟩
          have sl2 : ∀ {Q : VK}, (∀ t H', Same H4 H' → SqT K H' t ((bs.take 2).map V.str) → Q (.ref t) H') → rSlA K (.ref rb) none (some 2) H4 Q := fun {Q} hq => by
            refine ⟨rb, _, rfl, hrb, fun z => ?_, fun _ p hp => ?_⟩
            · rw [show (2 : Int) = ((2 : Nat) : Int) from rfl, HT.sIx_nat] at z
              refine hq rb H4 (Same.refl _) ?_
              rw [List.map_take, List.take_of_length_le (by have := z.2; omega)]
              exact hrb
            · have e : cutV (bs.map V.str) none (some ((2 : Nat) : Int)) = (bs.take 2).map V.str := by
                unfold cutV
                rw [HT.sIx_nat, HT.sIx_none, List.drop_zero, Nat.sub_zero, List.map_take]
                by_cases q2 : 2 ≤ (bs.map V.str).length
                · rw [Nat.min_eq_left q2]
                · rw [Nat.min_eq_right (by omega), List.take_length, List.take_of_length_le (by omega)]
              refine hq p _ (same_new hp) (.inl (.inl ?_))
              show (upd H4 p (.tup (cutV (bs.map V.str) none (some ((2 : Nat) : Int))))) p = _
              rw [e]
              exact upd_same
          refine sl2 fun rb2 H4b s4b hrb2 => ?_
          obtain ⟨x4b, kr4b'⟩ := x4.same s4b
          have kr4b := kr4.trans kr4b'
          have hl2 : (bs.take 2).length ≤ 2 := by rw [List.length_take]; omega
          have hl21 : 1 ≤ (bs.take 2).length := by rw [List.length_take]; omega
          have hbs2 : ∀ x ∈ bs.take 2, x ∈ names := fun y hy => hbs y (List.mem_of_mem_take hy)
          generalize bs.take 2 = bs2 at *
          refine ⟨rb2, rfl, ⟨_, hrb2⟩, fun D hD => ?_⟩
          refine lc_genM (K := K) (walk_tup (xs := bs2.map V.str)) (rowsL bs2) (fun i t => rowD ((bs2[i]?).getD "", t.enc)) (GrF (1 + 2 * d1) (1 + 4 * d1)) 53 1 (by simp [rowsL, Tr.encL]) (fun ts t hl => rowsL_snoc (by rw [List.length_map] at hl; exact hl)) (rowsL_flat bs2) x4b hD (by rw [List.length_map]; omega)
            (fun H' kk => kk.tup hrb2) ?_ ?_
          · rintro i y k2 H5 H6 hi kk x5 ⟨rfl, e2⟩ Q1 q1
            obtain ⟨b, eb, rfl⟩ := map_at e2
            refine ⟨rfl, ?_⟩
            refine ⟨_, rfl, _, rfl, _, rfl, _, rfl, _, rfl, h, c, nm, r, names, k2, d1, 2, rfl, x5, (kr4b.trans kk).tup hn, hne, hnl, hso, hdn1, by decide, fun v t k3 H7 kr7 x7 hv ok sz => ?_⟩
            refine ⟨by show 2 ≤ sizeLine; decide, fun p hp => ?_⟩
            have s8 := same_new (o := .tup [.str b, v]) hp
            obtain ⟨x8, kr8⟩ := x7.same s8
            refine q1 _ t k3 _ (kr7.trans kr8) x8 ?_ ok (by omega)
            rw [eb]
            exact .tup (.inl (.inl upd_same)) (.cons (.str _) (.cons (dp_same s8 _ _ hv) .nil))
          · intro H5 acc ts k2 kk x5 hacc ha hts hok hsz
            rw [List.length_map] at hts hsz
            exact ⟨D, bs2, acc, ts, k2, _, _, rfl, x5, kr4b.trans kk, hacc, ha, hts, hl21, hl2, hbs2, hok, hsz.1, hsz.2⟩
        rintro σ' H5 ⟨L, bs, acc, ts, k2, v5, v7, rfl, x5, kr5, hL5, ha5, hts, hb1, hbl, hbs, hok, hsz⟩
        refine ⟨_, rfl, _, rfl, .inl ⟨L, _, rfl, .inl (.inl hL5), fun t6 ht6 => ?_⟩⟩
        have s6 := same_new (o := .tup acc) ht6
        obtain ⟨x6, kr6'⟩ := x5.same s6
        have kr6 := kr5.trans kr6'
        have ha6 := dps_same s6 _ _ ha5
        have ht6' : SqT K (upd H5 t6 (.tup acc)) t6 acc := .inl (.inl upd_same)
        generalize upd H5 t6 (.tup acc) = H6 at *
        refine ⟨_, rfl, _, rfl, _, _, rfl, rfl, _, rfl, _, rfl, h, c, nm, r, names, k2, d1, argEq _ rfl, x6, kr6.tup hn, hne, hnl, hso, hdn1, fun v t k3 H7 kr7 x7 hv ok sz => ?_⟩
        refine ⟨by show 3 ≤ sizeLine; decide, fun p hp => ?_⟩
        have s8 := same_new (o := .tup [.str "rec", .ref t6, v]) hp
        obtain ⟨x8, kr8⟩ := x7.same s8
        obtain ⟨ez1, ez2⟩ := zip_end (t := t) hts
        refine q _ (.mk (.bind "rec" bs) (ts ++ [t])) k3 _ ((kr6.trans kr7).trans kr8) x8 ?_ ?_ ?_
        · refine unview (h := .bind "rec" bs) (ds := Tr.encL (ts ++ [t])) (.inl (.inl upd_same)) ⟨t6, acc, [v], rfl, sqt_same s8 (kr7.tup ht6'), ?_, ?_⟩
          · rw [ez1]
            exact dps_same s8 _ _ (dps_keep (fun _ _ z => kr7.tup z) _ _ (rowsL_flat bs ts) ha6)
          · rw [ez2]
            exact .cons (dp_same s8 _ _ hv) .nil
        · refine Gr.of (h := .bind "rec" bs) (gr_snoc (fun u m => (hok u m).1) (ok.mono (by omega) (by omega))) ⟨by rw [List.length_append, hts]; rfl, by decide +kernel, fun y hy => (hso y (hbs y hy)).1⟩ ⟨hb1, by omega, fun y hy => hso y (hbs y hy)⟩ (fun _ u mu => ?_) (by rw [List.length_append, hts]; show bs.length + 1 ≤ 11; omega) (by omega) (by
            show (1 + (1 + 4 * d1)) + 3 ≤ 1 + 4 * (d1 + 1)
            omega)
          rw [List.take_append_of_le_length (by omega), ← hts, List.take_length] at mu
          exact (hok u mu).2
        · show (10 + 17 * bs.length) + 3 + Tr.lws (ts ++ [t]) + 180 * k3 ≤ _ ∧ 0 + Tr.fws (ts ++ [t]) + 2 * k3 ≤ _
          rw [lws_app, fws_app]
          show (10 + 17 * bs.length) + 3 + (Tr.lws ts + (t.lw + 0)) + 180 * k3 ≤ _ ∧ 0 + (Tr.fws ts + (t.fw + 0)) + 2 * k3 ≤ _
          omega
      · refine ⟨_, rfl, rfl, _, rfl, iteNe (fun z => absurd (z ▸ hw : ("fn" : Str) ∈ oneW) (by decide +kernel)) ?_⟩
        refine ⟨_, rfl, rfl, fun H2b s2b => iteNi (ws := ["let", "rec"]) (fun z => ?_) ?_⟩
        · have key : ∀ w ∈ oneW, ¬ w ∈ (["let", "rec"] : List Str) := by decide +kernel
          exact key _ hw z
        refine ⟨_, rfl, rfl, fun H2c s2c => iteIn (ws := ["set", "keep", "once", "take"]) hw ?_⟩
        obtain ⟨x3, kr3'⟩ := x2.same (s2b.trans s2c)
        have kr3 := kr2.trans kr3'
        refine ⟨_, rfl, _, rfl, _, rfl, h, c, nm, _, rfl, x3.hand, .inr (kr3.tup hn), ?_, by rw [List.length_map]; omega, fun v H4 hv kh4 hh4 => ?_⟩
        · intro e
          exact hne (List.map_eq_nil_iff.mp e)
        obtain ⟨y, hy, rfl⟩ := mem_str hv
        obtain ⟨x4, kr4'⟩ := x3.draw kh4 hh4
        have kr4 := kr3.trans kr4'
        refine ⟨_, rfl, _, rfl, _, _, rfl, rfl, _, rfl, _, rfl, h, c, nm, r, names, k1, d1, argEq _ rfl, x4, kr4.tup hn, hne, hnl, hso, hdn1, fun v t k3 H7 kr7 x7 hv ok sz => ?_⟩
        refine ⟨by show 3 ≤ sizeLine; decide, fun p hp => ?_⟩
        have s8 := same_new (o := .tup [.str wd0, .str y, v]) hp
        obtain ⟨x8, kr8⟩ := x7.same s8
        refine q _ (.mk (.one wd0 y) [t]) k3 _ ((kr4.trans kr7).trans kr8) x8 ?_ ?_ ?_
        · exact unview (h := .one wd0 y) (ds := [t.enc]) (.inl (.inl upd_same)) ⟨[v], rfl, .cons (dp_same s8 _ _ hv) .nil⟩
        · exact Gr.of (h := .one wd0 y) (gr_one ok) ⟨rfl, hw, (hso y hy).1⟩ (hso y hy) trivial (by show 1 ≤ 11; decide) (by omega) (by show (1 + 4 * d1) + 1 ≤ 1 + 4 * (d1 + 1); omega)
        · have hw1 : (if wd0 = "take" then 1 else 0 : Nat) ≤ 1 := by split <;> decide
          show 21 + 3 + (t.lw + 0) + 180 * k3 ≤ _ ∧ (if wd0 = "take" then 1 else 0) + (t.fw + 0) + 2 * k3 ≤ _
          omega
      · refine ⟨_, rfl, rfl, _, rfl, iteNe (by decide +kernel) ?_⟩
        refine ⟨_, rfl, rfl, fun H2b s2b => iteNi (ws := ["let", "rec"]) (by decide +kernel) ?_⟩
        refine ⟨_, rfl, rfl, fun H2c s2c => iteNi (ws := ["set", "keep", "once", "take"]) (by decide +kernel) ?_⟩
        refine ⟨_, rfl, rfl, _, rfl, iteEq rfl ?_⟩
        refine ⟨_, rfl, by show 17 ≤ sizeLine; decide, fun to hto => ?_⟩
        obtain ⟨x3, kr3'⟩ := x2.same ((s2b.trans s2c).trans (same_new (o := .tup (opW.map V.str)) hto))
        have kr3 := kr2.trans kr3'
        refine ⟨h, c, to, opW.map V.str, rfl, x3.hand, .inr (.inl (.inl upd_same)), by decide, by decide, fun v H4 hv kh4 hh4 => ?_⟩
        obtain ⟨o, ho, rfl⟩ := mem_str hv
        obtain ⟨x4, kr4'⟩ := x3.draw kh4 hh4
        have kr4 := kr3.trans kr4'
        have oso : sok o := by
          have key : ∀ w ∈ opW, sok w := by decide +kernel
          exact key o ho
        refine ⟨fun σ' H' => ∃ m : Nat, σ' = [some (.ref h), some (.int ((d1 + 1 : Nat) : Int)), some (.ref nm), some (.ref r), some (.str "op"), none, none, none, some (.str o), some (.int (m : Nat)), none, none, none] ∧ (m ≤ 2 ∧ rgH (.op o) m) ∧ Gn H' h c r k1 ∧ Kr h r H H', ?_, ?_⟩
        · refine ⟨_, rfl, rfl, fun H5 s5 => ?_⟩
          obtain ⟨x5, kr5⟩ := x4.same s5
          rw [in_words]
          have k1' : ∀ w ∈ opW, w ∈ (["left", "right", "pair?", "none?", "rest?", "fun?"] : List Str) → w ∈ op1W := by decide +kernel
          have k2' : ∀ w ∈ opW, w ∉ (["left", "right", "pair?", "none?", "rest?", "fun?"] : List Str) → w ∈ op2W := by decide +kernel
          by_cases qo : o ∈ (["left", "right", "pair?", "none?", "rest?", "fun?"] : List Str)
          · rw [decide_eq_true qo]
            exact iteT ⟨1, rfl, ⟨by decide, .inr ⟨k1' o ho qo, rfl⟩⟩, x5, kr4.trans kr5⟩
          · rw [decide_eq_false qo]
            exact iteF ⟨2, rfl, ⟨by decide, .inl ⟨k2' o ho qo, rfl⟩⟩, x5, kr4.trans kr5⟩
        clear x3 kr3' kr3 x4 kr4' kr4 hv kh4 hh4
        rintro σ' H4 ⟨m, rfl, ⟨hm, hrm⟩, x4, kr4⟩
        refine ⟨_, rfl, _, rfl, _, rfl, by omega, by omega, fun D hD => ?_⟩
        refine lc_genM (K := K) (walk_range (lo := 0) (n := m)) Tr.encL (fun _ t => t.enc) (Gr (2 * d1) (4 * d1)) 15 0 rfl (fun ts t _ => encL_snoc t ts) flat_encL x4 hD (by omega) (fun _ _ => trivial) ?_ ?_
        · rintro i y k4 H5 H6 hi kk xg ⟨rfl, rfl⟩ Q1 q1
          refine ⟨rfl, ?_⟩
          exact ⟨_, rfl, _, rfl, _, _, rfl, rfl, _, rfl, _, rfl, h, c, nm, r, names, k4, d1, argEq _ rfl, xg, (kr4.trans kk).tup hn, hne, hnl, hso, hdn1, q1⟩
        · intro H5 acc ts k4 kk x5 hacc ha hts hok hsz
          refine .inl ⟨D, _, rfl, .inl (.inl hacc), fun t6 ht6 => ?_⟩
          have s6 := same_new (o := .tup acc) ht6
          refine ⟨by show 3 ≤ sizeLine; decide, fun p hp => ?_⟩
          have s7 := same_new (o := .tup [.str "op", .str o, .ref t6]) hp
          obtain ⟨x8, kr8⟩ := x5.same (s6.trans s7)
          refine q _ (.mk (.op o) ts) k4 _ ((kr4.trans kk).trans kr8) x8 ?_ ?_ ?_
          · exact unview (h := .op o) (.inl (.inl upd_same)) ⟨t6, acc, rfl, sqt_same s7 (.inl (.inl upd_same)), dps_same (s6.trans s7) _ _ ha⟩
          · exact Gr.of (h := .op o) hok oso (by rw [hts]; exact hrm) trivial (by omega) (by omega) (by show (1 + 4 * d1) + 1 ≤ 1 + 4 * (d1 + 1); omega)
          · show 9 + 3 + Tr.lws ts + 180 * k4 ≤ _ ∧ 0 + Tr.fws ts + 2 * k4 ≤ _
            omega
      · refine ⟨_, rfl, rfl, _, rfl, iteNe (by decide +kernel) ?_⟩
        refine ⟨_, rfl, rfl, fun H2b s2b => iteNi (ws := ["let", "rec"]) (by decide +kernel) ?_⟩
        refine ⟨_, rfl, rfl, fun H2c s2c => iteNi (ws := ["set", "keep", "once", "take"]) (by decide +kernel) ?_⟩
        refine ⟨_, rfl, rfl, _, rfl, iteNe (by decide +kernel) ?_⟩
        refine ⟨_, rfl, rfl, _, rfl, iteEq rfl ?_⟩
        obtain ⟨x3, kr3'⟩ := x2.same (s2b.trans s2c)
        have kr3 := kr2.trans kr3'
        refine ⟨_, rfl, _, rfl, _, _, rfl, rfl, _, rfl, _, rfl, h, c, nm, r, names, k1, d1, argEq _ rfl, x3, kr3.tup hn, hne, hnl, hso, hdn1, fun v0 t0 k2 H4 kr4' x4 hv0 ok0 sz0 => ?_⟩
        have kr4 := kr3.trans kr4'
        refine ⟨_, rfl, by show 4 ≤ sizeLine; decide, fun tq htq => ?_⟩
        have s5 := same_new (o := .tup [.int 0, .int 1, .int 2, .int 10]) htq
        obtain ⟨x5, kr5'⟩ := x4.same s5
        have kr5 := kr4.trans kr5'
        have htq5 : SqT K (upd H4 tq (.tup [.int 0, .int 1, .int 2, .int 10])) tq [.int 0, .int 1, .int 2, .int 10] := .inl (.inl upd_same)
        have hv5 := dp_same s5 _ _ hv0
        generalize upd H4 tq (.tup [.int 0, .int 1, .int 2, .int 10]) = H5 at *
        refine ⟨_, rfl, h, c, _, rfl, x5.hand, by decide, by decide, fun j H6 j0 j1 kh6 hh6 => ?_⟩
        obtain ⟨x6, kr6'⟩ := x5.draw kh6 hh6
        have kr6 := kr5.trans kr6'
        obtain ⟨m, hm, em⟩ : ∃ m : Nat, m ≤ 10 ∧ atI [V.int 0, .int 1, .int 2, .int 10] j = some (.int (m : Nat)) := by
          have : j = 0 ∨ j = 1 ∨ j = 2 ∨ j = 3 := by omega
          rcases this with rfl | rfl | rfl | rfl
          · exact ⟨0, by decide, atI_nat (j := 0) rfl⟩
          · exact ⟨1, by decide, atI_nat (j := 1) rfl⟩
          · exact ⟨2, by decide, atI_nat (j := 2) rfl⟩
          · exact ⟨10, by decide, atI_nat (j := 3) rfl⟩
        refine ⟨tq, _, _, _, rfl, rfl, kh6.tup htq5, em, _, rfl, by omega, by omega, fun D hD => ?_⟩
        have hv6 := dp_keep (fun _ _ z => kh6.tup z) _ _ (flat_enc t0) hv5
        refine lc_genM (K := K) (walk_range (lo := 0) (n := m)) Tr.encL (fun _ t => t.enc) (Gr (2 * d1) (4 * d1)) 15 0 rfl (fun ts t _ => encL_snoc t ts) flat_encL x6 hD (by omega) (fun _ _ => trivial) ?_ ?_
        · rintro i y k4 H7 H8 hi kk xg ⟨rfl, rfl⟩ Q1 q1
          refine ⟨rfl, ?_⟩
          exact ⟨_, rfl, _, rfl, _, _, rfl, rfl, _, rfl, _, rfl, h, c, nm, r, names, k4, d1, argEq _ rfl, xg, (kr6.trans kk).tup hn, hne, hnl, hso, hdn1, q1⟩
        · intro H7 acc ts k4 kk x7 hacc ha hts hok hsz
          refine .inl ⟨D, _, rfl, .inl (.inl hacc), fun t6 ht6 => ?_⟩
          have s6 := same_new (o := .tup acc) ht6
          refine ⟨by show 3 ≤ sizeLine; decide, fun p hp => ?_⟩
          have s7 := same_new (o := .tup [.str "call", v0, .ref t6]) hp
          obtain ⟨x8, kr8⟩ := x7.same (s6.trans s7)
          have hv7 := dp_same (s6.trans s7) _ _ (dp_keep (fun _ _ z => kk.tup z) _ _ (flat_enc t0) hv6)
          refine q _ (.mk .call (t0 :: ts)) k4 _ ((kr6.trans kk).trans kr8) x8 ?_ ?_ ?_
          · exact unview (h := .call) (ds := Tr.encL (t0 :: ts)) (.inl (.inl upd_same)) ⟨t6, [v0], acc, rfl, .cons hv7 .nil, sqt_same s7 (.inl (.inl upd_same)), dps_same (s6.trans s7) _ _ ha⟩
          · exact Gr.of (h := .call) (gr_cons ok0 hok) (Nat.succ_le_succ (Nat.zero_le _)) ⟨Nat.succ_le_succ (Nat.zero_le _), by show ts.length + 1 ≤ 11; omega⟩ trivial (by show ts.length + 1 ≤ 11; omega) (by omega) (by show (1 + 4 * d1) + 1 ≤ 1 + 4 * (d1 + 1); omega)
          · show 2 + 3 + (t0.lw + Tr.lws ts) + 180 * k4 ≤ _ ∧ 0 + (t0.fw + Tr.fws ts) + 2 * k4 ≤ _
            omega
      · have no : ∀ y : Str, y ∉ lastW → ¬ wd0 = y := fun y hy z => hy (z ▸ hw)
        have noIn : ∀ ws : List Str, (∀ y ∈ lastW, ¬ y ∈ ws) → ¬ wd0 ∈ ws := fun ws hy => hy wd0 hw
        refine ⟨_, rfl, rfl, _, rfl, iteNe (no _ (by decide +kernel)) ?_⟩
        refine ⟨_, rfl, rfl, fun H2b s2b => iteNi (ws := ["let", "rec"]) (noIn _ (by decide +kernel)) ?_⟩
        refine ⟨_, rfl, rfl, fun H2c s2c => iteNi (ws := ["set", "keep", "once", "take"]) (noIn _ (by decide +kernel)) ?_⟩
        refine ⟨_, rfl, rfl, _, rfl, iteNe (no _ (by decide +kernel)) ?_⟩
        refine ⟨_, rfl, rfl, _, rfl, iteNe (no _ (by decide +kernel)) ?_⟩
        obtain ⟨x3, kr3'⟩ := x2.same (s2b.trans s2c)
        have kr3 := kr2.trans kr3'
        refine ⟨fun σ' H' => ∃ m : Nat, σ' = [some (.ref h), some (.int ((d1 + 1 : Nat) : Int)), some (.ref nm), some (.ref r), some (.str wd0), none, none, none, none, some (.int (m : Nat)), none, none, none] ∧ (m ≤ 10 ∧ cntOk wd0 m) ∧ Gn H' h c r k1 ∧ Kr h r H H', ?_, ?_⟩
        · refine fun p hp => ?_
          have s4 := same_new (o := .dK []) hp
          have nD := x3.hand.there hp
          have nDr : p ≠ r := (ne_of_none x3.rm hp).symm
          obtain ⟨x4, kr4'⟩ := x3.same s4
          have ep : (upd H2c p (.dK [])) p = some (.dK []) := upd_same
          generalize upd H2c p (.dK []) = H4 at *
          refine ⟨by show 4 ≤ sizeLine; decide, fun tq htq => ?_⟩
          have s5 := same_new (o := .tup [.int 1, .int 2, .int 3, .int 10]) htq
          obtain ⟨x5, kr5'⟩ := x4.same s5
          have kr5 := kr4'.trans kr5'
          have htq5 : SqT K (upd H4 tq (.tup [.int 1, .int 2, .int 3, .int 10])) tq [.int 1, .int 2, .int 3, .int 10] := .inl (.inl upd_same)
          have ep5 := s5 _ _ ep
          generalize upd H4 tq (.tup [.int 1, .int 2, .int 3, .int 10]) = H5 at *
          refine ⟨_, rfl, h, c, _, rfl, x5.hand, by decide, by decide, fun j H6 j0 j1 kh6 hh6 => ?_⟩
          obtain ⟨x6, kr6'⟩ := x5.draw kh6 hh6
          have kr6 := kr5.trans kr6'
          have ep6 := kh6.st _ _ nD.1 ep5
          obtain ⟨m, ⟨hm, hm1⟩, em⟩ : ∃ m : Nat, (m ≤ 10 ∧ 1 ≤ m) ∧ atI [V.int 1, .int 2, .int 3, .int 10] j = some (.int (m : Nat)) := by
            have : j = 0 ∨ j = 1 ∨ j = 2 ∨ j = 3 := by omega
            rcases this with rfl | rfl | rfl | rfl
            · exact ⟨1, by decide, atI_nat (j := 0) rfl⟩
            · exact ⟨2, by decide, atI_nat (j := 1) rfl⟩
            · exact ⟨3, by decide, atI_nat (j := 2) rfl⟩
            · exact ⟨10, by decide, atI_nat (j := 3) rfl⟩
          refine ⟨tq, _, _, _, rfl, rfl, kh6.tup htq5, em, ep6, manyK m, rfl, by show 5 ≤ 15; decide, _, rfl, p, ?_⟩
          obtain ⟨m2, hm2, hc2, e2⟩ := many_at hm hm1 wd0 hw
          have hg : DGet (upd H6 p (.dK (mergeK [] (manyK m)))) p (.str wd0) (valV (mergeK [] (manyK m)) (Sum.inr wd0)) := DGet.k (k := Sum.inr wd0) upd_same
          rw [e2] at hg
          refine ⟨_, rfl, hg, m2, rfl, ⟨hm2, hc2⟩, x6.puts nD.1 nD.2 nDr, ?_⟩
          have kz : Kr h r H2c (upd H6 p (.dK (mergeK [] (manyK m)))) := Kp.mut kr6 hp
          exact kr3.trans kz
        clear x3 kr3' kr3
        rintro σ' H4 ⟨m, rfl, ⟨hm, hcm⟩, x4, kr4⟩
        refine ⟨_, rfl, _, rfl, by omega, by omega, fun D hD => ?_⟩
        refine lc_genM (K := K) (walk_range (lo := 0) (n := m)) Tr.encL (fun _ t => t.enc) (Gr (2 * d1) (4 * d1)) 15 0 rfl (fun ts t _ => encL_snoc t ts) flat_encL x4 hD (by omega) (fun _ _ => trivial) ?_ ?_
        · rintro i y k4 H5 H6 hi kk xg ⟨rfl, rfl⟩ Q1 q1
          refine ⟨rfl, ?_⟩
          exact ⟨_, rfl, _, rfl, _, _, rfl, rfl, _, rfl, _, rfl, h, c, nm, r, names, k4, d1, argEq _ rfl, xg, (kr4.trans kk).tup hn, hne, hnl, hso, hdn1, q1⟩
        · intro H5 acc ts k4 kk x5 hacc ha hts hok hsz
          refine .inl ⟨D, _, rfl, .inl (.inl hacc), fun t6 ht6 => ?_⟩
          have s6 := same_new (o := .tup acc) ht6
          have hal := DpAll.len ha
          rw [encL_len] at hal
          refine ⟨_, rfl, rfl, _, rfl, ?_⟩
          by_cases hdo : wd0 = "do"
          · refine iteEq hdo ⟨_, rfl, by show 2 ≤ sizeLine; decide, fun p hp => ?_⟩
            have s7 := same_new (o := .tup [.str "do", .ref t6]) hp
            obtain ⟨x8, kr8⟩ := x5.same (s6.trans s7)
            refine q _ (.mk .doo ts) k4 _ ((kr4.trans kk).trans kr8) x8 ?_ ?_ ?_
            · exact unview (h := .doo) (.inl (.inl upd_same)) ⟨t6, acc, rfl, sqt_same s7 (.inl (.inl upd_same)), dps_same (s6.trans s7) _ _ ha⟩
            · exact Gr.of (h := .doo) hok True.intro ⟨by rw [hts]; exact hcm.1 hdo, by omega⟩ trivial (by omega) (by omega) (by show (1 + 4 * d1) + 1 ≤ 1 + 4 * (d1 + 1); omega)
            · show 5 + 3 + Tr.lws ts + 180 * k4 ≤ _ ∧ 0 + Tr.fws ts + 2 * k4 ≤ _
              omega
          · refine iteNe hdo ⟨_, rfl, by show 1 ≤ sizeLine; decide, fun p hp => ⟨_, rfl, ?_⟩⟩
            have s7 := same_new (o := .tup [.str wd0]) hp
            refine cat_any (.inl (.inl upd_same)) (sqt_same s7 (.inl (.inl upd_same))) (Nat.le_trans (show 1 + acc.length ≤ 100 by omega) (by decide)) fun p2 H8 s8 hp2 => ?_
            obtain ⟨x8, kr8⟩ := x5.same ((s6.trans s7).trans s8)
            have hpw : wd0 ∈ plainW := by
              have key : ∀ y ∈ lastW, ¬ y = "do" → y ∈ plainW := by decide +kernel
              exact key _ hw hdo
            refine q _ (.mk (.plain wd0) ts) k4 _ ((kr4.trans kk).trans kr8) x8 ?_ ?_ ?_
            · exact unview (h := .plain wd0) hp2 ⟨acc, rfl, dps_same ((s6.trans s7).trans s8) _ _ ha⟩
            · exact Gr.of (h := .plain wd0) hok hpw (by rw [hts]; exact hcm.2 hpw) trivial (by omega) (by omega) (by show (1 + 4 * d1) + 1 ≤ 1 + 4 * (d1 + 1); omega)
            · have hw1 : (if wd0 = "wind" then 1 else 0 : Nat) ≤ 1 := by split <;> decide
              show 7 + 3 + Tr.lws ts + 180 * k4 ≤ _ ∧ (if wd0 = "wind" then 1 else 0) + Tr.fws ts + 2 * k4 ≤ _
              omega
end
end K00

namespace K00
open PySem L2 Cm
/-- the parts of a form, as a new list -/
def spPartsL (K : PySem.W.Frag) : Sp := fun vs H Q _ => ∃ (v : V) (h : Hd) (ds : List PyData), vs = [v] ∧ Dp K H v (encH h ds) ∧ hok h ds.length ∧ flatDs ds = true ∧ ds.length ≤ 100 ∧
  ∀ (l : Addr) (us : List V) (H' : Hp), Same H H' → H l = none → H' l = some (.lst us) → DpAll K H' us ds → Q (.ref l) H'
section
variable {P : Program} {w : World} {K : PySem.W.Frag} {mg : Str → Option Value} {base : Heap}
abbrev s_l_parts : Stmt := top 56
abbrev N_l_parts : List Str := ["_law_tree", "_law_word", "_law_pair"]
theorem sc_l_parts : FnScope N_l_parts ["_law_tree"] (defScope s_l_parts) := ⟨rfl, rfl, rfl, by decide +kernel, rfl, by decide +kernel, by decide +kernel⟩
theorem ok_l_parts (T : Txt mg) (D : At K mg "_law_parts" s_l_parts ["_law_tree"]) : Cl P w K mg base 1 "_law_parts" (spPartsL K) := by
  refine cl_of D sc_l_parts (fun vs H Q E h => ?_) fun f cdv A outer s H vs Q E hr h => ?_
  · obtain ⟨v, h, ds, rfl, _⟩ := h
    rfl
  · obtain ⟨v, h, ds, rfl, hd, o, fl, hlen, k⟩ := h
    obtain ⟨a, its, rfl, hs, hx⟩ := view hd
    refine ⟨_, (pss_cons (ps_set (i := 1) sc_l_parts.nd rfl (Or.inl rfl) (pe_ix ix_tup (pv 0) pe_int (fun _ _ => rfl)))
      (pss_cons (ps_if (pt_inW (pv 1) (.cons (.cons (.cons (.cons (.cons (.cons .nil)))))) (show 6 ≤ sizeLine by decide) (by rfl))
        (pss_one (ps_ret (pe_lst pa_nil)))
        pss_nil)
      (pss_cons (ps_if (pt_inW (pv 1) (.cons (.cons (.cons (.cons (.cons .nil))))) (show 5 ≤ sizeLine by decide) (by rfl))
        (pss_one (ps_ret (pe_lst (pa_cons (pe_ix ix_tup (pv 0) pe_int (fun _ _ => rfl)) pa_nil))))
        pss_nil)
      (pss_cons (ps_if (pt_inW (pv 1) (.cons (.cons .nil)) (show 2 ≤ sizeLine by decide) (by rfl))
        (pss_one (ps_ret (pe_op op_cat (pe_lc (own := [("_law_pair", 2)]) rfl sc_l_parts.nd (pi_tup (pe_ix ix_tup (pv 0) pe_int (fun _ _ => rfl))) (blkOk_by (N := N_l_parts) (sc := defScope s_l_parts) (by decide +kernel))
      (fun _ _ _ _ _ => (pg_name (i := 2) sc_l_parts.nd rfl (Or.inl rfl)))
      (fun _ _ _ _ _ => pts_nil)
      (fun _ _ _ _ _ => (pe_ix (kx_tup (K := K)) (pv 2) pe_int (fun _ _ => rfl)))) (pe_lst (pa_cons (pe_ix ix_tup (pv 0) pe_int (fun _ _ => rfl)) pa_nil)))))
        pss_nil)
      (pss_cons (ps_if (pt_cmpR op_eq (pv 1) pe_str (nomark _))
        (pss_one (ps_ret (pe_callTy call_list_of (by rfl) T.list (by decide +kernel) (pa_cons (pe_ix ix_tup (pv 0) pe_int (fun _ _ => rfl)) pa_nil))))
        pss_nil)
      (pss_cons (ps_if (pt_cmpR op_eq (pv 1) pe_str (nomark _))
        (pss_one (ps_ret (pe_op op_cat (pe_lst (pa_cons (pe_ix ix_tup (pv 0) pe_int (fun _ _ => rfl)) pa_nil)) (pe_callTy call_list_of (by rfl) T.list (by decide +kernel) (pa_cons (pe_ix ix_tup (pv 0) pe_int (fun _ _ => rfl)) pa_nil)))))
        pss_nil)
      (pss_cons (ps_if (pt_cmpR op_eq (pv 1) pe_str (nomark _))
        (pss_one (ps_ret (pe_callTy call_list_of (by rfl) T.list (by decide +kernel) (pa_cons (pe_ix ix_tup (pv 0) pe_int (fun _ _ => rfl)) pa_nil))))
        pss_nil)
      (pss_one (ps_ret (pe_callTy call_list_of (by rfl) T.list (by decide +kernel) (pa_cons (pe_slice sl_tupA (pv 0) (po_some pe_int) po_none) pa_nil))))))))))), ?_⟩
    have hhd := hx.head
    refine ⟨_, rfl, a, its, _, _, rfl, rfl, hs, hhd, ?_⟩
    refine ⟨_, rfl, rfl, fun H0 s0 => ?_⟩
    rw [in_L o]
    cases eL : kL h with
    | true =>
      refine iteT ⟨by show 0 ≤ sizeLine; decide, fun l hl => ?_⟩
      have e0 : ds = [] := by
        cases h with
        | num i => exact List.length_eq_zero_iff.mp o
        | name i => exact List.length_eq_zero_iff.mp o.1
        | lit i => exact List.length_eq_zero_iff.mp o.1
        | _ => cases eL
      subst e0
      exact k l [] _ (s0.trans (same_new hl)) (free_of s0 hl) upd_same .nil
    | false =>
    refine iteF ?_
    refine ⟨_, rfl, rfl, fun H1 s01 => ?_⟩
    have s1 := s0.trans s01
    rw [in_F o]
    cases eF : kF h with
    | true =>
      refine iteT ?_
      have hx1 := hx.same s1
      have hs1 := sqt_same s1 hs
      obtain ⟨v2, d, rfl, e2, hv2⟩ : ∃ v2 d, ds = [d] ∧ atI its 2 = some v2 ∧ Dp K H1 v2 d := by
        cases h with
        | fn xs =>
          obtain ⟨d, rfl⟩ := one_of o.1
          obtain ⟨q, vs, rfl, _, hv⟩ := hx1
          obtain ⟨v, rfl, hv'⟩ := dpAll_one hv
          exact ⟨v, d, rfl, atI_nat (j := 2) rfl, hv'⟩
        | one w x =>
          obtain ⟨d, rfl⟩ := one_of o.1
          obtain ⟨vs, rfl, hv⟩ := hx1
          obtain ⟨v, rfl, hv'⟩ := dpAll_one hv
          exact ⟨v, d, rfl, atI_nat (j := 2) rfl, hv'⟩
        | _ => cases eF
      refine ⟨_, rfl, a, _, _, _, rfl, rfl, hs1, e2, by show 1 ≤ sizeLine; decide, fun q hq => ?_⟩
      exact k q _ _ (s1.trans (same_new hq)) (free_of s1 hq) upd_same (.cons (dp_same (same_new hq) _ _ hv2) .nil)
    | false =>
      refine iteF ?_
      refine ⟨_, rfl, rfl, fun H2 s2 => ?_⟩
      have S2 := s1.trans s2
      rw [in_B o]
      cases eB : kB h with
      | true =>
        refine iteT ?_
        have hx2 := hx.same S2
        have hs2 := sqt_same S2 hs
        cases h with
        | bind w xs =>
          obtain ⟨q, rows, vs, rfl, hq, hrows, hv⟩ := hx2
          have hdl : ds.length = xs.length + 1 := o.1
          have hrl : rows.length = xs.length := by
            have := DpAll.len hrows
            rw [List.length_map, List.length_zip] at this
            omega
          refine ⟨_, rfl, a, _, _, _, rfl, rfl, hs2, atI_nat (j := 1) rfl, q, rfl, ⟨_, hq⟩, fun L hL => ?_⟩
          refine lc_data (K := K) (walk_tup (xs := rows)) (fun i => ((ds.take xs.length)[i]?).map id) hL (by omega) (fun H' s => sqt_same s hq) (fun i _ d e => ?_) ?_ ?_
          · obtain ⟨d', e', rfl⟩ := Option.map_eq_some_iff.mp e
            exact flatDs_all fl _ (List.mem_of_mem_take (List.mem_of_getElem? e'))
          · rintro i x H3 H4 hi s3 ⟨rfl, e2⟩ Q1 Q0 q1 q0
            obtain ⟨d, g1, g2⟩ := DpAll.atV hrows e2
            obtain ⟨p, ep, rfl⟩ := map_at g1
            obtain ⟨r, its3, rfl, hr3, hi3⟩ := dp_tup (dp_same s3 _ _ g2)
            cases hi3 with
            | cons h1 h2 =>
              obtain ⟨v, rfl, h3⟩ := dpAll_one h2
              refine ⟨rfl, ?_⟩
              refine ⟨_, rfl, r, _, _, _, rfl, rfl, hr3, atI_nat (j := 1) rfl, q1 _ _ p.2 ?_ (Same.refl _) h3⟩
              have := List.getElem?_zip_eq_some.mp ep
              rw [List.getElem?_take_of_lt (by omega), this.2]
              rfl
          · intro H3 acc s3 hacc ha3
            rw [show rows.length = (ds.take xs.length).length by rw [List.length_take]; omega, range_map, List.map_id] at ha3
            obtain ⟨dl, edl⟩ := one_of (show (ds.drop xs.length).length = 1 by rw [List.length_drop]; omega)
            rw [edl] at hv
            obtain ⟨vl, rfl, hvl⟩ := dpAll_one hv
            refine ⟨_, rfl, a, _, _, _, rfl, rfl, sqt_same s3 hs2, atI_nat (j := 2) rfl, by show 1 ≤ sizeLine; decide, fun t5 ht5 => ?_⟩
            have s5 := same_new (o := .lst [vl]) ht5
            have hl3 := DpAll.len ha3
            rw [List.length_take] at hl3
            refine ⟨L, t5, acc, [vl], rfl, rfl, s5 _ _ hacc, upd_same, Nat.le_trans (show acc.length + 1 ≤ 200 by omega) (by decide), fun t6 ht6 => ?_⟩
            have s6 := same_new (o := .lst (acc ++ [vl])) ht6
            refine k t6 _ _ ((S2.trans s3).trans (s5.trans s6)) (free_of ((S2.trans s3).trans s5) ht6) upd_same ?_
            have h7 : DpAll K _ (acc ++ [vl]) (ds.take xs.length ++ [dl]) := DpAll.app (dps_same (s5.trans s6) _ _ ha3) (.cons (dp_same (s3.trans (s5.trans s6)) _ _ hvl) .nil)
            rw [← edl, List.take_append_drop] at h7
            exact h7
        | _ => cases eB
      | false =>
        refine iteF ?_
        refine ⟨_, rfl, rfl, _, rfl, ?_⟩
        rw [eq_do o]
        cases eD : isDo h with
        | true =>
          refine iteT ?_
          have hx2 := hx.same S2
          cases h with
          | doo =>
            obtain ⟨q, vs, rfl, hq, hv⟩ := hx2
            refine ⟨_, rfl, a, _, _, _, rfl, rfl, sqt_same S2 hs, atI_nat (j := 1) rfl, q, _, rfl, .inr hq, fun l hl => ?_⟩
            exact k l vs _ (S2.trans (same_new hl)) (free_of S2 hl) upd_same (dps_same (same_new hl) _ _ hv)
          | _ => cases eD
        | false =>
          refine iteF ?_
          refine ⟨_, rfl, rfl, _, rfl, ?_⟩
          rw [eq_call o]
          cases eC : isCall h with
          | true =>
            refine iteT ?_
            have hx2 := hx.same S2
            cases h with
            | call =>
              obtain ⟨q, us, vs, rfl, hu, hq, hv⟩ := hx2
              have hdl : 1 ≤ ds.length := o
              obtain ⟨d0, e0⟩ := one_of (show (ds.take 1).length = 1 by rw [List.length_take]; omega)
              rw [e0] at hu
              obtain ⟨u0, rfl, hu0⟩ := dpAll_one hu
              refine ⟨_, rfl, a, _, _, _, rfl, rfl, sqt_same S2 hs, atI_nat (j := 1) rfl, by show 1 ≤ sizeLine; decide, fun t3 ht3 => ?_⟩
              have s3 := same_new (o := .lst [u0]) ht3
              refine ⟨_, rfl, a, _, _, _, rfl, rfl, sqt_same (S2.trans s3) hs, atI_nat (j := 2) rfl, q, _, rfl, .inr (sqt_same s3 hq), fun t4 ht4 => ?_⟩
              have s4 := same_new (o := .lst vs) ht4
              have hvl := DpAll.len hv
              rw [List.length_drop] at hvl
              refine ⟨t3, t4, [u0], vs, rfl, rfl, s4 _ _ upd_same, upd_same, Nat.le_trans (show 1 + vs.length ≤ 200 by omega) (by decide), fun t5 ht5 => ?_⟩
              have s5 := same_new (o := .lst ([u0] ++ vs)) ht5
              have s35 := s3.trans (s4.trans s5)
              refine k t5 _ _ (S2.trans s35) (free_of (S2.trans (s3.trans s4)) ht5) upd_same ?_
              have h7 : DpAll K _ ([u0] ++ vs) ([d0] ++ ds.drop 1) := DpAll.app (.cons (dp_same s35 _ _ hu0) .nil) (dps_same s35 _ _ hv)
              rw [← e0, List.take_append_drop] at h7
              exact h7
            | _ => cases eC
          | false =>
            refine iteF ?_
            refine ⟨_, rfl, rfl, _, rfl, ?_⟩
            rw [eq_op o]
            cases eO : isOp h with
            | true =>
              refine iteT ?_
              have hx2 := hx.same S2
              cases h with
              | op o' =>
                obtain ⟨q, vs, rfl, hq, hv⟩ := hx2
                refine ⟨_, rfl, a, _, _, _, rfl, rfl, sqt_same S2 hs, atI_nat (j := 2) rfl, q, _, rfl, .inr hq, fun l hl => ?_⟩
                exact k l vs _ (S2.trans (same_new hl)) (free_of S2 hl) upd_same (dps_same (same_new hl) _ _ hv)
              | _ => cases eO
            | false =>
              refine iteF ?_
              have hx3 := hx.same S2
              cases h with
              | plain w =>
                obtain ⟨vs, rfl, hv⟩ := hx3
                refine ⟨_, rfl, 1, rfl, ?_⟩
                refine sl_from (k := 1) (sqt_same S2 hs) (by rw [List.length_cons]; omega) fun t4 H4 s4 ht4 => ?_
                refine ⟨t4, _, rfl, .inr ht4, fun l hl => ?_⟩
                exact k l vs _ ((S2.trans s4).trans (same_new hl)) (free_of (S2.trans s4) hl) upd_same (dps_same (s4.trans (same_new hl)) _ _ hv)
              | num i => cases eL
              | name i => cases eL
              | lit i => cases eL
              | one _ _ => cases eF
              | fn _ => cases eF
              | bind _ _ => cases eB
              | doo => cases eD
              | call => cases eC
              | op _ => cases eO
end
end K00

set_option linter.all false
/-! a text times 0 or 1 -/
namespace Cm
open PySem L2 PySem.Spec PyProof.Rows
theorem op_mul01 {X : Cx} : OpR X (binaryOp .Mult) (fun x y H Q => ∃ (a : Str) (n : Int), x = .str a ∧ y = .int n ∧ (n = 0 ∨ n = 1) ∧ (n = 0 → Q (.str Str.empty) H) ∧ (n = 1 → Q (.str a) H)) := by
  intro pins s σ H x y v u Q I rx ry h
  obtain ⟨a, n, rfl, rfl, hn, q0, q1⟩ := h
  obtain ⟨t, rfl⟩ := rx
  obtain ⟨t', rfl⟩ := ry
  rcases hn with rfl | rfl
  · exact PySem.P.mul_str_none (by decide) (by decide) ⟨.str Str.empty, H, I.tok _, ⟨_, rfl⟩, q0 rfl⟩
  · refine PySem.P.mul_str (by decide) (fun _ z => ?_) (fun _ z => ?_) ?_
    · rw [show ((1 : Int) == 1) = true from rfl, Bool.true_or] at z
      cases z
    · rw [show ((1 : Int) == 1) = true from rfl, Bool.true_or] at z
      cases z
    · rw [if_neg (by decide), if_pos (by rw [show ((1 : Int) == 1) = true from rfl, Bool.true_or])]
      exact ⟨.str a, H, I, ⟨_, rfl⟩, q1 rfl⟩
end Cm

namespace K00
open PySem L2 Cm
def nmC (c : Nat) : Prop := (97 ≤ c ∧ c ≤ 122) ∨ (48 ≤ c ∧ c ≤ 57) ∨ c = 45
theorem sok_of {x : Str} (h : ∀ c ∈ cs x, nmC c) : sok x := by
  show x.cps.all (fun c => decide (c < 0x110000)) = true
  rw [Array.all_eq_true']
  intro c m
  have := h c (by show c ∈ x.cps.toList; exact Array.mem_toList_iff.mpr m)
  unfold nmC at this
  exact decide_eq_true (by omega)
def spLName : Sp := fun vs H Q _ => ∃ (h c : Addr), vs = [.ref h] ∧ Hand H h c ∧ ∀ (x : Str) (H' : Hp), Kh h H H' → Hand H' h c → nmOk x → Q (.str x) H'
def spGap : Sp := fun vs H Q _ => ∃ (h c : Addr), vs = [.ref h] ∧ Hand H h c ∧ ∀ (g : Str) (H' : Hp), Kh h H H' → Hand H' h c → blank (cs g) → cs g ≠ [] → g.length ≤ 3 → Q (.str g) H'
/-- the first letter, then good signs -/
structure Nm (x : Str) (n : Nat) : Prop where
  len : x.length = n + 1
  hd : ∃ c r, cs x = c :: r ∧ 97 ≤ c ∧ c ≤ 122
  al : ∀ c ∈ cs x, nmC c
theorem Nm.snoc {x y : Str} {n : Nat} (h : Nm x n) (ly : y.length = 1) (hy : ∀ c ∈ cs y, nmC c) : Nm (x ++ y) (n + 1) := by
  obtain ⟨c, r, e, h1⟩ := h.hd
  refine ⟨by rw [len_app, h.len, ly], ⟨c, r ++ cs y, by rw [cs_app, e]; rfl, h1⟩, fun d m => ?_⟩
  rw [cs_app] at m
  rcases List.mem_append.mp m with m | m
  · exact h.al d m
  · exact hy d m
theorem Nm.ok {x : Str} {n : Nat} (h : Nm x n) (l : n ≤ 11) (nk : x ∉ keptW) : nmOk x := ⟨sok_of h.al, by have := h.len; omega, h.hd, h.al, nk⟩
theorem sign_nm {l : List Nat} {i : Int} {c : Nat} (h : atI l i = some c) (al : ∀ c ∈ l, nmC c) : ∀ d ∈ cs (⟨#[c]⟩ : Str), nmC d := fun d m => by
  have e : d = c := by
    have : d ∈ [c] := m
    exact List.mem_singleton.mp this
  rw [e]
  exact al c (by
    obtain ⟨j, _, e2⟩ := Option.bind_eq_some_iff.mp (show ((ixN l.length i).bind fun j => l[j]?) = some c from h)
    exact List.mem_of_getElem? e2)
instance (c : Nat) : Decidable (nmC c) := by unfold nmC; infer_instance
instance (b : List Nat) : Decidable (blank b) := by unfold blank; infer_instance
section
variable {P : Program} {w : World} {K : PySem.W.Frag} {mg : Str → Option Value} {base : Heap}
abbrev s_l_gap : Stmt := top 57
abbrev N_l_gap : List Str := ["_law_hand_here"]
theorem sc_l_gap : FnScope N_l_gap ["_law_hand_here"] (defScope s_l_gap) := ⟨rfl, rfl, rfl, by decide +kernel, rfl, by decide +kernel, by decide +kernel⟩
theorem ok_gap (c_l_draw : Cl P w K mg base 2 "_law_draw" spDraw) (D : At K mg "_law_gap" s_l_gap ["_law_hand_here"]) : Cl P w K mg base 3 "_law_gap" spGap := by
  refine cl_of D sc_l_gap (fun vs H Q E h => ?_) fun f cdv A outer s H vs Q E hr h => ?_
  · obtain ⟨h, c, rfl, _⟩ := h
    rfl
  · obtain ⟨h, c, rfl, hh, k⟩ := h
    refine ⟨_, (pss_one (ps_ret (pe_ifExp (pt_cmpR op_eq (pe_c c_l_draw hr (by decide) (by rfl) (pa_cons (pv 0) (pa_cons pe_int pa_nil))) pe_int (nomark _)) (pe_ix ix_tup (pe_tup (pa_cons pe_str (pa_cons pe_str (pa_cons pe_str (pa_cons pe_str (pa_cons pe_str pa_nil)))))) (pe_c c_l_draw hr (by decide) (by rfl) (pa_cons (pv 0) (pa_cons pe_int pa_nil))) (fun _ _ => rfl)) pe_str))), ?_⟩
    refine ⟨_, rfl, h, c, _, rfl, hh, by decide, by decide, fun j H1 j0 j1 k1 hh1 => ⟨rfl, _, rfl, ?_⟩⟩
    refine ite2 (fun _ => ?_) (fun _ => ?_)
    · refine ⟨by show 5 ≤ sizeLine; decide, fun t ht => ?_⟩
      have s2 := same_new (o := .tup [.str " ", .str " ", .str "\n", .str "  ", .str " \n "]) ht
      refine ⟨_, rfl, h, c, _, rfl, hh1.same s2, by decide, by decide, fun i H3 i0 i1 k3 hh3 => ?_⟩
      have kk := (k1.trans (hh1.kh s2)).trans k3
      have tp : SqT K H3 t [.str " ", .str " ", .str "\n", .str "  ", .str " \n "] := k3.tup (.inl (.inl upd_same))
      have hi : i = 0 ∨ i = 1 ∨ i = 2 ∨ i = 3 ∨ i = 4 := by omega
      rcases hi with rfl | rfl | rfl | rfl | rfl
      · exact ⟨t, _, _, _, rfl, rfl, tp, atI_nat (j := 0) rfl, k _ _ kk hh3 (by decide +kernel) (by decide +kernel) (by decide +kernel)⟩
      · exact ⟨t, _, _, _, rfl, rfl, tp, atI_nat (j := 1) rfl, k _ _ kk hh3 (by decide +kernel) (by decide +kernel) (by decide +kernel)⟩
      · exact ⟨t, _, _, _, rfl, rfl, tp, atI_nat (j := 2) rfl, k _ _ kk hh3 (by decide +kernel) (by decide +kernel) (by decide +kernel)⟩
      · exact ⟨t, _, _, _, rfl, rfl, tp, atI_nat (j := 3) rfl, k _ _ kk hh3 (by decide +kernel) (by decide +kernel) (by decide +kernel)⟩
      · exact ⟨t, _, _, _, rfl, rfl, tp, atI_nat (j := 4) rfl, k _ _ kk hh3 (by decide +kernel) (by decide +kernel) (by decide +kernel)⟩
    · exact k _ _ k1 hh1 (by decide +kernel) (by decide +kernel) (by decide +kernel)
abbrev s_l_name : Stmt := top 51
abbrev N_l_name : List Str := ["_law_hand_here", "_law_letters", "_law_name_here", "_law_k"]
theorem sc_l_name : FnScope N_l_name ["_law_hand_here"] (defScope s_l_name) := ⟨rfl, rfl, rfl, by decide +kernel, rfl, by decide +kernel, by decide +kernel⟩
def six16 : List Str := ["true", "false", "none", "fn", "let", "rec", "set", "if", "do", "keep", "once", "take", "mark", "wind", "show", "ask"]
def five5 : List Str := ["quot", "rem", "pair", "left", "right"]
theorem not_kept_end {x y : Str} (c : Nat) (e : cs y = [c]) (h : ∀ k ∈ keptW, (cs k).getLast? ≠ some c) : x ++ y ∉ keptW := fun m => by
  have := h _ m
  rw [cs_app, e, List.getLast?_append] at this
  simp at this
theorem ok_l_name (T : Txt mg) (c_l_draw : Cl P w K mg base 2 "_law_draw" spDraw) (D : At K mg "_law_name" s_l_name ["_law_hand_here"]) : Cl P w K mg base 3 "_law_name" spLName := by
  refine cl_of D sc_l_name (fun vs H Q E h => ?_) fun f cdv A outer s H vs Q E hr h => ?_
  · obtain ⟨h, c, rfl, _⟩ := h
    rfl
  · obtain ⟨h, c, rfl, hh, k⟩ := h
    refine ⟨_, (pss_cons (ps_set (i := 1) sc_l_name.nd rfl (Or.inl rfl) pe_str)
      (pss_cons (ps_set (i := 2) sc_l_name.nd rfl (Or.inl rfl) (pe_ix ix_str (pv 1) (pe_c c_l_draw hr (by decide) (by rfl) (pa_cons (pv 0) (pa_cons pe_int pa_nil))) (fun _ _ => rfl)))
      (pss_cons (ps_for PassesOwn.never rfl (pi_range1 (by rfl) T.range (pa_cons (pe_ix ix_tup (pe_tup (pa_cons pe_int (pa_cons pe_int (pa_cons pe_int (pa_cons pe_int (pa_cons pe_int (pa_cons pe_int pa_nil))))))) (pe_c c_l_draw hr (by decide) (by rfl) (pa_cons (pv 0) (pa_cons pe_int pa_nil))) (fun _ _ => rfl)) pa_nil)) (pg_name (i := 3) sc_l_name.nd rfl (Or.inl rfl))
        (pss_one (ps_set (i := 2) sc_l_name.nd rfl (Or.inl rfl) (pe_op op_add_str (pv 2) (pe_ix ix_str (pe_op op_add_str (pv 1) pe_str) (pe_c c_l_draw hr (by decide) (by rfl) (pa_cons (pv 0) (pa_cons pe_int pa_nil))) (fun _ _ => rfl))))))
      (pss_cons (ps_if (pt_inW (pv 2) (.cons (.cons (.cons (.cons (.cons (.cons (.cons (.cons (.cons (.cons (.cons (.cons (.cons (.cons (.cons (.cons .nil)))))))))))))))) (show 16 ≤ sizeLine by decide) (by rfl))
        (pss_one (ps_ret (pe_op op_add_str (pv 2) pe_str)))
        pss_nil)
      (pss_one (ps_ret (pe_ifExp (pt_inW (pv 2) (.cons (.cons (.cons (.cons (.cons .nil))))) (show 5 ≤ sizeLine by decide) (by rfl)) (pe_op op_add_str (pv 2) pe_str) (pv 2)))))))), ?_⟩
    have ll : ("abcdefghijklmnopqrstuvwxyz" : Str).length = 26 := by decide +kernel
    have lal : ∀ d ∈ ("abcdefghijklmnopqrstuvwxyz" : Str).cps.toList, 97 ≤ d ∧ d ≤ 122 := fun d m => (in_lets d).mp m
    refine ⟨_, rfl, _, rfl, h, c, _, rfl, hh, by decide, by decide, fun j H1 j0 j1 k1 hh1 => ?_⟩
    obtain ⟨jj, rfl⟩ : ∃ jj : Nat, j = (jj : Int) := ⟨j.toNat, by omega⟩
    have hjl : jj < ("abcdefghijklmnopqrstuvwxyz" : Str).cps.toList.length := by
      have : ("abcdefghijklmnopqrstuvwxyz" : Str).cps.toList.length = 26 := by decide +kernel
      omega
    obtain ⟨c0, ec0⟩ : ∃ c0, ("abcdefghijklmnopqrstuvwxyz" : Str).cps.toList[jj]? = some c0 := ⟨_, List.getElem?_eq_getElem hjl⟩
    refine ⟨_, _, c0, rfl, rfl, by rw [ll]; decide, atI_nat ec0, ?_⟩
    have hc0 := lal c0 (List.mem_of_getElem? ec0)
    have n0 : Nm (⟨#[c0]⟩ : Str) 0 := ⟨rfl, ⟨c0, [], rfl, hc0⟩, fun d m => by
      have : d ∈ [c0] := m
      rw [List.mem_singleton.mp this]
      exact .inl hc0⟩
    refine ⟨by show 6 ≤ sizeLine; decide, fun t ht => ?_⟩
    have s2 := same_new (o := .tup [.int 0, .int 0, .int 1, .int 2, .int 4, .int 11]) ht
    refine ⟨_, rfl, h, c, _, rfl, hh1.same s2, by decide, by decide, fun i H3 i0 i1 k3 hh3 => ?_⟩
    have kk := (k1.trans (hh1.kh s2)).trans k3
    have tp : SqT K H3 t [.int 0, .int 0, .int 1, .int 2, .int 4, .int 11] := k3.tup (.inl (.inl upd_same))
    obtain ⟨m, hm, em⟩ : ∃ m : Nat, m ≤ 11 ∧ atI [V.int 0, .int 0, .int 1, .int 2, .int 4, .int 11] i = some (.int (m : Nat)) := by
      have : i = 0 ∨ i = 1 ∨ i = 2 ∨ i = 3 ∨ i = 4 ∨ i = 5 := by omega
      rcases this with rfl | rfl | rfl | rfl | rfl | rfl
      · exact ⟨0, by decide, atI_nat (j := 0) rfl⟩
      · exact ⟨0, by decide, atI_nat (j := 1) rfl⟩
      · exact ⟨1, by decide, atI_nat (j := 2) rfl⟩
      · exact ⟨2, by decide, atI_nat (j := 3) rfl⟩
      · exact ⟨4, by decide, atI_nat (j := 4) rfl⟩
      · exact ⟨11, by decide, atI_nat (j := 5) rfl⟩
    refine ⟨t, _, _, _, rfl, rfl, tp, em, _, rfl, by omega, by omega, ?_⟩
    refine for_it (walk_range (lo := 0) (n := m)) (fun q σ H' => ∃ (x : Str) (v3 : Option V), σ = [some (.ref h), some (.str "abcdefghijklmnopqrstuvwxyz"), some (.str x), v3] ∧ Nm x q ∧ Kh h H H' ∧ Hand H' h c) ⟨_, _, rfl, n0, kk, hh3⟩ (fun _ _ _ _ _ => trivial) ?_ ?_
    · rintro q v σ H4 H4' hq ⟨x, v3, rfl, nx, k4, hh4⟩ ⟨rfl, rfl⟩
      have lx := nx.len
      have l37 : (("abcdefghijklmnopqrstuvwxyz" : Str) ++ ("0123456789-" : Str)).length = 37 := by decide +kernel
      have al37 : ∀ d ∈ (("abcdefghijklmnopqrstuvwxyz" : Str) ++ ("0123456789-" : Str)).cps.toList, nmC d := fun d m => by
        have m' : d ∈ cs (("abcdefghijklmnopqrstuvwxyz" : Str) ++ ("0123456789-" : Str)) := m
        rw [cs_app] at m'
        rcases List.mem_append.mp m' with m' | m'
        · exact .inl ((in_lets d).mp m')
        · rw [show cs ("0123456789-" : Str) = [48, 49, 50, 51, 52, 53, 54, 55, 56, 57, 45] by decide +kernel] at m'
          simp only [List.mem_cons, List.not_mem_nil, or_false] at m'
          unfold nmC
          omega
      refine ⟨_, rfl, _, rfl, _, _, rfl, rfl, by decide +kernel, _, rfl, h, c, _, rfl, hh4, by decide, by decide, fun a H5 a0 a1 k5 hh5 => ?_⟩
      obtain ⟨aa, rfl⟩ : ∃ aa : Nat, a = (aa : Int) := ⟨a.toNat, by omega⟩
      have hal : aa < (("abcdefghijklmnopqrstuvwxyz" : Str) ++ ("0123456789-" : Str)).cps.toList.length := by
        have : (("abcdefghijklmnopqrstuvwxyz" : Str) ++ ("0123456789-" : Str)).cps.toList.length = 37 := by decide +kernel
        omega
      obtain ⟨c1, ec1⟩ : ∃ c1, (("abcdefghijklmnopqrstuvwxyz" : Str) ++ ("0123456789-" : Str)).cps.toList[aa]? = some c1 := ⟨_, List.getElem?_eq_getElem hal⟩
      refine ⟨_, _, c1, rfl, rfl, by rw [l37]; decide, atI_nat ec1, _, _, rfl, rfl, ?_, x ++ (⟨#[c1]⟩ : Str), _, rfl, nx.snoc rfl (sign_nm (atI_nat ec1) al37), k4.trans k5, hh5⟩
      show x.length + 1 ≤ sizeLine
      rw [sizeLine_eq]
      omega
    · rintro σ H4 ⟨x, v3, rfl, nx, k4, hh4⟩
      have lx := nx.len
      refine ⟨_, rfl, rfl, fun H5 s5 => ?_⟩
      have k5 := k4.trans (hh4.kh s5)
      have hh5 := hh4.same s5
      show if inV (.str x) (six16.map V.str) = true then _ else _
      rw [in_words]
      have l1 : ("-" : Str).length = 1 := by decide +kernel
      have l0 : ("0" : Str).length = 1 := by decide +kernel
      by_cases q : x ∈ six16
      · rw [decide_eq_true q]
        have h5 : ∀ y ∈ six16, y.length ≤ 5 := by decide +kernel
        have lx5 := h5 x q
        have ny : Nm (x ++ ("-" : Str)) (m + 1) := nx.snoc l1 (by decide +kernel)
        exact iteT ⟨_, rfl, _, _, rfl, rfl, by rw [l1, sizeLine_eq]; omega, k _ _ k5 hh5 (ny.ok (by omega) (not_kept_end 45 (by decide +kernel) (by decide +kernel)))⟩
      · rw [decide_eq_false q]
        refine iteF ⟨_, rfl, rfl, fun H6 s6 => ?_⟩
        have k6 := k5.trans (hh5.kh s6)
        have hh6 := hh5.same s6
        show if inV (.str x) (five5.map V.str) = true then _ else _
        rw [in_words]
        by_cases q2 : x ∈ five5
        · rw [decide_eq_true q2]
          have h5 : ∀ y ∈ five5, y.length ≤ 5 := by decide +kernel
          have lx5 := h5 x q2
          have ny : Nm (x ++ ("0" : Str)) (m + 1) := nx.snoc l0 (by decide +kernel)
          exact iteT ⟨_, rfl, _, _, rfl, rfl, by rw [l0, sizeLine_eq]; omega, k _ _ k6 hh6 (ny.ok (by omega) (not_kept_end 48 (by decide +kernel) (by decide +kernel)))⟩
        · rw [decide_eq_false q2]
          refine iteF ⟨_, rfl, k _ _ k6 hh6 (nx.ok hm fun z => ?_)⟩
          have key : ∀ y ∈ keptW, y ∈ six16 ∨ y ∈ five5 := by decide +kernel
          rcases key x z with z | z
          · exact q z
          · exact q2 z
end
end K00

namespace K00
open PySem L2 Cm
/-- the lengths with three each -/
def l3 (ss : List Str) : Nat := (ss.map fun s => s.length + 3).sum
theorem l3_cons (s : Str) (ss : List Str) : l3 (s :: ss) = s.length + 3 + l3 ss := by
  show ((s :: ss).map fun s => s.length + 3).sum = _
  rw [List.map_cons, List.sum_cons]
  rfl
theorem l3_app (as bs : List Str) : l3 (as ++ bs) = l3 as + l3 bs := by
  unfold l3
  rw [List.map_append, List.sum_append]
theorem l3_mem {s : Str} : ∀ {ss : List Str}, s ∈ ss → s.length + 3 ≤ l3 ss
  | t :: ss, m => by
    rw [l3_cons]
    rcases List.mem_cons.mp m with rfl | m
    · omega
    · have := l3_mem m
      omega
theorem l3_len : ∀ ss : List Str, 3 * ss.length ≤ l3 ss
  | [] => Nat.le_refl _
  | s :: ss => by
    have := l3_len ss
    rw [l3_cons, List.length_cons]
    omega
def spRow0 : Sp := fun vs H Q _ => ∃ (h c l : Addr) (s : Str) (ss : List Str) (ns : List Nd), vs = [.ref h, .ref l] ∧ Hand H h c ∧ H l = some (.lst ((s :: ss).map V.str)) ∧ l ≠ h ∧ LayNs (s :: ss) ns ∧ l3 (s :: ss) ≤ 100000 ∧
  ∀ (x : Str) (H' : Hp), Kh h H H' → Hand H' h c → LayN (cs x) [.l ns] → x.length + 1 ≤ l3 (s :: ss) → Q (.str x) H'
theorem LayNs.take : ∀ {ss : List Str} {ns : List Nd} (i : Nat), LayNs ss ns → LayNs (ss.take i) (ns.take i)
  | _, _, 0, h => .nil
  | [], _, i + 1, h => by cases h; exact .nil
  | s :: ss, _, i + 1, h => by
    cases h with
    | cons a b => exact .cons a (LayNs.take i b)
theorem LayNs.at : ∀ {ss : List Str} {ns : List Nd} {i : Nat} {s : Str}, LayNs ss ns → ss[i]? = some s → ∃ n, ns[i]? = some n ∧ LayN (cs s) [n]
  | [], _, i, s, h, e => by cases e
  | t :: ss, _, i, s, h, e => by
    cases h with
    | cons a b =>
      cases i with
      | zero => cases e; exact ⟨_, rfl, a⟩
      | succ i => exact LayNs.at (ss := ss) (i := i) b e
section
variable {P : Program} {w : World} {K : PySem.W.Frag} {mg : Str → Option Value} {base : Heap}
abbrev s_l_row : Stmt := top 59
abbrev N_l_row : List Str := ["_law_hand_here", "_law_words", "_law_out", "_law_word"]
theorem sc_l_row : FnScope N_l_row ["_law_hand_here", "_law_words"] (defScope s_l_row) := ⟨rfl, rfl, rfl, by decide +kernel, rfl, by decide +kernel, by decide +kernel⟩
theorem ok_l_row (c_l_gap : Cl P w K mg base 3 "_law_gap" spGap) (D : At K mg "_law_row" s_l_row ["_law_hand_here", "_law_words"]) : Cl P w K mg base 4 "_law_row" spRow0 := by
  refine cl_of D sc_l_row (fun vs H Q E h => ?_) fun f cdv A outer s H vs Q E hr h => ?_
  · obtain ⟨h, c, l, s, ss, ns, rfl, _⟩ := h
    rfl
  · obtain ⟨h, c, l, s0, ss, ns, rfl, hh, hl, nlh, hlay, hsum, k⟩ := h
    refine ⟨_, (pss_cons (ps_set (i := 2) sc_l_row.nd rfl (Or.inl rfl) (pe_ix ix_list (pv 1) pe_int (fun _ _ => rfl)))
      (pss_cons (ps_for PassesOwn.never rfl (pi_list (pe_slice sl_list (pv 1) (po_some pe_int) po_none)) (pg_name (i := 3) sc_l_row.nd rfl (Or.inl rfl))
        (pss_one (ps_set (i := 2) sc_l_row.nd rfl (Or.inl rfl) (pe_op op_add_str (pe_op op_add_str (pv 2) (pe_c c_l_gap hr (by decide) (by rfl) (pa_cons (pv 0) pa_nil))) (pv 3)))))
      (pss_one (ps_ret (pe_op op_add_str (pe_op op_add_str pe_str (pv 2)) pe_str))))), ?_⟩
    cases hlay with
    | @cons _ n0 _ ns' a b =>
    refine ⟨_, rfl, l, _, _, _, rfl, rfl, .inl (.inl hl), atI_nat (j := 0) rfl, ?_⟩
    refine ⟨_, rfl, 1, rfl, l, _, rfl, .inl (.inl hl), fun D hD => ?_⟩
    have ec : cutV ((s0 :: ss).map V.str) (some 1) none = ss.map V.str := by rw [show (1 : Int) = ((1 : Nat) : Int) from rfl, cut_from (by rw [List.length_map, List.length_cons]; omega)]; rfl
    rw [ec]
    have s1 := same_new (o := .lst (ss.map V.str)) hD
    have hh1 := hh.same s1
    have nD := hh.there hD
    have eD : (upd H D (.lst (ss.map V.str))) D = some (.lst (ss.map V.str)) := upd_same
    refine ⟨D, rfl, ⟨_, .inl (.inl eD)⟩, ?_⟩
    refine for_it (walk_list (xs := ss.map V.str)) (fun i σ H' => ∃ (x : Str) (v3 : Option V), σ = [some (.ref h), some (.ref l), some (.str x), v3] ∧ LayN (cs x) (n0 :: ns'.take i) ∧ x.length + 3 ≤ s0.length + 3 + l3 (ss.take i) ∧ Kh h (upd H D (.lst (ss.map V.str))) H' ∧ Hand H' h c)
      ⟨s0, _, rfl, a, by show s0.length + 3 ≤ s0.length + 3 + 0; omega, hh1.kr, hh1⟩ (fun i σ H' _ z => ?_) ?_ ?_
    · obtain ⟨_, _, _, _, _, z, _⟩ := z
      exact .inl (.inl (z.st _ _ nD.1 eD))
    · rintro i v σ H3 H3' hi ⟨x, v3, rfl, hx, lx, k3, hh3⟩ ⟨rfl, e2⟩
      obtain ⟨y, ey, rfl⟩ := map_at e2
      obtain ⟨n, en, hy⟩ := LayNs.at b ey
      have l3s : l3 (ss.take (i + 1)) = l3 (ss.take i) + (y.length + 3) := by rw [take_snoc ey, l3_app, l3_cons]; rfl
      have tot : l3 (ss.take (i + 1)) ≤ l3 ss := by
        conv => rhs; rw [← List.take_append_drop (i + 1) ss, l3_app]
        omega
      have hsum' : s0.length + 3 + l3 ss ≤ 100000 := by rw [l3_cons] at hsum; exact hsum
      refine ⟨_, rfl, _, rfl, h, c, rfl, hh3, fun g H4 k4 hh4 bg ng lg => ?_⟩
      refine ⟨_, _, rfl, rfl, by rw [sizeLine_eq]; omega, _, rfl, _, _, rfl, rfl, by rw [len_app, sizeLine_eq]; omega, (x ++ g) ++ y, _, rfl, ?_, ?_, k3.trans k4, hh4⟩
      · rw [take_snoc en, cs_app, cs_app, List.append_assoc]
        exact LayN.gap hx hy bg ng
      · rw [len_app, len_app, l3s]
        omega
    · rintro σ H3 ⟨x, v3, rfl, hx, lx, k3, hh3⟩
      rw [List.length_map, List.take_of_length_le (Nat.le_of_eq (laysS_at b)), ] at hx
      rw [List.length_map, List.take_length] at lx
      have hsum' : s0.length + 3 + l3 ss ≤ 100000 := by rw [l3_cons] at hsum; exact hsum
      have q1 : ("(" : Str).length = 1 := by decide +kernel
      have q2 : (")" : Str).length = 1 := by decide +kernel
      refine ⟨_, rfl, _, _, rfl, rfl, by rw [q1, sizeLine_eq]; omega, _, _, rfl, rfl, by rw [len_app, q1, q2, sizeLine_eq]; omega, ?_⟩
      refine k _ _ ((hh.kh s1).trans k3) hh3 (LayN.brk hx) ?_
      rw [len_app, len_app, q1, q2, l3_cons]
      omega
end
end K00

namespace K00
open PySem L2 Cm
def spLoose (K : PySem.W.Frag) (n : Nat) : Sp := fun vs H Q _ => ∃ (h c : Addr) (v : V) (t : Tr), vs = [.ref h, v] ∧ Hand H h c ∧ Dp K H v t.enc ∧ t.ok ∧ t.rg ∧ t.dep ≤ n ∧ t.lw ≤ 90000 ∧
  ∀ (x : Str) (nd : Nd) (H' : Hp), Kh h H H' → Hand H' h c → Rd t nd → LayN (cs x) [nd] → x.length + 3 ≤ t.lw → Q (.str x) H'
def spBare (K : PySem.W.Frag) (n : Nat) : Sp := fun vs H Q _ => ∃ (h c : Addr) (v : V) (t : Tr) (most : Nat), vs = [.ref h, v, .int (most : Nat)] ∧ Hand H h c ∧ Dp K H v t.enc ∧ t.ok ∧ t.rg ∧ t.dep ≤ n ∧ t.lw ≤ 90000 ∧ 1 ≤ most ∧ most ≤ 10 ∧
  ∀ (l : Addr) (ss : List Str) (ns : List Nd) (H' : Hp), Kh h H H' → Hand H' h c → H l = none → l ≠ h → H' l = some (.lst (ss.map V.str)) → Bd t ns → ns.length ≤ most → LayNs ss ns → l3 ss ≤ t.lw → Q (.ref l) H'
theorem Rds.snoc {ts : List Tr} {ns : List Nd} {t : Tr} {n : Nd} (h : Rds ts ns) (k : Rd t n) : Rds (ts ++ [t]) (ns ++ [n]) := Rds.app h (Rds.one k)
theorem LayNs.snoc {ss : List Str} {ns : List Nd} {s : Str} {n : Nd} (h : LayNs ss ns) (k : LayN (cs s) [n]) : LayNs (ss ++ [s]) (ns ++ [n]) := LayNs.app h (.cons k .nil)
theorem flat_strs' (xs : List Str) : flatDs (xs.map PyData.str) = true := flatDs_of _ fun d hd => by
  obtain ⟨x, _, rfl⟩ := List.mem_map.mp hd
  rfl
/-- a comprehension of loose texts of trees -/
theorem lc_loose {K : PySem.W.Frag} {h c : Addr} {I : It} {n : Nat} {G : Hp → Prop} {Y : Nat → Hp → V → Hp → Prop} (wk : Walk I n G Y) {g : TG} {te : TE} {vs : List Nat} {σ : L2.St} {H1 : Hp} {D : Addr} {Qd : Hp → Prop}
    (ps : List Tr) (hn : n = ps.length) (l100 : n ≤ 1000) (hh : Hand H1 h c) (hD : H1 D = Option.none) (hG : ∀ H, Kh h H1 H → G H)
    (hs : ∀ i x t H H', ps[i]? = some t → Kh h H1 H → Hand H h c → Y i H x H' → ∀ Q1 : VK, (∀ x' nd H4, Kh h H H4 → Hand H4 h c → Rd t nd → LayN (cs x') [nd] → x'.length + 3 ≤ t.lw → Q1 (.str x') H4) →
      g x (wipe σ vs) H' fun σ2 H2 => wipe σ2 vs = wipe σ vs ∧ te σ2 H2 Q1)
    (hd : ∀ H ss ns, Kh h H1 H → Hand H h c → H D = some (.lst (ss.map V.str)) → Rds ps ns → LayNs ss ns → l3 ss ≤ Tr.lws ps → Qd H) :
    ∃ W : Nat → Nat → Hp → Prop, (∃ m, W 0 m (upd H1 D (.lst []))) ∧ ∀ i m H, W i m H →
      (I.stop i H ∧ Qd H) ∨ (I.go i H ∧ ∃ Nx : Hp → Prop, (∀ H', Nx H' → ∃ m', m' < m ∧ W (i + 1) m' H') ∧ ∀ x H', I.yld i H x H' → g x (wipe σ vs) H' fun σ2 H2 => wipe σ2 vs = wipe σ vs ∧ tYes σ2 H2 fun b H3 =>
        if b = true then te σ2 H3 fun y H4 => ∃ acc, H4 D = some (.lst acc) ∧ acc.length < sizeLine ∧ Nx (upd H4 D (.lst (acc ++ [y]))) else Nx H3) := by
  have nD := hh.there hD
  subst hn
  refine lc_drawJ (K := K) (M := fun a => a = h) wk (fun i ds H => Hand H h c ∧ ∃ ss ns, ds = ss.map PyData.str ∧ Rds (ps.take i) ns ∧ LayNs ss ns ∧ l3 ss ≤ Tr.lws (ps.take i)) (fun a m => by subst m; exact hh.lst)
    ⟨hh.same (same_new hD), [], [], rfl, .nil, .nil, Nat.le_refl _⟩ (fun i ds H ys _ j => by obtain ⟨a, b⟩ := j; exact ⟨a.puts nD.1 nD.2, b⟩) hD (by omega) (fun _ _ H kk _ => hG H kk) (fun i ds H j => ?_) ?_ ?_
  · obtain ⟨_, ss, _, rfl, _⟩ := j
    exact flat_strs' ss
  · rintro i x ds H H' hi kk ⟨hh2, ss, ns, rfl, r1, r2, r3⟩ y Q1 Q0 q1 q0
    obtain ⟨t, et⟩ : ∃ t, ps[i]? = some t := ⟨_, List.getElem?_eq_getElem hi⟩
    refine hs i x t H H' et kk hh2 y Q1 fun x' nd H4 k4 hh4 hrd hly hlen => ?_
    refine q1 (.str x') H4 (.str x') k4 ⟨hh4, ss ++ [x'], ns ++ [nd], by rw [List.map_append]; rfl, ?_, LayNs.snoc r2 hly, ?_⟩ (.str _)
    · rw [take_snoc et]
      exact Rds.snoc r1 hrd
    · rw [take_snoc et, l3_app, lws_app]
      show l3 ss + (x'.length + 3 + 0) ≤ Tr.lws (ps.take i) + (t.lw + 0)
      omega
  · rintro H acc ds kk ⟨hh2, ss, ns, rfl, r1, r2, r3⟩ hacc ha
    have := dpAll_strs_inv ha
    subst this
    rw [List.take_length] at r1 r3
    exact hd H ss ns kk hh2 hacc r1 r2 r3
section
variable {P : Program} {w : World} {K : PySem.W.Frag} {mg : Str → Option Value} {base : Heap}
abbrev s_l_bare : Stmt := top 58
abbrev N_l_bare : List Str := ["_law_hand_here", "_law_tree", "_law_most", "_law_part"]
theorem sc_l_bare : FnScope N_l_bare ["_law_hand_here", "_law_tree", "_law_most"] (defScope s_l_bare) := ⟨rfl, rfl, rfl, by decide +kernel, rfl, by decide +kernel, by decide +kernel⟩
theorem ok_l_bare {n lv : Nat} (hlv : 2 ≤ lv) (T : Txt mg) (c_l_draw : Cl P w K mg base 2 "_law_draw" spDraw) (c_l_loose : Cl P w K mg base lv "_law_loose" (spLoose K n)) (D : At K mg "_law_bare" s_l_bare ["_law_hand_here", "_law_tree", "_law_most"]) : Cl P w K mg base (lv + 1) "_law_bare" (spBare K n) := by
  refine cl_of (k := lv) D sc_l_bare (fun vs H Q E h => ?_) fun f cdv A outer s H vs Q E hr h => ?_
  · obtain ⟨h, c, v, t, most, rfl, _⟩ := h
    rfl
  · obtain ⟨h, c, v, t, most, rfl, hh, hd, o, g, hdep, hlw, hm1, hm10, k⟩ := h
    refine ⟨_, (pss_cons (ps_if (PW.pt (pw_and (pt_cmpR op_eq (pe_ix ix_tup (pv 1) pe_int (fun _ _ => rfl)) pe_str (nomark _)) (pw_and (pt_chain op_lt op_le pe_int (pe_callB call_len_seq (by rfl) T.len (by decide +kernel) (pa_cons (pe_ix ix_tup (pv 1) pe_int (fun _ _ => rfl)) pa_nil)) (pv 2)) (pw_and1 (pt_cmpR op_eq (pe_c c_l_draw hr hlv (by rfl) (pa_cons (pv 0) (pa_cons pe_int pa_nil))) pe_int (nomark _))))))
        (pss_one (ps_ret (pe_lc (own := [("_law_part", 3)]) rfl sc_l_bare.nd (pi_tup (pe_ix ix_tup (pv 1) pe_int (fun _ _ => rfl))) (blkOk_by (N := N_l_bare) (sc := defScope s_l_bare) (by decide +kernel))
      (fun _ _ _ _ _ => (pg_name (i := 3) sc_l_bare.nd rfl (Or.inl rfl)))
      (fun _ _ _ _ _ => pts_nil)
      (fun _ _ _ _ _ => (pe_c c_l_loose hr (Nat.le_refl _) (by rfl) (pa_cons (pv 0) (pa_cons (pv 3) pa_nil)))))))
        pss_nil)
      (pss_one (ps_ret (pe_lst (pa_cons (pe_c c_l_loose hr (Nat.le_refl _) (by rfl) (pa_cons (pv 0) (pa_cons (pv 1) pa_nil))) pa_nil))))), ?_⟩
    have hd0 := hd
    cases t with
    | mk hd' ps =>
    obtain ⟨o1, o2, o3⟩ := ok_mk' o
    obtain ⟨g1, _, g3⟩ := rg_mk' g
    have hlw' : hwH hd' + 3 + Tr.lws ps ≤ 90000 := hlw
    obtain ⟨a, its, rfl, hs, hx⟩ := view hd
    have one : ∀ H1 : Hp, Kh h H H1 → Hand H1 h c → spLoose K n [.ref h, .ref a] H1 (fun y H4 => 1 ≤ sizeLine ∧ ∀ p, H4 p = none → Q (.ref p) (upd H4 p (.lst [y]))) E0 := fun H1 k1 hh1 => by
      refine ⟨h, c, .ref a, .mk hd' ps, rfl, hh1, dp_keep (fun _ _ z => k1.tup z) _ _ (flat_enc _) hd0, o, g, hdep, hlw, fun x nd H4 k4 hh4 hrd hly hlen => ⟨by decide, fun p hp => ?_⟩⟩
      have s5 := same_new (o := .lst [V.str x]) hp
      have kk := (k1.trans k4).trans (hh4.kh s5)
      refine k p [x] [nd] _ kk (hh4.same s5) ?_ (hh4.there hp).1 upd_same (.one _ nd hrd) (by show 1 ≤ most; exact hm1) (.cons hly .nil) (by rw [l3_cons]; show x.length + 3 + 0 ≤ _; omega)
      · cases e : H p with
        | none => rfl
        | some o' =>
          have := (k1.trans k4).st p o' (by rintro rfl; exact absurd rfl (hh4.there hp).1) e
          rw [hp] at this
          cases this
    refine ⟨_, rfl, a, its, _, _, rfl, rfl, hs, hx.head, rfl, _, rfl, ?_⟩
    rw [eq_do o1]
    cases eD : isDo hd' with
    | false => exact iteF ⟨_, rfl, _, rfl, one H hh.kr hh⟩
    | true =>
    refine iteT ?_
    cases hd' with
    | doo =>
      obtain ⟨q, us, rfl, hq, hus⟩ := hx
      have lus : us.length = ps.length := by have := DpAll.len hus; rwa [encL_len] at this
      refine ⟨_, rfl, a, _, _, _, rfl, rfl, hs, atI_nat (j := 1) rfl, q, _, rfl, .inr hq, _, _, rfl, rfl, _, rfl, ?_⟩
      refine ite2 (fun q1 => ?_) (fun _ => by first | exact ⟨_, rfl, _, rfl, one H hh.kr hh⟩ | exact iteF ⟨_, rfl, _, rfl, one H hh.kr hh⟩ | exact ⟨_, rfl, iteF ⟨_, rfl, _, rfl, one H hh.kr hh⟩⟩ | exact ⟨_, rfl, _, rfl, _, rfl, one H hh.kr hh⟩)
      refine ⟨_, rfl, _, _, rfl, rfl, _, rfl, ?_⟩
      refine ite2 (fun q2 => ?_) (fun _ => by first | exact ⟨_, rfl, _, rfl, one H hh.kr hh⟩ | exact iteF ⟨_, rfl, _, rfl, one H hh.kr hh⟩ | exact ⟨_, rfl, iteF ⟨_, rfl, _, rfl, one H hh.kr hh⟩⟩ | exact ⟨_, rfl, _, rfl, _, rfl, one H hh.kr hh⟩)
      have h2 : 2 ≤ ps.length := by have := of_decide_eq_true q1; omega
      have hm : ps.length ≤ most := by have := of_decide_eq_true q2; omega
      refine ⟨_, rfl, h, c, _, rfl, hh, by decide, by decide, fun j H1 j0 j1 k1 hh1 => ⟨rfl, _, rfl, ?_⟩⟩
      refine ite2 (fun _ => ?_) (fun _ => ⟨_, rfl, _, rfl, one H1 k1 hh1⟩)
      have hq1 : SqT K H1 q us := k1.tup hq
      refine ⟨_, rfl, a, _, _, _, rfl, rfl, k1.tup hs, atI_nat (j := 1) rfl, q, rfl, ⟨_, hq1⟩, fun D1 hD1 => ?_⟩
      have hus1 := dps_keep (fun _ _ z => k1.tup z) _ _ (flat_encL ps) hus
      refine lc_loose (K := K) (walk_tup (K := K) (a := q) (xs := us)) ps lus (by omega) hh1 hD1 (fun H' kk => kk.tup hq1) ?_ ?_
      · rintro i x t H2 H3 et kk hh2 ⟨rfl, ex⟩ Q1 q1
        obtain ⟨d, e1, e2⟩ := DpAll.atV (dps_keep (fun _ _ z => kk.tup z) _ _ (flat_encL ps) hus1) ex
        obtain ⟨t', et', rfl⟩ := encL_at' e1
        rw [et] at et'
        cases et'
        have tm := List.mem_of_getElem? et
        have := lw_mem tm
        have dpt : t.dep ≤ n := by
          have := deps_le.mp (Nat.le_refl _) t tm
          have h' : Tr.deps ps + 1 ≤ n := hdep
          omega
        exact ⟨rfl, _, rfl, _, rfl, h, c, x, t, rfl, hh2, e2, o3 t tm, g3 t tm, dpt, by omega, q1⟩
      · intro H2 ss ns k2 hh2 hl hrs hly hlen
        refine k D1 ss ns H2 (k1.trans k2) hh2 ?_ (hh1.there hD1).1 hl (.bare ps ns hrs h2 (by omega)) (by rw [hrs.len]; exact hm) hly (by show l3 ss ≤ 5 + 3 + Tr.lws ps; omega)
        cases e : H D1 with
        | none => rfl
        | some o' =>
          have := k1.st D1 o' (hh1.there hD1).1 e
          rw [hD1] at this
          cases this
    | _ => cases eD
end
end K00

namespace K00
open PySem L2 Cm
def isWordH (h : Hd) : Bool := isNum h || isName h || isLit3 h
theorem in_word5 {h : Hd} {n : Nat} (o : hok h n) : inV (.str (wd h)) ((["number", "true", "false", "none", "name"] : List Str).map V.str) = isWordH h := by
  rw [in_words]
  have other : kd h ≠ 0 → kd h ≠ 1 → kd h ≠ 2 → decide (wd h ∈ (["number", "true", "false", "none", "name"] : List Str)) = false := fun q0 q1 q2 => by
    have key : ∀ c < 10, c ≠ 0 → c ≠ 1 → c ≠ 2 → ∀ w ∈ Cm.wordsOf c, decide (w ∈ (["number", "true", "false", "none", "name"] : List Str)) = false := by decide +kernel
    exact key _ (wd_mem o).1 q0 q1 q2 _ (wd_mem o).2
  cases h with
  | lit w =>
    have key : ∀ w ∈ litW, decide (w ∈ (["number", "true", "false", "none", "name"] : List Str)) = decide (w ∈ (["true", "false", "none"] : List Str)) := by decide +kernel
    show decide (w ∈ (["number", "true", "false", "none", "name"] : List Str)) = (false || false || decide (w ∈ (["true", "false", "none"] : List Str)))
    rw [key w o.2]
    rfl
  | num i => show decide (("number" : Str) ∈ _) = true; exact decide_eq_true (by decide +kernel)
  | name i => show decide (("name" : Str) ∈ _) = true; exact decide_eq_true (by decide +kernel)
  | fn i => exact other (Nat.ne_of_beq_eq_false rfl) (Nat.ne_of_beq_eq_false rfl) (Nat.ne_of_beq_eq_false rfl)
  | one i _ => exact other (Nat.ne_of_beq_eq_false rfl) (Nat.ne_of_beq_eq_false rfl) (Nat.ne_of_beq_eq_false rfl)
  | bind i _ => exact other (Nat.ne_of_beq_eq_false rfl) (Nat.ne_of_beq_eq_false rfl) (Nat.ne_of_beq_eq_false rfl)
  | doo => exact other (Nat.ne_of_beq_eq_false rfl) (Nat.ne_of_beq_eq_false rfl) (Nat.ne_of_beq_eq_false rfl)
  | call => exact other (Nat.ne_of_beq_eq_false rfl) (Nat.ne_of_beq_eq_false rfl) (Nat.ne_of_beq_eq_false rfl)
  | op i => exact other (Nat.ne_of_beq_eq_false rfl) (Nat.ne_of_beq_eq_false rfl) (Nat.ne_of_beq_eq_false rfl)
  | plain i => exact other (Nat.ne_of_beq_eq_false rfl) (Nat.ne_of_beq_eq_false rfl) (Nat.ne_of_beq_eq_false rfl)
/-- a tree that is one word -/
theorem word_rd {h : Hd} {ps : List Tr} (o : (Tr.mk h ps).ok) (g : (Tr.mk h ps).rg) : ∃ n, Rd (.mk h ps) n ∧ LayN (cs (Tr.mk h ps).txt) [n] := txt_rd _ o g
theorem rowsN_snoc {xs : List Str} {ns : List Nd} {x : Str} {n : Nd} (h : ns.length = xs.length) : rowsN (xs ++ [x]) (ns ++ [n]) = rowsN xs ns ++ [rowN x n] := by
  unfold rowsN
  rw [List.zip_append h.symm, List.map_append]
  rfl
theorem nm_wds {xs : List Str} (h : ∀ x ∈ xs, nmOk x) : ∀ x ∈ xs, wdOk x := fun x m => nm_wd (h x m)
section
variable {P : Program} {w : World} {K : PySem.W.Frag} {mg : Str → Option Value} {base : Heap}
abbrev s_l_loose : Stmt := top 60
abbrev N_l_loose : List Str := ["_law_hand_here", "_law_tree", "_law_word", "_law_rows", "_law_pair", "_law_inner", "_law_part"]
theorem sc_l_loose : FnScope N_l_loose ["_law_hand_here", "_law_tree"] (defScope s_l_loose) := ⟨rfl, rfl, rfl, by decide +kernel, rfl, by decide +kernel, by decide +kernel⟩
theorem ok_l_loose (T : Txt mg) (c_l_text : ∀ n, Cl P w K mg base (n + 2) "_law_text" (spText K n)) (c_l_draw : Cl P w K mg base 2 "_law_draw" spDraw) (c_l_row : Cl P w K mg base 4 "_law_row" spRow0) (c_l_parts : Cl P w K mg base 1 "_law_parts" (spPartsL K))
    (DB : At K mg "_law_bare" s_l_bare ["_law_hand_here", "_law_tree", "_law_most"]) (D : At K mg "_law_loose" s_l_loose ["_law_hand_here", "_law_tree"]) :
    ∀ n, Cl P w K mg base (2 * n + 6) "_law_loose" (spLoose K n) := by
  intro n
  induction n with
  | zero =>
    refine cl_of (k := 5) D sc_l_loose (fun vs H Q E h => ?_) fun f cdv A outer s H vs Q E hr h => ?_
    · obtain ⟨h, c, v, t, rfl, _⟩ := h
      rfl
    · obtain ⟨h, c, v, t, _, _, _, _, _, z, _⟩ := h
      cases t with
      | mk hd ps => exact absurd z (by show ¬ (Tr.deps ps + 1 ≤ 0); omega)
  | succ n ih =>
    have cb := ok_l_bare (by omega) T c_l_draw ih DB
    have ct := c_l_text (n + 1)
    refine cl_of (k := 2 * n + 7) D sc_l_loose (fun vs H Q E h => ?_) fun f cdv A outer s H vs Q E hr h => ?_
    · obtain ⟨h, c, v, t, rfl, _⟩ := h
      rfl
    · obtain ⟨h, c, v, t, rfl, hh, hd, o, g, hdep, hlw, k⟩ := h
      refine ⟨_, (pss_cons (ps_set (i := 2) sc_l_loose.nd rfl (Or.inl rfl) (pe_ix ix_tup (pv 1) pe_int (fun _ _ => rfl)))
      (pss_cons (ps_if (pt_inW (pv 2) (.cons (.cons (.cons (.cons (.cons .nil))))) (show 5 ≤ sizeLine by decide) (by rfl))
        (pss_one (ps_ret (pe_c ct hr (by omega) (by rfl) (pa_cons (pv 1) pa_nil))))
        pss_nil)
      (pss_cons (ps_if (pt_cmpR op_eq (pv 2) pe_str (nomark _))
        (pss_one (ps_ret (pe_c c_l_row hr (by omega) (by rfl) (pa_cons (pv 0) (pa_cons (pe_op op_cat (pe_lst (pa_cons pe_str (pa_cons (pe_op op_add_str (pe_op op_add_str pe_str (pe_join pe_str (pe_ix ix_tup (pv 1) pe_int (fun _ _ => rfl)))) pe_str) pa_nil))) (pe_c cb hr (by omega) (by rfl) (pa_cons (pv 0) (pa_cons (pe_ix ix_tup (pv 1) pe_int (fun _ _ => rfl)) (pa_cons pe_int pa_nil))))) pa_nil)))))
        pss_nil)
      (pss_cons (ps_if (pt_inW (pv 2) (.cons (.cons .nil)) (show 2 ≤ sizeLine by decide) (by rfl))
        (pss_cons (ps_setLc (i := 3) (own := [("_law_pair", 4)]) rfl sc_l_loose.nd rfl rfl (sw_true rfl rfl rfl (by decide +kernel)) (pi_tup (pe_ix ix_tup (pv 1) pe_int (fun _ _ => rfl))) (blkOk_by (N := N_l_loose) (sc := defScope s_l_loose) (by decide +kernel))
      (fun _ _ _ _ _ => (pg_name (i := 4) sc_l_loose.nd rfl (Or.inl rfl)))
      (fun _ _ _ _ _ => pts_nil)
      (fun _ _ _ _ _ => (pe_c c_l_row hr (by omega) (by rfl) (pa_cons (pv 0) (pa_cons (pe_lst (pa_cons (pe_ix (kx_tup (K := K)) (pv 4) pe_int (fun _ _ => rfl)) (pa_cons (pe_c ih hr (by omega) (by rfl) (pa_cons (pv 0) (pa_cons (pe_ix (kx_tup (K := K)) (pv 4) pe_int (fun _ _ => rfl)) pa_nil))) pa_nil))) pa_nil)))))
        (pss_one (ps_ret (pe_c c_l_row hr (by omega) (by rfl) (pa_cons (pv 0) (pa_cons (pe_op op_cat (pe_lst (pa_cons (pv 2) (pa_cons (pe_c c_l_row hr (by omega) (by rfl) (pa_cons (pv 0) (pa_cons (pv 3) pa_nil))) pa_nil))) (pe_c cb hr (by omega) (by rfl) (pa_cons (pv 0) (pa_cons (pe_ix ix_tup (pv 1) pe_int (fun _ _ => rfl)) (pa_cons pe_int pa_nil))))) pa_nil))))))
        pss_nil)
      (pss_cons (ps_if (pt_inW (pv 2) (.cons (.cons (.cons (.cons .nil)))) (show 4 ≤ sizeLine by decide) (by rfl))
        (pss_one (ps_ret (pe_c c_l_row hr (by omega) (by rfl) (pa_cons (pv 0) (pa_cons (pe_lst (pa_cons (pv 2) (pa_cons (pe_ix ix_tup (pv 1) pe_int (fun _ _ => rfl)) (pa_cons (pe_c ih hr (by omega) (by rfl) (pa_cons (pv 0) (pa_cons (pe_ix ix_tup (pv 1) pe_int (fun _ _ => rfl)) pa_nil))) pa_nil)))) pa_nil)))))
        pss_nil)
      (pss_cons (ps_setLc (i := 5) (own := [("_law_part", 6)]) rfl sc_l_loose.nd rfl rfl (sw_true rfl rfl rfl (by decide +kernel)) (pi_list (pe_c c_l_parts hr (by omega) (by rfl) (pa_cons (pv 1) pa_nil))) (blkOk_by (N := N_l_loose) (sc := defScope s_l_loose) (by decide +kernel))
      (fun _ _ _ _ _ => (pg_name (i := 6) sc_l_loose.nd rfl (Or.inl rfl)))
      (fun _ _ _ _ _ => pts_nil)
      (fun _ _ _ _ _ => (pe_c ih hr (by omega) (by rfl) (pa_cons (pv 0) (pa_cons (pv 6) pa_nil)))))
      (pss_cons (ps_if (pt_cmpR op_eq (pv 2) pe_str (nomark _))
        (pss_one (ps_ret (pe_c c_l_row hr (by omega) (by rfl) (pa_cons (pv 0) (pa_cons (pv 5) pa_nil)))))
        pss_nil)
      (pss_one (ps_ret (pe_c c_l_row hr (by omega) (by rfl) (pa_cons (pv 0) (pa_cons (pe_op op_cat (pe_lst (pa_cons (pe_ifExp (pt_cmpR op_eq (pv 2) pe_str (nomark _)) (pe_ix ix_tup (pv 1) pe_int (fun _ _ => rfl)) (pv 2)) pa_nil)) (pv 5)) pa_nil)))))))))))), ?_⟩
      have hd0 := hd
      cases t with
      | mk hd' ps =>
      obtain ⟨o1, o2, o3⟩ := ok_mk' o
      obtain ⟨g1, _, g3⟩ := rg_mk' g
      have hlw' : hwH hd' + 3 + Tr.lws ps ≤ 90000 := hlw
      have dpm : ∀ c ∈ ps, c.dep ≤ n := fun c m => dep_mk.mp hdep c m
      obtain ⟨a, its, rfl, hs, hx⟩ := view hd
      refine ⟨_, rfl, a, its, _, _, rfl, rfl, hs, hx.head, ?_⟩
      refine ⟨_, rfl, rfl, fun H1 s1 => ?_⟩
      rw [in_word5 o1]
      have hh1 := hh.same s1
      have hs1 := sqt_same s1 hs
      have hx1 := hx.same s1
      cases eW : isWordH hd' with
      | true =>
        refine iteT ⟨_, rfl, .ref a, .mk hd' ps, rfl, dp_same s1 _ _ hd0, o, g, hdep, by omega, fun H2 s2 => ?_⟩
        obtain ⟨nd, hrd, hly⟩ := word_rd o g
        exact k _ nd _ (hh.kh (s1.trans s2)) (hh.same (s1.trans s2)) hrd hly (lw_txt _ o g)
      | false =>
      refine iteF ⟨_, rfl, rfl, _, rfl, ?_⟩
      rw [eq_fn o1]
      have q1 : ("(" : Str).length = 1 := by decide +kernel
      have q2 : (")" : Str).length = 1 := by decide +kernel
      have q4 : (" " : Str).length = 1 := by decide +kernel
      cases eF : isFn hd' with
      | true =>
        refine iteT ?_
        cases hd' with
        | fn xs =>
          obtain ⟨p, rfl⟩ := one_of (show ps.length = 1 from o1.1)
          obtain ⟨q, vs, rfl, hq, hv⟩ := hx1
          obtain ⟨u, rfl, hu'⟩ := dpAll_one (d := p.enc) hv
          have mp : p ∈ [p] := List.mem_singleton.mpr rfl
          have szp : Tr.lws [p] = p.lw + 0 := rfl
          have hxs := (show xs.length ≤ 8 ∧ ∀ x ∈ xs, nmOk x from g1)
          have hn := names_sum12 hxs.2
          have hj := join_len xs
          refine ⟨_, rfl, ⟨_, rfl⟩, _, rfl, a, _, _, _, rfl, rfl, hs1, atI_nat (j := 1) rfl, _, q, xs, rfl, rfl, .inr hq, by rw [q4]; omega, ?_⟩
          rw [TL.join_eq]
          refine ⟨_, _, rfl, rfl, by rw [q1, sizeLine_eq]; omega, _, _, rfl, rfl, by rw [len_app, q1, q2, sizeLine_eq]; omega, by show 2 ≤ sizeLine; decide, fun L1 hL1 => ?_⟩
          have s2 := same_new (o := .lst [V.str "fn", V.str ((("(" : Str) ++ Str.join " " xs) ++ (")" : Str))]) hL1
          have hh2 := hh1.same s2
          have nL1 := hh1.there hL1
          have eL1 : (upd H1 L1 (.lst [V.str "fn", V.str ((("(" : Str) ++ Str.join " " xs) ++ (")" : Str))])) L1 = some (.lst [V.str "fn", V.str ((("(" : Str) ++ Str.join " " xs) ++ (")" : Str))]) := upd_same
          refine ⟨_, rfl, _, rfl, a, _, _, _, rfl, rfl, sqt_same s2 hs1, atI_nat (j := 2) rfl, h, c, u, p, 9, rfl, hh2, dp_same s2 _ _ hu', o3 p mp, g3 p mp, dpm p mp, by omega, by decide, by decide, fun l ss ns H3 k3 hh3 nl nlh hl hb hlen hly hl3 => ?_⟩
          have lns : ss.length = ns.length := (laysS_at hly).symm
          refine ⟨L1, l, _, _, rfl, rfl, k3.st _ _ nL1.1 eL1, hl, by rw [List.length_map, sizeLine_eq]; show 2 + _ ≤ _; omega, fun D2 hD2 => ?_⟩
          have s4 := same_new (o := .lst ([V.str "fn", V.str ((("(" : Str) ++ Str.join " " xs) ++ (")" : Str))] ++ ss.map V.str)) hD2
          have lb : l3 ("fn" :: ((("(" : Str) ++ Str.join " " xs) ++ (")" : Str)) :: ss) ≤ 10 + 13 * xs.length + l3 ss := by
            rw [l3_cons, l3_cons, len_app, len_app, q1, q2, show ("fn" : Str).length = 2 by decide +kernel]
            omega
          refine ⟨h, c, D2, "fn", ((("(" : Str) ++ Str.join " " xs) ++ (")" : Str)) :: ss, .w "fn" :: .l (xs.map Nd.w) :: ns, rfl, hh3.same s4, upd_same, (hh3.there hD2).1, .cons (.word (by decide +kernel)) (.cons (LayN.brk (LayNs.join (LayNs.words (nm_wds hxs.2)))) hly), by omega, fun x H5 k5 hh5 hlx hlenx => ?_⟩
          have kk := (hh.kh (s1.trans s2)).trans (k3.trans ((hh3.kh s4).trans k5))
          exact k x _ H5 kk hh5 (.fn xs p ns hb hlen) hlx (by show x.length + 3 ≤ (9 + 13 * xs.length) + 3 + (p.lw + 0); omega)
        | _ => cases eF
      | false =>
      refine iteF ⟨_, rfl, rfl, fun H2 s2 => ?_⟩
      have S2 := s1.trans s2
      have hh2 := hh.same S2
      have hs2 := sqt_same s2 hs1
      have hx2 := hx1.same s2
      rw [in_B o1]
      cases eB : kB hd' with
      | true =>
        refine iteT ?_
        cases hd' with
        | bind w' xs =>
          obtain ⟨q, rows, vs, rfl, hq, hrows, hv⟩ := hx2
          obtain ⟨qs, pL, rfl, hqs⟩ := last_split (show ps.length = xs.length + 1 from o1.1)
          have gb := (show 1 ≤ xs.length ∧ xs.length ≤ 10 ∧ ∀ x ∈ xs, nmOk x from g1)
          have mp : pL ∈ qs ++ [pL] := List.mem_append.mpr (.inr (List.mem_singleton.mpr rfl))
          have msub : ∀ c ∈ qs, c ∈ qs ++ [pL] := fun c m => List.mem_append.mpr (.inl m)
          have ze := zip_end (xs := xs) (t := pL) hqs
          rw [ze.2] at hv
          rw [ze.1] at hrows
          obtain ⟨ul, rfl, hul⟩ := dpAll_one (d := pL.enc) hv
          have lws2 : Tr.lws (qs ++ [pL]) = Tr.lws qs + (pL.lw + 0) := lws_app _ _
          have lrows : rows.length = xs.length := by
            have := DpAll.len hrows
            unfold rowsL at this
            rw [List.length_map, List.length_zip, encL_len] at this
            omega
          refine ⟨_, rfl, a, _, _, _, rfl, rfl, hs2, atI_nat (j := 1) rfl, q, rfl, ⟨_, hq⟩, fun D1 hD1 => ?_⟩
          have nD := hh2.there hD1
          refine lc_drawJ (K := K) (M := fun a => a = h) (walk_tup (K := K) (a := q) (xs := rows)) (fun i ds H' => Hand H' h c ∧ ∃ ss ns, ds = ss.map PyData.str ∧ Rds (qs.take i) ns ∧ LayNs ss (rowsN (xs.take i) ns) ∧ l3 ss ≤ 17 * i + Tr.lws (qs.take i)) (fun a m => by subst m; exact hh2.lst)
            ⟨hh2.same (same_new hD1), [], [], rfl, .nil, .nil, Nat.le_refl _⟩ (fun i ds H ys _ j => by obtain ⟨a, b⟩ := j; exact ⟨a.puts nD.1 nD.2, b⟩) hD1 (by omega) (fun _ _ H kk _ => kk.tup hq) (fun i ds H j => ?_) ?_ ?_
          · obtain ⟨_, ss, _, rfl, _⟩ := j
            exact flat_strs' ss
          · rintro i x0 ds H3 H3' hi kk ⟨hh3, ss, ns, rfl, r1, r2, r3⟩ ⟨rfl, ex⟩ Q1 Q0 q1 q0
            obtain ⟨d, e1, e2⟩ := DpAll.atV (dps_keep (fun _ _ z => kk.tup z) _ _ (rowsL_flat xs qs) hrows) ex
            obtain ⟨⟨x, e⟩, er, rfl⟩ := map_at (show ((xs.zip (Tr.encL qs)).map rowD)[i]? = some d from e1)
            obtain ⟨e4, e5⟩ := List.getElem?_zip_eq_some.mp er
            obtain ⟨t, et, rfl⟩ := encL_at' e5
            have tm := List.mem_of_getElem? et
            have tm2 := msub t tm
            have lwt := lw_mem tm
            obtain ⟨tp, u, rfl, ht, hu'⟩ := dp_row e2
            have gx : nmOk x := gb.2.2 x (List.mem_of_getElem? e4)
            have lx := gx.2.1
            refine ⟨rfl, ?_⟩
            refine ⟨_, rfl, _, rfl, tp, _, _, _, rfl, rfl, ht, atI_nat (j := 0) rfl, ?_⟩
            refine ⟨_, rfl, _, rfl, tp, _, _, _, rfl, rfl, ht, atI_nat (j := 1) rfl, h, c, u, t, rfl, hh3, hu', o3 t tm2, g3 t tm2, dpm t tm2, by omega, fun xl nd H4 k4 hh4 hrd hly hlen => ⟨by show 2 ≤ sizeLine; decide, fun l4 hl4 => ?_⟩⟩
            have s5 := same_new (o := .lst ([x, xl].map V.str)) hl4
            have lr : l3 [x, xl] = x.length + 3 + (xl.length + 3) := by rw [l3_cons, l3_cons]; rfl
            refine ⟨h, c, l4, x, [xl], [.w x, nd], rfl, hh4.same s5, upd_same, (hh4.there hl4).1, .cons (.word (nm_wd gx)) (.cons hly .nil), by omega, fun y H6 k6 hh6 hlx hlenx => ?_⟩
            have lns : ns.length = (qs.take i).length := r1.len
            have li : i < qs.length := by
              rw [hqs, ← lrows]
              exact hi
            refine q1 (.str y) H6 (.str y) (k4.trans ((hh4.kh s5).trans k6)) ⟨hh6, ss ++ [y], ns ++ [nd], by rw [List.map_append]; rfl, ?_, ?_, ?_⟩ (.str _)
            · rw [take_snoc et]
              exact Rds.snoc r1 hrd
            · rw [take_snoc e4, rowsN_snoc (by rw [lns, List.length_take, List.length_take]; omega)]
              exact LayNs.snoc r2 hlx
            · rw [take_snoc et, l3_app, lws_app]
              show l3 ss + (y.length + 3 + 0) ≤ 17 * (i + 1) + (Tr.lws (qs.take i) + (t.lw + 0))
              omega
          · rintro H3 acc ds k3 ⟨hh3, ss, ns, rfl, r1, r2, r3⟩ hacc ha
            have := dpAll_strs_inv ha
            subst this
            rw [lrows] at r1 r2 r3
            rw [← hqs, List.take_length] at r1
            rw [List.take_length] at r2
            rw [show Tr.lws (qs.take xs.length) = Tr.lws qs by rw [← hqs, List.take_length]] at r3
            have lxs : (rowsN xs ns).length = xs.length := rowsN_len (by rw [r1.len, hqs])
            have lss : ss.length = xs.length := by rw [← laysS_at r2, lxs]
            obtain ⟨s0, ss', rfl⟩ : ∃ s0 ss', ss = s0 :: ss' := by
              cases ss with
              | nil => have := gb.1; simp at lss; omega
              | cons a b => exact ⟨a, b, rfl⟩
            have hs3 := k3.tup hs2
            refine ⟨_, rfl, _, rfl, _, rfl, _, rfl, h, c, D1, s0, ss', rowsN xs ns, rfl, hh3, hacc, nD.1, r2, by omega, fun y H4 k4 hh4 hly hleny => ⟨by show 2 ≤ sizeLine; decide, fun L1 hL1 => ?_⟩⟩
            have s5 := same_new (o := .lst [V.str w', V.str y]) hL1
            have hh5 := hh4.same s5
            have nL1 := hh4.there hL1
            have eL1 : (upd H4 L1 (.lst [V.str w', V.str y])) L1 = some (.lst [V.str w', V.str y]) := upd_same
            have hs5 := sqt_same s5 (k4.tup hs3)
            have hul5 := dp_same s5 _ _ (dp_keep (fun _ _ z => (k3.trans k4).tup z) _ _ (flat_enc pL) hul)
            refine ⟨_, rfl, _, rfl, a, _, _, _, rfl, rfl, hs5, atI_nat (j := 2) rfl, h, c, ul, pL, 9, rfl, hh5, hul5, o3 pL mp, g3 pL mp, dpm pL mp, by omega, by decide, by decide, fun l ssb nsb H6 k6 hh6 nl nlh hl hb hlenb hlyb hl3 => ?_⟩
            have lnsb : ssb.length = nsb.length := (laysS_at hlyb).symm
            refine ⟨L1, l, _, _, rfl, rfl, k6.st _ _ nL1.1 eL1, hl, by rw [List.length_map, sizeLine_eq]; show 2 + _ ≤ _; omega, fun D2 hD2 => ?_⟩
            have s7 := same_new (o := .lst ([V.str w', V.str y] ++ ssb.map V.str)) hD2
            have lw3 := (wd_bind w' o1.2.1)
            have lb : l3 (w' :: y :: ssb) ≤ 6 + (y.length + 3) + l3 ssb := by
              rw [l3_cons, l3_cons]
              omega
            have hb9 : nsb.length ≤ 9 := hlenb
            have hw0 : hwH (.bind w' xs) = 10 + 17 * xs.length := rfl
            refine ⟨h, c, D2, w', y :: ssb, .w w' :: .l (rowsN xs ns) :: nsb, rfl, hh6.same s7, upd_same, (hh6.there hD2).1, .cons (.word lw3.1) (.cons hly hlyb), by omega, fun x H8 k8 hh8 hlx hlenx => ?_⟩
            have kk := (hh.kh S2).trans (k3.trans (k4.trans ((hh4.kh s5).trans (k6.trans ((hh6.kh s7).trans k8)))))
            exact k x _ H8 kk hh8 (.bind w' xs qs pL ns nsb r1 hqs hb hb9) hlx (by show x.length + 3 ≤ (10 + 17 * xs.length) + 3 + Tr.lws (qs ++ [pL]); omega)
        | _ => cases eB
      | false =>
      refine iteF ⟨_, rfl, rfl, fun H3 s3 => ?_⟩
      have S3 := S2.trans s3
      have hh3 := hh.same S3
      have hs3 := sqt_same s3 hs2
      have hx3 := hx2.same s3
      rw [in_one4 o1]
      cases eO : isOne hd' with
      | true =>
        refine iteT ?_
        cases hd' with
        | one w' x =>
          obtain ⟨p, rfl⟩ := one_of (show ps.length = 1 from o1.1)
          obtain ⟨vs, rfl, hv⟩ := hx3
          obtain ⟨u, rfl, hu'⟩ := dpAll_one (d := p.enc) hv
          have mp : p ∈ [p] := List.mem_singleton.mpr rfl
          have szp : Tr.lws [p] = p.lw + 0 := rfl
          have gx : nmOk x := g1
          have lx := gx.2.1
          have hw1 := wd_one w' o1.2.1
          refine ⟨_, rfl, _, rfl, _, rfl, a, _, _, _, rfl, rfl, hs3, atI_nat (j := 1) rfl, ?_⟩
          refine ⟨_, rfl, _, rfl, a, _, _, _, rfl, rfl, hs3, atI_nat (j := 2) rfl, h, c, u, p, rfl, hh3, hu', o3 p mp, g3 p mp, dpm p mp, by omega, fun xl nd H4 k4 hh4 hrd hly hlen => ⟨by show 3 ≤ sizeLine; decide, fun l4 hl4 => ?_⟩⟩
          have s5 := same_new (o := .lst ([w', x, xl].map V.str)) hl4
          have lr : l3 [w', x, xl] = w'.length + 3 + (x.length + 3 + (xl.length + 3)) := by rw [l3_cons, l3_cons, l3_cons]; rfl
          refine ⟨h, c, l4, w', [x, xl], [.w w', .w x, nd], rfl, hh4.same s5, upd_same, (hh4.there hl4).1, .cons (.word hw1.1) (.cons (.word (nm_wd gx)) (.cons hly .nil)), by omega, fun y H6 k6 hh6 hlx hlenx => ?_⟩
          exact k y _ H6 ((hh.kh S3).trans (k4.trans ((hh4.kh s5).trans k6))) hh6 (.one w' x p nd hrd) hlx (by show y.length + 3 ≤ 21 + 3 + (p.lw + 0); omega)
        | _ => cases eO
      | false =>
      refine iteF ⟨_, rfl, .ref a, hd', Tr.encL ps, rfl, dp_same S3 _ _ hd0, by rw [encL_len]; exact o1, flat_encL ps, by rw [encL_len]; omega, fun l us H4 s4 nl hl hus => ⟨l, rfl, ⟨_, .inl (.inl hl)⟩, fun D1 hD1 => ?_⟩⟩
      have S4 := S3.trans s4
      have hh4 := hh3.same s4
      have lus : us.length = ps.length := by have := DpAll.len hus; rwa [encL_len] at this
      have nlh : l ≠ h := by
        obtain ⟨xs, e⟩ := hh3.lst
        exact (ne_of_none e nl).symm
      have nD := hh4.there hD1
      refine lc_loose (K := K) (walk_list (K := K) (a := l) (xs := us)) ps lus (by omega) hh4 hD1 (fun H' kk => .inl (.inl (kk.st _ _ nlh hl))) ?_ ?_
      · rintro i x t H5 H6 et kk hh5 ⟨rfl, ex⟩ Q1 q1
        obtain ⟨d, e1, e2⟩ := DpAll.atV (dps_keep (fun _ _ z => kk.tup z) _ _ (flat_encL ps) hus) ex
        obtain ⟨t', et', rfl⟩ := encL_at' e1
        rw [et] at et'
        cases et'
        have tm := List.mem_of_getElem? et
        have := lw_mem tm
        exact ⟨rfl, _, rfl, _, rfl, h, c, x, t, rfl, hh5, e2, o3 t tm, g3 t tm, dpm t tm, by omega, q1⟩
      intro H5 ss ns k5 hh5 hss hrs hly hl3
      have K5 := (hh.kh S4).trans k5
      have lss : ss.length = ps.length := by rw [← laysS_at hly, hrs.len]
      refine ⟨_, rfl, rfl, _, rfl, ?_⟩
      rw [eq_call o1]
      cases eC : isCall hd' with
      | true =>
        refine iteT ?_
        cases hd' with
        | call =>
          have hp1 : 1 ≤ ps.length := o1
          obtain ⟨s0, ss', rfl⟩ : ∃ s0 ss', ss = s0 :: ss' := by
            cases ss with
            | nil => simp at lss; omega
            | cons a b => exact ⟨a, b, rfl⟩
          refine ⟨_, rfl, _, rfl, h, c, D1, s0, ss', ns, rfl, hh5, hss, nD.1, hly, by omega, fun y H6 k6 hh6 hlx hlenx => ?_⟩
          exact k y _ H6 (K5.trans k6) hh6 (.call ps ns hrs) hlx (by show y.length + 3 ≤ 2 + 3 + Tr.lws ps; omega)
        | _ => cases eC
      | false =>
      have hs5 := (hh4.kr.trans k5).tup (sqt_same s4 hs3)
      have hx5 : SqT K H5 a its := hs5
      refine iteF ⟨_, rfl, _, rfl, rfl, _, rfl, ?_⟩
      rw [eq_op o1]
      have last : ∀ (w' : Str), wdOk w' → w'.length + 3 ≤ hwH hd' + 1 → Rd (.mk hd' ps) (.l (.w w' :: ns)) → ∀ (L1 : Addr), H5 L1 = none → ∀ D2, (upd H5 L1 (.lst [V.str w'])) D2 = none →
          spRow0 [.ref h, .ref D2] (upd (upd H5 L1 (.lst [V.str w'])) D2 (.lst ([V.str w'] ++ ss.map V.str))) Q E0 := fun w' hw hlw2 hrd L1 hL1 D2 hD2 => by
        have s6 := same_new (o := .lst [V.str w']) hL1
        have hh6 := hh5.same s6
        have s7 := same_new (o := .lst ([V.str w'] ++ ss.map V.str)) hD2
        refine ⟨h, c, D2, w', ss, .w w' :: ns, rfl, hh6.same s7, upd_same, (hh6.there hD2).1, .cons (.word hw) hly, by rw [l3_cons]; omega, fun y H8 k8 hh8 hlx hlenx => ?_⟩
        rw [l3_cons] at hlenx
        exact k y _ H8 (K5.trans ((hh5.kh (s6.trans s7)).trans k8)) hh8 hrd hlx (by show y.length + 3 ≤ hwH hd' + 3 + Tr.lws ps; omega)
      have cat : ∀ (w' : Str) (L1 : Addr), H5 L1 = none → (∀ D2, (upd H5 L1 (.lst [V.str w'])) D2 = none → spRow0 [.ref h, .ref D2] (upd (upd H5 L1 (.lst [V.str w'])) D2 (.lst ([V.str w'] ++ ss.map V.str))) Q E0) →
          rCat (.ref L1) (.ref D1) (upd H5 L1 (.lst [V.str w'])) (fun x H' => spRow0 [.ref h, x] H' Q E0) := fun w' L1 hL1 z =>
        ⟨L1, D1, _, _, rfl, rfl, upd_same, same_new (o := .lst [V.str w']) hL1 _ _ hss, by rw [List.length_map, lss, sizeLine_eq]; show 1 + _ ≤ _; omega, z⟩
      cases eP : isOp hd' with
      | true =>
        refine iteT ?_
        cases hd' with
        | op w' =>
          obtain ⟨q, vs, rfl, hq, hv⟩ := hx3
          have hw := rg_op g1
          refine ⟨_, rfl, a, _, _, _, rfl, rfl, hs5, atI_nat (j := 1) rfl, by show 1 ≤ sizeLine; decide, fun L1 hL1 => ⟨_, rfl, ?_⟩⟩
          exact cat w' L1 hL1 (last w' hw.1 (by show _ ≤ 9 + 1; omega) (.op w' ps ns hrs) L1 hL1)
        | _ => cases eP
      | false =>
      refine iteF ⟨_, rfl, by show 1 ≤ sizeLine; decide, fun L1 hL1 => ⟨_, rfl, ?_⟩⟩
      cases hd' with
      | plain w' =>
        have hw := wd_plain w' o1
        exact cat w' L1 hL1 (last w' hw.1 (by show _ ≤ 7 + 1; omega) (.plain w' ps ns hrs) L1 hL1)
      | doo => exact cat "do" L1 hL1 (last "do" (by decide +kernel) (by show _ ≤ 5 + 1; decide +kernel) (.doo ps ns hrs) L1 hL1)
      | lit w' =>
        have e0 : ps = [] := List.length_eq_zero_iff.mp o1.1
        subst e0
        cases hrs
        have hw := wd_lit w' o1.2
        have key : ∀ y ∈ litW, decide (y ∈ (["true", "false", "none"] : List Str)) = false → y = "ask" := by decide +kernel
        have ew : w' = "ask" := key w' o1.2 (by simpa [isWordH, isNum, isName, kd, isLit3] using eW)
        subst ew
        exact cat "ask" L1 hL1 (last "ask" hw.1 (by show _ ≤ 7 + 1; decide +kernel) .ask L1 hL1)
      | num i => cases eW
      | name x => cases eW
      | fn x => cases eF
      | bind w' x => cases eB
      | one w' x => cases eO
      | op x => cases eP
      | call => cases eC
end
end K00

set_option linter.all false
/-! trees that repr takes -/
namespace Cm
open PySem L2 PySem.Spec PyProof.Rows
structure Wd (n : Nat) (d : PyData) : Prop where
  ok : okD d = true
  wt : d.weight ≤ n
structure Wds (n : Nat) (ds : List PyData) : Prop where
  ok : okDs ds = true
  wt : PyData.weightAll ds ≤ n
theorem Wd.mono {n m : Nat} {d : PyData} (h : Wd n d) (k : n ≤ m) : Wd m d := ⟨h.ok, Nat.le_trans h.wt k⟩
theorem Wds.mono {n m : Nat} {d : List PyData} (h : Wds n d) (k : n ≤ m) : Wds m d := ⟨h.ok, Nat.le_trans h.wt k⟩
theorem Wds.nil : Wds 0 [] := ⟨rfl, by simp [PyData.weightAll]⟩
theorem Wds.cons {n m : Nat} {d : PyData} {ds : List PyData} (h : Wd n d) (k : Wds m ds) : Wds (n + 1 + m) (d :: ds) := ⟨by simp [okDs, h.ok, k.ok], by
  have := h.wt; have := k.wt
  simp only [PyData.weightAll]
  omega⟩
theorem Wd.tup {n : Nat} {ds : List PyData} (h : Wds n ds) : Wd n (.tuple ds) := ⟨by simpa [okD] using h.ok, by simp only [PyData.weight]; exact h.wt⟩
theorem Wd.str {x : Str} {n : Nat} (s : sok x) (h : x.length ≤ n) : Wd n (.str x) := by
  refine ⟨?_, by simp only [PyData.weight]; exact h⟩
  have e : okD (.str x) = x.cps.toList.all fun c => decide (c < 16 ^ 8) := by simp only [okD, PyData.leavesShort]
  rw [e]
  have s' : x.cps.all (fun c => decide (c < 0x110000)) = true := s
  rw [Array.all_eq_true'] at s'
  refine List.all_eq_true.mpr fun c m => ?_
  have := of_decide_eq_true (s' c (Array.mem_toList_iff.mp m))
  exact decide_eq_true (by omega)
theorem Wd.int {i : Int} (h : i.natAbs ≤ 1000000000) : Wd 31 (.int i) := by
  refine ⟨by simp only [okD]; exact decide_eq_true (by omega), ?_⟩
  simp only [PyData.weight]
  split
  · omega
  · rename_i z
    have z' : i.natAbs ≠ 0 := fun q => by
      have : i = 0 := by omega
      subst this
      exact z rfl
    have := (Nat.log2_lt (k := 30) z').mpr (Nat.lt_of_le_of_lt h (by decide))
    omega
theorem Wds.app {n m : Nat} : ∀ {as bs : List PyData}, Wds n as → Wds m bs → Wds (n + m) (as ++ bs)
  | [], bs, _, k => k.mono (by omega)
  | a :: as, bs, h, k => by
    have h1 := h.ok
    have h2 := h.wt
    simp only [okDs, Bool.and_eq_true] at h1
    simp only [PyData.weightAll] at h2
    have ih := Wds.app (as := as) (bs := bs) (n := n - (a.weight + 1)) ⟨h1.2, by omega⟩ k
    exact (Wds.cons ⟨h1.1, Nat.le_refl _⟩ ih).mono (by omega)
theorem Wds.strs {xs : List Str} (h : ∀ x ∈ xs, sok x ∧ x.length ≤ 12) : Wds (13 * xs.length) (xs.map PyData.str) := by
  induction xs with
  | nil => exact Wds.nil
  | cons x xs ih =>
    exact (Wds.cons (Wd.str (h x List.mem_cons_self).1 (h x List.mem_cons_self).2) (ih fun y m => h y (List.mem_cons_of_mem _ m))).mono (by rw [List.length_cons]; omega)
theorem Wds.split {n : Nat} {ds : List PyData} (h : Wds n ds) (k : Nat) : ∃ a b, Wds a (ds.take k) ∧ Wds b (ds.drop k) ∧ a + b ≤ n := by
  induction ds generalizing n k with
  | nil => exact ⟨0, 0, by rw [List.take_nil]; exact Wds.nil, by rw [List.drop_nil]; exact Wds.nil, Nat.zero_le _⟩
  | cons d ds ih =>
    have h1 := h.ok
    have h2 := h.wt
    simp only [okDs, Bool.and_eq_true] at h1
    simp only [PyData.weightAll] at h2
    cases k with
    | zero => exact ⟨0, n, Wds.nil, h, by omega⟩
    | succ k =>
      obtain ⟨a, b, p, q, r⟩ := ih (n := n - (d.weight + 1)) ⟨h1.2, by omega⟩ k
      exact ⟨d.weight + 1 + a, b, Wds.cons ⟨h1.1, Nat.le_refl _⟩ p, q, by omega⟩
theorem Wds.rows {n : Nat} : ∀ {xs : List Str} {ds : List PyData}, (∀ x ∈ xs, sok x ∧ x.length ≤ 12) → Wds n ds → Wds (15 * xs.length + n) ((xs.zip ds).map rowD)
  | [], ds, _, _ => Wds.nil.mono (by omega)
  | x :: xs, [], _, _ => Wds.nil.mono (by omega)
  | x :: xs, d :: ds, h, k => by
    have h1 := k.ok
    have h2 := k.wt
    simp only [okDs, Bool.and_eq_true] at h1
    simp only [PyData.weightAll] at h2
    have ih := Wds.rows (n := n - (d.weight + 1)) (xs := xs) (ds := ds) (fun y m => h y (List.mem_cons_of_mem _ m)) ⟨h1.2, by omega⟩
    have r : Wd (13 + (d.weight + 1)) (rowD (x, d)) := (Wd.tup (Wds.cons (Wd.str (h x List.mem_cons_self).1 (h x List.mem_cons_self).2) (Wds.cons ⟨h1.1, Nat.le_refl _⟩ Wds.nil))).mono (by omega)
    exact (Wds.cons r ih).mono (by rw [List.length_cons]; omega)
theorem wds6 : ∀ w ∈ litW ++ oneW ++ bindW ++ plainW ++ op2W ++ op1W ++ (["number", "name", "fn", "do", "call", "op"] : List Str), sok w ∧ w.length ≤ 6 := by decide +kernel
theorem wd6 {w : Str} (h : w ∈ litW ++ oneW ++ bindW ++ plainW ++ op2W ++ op1W ++ (["number", "name", "fn", "do", "call", "op"] : List Str)) : Wd 6 (.str w) := Wd.str (wds6 w h).1 (wds6 w h).2
theorem zip_take {α β : Type} : ∀ (xs : List α) (ds : List β), xs.zip (ds.take xs.length) = xs.zip ds
  | [], _ => rfl
  | _ :: _, [] => rfl
  | x :: xs, d :: ds => by
    show (x, d) :: xs.zip (ds.take xs.length) = _
    rw [zip_take xs ds]
    rfl
mutual
theorem wd_enc : ∀ t : Tr, t.ok → t.rg → Wd (4 * t.lw) t.enc
  | .mk h ps, o, g => by
    have ih := wds_enc ps (show _ ∧ _ ∧ Tr.oks ps from o).2.2 (show _ ∧ _ ∧ Tr.rgs ps from g).2.2
    have o1 : hok h ps.length := o.1
    have o2 : ps.length ≤ 11 := (show _ ∧ ps.length ≤ 11 ∧ _ from o).2.1
    have g1 : rgH h ps.length := g.1
    have nm : ∀ {xs : List Str}, (∀ x ∈ xs, nmOk x) → ∀ x ∈ xs, sok x ∧ x.length ≤ 12 := fun a x m => ⟨(a x m).1, (a x m).2.1⟩
    show Wd (4 * (hwH h + 3 + Tr.lws ps)) (encH h (Tr.encL ps))
    cases h with
    | num i => exact (Wd.tup (Wds.cons (wd6 (by decide +kernel)) (Wds.cons (Wd.int g1) Wds.nil))).mono (by show _ ≤ 4 * (11 + 3 + Tr.lws ps); omega)
    | name x => exact (Wd.tup (Wds.cons (wd6 (by decide +kernel)) (Wds.cons (Wd.str (show nmOk x from g1).1 (show nmOk x from g1).2.1) Wds.nil))).mono (by show _ ≤ 4 * (12 + 3 + Tr.lws ps); omega)
    | lit w => exact (Wd.tup (Wds.cons (wd6 (by have := o1.2; simp only [List.mem_append]; exact .inl (.inl (.inl (.inl (.inl (.inl this))))))) Wds.nil)).mono (by show _ ≤ 4 * (7 + 3 + Tr.lws ps); omega)
    | one w x => exact (Wd.tup (Wds.cons (wd6 (by have := o1.2.1; simp only [List.mem_append]; exact .inl (.inl (.inl (.inl (.inl (.inr this))))))) (Wds.cons (Wd.str (show nmOk x from g1).1 (show nmOk x from g1).2.1) ih))).mono (by show _ ≤ 4 * (21 + 3 + Tr.lws ps); omega)
    | fn xs => exact (Wd.tup (Wds.cons (wd6 (by decide +kernel)) (Wds.cons (Wd.tup (Wds.strs (nm (show xs.length ≤ 8 ∧ ∀ x ∈ xs, nmOk x from g1).2))) ih))).mono (by show _ ≤ 4 * (9 + 13 * xs.length + 3 + Tr.lws ps); omega)
    | bind w xs =>
      obtain ⟨a, b, p, q, r⟩ := ih.split xs.length
      have z := Wds.rows (nm (show 1 ≤ xs.length ∧ xs.length ≤ 10 ∧ ∀ x ∈ xs, nmOk x from g1).2.2) p
      have e : (xs.zip (Tr.encL ps)).map rowD = (xs.zip ((Tr.encL ps).take xs.length)).map rowD := by
        rw [zip_take]
      show Wd _ (.tuple (.str w :: .tuple ((xs.zip (Tr.encL ps)).map rowD) :: (Tr.encL ps).drop xs.length))
      rw [e]
      exact (Wd.tup (Wds.cons (wd6 (by have := o1.2.1; simp only [List.mem_append]; exact .inl (.inl (.inl (.inl (.inr this)))))) (Wds.cons (Wd.tup z) q))).mono (by show _ ≤ 4 * (10 + 17 * xs.length + 3 + Tr.lws ps); omega)
    | doo => exact (Wd.tup (Wds.cons (wd6 (by decide +kernel)) (Wds.cons (Wd.tup ih) Wds.nil))).mono (by show _ ≤ 4 * (5 + 3 + Tr.lws ps); omega)
    | call =>
      obtain ⟨a, b, p, q, r⟩ := ih.split 1
      exact (Wd.tup (Wds.cons (wd6 (by decide +kernel)) (Wds.app p (Wds.cons (Wd.tup q) Wds.nil)))).mono (by show _ ≤ 4 * (2 + 3 + Tr.lws ps); omega)
    | op w => exact (Wd.tup (Wds.cons (wd6 (by decide +kernel)) (Wds.cons (wd6 (by
        simp only [List.mem_append]
        rcases (show rgH (.op w) ps.length from g1) with z | z
        · exact .inl (.inl (.inr z.1))
        · exact .inl (.inr z.1))) (Wds.cons (Wd.tup ih) Wds.nil)))).mono (by show _ ≤ 4 * (9 + 3 + Tr.lws ps); omega)
    | plain w => exact (Wd.tup (Wds.cons (wd6 (by have := o1; simp only [List.mem_append]; exact .inl (.inl (.inl (.inr this))))) ih)).mono (by show _ ≤ 4 * (7 + 3 + Tr.lws ps); omega)
theorem wds_enc : ∀ ps : List Tr, Tr.oks ps → Tr.rgs ps → Wds (4 * Tr.lws ps + ps.length) (Tr.encL ps)
  | [], _, _ => Wds.nil
  | t :: ts, o, g => (Wds.cons (wd_enc t o.1 g.1) (wds_enc ts o.2 g.2)).mono (by
    show 4 * t.lw + 1 + (4 * Tr.lws ts + ts.length) ≤ 4 * (t.lw + Tr.lws ts) + (ts.length + 1)
    omega)
end
/-- a tree as repr takes it -/
theorem rok_enc {K : PySem.W.Frag} {H : Hp} {v : V} {t : Tr} (h : Dp K H v t.enc) (o : t.ok) (g : t.rg) (d : t.dep ≤ 20) (l : t.lw ≤ 200000) : Rok K H v t.enc := by
  have z := wd_enc t o g
  exact ⟨.inl h, z.ok, Nat.le_trans (lay_enc 20 t o d).dep (by decide), Nat.le_trans z.wt (by have : (2 : Nat) ^ 20 = 1048576 := by decide
                                                                                              omega)⟩
end Cm

namespace K00
open PySem L2 Cm
def spLaw (K : PySem.W.Frag) : Sp := fun vs H Q _ => ∃ (a : Addr) (ns : List Int), vs = [.ref a] ∧ SqL K H a (ns.map V.int) ∧ ns.length ≤ 63 ∧ ∀ H', Q (.bl true) H'
structure Calls (P : Program) (w : World) (K : PySem.W.Frag) (mg : Str → Option Value) (base : Heap) : Prop where
  hand : Cl P w K mg base 1 "_law_hand" (spHand K)
  draw : Cl P w K mg base 2 "_law_draw" spDraw
  name : Cl P w K mg base 3 "_law_name" spLName
  any : Cl P w K mg base 19 "_law_any" (spAny K 7)
  text : Cl P w K mg base 16 "_law_text" (spText K 14)
  ptext : Cl P w K mg base 44 "program_text" (spText K 14)
  read : Cl P w K mg base 131 "read_program" (spRead K)
  bare : Cl P w K mg base 35 "_law_bare" (spBare K 14)
theorem joinN_cs {x y : Str} {r : List Str} : cs (Str.join "\n" (x :: y :: r)) = cs x ++ ([10] ++ cs (Str.join "\n" (y :: r))) := by
  have e : Str.join "\n" (x :: y :: r) = x ++ ("\n" : Str) ++ Str.join "\n" (y :: r) := rfl
  rw [e, cs_app, cs_app, List.append_assoc]
  rfl
theorem LayNs.joinN : ∀ {ss : List Str} {ns : List Nd}, LayNs ss ns → LayN (cs (Str.join "\n" ss)) ns
  | [], _, h => by cases h; exact LayN.nil
  | [s], _, h => by
    cases h with
    | cons a b => cases b; exact a
  | s :: s2 :: ss, _, h => by
    cases h with
    | cons a b =>
      have := LayNs.joinN b
      rw [joinN_cs]
      exact LayN.gap a this (fun c m => .inr (List.mem_singleton.mp m)) (fun z => by cases z)
theorem joinN_len : ∀ (ss : List Str), (Str.join "\n" ss).length ≤ l3 ss
  | [] => Nat.zero_le _
  | [x] => by
    show x.length ≤ _
    rw [l3_cons]
    omega
  | x :: y :: r => by
    have ih := joinN_len (y :: r)
    have e : Str.join "\n" (x :: y :: r) = x ++ ("\n" : Str) ++ Str.join "\n" (y :: r) := rfl
    have sp : ("\n" : Str).length = 1 := by decide +kernel
    rw [e, len_app, len_app, sp, l3_cons]
    omega
/-- the texts' lengths and their seps -/
theorem l3_sum (ss : List Str) : (ss.map (·.length)).sum + ss.length ≤ l3 ss := by
  induction ss with
  | nil => exact Nat.le_refl _
  | cons s ss ih =>
    rw [l3_cons, List.map_cons, List.sum_cons, List.length_cons]
    omega
theorem num1 : numS 1 = ("1" : Str) := by decide +kernel
/-- what the law holds while it goes -/
structure Z (K : PySem.W.Frag) (H : Hp) (h c : Addr) (v : V) (t : Tr) : Prop where
  hand : Hand H h c
  tr : Dp K H v t.enc
theorem Z.kp {K : PySem.W.Frag} {H H' : Hp} {h c : Addr} {v : V} {t : Tr} (z : Z K H h c v t) (k : Kh h H H') (hh : Hand H' h c) : Z K H' h c v t := ⟨hh, dp_keep (fun _ _ q => k.tup q) _ _ (flat_enc t) z.tr⟩
theorem Z.same {K : PySem.W.Frag} {H H' : Hp} {h c : Addr} {v : V} {t : Tr} (z : Z K H h c v t) (s : Same H H') : Z K H' h c v t := ⟨z.hand.same s, dp_same s _ _ z.tr⟩
theorem rok_rep {K : PySem.W.Frag} {H : Hp} {v : V} {d : PyData} {Q : VK} (r : Rok K H v d) (q : Q (.str d.shown) H) : rRepr K [v] H Q := ⟨v, d, rfl, r.1, r.2.1, r.2.2.1, r.2.2.2, q⟩
section
variable {P : Program} {w : World} {K : PySem.W.Frag} {mg : Str → Option Value} {base : Heap}
abbrev s_law : Stmt := top 61
abbrev N_law : List Str := ["_law_script", "_law_hand_here", "_law_names", "_law_k", "_law_tree", "_law_text_here", "_law_other"]
theorem sc_law : FnScope N_law ["_law_script"] (defScope s_law) := ⟨rfl, rfl, rfl, by decide +kernel, rfl, by decide +kernel, by decide +kernel⟩
theorem ok_law {f : Addr} {fd : FuncData} (T : Txt mg) (C : Calls P w K mg base) (F : Fun K "law" "law" s_law f fd) : LawAt P w K mg base 132 f fd ["_law_script"] (spLaw K) := by
  refine lawAt_of F sc_law (fun vs H Q E h => ?_) fun cdv A outer s H vs Q E hgd hr h => ?_
  · obtain ⟨a, ns, rfl, _⟩ := h
    rfl
  · obtain ⟨a, ns, rfl, ha, hlen, k⟩ := h
    refine ⟨_, (pss_cons (ps_set (i := 1) sc_law.nd rfl (Or.inr rfl) (pe_c C.hand hr (by decide) (by rfl) (pa_cons (pv 0) pa_nil)))
      (pss_cons (ps_set (i := 2) sc_law.nd rfl (Or.inl rfl) (pe_tupleOf (by rfl) T.tuple (pe_lc (own := [("_law_k", 3)]) rfl sc_law.nd (pi_range1 (by rfl) T.range (pa_cons (pe_op op_add pe_int (pe_c C.draw hr (by decide) (by rfl) (pa_cons (pv 1) (pa_cons pe_int pa_nil)))) pa_nil)) (blkOk_by (N := N_law) (sc := defScope s_law) (by decide +kernel))
      (fun _ _ _ _ _ => (pg_name (i := 3) sc_law.nd rfl (Or.inl rfl)))
      (fun _ _ _ _ _ => pts_nil)
      (fun _ _ _ _ _ => (pe_c C.name hr (by decide) (by rfl) (pa_cons (pv 1) pa_nil))))))
      (pss_cons (ps_set (i := 4) sc_law.nd rfl (Or.inl rfl) (pe_c C.any hr (by decide) (by rfl) (pa_cons (pv 1) (pa_cons pe_int (pa_cons (pv 2) (pa_cons (pe_lst (pa_cons pe_int pa_nil)) pa_nil))))))
      (pss_cons (ps_set (i := 5) sc_law.nd rfl (Or.inl rfl) (pe_c C.text hr (by decide) (by rfl) (pa_cons (pv 4) pa_nil)))
      (pss_cons (ps_if (PW.pt (pw_or (pt_cmpR op_ne (pe_c C.ptext hr (by decide) (by rfl) (pa_cons (pv 4) pa_nil)) (pv 5) (nomark _)) (pw_or1 (pt_cmpR op_ne (pe_callB (call_reprD hgd hr.units) (by rfl) T.repr (by decide +kernel) (pa_cons (pe_c C.read hr (by decide) (by rfl) (pa_cons (pv 5) pa_nil)) pa_nil)) (pe_callB (call_reprD hgd hr.units) (by rfl) T.repr (by decide +kernel) (pa_cons (pv 4) pa_nil)) (nomark _)))))
        (pss_one (ps_ret pe_bl))
        pss_nil)
      (pss_mid (ps_set (i := 6) sc_law.nd rfl (Or.inl rfl) (pe_op op_add_str (pe_op op_add_str (pe_op op_mul01 pe_str (pe_c C.draw hr (by decide) (by rfl) (pa_cons (pv 1) (pa_cons pe_int pa_nil)))) (pe_join pe_str (pe_c C.bare hr (by decide) (by rfl) (pa_cons (pv 1) (pa_cons (pv 4) (pa_cons pe_int pa_nil)))))) (pe_op op_mul01 pe_str (pe_c C.draw hr (by decide) (by rfl) (pa_cons (pv 1) (pa_cons pe_int pa_nil))))))
      (pss_cons (ps_if (pt_cmpR op_ne (pe_callB (call_reprD hgd hr.units) (by rfl) T.repr (by decide +kernel) (pa_cons (pe_c C.read hr (by decide) (by rfl) (pa_cons (pv 6) pa_nil)) pa_nil)) (pe_callB (call_reprD hgd hr.units) (by rfl) T.repr (by decide +kernel) (pa_cons (pv 4) pa_nil)) (nomark _))
        (pss_one (ps_ret pe_bl))
        pss_nil)
      (pss_one (ps_ret (pe_and (pe_cmpR op_eq (pe_callB (call_reprD hgd hr.units) (by rfl) T.repr (by decide +kernel) (pa_cons (pe_c C.read hr (by decide) (by rfl) (pa_cons (pe_op op_add_str (pe_op op_add_str pe_str (pv 5)) pe_str) pa_nil)) pa_nil)) (pe_callB (call_reprD hgd hr.units) (by rfl) T.repr (by decide +kernel) (pa_cons (pe_tup (pa_cons pe_str (pa_cons (pe_tup (pa_cons (pv 4) pa_nil)) pa_nil))) pa_nil)) (nomark _)) (pe_one (pe_cmpR (op_eqD hr.units) (pe_c C.read hr (by decide) (by rfl) (pa_cons (pe_op op_add_str (pv 5) pe_str) pa_nil)) (pe_tup (pa_cons pe_str (pa_cons (pe_tup (pa_cons (pv 4) (pa_cons (pe_tup (pa_cons pe_str (pa_cons pe_int pa_nil))) pa_nil))) pa_nil))) (nomark _))))))))))))), ?_⟩
    refine ⟨_, rfl, a, ns, rfl, ha, hlen, fun h c H1 s1 _ _ hh1 => ?_⟩
    refine ⟨_, rfl, h, c, _, rfl, hh1, by decide, by decide, fun j H2 j0 j1 k2 hh2 => ?_⟩
    obtain ⟨jj, rfl⟩ : ∃ jj : Nat, j = (jj : Int) := ⟨j.toNat, by omega⟩
    obtain ⟨mm, hmm, em⟩ : ∃ mm : Nat, mm = 1 + jj ∧ (1 : Int) + (jj : Int) = (mm : Int) := ⟨1 + jj, rfl, by omega⟩
    refine ⟨_, _, rfl, rfl, ?_⟩
    refine ⟨(mm : Int), congrArg (fun z => [V.int z]) em, by omega, by omega, fun D hD => ?_⟩
    have nD := hh2.there hD
    refine lc_drawJ (K := K) (M := fun a => a = h) (walk_range (lo := 0) (n := mm)) (fun i ds H' => Hand H' h c ∧ ∃ ss : List Str, ds = ss.map PyData.str ∧ ss.length = i ∧ ∀ x ∈ ss, nmOk x) (fun a m => by subst m; exact hh2.lst)
      ⟨hh2.same (same_new hD), [], rfl, rfl, fun x m => by cases m⟩ (fun i ds H ys _ j => by obtain ⟨a, b⟩ := j; exact ⟨a.puts nD.1 nD.2, b⟩) hD (by omega) (fun _ _ _ _ _ => trivial) (fun i ds H j => ?_) ?_ ?_
    · obtain ⟨_, ss, rfl, _⟩ := j
      exact flat_strs' ss
    · rintro i x0 ds H3 H3' hi kk ⟨hh3, ss, rfl, l1, l2⟩ ⟨rfl, rfl⟩ Q1 Q0 q1 q0
      refine ⟨rfl, _, rfl, h, c, rfl, hh3, fun x H4 k4 hh4 hx => q1 (.str x) H4 (.str x) k4 ⟨hh4, ss ++ [x], by rw [List.map_append]; rfl, by rw [List.length_append, l1]; rfl, fun y m => ?_⟩ (.str _)⟩
      rcases List.mem_append.mp m with m | m
      · exact l2 y m
      · rw [List.mem_singleton.mp m]; exact hx
    rintro H3 acc ds k3 ⟨hh3, names, rfl, l1, l2⟩ hacc ha3
    have := dpAll_strs_inv ha3
    subst this
    refine .inl ⟨D, _, rfl, .inl (.inl hacc), fun tn htn => ?_⟩
    have s4 := same_new (o := .tup (names.map V.str)) htn
    have hh4 := hh3.same s4
    have etn : SqT K (upd H3 tn (.tup (names.map V.str))) tn (names.map V.str) := .inl (.inl upd_same)
    generalize upd H3 tn (.tup (names.map V.str)) = H4 at *
    refine ⟨_, rfl, _, rfl, by show 1 ≤ sizeLine; decide, fun r hr0 => ?_⟩
    have s5 := same_new (o := .lst [V.int 16]) hr0
    have hh5 := hh4.same s5
    have nr := hh4.there hr0
    have gn : Gn (upd H4 r (.lst [V.int 16])) h c r 16 := ⟨hh5, upd_same, nr.1, nr.2⟩
    refine ⟨h, c, tn, r, names, 16, 6, rfl, gn, sqt_same s5 etn, fun z => by rw [z] at l1; simp at l1; omega, by omega, l2, by decide, fun v t k' H6 kr6 x6 dt ok sz => ?_⟩
    obtain ⟨sz1, sz2⟩ := sz
    have hlw : t.lw ≤ 2895 := by omega
    have hfw : t.fw ≤ 32 := by omega
    have hdp : t.dep ≤ 13 := ok.dep
    have hdn : t.dn ≤ 25 := ok.dn
    have z6 : Z K H6 h c v t := ⟨x6.hand, dt⟩
    clear sz1 sz2 x6 dt kr6 gn hh5 s5 nr hh4 s4 k3 hh3 hacc ha3 hh2 k2 etn
    obtain ⟨nd, hrd, hly⟩ := txt_rd t ok.ok ok.rg
    have ltx := lw_txt t ok.ok ok.rg
    have hdd := hrd.dn
    have hff := hrd.fw ok.ok ok.rg
    refine ⟨_, rfl, v, t, rfl, z6.tr, ok.ok, ok.rg, by omega, by omega, fun H7 s7 => ?_⟩
    have z7 := z6.same s7
    refine ⟨_, rfl, v, t, rfl, z7.tr, ok.ok, ok.rg, by omega, by omega, fun H8 s8 => ?_⟩
    have z8 := z7.same s8
    refine ⟨_, rfl, rfl, _, rfl, ?_⟩
    rw [decS, decide_eq_true rfl]
    refine iteF ⟨_, rfl, t.txt, [nd], t, rfl, by omega, hly.lays, by show max nd.dep 0 ≤ 30; omega, by show nd.funs + 0 ≤ 60; omega, .one t nd hrd, ok.ok, ok.rg, fun r1 H9 s9 dr => ?_⟩
    have z9 := z8.same s9
    obtain ⟨a1, b1, c1, d1⟩ := rok_enc dr ok.ok ok.rg (by omega) (by omega)
    refine ⟨_, _, rfl, a1, b1, c1, d1, ?_⟩
    refine ⟨_, rfl, ?_⟩
    obtain ⟨a2, b2, c2, d2⟩ := rok_enc z9.tr ok.ok ok.rg (by omega) (by omega)
    refine ⟨_, _, rfl, a2, b2, c2, d2, ?_⟩
    refine ⟨rfl, _, rfl, ?_⟩
    rw [decS, decide_eq_true rfl]
    refine iteF ?_
    clear z6 s7 z7 s8 z8 dr s9
    have q10 : ("\n" : Str).length = 1 := by decide +kernel
    have q1s : (" " : Str).length = 1 := by decide +kernel
    refine ⟨fun σ' H' => ∃ (ot : Str) (ns : List Nd), σ' = [some (.ref a), some (.ref h), some (.ref tn), none, some v, some (.str t.txt), some (.str ot)] ∧ Z K H' h c v t ∧ ot.length ≤ 3000 ∧ Lays (cs ot) ns ∧ Bd t ns, ?_, ?_⟩
    · refine ⟨_, rfl, h, c, _, rfl, z9.hand, by decide, by decide, fun j1' HA ja0 ja1 kA hhA => ?_⟩
      have zA := z9.kp kA hhA
      refine ⟨_, _, rfl, rfl, by omega, ?_, ?_⟩
      · intro e0
        have lp := (show (Str.empty).length = 0 from rfl)
        refine ⟨⟨_, rfl⟩, _, rfl, _, rfl, h, c, v, t, 10, rfl, zA.hand, zA.tr, ok.ok, ok.rg, by omega, by omega, by decide, by decide, fun l ss ns HB kB hhB nl nlh hl hb hlen hly2 hl3 => ?_⟩
        have zB := zA.kp kB hhB
        have hj := joinN_len ss
        have hs3 := l3_sum ss
        refine ⟨_, l, ss, rfl, rfl, .inl (.inl (.inl hl)), by rw [q10]; omega, ?_⟩
        rw [TL.join_eq]
        refine ⟨_, _, rfl, rfl, by rw [sizeLine_eq]; omega, ?_⟩
        refine ⟨_, rfl, h, c, _, rfl, zB.hand, by decide, by decide, fun j2' HC jc0 jc1 kC hhC => ?_⟩
        have zC := zB.kp kC hhC
        refine ⟨_, _, rfl, rfl, by omega, ?_, ?_⟩
        · intro e
          have lq := (show (Str.empty).length = 0 from rfl)
          refine ⟨_, _, rfl, rfl, by rw [len_app, sizeLine_eq]; omega, (Str.empty ++ Str.join "\n" ss) ++ Str.empty, ns, rfl, zC, ?_, ?_, hb⟩
          · rw [len_app, len_app]
            omega
          · rw [cs_app, cs_app]
            exact LayN.tail (l := cs Str.empty ++ cs (Str.join "\n" ss)) (fun r ms hs hr => by rw [List.append_assoc]; exact lays_blank (fun c m => by cases m) (LayNs.joinN hly2 r ms hs hr)) (fun c m => by cases m)
        · intro e
          have lq := (q1s)
          refine ⟨_, _, rfl, rfl, by rw [len_app, sizeLine_eq]; omega, (Str.empty ++ Str.join "\n" ss) ++ (" " : Str), ns, rfl, zC, ?_, ?_, hb⟩
          · rw [len_app, len_app]
            omega
          · rw [cs_app, cs_app]
            exact LayN.tail (l := cs Str.empty ++ cs (Str.join "\n" ss)) (fun r ms hs hr => by rw [List.append_assoc]; exact lays_blank (fun c m => by cases m) (LayNs.joinN hly2 r ms hs hr)) (by decide +kernel)
      · intro e0
        have lp := (q10)
        refine ⟨⟨_, rfl⟩, _, rfl, _, rfl, h, c, v, t, 10, rfl, zA.hand, zA.tr, ok.ok, ok.rg, by omega, by omega, by decide, by decide, fun l ss ns HB kB hhB nl nlh hl hb hlen hly2 hl3 => ?_⟩
        have zB := zA.kp kB hhB
        have hj := joinN_len ss
        have hs3 := l3_sum ss
        refine ⟨_, l, ss, rfl, rfl, .inl (.inl (.inl hl)), by rw [q10]; omega, ?_⟩
        rw [TL.join_eq]
        refine ⟨_, _, rfl, rfl, by rw [sizeLine_eq]; omega, ?_⟩
        refine ⟨_, rfl, h, c, _, rfl, zB.hand, by decide, by decide, fun j2' HC jc0 jc1 kC hhC => ?_⟩
        have zC := zB.kp kC hhC
        refine ⟨_, _, rfl, rfl, by omega, ?_, ?_⟩
        · intro e
          have lq := (show (Str.empty).length = 0 from rfl)
          refine ⟨_, _, rfl, rfl, by rw [len_app, sizeLine_eq]; omega, (("\n" : Str) ++ Str.join "\n" ss) ++ Str.empty, ns, rfl, zC, ?_, ?_, hb⟩
          · rw [len_app, len_app]
            omega
          · rw [cs_app, cs_app]
            exact LayN.tail (l := cs ("\n" : Str) ++ cs (Str.join "\n" ss)) (fun r ms hs hr => by rw [List.append_assoc]; exact lays_blank (by decide +kernel) (LayNs.joinN hly2 r ms hs hr)) (fun c m => by cases m)
        · intro e
          have lq := (q1s)
          refine ⟨_, _, rfl, rfl, by rw [len_app, sizeLine_eq]; omega, (("\n" : Str) ++ Str.join "\n" ss) ++ (" " : Str), ns, rfl, zC, ?_, ?_, hb⟩
          · rw [len_app, len_app]
            omega
          · rw [cs_app, cs_app]
            exact LayN.tail (l := cs ("\n" : Str) ++ cs (Str.join "\n" ss)) (fun r ms hs hr => by rw [List.append_assoc]; exact lays_blank (by decide +kernel) (LayNs.joinN hly2 r ms hs hr)) (by decide +kernel)
    · rintro σ' H4 ⟨ot, ns4, rfl, z4, lot, hlot, hbd⟩
      clear z9
      have hdd2 := hbd.dn
      have hff2 : Nd.funss ns4 ≤ t.fw := by
        cases hbd with
        | one _ n a => have := a.fw ok.ok ok.rg; show n.funs + 0 ≤ t.fw; omega
        | bare ps _ a _ _ =>
          have := (Rd.doo ps ns4 a).fw ok.ok ok.rg
          have e : (Nd.l (.w "do" :: ns4)).funs = fun1 (.w "do" :: ns4) + (0 + Nd.funss ns4) := rfl
          omega
      refine ⟨_, rfl, ot, ns4, t, rfl, lot, hlot, by omega, by omega, hbd, ok.ok, ok.rg, fun r1 H5 s5 dr => ?_⟩
      have z5 := z4.same s5
      obtain ⟨a3, b3, c3, d3⟩ := rok_enc dr ok.ok ok.rg (by omega) (by omega)
      refine ⟨_, _, rfl, a3, b3, c3, d3, ?_⟩
      refine ⟨_, rfl, ?_⟩
      obtain ⟨a4, b4, c4, d4⟩ := rok_enc z5.tr ok.ok ok.rg (by omega) (by omega)
      refine ⟨_, _, rfl, a4, b4, c4, d4, ?_⟩
      refine ⟨rfl, _, rfl, ?_⟩
      rw [decS, decide_eq_true rfl]
      refine iteF ?_
      -- a do around it
      have oD : (Tr.mk .doo [t]).ok := ⟨trivial, Nat.le_of_ble_eq_true rfl, ok.ok, trivial⟩
      have gD : (Tr.mk .doo [t]).rg := ⟨⟨Nat.le_refl _, Nat.le_of_ble_eq_true rfl⟩, trivial, ok.rg, trivial⟩
      have dD : (Tr.mk .doo [t]).dep ≤ 14 := dep_mk.mpr fun u m => by rw [List.mem_singleton.mp m]; exact hdp
      have wD : (Tr.mk .doo [t]).lw = 5 + 3 + (t.lw + 0) := rfl
      have lyD : LayN (cs ((("(do " : Str) ++ t.txt) ++ (")" : Str))) [.l [.w "do", nd]] := by
        have e : cs ((("(do " : Str) ++ t.txt) ++ (")" : Str)) = cs ((("(" : Str) ++ Str.join " " ["do", t.txt]) ++ (")" : Str)) := by
          have e1 : Str.join " " [("do" : Str), t.txt] = ("do" : Str) ++ (" " : Str) ++ t.txt := rfl
          have s1 : cs ("(do " : Str) = cs ("(" : Str) ++ (cs ("do" : Str) ++ cs (" " : Str)) := by decide +kernel
          rw [e1]
          simp only [cs_app, List.append_assoc, s1]
        rw [e]
        exact LayNs.head (by decide +kernel) (.cons hly .nil)
      have q4 : ("(do " : Str).length = 4 := by decide +kernel
      have q5 : (")" : Str).length = 1 := by decide +kernel
      have f0 : fun1 [.w "do", nd] = 0 := by
        show (if ("do" : Str) ∈ funW then 1 else 0) = 0
        exact if_neg (by decide +kernel)
      refine ⟨_, rfl, _, _, rfl, rfl, by rw [q4, sizeLine_eq]; omega, _, _, rfl, rfl, by rw [len_app, q4, q5, sizeLine_eq]; omega, ?_⟩
      refine ⟨_, [.l [.w "do", nd]], .mk .doo [t], rfl, by rw [len_app, len_app, q4, q5]; omega, lyD.lays, by show max (max 0 (max nd.dep 0) + 1) 0 ≤ 30; omega, by show (fun1 [.w "do", nd] + (0 + (nd.funs + 0))) + 0 ≤ 60; omega, .one _ _ (.doo [t] [nd] (Rds.one hrd)), oD, gD, fun r2 H6 s6 dr2 => ?_⟩
      have z6 := z5.same s6
      obtain ⟨a5, b5, c5, d5⟩ := rok_enc dr2 oD gD (by omega) (by omega)
      refine ⟨_, _, rfl, a5, b5, c5, d5, ?_⟩
      refine ⟨_, rfl, by show 1 ≤ sizeLine; decide, fun t1 ht1 => ⟨by show 2 ≤ sizeLine; decide, fun t2 ht2 => ?_⟩⟩
      have u1 := same_new (o := .tup [v]) ht1
      have u2 := same_new (o := .tup [V.str "do", .ref t1]) ht2
      have z7 := z6.same (u1.trans u2)
      have dd7 : Dp K (upd (upd H6 t1 (.tup [v])) t2 (.tup [V.str "do", .ref t1])) (.ref t2) (Tr.mk .doo [t]).enc := .tup (.inl (.inl upd_same)) (.cons (.str _) (.cons (.tup (.inl (.inl (u2 _ _ upd_same))) (.cons z7.tr .nil)) .nil))
      obtain ⟨a6, b6, c6, d6⟩ := rok_enc dd7 oD gD (by omega) (by omega)
      refine ⟨_, _, rfl, a6, b6, c6, d6, ?_⟩
      refine ⟨rfl, ?_⟩
      rw [decS, decide_eq_true rfl]
      refine ⟨_, rfl, iteT ?_⟩
      -- and a number behind it
      have oN : (Tr.mk .doo [t, .mk (.num 1) []]).ok := ⟨trivial, Nat.le_of_ble_eq_true rfl, ok.ok, ⟨rfl, Nat.zero_le _, trivial⟩, trivial⟩
      have gN : (Tr.mk .doo [t, .mk (.num 1) []]).rg := ⟨⟨Nat.le_of_ble_eq_true rfl, Nat.le_of_ble_eq_true rfl⟩, trivial, ok.rg, ⟨(by decide : (1 : Int).natAbs ≤ 1000000000), trivial, trivial⟩, trivial⟩
      have q6 : (" 1" : Str).length = 2 := by decide +kernel
      have lyN : LayN (cs (t.txt ++ (" 1" : Str))) [nd, .w "1"] := by
        rw [cs_app, show cs (" 1" : Str) = [32] ++ cs ("1" : Str) by decide +kernel]
        exact LayN.gap hly (.word (by decide +kernel)) sp_blank (fun z => by cases z)
      refine ⟨_, rfl, _, _, rfl, rfl, by rw [q6, sizeLine_eq]; omega, _, [nd, .w "1"], .mk .doo [t, .mk (.num 1) []], rfl, by rw [len_app, q6]; omega, lyN.lays, by show max nd.dep (max 0 0) ≤ 30; omega, by show nd.funs + (0 + 0) ≤ 60; omega, .bare _ _ (.cons _ _ _ _ hrd (Rds.one (num1 ▸ Cm.Rd.num 1))) (Nat.le_of_ble_eq_true rfl) (Nat.le_of_ble_eq_true rfl), oN, gN, fun r3 H8 s8 dr3 => ?_⟩
      have z8 := z7.same s8
      refine ⟨_, rfl, by show 2 ≤ sizeLine; decide, fun t3 ht3 => ⟨by show 2 ≤ sizeLine; decide, fun t4 ht4 => ⟨by show 2 ≤ sizeLine; decide, fun t5 ht5 => ?_⟩⟩⟩
      have u3 := same_new (o := .tup [V.str "number", .int 1]) ht3
      have u4 := same_new (o := .tup [v, .ref t3]) ht4
      have u5 := same_new (o := .tup [V.str "do", .ref t4]) ht5
      have z9 := z8.same (u3.trans (u4.trans u5))
      have lay := (lay_enc 14 _ oN (dep_mk.mpr fun u m => by
        rcases List.mem_cons.mp m with rfl | m
        · exact hdp
        · rw [List.mem_singleton.mp m]; exact Nat.le_of_ble_eq_true rfl))
      have ly : SeqAt.shaped (Tr.mk .doo [t, .mk (.num 1) []]).enc = true := lay.sh (by decide)
      refine ⟨(Tr.mk .doo [t, .mk (.num 1) []]).enc, (Tr.mk .doo [t, .mk (.num 1) []]).enc, dp_same (u3.trans (u4.trans u5)) _ _ dr3, .tup (.inl (.inl upd_same)) (.cons (.str _) (.cons (.tup (.inl (.inl (u5 _ _ upd_same))) (.cons z9.tr (.cons (.tup (.inl (.inl ((u4.trans u5) _ _ upd_same))) (.cons (.str _) (.cons (.int _) .nil))) .nil))) .nil)), ly, ly, ?_⟩
      rw [SeqAt.eqv_refl]
      · exact k _
      · exact lay.lay
end
end K00

namespace K00
open PySem L2 Cm
/-- the texts of a dict's keys -/
def keyT (e : DictEntry) : Option Str := match e.key with
  | .str x _ => some x
  | _ => none
def dkB (K : PySem.W.Frag) (a : Addr) (ks : List Str) : Bool := match K.lookup a with
  | some ⟨_, _, .dict es _, _⟩ => decide (es.toList.map keyT = ks.map some) && !(a == sysModules)
  | _ => false
theorem keyT_no {z : Str} : ∀ {l : List DictEntry} {ks : List Str}, l.map keyT = ks.map some → z ∉ ks → l.find? (·.key.isStr z) = none ∧ l.any (·.refKey) = false
  | [], _, _, _ => ⟨rfl, rfl⟩
  | e :: l, [], h, _ => by cases h
  | e :: l, k :: ks, h, n => by
    have h1 : keyT e :: l.map keyT = some k :: ks.map some := h
    injection h1 with h2 h3
    have ih := keyT_no h3 (fun m => n (List.mem_cons_of_mem _ m))
    have nk : ¬ z = k := fun q => n (q ▸ List.mem_cons_self)
    obtain ⟨eh, ek, ev⟩ := e
    cases ek with
    | str x t =>
      have : x = k := Option.some.inj h2
      subst this
      have e1 : (Value.str x t).isStr z = false := by
        show (x == z) = false
        rw [beq_eq_false_iff_ne]
        exact fun q => nk q.symm
      refine ⟨?_, ?_⟩
      · rw [List.find?_cons, e1]
        exact ih.1
      · rw [List.any_cons, ih.2]
        rfl
    | _ => cases h2
theorem dk_no {K : PySem.W.Frag} {a : Addr} {ks : List Str} (h : dkB K a ks = true) {z : Str} (n : z ∉ ks) : PySem.W.nsIn K a z = some none := by
  unfold dkB at h
  unfold PySem.W.nsIn
  split at h
  · rename_i c d es m sl e
    rw [e]
    simp only [Bool.and_eq_true, decide_eq_true_eq] at h
    obtain ⟨p, q⟩ := keyT_no h.1 n
    simp only [p, q]
    rfl
  · cases h
theorem dk_low {K : PySem.W.Frag} {a : Addr} {ks : List Str} (h : dkB K a ks = true) : (a == sysModules) = false := by
  unfold dkB at h
  split at h
  · simp only [Bool.and_eq_true] at h
    simpa using h.2
  · cases h
/-- a written pair of numbers -/
def ints2B (K : PySem.W.Frag) (tp : Addr) (lo hi : Int) : Bool := match K.lookup tp with
  | some ⟨.type c, _, .seq its _, _⟩ => decide (c = "tuple") && (match its.toList with
    | [.int a _, .int b _] => decide (a = lo) && decide (b = hi)
    | _ => false)
  | _ => false
theorem ints2_ok {K : PySem.W.Frag} {tp : Addr} {lo hi : Int} (h : ints2B K tp lo hi = true) (H : Hp) : SqT K H tp [.int lo, .int hi] := by
  unfold ints2B at h
  split at h
  · rename_i c d its m sl e
    simp only [Bool.and_eq_true, decide_eq_true_eq] at h
    obtain ⟨h1, h2⟩ := h
    split at h2
    · rename_i a ta b tb e2
      simp only [Bool.and_eq_true, decide_eq_true_eq] at h2
      obtain ⟨rfl, rfl⟩ := h2
      refine .inr ⟨_, its, m, e, by rw [h1], rfl, ?_, ?_⟩
      · rw [← Array.length_toList, e2]
        show 2 ≤ sizeLine
        decide
      · rw [e2]
        exact .cons ⟨_, rfl⟩ (.cons ⟨_, rfl⟩ .nil)
    · cases h2
  · cases h
def cntB (K : PySem.W.Frag) (c : Addr) (L : List (Str × Int × Int)) : Bool := L.all fun r => match PySem.W.nsIn K c r.1 with
  | some (some (.ref tp)) => ints2B K tp r.2.1 r.2.2
  | _ => false
theorem cnt_ok {K : PySem.W.Frag} {c : Addr} {L : List (Str × Int × Int)} (h : cntB K c L = true) : ∀ r ∈ L, ∃ tp : Addr, PySem.W.nsIn K c r.1 = some (some (.ref tp)) ∧ ∀ H, SqT K H tp [.int r.2.1, .int r.2.2] := by
  intro r hr
  have h2 := List.all_eq_true.mp h r hr
  split at h2
  · rename_i tp e
    exact ⟨tp, e, ints2_ok h2⟩
  · cases h2
end K00

namespace K00
open PySem L2 Cm
theorem at_mk {K : PySem.W.Frag} {h : Heap} {mg : Str → Option Value} {x : Str} {st : Stmt} {ps : List Str} {f : Addr} {oc : Value} {od an : Option Addr} {osl : Array (Option Value)} {kV doc pm cdv ct : Value} (X : K.In h) (G : h.Ns mainGlobals mg)
    (a : PySem.W.nsIn K mainGlobals x = some (some (.ref f))) (l : K.lookup f = some ⟨oc, od, .func (PySem.W.fnOf x x (defArgs st) (defBody st) (defScope st) .none kV doc pm an cdv ct), osl⟩) (c : PySem.W.codeIn K cdv x = true) (k : PySem.W.keepIn K (.ref f) = true)
    (b : ∀ (kV doc pm : Value) (an : Option Addr) (cdv ct : Value) (us : List Value), us.length = ps.length → bindArgs (PySem.W.fnOf x x (defArgs st) (defBody st) (defScope st) .none kV doc pm an cdv ct) ⟨us, []⟩ = pure (ps.zip us)) : At K mg x st ps :=
  ⟨_, _, fun_mk l c k, PySem.W.mg_of X G a, (fun_mk l c k).binds b⟩
theorem all_mk {l : PySem.W.OpenLaw} {w : World} {K : PySem.W.Frag} {h : Heap} {mg : Str → Option Value} {fa f0 f1 f2 f3 f4 f5 f6 f7 f8 f9 f10 f11 f12 f13 f14 f15 f16 f17 f18 f19 f20 f21 f22 f23 f24 f25 f26 f27 f28 f29 f30 f31 f32 f33 f34 f35 f36 f37 f38 f39 f40 f41 : Addr} (X : K.In h) (G : h.Ns mainGlobals mg) (hfa : mg "law" = some (.ref fa))
    {od0 an0 : Option Addr} {sl0 : Array (Option Value)} {oc0 kV0 dc0 pm0 cd0 ct0 : Value} (a0 : PySem.W.nsIn K mainGlobals "_law_mix" = some (some (.ref f0))) (l0 : K.lookup f0 = some ⟨oc0, od0, .func (PySem.W.fnOf "_law_mix" "_law_mix" (defArgs s_l_mix) (defBody s_l_mix) (defScope s_l_mix) .none kV0 dc0 pm0 an0 cd0 ct0), sl0⟩) (c0 : PySem.W.codeIn K cd0 "_law_mix" = true) (k0 : PySem.W.keepIn K (.ref f0) = true)
    {od1 an1 : Option Addr} {sl1 : Array (Option Value)} {oc1 kV1 dc1 pm1 cd1 ct1 : Value} (a1 : PySem.W.nsIn K mainGlobals "_law_hand" = some (some (.ref f1))) (l1 : K.lookup f1 = some ⟨oc1, od1, .func (PySem.W.fnOf "_law_hand" "_law_hand" (defArgs s_l_hand) (defBody s_l_hand) (defScope s_l_hand) .none kV1 dc1 pm1 an1 cd1 ct1), sl1⟩) (c1 : PySem.W.codeIn K cd1 "_law_hand" = true) (k1 : PySem.W.keepIn K (.ref f1) = true)
    {od2 an2 : Option Addr} {sl2 : Array (Option Value)} {oc2 kV2 dc2 pm2 cd2 ct2 : Value} (a2 : PySem.W.nsIn K mainGlobals "_law_draw" = some (some (.ref f2))) (l2 : K.lookup f2 = some ⟨oc2, od2, .func (PySem.W.fnOf "_law_draw" "_law_draw" (defArgs s_l_draw) (defBody s_l_draw) (defScope s_l_draw) .none kV2 dc2 pm2 an2 cd2 ct2), sl2⟩) (c2 : PySem.W.codeIn K cd2 "_law_draw" = true) (k2 : PySem.W.keepIn K (.ref f2) = true)
    {od3 an3 : Option Addr} {sl3 : Array (Option Value)} {oc3 kV3 dc3 pm3 cd3 ct3 : Value} (a3 : PySem.W.nsIn K mainGlobals "_law_pick" = some (some (.ref f3))) (l3 : K.lookup f3 = some ⟨oc3, od3, .func (PySem.W.fnOf "_law_pick" "_law_pick" (defArgs s_l_pick) (defBody s_l_pick) (defScope s_l_pick) .none kV3 dc3 pm3 an3 cd3 ct3), sl3⟩) (c3 : PySem.W.codeIn K cd3 "_law_pick" = true) (k3 : PySem.W.keepIn K (.ref f3) = true)
    {od4 an4 : Option Addr} {sl4 : Array (Option Value)} {oc4 kV4 dc4 pm4 cd4 ct4 : Value} (a4 : PySem.W.nsIn K mainGlobals "read_program" = some (some (.ref f4))) (l4 : K.lookup f4 = some ⟨oc4, od4, .func (PySem.W.fnOf "read_program" "read_program" (defArgs s_p_read_program) (defBody s_p_read_program) (defScope s_p_read_program) .none kV4 dc4 pm4 an4 cd4 ct4), sl4⟩) (c4 : PySem.W.codeIn K cd4 "read_program" = true) (k4 : PySem.W.keepIn K (.ref f4) = true)
    {od5 an5 : Option Addr} {sl5 : Array (Option Value)} {oc5 kV5 dc5 pm5 cd5 ct5 : Value} (a5 : PySem.W.nsIn K mainGlobals "_check_signs" = some (some (.ref f5))) (l5 : K.lookup f5 = some ⟨oc5, od5, .func (PySem.W.fnOf "_check_signs" "_check_signs" (defArgs s_p_check_signs) (defBody s_p_check_signs) (defScope s_p_check_signs) .none kV5 dc5 pm5 an5 cd5 ct5), sl5⟩) (c5 : PySem.W.codeIn K cd5 "_check_signs" = true) (k5 : PySem.W.keepIn K (.ref f5) = true)
    {od6 an6 : Option Addr} {sl6 : Array (Option Value)} {oc6 kV6 dc6 pm6 cd6 ct6 : Value} (a6 : PySem.W.nsIn K mainGlobals "_check_brackets" = some (some (.ref f6))) (l6 : K.lookup f6 = some ⟨oc6, od6, .func (PySem.W.fnOf "_check_brackets" "_check_brackets" (defArgs s_p_check_brackets) (defBody s_p_check_brackets) (defScope s_p_check_brackets) .none kV6 dc6 pm6 an6 cd6 ct6), sl6⟩) (c6 : PySem.W.codeIn K cd6 "_check_brackets" = true) (k6 : PySem.W.keepIn K (.ref f6) = true)
    {od7 an7 : Option Addr} {sl7 : Array (Option Value)} {oc7 kV7 dc7 pm7 cd7 ct7 : Value} (a7 : PySem.W.nsIn K mainGlobals "_nodes_of" = some (some (.ref f7))) (l7 : K.lookup f7 = some ⟨oc7, od7, .func (PySem.W.fnOf "_nodes_of" "_nodes_of" (defArgs s_p_nodes_of) (defBody s_p_nodes_of) (defScope s_p_nodes_of) .none kV7 dc7 pm7 an7 cd7 ct7), sl7⟩) (c7 : PySem.W.codeIn K cd7 "_nodes_of" = true) (k7 : PySem.W.keepIn K (.ref f7) = true)
    {od8 an8 : Option Addr} {sl8 : Array (Option Value)} {oc8 kV8 dc8 pm8 cd8 ct8 : Value} (a8 : PySem.W.nsIn K mainGlobals "_pieces_of" = some (some (.ref f8))) (l8 : K.lookup f8 = some ⟨oc8, od8, .func (PySem.W.fnOf "_pieces_of" "_pieces_of" (defArgs s_p_pieces_of) (defBody s_p_pieces_of) (defScope s_p_pieces_of) .none kV8 dc8 pm8 an8 cd8 ct8), sl8⟩) (c8 : PySem.W.codeIn K cd8 "_pieces_of" = true) (k8 : PySem.W.keepIn K (.ref f8) = true)
    {od9 an9 : Option Addr} {sl9 : Array (Option Value)} {oc9 kV9 dc9 pm9 cd9 ct9 : Value} (a9 : PySem.W.nsIn K mainGlobals "_is_word" = some (some (.ref f9))) (l9 : K.lookup f9 = some ⟨oc9, od9, .func (PySem.W.fnOf "_is_word" "_is_word" (defArgs s_p_is_word) (defBody s_p_is_word) (defScope s_p_is_word) .none kV9 dc9 pm9 an9 cd9 ct9), sl9⟩) (c9 : PySem.W.codeIn K cd9 "_is_word" = true) (k9 : PySem.W.keepIn K (.ref f9) = true)
    {od10 an10 : Option Addr} {sl10 : Array (Option Value)} {oc10 kV10 dc10 pm10 cd10 ct10 : Value} (a10 : PySem.W.nsIn K mainGlobals "_first_word" = some (some (.ref f10))) (l10 : K.lookup f10 = some ⟨oc10, od10, .func (PySem.W.fnOf "_first_word" "_first_word" (defArgs s_p_first_word) (defBody s_p_first_word) (defScope s_p_first_word) .none kV10 dc10 pm10 an10 cd10 ct10), sl10⟩) (c10 : PySem.W.codeIn K cd10 "_first_word" = true) (k10 : PySem.W.keepIn K (.ref f10) = true)
    {od11 an11 : Option Addr} {sl11 : Array (Option Value)} {oc11 kV11 dc11 pm11 cd11 ct11 : Value} (a11 : PySem.W.nsIn K mainGlobals "_count_funs" = some (some (.ref f11))) (l11 : K.lookup f11 = some ⟨oc11, od11, .func (PySem.W.fnOf "_count_funs" "_count_funs" (defArgs s_p_count_funs) (defBody s_p_count_funs) (defScope s_p_count_funs) .none kV11 dc11 pm11 an11 cd11 ct11), sl11⟩) (c11 : PySem.W.codeIn K cd11 "_count_funs" = true) (k11 : PySem.W.keepIn K (.ref f11) = true)
    {od12 an12 : Option Addr} {sl12 : Array (Option Value)} {oc12 kV12 dc12 pm12 cd12 ct12 : Value} (a12 : PySem.W.nsIn K mainGlobals "is_number" = some (some (.ref f12))) (l12 : K.lookup f12 = some ⟨oc12, od12, .func (PySem.W.fnOf "is_number" "is_number" (defArgs s_p_is_number) (defBody s_p_is_number) (defScope s_p_is_number) .none kV12 dc12 pm12 an12 cd12 ct12), sl12⟩) (c12 : PySem.W.codeIn K cd12 "is_number" = true) (k12 : PySem.W.keepIn K (.ref f12) = true)
    {od13 an13 : Option Addr} {sl13 : Array (Option Value)} {oc13 kV13 dc13 pm13 cd13 ct13 : Value} (a13 : PySem.W.nsIn K mainGlobals "_is_name" = some (some (.ref f13))) (l13 : K.lookup f13 = some ⟨oc13, od13, .func (PySem.W.fnOf "_is_name" "_is_name" (defArgs s_p_is_name) (defBody s_p_is_name) (defScope s_p_is_name) .none kV13 dc13 pm13 an13 cd13 ct13), sl13⟩) (c13 : PySem.W.codeIn K cd13 "_is_name" = true) (k13 : PySem.W.keepIn K (.ref f13) = true)
    {od14 an14 : Option Addr} {sl14 : Array (Option Value)} {oc14 kV14 dc14 pm14 cd14 ct14 : Value} (a14 : PySem.W.nsIn K mainGlobals "_form_of" = some (some (.ref f14))) (l14 : K.lookup f14 = some ⟨oc14, od14, .func (PySem.W.fnOf "_form_of" "_form_of" (defArgs s_p_form_of) (defBody s_p_form_of) (defScope s_p_form_of) .none kV14 dc14 pm14 an14 cd14 ct14), sl14⟩) (c14 : PySem.W.codeIn K cd14 "_form_of" = true) (k14 : PySem.W.keepIn K (.ref f14) = true)
    {od15 an15 : Option Addr} {sl15 : Array (Option Value)} {oc15 kV15 dc15 pm15 cd15 ct15 : Value} (a15 : PySem.W.nsIn K mainGlobals "is_op" = some (some (.ref f15))) (l15 : K.lookup f15 = some ⟨oc15, od15, .func (PySem.W.fnOf "is_op" "is_op" (defArgs s_p_is_op) (defBody s_p_is_op) (defScope s_p_is_op) .none kV15 dc15 pm15 an15 cd15 ct15), sl15⟩) (c15 : PySem.W.codeIn K cd15 "is_op" = true) (k15 : PySem.W.keepIn K (.ref f15) = true)
    {od16 an16 : Option Addr} {sl16 : Array (Option Value)} {oc16 kV16 dc16 pm16 cd16 ct16 : Value} (a16 : PySem.W.nsIn K mainGlobals "_form_of_word" = some (some (.ref f16))) (l16 : K.lookup f16 = some ⟨oc16, od16, .func (PySem.W.fnOf "_form_of_word" "_form_of_word" (defArgs s_p_form_of_word) (defBody s_p_form_of_word) (defScope s_p_form_of_word) .none kV16 dc16 pm16 an16 cd16 ct16), sl16⟩) (c16 : PySem.W.codeIn K cd16 "_form_of_word" = true) (k16 : PySem.W.keepIn K (.ref f16) = true)
    {od17 an17 : Option Addr} {sl17 : Array (Option Value)} {oc17 kV17 dc17 pm17 cd17 ct17 : Value} (a17 : PySem.W.nsIn K mainGlobals "_forms_of" = some (some (.ref f17))) (l17 : K.lookup f17 = some ⟨oc17, od17, .func (PySem.W.fnOf "_forms_of" "_forms_of" (defArgs s_p_forms_of) (defBody s_p_forms_of) (defScope s_p_forms_of) .none kV17 dc17 pm17 an17 cd17 ct17), sl17⟩) (c17 : PySem.W.codeIn K cd17 "_forms_of" = true) (k17 : PySem.W.keepIn K (.ref f17) = true)
    {od18 an18 : Option Addr} {sl18 : Array (Option Value)} {oc18 kV18 dc18 pm18 cd18 ct18 : Value} (a18 : PySem.W.nsIn K mainGlobals "_body_of" = some (some (.ref f18))) (l18 : K.lookup f18 = some ⟨oc18, od18, .func (PySem.W.fnOf "_body_of" "_body_of" (defArgs s_p_body_of) (defBody s_p_body_of) (defScope s_p_body_of) .none kV18 dc18 pm18 an18 cd18 ct18), sl18⟩) (c18 : PySem.W.codeIn K cd18 "_body_of" = true) (k18 : PySem.W.keepIn K (.ref f18) = true)
    {od19 an19 : Option Addr} {sl19 : Array (Option Value)} {oc19 kV19 dc19 pm19 cd19 ct19 : Value} (a19 : PySem.W.nsIn K mainGlobals "_name_of" = some (some (.ref f19))) (l19 : K.lookup f19 = some ⟨oc19, od19, .func (PySem.W.fnOf "_name_of" "_name_of" (defArgs s_p_name_of) (defBody s_p_name_of) (defScope s_p_name_of) .none kV19 dc19 pm19 an19 cd19 ct19), sl19⟩) (c19 : PySem.W.codeIn K cd19 "_name_of" = true) (k19 : PySem.W.keepIn K (.ref f19) = true)
    {od20 an20 : Option Addr} {sl20 : Array (Option Value)} {oc20 kV20 dc20 pm20 cd20 ct20 : Value} (a20 : PySem.W.nsIn K mainGlobals "_fn_shape" = some (some (.ref f20))) (l20 : K.lookup f20 = some ⟨oc20, od20, .func (PySem.W.fnOf "_fn_shape" "_fn_shape" (defArgs s_p_fn_shape) (defBody s_p_fn_shape) (defScope s_p_fn_shape) .none kV20 dc20 pm20 an20 cd20 ct20), sl20⟩) (c20 : PySem.W.codeIn K cd20 "_fn_shape" = true) (k20 : PySem.W.keepIn K (.ref f20) = true)
    {od21 an21 : Option Addr} {sl21 : Array (Option Value)} {oc21 kV21 dc21 pm21 cd21 ct21 : Value} (a21 : PySem.W.nsIn K mainGlobals "_rows_shape" = some (some (.ref f21))) (l21 : K.lookup f21 = some ⟨oc21, od21, .func (PySem.W.fnOf "_rows_shape" "_rows_shape" (defArgs s_p_rows_shape) (defBody s_p_rows_shape) (defScope s_p_rows_shape) .none kV21 dc21 pm21 an21 cd21 ct21), sl21⟩) (c21 : PySem.W.codeIn K cd21 "_rows_shape" = true) (k21 : PySem.W.keepIn K (.ref f21) = true)
    {od22 an22 : Option Addr} {sl22 : Array (Option Value)} {oc22 kV22 dc22 pm22 cd22 ct22 : Value} (a22 : PySem.W.nsIn K mainGlobals "_row_of" = some (some (.ref f22))) (l22 : K.lookup f22 = some ⟨oc22, od22, .func (PySem.W.fnOf "_row_of" "_row_of" (defArgs s_p_row_of) (defBody s_p_row_of) (defScope s_p_row_of) .none kV22 dc22 pm22 an22 cd22 ct22), sl22⟩) (c22 : PySem.W.codeIn K cd22 "_row_of" = true) (k22 : PySem.W.keepIn K (.ref f22) = true)
    {od23 an23 : Option Addr} {sl23 : Array (Option Value)} {oc23 kV23 dc23 pm23 cd23 ct23 : Value} (a23 : PySem.W.nsIn K mainGlobals "_name_shape" = some (some (.ref f23))) (l23 : K.lookup f23 = some ⟨oc23, od23, .func (PySem.W.fnOf "_name_shape" "_name_shape" (defArgs s_p_name_shape) (defBody s_p_name_shape) (defScope s_p_name_shape) .none kV23 dc23 pm23 an23 cd23 ct23), sl23⟩) (c23 : PySem.W.codeIn K cd23 "_name_shape" = true) (k23 : PySem.W.keepIn K (.ref f23) = true)
    {od24 an24 : Option Addr} {sl24 : Array (Option Value)} {oc24 kV24 dc24 pm24 cd24 ct24 : Value} (a24 : PySem.W.nsIn K mainGlobals "_plain_shape" = some (some (.ref f24))) (l24 : K.lookup f24 = some ⟨oc24, od24, .func (PySem.W.fnOf "_plain_shape" "_plain_shape" (defArgs s_p_plain_shape) (defBody s_p_plain_shape) (defScope s_p_plain_shape) .none kV24 dc24 pm24 an24 cd24 ct24), sl24⟩) (c24 : PySem.W.codeIn K cd24 "_plain_shape" = true) (k24 : PySem.W.keepIn K (.ref f24) = true)
    {od25 an25 : Option Addr} {sl25 : Array (Option Value)} {oc25 kV25 dc25 pm25 cd25 ct25 : Value} (a25 : PySem.W.nsIn K mainGlobals "_do_shape" = some (some (.ref f25))) (l25 : K.lookup f25 = some ⟨oc25, od25, .func (PySem.W.fnOf "_do_shape" "_do_shape" (defArgs s_p_do_shape) (defBody s_p_do_shape) (defScope s_p_do_shape) .none kV25 dc25 pm25 an25 cd25 ct25), sl25⟩) (c25 : PySem.W.codeIn K cd25 "_do_shape" = true) (k25 : PySem.W.keepIn K (.ref f25) = true)
    {od26 an26 : Option Addr} {sl26 : Array (Option Value)} {oc26 kV26 dc26 pm26 cd26 ct26 : Value} (a26 : PySem.W.nsIn K mainGlobals "program_text" = some (some (.ref f26))) (l26 : K.lookup f26 = some ⟨oc26, od26, .func (PySem.W.fnOf "program_text" "program_text" (defArgs s_p_program_text) (defBody s_p_program_text) (defScope s_p_program_text) .none kV26 dc26 pm26 an26 cd26 ct26), sl26⟩) (c26 : PySem.W.codeIn K cd26 "program_text" = true) (k26 : PySem.W.keepIn K (.ref f26) = true)
    {od27 an27 : Option Addr} {sl27 : Array (Option Value)} {oc27 kV27 dc27 pm27 cd27 ct27 : Value} (a27 : PySem.W.nsIn K mainGlobals "_items_of" = some (some (.ref f27))) (l27 : K.lookup f27 = some ⟨oc27, od27, .func (PySem.W.fnOf "_items_of" "_items_of" (defArgs s_p_items_of) (defBody s_p_items_of) (defScope s_p_items_of) .none kV27 dc27 pm27 an27 cd27 ct27), sl27⟩) (c27 : PySem.W.codeIn K cd27 "_items_of" = true) (k27 : PySem.W.keepIn K (.ref f27) = true)
    {od28 an28 : Option Addr} {sl28 : Array (Option Value)} {oc28 kV28 dc28 pm28 cd28 ct28 : Value} (a28 : PySem.W.nsIn K mainGlobals "_texts_of" = some (some (.ref f28))) (l28 : K.lookup f28 = some ⟨oc28, od28, .func (PySem.W.fnOf "_texts_of" "_texts_of" (defArgs s_p_texts_of) (defBody s_p_texts_of) (defScope s_p_texts_of) .none kV28 dc28 pm28 an28 cd28 ct28), sl28⟩) (c28 : PySem.W.codeIn K cd28 "_texts_of" = true) (k28 : PySem.W.keepIn K (.ref f28) = true)
    {od29 an29 : Option Addr} {sl29 : Array (Option Value)} {oc29 kV29 dc29 pm29 cd29 ct29 : Value} (a29 : PySem.W.nsIn K mainGlobals "_in_brackets" = some (some (.ref f29))) (l29 : K.lookup f29 = some ⟨oc29, od29, .func (PySem.W.fnOf "_in_brackets" "_in_brackets" (defArgs s_p_in_brackets) (defBody s_p_in_brackets) (defScope s_p_in_brackets) .none kV29 dc29 pm29 an29 cd29 ct29), sl29⟩) (c29 : PySem.W.codeIn K cd29 "_in_brackets" = true) (k29 : PySem.W.keepIn K (.ref f29) = true)
    {od30 an30 : Option Addr} {sl30 : Array (Option Value)} {oc30 kV30 dc30 pm30 cd30 ct30 : Value} (a30 : PySem.W.nsIn K mainGlobals "_law_text" = some (some (.ref f30))) (l30 : K.lookup f30 = some ⟨oc30, od30, .func (PySem.W.fnOf "_law_text" "_law_text" (defArgs s_l_text) (defBody s_l_text) (defScope s_l_text) .none kV30 dc30 pm30 an30 cd30 ct30), sl30⟩) (c30 : PySem.W.codeIn K cd30 "_law_text" = true) (k30 : PySem.W.keepIn K (.ref f30) = true)
    {od31 an31 : Option Addr} {sl31 : Array (Option Value)} {oc31 kV31 dc31 pm31 cd31 ct31 : Value} (a31 : PySem.W.nsIn K mainGlobals "_law_name" = some (some (.ref f31))) (l31 : K.lookup f31 = some ⟨oc31, od31, .func (PySem.W.fnOf "_law_name" "_law_name" (defArgs s_l_name) (defBody s_l_name) (defScope s_l_name) .none kV31 dc31 pm31 an31 cd31 ct31), sl31⟩) (c31 : PySem.W.codeIn K cd31 "_law_name" = true) (k31 : PySem.W.keepIn K (.ref f31) = true)
    {od32 an32 : Option Addr} {sl32 : Array (Option Value)} {oc32 kV32 dc32 pm32 cd32 ct32 : Value} (a32 : PySem.W.nsIn K mainGlobals "_law_any_leaf" = some (some (.ref f32))) (l32 : K.lookup f32 = some ⟨oc32, od32, .func (PySem.W.fnOf "_law_any_leaf" "_law_any_leaf" (defArgs s_l_any_leaf) (defBody s_l_any_leaf) (defScope s_l_any_leaf) .none kV32 dc32 pm32 an32 cd32 ct32), sl32⟩) (c32 : PySem.W.codeIn K cd32 "_law_any_leaf" = true) (k32 : PySem.W.keepIn K (.ref f32) = true)
    {od33 an33 : Option Addr} {sl33 : Array (Option Value)} {oc33 kV33 dc33 pm33 cd33 ct33 : Value} (a33 : PySem.W.nsIn K mainGlobals "_law_any_names" = some (some (.ref f33))) (l33 : K.lookup f33 = some ⟨oc33, od33, .func (PySem.W.fnOf "_law_any_names" "_law_any_names" (defArgs s_l_any_names) (defBody s_l_any_names) (defScope s_l_any_names) .none kV33 dc33 pm33 an33 cd33 ct33), sl33⟩) (c33 : PySem.W.codeIn K cd33 "_law_any_names" = true) (k33 : PySem.W.keepIn K (.ref f33) = true)
    {od34 an34 : Option Addr} {sl34 : Array (Option Value)} {oc34 kV34 dc34 pm34 cd34 ct34 : Value} (a34 : PySem.W.nsIn K mainGlobals "_law_any_fun" = some (some (.ref f34))) (l34 : K.lookup f34 = some ⟨oc34, od34, .func (PySem.W.fnOf "_law_any_fun" "_law_any_fun" (defArgs s_l_any_fun) (defBody s_l_any_fun) (defScope s_l_any_fun) .none kV34 dc34 pm34 an34 cd34 ct34), sl34⟩) (c34 : PySem.W.codeIn K cd34 "_law_any_fun" = true) (k34 : PySem.W.keepIn K (.ref f34) = true)
    {od35 an35 : Option Addr} {sl35 : Array (Option Value)} {oc35 kV35 dc35 pm35 cd35 ct35 : Value} (a35 : PySem.W.nsIn K mainGlobals "_law_any" = some (some (.ref f35))) (l35 : K.lookup f35 = some ⟨oc35, od35, .func (PySem.W.fnOf "_law_any" "_law_any" (defArgs s_l_any) (defBody s_l_any) (defScope s_l_any) .none kV35 dc35 pm35 an35 cd35 ct35), sl35⟩) (c35 : PySem.W.codeIn K cd35 "_law_any" = true) (k35 : PySem.W.keepIn K (.ref f35) = true)
    {od36 an36 : Option Addr} {sl36 : Array (Option Value)} {oc36 kV36 dc36 pm36 cd36 ct36 : Value} (a36 : PySem.W.nsIn K mainGlobals "_law_parts" = some (some (.ref f36))) (l36 : K.lookup f36 = some ⟨oc36, od36, .func (PySem.W.fnOf "_law_parts" "_law_parts" (defArgs s_l_parts) (defBody s_l_parts) (defScope s_l_parts) .none kV36 dc36 pm36 an36 cd36 ct36), sl36⟩) (c36 : PySem.W.codeIn K cd36 "_law_parts" = true) (k36 : PySem.W.keepIn K (.ref f36) = true)
    {od37 an37 : Option Addr} {sl37 : Array (Option Value)} {oc37 kV37 dc37 pm37 cd37 ct37 : Value} (a37 : PySem.W.nsIn K mainGlobals "_law_gap" = some (some (.ref f37))) (l37 : K.lookup f37 = some ⟨oc37, od37, .func (PySem.W.fnOf "_law_gap" "_law_gap" (defArgs s_l_gap) (defBody s_l_gap) (defScope s_l_gap) .none kV37 dc37 pm37 an37 cd37 ct37), sl37⟩) (c37 : PySem.W.codeIn K cd37 "_law_gap" = true) (k37 : PySem.W.keepIn K (.ref f37) = true)
    {od38 an38 : Option Addr} {sl38 : Array (Option Value)} {oc38 kV38 dc38 pm38 cd38 ct38 : Value} (a38 : PySem.W.nsIn K mainGlobals "_law_bare" = some (some (.ref f38))) (l38 : K.lookup f38 = some ⟨oc38, od38, .func (PySem.W.fnOf "_law_bare" "_law_bare" (defArgs s_l_bare) (defBody s_l_bare) (defScope s_l_bare) .none kV38 dc38 pm38 an38 cd38 ct38), sl38⟩) (c38 : PySem.W.codeIn K cd38 "_law_bare" = true) (k38 : PySem.W.keepIn K (.ref f38) = true)
    {od39 an39 : Option Addr} {sl39 : Array (Option Value)} {oc39 kV39 dc39 pm39 cd39 ct39 : Value} (a39 : PySem.W.nsIn K mainGlobals "_law_row" = some (some (.ref f39))) (l39 : K.lookup f39 = some ⟨oc39, od39, .func (PySem.W.fnOf "_law_row" "_law_row" (defArgs s_l_row) (defBody s_l_row) (defScope s_l_row) .none kV39 dc39 pm39 an39 cd39 ct39), sl39⟩) (c39 : PySem.W.codeIn K cd39 "_law_row" = true) (k39 : PySem.W.keepIn K (.ref f39) = true)
    {od40 an40 : Option Addr} {sl40 : Array (Option Value)} {oc40 kV40 dc40 pm40 cd40 ct40 : Value} (a40 : PySem.W.nsIn K mainGlobals "_law_loose" = some (some (.ref f40))) (l40 : K.lookup f40 = some ⟨oc40, od40, .func (PySem.W.fnOf "_law_loose" "_law_loose" (defArgs s_l_loose) (defBody s_l_loose) (defScope s_l_loose) .none kV40 dc40 pm40 an40 cd40 ct40), sl40⟩) (c40 : PySem.W.codeIn K cd40 "_law_loose" = true) (k40 : PySem.W.keepIn K (.ref f40) = true)
    {od41 an41 : Option Addr} {sl41 : Array (Option Value)} {oc41 kV41 dc41 pm41 cd41 ct41 : Value} (a41 : PySem.W.nsIn K mainGlobals "law" = some (some (.ref f41))) (l41 : K.lookup f41 = some ⟨oc41, od41, .func (PySem.W.fnOf "law" "law" (defArgs s_law) (defBody s_law) (defScope s_law) .none kV41 dc41 pm41 an41 cd41 ct41), sl41⟩) (c41 : PySem.W.codeIn K cd41 "law" = true) (k41 : PySem.W.keepIn K (.ref f41) = true)
    (z_abs : PySem.W.nsIn K mainGlobals "abs" = some none)
    (z_enumerate : PySem.W.nsIn K mainGlobals "enumerate" = some none)
    (z_int : PySem.W.nsIn K mainGlobals "int" = some none)
    (z_isinstance : PySem.W.nsIn K mainGlobals "isinstance" = some none)
    (z_len : PySem.W.nsIn K mainGlobals "len" = some none)
    (z_list : PySem.W.nsIn K mainGlobals "list" = some none)
    (z_min : PySem.W.nsIn K mainGlobals "min" = some none)
    (z_range : PySem.W.nsIn K mainGlobals "range" = some none)
    (z_repr : PySem.W.nsIn K mainGlobals "repr" = some none)
    (z_str : PySem.W.nsIn K mainGlobals "str" = some none)
    (z_tuple : PySem.W.nsIn K mainGlobals "tuple" = some none)
    {tk_MOST_SIGNS : Tok} (g_MOST_SIGNS : PySem.W.nsIn K mainGlobals "MOST_SIGNS" = some (some (.int 3000 tk_MOST_SIGNS)))
    {tk_MOST_DEEP : Tok} (g_MOST_DEEP : PySem.W.nsIn K mainGlobals "MOST_DEEP" = some (some (.int 30 tk_MOST_DEEP)))
    {tk_MOST_ITEMS : Tok} (g_MOST_ITEMS : PySem.W.nsIn K mainGlobals "MOST_ITEMS" = some (some (.int 10 tk_MOST_ITEMS)))
    {tk_MOST_NAMES : Tok} (g_MOST_NAMES : PySem.W.nsIn K mainGlobals "MOST_NAMES" = some (some (.int 8 tk_MOST_NAMES)))
    {tk_MOST_FUNS : Tok} (g_MOST_FUNS : PySem.W.nsIn K mainGlobals "MOST_FUNS" = some (some (.int 60 tk_MOST_FUNS)))
    {tk_GREATEST : Tok} (g_GREATEST : PySem.W.nsIn K mainGlobals "GREATEST" = some (some (.int 1000000000 tk_GREATEST)))
    {tk_NAME_SIGNS : Tok} (g_NAME_SIGNS : PySem.W.nsIn K mainGlobals "NAME_SIGNS" = some (some (.int 12 tk_NAME_SIGNS)))
    {tk_LETTERS : Tok} (g_LETTERS : PySem.W.nsIn K mainGlobals "LETTERS" = some (some (.str "abcdefghijklmnopqrstuvwxyz" tk_LETTERS)))
    {tk_FIGURES : Tok} (g_FIGURES : PySem.W.nsIn K mainGlobals "FIGURES" = some (some (.str "0123456789" tk_FIGURES)))
    {ca_KEPT_WORDS : Addr} {od_KEPT_WORDS : Option Addr} {n_KEPT_WORDS : Nat} {sl_KEPT_WORDS : Array (Option Value)} {tk0_KEPT_WORDS tk1_KEPT_WORDS tk2_KEPT_WORDS tk3_KEPT_WORDS tk4_KEPT_WORDS tk5_KEPT_WORDS tk6_KEPT_WORDS tk7_KEPT_WORDS tk8_KEPT_WORDS tk9_KEPT_WORDS tk10_KEPT_WORDS tk11_KEPT_WORDS tk12_KEPT_WORDS tk13_KEPT_WORDS tk14_KEPT_WORDS tk15_KEPT_WORDS tk16_KEPT_WORDS tk17_KEPT_WORDS tk18_KEPT_WORDS tk19_KEPT_WORDS tk20_KEPT_WORDS : Tok} (g_KEPT_WORDS : PySem.W.nsIn K mainGlobals "KEPT_WORDS" = some (some (.ref ca_KEPT_WORDS))) (v_KEPT_WORDS : K.lookup ca_KEPT_WORDS = some ⟨.type "tuple", od_KEPT_WORDS, .seq #[.str "true" tk0_KEPT_WORDS, .str "false" tk1_KEPT_WORDS, .str "none" tk2_KEPT_WORDS, .str "fn" tk3_KEPT_WORDS, .str "let" tk4_KEPT_WORDS, .str "rec" tk5_KEPT_WORDS, .str "set" tk6_KEPT_WORDS, .str "if" tk7_KEPT_WORDS, .str "do" tk8_KEPT_WORDS, .str "keep" tk9_KEPT_WORDS, .str "once" tk10_KEPT_WORDS, .str "take" tk11_KEPT_WORDS, .str "mark" tk12_KEPT_WORDS, .str "wind" tk13_KEPT_WORDS, .str "show" tk14_KEPT_WORDS, .str "ask" tk15_KEPT_WORDS, .str "quot" tk16_KEPT_WORDS, .str "rem" tk17_KEPT_WORDS, .str "pair" tk18_KEPT_WORDS, .str "left" tk19_KEPT_WORDS, .str "right" tk20_KEPT_WORDS] n_KEPT_WORDS, sl_KEPT_WORDS⟩)
    {ca_CONSTANTS : Addr} {od_CONSTANTS : Option Addr} {n_CONSTANTS : Nat} {sl_CONSTANTS : Array (Option Value)} {tk0_CONSTANTS tk1_CONSTANTS tk2_CONSTANTS : Tok} (g_CONSTANTS : PySem.W.nsIn K mainGlobals "CONSTANTS" = some (some (.ref ca_CONSTANTS))) (v_CONSTANTS : K.lookup ca_CONSTANTS = some ⟨.type "tuple", od_CONSTANTS, .seq #[.str "true" tk0_CONSTANTS, .str "false" tk1_CONSTANTS, .str "none" tk2_CONSTANTS] n_CONSTANTS, sl_CONSTANTS⟩)
    {ca_FUN_WORDS : Addr} {od_FUN_WORDS : Option Addr} {n_FUN_WORDS : Nat} {sl_FUN_WORDS : Array (Option Value)} {tk0_FUN_WORDS tk1_FUN_WORDS tk2_FUN_WORDS : Tok} (g_FUN_WORDS : PySem.W.nsIn K mainGlobals "FUN_WORDS" = some (some (.ref ca_FUN_WORDS))) (v_FUN_WORDS : K.lookup ca_FUN_WORDS = some ⟨.type "tuple", od_FUN_WORDS, .seq #[.str "fn" tk0_FUN_WORDS, .str "take" tk1_FUN_WORDS, .str "wind" tk2_FUN_WORDS] n_FUN_WORDS, sl_FUN_WORDS⟩)
    {cC cS : Addr} {esC esS : Array DictEntry} {nC nS : Nat}
    (aCO : PySem.W.nsIn K mainGlobals "COUNTS" = some (some (.ref cC)))
    (lCO : K.lookup cC = some ⟨.type "dict", none, .dict esC nC, #[]⟩)
    (kCO : PySem.W.KeysLit w.params esC.toList)
    (dCO : dkB K cC headW = true)
    (nCO : cntB K cC countsL = true)
    (aSH : PySem.W.nsIn K mainGlobals "SHAPES" = some (some (.ref cS)))
    (lSH : K.lookup cS = some ⟨.type "dict", none, .dict esS nS, #[]⟩)
    (kSH : PySem.W.KeysLit w.params esS.toList)
    (dSH : dkB K cS shapeW = true)
    (u_fn : PySem.W.nsIn K cS "fn" = some (some (.ref f20)))
    (u_let : PySem.W.nsIn K cS "let" = some (some (.ref f21)))
    (u_rec : PySem.W.nsIn K cS "rec" = some (some (.ref f21)))
    (u_set : PySem.W.nsIn K cS "set" = some (some (.ref f23)))
    (u_if : PySem.W.nsIn K cS "if" = some (some (.ref f24)))
    (u_do : PySem.W.nsIn K cS "do" = some (some (.ref f25)))
    (u_keep : PySem.W.nsIn K cS "keep" = some (some (.ref f23)))
    (u_once : PySem.W.nsIn K cS "once" = some (some (.ref f23)))
    (u_take : PySem.W.nsIn K cS "take" = some (some (.ref f23)))
    (u_mark : PySem.W.nsIn K cS "mark" = some (some (.ref f24)))
    (u_wind : PySem.W.nsIn K cS "wind" = some (some (.ref f24)))
    (u_show : PySem.W.nsIn K cS "show" = some (some (.ref f24)))
    (u_ask : PySem.W.nsIn K cS "ask" = some (some (.ref f24)))
    : ∃ fd : FuncData, (∀ (s : Shared) (v : Value), BindsTo s fd ⟨[v], []⟩ [("_law_script", v)]) ∧ ∀ base : Heap, K.In base → base.Ns mainGlobals mg → LawAt l.prog w K mg base 132 fa fd ["_law_script"] (spLaw K) := by
  have e := hfa.symm.trans (PySem.W.mg_of X G a41)
  cases e
  have T : Txt mg := ⟨PySem.W.mg_none_of X G z_abs, PySem.W.mg_none_of X G z_enumerate, PySem.W.mg_none_of X G z_int, PySem.W.mg_none_of X G z_isinstance, PySem.W.mg_none_of X G z_len, PySem.W.mg_none_of X G z_list, PySem.W.mg_none_of X G z_min, PySem.W.mg_none_of X G z_range, PySem.W.mg_none_of X G z_repr, PySem.W.mg_none_of X G z_str, PySem.W.mg_none_of X G z_tuple⟩
  have D_mix := at_mk (st := s_l_mix) (ps := ["_law_number", "_law_turn"]) X G a0 l0 c0 k0 fun _ _ _ _ _ _ us hl => match us, hl with | [_, _], _ => rfl
  have D_hand := at_mk (st := s_l_hand) (ps := ["_law_script"]) X G a1 l1 c1 k1 fun _ _ _ _ _ _ us hl => match us, hl with | [_], _ => rfl
  have D_draw := at_mk (st := s_l_draw) (ps := ["_law_hand_here", "_law_many"]) X G a2 l2 c2 k2 fun _ _ _ _ _ _ us hl => match us, hl with | [_, _], _ => rfl
  have D_pick := at_mk (st := s_l_pick) (ps := ["_law_hand_here", "_law_things"]) X G a3 l3 c3 k3 fun _ _ _ _ _ _ us hl => match us, hl with | [_, _], _ => rfl
  have D_read := at_mk (st := s_p_read_program) (ps := ["text"]) X G a4 l4 c4 k4 fun _ _ _ _ _ _ us hl => match us, hl with | [_], _ => rfl
  have D_signs := at_mk (st := s_p_check_signs) (ps := ["text"]) X G a5 l5 c5 k5 fun _ _ _ _ _ _ us hl => match us, hl with | [_], _ => rfl
  have D_brks := at_mk (st := s_p_check_brackets) (ps := ["text"]) X G a6 l6 c6 k6 fun _ _ _ _ _ _ us hl => match us, hl with | [_], _ => rfl
  have D_nodes := at_mk (st := s_p_nodes_of) (ps := ["text"]) X G a7 l7 c7 k7 fun _ _ _ _ _ _ us hl => match us, hl with | [_], _ => rfl
  have D_pieces := at_mk (st := s_p_pieces_of) (ps := ["text"]) X G a8 l8 c8 k8 fun _ _ _ _ _ _ us hl => match us, hl with | [_], _ => rfl
  have D_isw := at_mk (st := s_p_is_word) (ps := ["node"]) X G a9 l9 c9 k9 fun _ _ _ _ _ _ us hl => match us, hl with | [_], _ => rfl
  have D_fst := at_mk (st := s_p_first_word) (ps := ["node"]) X G a10 l10 c10 k10 fun _ _ _ _ _ _ us hl => match us, hl with | [_], _ => rfl
  have D_cf := at_mk (st := s_p_count_funs) (ps := ["nodes"]) X G a11 l11 c11 k11 fun _ _ _ _ _ _ us hl => match us, hl with | [_], _ => rfl
  have D_num := at_mk (st := s_p_is_number) (ps := ["word"]) X G a12 l12 c12 k12 fun _ _ _ _ _ _ us hl => match us, hl with | [_], _ => rfl
  have D_nm := at_mk (st := s_p_is_name) (ps := ["word"]) X G a13 l13 c13 k13 fun _ _ _ _ _ _ us hl => match us, hl with | [_], _ => rfl
  have D_form := at_mk (st := s_p_form_of) (ps := ["node"]) X G a14 l14 c14 k14 fun _ _ _ _ _ _ us hl => match us, hl with | [_], _ => rfl
  have D_op := at_mk (st := s_p_is_op) (ps := ["word"]) X G a15 l15 c15 k15 fun _ _ _ _ _ _ us hl => match us, hl with | [_], _ => rfl
  have D_fow := at_mk (st := s_p_form_of_word) (ps := ["node"]) X G a16 l16 c16 k16 fun _ _ _ _ _ _ us hl => match us, hl with | [_], _ => rfl
  have D_forms := at_mk (st := s_p_forms_of) (ps := ["nodes"]) X G a17 l17 c17 k17 fun _ _ _ _ _ _ us hl => match us, hl with | [_], _ => rfl
  have D_body := at_mk (st := s_p_body_of) (ps := ["nodes"]) X G a18 l18 c18 k18 fun _ _ _ _ _ _ us hl => match us, hl with | [_], _ => rfl
  have D_nmo := at_mk (st := s_p_name_of) (ps := ["node"]) X G a19 l19 c19 k19 fun _ _ _ _ _ _ us hl => match us, hl with | [_], _ => rfl
  have D_fns := at_mk (st := s_p_fn_shape) (ps := ["word", "nodes"]) X G a20 l20 c20 k20 fun _ _ _ _ _ _ us hl => match us, hl with | [_, _], _ => rfl
  have D_rows := at_mk (st := s_p_rows_shape) (ps := ["word", "nodes"]) X G a21 l21 c21 k21 fun _ _ _ _ _ _ us hl => match us, hl with | [_, _], _ => rfl
  have D_row := at_mk (st := s_p_row_of) (ps := ["word", "row"]) X G a22 l22 c22 k22 fun _ _ _ _ _ _ us hl => match us, hl with | [_, _], _ => rfl
  have D_names := at_mk (st := s_p_name_shape) (ps := ["word", "nodes"]) X G a23 l23 c23 k23 fun _ _ _ _ _ _ us hl => match us, hl with | [_, _], _ => rfl
  have D_plain := at_mk (st := s_p_plain_shape) (ps := ["word", "nodes"]) X G a24 l24 c24 k24 fun _ _ _ _ _ _ us hl => match us, hl with | [_, _], _ => rfl
  have D_dos := at_mk (st := s_p_do_shape) (ps := ["word", "nodes"]) X G a25 l25 c25 k25 fun _ _ _ _ _ _ us hl => match us, hl with | [_, _], _ => rfl
  have D_ptext := at_mk (st := s_p_program_text) (ps := ["tree"]) X G a26 l26 c26 k26 fun _ _ _ _ _ _ us hl => match us, hl with | [_], _ => rfl
  have D_items := at_mk (st := s_p_items_of) (ps := ["tree"]) X G a27 l27 c27 k27 fun _ _ _ _ _ _ us hl => match us, hl with | [_], _ => rfl
  have D_texts := at_mk (st := s_p_texts_of) (ps := ["trees"]) X G a28 l28 c28 k28 fun _ _ _ _ _ _ us hl => match us, hl with | [_], _ => rfl
  have D_inb := at_mk (st := s_p_in_brackets) (ps := ["texts"]) X G a29 l29 c29 k29 fun _ _ _ _ _ _ us hl => match us, hl with | [_], _ => rfl
  have D_ltext := at_mk (st := s_l_text) (ps := ["_law_tree"]) X G a30 l30 c30 k30 fun _ _ _ _ _ _ us hl => match us, hl with | [_], _ => rfl
  have D_lname := at_mk (st := s_l_name) (ps := ["_law_hand_here"]) X G a31 l31 c31 k31 fun _ _ _ _ _ _ us hl => match us, hl with | [_], _ => rfl
  have D_anyl := at_mk (st := s_l_any_leaf) (ps := ["_law_hand_here", "_law_names"]) X G a32 l32 c32 k32 fun _ _ _ _ _ _ us hl => match us, hl with | [_, _], _ => rfl
  have D_anyn := at_mk (st := s_l_any_names) (ps := ["_law_hand_here", "_law_names", "_law_most"]) X G a33 l33 c33 k33 fun _ _ _ _ _ _ us hl => match us, hl with | [_, _, _], _ => rfl
  have D_anyf := at_mk (st := s_l_any_fun) (ps := ["_law_hand_here", "_law_deep", "_law_names", "_law_room", "_law_most"]) X G a34 l34 c34 k34 fun _ _ _ _ _ _ us hl => match us, hl with | [_, _, _, _, _], _ => rfl
  have D_any := at_mk (st := s_l_any) (ps := ["_law_hand_here", "_law_deep", "_law_names", "_law_room"]) X G a35 l35 c35 k35 fun _ _ _ _ _ _ us hl => match us, hl with | [_, _, _, _], _ => rfl
  have D_lparts := at_mk (st := s_l_parts) (ps := ["_law_tree"]) X G a36 l36 c36 k36 fun _ _ _ _ _ _ us hl => match us, hl with | [_], _ => rfl
  have D_gap := at_mk (st := s_l_gap) (ps := ["_law_hand_here"]) X G a37 l37 c37 k37 fun _ _ _ _ _ _ us hl => match us, hl with | [_], _ => rfl
  have D_bare := at_mk (st := s_l_bare) (ps := ["_law_hand_here", "_law_tree", "_law_most"]) X G a38 l38 c38 k38 fun _ _ _ _ _ _ us hl => match us, hl with | [_, _, _], _ => rfl
  have D_lrow := at_mk (st := s_l_row) (ps := ["_law_hand_here", "_law_words"]) X G a39 l39 c39 k39 fun _ _ _ _ _ _ us hl => match us, hl with | [_, _], _ => rfl
  have D_loose := at_mk (st := s_l_loose) (ps := ["_law_hand_here", "_law_tree"]) X G a40 l40 c40 k40 fun _ _ _ _ _ _ us hl => match us, hl with | [_, _], _ => rfl
  refine ⟨PySem.W.fnOf "law" "law" (defArgs s_law) (defBody s_law) (defScope s_law) .none kV41 dc41 pm41 an41 cd41 ct41, fun s v => .of_eq rfl, fun base _ _ => ?_⟩
  have GG : Glb K mg := ⟨⟨_, PySem.W.mg_of X G g_MOST_SIGNS⟩, ⟨_, PySem.W.mg_of X G g_MOST_DEEP⟩, ⟨_, PySem.W.mg_of X G g_MOST_ITEMS⟩, ⟨_, PySem.W.mg_of X G g_MOST_NAMES⟩, ⟨_, PySem.W.mg_of X G g_MOST_FUNS⟩, ⟨_, PySem.W.mg_of X G g_GREATEST⟩, ⟨_, PySem.W.mg_of X G g_NAME_SIGNS⟩, ⟨_, PySem.W.mg_of X G g_LETTERS⟩, ⟨_, PySem.W.mg_of X G g_FIGURES⟩, ⟨_, PySem.W.mg_of X G g_KEPT_WORDS, fun H => .inr ⟨_, _, _, v_KEPT_WORDS, rfl, rfl, (show 21 ≤ sizeLine by decide), .cons ⟨_, rfl⟩ (.cons ⟨_, rfl⟩ (.cons ⟨_, rfl⟩ (.cons ⟨_, rfl⟩ (.cons ⟨_, rfl⟩ (.cons ⟨_, rfl⟩ (.cons ⟨_, rfl⟩ (.cons ⟨_, rfl⟩ (.cons ⟨_, rfl⟩ (.cons ⟨_, rfl⟩ (.cons ⟨_, rfl⟩ (.cons ⟨_, rfl⟩ (.cons ⟨_, rfl⟩ (.cons ⟨_, rfl⟩ (.cons ⟨_, rfl⟩ (.cons ⟨_, rfl⟩ (.cons ⟨_, rfl⟩ (.cons ⟨_, rfl⟩ (.cons ⟨_, rfl⟩ (.cons ⟨_, rfl⟩ (.cons ⟨_, rfl⟩ (.nil)))))))))))))))))))))⟩⟩, ⟨_, PySem.W.mg_of X G g_CONSTANTS, fun H => .inr ⟨_, _, _, v_CONSTANTS, rfl, rfl, (show 3 ≤ sizeLine by decide), .cons ⟨_, rfl⟩ (.cons ⟨_, rfl⟩ (.cons ⟨_, rfl⟩ (.nil)))⟩⟩, ⟨_, PySem.W.mg_of X G g_FUN_WORDS, fun H => .inr ⟨_, _, _, v_FUN_WORDS, rfl, rfl, (show 3 ≤ sizeLine by decide), .cons ⟨_, rfl⟩ (.cons ⟨_, rfl⟩ (.cons ⟨_, rfl⟩ (.nil)))⟩⟩⟩
  have GD : GlbD K w mg := ⟨⟨cC, esC, nC, PySem.W.mg_of X G aCO, ⟨lCO, kCO, dk_low dCO⟩, fun z n => dk_no dCO n, cnt_ok nCO⟩, ⟨cS, esS, nS, PySem.W.mg_of X G aSH, ⟨lSH, kSH, dk_low dSH⟩, fun z n => dk_no dSH n, fun r hr => by
    simp only [shapesL, List.mem_cons, List.not_mem_nil, or_false] at hr
    rcases hr with rfl | rfl | rfl | rfl | rfl | rfl | rfl | rfl | rfl | rfl | rfl | rfl | rfl
    · exact ⟨_, u_fn, PySem.W.mg_of X G a20⟩
    · exact ⟨_, u_let, PySem.W.mg_of X G a21⟩
    · exact ⟨_, u_rec, PySem.W.mg_of X G a21⟩
    · exact ⟨_, u_set, PySem.W.mg_of X G a23⟩
    · exact ⟨_, u_if, PySem.W.mg_of X G a24⟩
    · exact ⟨_, u_do, PySem.W.mg_of X G a25⟩
    · exact ⟨_, u_keep, PySem.W.mg_of X G a23⟩
    · exact ⟨_, u_once, PySem.W.mg_of X G a23⟩
    · exact ⟨_, u_take, PySem.W.mg_of X G a23⟩
    · exact ⟨_, u_mark, PySem.W.mg_of X G a24⟩
    · exact ⟨_, u_wind, PySem.W.mg_of X G a24⟩
    · exact ⟨_, u_show, PySem.W.mg_of X G a24⟩
    · exact ⟨_, u_ask, PySem.W.mg_of X G a24⟩⟩⟩
  have c1 := ok_mix (P := l.prog) (w := w) (base := base) T D_mix
  have c2 := ok_draw T c1 D_draw
  have c3 := ok_pick T c2 D_pick
  have p1 := ok_check_signs (P := l.prog) (w := w) (base := base) T GG D_signs
  have p2 := ok_check_brackets (P := l.prog) (w := w) (base := base) T GG D_brks
  have p3 := ok_pieces_of (P := l.prog) (w := w) (base := base) T D_pieces
  have p4 := ok_nodes_of T p3 D_nodes
  have p5 := ok_is_word (P := l.prog) (w := w) (base := base) T D_isw
  have p6 := ok_first_word T p5 D_fst
  have p7 := ok_is_number (P := l.prog) (w := w) (base := base) T GG D_num
  have p8 := ok_is_name (P := l.prog) (w := w) (base := base) T GG D_nm
  have p9 := ok_is_op (P := l.prog) (w := w) (base := base) GD D_op
  have pa := ok_form_of_word T GG p7 p8 D_fow
  have pb := ok_name_of p5 p8 D_nmo
  have R : Rdr l.prog w K mg base := ⟨T, GG, GD, p5, p6, p7, p8, p9, pa, pb, D_forms, D_body, D_row, D_fns, D_rows, D_names, D_plain, D_dos⟩
  have pc := ok_read_program R p1 p2 p4 D_form D_cf D_read
  have pd := ok_in_brackets (P := l.prog) (w := w) (base := base) D_inb
  have pe := ok_program_text T pd D_texts D_items D_ptext 14
  have q1 := ok_l_text (P := l.prog) (w := w) (base := base) T D_ltext
  have q2 := ok_l_name T c2 D_lname
  have q3 := ok_any_leaf c2 c3 D_anyl
  have q4 := ok_any_names T c2 D_anyn
  have q5 := ok_any T c2 c3 q3 q4 D_anyf D_any 7
  have q6 := ok_l_parts (P := l.prog) (w := w) (base := base) T D_lparts
  have q7 := ok_gap c2 D_gap
  have q8 := ok_l_row q7 D_lrow
  have q9 := ok_l_loose T q1 c2 q8 q6 D_bare D_loose 14
  have qa := ok_l_bare (by decide) T c2 q9 D_bare
  exact ok_law T ⟨ok_hand T D_hand, c2, q2, q5, q1 14, pe, pc, qa⟩ (fun_mk (st := s_law) l41 c41 k41)
theorem walk {l : PySem.W.OpenLaw} {q : Program} {loose : List Str} {XP : (Str → Option Value) → Heap → Prop} {YP : World → Heap → Prop} {d : DefRec} {K : Params → PySem.W.Frag} (hn : l.most = some 63) (hdf : d.params.defaults = [])
    (hY : ∀ (w : World) (h : Heap), YP w h → (K w.params).In h)
    (F : ∀ (w : World) (mg : Str → Option Value) (fa : Addr) (h : Heap), (K w.params).In h → h.Ns mainGlobals mg → mg d.name = some (.ref fa) →
      ∃ fd : FuncData, (∀ (s : Shared) (u : Value), BindsTo s fd ⟨[u], []⟩ [("_law_script", u)]) ∧ ∀ base : Heap, (K w.params).In base → base.Ns mainGlobals mg → LawAt l.prog w (K w.params) mg base 132 fa fd ["_law_script"] (spLaw (K w.params))) :
    PySem.W.WalkO q loose XP YP l.row.toRowW d [] (fun f vs => PySem.call f vs) :=
  walk_law (n := 63) (k := 132) (x := "_law_script") (sp := fun K => spLaw K) hn (by decide) hdf ⟨rfl, by decide, by decide⟩ hY F fun _ _ a ns hl _ hS => ⟨a, ns, rfl, hS, hl, fun _ => rfl⟩
end K00

open PySem PySem.W PyProof.Rows in
set_option maxRecDepth 100000 in
set_option maxHeartbeats 0 in
theorem PySem.Challenge.cw_goonagain_k00_whole_texts_read_and_print_holds : PySem.Challenge.rw_goonagain_k00_whole_texts_read_and_print.Holds := by
  w_on; o_law; k_head; (case hw => w_witness2)
  k_fill
  refine K00.walk (l := PySem.Challenge.rw_goonagain_k00_whole_texts_read_and_print) rfl rfl (fun w h Y => PySem.W.kIn_of Y) ?F
  case F =>
    intro w mg fa h KX G hmg
    refine' K00.all_mk KX G hmg ?a0 ?l0 ?c0 ?k0 ?a1 ?l1 ?c1 ?k1 ?a2 ?l2 ?c2 ?k2 ?a3 ?l3 ?c3 ?k3 ?a4 ?l4 ?c4 ?k4 ?a5 ?l5 ?c5 ?k5 ?a6 ?l6 ?c6 ?k6 ?a7 ?l7 ?c7 ?k7 ?a8 ?l8 ?c8 ?k8 ?a9 ?l9 ?c9 ?k9 ?a10 ?l10 ?c10 ?k10 ?a11 ?l11 ?c11 ?k11 ?a12 ?l12 ?c12 ?k12 ?a13 ?l13 ?c13 ?k13 ?a14 ?l14 ?c14 ?k14 ?a15 ?l15 ?c15 ?k15 ?a16 ?l16 ?c16 ?k16 ?a17 ?l17 ?c17 ?k17 ?a18 ?l18 ?c18 ?k18 ?a19 ?l19 ?c19 ?k19 ?a20 ?l20 ?c20 ?k20 ?a21 ?l21 ?c21 ?k21 ?a22 ?l22 ?c22 ?k22 ?a23 ?l23 ?c23 ?k23 ?a24 ?l24 ?c24 ?k24 ?a25 ?l25 ?c25 ?k25 ?a26 ?l26 ?c26 ?k26 ?a27 ?l27 ?c27 ?k27 ?a28 ?l28 ?c28 ?k28 ?a29 ?l29 ?c29 ?k29 ?a30 ?l30 ?c30 ?k30 ?a31 ?l31 ?c31 ?k31 ?a32 ?l32 ?c32 ?k32 ?a33 ?l33 ?c33 ?k33 ?a34 ?l34 ?c34 ?k34 ?a35 ?l35 ?c35 ?k35 ?a36 ?l36 ?c36 ?k36 ?a37 ?l37 ?c37 ?k37 ?a38 ?l38 ?c38 ?k38 ?a39 ?l39 ?c39 ?k39 ?a40 ?l40 ?c40 ?k40 ?a41 ?l41 ?c41 ?k41 ?z_abs ?z_enumerate ?z_int ?z_isinstance ?z_len ?z_list ?z_min ?z_range ?z_repr ?z_str ?z_tuple ?g_MOST_SIGNS ?g_MOST_DEEP ?g_MOST_ITEMS ?g_MOST_NAMES ?g_MOST_FUNS ?g_GREATEST ?g_NAME_SIGNS ?g_LETTERS ?g_FIGURES ?g_KEPT_WORDS ?v_KEPT_WORDS ?g_CONSTANTS ?v_CONSTANTS ?g_FUN_WORDS ?v_FUN_WORDS ?aCO ?lCO ?kCO ?dCO ?nCO ?aSH ?lSH ?kSH ?dSH ?u_fn ?u_let ?u_rec ?u_set ?u_if ?u_do ?u_keep ?u_once ?u_take ?u_mark ?u_wind ?u_show ?u_ask
    (case a0 => k_is)
    (case l0 => k_is)
    (case c0 => k_is)
    (case k0 => k_is)
    (case a1 => k_is)
    (case l1 => k_is)
    (case c1 => k_is)
    (case k1 => k_is)
    (case a2 => k_is)
    (case l2 => k_is)
    (case c2 => k_is)
    (case k2 => k_is)
    (case a3 => k_is)
    (case l3 => k_is)
    (case c3 => k_is)
    (case k3 => k_is)
    (case a4 => k_is)
    (case l4 => k_is)
    (case c4 => k_is)
    (case k4 => k_is)
    (case a5 => k_is)
    (case l5 => k_is)
    (case c5 => k_is)
    (case k5 => k_is)
    (case a6 => k_is)
    (case l6 => k_is)
    (case c6 => k_is)
    (case k6 => k_is)
    (case a7 => k_is)
    (case l7 => k_is)
    (case c7 => k_is)
    (case k7 => k_is)
    (case a8 => k_is)
    (case l8 => k_is)
    (case c8 => k_is)
    (case k8 => k_is)
    (case a9 => k_is)
    (case l9 => k_is)
    (case c9 => k_is)
    (case k9 => k_is)
    (case a10 => k_is)
    (case l10 => k_is)
    (case c10 => k_is)
    (case k10 => k_is)
    (case a11 => k_is)
    (case l11 => k_is)
    (case c11 => k_is)
    (case k11 => k_is)
    (case a12 => k_is)
    (case l12 => k_is)
    (case c12 => k_is)
    (case k12 => k_is)
    (case a13 => k_is)
    (case l13 => k_is)
    (case c13 => k_is)
    (case k13 => k_is)
    (case a14 => k_is)
    (case l14 => k_is)
    (case c14 => k_is)
    (case k14 => k_is)
    (case a15 => k_is)
    (case l15 => k_is)
    (case c15 => k_is)
    (case k15 => k_is)
    (case a16 => k_is)
    (case l16 => k_is)
    (case c16 => k_is)
    (case k16 => k_is)
    (case a17 => k_is)
    (case l17 => k_is)
    (case c17 => k_is)
    (case k17 => k_is)
    (case a18 => k_is)
    (case l18 => k_is)
    (case c18 => k_is)
    (case k18 => k_is)
    (case a19 => k_is)
    (case l19 => k_is)
    (case c19 => k_is)
    (case k19 => k_is)
    (case a20 => k_is)
    (case l20 => k_is)
    (case c20 => k_is)
    (case k20 => k_is)
    (case a21 => k_is)
    (case l21 => k_is)
    (case c21 => k_is)
    (case k21 => k_is)
    (case a22 => k_is)
    (case l22 => k_is)
    (case c22 => k_is)
    (case k22 => k_is)
    (case a23 => k_is)
    (case l23 => k_is)
    (case c23 => k_is)
    (case k23 => k_is)
    (case a24 => k_is)
    (case l24 => k_is)
    (case c24 => k_is)
    (case k24 => k_is)
    (case a25 => k_is)
    (case l25 => k_is)
    (case c25 => k_is)
    (case k25 => k_is)
    (case a26 => k_is)
    (case l26 => k_is)
    (case c26 => k_is)
    (case k26 => k_is)
    (case a27 => k_is)
    (case l27 => k_is)
    (case c27 => k_is)
    (case k27 => k_is)
    (case a28 => k_is)
    (case l28 => k_is)
    (case c28 => k_is)
    (case k28 => k_is)
    (case a29 => k_is)
    (case l29 => k_is)
    (case c29 => k_is)
    (case k29 => k_is)
    (case a30 => k_is)
    (case l30 => k_is)
    (case c30 => k_is)
    (case k30 => k_is)
    (case a31 => k_is)
    (case l31 => k_is)
    (case c31 => k_is)
    (case k31 => k_is)
    (case a32 => k_is)
    (case l32 => k_is)
    (case c32 => k_is)
    (case k32 => k_is)
    (case a33 => k_is)
    (case l33 => k_is)
    (case c33 => k_is)
    (case k33 => k_is)
    (case a34 => k_is)
    (case l34 => k_is)
    (case c34 => k_is)
    (case k34 => k_is)
    (case a35 => k_is)
    (case l35 => k_is)
    (case c35 => k_is)
    (case k35 => k_is)
    (case a36 => k_is)
    (case l36 => k_is)
    (case c36 => k_is)
    (case k36 => k_is)
    (case a37 => k_is)
    (case l37 => k_is)
    (case c37 => k_is)
    (case k37 => k_is)
    (case a38 => k_is)
    (case l38 => k_is)
    (case c38 => k_is)
    (case k38 => k_is)
    (case a39 => k_is)
    (case l39 => k_is)
    (case c39 => k_is)
    (case k39 => k_is)
    (case a40 => k_is)
    (case l40 => k_is)
    (case c40 => k_is)
    (case k40 => k_is)
    (case a41 => k_is)
    (case l41 => k_is)
    (case c41 => k_is)
    (case k41 => k_is)
    (case z_abs => k_is)
    (case z_enumerate => k_is)
    (case z_int => k_is)
    (case z_isinstance => k_is)
    (case z_len => k_is)
    (case z_list => k_is)
    (case z_min => k_is)
    (case z_range => k_is)
    (case z_repr => k_is)
    (case z_str => k_is)
    (case z_tuple => k_is)
    (case g_MOST_SIGNS => k_is)
    (case g_MOST_DEEP => k_is)
    (case g_MOST_ITEMS => k_is)
    (case g_MOST_NAMES => k_is)
    (case g_MOST_FUNS => k_is)
    (case g_GREATEST => k_is)
    (case g_NAME_SIGNS => k_is)
    (case g_LETTERS => k_is)
    (case g_FIGURES => k_is)
    (case g_KEPT_WORDS => k_is)
    (case v_KEPT_WORDS => k_is)
    (case g_CONSTANTS => k_is)
    (case v_CONSTANTS => k_is)
    (case g_FUN_WORDS => k_is)
    (case v_FUN_WORDS => k_is)
    (case aCO => k_is)
    (case lCO => k_is)
    (case kCO => exact ⟨⟨_, _, rfl, rfl⟩, ⟨_, _, rfl, rfl⟩, ⟨_, _, rfl, rfl⟩, ⟨_, _, rfl, rfl⟩, ⟨_, _, rfl, rfl⟩, ⟨_, _, rfl, rfl⟩, ⟨_, _, rfl, rfl⟩, ⟨_, _, rfl, rfl⟩, ⟨_, _, rfl, rfl⟩, ⟨_, _, rfl, rfl⟩, ⟨_, _, rfl, rfl⟩, ⟨_, _, rfl, rfl⟩, ⟨_, _, rfl, rfl⟩, ⟨_, _, rfl, rfl⟩, ⟨_, _, rfl, rfl⟩, ⟨_, _, rfl, rfl⟩, ⟨_, _, rfl, rfl⟩, ⟨_, _, rfl, rfl⟩, ⟨_, _, rfl, rfl⟩, ⟨_, _, rfl, rfl⟩, ⟨_, _, rfl, rfl⟩, ⟨_, _, rfl, rfl⟩, ⟨_, _, rfl, rfl⟩, ⟨_, _, rfl, rfl⟩, ⟨_, _, rfl, rfl⟩, ⟨_, _, rfl, rfl⟩, ⟨_, _, rfl, rfl⟩, ⟨_, _, rfl, rfl⟩, ⟨_, _, rfl, rfl⟩, ⟨_, _, rfl, rfl⟩, trivial⟩)
    (case dCO => first | kernel_rfl | rfl)
    (case nCO => first | kernel_rfl | rfl)
    (case aSH => k_is)
    (case lSH => k_is)
    (case kSH => exact ⟨⟨_, _, rfl, rfl⟩, ⟨_, _, rfl, rfl⟩, ⟨_, _, rfl, rfl⟩, ⟨_, _, rfl, rfl⟩, ⟨_, _, rfl, rfl⟩, ⟨_, _, rfl, rfl⟩, ⟨_, _, rfl, rfl⟩, ⟨_, _, rfl, rfl⟩, ⟨_, _, rfl, rfl⟩, ⟨_, _, rfl, rfl⟩, ⟨_, _, rfl, rfl⟩, ⟨_, _, rfl, rfl⟩, ⟨_, _, rfl, rfl⟩, trivial⟩)
    (case dSH => first | kernel_rfl | rfl)
    (case u_fn => k_is)
    (case u_let => k_is)
    (case u_rec => k_is)
    (case u_set => k_is)
    (case u_if => k_is)
    (case u_do => k_is)
    (case u_keep => k_is)
    (case u_once => k_is)
    (case u_take => k_is)
    (case u_mark => k_is)
    (case u_wind => k_is)
    (case u_show => k_is)
    (case u_ask => k_is)
