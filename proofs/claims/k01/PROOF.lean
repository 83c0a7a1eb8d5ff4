import PyProof.Rows.All
import Wide.All
import OpenK.AllK
import Wide.FinOn
import HandS.ForMost
import HandS.Evl
import HandS.IsInst
import HandS.TupAny
import HandS.TupMul
import HandS.Conv
import HandS.EndBits
import HandS.SetFor
import HandS.Style
import HandS.Strs
import PyProof.NeKinds
import PyProof.ReprLen
import PyProof.ReprRoads
import HandS.SortInts
import PyProof.TupleOfSeq
import KE.KRevSl
import HandS.ExcValue
import KE.GoesMore
import PyProof.EnumMake
import HandS.Small
import HandS.ExcIs
import HandS.ExcInit
import HandS.Walk
import HandS.WordsExc
import HandS.ExcField
import HandS.HotCalls
import HandS.Zip
import HandS.Rev
import HandS.WideBits
import HandS.Wide
import KE.SortData
import KE.SortKeyHeap
import HandS.CallLocal
import KE.KTupSum
import PyProof.Rows.SetFrom
import HandS.Dict
import HandS.More
import HandS.DictComp
import KE.KTurns
import PyProof.AutoSeq1
import HandS.Star
import HandS.CallSlots
import HandS.MakeKw
import HandS.TupLe
import KE.LtData
import PyProof.ListOps
import HandS.Deep
import HandS.Defaults
import HandS.MakeKwOnly
import HandS.HeadHook3
import HandS.SuiteRaise
import KE.KExcRaise
import KE.KCallOwn
import PySem.Challenge.RW_payorder_k01_limits_and_exceptions
set_option Elab.async false
set_option linter.all false
set_option maxRecDepth 100000
/-! Pb: what all laws of the program share. -/
namespace Pb
open PySem PySem.Spec PyProof.Rows L2

/-- the built-in names that are still the built-in ones -/
structure Bn (mg : Str → Option Value) : Prop where
  isinstance : mg "isinstance" = none
  len : mg "len" = none
  abs : mg "abs" = none
  range : mg "range" = none
  tuple : mg "tuple" = none
  list : mg "list" = none
  int : mg "int" = none
  bool : mg "bool" = none
  str : mg "str" = none
  dict : mg "dict" = none
  sorted : mg "sorted" = none
  set : mg "set" = none
  repr : mg "repr" = none
  all : mg "all" = none
  enumerate : mg "enumerate" = none

theorem bt_isinstance : bootBuiltins "isinstance" = some (.builtin "isinstance") := by decide +kernel
theorem bt_len : bootBuiltins "len" = some (.builtin "len") := by decide +kernel
theorem bt_abs : bootBuiltins "abs" = some (.builtin "abs") := by decide +kernel
theorem bt_repr : bootBuiltins "repr" = some (.builtin "repr") := by decide +kernel
section
variable {X : Cx}
theorem pe_ty {x : Str} {pos : Pos} {T : String} (hg : Gl X x) (hm : X.mg x = none) (hv : bootBuiltins x = some (.type T)) (hn : x ≠ "__name__" := by decide) (hd : (x == ("__debug__" : Str)) = false := by decide) :
    PE X (.Name x pos) (tC (.ty T)) := pe_bltn hg hm hv rfl hn hd
theorem pe_gc2 {x : Str} {pos : Pos} {i : Int} (hg : Gl X x) (hm : ∃ t, X.mg x = some (.int i t)) (hd : (x == ("__debug__" : Str)) = false := by decide) : PE X (.Name x pos) (tC (.int i)) := by
  obtain ⟨t, h⟩ := hm
  exact pe_glob hg h ⟨_, rfl⟩ hd
end

section
variable {X : Cx} {K : PySem.W.Frag}
end
/-- a def of the text, its promise and all that a caller asks -/
structure Cl (P : Program) (w : World) (K : PySem.W.Frag) (mg : Str → Option Value) (base : Heap) (k : Nat) (x : Str) (ps : List Str) (sp : Sp) : Prop where
  ex : ∃ (f : Addr) (fd : FuncData), FnOk P w K mg base CX0 k f fd ps sp ∧ mg x = some (.ref f) ∧ PySem.W.keepIn K (.ref f) = true ∧ Binds K fd ps []
section
variable {X : Cx} {j k : Nat} {x : Str} {ps : List Str} {sp : Sp} {e : Expr} {es : List Expr} {t : TA} {p pos : Pos}
theorem pe_k (c : Cl X.prog X.w X.K X.mg X.base k x ps sp) (hr : Room j X.A) (hk : k ≤ j) (hg : Gl X x) (ha : PA X (e :: es) t)
    (hdb : (x == ("__debug__" : Str)) = false := by decide) (he : starEach (e :: es) X.env = (false, eval e X.env) :: starEach es X.env := by rfl) (hpl : (backTo pos (starEach es X.env)).any (·.1) = false := by rfl) :
    PE X (.Call (.Name x p) (e :: es) [] pos) (tCall sp [] E0 t) := by
  obtain ⟨f, fd, F, hm, kp, b⟩ := c.ex
  exact pe_call F (hr.mono hk) hg hm kp b .nil pass0 ha hdb he hpl
end

/-! ### a list against [], a tuple against () -/
def rNe0 (K : PySem.W.Frag) : R2 := fun x y H Q => ∃ a b xs, x = .ref a ∧ y = .ref b ∧ SqL K H a xs ∧ SqL K H b [] ∧ Q (.bl (!xs.isEmpty)) H
section
variable {X : Cx}
theorem op_ne0 (hu : X.A.units + 64 < cLine) : OpR X (compareOp .NotEq) (rNe0 X.K) := by
  intro pins s σ H x y v u Q I rx ry h
  obtain ⟨a, b, xs, rfl, rfl, h1, h2, q⟩ := h
  cases rx
  cases ry
  obtain ⟨its, rv, hl, _⟩ := I.list h1
  obtain ⟨its2, rv2, hl2, _⟩ := I.list h2
  cases rv2
  have hu' : X.A.units < cLine := by omega
  cases rv with
  | nil => exact SeqAt.RcNeAt.lists (e := fun _ => true) hl.isList hl2.isList rfl hu' (fun j h1 _ => absurd h1 (Nat.not_lt_zero _)) _ _ _ _ ⟨.bl _, H, I, rfl, q⟩
  | cons r1 r2 => exact SeqAt.RcNeAt.lists_lengths hl.isList hl2.isList (by simp) hu' _ _ _ _ ⟨.bl _, H, I, rfl, q⟩
end

/-! ### heaps -/
theorem sz {n : Nat} (h : n ≤ 1000) : n ≤ sizeLine := Nat.le_of_lt (small1000 h)
theorem same_upd {H : Hp} {p : Addr} {o : HO} (h : H p = none) : Same H (upd H p o) := fun b x e => by
  rw [upd_ne (ne_of_none e h)]
  exact e
theorem Same.tq {K : PySem.W.Frag} {H H' : Hp} {a : Addr} {xs : List V} (e : Same H H') (h : SqT K H a xs) : SqT K H' a xs := by
  rcases h with (h | ⟨o, h⟩) | h
  · exact .inl (.inl (e _ _ h))
  · exact .inl (.inr ⟨o, e _ _ h⟩)
  · exact .inr h
theorem seqIndex_nat {n j : Nat} (h : j < n) : seqIndex? (j : Int) n = some j := by
  unfold seqIndex?
  simp
  omega
/-- the heap without the deck's two changing lists -/
def msk (d b : Addr) (H : Hp) : Hp := fun a => if a = d ∨ a = b then none else H a
theorem msk_ne {d b a : Addr} {H : Hp} (h1 : a ≠ d) (h2 : a ≠ b) : msk d b H a = H a := by
  unfold msk
  rw [if_neg (fun z => z.elim h1 h2)]
theorem msk_some {d b a : Addr} {H : Hp} {o : HO} (h : msk d b H a = some o) : a ≠ d ∧ a ≠ b ∧ H a = some o := by
  unfold msk at h
  split at h
  · cases h
  · rename_i q
    exact ⟨fun z => q (.inl z), fun z => q (.inr z), h⟩
theorem msk_none {d b a : Addr} {H : Hp} (h : H a = none) : msk d b H a = none := by
  unfold msk
  split
  · rfl
  · exact h
theorem msk_new {d b p : Addr} {H : Hp} {o : HO} (h1 : p ≠ d) (h2 : p ≠ b) : msk d b (upd H p o) = upd (msk d b H) p o := by
  funext a
  by_cases e : a = p
  · subst e
    rw [msk_ne h1 h2, upd_same, upd_same]
  · rw [upd_ne e]
    unfold msk
    rw [upd_ne e]
theorem msk_d {d b : Addr} {H : Hp} {o : HO} : msk d b (upd H d o) = msk d b H := by
  funext a
  unfold msk
  split
  · rfl
  · rename_i q
    rw [upd_ne fun z => q (.inl z)]
theorem msk_b {d b : Addr} {H : Hp} {o : HO} : msk d b (upd H b o) = msk d b H := by
  funext a
  unfold msk
  split
  · rfl
  · rename_i q
    rw [upd_ne fun z => q (.inr z)]
theorem msk_same {d b : Addr} {H H' : Hp} (h : Same H H') : Same (msk d b H) (msk d b H') := fun a o e => by
  obtain ⟨h1, h2, h3⟩ := msk_some e
  rw [msk_ne h1 h2]
  exact h _ _ h3

/-- the deck: its list at d, the large cells at b, all cells at c, n mixed draws so far -/
structure Dk (d b c : Addr) (n : Int) (H : Hp) : Prop where
  db : d ≠ b
  dc : d ≠ c
  bc : b ≠ c
  n0 : 0 ≤ n
  at_d : H d = some (.lst [.ref b, .ref c, .int n])
  at_b : ∃ bs : List Int, H b = some (.lst (bs.map V.int))
  at_c : ∃ cs : List Int, H c = some (.lst (cs.map V.int)) ∧ cs ≠ [] ∧ cs.length ≤ 1000
theorem Dk.same {d b c : Addr} {n : Int} {H H' : Hp} (h : Dk d b c n H) (s : Same H H') : Dk d b c n H' := by
  obtain ⟨x1, x2, x3, x4, x5, ⟨bs, x6⟩, cs, x7, x8⟩ := h
  exact ⟨x1, x2, x3, x4, s _ _ x5, ⟨bs, s _ _ x6⟩, cs, s _ _ x7, x8⟩
/-- what a draw leaves -/
structure Dr (d b c : Addr) (n : Int) (H : Hp) (n' : Int) (H' : Hp) : Prop where
  dk : Dk d b c n' H'
  le : n' ≤ n
  sm : Same (msk d b H) (msk d b H')
/-- _law_next(deck, many): some number below many -/
def spNext : Sp := fun vs H Q _ => ∃ (d b c : Addr) (n m : Int), vs = [.ref d, .int m] ∧ Dk d b c n H ∧ n < 2 ^ 60 ∧ 0 < m ∧ m < 1073741824 ∧
  ∀ (v n' : Int) (H' : Hp), 0 ≤ v → v < m → Dr d b c (n + 1) H n' H' → Q (.int v) H'
end Pb

set_option Elab.async false
set_option linter.all false
set_option maxRecDepth 100000
namespace Pb
open PySem PySem.Spec PyProof.Rows L2
/-! ### data with small leaves, and how long its text is at most -/
mutual
def okD : PyData → Bool
  | .none => true
  | .bool _ => true
  | .int i => decide (i.natAbs < 10 ^ 80)
  | .str x => decide (x.length ≤ 100) && x.cps.toList.all fun c => decide (c < 16 ^ 8)
  | .list xs => decide (xs.length ≤ 60) && okAll xs
  | .tuple xs => decide (xs.length ≤ 60) && okAll xs
  | .dict kvs => kvs.isEmpty
def okAll : List PyData → Bool
  | [] => true
  | x :: xs => okD x && okAll xs
end
mutual
def wt : PyData → Nat
  | .none => 4
  | .bool _ => 5
  | .int _ => 81
  | .str _ => 2000
  | .list xs => wtAll xs + 3
  | .tuple xs => wtAll xs + 3
  | .dict _ => 3
def wtAll : List PyData → Nat
  | [] => 0
  | x :: xs => wt x + 2 + wtAll xs
end
theorem log_of_80 {n : Nat} (h : n < 10 ^ 80) : n.log2 < 1920 := by
  have h1 : n < 2 ^ 1920 := Nat.lt_of_lt_of_le h (by decide +kernel)
  by_cases e : n = 0
  · subst e
    decide
  · exact (Nat.log2_lt e).mpr h1
mutual
theorem show_len : ∀ d : PyData, okD d = true → d.shown.length ≤ wt d ∧ d.showable = true
  | .none, _ => ⟨by decide, rfl⟩
  | .bool b, _ => ⟨by cases b <;> decide, rfl⟩
  | .int i, h => by
    have h1 : i.natAbs < 10 ^ 80 := by
      simp only [okD, decide_eq_true_eq] at h
      exact h
    have e := int_text_length_le10 (k := 80) (by decide) h1
    refine ⟨?_, ?_⟩
    · show (Str.ofString (toString i)).length ≤ 81
      rw [PySem.ofString_length]
      exact e
    · simp only [PyData.showable, decide_eq_true_eq]
      exact log_of_80 h1
  | .str x, h => by
    simp only [okD, Bool.and_eq_true, decide_eq_true_eq, List.all_eq_true] at h
    refine ⟨?_, rfl⟩
    have e := StrLaws.reprText_len x h.2
    show (reprText x).length ≤ 2000
    omega
  | .list xs, h => by
    obtain ⟨h1, h2⟩ := show_all xs (by simp only [okD, Bool.and_eq_true] at h; exact h.2)
    have h3 := listText_len_le (PyData.shownAll xs)
    have h4 := PyData.shownAll_length xs
    refine ⟨?_, ?_⟩
    · simp only [PyData.shown, wt]
      omega
    · simpa only [PyData.showable] using h2
  | .tuple xs, h => by
    obtain ⟨h1, h2⟩ := show_all xs (by simp only [okD, Bool.and_eq_true] at h; exact h.2)
    have h3 := tupleText_len_le (PyData.shownAll xs)
    have h4 := PyData.shownAll_length xs
    refine ⟨?_, ?_⟩
    · simp only [PyData.shown, wt]
      omega
    · simpa only [PyData.showable] using h2
  | .dict kvs, h => by
    cases kvs with
    | nil => exact ⟨by decide, rfl⟩
    | cons a r =>
      simp only [okD, List.isEmpty_cons] at h
      cases h
theorem show_all : ∀ xs : List PyData, okAll xs = true → ((PyData.shownAll xs).map (·.length)).sum + 2 * xs.length ≤ wtAll xs ∧ PyData.showableAll xs = true
  | [], _ => ⟨Nat.le_refl _, rfl⟩
  | x :: xs, h => by
    simp only [okAll, Bool.and_eq_true] at h
    obtain ⟨h1, h2⟩ := show_len x h.1
    obtain ⟨h3, h4⟩ := show_all xs h.2
    refine ⟨?_, ?_⟩
    · simp only [PyData.shownAll, List.map_cons, List.sum_cons, List.length_cons, wtAll]
      omega
    · simp only [PyData.showableAll, h2, h4, Bool.and_self]
end
mutual
/-- no list in it -/
def nl : PyData → Bool
  | .list _ => false
  | .tuple xs => nlAll xs
  | _ => true
def nlAll : List PyData → Bool
  | [] => true
  | x :: xs => nl x && nlAll xs
end
/-! ### data in the heap -/
/-- a dict's value: a number, None, a tuple of numbers -/
inductive Fl (K : PySem.W.Frag) (H : Hp) : V → PyData → Prop
  | non : Fl K H .non .none
  | int (i : Int) : Fl K H (.int i) (.int i)
  | tup {a : Addr} (ns : List Int) : SqT K H a (ns.map V.int) → Fl K H (.ref a) (.tuple (ns.map PyData.int))
/-- a dict's entries -/
inductive Kvs (K : PySem.W.Frag) (H : Hp) : List (Key × V) → List (PyData × PyData) → Prop
  | nil : Kvs K H [] []
  | cons {i : Int} {v : V} {d : PyData} {ks : List (Key × V)} {kvs : List (PyData × PyData)} : Fl K H v d → Kvs K H ks kvs → Kvs K H ((Sum.inl i, v) :: ks) ((.int i, d) :: kvs)
theorem Fl.mono {K : PySem.W.Frag} {H H' : Hp} {v : V} {d : PyData} (h : Fl K H v d) (s : Same H H') : Fl K H' v d := by
  cases h with
  | non => exact .non
  | int i => exact .int i
  | tup ns h => exact .tup ns (Same.tq s h)
theorem Kvs.mono {K : PySem.W.Frag} {H H' : Hp} : ∀ {ks : List (Key × V)} {kvs : List (PyData × PyData)}, Kvs K H ks kvs → Same H H' → Kvs K H' ks kvs
  | _, _, .nil, _ => .nil
  | _, _, .cons h k, s => .cons (h.mono s) (Kvs.mono k s)
theorem Kvs.len {K : PySem.W.Frag} {H : Hp} : ∀ {ks : List (Key × V)} {kvs : List (PyData × PyData)}, Kvs K H ks kvs → ks.length = kvs.length
  | _, _, .nil => rfl
  | _, _, .cons _ k => by rw [List.length_cons, List.length_cons, Kvs.len k]
mutual
inductive Da (K : PySem.W.Frag) (H : Hp) : V → PyData → Prop
  | non : Da K H .non .none
  | bl (b : Bool) : Da K H (.bl b) (.bool b)
  | int (i : Int) : Da K H (.int i) (.int i)
  | str (x : Str) : Da K H (.str x) (.str x)
  | lst {a : Addr} {xs : List V} {ds : List PyData} : SqL K H a xs → DaAll K H xs ds → Da K H (.ref a) (.list ds)
  | tup {a : Addr} {xs : List V} {ds : List PyData} : SqT K H a xs → DaAll K H xs ds → Da K H (.ref a) (.tuple ds)
  | emp {a : Addr} : H a = some (.dK []) → Da K H (.ref a) (.dict [])
  | dic {a : Addr} {o : Obj} {ks : List (Key × V)} {kvs : List (PyData × PyData)} : H a = some (.frz o (.dK ks)) → Kvs K H ks kvs → Da K H (.ref a) (.dict ((.none, .none) :: kvs))
inductive DaAll (K : PySem.W.Frag) (H : Hp) : List V → List PyData → Prop
  | nil : DaAll K H [] []
  | cons {v : V} {vs : List V} {d : PyData} {ds : List PyData} : Da K H v d → DaAll K H vs ds → DaAll K H (v :: vs) (d :: ds)
end
section
variable {K : PySem.W.Frag} {H H' : Hp}
mutual
theorem Da.same (s : Same H H') : ∀ (d : PyData) (v : V), Da K H v d → Da K H' v d
  | .none, _, h => by
    cases h
    exact .non
  | .bool b, _, h => by
    cases h
    exact .bl b
  | .int i, _, h => by
    cases h
    exact .int i
  | .str x, _, h => by
    cases h
    exact .str x
  | .list ds, _, h => by
    cases h with
    | lst h1 h2 => exact .lst (s.seq h1) (DaAll.same s ds _ h2)
  | .tuple ds, _, h => by
    cases h with
    | tup h1 h2 => exact .tup (Same.tq s h1) (DaAll.same s ds _ h2)
  | .dict _, _, h => by
    cases h with
    | emp h1 => exact .emp (s _ _ h1)
    | dic h1 h2 => exact .dic (s _ _ h1) (h2.mono s)
theorem DaAll.same (s : Same H H') : ∀ (ds : List PyData) (vs : List V), DaAll K H vs ds → DaAll K H' vs ds
  | [], _, h => by
    cases h
    exact .nil
  | d :: ds, _, h => by
    cases h with
    | cons h1 h2 => exact .cons (Da.same s d _ h1) (DaAll.same s ds _ h2)
end
theorem Da.mono {v : V} {d : PyData} (h : Da K H v d) (s : Same H H') : Da K H' v d := Da.same s d v h
theorem DaAll.mono {vs : List V} {ds : List PyData} (h : DaAll K H vs ds) (s : Same H H') : DaAll K H' vs ds := DaAll.same s ds vs h
theorem DaAll.len : ∀ {vs : List V} {ds : List PyData}, DaAll K H vs ds → vs.length = ds.length
  | [], _, h => by
    cases h
    rfl
  | v :: vs, _, h => by
    cases h with
    | cons h1 h2 =>
      rw [List.length_cons, List.length_cons, DaAll.len h2]
theorem DaAll.get : ∀ {vs : List V} {ds : List PyData} {i : Nat} {v : V}, DaAll K H vs ds → vs[i]? = some v → ∃ d, ds[i]? = some d ∧ Da K H v d
  | [], _, _, _, h, e => by simp at e
  | x :: vs, _, i, v, h, e => by
    cases h with
    | cons h1 h2 =>
      cases i with
      | zero =>
        simp at e
        subst e
        exact ⟨_, rfl, h1⟩
      | succ i => exact DaAll.get (i := i) h2 (by simpa using e)
theorem DaAll.append : ∀ {vs ws : List V} {ds es : List PyData}, DaAll K H vs ds → DaAll K H ws es → DaAll K H (vs ++ ws) (ds ++ es)
  | [], _, _, _, h, k => by
    cases h
    exact k
  | _ :: _, _, _, _, h, k => by
    cases h with
    | cons h1 h2 => exact .cons h1 (DaAll.append h2 k)
theorem DaAll.ints : ∀ ns : List Int, DaAll K H (ns.map V.int) (ns.map PyData.int)
  | [] => .nil
  | n :: ns => .cons (.int n) (DaAll.ints ns)
theorem DaAll.drop : ∀ (n : Nat) {vs : List V} {ds : List PyData}, DaAll K H vs ds → DaAll K H (vs.drop n) (ds.drop n)
  | 0, _, _, h => h
  | n + 1, [], _, h => by
    cases h
    exact .nil
  | n + 1, _ :: _, _, h => by
    cases h with
    | cons h1 h2 => exact DaAll.drop n h2
theorem DaAll.take : ∀ (n : Nat) {vs : List V} {ds : List PyData}, DaAll K H vs ds → DaAll K H (vs.take n) (ds.take n)
  | 0, _, _, _ => .nil
  | n + 1, [], _, h => by
    cases h
    exact .nil
  | n + 1, _ :: _, _, h => by
    cases h with
    | cons h1 h2 => exact .cons h1 (DaAll.take n h2)
end

/-! ### isinstance -/
def tyN : PyData → String
  | .none => "NoneType"
  | .bool _ => "bool"
  | .int _ => "int"
  | .str _ => "str"
  | .list _ => "list"
  | .tuple _ => "tuple"
  | .dict _ => "dict"
theorem Da.ty {K : PySem.W.Frag} {H : Hp} : ∀ {v : V} {d : PyData}, Da K H v d → TyX K H v (.type (tyN d))
  | _, _, .non => .base .non
  | _, _, .bl b => .base (.bl b)
  | _, _, .int i => .base (.int i)
  | _, _, .str x => .base (.str x)
  | _, _, .lst h _ => by
    rcases h with (h | ⟨o, h⟩) | h
    · exact .base (.lst h)
    · exact .base (.frz h)
    · obtain ⟨o, its, n, ho, hc, _⟩ := h
      exact .kList ho hc
  | _, _, .tup h _ => by
    rcases h with (h | ⟨o, h⟩) | h
    · exact .base (.tup h)
    · exact .fTuple h
    · obtain ⟨o, its, n, ho, hc, _⟩ := h
      exact .kTuple ho hc
  | _, _, .emp h => .base (.dK h)
  | _, _, .dic h _ => .fDict h
/-- whether isinstance(d, T) is true -/
def isN (T a : String) : Bool := a == T || (T == "int" && a == "bool")
def isI (T : String) (d : PyData) : Bool := isN T (tyN d)
section
variable {K : PySem.W.Frag} {σ : L2.St} {H : Hp} {ta : TE} {x : V} {d : PyData}
end

/-! ### repr -/
section
variable {X : Cx} {pins : List (Addr × Obj)} {σ : L2.St} {H : Hp} {s : Shared}
theorem noSys (I : Inv X pins σ H s) {a : Addr} (h : H a = some (.dK [])) : (a == sysModules) = false := (I.hok a _ h).2.1
mutual
theorem Da.reads (I : Inv X pins σ H s) : ∀ (d : PyData) (v : V) (u : Value), okD d = true → Da X.K H v d → RelV v u → ∃ as, Reads s.heap u d as ∧ (nl d = true → sysModules ∉ as)
  | .none, _, _, _, h, r => by
    cases h
    cases r
    exact ⟨_, Reads.none, fun _ => List.not_mem_nil⟩
  | .bool b, _, _, _, h, r => by
    cases h
    cases r
    exact ⟨_, Reads.bool b, fun _ => List.not_mem_nil⟩
  | .int i, _, _, _, h, r => by
    cases h
    obtain ⟨t, rfl⟩ := r
    exact ⟨_, Reads.int i t, fun _ => List.not_mem_nil⟩
  | .str x, _, _, _, h, r => by
    cases h
    obtain ⟨t, rfl⟩ := r
    exact ⟨_, Reads.str x t, fun _ => List.not_mem_nil⟩
  | .list ds, _, _, ok, h, r => by
    cases h with
    | lst hs ha =>
      cases r
      obtain ⟨its, rv, ⟨o, n, ho, hc, _, hd⟩, _⟩ := I.list hs
      obtain ⟨as, hr, _⟩ := Da.readsAll I ds _ its (by simp only [okD, Bool.and_eq_true] at ok; exact ok.2) ha rv
      exact ⟨_, Reads.list ho hc hd hr, fun z => nomatch z⟩
  | .tuple ds, _, _, ok, h, r => by
    cases h with
    | tup hs ha =>
      cases r
      obtain ⟨its, rv, ⟨o, ho, hc, n, hd⟩, _⟩ := I.tuple hs
      obtain ⟨as, hr, hn⟩ := Da.readsAll I ds _ its (by simp only [okD, Bool.and_eq_true] at ok; exact ok.2) ha rv
      exact ⟨_, Reads.tuple ho hc hd hr, hn⟩
  | .dict kvs, _, _, ok, h, r => by
    cases h with
    | emp h1 =>
      cases r
      have ns := noSys I h1
      obtain ⟨_, _, vs, k, o, es, ep, e1, e2, e3, _, e4, _⟩ := I.hok _ _ h1
      cases k
      have e5 : es.toList = [] := by
        generalize es.toList = l at e4
        cases e4
        rfl
      refine ⟨_, Reads.dict (kvs := []) (as := []) (bs := []) e1 e2.1 e3 (by rw [e5]; exact .nil) (by rw [e5]; exact .nil), fun _ z => ?_⟩
      rcases List.mem_cons.mp z with z | z
      · rw [← z] at ns
        simp at ns
      · exact absurd z List.not_mem_nil
    | dic h1 h2 => cases ok
theorem Da.readsAll (I : Inv X pins σ H s) : ∀ (ds : List PyData) (vs : List V) (us : List Value), okAll ds = true → DaAll X.K H vs ds → Vals vs us → ∃ as, ReadsAll s.heap us ds as ∧ (nlAll ds = true → sysModules ∉ as)
  | [], _, _, _, h, r => by
    cases h
    cases r
    exact ⟨_, ReadsAll.nil, fun _ => List.not_mem_nil⟩
  | d :: ds, _, _, ok, h, r => by
    simp only [okAll, Bool.and_eq_true] at ok
    cases h with
    | cons h1 h2 =>
      cases r with
      | cons r1 r2 =>
        obtain ⟨as, q1, n1⟩ := Da.reads I d _ _ ok.1 h1 r1
        obtain ⟨bs, q2, n2⟩ := Da.readsAll I ds _ _ ok.2 h2 r2
        refine ⟨_, ReadsAll.cons q1 q2, fun z => ?_⟩
        simp only [nlAll, Bool.and_eq_true] at z
        intro m
        rcases List.mem_append.mp m with m | m
        · exact n1 z.1 m
        · exact n2 z.2 m
end
end
end Pb

set_option Elab.async false
set_option linter.all false
set_option maxRecDepth 100000
namespace Pb
open PySem PySem.Spec PyProof.Rows L2
section
variable {X : Cx}
end
/-! ### t[::-1] -/
section
variable {prog : Program} {w : World} {A : Around} {E : Value → Shared → Prop} {s : Shared}
end
section
variable {X : Cx}
end
end Pb

set_option Elab.async false
set_option linter.all false
set_option maxRecDepth 100000
namespace Pb
open PySem PySem.Spec PyProof.Rows L2
open PySem.AutoSeq1 (wpAny_loadPart')
/-! ### enumerate(t), t a tuple -/
section
variable {prog : Program} {w : World} {A : Around} {E : Value → Shared → Prop} {s : Shared}
end
section
variable {prog : Program} {w : World} {A : Around} {E : Value → Shared → Prop} {s : Shared}
end
end Pb

set_option Elab.async false
set_option linter.all false
set_option maxRecDepth 100000
namespace Pb
open PySem PySem.Spec PyProof.Rows L2
/-! ### own exceptions: made without arguments; isinstance with a tuple of classes -/
section
variable {X : Cx}
end
end Pb

set_option Elab.async false
set_option linter.all false
set_option maxRecDepth 100000
namespace Pb
/-! from P2 -/
section
open PySem PySem.Spec PyProof.Rows L2
/-- _law_deck(script): a deck whose three lists are new -/
def spDeck (K : PySem.W.Frag) : Sp := fun vs H Q _ => ∃ (a : Addr) (ns : List Int), vs = [.ref a] ∧ SqL K H a (ns.map V.int) ∧ ns.length ≤ 63 ∧
  ∀ (d b c : Addr) (H' : Hp), Dk d b c 0 H' → H d = none → H b = none → Same H (msk d b H') → Q (.ref d) H'
theorem given_ints (n : Nat) (f : Nat → Bool) (g : Nat → Int) : Evl.given n f (fun i => .int (g i)) = (((List.range n).filter f).map g).map V.int := by
  unfold Evl.given
  rw [List.map_map]
  rfl
theorem ints_at {ns : List Int} {i : Nat} {x : V} (h : (ns.map V.int)[i]? = some x) : x = .int (ns.getD i 0) := by
  rw [List.getElem?_map] at h
  cases e : ns[i]? with
  | none =>
    rw [e] at h
    cases h
  | some y =>
    rw [e] at h
    rw [List.getD_eq_getElem?_getD, e]
    exact (Option.some.inj h).symm
end
/-! from P5 -/
section
open PySem PySem.Spec PyProof.Rows L2
section
variable {K : PySem.W.Frag} {σ : L2.St} {H : Hp} {ta tb tc : TE} {x y v : V} {r r' : R2}
end
/-! ### integers, ascending tuples, tables -/
def isInt (d : PyData) : Bool := isI "int" d && !isI "bool" d
theorem isInt_iff {d : PyData} : isInt d = true ↔ ∃ i, d = .int i := by
  cases d <;> simp [isInt, isI, isN, tyN]
def numBelow : PyData → Int → Bool
  | .int i, c => decide (0 ≤ i) && decide (i < c)
  | _, _ => false
def ascFrom : Int → Int → List PyData → Bool
  | _, _, [] => true
  | l, c, .int i :: r => decide (0 ≤ i) && decide (i < c) && decide (l < i) && ascFrom i c r
  | _, _, _ :: _ => false
def asc : PyData → Int → Bool
  | .tuple ds, c => ascFrom (-1) c ds
  | _, _ => false
section
variable (K : PySem.W.Frag)
end
end
/-! from P6 -/
section
open PySem PySem.Spec PyProof.Rows L2
section
variable {K : PySem.W.Frag} {σ : L2.St} {H : Hp} {t : TT} {te : TE}
end
end
/-! from P7 -/
section
open PySem PySem.Spec PyProof.Rows L2
/-! ### ascending, and sorted without repeats -/
theorem all_ints : ∀ {ds : List PyData}, (∀ d ∈ ds, isInt d = true) → ∃ ns : List Int, ds = ns.map PyData.int
  | [], _ => ⟨[], rfl⟩
  | d :: ds, h => by
    obtain ⟨n, rfl⟩ := isInt_iff.mp (h d List.mem_cons_self)
    obtain ⟨ns, rfl⟩ := all_ints fun x hx => h x (List.mem_cons_of_mem _ hx)
    exact ⟨n :: ns, rfl⟩
theorem strict_eq {a b : List Int} (ha : a.Pairwise (· < ·)) (hb : b.Pairwise (· < ·)) (h : ∀ k, k ∈ a ↔ k ∈ b) : a = b := by
  have na : a.Nodup := ha.imp fun h e => by omega
  have nb : b.Nodup := hb.imp fun h e => by omega
  exact List.Perm.eq_of_pairwise (le := (· ≤ ·)) (fun x y _ _ h1 h2 => Int.le_antisymm h1 h2) (ha.imp fun h => Int.le_of_lt h) (hb.imp fun h => Int.le_of_lt h) ((List.perm_ext_iff_of_nodup na nb).mpr h)
section
variable {K : PySem.W.Frag} {σ : L2.St} {H : Hp} {ta : TE}
end
end
/-! from P8 -/
section
open PySem PySem.Spec PyProof.Rows L2
/-! ### draws, one after another -/
section
variable {d b c D p a : Addr} {n m n' n1 n2 k : Int} {H H' H1 H2 : Hp} {o : HO}
theorem Dk.off (h : Dk d b c n H) (hD : H D = none) : D ≠ d ∧ D ≠ b ∧ D ≠ c := by
  obtain ⟨bs, hb⟩ := h.at_b
  obtain ⟨cs, hc, _⟩ := h.at_c
  refine ⟨fun z => ?_, fun z => ?_, fun z => ?_⟩
  · rw [z, h.at_d] at hD
    cases hD
  · rw [z, hb] at hD
    cases hD
  · rw [z, hc] at hD
    cases hD
theorem Dk.put (h : Dk d b c n H) (h1 : D ≠ d ∧ D ≠ b ∧ D ≠ c) : Dk d b c n (upd H D o) := by
  obtain ⟨x1, x2, x3, x4, x5, ⟨bs, x6⟩, cs, x7, x8⟩ := h
  refine ⟨x1, x2, x3, x4, ?_, ⟨bs, ?_⟩, cs, ?_, x8⟩
  · rw [upd_ne h1.1.symm]
    exact x5
  · rw [upd_ne h1.2.1.symm]
    exact x6
  · rw [upd_ne h1.2.2.symm]
    exact x7
theorem Dr.refl (h : Dk d b c n H) : Dr d b c n H n H := ⟨h, Int.le_refl _, Same.refl _⟩
theorem Dr.step (h1 : Dr d b c m H n1 H1) (h2 : Dr d b c (n1 + k) H1 n2 H2) : Dr d b c (m + k) H n2 H2 := ⟨h2.dk, by have := h1.le; have := h2.le; omega, h1.sm.trans h2.sm⟩
theorem Dr.new (h : Dr d b c m H n' H') (hp : H' p = none) : Dr d b c m H n' (upd H' p o) := ⟨h.dk.same (same_upd hp), h.le, h.sm.trans (msk_same (same_upd hp))⟩
theorem Dr.more (h : Dr d b c m H n' H') (s : Same H' H1) : Dr d b c m H n' H1 := ⟨h.dk.same s, h.le, h.sm.trans (msk_same s)⟩
theorem Dr.put (h : Dr d b c m H n' H') (h0 : Dk d b c n H) (hD : H D = none) : Dr d b c m H n' (upd H' D o) := by
  have x := h0.off hD
  refine ⟨h.dk.put x, h.le, fun a u e => ?_⟩
  have ne : a ≠ D := fun z => by
    rw [z, msk_none hD] at e
    cases e
  rw [msk_new x.1 x.2.1, upd_ne ne]
  exact h.sm a u e
theorem Dr.at (h : Dr d b c m H n' H') (x : a ≠ d ∧ a ≠ b ∧ a ≠ c) (e : H a = some o) : H' a = some o := by
  have q := h.sm a o (by rw [msk_ne x.1 x.2.1]; exact e)
  exact (msk_some q).2.2
end
def upto (n : Nat) : List Int := (List.range n).map fun i => ((i : Nat) : Int)
theorem ints_len (m : Nat) : (upto m).length = m := by
  unfold upto
  rw [List.length_map, List.length_range]
theorem mem_ints {m : Nat} {i : Int} : i ∈ upto m ↔ 0 ≤ i ∧ i < m := by
  unfold upto
  rw [List.mem_map]
  constructor
  · rintro ⟨j, hj, rfl⟩
    have := List.mem_range.mp hj
    omega
  · rintro ⟨h1, h2⟩
    exact ⟨i.toNat, List.mem_range.mpr (by omega), by omega⟩
theorem ints_strict (m : Nat) : (upto m).Pairwise (· < ·) := by
  unfold upto
  rw [List.pairwise_map]
  exact List.pairwise_lt_range.imp fun h => by omega
end
/-! from P9 -/
section
end
/-! from P10 -/
section
open PySem PySem.Spec PyProof.Rows L2
/-! ### heaps without some addresses -/
def hs (S : List Addr) (H : Hp) : Hp := fun a => if a ∈ S then none else H a
section
variable {S : List Addr} {H H' : Hp} {a p d b : Addr} {o : HO}
theorem hs_out (h : a ∉ S) : hs S H a = H a := by
  unfold hs
  rw [if_neg h]
theorem hs_some (h : hs S H a = some o) : a ∉ S ∧ H a = some o := by
  unfold hs at h
  split at h
  · cases h
  · rename_i q
    exact ⟨q, h⟩
theorem hs_sub : Same (hs S H) H := fun _ _ e => (hs_some e).2
theorem hs_mono (s : Same H H') : Same (hs S H) (hs S H') := fun a o e => by
  obtain ⟨h1, h2⟩ := hs_some e
  rw [hs_out h1]
  exact s _ _ h2
theorem hs_put (h : a ∈ S) : hs S (upd H a o) = hs S H := by
  funext x
  unfold hs
  split
  · rfl
  · rename_i q
    rw [upd_ne fun z => q (by rw [z]; exact h)]
theorem hs_msk (s : Same (msk d b H) (msk d b H')) (h1 : d ∈ S) (h2 : b ∈ S) : Same (hs S H) (hs S H') := fun a o e => by
  obtain ⟨x1, x2⟩ := hs_some e
  have q := s a o (by rw [msk_ne (fun z => x1 (by rw [z]; exact h1)) (fun z => x1 (by rw [z]; exact h2))]; exact x2)
  rw [hs_out x1]
  exact (msk_some q).2.2
theorem hs_at (h : a ∉ S) (e : H a = some o) : hs S H a = some o := by
  rw [hs_out h]
  exact e
theorem msk_to_hs {T : List Addr} (h : ∀ x ∈ S, x ∈ T) : Same (hs T H) (hs S H) := fun a o e => by
  obtain ⟨x1, x2⟩ := hs_some e
  rw [hs_out fun z => x1 (h a z)]
  exact x2
end
/-! ### offers and tables as data -/
def offD (o : List Int) : PyData := .tuple (o.map PyData.int)
def tabD (n : Int) (os : List (List Int)) : PyData := .tuple [.int n, .tuple (os.map offD)]
def OffOk (n : Int) (o : List Int) : Prop := (∀ i ∈ o, 0 ≤ i ∧ i < n) ∧ o.Pairwise (· < ·)
theorem nodup_len : ∀ {l r : List Int}, l.Nodup → (∀ i ∈ l, i ∈ r) → l.length ≤ r.length
  | [], _, _, _ => Nat.zero_le _
  | x :: l, r, nd, h => by
    have hx := h x List.mem_cons_self
    obtain ⟨n1, n2⟩ := List.nodup_cons.mp nd
    have ih := nodup_len (r := r.erase x) n2 fun i hi => (List.mem_erase_of_ne (fun e : i = x => n1 (by rw [← e]; exact hi))).mpr (h i (List.mem_cons_of_mem _ hi))
    rw [List.length_erase_of_mem hx] at ih
    have := List.length_pos_of_mem hx
    rw [List.length_cons]
    omega
theorem OffOk.len {m : Nat} {o : List Int} (h : OffOk m o) : o.length ≤ m := by
  have q := nodup_len (l := o) (r := upto m) (h.2.imp fun h e => by omega) fun i hi => mem_ints.mpr (h.1 i hi)
  rw [ints_len] at q
  exact q
theorem DaAll.mem {K : PySem.W.Frag} {H : Hp} {vs : List V} {ds : List PyData} {x : V} (h : DaAll K H vs ds) (hx : x ∈ vs) : ∃ e ∈ ds, Da K H x e := by
  obtain ⟨i, hi⟩ := List.getElem?_of_mem hx
  obtain ⟨e, he, hd⟩ := DaAll.get h hi
  exact ⟨e, List.mem_of_getElem? he, hd⟩
/-! ### what an expression may give -/
def Ew (te : TE) (σ : L2.St) (H : Hp) (P : V → Hp → Prop) : Prop := ∀ Q : VK, (∀ v H', P v H' → Q v H') → te σ H Q
/-- what stands between two turns: found holds offers -/
structure Fnd (K : PySem.W.Frag) (d b c fo : Addr) (m : Nat) (N : Int) (H1 : Hp) (i : Nat) (H' : Hp) : Prop where
  ex : ∃ (refs : List V) (os : List (List Int)) (n' : Int), H' fo = some (.lst refs) ∧ DaAll K (hs [d, b, fo] H') refs (os.map offD) ∧ os.length = i ∧ (∀ o ∈ os, OffOk m o) ∧ Dr d b c N H1 n' H'
theorem Fnd.len {K : PySem.W.Frag} {d b c fo : Addr} {m : Nat} {N : Int} {H1 : Hp} {i : Nat} {H' : Hp} {refs : List V} {os : List (List Int)} (h : DaAll K (hs [d, b, fo] H') refs (os.map offD)) (hl : os.length = i) : refs.length = i := by
  rw [DaAll.len h, List.length_map, hl]
end
/-! from P11 -/
section
open PySem PySem.Spec PyProof.Rows L2
end
/-! from P12 -/
section
open PySem PySem.Spec PyProof.Rows L2
theorem Dr.free {d b c D : Addr} {m n' : Int} {H H' : Hp} (h : Dr d b c m H n' H') (hD : H' D = none) : H D = none := by
  cases e : H D with
  | none => rfl
  | some o =>
    have x := h.dk.off hD
    rw [h.at x e] at hD
    cases hD
theorem DaAll.erase {K : PySem.W.Frag} {H : Hp} : ∀ {vs : List V} {ds : List PyData} (j : Nat), DaAll K H vs ds → DaAll K H (vs.eraseIdx j) (ds.eraseIdx j)
  | [], _, _, h => by
    cases h
    exact .nil
  | _ :: _, _, 0, h => by
    cases h with
    | cons h1 h2 => exact h2
  | _ :: _, _, j + 1, h => by
    cases h with
    | cons h1 h2 => exact .cons h1 (DaAll.erase j h2)
end
/-! from P13 -/
section
open PySem PySem.Spec PyProof.Rows L2
/-- the values of _law_odd -/
def oddL : List PyData := [.none, .bool true, .bool false, .int 0, .int 1, .int (-1), .int 2, .int 8, .int 16, .int (10 ^ 12), .int (10 ^ 12 + 1), .int (10 ^ 59), .str "", .str "0", .str "order", .tuple [], .tuple [.int 0],
  .tuple [.int 0, .int 1], .list [], .dict [], .list [.int 0], .tuple [.bool true], .tuple [.tuple []]]
/-- the deck, and addresses S (the deck's two lists among them) that are tracked and left out of all data -/
structure Ck (S : List Addr) (d b c : Addr) (n : Int) (H : Hp) : Prop where
  dk : Dk d b c n H
  hd : d ∈ S
  hb : b ∈ S
  tr : ∀ s ∈ S, ∃ o, H s = some o
theorem Ck.same {S : List Addr} {d b c : Addr} {n : Int} {H H' : Hp} (h : Ck S d b c n H) (s : Same H H') : Ck S d b c n H' := ⟨h.dk.same s, h.hd, h.hb, fun x hx => (h.tr x hx).elim fun o e => ⟨o, s _ _ e⟩⟩
theorem Ck.out {S : List Addr} {d b c p : Addr} {n : Int} {H : Hp} (h : Ck S d b c n H) (hp : H p = none) : p ∉ S := fun z => by
  obtain ⟨o, e⟩ := h.tr p z
  rw [hp] at e
  cases e
theorem Ck.dr {S : List Addr} {d b c : Addr} {n m n' : Int} {H H' : Hp} (h : Ck S d b c n H) (dr : Dr d b c m H n' H') : Ck S d b c n' H' := ⟨dr.dk, h.hd, h.hb, fun x hx => by
  by_cases e1 : x = d
  · rw [e1]
    exact ⟨_, dr.dk.at_d⟩
  · by_cases e2 : x = b
    · rw [e2]
      exact dr.dk.at_b.elim fun bs e => ⟨_, e⟩
    · obtain ⟨o, e⟩ := h.tr x hx
      exact ⟨o, (msk_some (dr.sm x o (by rw [msk_ne e1 e2]; exact e))).2.2⟩⟩
theorem Ck.sm {S : List Addr} {d b c : Addr} {n m n' : Int} {H H' : Hp} (h : Ck S d b c n H) (dr : Dr d b c m H n' H') : Same (hs S H) (hs S H') := hs_msk dr.sm h.hd h.hb
theorem Ck.two {d b c : Addr} {n : Int} {H : Hp} (h : Dk d b c n H) : Ck [d, b] d b c n H := ⟨h, by simp, by simp, fun s hs => by
  rcases List.mem_cons.mp hs with rfl | hs
  · exact ⟨_, h.at_d⟩
  · have e : s = b := by simpa using hs
    rw [e]
    exact h.at_b.elim fun bs e => ⟨_, e⟩⟩
theorem msk_hs {d b : Addr} {H : Hp} : msk d b H = hs [d, b] H := by
  funext a
  unfold msk hs
  simp
def spOdd (K : PySem.W.Frag) : Sp := fun vs H Q _ => ∃ (S : List Addr) (d b c : Addr) (n : Int), vs = [.ref d] ∧ Ck S d b c n H ∧ n < 2 ^ 50 ∧
  ∀ (v : V) (e : PyData) (n' : Int) (H' : Hp), e ∈ oddL → Dr d b c (n + 1) H n' H' → Da K (hs S H') v e → Q v H'
def oddA (t1 t2 : Addr) : List V := [V.non, V.bl true, V.bl false, V.int 0, V.int 1, V.int (-1), V.int 2, V.int 8, V.int 16, V.int (10 ^ Int.toNat 12), V.int (10 ^ Int.toNat 12 + 1), V.int (10 ^ Int.toNat 59), V.str "", V.str "0", V.str "order", V.ref t1, V.ref t2]
theorem q_asgP {te : TE} {σ : L2.St} {H : Hp} {D : Ends} {tz : TS} {i : Nat} (P : V → Hp → Prop) (h : Ew te σ H P) (k : ∀ v H', P v H' → tz D (σ.set i (some v)) H') : tSeq (tAsg te (gName i)) tz D σ H := h _ k
/-- o stands at p, apart from the deck and from S -/
structure Nw (S : List Addr) (d b c : Addr) (H : Hp) (p : Addr) (o : HO) : Prop where
  at_p : H p = some o
  off : p ≠ d ∧ p ≠ b ∧ p ≠ c
  out : p ∉ S
section
variable {K : PySem.W.Frag} {S : List Addr} {d b c p : Addr} {n : Int} {H H' : Hp} {o : HO} {xs : List V}
theorem Nw.new (h : Ck S d b c n H) (hp : H p = none) : Nw S d b c (upd H p o) p o := ⟨upd_same, h.dk.off hp, h.out hp⟩
theorem Nw.mono (h : Nw S d b c H p o) (s : Same H H') : Nw S d b c H' p o := ⟨s _ _ h.at_p, h.off, h.out⟩
theorem Nw.tup (h : Nw S d b c H p (.tup xs)) : SqT K (hs S H) p xs := SqT.of (hs_at h.out h.at_p)
theorem Nw.lst (h : Nw S d b c H p (.lst xs)) : SqL K (hs S H) p xs := SqL.of (hs_at h.out h.at_p)
theorem Nw.emp (h : Nw S d b c H p (.dK [])) : Da K (hs S H) (.ref p) (.dict []) := .emp (hs_at h.out h.at_p)
end
end
/-! from P14 -/
section
open PySem PySem.Spec PyProof.Rows L2
/-! ### plain data: small ints and tuples -/
/-- what _law_bent makes of e -/
structure Bnt (e e' : PyData) : Prop where
  ok : okD e' = true
  w : wt e' ≤ 2 * wt e + 2200
  dp : e'.depth ≤ e.depth + 2
  nd : e'.hasDict = true → nl e' = true
/-! ### cuts of any list -/
def cutG {α : Type} (xs : List α) (lo hi : Option Int) : List α := (xs.drop (HT.sIx xs.length 0 lo)).take (HT.sIx xs.length xs.length hi - HT.sIx xs.length 0 lo)
theorem DaAll.cut {K : PySem.W.Frag} {H : Hp} {vs : List V} {ds : List PyData} (h : DaAll K H vs ds) (lo hi : Option Int) : DaAll K H (cutV vs lo hi) (cutG ds lo hi) := by
  unfold cutV cutG
  rw [DaAll.len h]
  exact (h.drop _).take _
theorem cutG_take {α : Type} {xs : List α} {j : Nat} (h : j ≤ xs.length) : cutG xs none (some (j : Int)) = xs.take j := by
  unfold cutG
  rw [HT.sIx_nat, HT.sIx_none, Nat.min_eq_left h, List.drop_zero, Nat.sub_zero]
theorem cutG_drop {α : Type} {xs : List α} {j : Nat} (h : j ≤ xs.length) : cutG xs (some (j : Int)) none = xs.drop j := by
  unfold cutG
  rw [HT.sIx_nat, HT.sIx_none, Nat.min_eq_left h]
  exact List.take_of_length_le (by rw [List.length_drop]; omega)
end
/-! from P15 -/
section
open PySem PySem.Spec PyProof.Rows L2
end
/-! from P16 -/
section
open PySem PySem.Spec PyProof.Rows L2
/-! ### the law's own call: nothing is being shown there -/
section
variable {P : Program} {w : World} {K : PySem.W.Frag} {mg : Str → Option Value} {base : Heap}
/-- what FnOk says, of a call where nothing is being shown -/
def RunG (P : Program) (w : World) (K : PySem.W.Frag) (mg : Str → Option Value) (base : Heap) (k : Nat) (f : Addr) (fd : FuncData) (ps : List Str) (sp : Sp) : Prop :=
  ∀ (A : Around) (fr : List Env) (t : Shared) (H : Hp) (ar : Args) (us : List Value) (vs : List V) (Q : VK), A.guards = some [] → Room k A → Env0 P w K mg base A fr t H → BindsTo t fd ar (ps.zip us) → Vals vs us → sp vs H Q E0 →
    codeAny (model P w) A (.call (.ref f) ar) (CR CX0 fr P w H t Q E0) t
theorem runG_of {x qual : Str} {st : Stmt} {f : Addr} {fd : FuncData} {N ps : List Str} {k : Nat} {sp : Sp} (F : Fun K x qual st f fd) (S : FnScope N ps (defScope st)) (len : ∀ vs H Q E, sp vs H Q E → vs.length = ps.length)
    (body : ∀ (cdv : Value) (A : Around) (fr : List Env) (t : Shared) (H : Hp) (vs : List V) (Q : VK), (A.deeper (envOfC qual (defScope st) t.heap.objs.size f cdv)).guards = some [] → Room k (A.deeper (envOfC qual (defScope st) t.heap.objs.size f cdv)) → sp vs H Q E0 →
      ∃ r, PSs (cxOf CX0 P w K mg base N qual (defScope st) f cdv A fr t H E0).nox (defBody st) r ∧ r { nx := fun _ H' => Q .non H', rt := Q } (start N vs) H) : RunG P w K mg base (k + 1) f fd ps sp := by
  obtain ⟨oc, od, kV, doc, pm, an, cdv, ct, osl, rfl, lk, hcd⟩ := F.ex
  intro A fr t H ar us vs Q hg hr e0 hb rv hsp
  have hlen := len _ _ _ _ hsp
  have hK : K.In t.heap := e0.mod.kin.keeps fun b o e => (e0.bs b o e).1
  have hlim : t.heap.NoLimit := e0.mod.nolimit.keeps fun b o e => (e0.bs b o e).1
  have kinds : ∀ y ∈ ps.zip us, (defScope st).names.lookup y.1 = some .local ∨ ((defScope st).names.lookup y.1 = some .cell ∧ ((cellsFrom (t.heap.objs.size + 1) (defScope st).names []).lookup y.1).isSome = true) := fun ⟨nm, u⟩ hy =>
    (S.par nm (List.of_mem_zip hy).1).elim .inl fun z => .inr ⟨z, PySem.W.cellsFrom_some _ _ _ (.inl z)⟩
  refine codeAny_call_function hr.depth (hK _ _ lk) rfl S.co S.gen rfl (PySem.W.codeRec_of hK hcd) (hb _ _ _ _ ?_)
  refine wpAny_newFunctionEnv_cells S.kind kinds fun env he t1 nf => ?_
  subst he
  refine ⟨hlim.keeps nf.toInCall.keep, codeAny_func ?_⟩
  obtain ⟨r, hr1, hr2⟩ := body cdv A fr t H vs Q (by rw [← hg]; rfl) (hr.deeper _) hsp
  have I0 : Inv (cxOf CX0 P w K mg base N qual (defScope st) f cdv A fr t H E0) [] (start N vs) H t1 := inv_start S hr.hd e0 hlen rv nf
  refine wpAny_mono (hr1.nox.run [] t1 (start N vs) H _ I0 hr2) (fun fl t2 h2 => ?_) fun _ _ z => z
  cases fl with
  | ret u =>
    obtain ⟨v, σ', H', J, rv', q⟩ := h2
    exact ⟨v, H', J.os, J.bare, J.base, J.hok, rv', q⟩
  | next =>
    obtain ⟨σ', H', J, q⟩ := h2
    exact ⟨.non, H', J.os, J.bare, J.base, J.hok, rfl, q⟩
  | brk => exact h2.elim fun _ z => z.elim fun _ y => y.2.elim
  | cont => exact h2.elim fun _ z => z.elim fun _ y => y.2.elim
end
end
/-! from P17 -/
section
open PySem PySem.Spec PyProof.Rows L2
/-! ### expressions that make data, the deck apart -/
section
variable (K : PySem.W.Frag) (S : List Addr) (d b c : Addr)
def EvE (te : TE) (σ : L2.St) (H : Hp) (e : PyData) : Prop := ∀ H1, Same H H1 → (∃ n, Ck S d b c n H1) → ∀ Q : VK, (∀ v H2, Same H1 H2 → Da K (hs S H2) v e → Q v H2) → te σ H1 Q
end
section
variable {K : PySem.W.Frag} {S : List Addr} {d b c : Addr} {σ : L2.St} {H : Hp} {ta tb te : TE} {tr : TA} {e : PyData} {es fs : List PyData}
end
/-! ### good values -/
structure Gd (e : PyData) : Prop where
  ok : okD e = true
  w : wt e ≤ 1000000
  dp : e.depth ≤ 12
  nd : e.hasDict = true → nl e = true
/-- good items -/
structure GdL (L : List PyData) : Prop where
  ok : okAll L = true
  len : L.length ≤ 60
  w : wtAll L ≤ 100000
  dp : PyData.depthAll L ≤ 8
  nd : PyData.hasDictAll L = false
/-! ### tables are plain -/
end
/-! from P18 -/
section
open PySem PySem.Spec PyProof.Rows L2
/-- the law: True -/
def spLaw (K : PySem.W.Frag) : Sp := fun vs H Q _ => ∃ (a : Addr) (ns : List Int), vs = [.ref a] ∧ SqL K H a (ns.map V.int) ∧ ns.length ≤ 63 ∧ ∀ H', Q (.bl true) H'
end
/-! from P19 -/
section
open PySem PySem.Spec PyProof.Rows L2
/-- the def x of the text, as the top has left it -/
def Df (K : PySem.W.Frag) (mg : Str → Option Value) (x : Str) (st : Stmt) : Prop := ∃ (f : Addr) (fd : FuncData), Fun K x x st f fd ∧ mg x = some (.ref f)
theorem df_mk {K : PySem.W.Frag} {h : Heap} {mg : Str → Option Value} {x : Str} {st : Stmt} {f : Addr} {od an : Option Addr} {sl : Array (Option Value)} {oc kV dc pm cd ct : Value} (X : K.In h) (G : h.Ns mainGlobals mg) (a : PySem.W.nsIn K mainGlobals x = some (some (.ref f)))
    (l : K.lookup f = some ⟨oc, od, .func (PySem.W.fnOf x x (defArgs st) (defBody st) (defScope st) .none kV dc pm an cd ct), sl⟩) (c : PySem.W.codeIn K cd x = true) (k : PySem.W.keepIn K (.ref f) = true) : Df K mg x st := ⟨f, _, fun_mk (st := st) l c k, PySem.W.mg_of X G a⟩
theorem ct_mk {K : PySem.W.Frag} {h : Heap} {mg : Str → Option Value} {x : Str} {v : Value} {i : Int} (X : K.In h) (G : h.Ns mainGlobals mg) (a : PySem.W.nsIn K mainGlobals x = some (some v)) (e : ∃ t, v = .int i t) : ∃ t, mg x = some (.int i t) := e.elim fun t z => ⟨t, z ▸ PySem.W.mg_of X G a⟩
theorem cl_mk {P : Program} {w : World} {K : PySem.W.Frag} {mg : Str → Option Value} {base : Heap} {x : Str} {st : Stmt} {f : Addr} {fd : FuncData} {ps : List Str} {sp : Sp} {k : Nat} (F : Fun K x x st f fd) (g : mg x = some (.ref f)) (b : Binds K fd ps []) (ok : FnOk P w K mg base CX0 k f fd ps sp) : Cl P w K mg base k x ps sp := ⟨f, fd, ok, g, F.kp, b⟩
end
end Pb

set_option Elab.async false
set_option linter.all false
set_option maxRecDepth 100000
namespace Pb
open PySem PySem.Spec PyProof.Rows L2
/-! ### what _law_same needs -/
section
variable {K : PySem.W.Frag} {σ : L2.St} {H : Hp} {ta tb : TE} {x : V} {d : PyData}
end
/-- a list or a tuple in the heap -/
theorem Da.seq {K : PySem.W.Frag} {H : Hp} {x : V} {e : PyData} (h : Da K H x e) (hs : (isI "tuple" e || isI "list" e) = true) : ∃ a xs es, x = .ref a ∧ (SqL K H a xs ∨ SqT K H a xs) ∧ DaAll K H xs es ∧ (e = .list es ∨ e = .tuple es) := by
  cases h with
  | lst h1 h2 => exact ⟨_, _, _, rfl, .inl h1, h2, .inl rfl⟩
  | tup h1 h2 => exact ⟨_, _, _, rfl, .inr h1, h2, .inr rfl⟩
  | non => simp [isI, isN, tyN] at hs
  | bl => simp [isI, isN, tyN] at hs
  | int => simp [isI, isN, tyN] at hs
  | str => simp [isI, isN, tyN] at hs
  | emp => simp [isI, isN, tyN] at hs
  | dic => simp [isI, isN, tyN] at hs
end Pb

set_option Elab.async false
set_option linter.all false
set_option maxRecDepth 100000
namespace Pb
open PySem PySem.Spec PyProof.Rows L2
/-! ### readings that give data, apart from the addresses S -/
/-- the addresses S are in use -/
def Tr (S : List Addr) (H : Hp) : Prop := ∀ s ∈ S, ∃ o, H s = some o
theorem Tr.same {S : List Addr} {H H' : Hp} (h : Tr S H) (s : Same H H') : Tr S H' := fun x hx => (h x hx).elim fun o e => ⟨o, s _ _ e⟩
theorem Tr.out {S : List Addr} {H : Hp} {p : Addr} (h : Tr S H) (hp : H p = none) : p ∉ S := fun z => by
  obtain ⟨o, e⟩ := h p z
  rw [hp] at e
  cases e
section
variable (K : PySem.W.Frag) (S : List Addr)
def EvD (te : TE) (σ : L2.St) (H : Hp) (e : PyData) : Prop := ∀ H1, Same H H1 → Tr S H1 → ∀ Q : VK, (∀ v H2, Same H1 H2 → Da K (hs S H2) v e → Q v H2) → te σ H1 Q
/-- data in, data out -/
def spD (R : List PyData → PyData → Prop) : Sp := fun vs H Q _ => ∃ S ds e, Tr S H ∧ DaAll K (hs S H) vs ds ∧ R ds e ∧ ∀ v H', Same H H' → Da K (hs S H') v e → Q v H'
end
section
variable {K : PySem.W.Frag} {S : List Addr} {σ : L2.St} {H H' : Hp} {te tb : TE} {ta : TA} {v : V} {e : PyData} {es : List PyData}
theorem EvD.mono (h : EvD K S te σ H e) (s : Same H H') : EvD K S te σ H' e := fun H1 s1 tr Q q => h H1 (s.trans s1) tr Q q
end
/-! ### enumerate of a tuple in a comprehension -/
theorem pg_tupK {X : Cx} {K : PySem.W.Frag} {pos : Pos} {es : List Expr} {k : Nat} {t : TGs} {n : Nat} (hK : X.K = K) (hc : X.calm = true) (h : PGs X es t)
    (hn : (assignEach es X.env).length = n := by rfl) (hst : (assignEach es X.env).findIdx? (·.1) = none := by rfl) : PG X (.Tuple es k pos) (gTup K n t) := hK ▸ pg_tup hc h hn hst
section
variable {K : PySem.W.Frag} {σ : L2.St} {H : Hp} {t : TT} {te : TE}
end
/-! ### comprehensions whose items are new data -/
theorem hs_cons_sub {D : Addr} {S : List Addr} {H : Hp} : Same (hs (D :: S) H) (hs S H) := fun a o e => by
  obtain ⟨h1, h2⟩ := hs_some e
  rw [hs_out (fun z => h1 (List.mem_cons_of_mem _ z))]
  exact h2
/-- D is new -/
theorem hs_cons_new {D : Addr} {S : List Addr} {H : Hp} {o : HO} (h : H D = none) : Same (hs S H) (hs (D :: S) (upd H D o)) := fun a u e => by
  obtain ⟨h1, h2⟩ := hs_some e
  have ne : a ≠ D := fun z => by
    rw [z, h] at h2
    cases h2
  rw [hs_out (by simp [ne, h1]), upd_ne ne]
  exact h2
section
variable {K : PySem.W.Frag} {S : List Addr} {σ : L2.St} {H : Hp} {te : TE} {ta : TA}
end
end Pb

set_option Elab.async false
set_option linter.all false
set_option maxRecDepth 100000
namespace Pb
open PySem PySem.Spec PyProof.Rows L2
/-! ### tables -/
end Pb

set_option Elab.async false
set_option linter.all false
set_option maxRecDepth 100000
namespace Pb
open PySem PySem.Spec PyProof.Rows L2
/-! ### own exception classes that nothing is written in -/
abbrev veT : List Value := [.type "ValueError", .type "Exception", .type "BaseException", .type "object"]
structure Ec0 (K : PySem.W.Frag) (mg : Str → Option Value) (x : Str) (C : Addr) : Prop where
  g : mg x = some (.ref C)
  x : PySem.W.excIn K C veT "ValueError.__new__" = true
  k : PySem.W.keepIn K (.ref C) = true
  b : PySem.W.subIn K (.ref C) (.type "BaseException") = some true
  t : PySem.W.typeIn K (.ref C) = some (.type "type")
end Pb

set_option Elab.async false
set_option linter.all false
set_option maxRecDepth 100000
namespace Pb
open PySem PySem.Spec PyProof.Rows L2
/-! ### a list that grows in a loop -/
structure Gro (K : PySem.W.Frag) (S : List Addr) (fo : Addr) (H1 : Hp) (es : List PyData) (H' : Hp) : Prop where
  at_fo : ∃ ds, H' fo = some (.lst ds) ∧ DaAll K (hs (fo :: S) H') ds es
  old : ∀ a o, a ≠ fo → H1 a = some o → H' a = some o
  tr : Tr (fo :: S) H'
section
variable {K : PySem.W.Frag} {S : List Addr} {fo : Addr} {H H1 H' : Hp} {es : List PyData} {e : PyData} {te ta : TE} {σ : L2.St} {D : Ends} {i : Nat}
/-- the list just made -/
theorem Gro.new (tr : Tr S H) (hf : H fo = none) : Gro K S fo (upd H fo (.lst [])) [] (upd H fo (.lst [])) := ⟨⟨[], upd_same, .nil⟩, fun _ _ _ e => e, fun x hx => by
  rcases List.mem_cons.mp hx with rfl | hx
  · exact ⟨_, upd_same⟩
  · exact tr.same (same_upd hf) x hx⟩
theorem Gro.more {H2 : Hp} (g : Gro K S fo H1 es H') (s : Same H' H2) : Gro K S fo H1 es H2 := by
  obtain ⟨⟨ds, e1, e2⟩, old, tr⟩ := g
  exact ⟨⟨ds, s _ _ e1, e2.mono (hs_mono s)⟩, fun a o n e => s _ _ (old a o n e), tr.same s⟩
theorem Gro.sm (g : Gro K S fo H1 es H') : Same (hs (fo :: S) H1) (hs (fo :: S) H') := fun a o e => by
  obtain ⟨h1, h2⟩ := hs_some e
  exact hs_at h1 (g.old a o (fun z => h1 (by simp [z])) h2)
/-- it is data, at last -/
theorem Gro.da (g : Gro K S fo H1 es H') (hf : fo ∉ S) : Da K (hs S H') (.ref fo) (.list es) := by
  obtain ⟨⟨ds, e1, e2⟩, old, tr⟩ := g
  exact .lst (SqL.of (hs_at hf e1)) (e2.mono hs_cons_sub)
theorem Gro.trS (g : Gro K S fo H1 es H') : Tr S H' := fun x hx => g.tr x (List.mem_cons_of_mem _ hx)
/-- all that stood before the list was made still stands -/
theorem Gro.same (g : Gro K S fo (upd H fo (.lst [])) es H') (hf : H fo = none) : Same H H' := fun a o e => by
  have ne : a ≠ fo := fun z => by
    rw [z, hf] at e
    cases e
  exact g.old a o ne (by rw [upd_ne ne]; exact e)
end
end Pb

set_option Elab.async false
set_option linter.all false
set_option maxRecDepth 100000
namespace Pb
open PySem PySem.Spec PyProof.Rows L2
open L2H (RoomH PinOk cxH inv_startH)
open PySem.W (Frag findIn subIn specialIn takesIn hasDictIn mroIn InstAt KitX clsIn)
/-! ### a caught error of an own class, with or without a dict: its class, its fields, handed on to a def -/
section
variable {prog : Program} {w : World} {A : Around} {E : Value → Shared → Prop} {s : Shared} {K : Frag} {x D : Addr} {ox : Obj} {od : Option Obj}
theorem find_cls (C : ExcC K D) : PySem.W.findObj K D od "__class__" = some (.bind (.builtin "getset_descriptor.__get__") (.builtin "object.__class__")) := by
  obtain ⟨cd, hc, _⟩ := PySem.W.any_some C.hd
  simp [PySem.W.findObj, hc, C.ha, C.hn, C.ht]
theorem ask_class {Q : Option Value → Shared → Prop} (C : ExcC K D) (X : K.In s.heap) (I : InstAt s.heap x ox D od) (h : Q (some (.ref D)) { s with toks := s.toks + 1 }) : wpAny (model prog w) A (getAttr? (.ref x) "__class__") Q E s := by
  obtain ⟨hp, g, d, t, os⟩ := s
  have a0 := I.type (M := model prog w)
  have a1 := PySem.W.looks_findIn (M := model prog w) X C.hg
  have a2 := PySem.W.looks_findIn (M := model prog w) X C.hk
  have a3 := PySem.W.looks_find (M := model prog w) X I (find_cls C)
  have z2 : (Value.builtin "BaseException.__getattribute__" == Value.builtin "object.__getattribute__") = false := by decide +kernel
  have z1 : (onTheHeap (Value.ref D) && Value.builtin "BaseException.__getattribute__" == Value.builtin "object.__getattribute__") = false := by
    rw [z2]
    rfl
  unfold getAttr? getAttrBy? getAttrBy
  refine wpAny_bind (wpAny_mkText (wpAny_bind (wpAny_attempt (wpAny_holding (wpAny_bind (a0.at (wpAny_bind (a1.at ?_))))))))
  show wpAny _ _ (if (onTheHeap (Value.ref D) && Value.builtin "BaseException.__getattribute__" == Value.builtin "object.__getattribute__") = true then _ else _) _ _ _
  rw [z1, if_neg Bool.false_ne_true]
  unfold getAttrByItsOwn hookBefore
  refine wpAny_bind ?_
  rw [if_pos (show onTheHeap (Value.ref D) = true from rfl)]
  refine a2.at (wpAny_bind (wpAny_attempt (wpAny_holding ?_)))
  unfold callGetattribute
  rw [show (false && onTheHeap (Value.builtin "BaseException.__getattribute__")) = false from rfl, if_neg Bool.false_ne_true]
  unfold boundAndCalled
  rw [PySem.F.excAttr_ValueError.ga.bind (.ref x)]
  refine wpAny_bind (wpAny_pure ?_)
  show wpAny _ _ (call (.builtin "BaseException.__getattribute__") [.ref x, .str "__class__" t]) _ _ _
  refine wpAny_call (codeAny_call_builtin PySem.F.excAttr_ValueError.ga.plain PySem.F.entry_bexc_ga ?_)
  refine @PySem.W.check_slot (model prog w) _ _ ⟨hp, g, d, t + 1, os⟩ "BaseException.__getattribute__" "BaseException" "__getattribute__" (.ref x) [.str "__class__" t] [] _ (by decide +kernel) (by decide +kernel) (a0.andThen (PySem.W.looks_subIn X C.hs)) (PySem.F.args_bexc_ga (.ref x) (.str "__class__" t)) ?_
  unfold Builtin.«object.__getattribute__»
  refine wpAny_bind (wpAny_of_eq (a := ((Value.ref x : Value), [Value.str "__class__" t])) (by first | rfl | (simp only [slotArgs]; rfl)) (wpAny_bind (wpAny_pure (wpAny_bind (a0.at (wpAny_bind (a3.at ?_)))))))
  show wpAny _ _ (holding [Value.builtin "object.__class__"] (call (.builtin "getset_descriptor.__get__") [.builtin "object.__class__", .ref x, .ref D]) >>= ret) _ _ _
  refine wpAny_bind (wpAny_holding (wpAny_call (PySem.W.class_get (s := ⟨hp, g, d, t + 1, os⟩) (ox := ox) (od := od) X I C.hm (wpAny_pure ?_))))
  show wpAny _ _ (handedOut (.ref D)) _ _ _
  rw [PySem.W.handedOut_of (v := .ref D) rfl]
  first
    | exact wpAny_pure (wpAny_pure h)
    | exact wpAny_pure h
    | exact wpAny_pure (wpAny_bind (wpAny_pure (wpAny_pure h)))
theorem kit_err (C : ExcC K D) : KitX K (.ref x) (.ref D) (fun h => InstAt h x ox D od) where
  ty := fun _ _ _ I => I.type
  it := fun M h X _ => by
    obtain ⟨cd, hc, _⟩ := PySem.W.any_some C.hd
    unfold clsIn at hc
    split at hc
    · rename_i lk
      intro A' Q' E' s' kp q
      unfold isType loadHead
      exact wpAny_bind (wpAny_loadPart (kp _ _ (X _ _ lk)) (wpAny_pure q))
    · cases hc
  ne := (PySem.W.handS_kitx_exc (x := x) (ox := ox) C.hg C.hk C.hs C.hd C.ha C.hn C.ht C.hm).ne
  ca := fun X I k => ask_class C X I k
end
/-- its dict, where it has one, is an exception's dict -/
def XdAt (H : Hp) (d : Option Addr) (fs : List (Str × V)) : Prop := match d with
  | none => fs = []
  | some dd => H dd = some (.xd fs)
section
variable {X : Cx} {a : Addr} {oe : Obj} {cls : Value} {d : Option Addr} {pins : List (Addr × Obj)} {σ : L2.St} {H : Hp} {s : Shared}
end
/-! ### a def that the caught error is handed to -/
abbrev SpE := Addr → Value → Option Addr → Sp
structure FnE (P : Program) (w : World) (K : Frag) (mg : Str → Option Value) (base : Heap) (k : Nat) (f : Addr) (fd : FuncData) (ps : List Str) (sp : SpE) : Prop where
  len : ∀ a cls d vs H Q E, sp a cls d vs H Q E → vs.length = ps.length
  run : ∀ (A : Around) (outer : List Env) (s : Shared) (H : Hp) (args : Args) (us : List Value) (vs : List V) (Q : VK) (E : XK) (p : Addr × Obj) (cls : Value) (d : Option Addr), RoomH k A → Zc cls d p.2 → (∃ fl, p.2.data = .fields fl) → PinOk outer H s p → Env0 P w K mg base A outer s H →
    BindsTo s fd args (ps.zip us) → Vals vs us → sp p.1 cls d vs H Q E → codeAny (model P w) A (.call (.ref f) args) (CR CX0 outer P w H s Q E) s
theorem Fun.okE {P : Program} {w : World} {K : Frag} {mg : Str → Option Value} {base : Heap} {x qual : Str} {st : Stmt} {f : Addr} {fd : FuncData} {N ps : List Str} {k : Nat} {sp : SpE} (F : Fun K x qual st f fd) (S : FnScope N ps (defScope st)) (len : ∀ a cls d vs H Q E, sp a cls d vs H Q E → vs.length = ps.length)
    (hbody : ∀ (cdv : Value) (A : Around) (outer : List Env) (s : Shared) (H : Hp) (vs : List V) (Q : VK) (E : XK) (p : Addr × Obj) (cls : Value) (d : Option Addr), Zc cls d p.2 → (∃ fl, p.2.data = .fields fl) → RoomH k (A.deeper (envOfC qual (defScope st) s.heap.objs.size f cdv)) → sp p.1 cls d vs H Q E →
      ∃ t, PSs (cxH CX0 P w K mg base N qual (defScope st) f cdv A outer s H E p).nox (defBody st) t ∧ t { nx := fun _ H' => Q .non H', rt := Q } (L2.start N vs) H) : FnE P w K mg base (k + 1) f fd ps sp := by
  obtain ⟨oc, od, kV, doc, pm, an, cdv, ct, osl, rfl, lk, hcd⟩ := F.ex
  refine ⟨len, fun A outer s H args us vs Q E p cls d hr hz hfl hpin e0 hb r hsp => ?_⟩
  have hl := len _ _ _ _ _ _ _ hsp
  have kx : K.In s.heap := e0.mod.kin.keeps fun b o e => (e0.bs b o e).1
  refine codeAny_call_function hr.depth (kx _ _ lk) rfl S.co S.gen rfl (PySem.W.codeRec_of kx hcd) (hb _ _ _ _ (wpAny_newFunctionEnv_cells S.kind (fun ⟨n, v⟩ hy => ?_) fun env he s1 x => ?_))
  · rcases S.par n (List.of_mem_zip hy).1 with y | y
    · exact .inl y
    · exact .inr ⟨y, PySem.W.cellsFrom_some _ _ _ (.inl y)⟩
  · subst he
    refine ⟨(e0.mod.nolimit.keeps fun b o e => (e0.bs b o e).1).keeps x.toInCall.keep, codeAny_func ?_⟩
    obtain ⟨t, ht, hq⟩ := hbody cdv A outer s H vs Q E p cls d hz hfl (hr.deeper _) hsp
    have I : Inv (cxH CX0 P w K mg base N qual (defScope st) f cdv A outer s H E p) [] (L2.start N vs) H s1 := inv_startH S hpin e0 hl r x
    refine wpAny_mono (ht.nox.run [] s1 (L2.start N vs) H _ I hq) (fun fl s' z => ?_) fun e s' z => z
    cases fl with
    | ret u =>
      obtain ⟨v, σ', H', J, rv, q⟩ := z
      exact ⟨v, H', J.os, J.bare, J.base, J.hok, rv, q⟩
    | next =>
      obtain ⟨σ', H', J, q⟩ := z
      exact ⟨.non, H', J.os, J.bare, J.base, J.hok, rfl, q⟩
    | brk =>
      obtain ⟨_, _, _, q⟩ := z
      exact q.elim
    | cont =>
      obtain ⟨_, _, _, q⟩ := z
      exact q.elim
structure ClE (P : Program) (w : World) (K : Frag) (mg : Str → Option Value) (base : Heap) (k : Nat) (x : Str) (ps : List Str) (sp : SpE) : Prop where
  ex : ∃ (f : Addr) (fd : FuncData), FnE P w K mg base k f fd ps sp ∧ mg x = some (.ref f) ∧ PySem.W.keepIn K (.ref f) = true ∧ Binds K fd ps []
section
variable {X : Cx} {a : Addr} {oe : Obj} {cls : Value} {d : Option Addr} {k : Nat} {x : Str} {ps : List Str} {sp : SpE} {e : Expr} {es : List Expr} {t : TA} {p pos : Pos}
end
end Pb

set_option Elab.async false
set_option linter.all false
set_option maxRecDepth 100000
namespace Pb
open PySem PySem.Spec PyProof.Rows L2
/-! ### own exception classes with def __init__(self, v): self.f = v -/
def inS (st : Stmt) : Stmt := match st with
  | .ClassDef _ _ _ body _ _ _ _ _ _ _ => body.getD 0 (.Pass ⟨0, 0, 0, 0⟩)
  | _ => .Pass ⟨0, 0, 0, 0⟩
def spInit (C : Addr) (f : Str) : Sp := fun vs H Q _ => ∃ a y, vs = [.ref a, y] ∧ H a = some (exo a C none) ∧ ∀ dx, H dx = none → dx ≠ a → Q .non (upd (upd H dx (exd dx [(f, y)])) a (exo a C (some dx)))
structure EcI (P : Program) (w : World) (K : PySem.W.Frag) (mg : Str → Option Value) (base : Heap) (x : Str) (C : Addr) (f : Str) : Prop where
  T : OexC K C
  g : mg x = some (.ref C)
  no : PySem.W.findIn K (.ref C) f = some none
  xc : ExcC K C
  ini : ∃ (fI : Addr) (fd : FuncData) (v : Str), PySem.W.findIn K (.ref C) "__init__" = some (some (.ref fI)) ∧ PySem.W.typeIn K (.ref fI) = some (.type "function") ∧ FnOk P w K mg base CX0 1 fI fd ["self", v] (spInit C f) ∧ Binds K fd ["self", v] []
theorem ExcC.xf {K : PySem.W.Frag} {C : Addr} (h : ExcC K C) : XfC K C := ⟨h.hg, h.hk, h.hs, h.hd⟩
/-- a reading closed under weaker wishes -/
def tCl (te : TE) : TE := fun σ H Q => ∃ P : VK, te σ H P ∧ ∀ y H1, P y H1 → Q y H1
theorem pe_cl {X : Cx} {e : Expr} {te : TE} (he : PE X e te) : PE X e (tCl te) := ⟨fun pins s σ H Q I ⟨P, h, k⟩ => thn (he.run pins s σ H P I h) fun u s1 ⟨x, H1, I1, r, q⟩ => ⟨x, H1, I1, r, k x H1 q⟩⟩
end Pb

set_option Elab.async false
set_option linter.all false
set_option maxRecDepth 100000
namespace Pb
open PySem PySem.Spec PyProof.Rows L2
/-! ### data in; data or an error out -/
inductive Out where
  | ret (e : PyData)
  | exc (x : Str)
  | excF (x f : Str) (e : PyData)
section
variable (K : PySem.W.Frag) (cl : Str → Addr)
/-- what an outcome asks of the two wishes -/
def OutOk (S : List Addr) (H : Hp) (Q : VK) (E : XK) : Out → Prop
  | .ret e => ∀ v H', Same H H' → Da K (hs S H') v e → Q v H'
  | .exc x => ∀ H', Same H H' → E (.ref (cl x)) none H'
  | .excF x f e => ∀ v d H', Same H H' → H' d = some (.xd [(f, v)]) → Da K (hs S H') v e → E (.ref (cl x)) (some d) H'
end
section
variable {K : PySem.W.Frag} {cl : Str → Addr} {S : List Addr} {H H1 : Hp} {Q : VK} {E : XK} {x f : Str} {e : PyData} {y : V}
end
def intOf : PyData → Int
  | .int i => i
  | _ => 0
end Pb

set_option Elab.async false
set_option linter.all false
set_option maxRecDepth 100000
namespace Pb
open PySem PySem.Spec PyProof.Rows L2
section
variable {K : PySem.W.Frag} {S : List Addr} {σ : L2.St} {H : Hp} {te ta tb : TE} {es fs : List PyData}
end
/-! ### the changed tables -/
end Pb

set_option Elab.async false
set_option linter.all false
set_option maxRecDepth 100000
namespace Pb
open PySem PySem.Spec PyProof.Rows L2
/-! ### what a refusal is told as -/
abbrev rzX : List Str := ["NoDemand", "NoDemands", "NoOffer", "TooMany"]
abbrev rzC : List Str := ["NoDemand", "NoDemands", "NoOffer", "TooMany", "NoOffers"]
structure Ec3 (K : PySem.W.Frag) (mg : Str → Option Value) (cl : Str → Addr) : Prop where
  g : ∀ x ∈ rzC, mg x = some (.ref (cl x))
  xc : ∀ x ∈ rzX, ExcC K (cl x)
  kt : ∀ x ∈ rzX, ∀ c ∈ rzC, PySem.W.kitOne K (.ref (cl x)) (.ref (cl c)) = some (decide (x = c))
  f1 : PySem.W.findIn K (.ref (cl "NoDemand")) "demand" = some none
  f2 : PySem.W.findIn K (.ref (cl "NoOffer")) "offer" = some none
  f3 : PySem.W.findIn K (.ref (cl "TooMany")) "limit" = some none
/-- the error that an outcome lets out -/
def ErrIs (K : PySem.W.Frag) (cl : Str → Addr) (S : List Addr) (H : Hp) (cls : Value) (d : Option Addr) : Out → Prop
  | .ret _ => False
  | .exc x => x = "NoDemands" ∧ cls = .ref (cl x) ∧ d = none
  | .excF x f e => (x, f) ∈ [(("NoDemand" : Str), ("demand" : Str)), ("NoOffer", "offer"), ("TooMany", "limit")] ∧ cls = .ref (cl x) ∧ ∃ dd v, d = some dd ∧ H dd = some (.xd [(f, v)]) ∧ Da K (hs S H) v e
section
variable {K : PySem.W.Frag} {mg : Str → Option Value} {cl : Str → Addr} {S : List Addr} {H : Hp} {cls : Value} {d : Option Addr} {o : Out} {σ : L2.St} {a : Addr}
/-- its class's name, its fields -/
theorem ErrIs.kind (h : ErrIs K cl S H cls d o) : ∃ x ∈ rzX, ∃ fs, cls = .ref (cl x) ∧ XdAt H d fs ∧ ((o = .exc x ∧ x = "NoDemands") ∨ ∃ f e v, o = .excF x f e ∧ (x, f) ∈ [(("NoDemand" : Str), ("demand" : Str)), ("NoOffer", "offer"), ("TooMany", "limit")] ∧ fs = [(f, v)] ∧ Da K (hs S H) v e ∧ ∃ dd, d = some dd) := by
  cases o with
  | ret e => exact h.elim
  | exc x =>
    obtain ⟨rfl, h2, rfl⟩ := h
    exact ⟨_, by decide, [], h2, rfl, .inl ⟨rfl, rfl⟩⟩
  | excF x f e =>
    obtain ⟨h1, h2, dd, v, rfl, h3, h4⟩ := h
    refine ⟨x, ?_, [(f, v)], h2, h3, .inr ⟨f, e, v, rfl, h1, rfl, h4, dd, rfl⟩⟩
    simp only [List.mem_cons, Prod.mk.injEq, List.not_mem_nil, or_false] at h1
    rcases h1 with ⟨rfl, _⟩ | ⟨rfl, _⟩ | ⟨rfl, _⟩ <;> decide
theorem XdAt.same {H' : Hp} {fs : List (Str × V)} (h : XdAt H d fs) (s : Same H H') : XdAt H' d fs := by
  cases d with
  | none => exact h
  | some dd => exact s _ _ h
end
end Pb

set_option Elab.async false
set_option linter.all false
set_option maxRecDepth 100000
namespace Pb
open PySem PySem.Spec PyProof.Rows L2
/-- how many are smaller -/
def cntLt (ms : List Int) (x : Int) : Nat := (ms.filter fun m => decide (m < x)).length
theorem cnt_cons (m : Int) (ms : List Int) (x : Int) : cntLt (m :: ms) x = (if m < x then 1 else 0) + cntLt ms x := by
  unfold cntLt
  rw [List.filter_cons]
  by_cases h : m < x
  · simp [h]
    omega
  · simp [h]
theorem cnt_le {x y : Int} (h : x < y) : ∀ ms, cntLt ms x ≤ cntLt ms y
  | [] => Nat.le_refl _
  | m :: ms => by
    have := cnt_le h ms
    rw [cnt_cons, cnt_cons]
    split <;> split <;> omega
theorem cnt_lt {x y : Int} (h : x < y) : ∀ ms, x ∈ ms → cntLt ms x < cntLt ms y
  | [], hx => absurd hx List.not_mem_nil
  | m :: ms, hx => by
    rw [cnt_cons, cnt_cons]
    rcases List.mem_cons.mp hx with rfl | hx
    · have := cnt_le h ms
      rw [if_neg (by omega), if_pos h]
      omega
    · have := cnt_lt h ms hx
      split <;> split <;> omega
end Pb

set_option Elab.async false
set_option linter.all false
set_option maxRecDepth 100000
namespace Pb
open PySem PySem.Spec PyProof.Rows L2
/-! ### a def's slots by data: what a slot holds, and what stands in the heap -/
inductive Sl where
  | no
  | val (d : PyData)
  | own (es : List PyData)
  | deck (d : Addr)
  | exn (a : Addr) (d : Option Addr) (fs : List (Str × PyData))
  | plt (ns : List Int)
abbrev Rho := List Sl
/-- a locked tuple of numbers -/
def PlO (X : Hp) (o : Option V) (ns : List Int) : Prop := ∃ a b, o = some (.ref a) ∧ X a = some (.frz b (.tup (ns.map V.int))) ∧ b.dict = none
theorem PlO.mono {X Y : Hp} {o : Option V} {ns : List Int} (h : PlO X o ns) (s : Same X Y) : PlO Y o ns := by
  obtain ⟨a, b, e, h1, h2⟩ := h
  exact ⟨a, b, e, s _ _ h1, h2⟩
/-- a caught error's dict -/
def XdO (K : PySem.W.Frag) (X : Hp) : Option Addr → List (Str × PyData) → Prop
  | none, [] => True
  | some dd, [(f, e)] => ∃ v, X dd = some (.xd [(f, v)]) ∧ Da K X v e
  | _, _ => False
theorem XdO.mono {K : PySem.W.Frag} {X Y : Hp} {d : Option Addr} {fs : List (Str × PyData)} (h : XdO K X d fs) (s : Same X Y) : XdO K Y d fs := by
  match d, fs, h with
  | none, [], _ => trivial
  | some dd, [(f, e)], ⟨v, h1, h2⟩ => exact ⟨v, s _ _ h1, h2.mono s⟩
def SlOk (K : PySem.W.Frag) (T ow : List Addr) (H : Hp) (o : Option V) : Sl → Prop
  | .no => True
  | .val d => ∃ v, o = some v ∧ Da K (hs T H) v d
  | .own es => ∃ fo vs, o = some (.ref fo) ∧ fo ∈ ow ∧ H fo = some (.lst vs) ∧ DaAll K (hs T H) vs es
  | .deck d => o = some (.ref d)
  | .exn a d fs => o = some (.ref a) ∧ XdO K (hs T H) d fs
  | .plt ns => PlO (hs T H) o ns
structure SimO (K : PySem.W.Frag) (S : List Addr) (H0 : Hp) (G : Hp → Prop) (T ow : List Addr) (ρ : Rho) (σ : L2.St) (H : Hp) : Prop where
  len : σ.length = ρ.length
  slot : ∀ (i : Nat) (s : Sl), ρ[i]? = some s → ∃ o, σ[i]? = some o ∧ SlOk K T ow H o s
  inj : ∀ (i j : Nat) (es es' : List PyData), i ≠ j → ρ[i]? = some (.own es) → ρ[j]? = some (.own es') → σ[i]? ≠ σ[j]?
  old : Same H0 H
  new : ∀ a ∈ ow, H0 a = none
  sub : ∀ a ∈ S, a ∈ T
  owT : ∀ a ∈ ow, a ∈ T
  tr : Tr T H
  trS : Tr S H0
  mo : ∀ H H', Same H H' → G H → G H'
  fr : G (hs T H)
  lsT : ∀ a ∈ T, a ∈ S ∨ ∃ xs, H a = some (.lst xs)
def Sim (K : PySem.W.Frag) (S : List Addr) (H0 : Hp) (G : Hp → Prop) (ρ : Rho) (σ : L2.St) (H : Hp) : Prop := ∃ T ow, SimO K S H0 G T ow ρ σ H
theorem SlOk.move {K : PySem.W.Frag} {T T' ow ow' : List Addr} {H H' : Hp} {o : Option V} {s : Sl} (h : SlOk K T ow H o s) (sm : Same (hs T H) (hs T' H')) (kp : ∀ fo vs, o = some (.ref fo) → fo ∈ ow → H fo = some (.lst vs) → fo ∈ ow' ∧ H' fo = some (.lst vs)) : SlOk K T' ow' H' o s := by
  cases s with
  | no => trivial
  | deck d => exact h
  | exn a d fs => exact ⟨h.1, h.2.mono sm⟩
  | plt ns => exact PlO.mono h sm
  | val d =>
    obtain ⟨v, e, hd⟩ := h
    exact ⟨v, e, hd.mono sm⟩
  | own es =>
    obtain ⟨fo, vs, e, h1, h2, h3⟩ := h
    obtain ⟨k1, k2⟩ := kp fo vs e h1 h2
    exact ⟨fo, vs, e, k1, k2, h3.mono sm⟩
section
variable {K : PySem.W.Frag} {S : List Addr} {H0 : Hp} {G : Hp → Prop} {T ow : List Addr} {ρ : Rho} {σ : L2.St} {H H' : Hp}
theorem SimO.mono (h : SimO K S H0 G T ow ρ σ H) (s : Same H H') : SimO K S H0 G T ow ρ σ H' :=
  { len := h.len, inj := h.inj, new := h.new, sub := h.sub, owT := h.owT, trS := h.trS, mo := h.mo,
    slot := fun i sl e => by
      obtain ⟨o, ho, hs'⟩ := h.slot i sl e
      exact ⟨o, ho, hs'.move (hs_mono s) fun fo vs _ k1 k2 => ⟨k1, s _ _ k2⟩⟩
    old := h.old.trans s
    tr := h.tr.same s
    lsT := fun a ha => (h.lsT a ha).imp id fun ⟨xs, e⟩ => ⟨xs, s _ _ e⟩
    fr := h.mo _ _ (hs_mono s) h.fr }
theorem SimO.sim (h : SimO K S H0 G T ow ρ σ H) : Sim K S H0 G ρ σ H := ⟨T, ow, h⟩
theorem SimO.weak {G' : Hp → Prop} (h : SimO K S H0 G T ow ρ σ H) (mo : ∀ H H', Same H H' → G' H → G' H') (hg : G' (hs T H)) : SimO K S H0 G' T ow ρ σ H :=
  { len := h.len, slot := h.slot, inj := h.inj, old := h.old, new := h.new, sub := h.sub, owT := h.owT, tr := h.tr, trS := h.trS, mo := mo, fr := hg, lsT := h.lsT }
/-- one slot set to what is no list of its own -/
theorem SimO.put (h : SimO K S H0 G T ow ρ σ H) {i : Nat} {o : Option V} {s : Sl} (hs' : SlOk K T ow H o s) (hn : ∀ es, s ≠ .own es) : SimO K S H0 G T ow (ρ.set i s) (σ.set i o) H :=
  { old := h.old, new := h.new, sub := h.sub, owT := h.owT, tr := h.tr, trS := h.trS, mo := h.mo, fr := h.fr, lsT := h.lsT,
    len := by rw [List.length_set, List.length_set, h.len]
    slot := fun j sl e => by
      by_cases hj : i = j
      · subst hj
        rw [List.getElem?_set] at e
        simp only [if_true] at e
        split at e
        · rename_i hl
          cases e
          refine ⟨o, ?_, hs'⟩
          rw [List.getElem?_set_self (by rw [h.len]; exact hl)]
        · cases e
      · rw [List.getElem?_set_ne hj] at e ⊢
        exact h.slot j sl e
    inj := fun a b es es' hab e1 e2 => by
      have ha : i ≠ a := fun z => by
        subst z
        rw [List.getElem?_set] at e1
        simp only [if_true] at e1
        split at e1
        · exact hn es (Option.some.inj e1)
        · cases e1
      have hb : i ≠ b := fun z => by
        subst z
        rw [List.getElem?_set] at e2
        simp only [if_true] at e2
        split at e2
        · exact hn es' (Option.some.inj e2)
        · cases e2
      rw [List.getElem?_set_ne ha] at e1 ⊢
      rw [List.getElem?_set_ne hb] at e2 ⊢
      exact h.inj a b es es' hab e1 e2 }
theorem SimO.setV (h : SimO K S H0 G T ow ρ σ H) {i : Nat} {v : V} {d : PyData} (hd : Da K (hs T H) v d) : SimO K S H0 G T ow (ρ.set i (.val d)) (σ.set i (some v)) H := h.put ⟨v, rfl, hd⟩ (fun _ z => by cases z)
theorem SimO.setN (h : SimO K S H0 G T ow ρ σ H) {i : Nat} {o : Option V} : SimO K S H0 G T ow (ρ.set i .no) (σ.set i o) H := h.put trivial (fun _ z => by cases z)
def wipeR (ρ : Rho) : List Nat → Rho
  | [] => ρ
  | v :: vs => (wipeR ρ vs).set v .no
theorem SimO.wipe (h : SimO K S H0 G T ow ρ σ H) : ∀ vs, SimO K S H0 G T ow (wipeR ρ vs) (L2.wipe σ vs) H
  | [] => h
  | v :: vs => (SimO.wipe h vs).setN
/-- one more hidden address -/
theorem SimO.hide (h : SimO K S H0 G T ow ρ σ H) {D : Addr} (hD : H D = none) {vs : List V} : SimO K S H0 G (D :: T) ow ρ σ (upd H D (.lst vs)) :=
  { len := h.len, inj := h.inj, new := h.new, trS := h.trS, mo := h.mo,
    sub := fun a ha => List.mem_cons_of_mem _ (h.sub a ha)
    owT := fun a ha => List.mem_cons_of_mem _ (h.owT a ha)
    old := h.old.trans (same_upd hD)
    slot := fun i sl e => by
      obtain ⟨o, ho, hs'⟩ := h.slot i sl e
      exact ⟨o, ho, hs'.move (hs_cons_new hD) fun fo vs _ k1 k2 => ⟨k1, same_upd hD _ _ k2⟩⟩
    tr := fun x hx => by
      rcases List.mem_cons.mp hx with rfl | hx
      · exact ⟨_, upd_same⟩
      · exact h.tr.same (same_upd hD) x hx
    lsT := fun x hx => by
      rcases List.mem_cons.mp hx with rfl | hx
      · exact .inr ⟨_, upd_same⟩
      · exact (h.lsT x hx).imp id fun ⟨xs, e⟩ => ⟨xs, same_upd hD _ _ e⟩
    fr := h.mo _ _ (hs_cons_new hD) h.fr }
/-- a new list in a slot -/
theorem SimO.setO (h : SimO K S H0 G T ow ρ σ H) {i : Nat} {p : Addr} {vs : List V} {es : List PyData} (hp : H p = none) (s : Same H H') (hp' : H' p = some (.lst vs)) (hd : DaAll K (hs (p :: T) H') vs es) :
    SimO K S H0 G (p :: T) (p :: ow) (ρ.set i (.own es)) (σ.set i (some (.ref p))) H' := by
  have sm : Same (hs T H) (hs (p :: T) H') := fun a o e => by
    obtain ⟨h1, h2⟩ := hs_some e
    have ne : a ≠ p := fun z => by
      rw [z, hp] at h2
      cases h2
    rw [hs_out (by simp [ne, h1])]
    exact s _ _ h2
  have kp : ∀ {o : Option V} (fo : Addr) (vs : List V), o = some (.ref fo) → fo ∈ ow → H fo = some (.lst vs) → fo ∈ p :: ow ∧ H' fo = some (.lst vs) := fun fo vs _ k1 k2 => ⟨List.mem_cons_of_mem _ k1, s _ _ k2⟩
  have pno : ∀ (j : Nat) (es' : List PyData), ρ[j]? = some (.own es') → σ[j]? ≠ some (some (.ref p)) := fun j es' e z => by
    obtain ⟨o, ho, fo, ws, e1, _, e3, _⟩ := h.slot j _ e
    rw [ho] at z
    cases z
    cases e1
    rw [hp] at e3
    cases e3
  refine { len := by rw [List.length_set, List.length_set, h.len], old := h.old.trans s, trS := h.trS, mo := h.mo, fr := h.mo _ _ sm h.fr, sub := fun a ha => List.mem_cons_of_mem _ (h.sub a ha), owT := ?owT, new := ?new, tr := ?tr, slot := ?slot, inj := ?inj, lsT := ?lsT }
  case lsT =>
    intro x hx
    rcases List.mem_cons.mp hx with rfl | hx
    · exact .inr ⟨_, hp'⟩
    · exact (h.lsT x hx).imp id fun ⟨xs, e⟩ => ⟨xs, s _ _ e⟩
  case owT =>
    intro a ha
    rcases List.mem_cons.mp ha with rfl | ha
    · exact List.mem_cons_self
    · exact List.mem_cons_of_mem _ (h.owT a ha)
  case new =>
    intro a ha
    rcases List.mem_cons.mp ha with rfl | ha
    · exact h.old.free hp
    · exact h.new a ha
  case tr =>
    intro x hx
    rcases List.mem_cons.mp hx with rfl | hx
    · exact ⟨_, hp'⟩
    · exact h.tr.same s x hx
  case slot =>
    intro j sl e
    by_cases hj : i = j
    · subst hj
      rw [List.getElem?_set] at e
      simp only [if_true] at e
      split at e
      · rename_i hl
        cases e
        refine ⟨some (.ref p), by rw [List.getElem?_set_self (by rw [h.len]; exact hl)], p, vs, rfl, List.mem_cons_self, hp', hd⟩
      · cases e
    · rw [List.getElem?_set_ne hj] at e ⊢
      obtain ⟨o, ho, hs'⟩ := h.slot j sl e
      exact ⟨o, ho, hs'.move sm kp⟩
  case inj =>
    intro a b es1 es2 hab e1 e2
    by_cases ha : i = a
    · subst ha
      rw [List.getElem?_set_ne hab] at e2 ⊢
      intro z
      have hl : i < ρ.length := by
        rw [List.getElem?_set] at e1
        simp only [if_true] at e1
        split at e1
        · assumption
        · cases e1
      rw [List.getElem?_set_self (by rw [h.len]; exact hl)] at z
      exact pno b es2 e2 z.symm
    · rw [List.getElem?_set_ne ha] at e1 ⊢
      by_cases hb : i = b
      · subst hb
        have hl : i < ρ.length := by
          rw [List.getElem?_set] at e2
          simp only [if_true] at e2
          split at e2
          · assumption
          · cases e2
        rw [List.getElem?_set_self (by rw [h.len]; exact hl)]
        exact pno a es1 e1
      · rw [List.getElem?_set_ne hb] at e2 ⊢
        exact h.inj a b es1 es2 hab e1 e2
end
end Pb

set_option Elab.async false
set_option linter.all false
set_option maxRecDepth 100000
namespace Pb
open PySem PySem.Spec PyProof.Rows L2
/-! ### readings as functions of the slots' data -/
/-- data, or a list of its own that is read -/
def Dv (K : PySem.W.Frag) (T : List Addr) (H : Hp) (v : V) (e : PyData) : Prop := Da K (hs T H) v e ∨ ∃ p xs es, v = .ref p ∧ e = .list es ∧ H p = some (.lst xs) ∧ DaAll K (hs T H) xs es
section
variable {K : PySem.W.Frag} {T : List Addr} {H H' : Hp} {v : V} {e : PyData}
theorem Dv.mono (h : Dv K T H v e) (s : Same H H') : Dv K T H' v e := by
  rcases h with h | ⟨p, xs, es, h1, h2, h3, h4⟩
  · exact .inl (h.mono (hs_mono s))
  · exact .inr ⟨p, xs, es, h1, h2, s _ _ h3, h4.mono (hs_mono s)⟩
theorem Dv.da (h : Dv K T H v e) : Da K H v e := by
  rcases h with h | ⟨p, xs, es, rfl, rfl, h3, h4⟩
  · exact h.mono hs_sub
  · exact .lst (SqL.of h3) (h4.mono hs_sub)
theorem Dv.lst {es : List PyData} (h : Dv K T H v (.list es)) : ∃ p xs, v = .ref p ∧ SqL K H p xs ∧ DaAll K (hs T H) xs es := by
  rcases h with h | ⟨p, xs, es', rfl, e, h3, h4⟩
  · cases h with
    | @lst a xs _ h1 h2 => exact ⟨a, xs, rfl, Same.seq hs_sub h1, h2⟩
  · cases e
    exact ⟨p, xs, rfl, SqL.of h3, h4⟩
theorem Dv.tup {es : List PyData} (h : Dv K T H v (.tuple es)) : ∃ p xs, v = .ref p ∧ SqT K H p xs ∧ DaAll K (hs T H) xs es ∧ Da K (hs T H) v (.tuple es) := by
  rcases h with h | ⟨p, xs, es', rfl, e, h3, h4⟩
  · have h' := h
    cases h with
    | @tup a xs _ h1 h2 => exact ⟨a, xs, rfl, Same.tq hs_sub h1, h2, h'⟩
  · cases e
theorem Dv.int {i : Int} (h : Dv K T H v (.int i)) : v = .int i := by
  rcases h with h | ⟨p, xs, es', rfl, e, h3, h4⟩
  · cases h
    rfl
  · cases e
theorem Dv.bl {b : Bool} (h : Dv K T H v (.bool b)) : v = .bl b := by
  rcases h with h | ⟨p, xs, es', rfl, e, h3, h4⟩
  · cases h
    rfl
  · cases e
theorem Dv.str {x : Str} (h : Dv K T H v (.str x)) : v = .str x := by
  rcases h with h | ⟨p, xs, es', rfl, e, h3, h4⟩
  · cases h
    rfl
  · cases e
theorem Dv.non (h : Dv K T H v .none) : v = .non := by
  rcases h with h | ⟨p, xs, es', rfl, e, h3, h4⟩
  · cases h
    rfl
  · cases e
end
inductive DvAll (K : PySem.W.Frag) (T : List Addr) (H : Hp) : List V → List PyData → Prop
  | nil : DvAll K T H [] []
  | cons {v : V} {vs : List V} {d : PyData} {ds : List PyData} : Dv K T H v d → DvAll K T H vs ds → DvAll K T H (v :: vs) (d :: ds)
theorem DvAll.mono {K : PySem.W.Frag} {T : List Addr} {H H' : Hp} : ∀ {vs : List V} {ds : List PyData}, DvAll K T H vs ds → Same H H' → DvAll K T H' vs ds
  | _, _, .nil, _ => .nil
  | _, _, .cons h1 h2, s => .cons (h1.mono s) (DvAll.mono h2 s)
section
variable (K : PySem.W.Frag)
def EvS (te : TE) (φ : Rho → Option PyData) : Prop := ∀ S H0 G T ow ρ σ H e, SimO K S H0 G T ow ρ σ H → φ ρ = some e → ∀ Q : VK, (∀ v H', Same H H' → Da K (hs T H') v e → Q v H') → te σ H Q
def EvTr (te : TE) (φ : Rho → Option PyData) : Prop := ∀ S H0 G T ow ρ σ H e, SimO K S H0 G T ow ρ σ H → φ ρ = some e → ∀ Q : VK, (∀ v H', Same H H' → Dv K T H' v e → Q v H') → te σ H Q
/-- a new list -/
def EvF (te : TE) (φ : Rho → Option (List PyData)) : Prop := ∀ S H0 G T ow ρ σ H es, SimO K S H0 G T ow ρ σ H → φ ρ = some es → ∀ Q : VK, (∀ p vs H', Same H H' → H p = none → H' p = some (.lst vs) → DaAll K (hs (p :: T) H') vs es → Q (.ref p) H') → te σ H Q
/-- a list whose items are told (new, or of a slot) -/
def EvLi (te : TE) (φ : Rho → Option (List PyData)) : Prop := ∀ S H0 G T ow ρ σ H es, SimO K S H0 G T ow ρ σ H → φ ρ = some es → ∀ Q : VK, (∀ p vs H', Same H H' → H' p = some (.lst vs) → DaAll K (hs T H') vs es → Q (.ref p) H') → te σ H Q
def TeP (tt : TT) (β : Rho → Option Bool) : Prop := ∀ S H0 G T ow ρ σ H b, SimO K S H0 G T ow ρ σ H → β ρ = some b → ∀ Q : Bool → Hp → Prop, (∀ H', Same H H' → Q b H') → tt σ H Q
def EvAS (ta : TA) (φ : Rho → Option (List PyData)) : Prop := ∀ S H0 G T ow ρ σ H es, SimO K S H0 G T ow ρ σ H → φ ρ = some es → ∀ Q : List V → Hp → Prop, (∀ vs H', Same H H' → DaAll K (hs T H') vs es → Q vs H') → ta σ H Q
def EvAT (ta : TA) (φ : Rho → Option (List PyData)) : Prop := ∀ S H0 G T ow ρ σ H es, SimO K S H0 G T ow ρ σ H → φ ρ = some es → ∀ Q : List V → Hp → Prop, (∀ vs H', Same H H' → DvAll K T H' vs es → Q vs H') → ta σ H Q
/-- an operation's, a builtin's reading -/
def OpS (r : R2) (f : PyData → PyData → Option PyData) : Prop := ∀ T H x y d1 d2 e, Tr T H → Dv K T H x d1 → Dv K T H y d2 → f d1 d2 = some e → ∀ Q : VK, (∀ v H', Same H H' → Da K (hs T H') v e → Q v H') → r x y H Q
def CbS (r : List V → Hp → VK → Prop) (f : List PyData → Option PyData) : Prop := ∀ T H xs ds e, Tr T H → DvAll K T H xs ds → f ds = some e → ∀ Q : VK, (∀ v H', Same H H' → Da K (hs T H') v e → Q v H') → r xs H Q
end
section
variable {K : PySem.W.Frag}
def rv (ρ : Rho) (i : Nat) : Option PyData := match ρ[i]? with
  | some (.val d) => some d
  | _ => none
def ro (ρ : Rho) (i : Nat) : Option (List PyData) := match ρ[i]? with
  | some (.own es) => some es
  | _ => none
/-! the readings' own words -/
def eVar (i : Nat) : Rho → Option PyData := fun ρ => rv ρ i
def lOwn (i : Nat) : Rho → Option (List PyData) := fun ρ => ro ρ i
def eInt (i : Int) : Rho → Option PyData := fun _ => some (.int i)
def eBl (b : Bool) : Rho → Option PyData := fun _ => some (.bool b)
def eL (φ : Rho → Option (List PyData)) : Rho → Option PyData := fun ρ => (φ ρ).map .list
def aNil : Rho → Option (List PyData) := fun _ => some []
def aCons (φ : Rho → Option PyData) (φs : Rho → Option (List PyData)) : Rho → Option (List PyData) := fun ρ => (φ ρ).bind fun x => (φs ρ).map (x :: ·)
def lim (es : List PyData) : Option (List PyData) := if es.length ≤ 100000 then some es else none
def eTup (φs : Rho → Option (List PyData)) : Rho → Option PyData := fun ρ => ((φs ρ).bind lim).map .tuple
def lLst (φs : Rho → Option (List PyData)) : Rho → Option (List PyData) := fun ρ => (φs ρ).bind lim
def eOp (f : PyData → PyData → Option PyData) (φ ψ : Rho → Option PyData) : Rho → Option PyData := fun ρ => (φ ρ).bind fun x => (ψ ρ).bind fun y => f x y
def eUn (f : PyData → Option PyData) (φ : Rho → Option PyData) : Rho → Option PyData := fun ρ => (φ ρ).bind f
def eCb (f : List PyData → Option PyData) (φs : Rho → Option (List PyData)) : Rho → Option PyData := fun ρ => (φs ρ).bind f
def lCat (φ ψ : Rho → Option (List PyData)) : Rho → Option (List PyData) := fun ρ => (φ ρ).bind fun x => (ψ ρ).bind fun y => lim (x ++ y)
def asB : PyData → Option Bool
  | .bool b => some b
  | _ => none
def asI : PyData → Option Int
  | .int i => some i
  | _ => none
def eAnd (φ ψ : Rho → Option PyData) : Rho → Option PyData := fun ρ => ((φ ρ).bind asB).bind fun c => if c then ψ ρ else some (.bool false)
def eNot (φ : Rho → Option PyData) : Rho → Option PyData := fun ρ => ((φ ρ).bind asB).map fun c => .bool (!c)
def bTest (φ : Rho → Option PyData) : Rho → Option Bool := fun ρ => (φ ρ).bind asB
def bYes : Rho → Option Bool := fun _ => some true
def bAnd (β γ : Rho → Option Bool) : Rho → Option Bool := fun ρ => (β ρ).bind fun c => if c then γ ρ else some false
def bOr (β γ : Rho → Option Bool) : Rho → Option Bool := fun ρ => (β ρ).bind fun c => if c then some true else γ ρ
def bNot (β : Rho → Option Bool) : Rho → Option Bool := fun ρ => (β ρ).map (!·)
def eChain (f g : PyData → PyData → Option PyData) (φ ψ χ : Rho → Option PyData) : Rho → Option PyData := fun ρ => (φ ρ).bind fun x => (ψ ρ).bind fun y => ((f x y).bind asB).bind fun c => if c then (χ ρ).bind fun z => g y z else some (.bool false)
def oNone : Rho → Option (Option Int) := fun _ => some none
def oSome (φ : Rho → Option PyData) : Rho → Option (Option Int) := fun ρ => ((φ ρ).bind asI).map some
theorem rv_some {ρ : Rho} {i : Nat} {d : PyData} (h : rv ρ i = some d) : ρ[i]? = some (.val d) := by
  unfold rv at h
  split at h
  · rename_i e
    cases h
    exact e
  · cases h
theorem ro_some {ρ : Rho} {i : Nat} {d : List PyData} (h : ro ρ i = some d) : ρ[i]? = some (.own d) := by
  unfold ro at h
  split at h
  · rename_i e
    cases h
    exact e
  · cases h
theorem EvS.t {te : TE} {φ : Rho → Option PyData} (h : EvS K te φ) : EvTr K te φ := fun S H0 G T ow ρ σ H e sm he Q q => h S H0 G T ow ρ σ H e sm he Q fun v H' s hd => q v H' s (.inl hd)
theorem EvF.s {te : TE} {φ : Rho → Option (List PyData)} (h : EvF K te φ) : EvS K te (eL φ) := fun S H0 G T ow ρ σ H e sm he Q q => by
  obtain ⟨es, h1, rfl⟩ := Option.map_eq_some_iff.mp he
  exact h S H0 G T ow ρ σ H es sm h1 Q fun p vs H' s hp hp' hd => q (.ref p) H' s (.lst (SqL.of (hs_at (sm.tr.out hp) hp')) (hd.mono hs_cons_sub))
theorem EvF.l {te : TE} {φ : Rho → Option (List PyData)} (h : EvF K te φ) : EvLi K te φ := fun S H0 G T ow ρ σ H es sm he Q q =>
  h S H0 G T ow ρ σ H es sm he Q fun p vs H' s hp hp' hd => q p vs H' s hp' (hd.mono hs_cons_sub)
theorem EvLi.t {te : TE} {φ : Rho → Option (List PyData)} (h : EvLi K te φ) : EvTr K te (eL φ) := fun S H0 G T ow ρ σ H e sm he Q q => by
  obtain ⟨es, h1, rfl⟩ := Option.map_eq_some_iff.mp he
  exact h S H0 G T ow ρ σ H es sm h1 Q fun p vs H' s hp' hd => q (.ref p) H' s (.inr ⟨p, vs, es, rfl, rfl, hp', hd⟩)
/-! names and constants -/
theorem xs_var (i : Nat) : EvS K (tVar i) (eVar i) := fun S H0 G T ow ρ σ H e sm he Q q => by
  obtain ⟨o, ho, v, rfl, hd⟩ := sm.slot i _ (rv_some he)
  exact ⟨v, ho, q v H (Same.refl _) hd⟩
theorem xl_own (i : Nat) : EvLi K (tVar i) (lOwn i) := fun S H0 G T ow ρ σ H es sm he Q q => by
  obtain ⟨o, ho, fo, vs, rfl, _, h2, h3⟩ := sm.slot i _ (ro_some he)
  exact ⟨_, ho, q fo vs H (Same.refl _) h2 h3⟩
theorem xs_int (i : Int) : EvS K (tC (.int i)) (eInt i) := fun S H0 G T ow ρ σ H e sm he Q q => by
  cases he
  exact q _ H (Same.refl _) (.int i)
theorem xs_bl (b : Bool) : EvS K (tC (.bl b)) (eBl b) := fun S H0 G T ow ρ σ H e sm he Q q => by
  cases he
  exact q _ H (Same.refl _) (.bl b)
/-! arguments -/
theorem xa_nil : EvAS K tNil aNil := fun S H0 G T ow ρ σ H e sm he Q q => by
  cases he
  exact q [] H (Same.refl _) .nil
theorem xa_cons {te : TE} {ta : TA} {φ : Rho → Option PyData} {φs : Rho → Option (List PyData)} (h : EvS K te φ) (hr : EvAS K ta φs) : EvAS K (tCons te ta) (aCons φ φs) := fun S H0 G T ow ρ σ H es sm he Q q => by
  obtain ⟨x, h1, h2⟩ := Option.bind_eq_some_iff.mp he
  obtain ⟨xs, h3, rfl⟩ := Option.map_eq_some_iff.mp h2
  exact h S H0 G T ow ρ σ H x sm h1 _ fun v H1 s1 hv => hr S H0 G T ow ρ σ H1 xs (sm.mono s1) h3 _ fun vs H2 s2 hvs => q (v :: vs) H2 (s1.trans s2) (.cons (hv.mono (hs_mono s2)) hvs)
theorem xt_nil : EvAT K tNil aNil := fun S H0 G T ow ρ σ H e sm he Q q => by
  cases he
  exact q [] H (Same.refl _) .nil
theorem xt_cons {te : TE} {ta : TA} {φ : Rho → Option PyData} {φs : Rho → Option (List PyData)} (h : EvTr K te φ) (hr : EvAT K ta φs) : EvAT K (tCons te ta) (aCons φ φs) := fun S H0 G T ow ρ σ H es sm he Q q => by
  obtain ⟨x, h1, h2⟩ := Option.bind_eq_some_iff.mp he
  obtain ⟨xs, h3, rfl⟩ := Option.map_eq_some_iff.mp h2
  exact h S H0 G T ow ρ σ H x sm h1 _ fun v H1 s1 hv => hr S H0 G T ow ρ σ H1 xs (sm.mono s1) h3 _ fun vs H2 s2 hvs => q (v :: vs) H2 (s1.trans s2) (.cons (hv.mono s2) hvs)
/-! displays -/
theorem lim_some {es fs : List PyData} (h : lim es = some fs) : es.length ≤ 100000 ∧ fs = es := by
  unfold lim at h
  split at h
  · rename_i z
    cases h
    exact ⟨z, rfl⟩
  · cases h
theorem xf_lst {ta : TA} {φs : Rho → Option (List PyData)} (h : EvAS K ta φs) : EvF K (tLst ta) (lLst φs) := fun S H0 G T ow ρ σ H es sm he Q q => by
  obtain ⟨xs, h2, h3⟩ := Option.bind_eq_some_iff.mp he
  obtain ⟨hl, rfl⟩ := lim_some h3
  exact h S H0 G T ow ρ σ H es sm h2 _ fun vs H2 s2 hvs => ⟨Evl.sz_of (by rw [DaAll.len hvs]; exact hl), fun p hp => q p vs _ (s2.trans (same_upd hp)) (s2.free hp) upd_same (hvs.mono (hs_cons_new hp))⟩
/-! operations -/
theorem xs_op {r : R2} {f : PyData → PyData → Option PyData} {ta tb : TE} {φ ψ : Rho → Option PyData} (hr : OpS K r f) (ha : EvTr K ta φ) (hb : EvTr K tb ψ) : EvS K (tOp r ta tb) (eOp f φ ψ) := fun S H0 G T ow ρ σ H e sm he Q q => by
  obtain ⟨x, h1, h2⟩ := Option.bind_eq_some_iff.mp he
  obtain ⟨y, h3, h4⟩ := Option.bind_eq_some_iff.mp h2
  exact ha S H0 G T ow ρ σ H x sm h1 _ fun v H1 s1 hv => hb S H0 G T ow ρ σ H1 y (sm.mono s1) h3 _ fun u H2 s2 hu => hr T H2 v u x y e (sm.tr.same (s1.trans s2)) (hv.mono s2) hu h4 _ fun z H3 s3 hz => q z H3 ((s1.trans s2).trans s3) hz
theorem xs_cb {r : List V → Hp → VK → Prop} {f : List PyData → Option PyData} {ta : TA} {φs : Rho → Option (List PyData)} (hr : CbS K r f) (ha : EvAT K ta φs) : EvS K (tCB r ta) (eCb f φs) := fun S H0 G T ow ρ σ H e sm he Q q => by
  obtain ⟨xs, h1, h2⟩ := Option.bind_eq_some_iff.mp he
  exact ha S H0 G T ow ρ σ H xs sm h1 _ fun vs H1 s1 hv => hr T H1 vs xs e (sm.tr.same s1) hv h2 _ fun z H3 s3 hz => q z H3 (s1.trans s3) hz
/-- list + list -/
theorem xf_cat {ta tb : TE} {φ ψ : Rho → Option (List PyData)} (ha : EvLi K ta φ) (hb : EvLi K tb ψ) : EvF K (tOp rCat ta tb) (lCat φ ψ) := fun S H0 G T ow ρ σ H e sm he Q q => by
  obtain ⟨x, h1, h2⟩ := Option.bind_eq_some_iff.mp he
  obtain ⟨y, h3, h4⟩ := Option.bind_eq_some_iff.mp h2
  obtain ⟨hl, rfl⟩ := lim_some h4
  refine ha S H0 G T ow ρ σ H x sm h1 _ fun a vs H1 s1 ha1 hv => hb S H0 G T ow ρ σ H1 y (sm.mono s1) h3 _ fun b us H2 s2 hb2 hu => ⟨a, b, vs, us, rfl, rfl, s2 _ _ ha1, hb2, ?_, fun p hp => ?_⟩
  · refine Evl.sz_of ?_
    rw [DaAll.len hv, DaAll.len hu, ← List.length_append]
    exact hl
  · exact q p _ _ ((s1.trans s2).trans (same_upd hp)) ((s1.trans s2).free hp) upd_same (((hv.mono (hs_mono s2)).append hu).mono (hs_cons_new hp))
/-! calls of defs -/
def RF (g : List PyData → Option PyData) : List PyData → PyData → Prop := fun ds e => g ds = some e
theorem xs_call {g : List PyData → Option PyData} {ta : TA} {φs : Rho → Option (List PyData)} {E : XK} (ha : EvAS K ta φs) : EvS K (tCall (spD K (RF g)) [] E ta) (eCb g φs) := fun S H0 G T ow ρ σ H e sm he Q q => by
  obtain ⟨xs, h1, h2⟩ := Option.bind_eq_some_iff.mp he
  refine ha S H0 G T ow ρ σ H xs sm h1 _ fun vs H1 s1 hv => ?_
  show spD K (RF g) (vs ++ []) H1 Q E
  rw [List.append_nil]
  exact ⟨T, xs, e, sm.tr.same s1, hv, h2, fun v H2 s2 hd => q v H2 (s1.trans s2) hd⟩
/-! truth values -/
theorem asB_some {d : PyData} {b : Bool} (h : asB d = some b) : d = .bool b := by
  cases d <;> simp [asB] at h
  rw [h]
theorem tt_test {ta : TE} {φ : Rho → Option PyData} (ha : EvTr K ta φ) : TeP K (tTest ta) (bTest φ) := fun S H0 G T ow ρ σ H b sm he Q q => by
  obtain ⟨x, h3, h4⟩ := Option.bind_eq_some_iff.mp he
  obtain rfl := asB_some h4
  exact ha S H0 G T ow ρ σ H _ sm h3 _ fun v H1 s1 hv => ⟨b, hv.bl, q H1 s1⟩
theorem tt_yes : TeP K tYes bYes := fun S H0 G T ow ρ σ H b sm he Q q => by
  cases he
  exact q H (Same.refl _)
/-! slices -/
theorem asI_some {d : PyData} {i : Int} (h : asI d = some i) : d = .int i := by
  cases d <;> simp [asI] at h
  rw [h]
end
end Pb

set_option Elab.async false
set_option linter.all false
set_option maxRecDepth 100000
namespace Pb
open PySem PySem.Spec PyProof.Rows L2
/-! ### targets -/
section
variable (K : PySem.W.Frag)
def TgP (g : TG) (js : List Nat) (τ : PyData → Rho → Option Rho) : Prop := ∀ S H0 G T ow ρ σ H x e ρ', SimO K S H0 G T ow ρ σ H → Da K (hs T H) x e → τ e ρ = some ρ' → ∀ Q : L2.St → Hp → Prop,
  (∀ σ', SimO K S H0 G T ow ρ' σ' H → (∀ vs : List Nat, (∀ j ∈ js, j ∈ vs) → L2.wipe σ' vs = L2.wipe σ vs) → Q σ' H) → g x σ H Q
end
def gN (i : Nat) : PyData → Rho → Option Rho := fun e ρ => some (ρ.set i (.val e))
def gT (τ : List PyData → Rho → Option Rho) : PyData → Rho → Option Rho
  | .tuple es, ρ => τ es ρ
  | _, _ => none
def g0 : List PyData → Rho → Option Rho
  | [], ρ => some ρ
  | _, _ => none
def gC (τ : PyData → Rho → Option Rho) (τs : List PyData → Rho → Option Rho) : List PyData → Rho → Option Rho
  | e :: es, ρ => (τ e ρ).bind (τs es)
  | [], _ => none
theorem wipe_set {i : Nat} {o : Option V} : ∀ (σ : L2.St) (vs : List Nat), i ∈ vs → L2.wipe (σ.set i o) vs = L2.wipe σ vs
  | _, [], h => absurd h List.not_mem_nil
  | σ, v :: vs, h => by
    unfold L2.wipe
    by_cases hv : i ∈ vs
    · rw [wipe_set σ vs hv]
    · have e : v = i := by
        rcases List.mem_cons.mp h with z | z
        · exact z.symm
        · exact absurd z hv
      subst e
      have : ∀ (us : List Nat), v ∉ us → L2.wipe (σ.set v o) us = (L2.wipe σ us).set v o := by
        intro us
        induction us with
        | nil => intro _; rfl
        | cons u us ih =>
          intro hu
          unfold L2.wipe
          rw [ih (fun z => hu (List.mem_cons_of_mem _ z)), List.set_comm]
          exact fun z => hu (by rw [z]; exact List.mem_cons_self)
      rw [this vs hv, List.set_set]
theorem wipe_wipe (σ : L2.St) : ∀ (vs us : List Nat), (∀ j ∈ vs, j ∈ us) → L2.wipe (L2.wipe σ vs) us = L2.wipe σ us
  | [], us, _ => rfl
  | v :: vs, us, h => by
    show L2.wipe ((L2.wipe σ vs).set v none) us = _
    rw [wipe_set _ us (h v List.mem_cons_self), wipe_wipe σ vs us fun j hj => h j (List.mem_cons_of_mem _ hj)]
section
variable {K : PySem.W.Frag}
theorem tg_name (i : Nat) : TgP K (gName i) [i] (gN i) := fun S H0 G T ow ρ σ H x e ρ' sm hd he Q q => by
  cases he
  exact q _ (sm.setV hd) fun vs h => wipe_set _ _ (h i List.mem_cons_self)
end
/-! ### what is walked -/
structure ItOk (K : PySem.W.Frag) (T : List Addr) (H1 : Hp) (J : It) (es : List PyData) : Prop where
  ex : ∃ (F Gw : Hp → Prop) (Yw : Nat → Hp → V → Hp → Prop), (∀ H H', Same H H' → F H → F H') ∧ F (hs T H1) ∧ Walk J es.length Gw Yw ∧ (∀ T' H2, F (hs T' H2) → Gw H2) ∧
    (∀ T' H2 i x H', F (hs T' H2) → Tr T' H2 → i < es.length → Yw i H2 x H' → Same H2 H' ∧ ∃ e, es[i]? = some e ∧ Da K (hs T' H') x e)
section
variable (K : PySem.W.Frag)
def ItP (wi : TI) (φ : Rho → Option (List PyData)) : Prop := ∀ S H0 G T ow ρ σ H es, SimO K S H0 G T ow ρ σ H → φ ρ = some es → ∀ R : It → Hp → Prop, (∀ J H1, Same H H1 → ItOk K T H1 J es → R J H1) → wi σ H R
end
def asL : PyData → Option (List PyData)
  | .list es => some es
  | _ => none
def asT : PyData → Option (List PyData)
  | .tuple es => some es
  | _ => none
def enumD (es : List PyData) : List PyData := es.zipIdx.map fun p => .tuple [.int (p.2 : Int), p.1]
def rngD (lo hi : Int) : List PyData := (List.range (hi - lo).toNat).map fun (i : Nat) => .int (lo + (i : Int))
def small (i : Int) : Bool := decide (-(2 ^ 62) ≤ i ∧ i < 2 ^ 62)
def iT (φ : Rho → Option PyData) : Rho → Option (List PyData) := fun ρ => (φ ρ).bind asT
def iR (φ : Rho → Option PyData) : Rho → Option (List PyData) := fun ρ => ((φ ρ).bind asI).bind fun j => if small j then some (rngD 0 j) else none
def iET (φ : Rho → Option PyData) : Rho → Option (List PyData) := fun ρ => ((φ ρ).bind asT).map enumD
section
variable {K : PySem.W.Frag}
theorem rngD_len {lo hi : Int} : (rngD lo hi).length = (hi - lo).toNat := by simp [rngD]
theorem it_range {T : List Addr} {H1 : Hp} {lo hi : Int} : ItOk K T H1 (Itr lo (hi - lo).toNat) (rngD lo hi) := ⟨fun _ => True, fun _ => True, _, fun _ _ _ _ => trivial, trivial, by rw [rngD_len]; exact walk_range, fun _ _ _ => trivial, fun T' H2 i x H' _ _ hi y => by
  obtain ⟨rfl, rfl⟩ := y
  refine ⟨Same.refl _, .int (lo + i), ?_, .int _⟩
  rw [rngD_len] at hi
  simp [rngD, hi]⟩
theorem enumD_len {es : List PyData} : (enumD es).length = es.length := by simp [enumD]
theorem small_iff {i : Int} (h : small i = true) : -(2 ^ 62) ≤ i ∧ i < 2 ^ 62 := of_decide_eq_true h
theorem wi_rng {te : TE} {φ : Rho → Option PyData} (h : EvTr K te φ) : ItP K (iRng1 (tCons te tNil)) (iR φ) := fun S H0 G T ow ρ σ H es sm he R q => by
  obtain ⟨j, h1, h2⟩ := Option.bind_eq_some_iff.mp he
  obtain ⟨x, h3, h4⟩ := Option.bind_eq_some_iff.mp h1
  obtain rfl := asI_some h4
  split at h2
  · rename_i hz
    cases h2
    obtain ⟨z1, z2⟩ := small_iff hz
    refine h S H0 G T ow ρ σ H _ sm h3 _ fun v H1 s1 hv => ⟨j, by rw [hv.int], z1, z2, ?_⟩
    have e : (j - 0).toNat = j.toNat := by rw [Int.sub_zero]
    exact q _ H1 s1 (e ▸ it_range)
  · cases h2
end
/-! ### comprehensions -/
def lcR (τ : PyData → Rho → Option Rho) (β : Rho → Option Bool) (φ : Rho → Option PyData) (ρ : Rho) : List PyData → Option (List PyData)
  | [] => some []
  | e :: es => (τ e ρ).bind fun ρ' => (β ρ').bind fun c => if c then (φ ρ').bind fun y => (lcR τ β φ ρ es).map (y :: ·) else lcR τ β φ ρ es
def lLc (vs : List Nat) (it : Rho → Option (List PyData)) (τ : PyData → Rho → Option Rho) (β : Rho → Option Bool) (φ : Rho → Option PyData) : Rho → Option (List PyData) := fun ρ => ((it ρ).bind lim).bind fun es => lcR τ β φ (wipeR ρ vs) es
section
variable {K : PySem.W.Frag}
theorem xf_lc {wi : TI} {g : TG} {tt : TT} {te : TE} {vs js : List Nat} {it : Rho → Option (List PyData)} {τ : PyData → Rho → Option Rho} {β : Rho → Option Bool} {φ : Rho → Option PyData} (hi : ItP K wi it) (hg : TgP K g js τ) (ht : TeP K tt β) (he : EvS K te φ) (hj : ∀ j ∈ js, j ∈ vs := by decide) :
    EvF K (tLc wi g tt te vs) (lLc vs it τ β φ) := fun S H0 G T ow ρ σ H ys sm hy Q q => by
  obtain ⟨es', h0, h1⟩ := Option.bind_eq_some_iff.mp hy
  obtain ⟨es, h2, h3⟩ := Option.bind_eq_some_iff.mp h0
  obtain ⟨hl, rfl⟩ := lim_some h3
  refine hi S H0 G T ow ρ σ H _ sm h2 _ fun J H1 s1 ⟨F, Gw, Yw, mo, f0, wk, hG, hY⟩ D hD => ?_
  have smW := (sm.mono s1).wipe vs
  refine lc_it wk (fun i H' => ∃ (acc : List V) (ys1 ys2 : List PyData), H' D = some (.lst acc) ∧ DaAll K (hs (D :: T) H') acc ys1 ∧ ys = ys1 ++ ys2 ∧ ys1.length ≤ i ∧ lcR τ β φ (wipeR ρ vs) (es'.drop i) = some ys2 ∧
      SimO K S H0 (fun X => G X ∧ F X) (D :: T) ow (wipeR ρ vs) (L2.wipe σ vs) H' ∧ (∀ a o, a ≠ D → H1 a = some o → H' a = some o)) ?_ ?_ ?_ ?_
  · refine ⟨[], [], ys, upd_same, .nil, rfl, Nat.le_refl _, by simpa using h1, ?_, fun a o hne e => by rw [upd_ne hne]; exact e⟩
    have hh := smW.hide (D := D) (vs := []) hD
    exact hh.weak (fun H H' s h => ⟨sm.mo _ _ s h.1, mo _ _ s h.2⟩) ⟨hh.fr, mo _ _ (hs_cons_new hD) f0⟩
  · rintro i H' _ ⟨acc, ys1, ys2, _, _, _, _, _, sm', _⟩
    exact hG _ _ sm'.fr.2
  · rintro i x H2 H3 hlt ⟨acc, ys1, ys2, e1, e2, rfl, e3, e4, sm', old⟩ y
    obtain ⟨s3, e, he3, hx⟩ := hY _ H2 i x H3 sm'.fr.2 sm'.tr hlt y
    have dr : es'.drop i = e :: es'.drop (i + 1) := by
      rw [List.drop_eq_getElem_cons hlt]
      congr 1
      rw [List.getElem?_eq_getElem hlt] at he3
      exact Option.some.inj he3
    rw [dr] at e4
    obtain ⟨ρ', k1, k2⟩ := Option.bind_eq_some_iff.mp e4
    obtain ⟨c, k3, k4⟩ := Option.bind_eq_some_iff.mp k2
    have sm3 := sm'.mono s3
    refine hg S H0 _ _ ow _ _ H3 x e ρ' sm3 hx k1 _ fun σ2 sm4 wp => ⟨?_, ?_⟩
    · rw [wp vs hj, wipe_wipe σ vs vs fun _ h => h]
    · refine ht S H0 _ _ ow ρ' σ2 H3 c sm4 k3 _ fun H4 s4 => ?_
      have s24 := s3.trans s4
      cases c with
      | true =>
        rw [if_pos rfl]
        obtain ⟨z, k5, k6⟩ := Option.bind_eq_some_iff.mp (show (φ ρ').bind _ = some ys2 by simpa using k4)
        obtain ⟨zs, k7, rfl⟩ := Option.map_eq_some_iff.mp k6
        refine he S H0 _ _ ow ρ' σ2 H4 z (sm4.mono s4) k5 _ fun v H5 s5 hv => ?_
        have s25 := s24.trans s5
        have sm5 := sm'.mono s25
        have la := DaAll.len e2
        refine ⟨acc, s25 _ _ e1, Evl.sz_lt (by omega), acc ++ [v], ys1 ++ [z], zs, upd_same, ?_, by simp, by simp; omega, k7, ?_, fun a o hne ea => ?_⟩
        · rw [hs_put List.mem_cons_self]
          exact (e2.mono (hs_mono s25)).append (.cons hv .nil)
        · have hDo : D ∉ ow := fun z => by
            obtain ⟨o, eo⟩ := sm.tr D (sm.owT D z)
            rw [s1 _ _ eo] at hD
            cases hD
          exact
            { len := sm5.len, inj := sm5.inj, new := sm5.new, sub := sm5.sub, owT := sm5.owT, trS := sm5.trS, mo := sm5.mo,
              old := fun a o ea => by
                have ne : a ≠ D := fun z => by
                  rw [z] at ea
                  rw [s1 _ _ (sm.old _ _ ea)] at hD
                  cases hD
                rw [upd_ne ne]
                exact sm5.old _ _ ea
              tr := fun a ha => by
                by_cases z : a = D
                · rw [z]
                  exact ⟨_, upd_same⟩
                · rw [upd_ne z]
                  exact sm5.tr a ha
              fr := by
                rw [hs_put List.mem_cons_self]
                exact sm5.fr
              lsT := fun a ha => by
                by_cases z : a = D
                · rw [z]
                  exact .inr ⟨_, upd_same⟩
                · exact (sm5.lsT a ha).imp id fun ⟨xs, e⟩ => ⟨xs, by rw [upd_ne z]; exact e⟩
              slot := fun j sl ej => by
                obtain ⟨o, ho, hs'⟩ := sm5.slot j sl ej
                refine ⟨o, ho, hs'.move (by rw [hs_put List.mem_cons_self]; exact Same.refl _) fun fo ws eo m1 m2 => ⟨m1, ?_⟩⟩
                have ne : fo ≠ D := fun z => by
                  rw [z] at m1
                  exact hDo m1
                rw [upd_ne ne]
                exact m2 }
        · rw [upd_ne hne]
          exact s25 _ _ (old a o hne ea)
      | false =>
        rw [if_neg Bool.false_ne_true]
        refine ⟨acc, ys1, ys2, s24 _ _ e1, e2.mono (hs_mono s24), rfl, by omega, by simpa using k4, sm'.mono s24, fun a o hne ea => s24 _ _ (old a o hne ea)⟩
  · rintro H' ⟨acc, ys1, ys2, e1, e2, rfl, _, e4, sm', old⟩
    rw [List.drop_length] at e4
    cases e4
    rw [List.append_nil] at q
    exact q D acc H' (fun a o ea => old a o (fun z => by rw [z, s1.free hD] at ea; cases ea) (s1 _ _ ea)) (s1.free hD) e1 e2
end
end Pb

set_option Elab.async false
set_option linter.all false
set_option maxRecDepth 100000
namespace Pb
open PySem PySem.Spec PyProof.Rows L2
/-! ### statements -/
inductive Res where
  | nx (ρ : Rho)
  | rt (d : PyData)
  | bk (ρ : Rho)
  | ct (ρ : Rho)
  | ex (o : Out)
section
variable (K : PySem.W.Frag) (cl : Str → Addr)
def EndOk (S : List Addr) (H0 : Hp) (G : Hp → Prop) (D : Ends) (E : XK) : Res → Prop
  | .nx ρ => ∀ σ H, Sim K S H0 G ρ σ H → D.nx σ H
  | .rt d => ∀ v H, Same H0 H → Da K (hs S H) v d → D.rt v H
  | .bk ρ => ∀ σ H, Sim K S H0 G ρ σ H → D.bk σ H
  | .ct ρ => ∀ σ H, Sim K S H0 G ρ σ H → D.ct σ H
  | .ex o => OutOk K cl S H0 (fun _ _ => False) E o
def StP (E : XK) (ts : TS) (ψ : Rho → Option Res) : Prop := ∀ S H0 G ρ σ H r, Sim K S H0 G ρ σ H → ψ ρ = some r → ∀ D : Ends, EndOk K cl S H0 G D E r → ts D σ H
end
def thenR (r : Res) (ψ : Rho → Option Res) : Option Res := match r with
  | .nx ρ => ψ ρ
  | r => some r
def sSeq (ψ χ : Rho → Option Res) : Rho → Option Res := fun ρ => (ψ ρ).bind fun r => thenR r χ
def sNil : Rho → Option Res := fun ρ => some (.nx ρ)
def sNever : Rho → Option Res := fun _ => none
def sIf (β : Rho → Option Bool) (ψ χ : Rho → Option Res) : Rho → Option Res := fun ρ => (β ρ).bind fun c => if c then ψ ρ else χ ρ
def sSet (τ : PyData → Rho → Option Rho) (φ : Rho → Option PyData) : Rho → Option Res := fun ρ => (φ ρ).bind fun e => (τ e ρ).map .nx
def sOwn (i : Nat) (φ : Rho → Option (List PyData)) : Rho → Option Res := fun ρ => (φ ρ).map fun es => .nx (ρ.set i (.own es))
def sRet (φ : Rho → Option PyData) : Rho → Option Res := fun ρ => (φ ρ).map .rt
def sPar (i j : Nat) (φs : Rho → Option (List PyData)) : Rho → Option Res := fun ρ => (φs ρ).bind fun es => match es with
  | [a, b] => some (.nx ((ρ.set i (.val a)).set j (.val b)))
  | _ => none
def forR (b : PyData → Rho → Option Res) : List PyData → Rho → Option Res
  | [], ρ => some (.nx ρ)
  | e :: es, ρ => (b e ρ).bind fun r => match r with
    | .nx ρ' => forR b es ρ'
    | .ct ρ' => forR b es ρ'
    | .bk ρ' => some (.nx ρ')
    | r => some r
def sFor (it : Rho → Option (List PyData)) (τ : PyData → Rho → Option Rho) (ψ : Rho → Option Res) : Rho → Option Res := fun ρ => (it ρ).bind fun es => forR (fun e ρ => (τ e ρ).bind ψ) es ρ
def whR (β : Rho → Option Bool) (ψ : Rho → Option Res) : Nat → Rho → Option Res
  | 0, _ => none
  | n + 1, ρ => (β ρ).bind fun c => if c then (ψ ρ).bind fun r => match r with
    | .nx ρ' => whR β ψ n ρ'
    | .ct ρ' => whR β ψ n ρ'
    | .bk ρ' => some (.nx ρ')
    | r => some r
    else some (.nx ρ)
section
variable {K : PySem.W.Frag} {cl : Str → Addr} {E : XK}
theorem ss_nil : StP K cl E tNext sNil := fun S H0 G ρ σ H r sm he D q => by
  cases he
  exact q σ H sm
theorem ss_seq {t u : TS} {ψ χ : Rho → Option Res} (h : StP K cl E t ψ) (k : StP K cl E u χ) : StP K cl E (tSeq t u) (sSeq ψ χ) := fun S H0 G ρ σ H r sm he D q => by
  obtain ⟨r1, h1, h2⟩ := Option.bind_eq_some_iff.mp he
  refine h S H0 G ρ σ H r1 sm h1 _ ?_
  cases r1 with
  | nx ρ' => exact fun σ' H' sm' => k S H0 G ρ' σ' H' r sm' h2 D q
  | rt d =>
    cases h2
    exact q
  | bk ρ' =>
    cases h2
    exact q
  | ct ρ' =>
    cases h2
    exact q
  | ex o =>
    cases h2
    exact q
theorem ss_if {c : TT} {t u : TS} {β : Rho → Option Bool} {ψ χ : Rho → Option Res} (hc : TeP K c β) (h : StP K cl E t ψ) (k : StP K cl E u χ) : StP K cl E (tIfS c t u) (sIf β ψ χ) := fun S H0 G ρ σ H r ⟨T, ow, sm⟩ he D q => by
  obtain ⟨b, h1, h2⟩ := Option.bind_eq_some_iff.mp he
  refine hc S H0 G T ow ρ σ H b sm h1 _ fun H1 s1 => ?_
  cases b with
  | true => exact h S H0 G ρ σ H1 r (sm.mono s1).sim (by simpa using h2) D q
  | false => exact k S H0 G ρ σ H1 r (sm.mono s1).sim (by simpa using h2) D q
theorem ss_set {te : TE} {g : TG} {js : List Nat} {φ : Rho → Option PyData} {τ : PyData → Rho → Option Rho} (h : EvS K te φ) (hg : TgP K g js τ) : StP K cl E (tAsg te g) (sSet τ φ) := fun S H0 G ρ σ H r ⟨T, ow, sm⟩ he D q => by
  obtain ⟨e, h1, h2⟩ := Option.bind_eq_some_iff.mp he
  obtain ⟨ρ', h3, rfl⟩ := Option.map_eq_some_iff.mp h2
  exact h S H0 G T ow ρ σ H e sm h1 _ fun v H1 s1 hv => hg S H0 G T ow ρ σ H1 v e ρ' (sm.mono s1) hv h3 _ fun σ' sm' _ => q σ' H1 sm'.sim
theorem ss_own {te : TE} {i : Nat} {φ : Rho → Option (List PyData)} (h : EvF K te φ) : StP K cl E (tAsg te (gName i)) (sOwn i φ) := fun S H0 G ρ σ H r ⟨T, ow, sm⟩ he D q => by
  obtain ⟨es, h1, rfl⟩ := Option.map_eq_some_iff.mp he
  exact h S H0 G T ow ρ σ H es sm h1 _ fun p vs H1 s1 hp hp' hd => q _ H1 (sm.setO hp s1 hp' hd).sim
theorem ss_ret {te : TE} {φ : Rho → Option PyData} (h : EvS K te φ) : StP K cl E (tRet te) (sRet φ) := fun S H0 G ρ σ H r ⟨T, ow, sm⟩ he D q => by
  obtain ⟨e, h1, rfl⟩ := Option.map_eq_some_iff.mp he
  exact h S H0 G T ow ρ σ H e sm h1 _ fun v H1 s1 hv => q v H1 (sm.old.trans s1) (hv.mono (msk_to_hs sm.sub))
/-- while, with a number of turns that is enough -/
def sWhile (n : Nat) (β : Rho → Option Bool) (ψ : Rho → Option Res) : Rho → Option Res := fun ρ => whR β ψ n ρ
end
/-! ### a def -/
def rho0 (n : Nat) (ds : List PyData) : Rho := ds.map .val ++ List.replicate (n - ds.length) .no
def runF (n np : Nat) (ψ : Rho → Option Res) (ds : List PyData) : Option PyData := if ds.length = np then match ψ (rho0 n ds) with
  | some (.rt e) => some e
  | some (.nx _) => some .none
  | _ => none
  else none
section
variable {K : PySem.W.Frag}
theorem sim_start {S : List Addr} {H : Hp} {N : List Str} {vs : List V} {ds : List PyData} (tr : Tr S H) (h : DaAll K (hs S H) vs ds) : SimO K S H (fun _ => True) S [] (rho0 N.length ds) (start N vs) H := by
  have hl := DaAll.len h
  refine { len := ?_, slot := ?_, inj := ?_, old := Same.refl _, new := fun a ha => absurd ha List.not_mem_nil, sub := fun _ h => h, owT := fun a ha => absurd ha List.not_mem_nil, tr := tr, trS := tr, mo := fun _ _ _ _ => trivial, fr := trivial, lsT := fun a ha => .inl ha }
  · simp [rho0, L2.start, hl]
  · intro i s e
    unfold rho0 at e
    unfold L2.start
    by_cases hi : i < ds.length
    · rw [List.getElem?_append_left (by simpa using hi)] at e
      rw [List.getElem?_append_left (by simpa [hl] using hi)]
      rw [List.getElem?_map] at e ⊢
      obtain ⟨d, hd, rfl⟩ := Option.map_eq_some_iff.mp e
      have hv : vs[i]? = some (vs[i]'(by omega)) := List.getElem?_eq_getElem (by omega)
      obtain ⟨d', h1, h2⟩ := DaAll.get h hv
      rw [hd] at h1
      cases h1
      exact ⟨some _, by rw [hv]; rfl, _, rfl, h2⟩
    · rw [List.getElem?_append_right (by simp; omega)] at e
      rw [List.getElem?_append_right (by simp; omega)]
      rw [List.getElem?_replicate] at e
      split at e
      · rename_i hlt
        cases e
        refine ⟨none, ?_, trivial⟩
        rw [List.getElem?_replicate, if_pos]
        simp [hl] at hlt ⊢
        exact hlt
      · cases e
  · intro i j es es' _ e
    unfold rho0 at e
    by_cases hi : i < ds.length
    · rw [List.getElem?_append_left (by simpa using hi), List.getElem?_map] at e
      obtain ⟨d, hd, z⟩ := Option.map_eq_some_iff.mp e
      cases z
    · rw [List.getElem?_append_right (by simp; omega), List.getElem?_replicate] at e
      split at e
      · cases e
      · cases e
theorem run_start {S : List Addr} {H : Hp} {N : List Str} {vs : List V} {ds : List PyData} {np : Nat} {cl : Str → Addr} {E : XK} {t : TS} {ψ : Rho → Option Res} {e : PyData} {Q : VK} (h : StP K cl E t ψ) (tr : Tr S H) (ha : DaAll K (hs S H) vs ds) (he : runF N.length np ψ ds = some e)
    (q : ∀ v H', Same H H' → Da K (hs S H') v e → Q v H') : t { nx := fun _ H' => Q .non H', rt := Q } (start N vs) H := by
  unfold runF at he
  split at he
  · split at he
    · rename_i hr
      cases he
      exact h S H _ _ _ H _ (sim_start tr ha).sim hr _ q
    · rename_i ρ' hr
      cases he
      exact h S H _ _ _ H _ (sim_start tr ha).sim hr _ (fun σ' H' ⟨T, ow, sm⟩ => q .non H' sm.old .non)
    · cases he
  · cases he
end
section
variable {P : Program} {w : World} {K : PySem.W.Frag} {mg : Str → Option Value} {base : Heap}
theorem fn_pure {x qual : Str} {st : Stmt} {f : Addr} {fd : FuncData} {N ps : List Str} {k : Nat} {ψ : Rho → Option Res} {cl : Str → Addr} (F : Fun K x qual st f fd) (S : FnScope N ps (defScope st))
    (hbody : ∀ (cdv : Value) (A : Around) (outer : List Env) (s : Shared) (H : Hp) (E : XK), Room k (A.deeper (envOfC qual (defScope st) s.heap.objs.size f cdv)) →
      ∃ t, PSs (cxOf CX0 P w K mg base N qual (defScope st) f cdv A outer s H E).nox (defBody st) t ∧ StP K cl E0 t ψ) : FnOk P w K mg base CX0 (k + 1) f fd ps (spD K (RF (runF N.length ps.length ψ))) := by
  refine F.ok S (fun vs H Q E h => ?_) (fun cdv A outer s H vs Q E hr h => ?_)
  · obtain ⟨T, ds, e, _, ha, he, _⟩ := h
    rw [DaAll.len ha]
    unfold RF runF at he
    split at he
    · assumption
    · cases he
  · obtain ⟨T, ds, e, tr, ha, he, q⟩ := h
    obtain ⟨t, h1, h2⟩ := hbody cdv A outer s H E hr
    exact ⟨t, h1, run_start h2 tr ha he q⟩
end
end Pb

set_option Elab.async false
set_option linter.all false
set_option maxRecDepth 100000
namespace Pb
open PySem PySem.Spec PyProof.Rows L2
/-! ### operations on data -/
def fI (g : Int → Int → PyData) : PyData → PyData → Option PyData
  | .int i, .int j => some (g i j)
  | _, _ => none
def fIC (c : Int → Int → Bool) (g : Int → Int → PyData) : PyData → PyData → Option PyData
  | .int i, .int j => if c i j then some (g i j) else none
  | _, _ => none
abbrev fAdd := fI fun i j => .int (i + j)
abbrev fSub := fI fun i j => .int (i - j)
abbrev fLt := fI fun i j => .bool (decide (i < j))
abbrev fLe := fI fun i j => .bool (decide (i ≤ j))
def cPow (i j : Int) : Bool := decide (0 ≤ j ∧ j ≤ 1000000 ∧ i.natAbs < 2 ^ 64)
def cMod (_ j : Int) : Bool := decide (0 < j)
abbrev fPow := fIC cPow fun i j => .int (i ^ j.toNat)
abbrev fMod := fIC cMod fun i j => .int (i % j)
section
variable {K : PySem.W.Frag}
theorem os_I {C : Int → Int → Prop} {c : Int → Int → Bool} {g : Int → Int → V} {h : Int → Int → PyData} (hc : ∀ i j, c i j = true → C i j) (hd : ∀ i j H, Da K H (g i j) (h i j)) : OpS K (rI C g) (fIC c h) := fun T H x y d1 d2 e tr h1 h2 he Q q => by
  unfold fIC at he
  split at he
  · rename_i i j
    split at he
    · rename_i hz
      cases he
      exact ⟨i, j, h1.int, h2.int, hc i j hz, q _ H (Same.refl _) (hd i j _)⟩
    · cases he
  · cases he
theorem os_pow : OpS K (rI CPow fun i j => .int (i ^ j.toNat)) fPow := os_I (fun i j h => by have := of_decide_eq_true h; exact this) fun _ _ _ => .int _
/-! == of scalars, of data -/
def fEq : PyData → PyData → Option PyData
  | .int i, .int j => some (.bool (decide (i = j)))
  | .bool i, .bool j => some (.bool (decide (i = j)))
  | .str i, .str j => some (.bool (decide (i = j)))
  | .none, .none => some (.bool true)
  | _, _ => none
def fNe : PyData → PyData → Option PyData
  | .int i, .int j => some (.bool (!decide (i = j)))
  | .bool i, .bool j => some (.bool (!decide (i = j)))
  | .str i, .str j => some (.bool (!decide (i = j)))
  | .none, .none => some (.bool false)
  | _, _ => none
theorem dec_eqV {α : Type} [DecidableEq α] (f : α → V) (hf : ∀ a b, f a = f b → a = b) (a b : α) : decide (f a = f b) = decide (a = b) := by
  by_cases h : a = b
  · rw [h, decide_eq_true rfl, decide_eq_true rfl]
  · rw [decide_eq_false h, decide_eq_false fun z => h (hf a b z)]
theorem os_eq : OpS K rEq fEq := fun T H x y d1 d2 e tr h1 h2 he Q q => by
  unfold fEq at he
  split at he
  · cases he
    rw [h1.int, h2.int]
    refine ⟨rfl, ?_⟩
    rw [dec_eqV V.int (fun a b z => by cases z; rfl)]
    exact q _ H (Same.refl _) (.bl _)
  · cases he
    rw [h1.bl, h2.bl]
    refine ⟨rfl, ?_⟩
    rw [dec_eqV V.bl (fun a b z => by cases z; rfl)]
    exact q _ H (Same.refl _) (.bl _)
  · cases he
    rw [h1.str, h2.str]
    refine ⟨rfl, ?_⟩
    rw [dec_eqV V.str (fun a b z => by cases z; rfl)]
    exact q _ H (Same.refl _) (.bl _)
  · cases he
    rw [h1.non, h2.non]
    exact ⟨rfl, q _ H (Same.refl _) (.bl _)⟩
  · cases he
theorem os_ne : OpS K rNe fNe := fun T H x y d1 d2 e tr h1 h2 he Q q => by
  unfold fNe at he
  split at he
  · cases he
    rw [h1.int, h2.int]
    refine ⟨rfl, ?_⟩
    rw [dec_eqV V.int (fun a b z => by cases z; rfl)]
    exact q _ H (Same.refl _) (.bl _)
  · cases he
    rw [h1.bl, h2.bl]
    refine ⟨rfl, ?_⟩
    rw [dec_eqV V.bl (fun a b z => by cases z; rfl)]
    exact q _ H (Same.refl _) (.bl _)
  · cases he
    rw [h1.str, h2.str]
    refine ⟨rfl, ?_⟩
    rw [dec_eqV V.str (fun a b z => by cases z; rfl)]
    exact q _ H (Same.refl _) (.bl _)
  · cases he
    rw [h1.non, h2.non]
    exact ⟨rfl, q _ H (Same.refl _) (.bl _)⟩
  · cases he
mutual
theorem Da.dp' {H : Hp} : ∀ (d : PyData) (v : V), Da K H v d → d.hasDict = false → Dp K H v d
  | .none, _, h, _ => by
    cases h
    exact .non
  | .bool b, _, h, _ => by
    cases h
    exact .bl b
  | .int i, _, h, _ => by
    cases h
    exact .int i
  | .str x, _, h, _ => by
    cases h
    exact .str x
  | .list ds, _, h, hd => by
    cases h with
    | lst h1 h2 => exact .lst h1 (DaAll.dp' ds _ h2 (by simpa only [PyData.hasDict] using hd))
  | .tuple ds, _, h, hd => by
    cases h with
    | tup h1 h2 => exact .tup h1 (DaAll.dp' ds _ h2 (by simpa only [PyData.hasDict] using hd))
  | .dict _, _, _, hd => by simp [PyData.hasDict] at hd
theorem DaAll.dp' {H : Hp} : ∀ (ds : List PyData) (vs : List V), DaAll K H vs ds → PyData.hasDictAll ds = false → DpAll K H vs ds
  | [], _, h, _ => by
    cases h
    exact .nil
  | d :: ds, _, h, hd => by
    simp only [PyData.hasDictAll, Bool.or_eq_false_iff] at hd
    cases h with
    | cons h1 h2 => exact .cons (Da.dp' d _ h1 hd.1) (DaAll.dp' ds _ h2 hd.2)
end
/-- what may be compared -/
def okE (d : PyData) : Bool := SeqAt.shaped d && !d.hasDict
def fNeD (d e : PyData) : Option PyData := if okE d && okE e then some (.bool (!PyData.eqv d e)) else none
theorem okE_iff {d : PyData} (h : okE d = true) : SeqAt.shaped d = true ∧ d.hasDict = false := by
  simpa [okE] using h
theorem os_neD : OpS K (rNeD K) fNeD := fun T H x y d1 d2 e tr h1 h2 he Q q => by
  unfold fNeD at he
  split at he
  · rename_i hz
    rw [Bool.and_eq_true] at hz
    obtain ⟨a1, a2⟩ := okE_iff hz.1
    obtain ⟨b1, b2⟩ := okE_iff hz.2
    cases he
    exact ⟨d1, d2, h1.da.dp' _ _ a2, h2.da.dp' _ _ b2, a1, b1, q _ H (Same.refl _) (.bl _)⟩
  · cases he
/-! in -/
def flatD : PyData → Bool
  | .none => true
  | .bool _ => true
  | .int _ => true
  | .str _ => true
  | _ => false
def seqD : PyData → Option (List PyData)
  | .list es => some es
  | .tuple es => some es
  | _ => none
def inL (d : PyData) (es : List PyData) : Bool := es.any fun y => PyData.eqv y d
def fIn (d e : PyData) : Option PyData := (seqD e).bind fun es => if flatD d && es.all flatD then some (.bool (inL d es)) else none
/-! items, slices, + -/
def fIxL : PyData → PyData → Option PyData
  | .list es, .int i => atI es i
  | _, _ => none
def fIxT : PyData → PyData → Option PyData
  | .tuple es, .int i => atI es i
  | _, _ => none
def fCat : PyData → PyData → Option PyData
  | .tuple es, .tuple fs => if es.length + fs.length ≤ 100000 then some (.tuple (es ++ fs)) else none
  | _, _ => none
def lSl (φ : Rho → Option PyData) (lo hi : Rho → Option (Option Int)) : Rho → Option (List PyData) := fun ρ => ((φ ρ).bind asL).bind fun es => (lo ρ).bind fun l => (hi ρ).map fun h => cutG es l h
/-! builtins -/
def fLen : List PyData → Option PyData
  | [d] => (seqD d).map fun es => .int (es.length : Int)
  | _ => none
def fIsi (T : String) : PyData → Option PyData := fun d => some (.bool (isI T d))
def fTupOf : List PyData → Option PyData
  | [.list es] => some (.tuple es)
  | [.tuple es] => some (.tuple es)
  | _ => none
/-- lists of truth values, of intsD -/
def bools : List PyData → Option (List Bool)
  | [] => some []
  | .bool b :: es => (bools es).map (b :: ·)
  | _ => none
def intsD : List PyData → Option (List Int)
  | [] => some []
  | .int b :: es => (intsD es).map (b :: ·)
  | _ => none
theorem bools_map : ∀ bs : List Bool, bools (bs.map .bool) = some bs
  | [] => rfl
  | b :: bs => by
    show (bools (bs.map .bool)).map (b :: ·) = _
    rw [bools_map bs]
    rfl
def fAll : List PyData → Option PyData
  | [.list es] => (bools es).map fun bs => .bool (bs.all id)
  | _ => none
theorem foldl_min : ∀ (ns : List Int) (n : Int), (ns.foldl min n = n ∨ ns.foldl min n ∈ ns) ∧ ns.foldl min n ≤ n ∧ ∀ y ∈ ns, ns.foldl min n ≤ y
  | [], n => ⟨.inl rfl, Int.le_refl _, fun y hy => absurd hy List.not_mem_nil⟩
  | m :: ns, n => by
    obtain ⟨h1, h2, h3⟩ := foldl_min ns (min n m)
    simp only [List.foldl_cons]
    refine ⟨?_, by omega, fun y hy => ?_⟩
    · rcases h1 with h1 | h1
      · rw [h1]
        by_cases z : n ≤ m
        · left
          omega
        · right
          rw [show min n m = m by omega]
          exact List.mem_cons_self
      · exact .inr (List.mem_cons_of_mem _ h1)
    · rcases List.mem_cons.mp hy with rfl | hy
      · omega
      · exact h3 y hy
theorem DaAll.emp {H : Hp} {vs : List V} {es : List PyData} (h : DaAll K H vs es) : es.isEmpty = vs.isEmpty := by
  cases h <;> rfl
end
end Pb

set_option Elab.async false
set_option linter.all false
set_option maxRecDepth 100000
namespace Pb
open PySem PySem.Spec PyProof.Rows L2
/-! ### rules over K, whatever the block -/
section
variable {X : Cx} {K : PySem.W.Frag}
theorem opK {f : Value → Value → Sem Value} (r : PySem.W.Frag → R2) (hK : X.K = K) (h : OpR X f (r X.K)) : OpR X f (r K) := hK ▸ h
theorem crK {f : Value} (r : PySem.W.Frag → List V → Hp → VK → Prop) (hK : X.K = K) (h : CallR X f (r X.K)) : CallR X f (r K) := hK ▸ h
theorem piK {tg it : Expr} (r : PySem.W.Frag → TI) (hK : X.K = K) (h : PI X tg it (r X.K)) : PI X tg it (r K) := hK ▸ h
end
structure Bx (mg : Str → Option Value) : Prop extends Bn mg where
  sum : mg "sum" = none
  min : mg "min" = none
  max : mg "max" = none
  zip : mg "zip" = none
  reversed : mg "reversed" = none
  any : mg "any" = none
  valueError : mg "ValueError" = none
section
variable {K : PySem.W.Frag}
/-! zip, reversed -/
/-! ranges as values -/
/-! sorted -/
def sortI (ns : List Int) : List Int := ns.mergeSort fun a b => decide (a ≤ b)
theorem sortI_perm {ns : List Int} : (sortI ns).Perm ns := List.mergeSort_perm ns _
theorem sortI_le {ns : List Int} : (sortI ns).Pairwise (· ≤ ·) := by
  have := List.pairwise_mergeSort (le := fun a b : Int => decide (a ≤ b)) (fun a b c h1 h2 => by simp at h1 h2 ⊢; omega) (fun a b => by simp; omega) ns
  exact this.imp fun h => of_decide_eq_true h
/-! x op= e -/
def sAug (i : Nat) (f : PyData → PyData → Option PyData) (φ : Rho → Option PyData) : Rho → Option Res := fun ρ => (rv ρ i).bind fun x => (φ ρ).bind fun y => (f x y).map fun z => .nx (ρ.set i (.val z))
end
end Pb

set_option Elab.async false
set_option linter.all false
set_option maxRecDepth 100000
namespace Pb
open PySem PySem.Spec PyProof.Rows L2
/-! ### readings that draw: what is wished of every number drawn -/
theorem SimO.base {K : PySem.W.Frag} {S : List Addr} {H0 : Hp} {G : Hp → Prop} {T ow : List Addr} {ρ : Rho} {σ : L2.St} {H : Hp} (h : SimO K S H0 G T ow ρ σ H) (hS : ∀ a ∈ S, ∃ xs, H a = some (.lst xs)) : SimO K [] (fun _ => none) G T ow ρ σ H :=
  { len := h.len, slot := h.slot, inj := h.inj, old := fun _ _ e => (by cases e), new := fun _ _ => rfl, sub := fun _ h => absurd h List.not_mem_nil, owT := h.owT, tr := h.tr, trS := fun _ h => absurd h List.not_mem_nil, mo := h.mo, fr := h.fr, lsT := fun a ha => (h.lsT a ha).elim (fun z => .inr (hS a z)) .inr }
structure SimW (K : PySem.W.Frag) (S : List Addr) (H0 : Hp) (d b c : Addr) (n : Int) (G : Hp → Prop) (T ow : List Addr) (ρ : Rho) (σ : L2.St) (H : Hp) : Prop where
  co : SimO K [] (fun _ => none) G T ow ρ σ H
  ck : Ck T d b c n H
  old : Same (msk d b H0) (msk d b H)
  new : ∀ a ∈ ow, H0 a = none ∧ a ≠ d ∧ a ≠ b ∧ a ≠ c
  sub : ∀ a ∈ S, a ∈ T
  trS : Tr S H0
section
variable {K : PySem.W.Frag} {S : List Addr} {H0 : Hp} {d b c : Addr} {n n' : Int} {G : Hp → Prop} {T ow : List Addr} {ρ : Rho} {σ : L2.St} {H H' : Hp}
theorem SimW.mono (h : SimW K S H0 d b c n G T ow ρ σ H) (s : Same H H') : SimW K S H0 d b c n G T ow ρ σ H' :=
  ⟨h.co.mono s, h.ck.same s, h.old.trans (msk_same s), h.new, h.sub, h.trS⟩
theorem SimW.draw {N : Int} (h : SimW K S H0 d b c n G T ow ρ σ H) (dr : Dr d b c N H n' H') : SimW K S H0 d b c n' G T ow ρ σ H' := by
  have sm := h.ck.sm dr
  refine ⟨?_, h.ck.dr dr, h.old.trans dr.sm, h.new, h.sub, h.trS⟩
  exact
    { len := h.co.len, inj := h.co.inj, old := fun _ _ e => (by cases e), new := fun _ _ => rfl, sub := fun _ h => absurd h List.not_mem_nil, owT := h.co.owT, tr := (h.ck.dr dr).tr, trS := fun _ h => absurd h List.not_mem_nil, mo := h.co.mo, fr := h.co.mo _ _ sm h.co.fr,
      lsT := fun a ha => .inr (by
        by_cases z1 : a = d
        · rw [z1]
          exact ⟨_, dr.dk.at_d⟩
        · by_cases z2 : a = b
          · rw [z2]
            obtain ⟨bs, e⟩ := dr.dk.at_b
            exact ⟨_, e⟩
          · rcases h.co.lsT a ha with y | ⟨xs, e⟩
            · exact absurd y List.not_mem_nil
            · have := dr.sm a _ (by rw [msk_ne z1 z2]; exact e)
              rw [msk_ne z1 z2] at this
              exact ⟨xs, this⟩),
      slot := fun i sl e => by
        obtain ⟨o, ho, hs'⟩ := h.co.slot i sl e
        exact ⟨o, ho, hs'.move sm fun fo vs _ k1 k2 => ⟨k1, dr.at (h.new fo k1).2 k2⟩⟩ }
/-- as a pure statement sees it -/
theorem SimW.pure (h : SimW K S H0 d b c n G T ow ρ σ H) : SimO K (d :: b :: S) (hs ow H) G T ow ρ σ H := by
  have inS : ∀ a ∈ d :: b :: S, a ∉ ow := fun a ha z => by
    obtain ⟨z1, z2, z3, _⟩ := h.new a z
    rcases List.mem_cons.mp ha with rfl | ha
    · exact z2 rfl
    · rcases List.mem_cons.mp ha with rfl | ha
      · exact z3 rfl
      · obtain ⟨o, eo⟩ := h.trS a ha
        rw [z1] at eo
        cases eo
  exact
    { len := h.co.len, slot := h.co.slot, inj := h.co.inj, owT := h.co.owT, tr := h.co.tr, mo := h.co.mo, fr := h.co.fr, old := hs_sub, lsT := fun a ha => (h.co.lsT a ha).elim (fun z => absurd z List.not_mem_nil) .inr
      new := fun a ha => by
        unfold hs
        rw [if_pos ha]
      sub := fun a ha => by
        rcases List.mem_cons.mp ha with rfl | ha
        · exact h.ck.hd
        · rcases List.mem_cons.mp ha with rfl | ha
          · exact h.ck.hb
          · exact h.sub a ha
      trS := fun a ha => by
        have hT : a ∈ T := by
          rcases List.mem_cons.mp ha with rfl | ha
          · exact h.ck.hd
          · rcases List.mem_cons.mp ha with rfl | ha
            · exact h.ck.hb
            · exact h.sub a ha
        obtain ⟨o, eo⟩ := h.co.tr a hT
        exact ⟨o, hs_at (inS a ha) eo⟩ }
theorem SimW.back {T' ow' : List Addr} {ρ' : Rho} {σ' : L2.St} {G' : Hp → Prop} (h : SimW K S H0 d b c n G T ow ρ σ H) (k : SimO K (d :: b :: S) (hs ow H) G' T' ow' ρ' σ' H') : SimW K S H0 d b c n G' T' ow' ρ' σ' H' := by
  have dno : d ∉ ow := fun z => (h.new d z).2.1 rfl
  have bno : b ∉ ow := fun z => (h.new b z).2.2.1 rfl
  have cno : c ∉ ow := fun z => (h.new c z).2.2.2 rfl
  have dk : Dk d b c n (hs ow H) := by
    obtain ⟨e1, e2, e3, e4, e5, ⟨bs, e6⟩, ⟨cs, e7, e8⟩⟩ := h.ck.dk
    exact ⟨e1, e2, e3, e4, hs_at dno e5, ⟨bs, hs_at bno e6⟩, ⟨cs, hs_at cno e7, e8⟩⟩
  have dk' := dk.same k.old
  have hS : ∀ a ∈ d :: b :: S, ∃ xs, H' a = some (.lst xs) := fun a ha => by
    rcases List.mem_cons.mp ha with rfl | ha
    · exact ⟨_, dk'.at_d⟩
    · rcases List.mem_cons.mp ha with rfl | ha
      · obtain ⟨bs, e⟩ := dk'.at_b
        exact ⟨_, e⟩
      · rcases h.co.lsT a (h.sub a ha) with y | ⟨xs, e⟩
        · exact absurd y List.not_mem_nil
        · have : a ∉ ow := fun z => by
            obtain ⟨o, eo⟩ := h.trS a ha
            rw [(h.new a z).1] at eo
            cases eo
          exact ⟨xs, k.old _ _ (hs_at this e)⟩
  refine ⟨k.base hS, ⟨dk', k.sub d (by simp), k.sub b (by simp), k.tr⟩, ?_, ?_, fun a ha => k.sub a (by simp [ha]), h.trS⟩
  · intro a o e
    have e1 := h.old a o e
    obtain ⟨z1, z2, z3⟩ := msk_some e1
    obtain ⟨_, _, y3⟩ := msk_some e
    have : a ∉ ow := fun z => by
      rw [(h.new a z).1] at y3
      cases y3
    rw [msk_ne z1 z2]
    exact k.old _ _ (hs_at this z3)
  · intro a ha
    have ea := k.new a ha
    have ne : ∀ x o, hs ow H x = some o → a ≠ x := fun x o e z => by
      rw [← z, ea] at e
      cases e
    have n1 := ne d _ dk.at_d
    obtain ⟨bs, e6⟩ := dk.at_b
    obtain ⟨cs, e7, _⟩ := dk.at_c
    have n2 := ne b _ e6
    have n3 := ne c _ e7
    refine ⟨?_, n1, n2, n3⟩
    by_cases z : a ∈ ow
    · exact (h.new a z).1
    · rw [hs_out z] at ea
      cases e : H0 a with
      | none => rfl
      | some o =>
        have := h.old a o (by rw [msk_ne n1 n2]; exact e)
        rw [msk_ne n1 n2, ea] at this
        cases this
end
section
variable (K : PySem.W.Frag) (d : Addr)
def EvW (te : TE) (Φ : Rho → Int → (PyData → Int → Prop) → Prop) : Prop := ∀ S H0 b c n G T ow ρ σ H P, SimW K S H0 d b c n G T ow ρ σ H → Φ ρ n P → ∀ Q : VK, (∀ v e n' H', P e n' → Dr d b c n' H n' H' → Da K (hs T H') v e → Q v H') → te σ H Q
def EvAW (ta : TA) (Φ : Rho → Int → (List PyData → Int → Prop) → Prop) : Prop := ∀ S H0 b c n G T ow ρ σ H P, SimW K S H0 d b c n G T ow ρ σ H → Φ ρ n P → ∀ Q : List V → Hp → Prop, (∀ vs es n' H', P es n' → Dr d b c n' H n' H' → DaAll K (hs T H') vs es → Q vs H') → ta σ H Q
/-- a list that is new -/
def EvFW (te : TE) (Φ : Rho → Int → (List PyData → Int → Prop) → Prop) : Prop := ∀ S H0 b c n G T ow ρ σ H P, SimW K S H0 d b c n G T ow ρ σ H → Φ ρ n P → ∀ Q : VK, (∀ p vs es n' H', P es n' → Dr d b c n' H n' H' → H p = none → H' p = some (.lst vs) → DaAll K (hs (p :: T) H') vs es → Q (.ref p) H') → te σ H Q
end
/-! words -/
def wP (φ : Rho → Option PyData) : Rho → Int → (PyData → Int → Prop) → Prop := fun ρ n P => ∃ e, φ ρ = some e ∧ P e n
def wNil : Rho → Int → (List PyData → Int → Prop) → Prop := fun _ n P => P [] n
def wCons (Φ : Rho → Int → (PyData → Int → Prop) → Prop) (Φs : Rho → Int → (List PyData → Int → Prop) → Prop) : Rho → Int → (List PyData → Int → Prop) → Prop := fun ρ n P => Φ ρ n fun x n1 => Φs ρ n1 fun xs n2 => P (x :: xs) n2
def wfLst (Φs : Rho → Int → (List PyData → Int → Prop) → Prop) : Rho → Int → (List PyData → Int → Prop) → Prop := fun ρ n P => Φs ρ n fun es n1 => ∃ fs, lim es = some fs ∧ P fs n1
def wfP (φ : Rho → Option (List PyData)) : Rho → Int → (List PyData → Int → Prop) → Prop := fun ρ n P => ∃ es, φ ρ = some es ∧ P es n
def wL (Φ : Rho → Int → (List PyData → Int → Prop) → Prop) : Rho → Int → (PyData → Int → Prop) → Prop := fun ρ n P => Φ ρ n fun es n1 => P (.list es) n1
def wOp (f : PyData → PyData → Option PyData) (Φ Ψ : Rho → Int → (PyData → Int → Prop) → Prop) : Rho → Int → (PyData → Int → Prop) → Prop := fun ρ n P => Φ ρ n fun x n1 => Ψ ρ n1 fun y n2 => ∃ e, f x y = some e ∧ P e n2
def wCb (f : List PyData → Option PyData) (Φs : Rho → Int → (List PyData → Int → Prop) → Prop) : Rho → Int → (PyData → Int → Prop) → Prop := fun ρ n P => Φs ρ n fun es n1 => ∃ e, f es = some e ∧ P e n1
def wDraw (d : Addr) (i : Nat) (W : Addr → List PyData → Int → (PyData → Int → Prop) → Prop) (Φs : Rho → Int → (List PyData → Int → Prop) → Prop) : Rho → Int → (PyData → Int → Prop) → Prop := fun ρ n P => ρ[i]? = some (.deck d) ∧ Φs ρ n fun es n1 => W d es n1 P
def wfCat (Φ Ψ : Rho → Int → (List PyData → Int → Prop) → Prop) : Rho → Int → (List PyData → Int → Prop) → Prop := fun ρ n P => Φ ρ n fun x n1 => Ψ ρ n1 fun y n2 => ∃ e, lim (x ++ y) = some e ∧ P e n2
/-- a def that draws: its deck first -/
def spW (K : PySem.W.Frag) (W : Addr → List PyData → Int → (PyData → Int → Prop) → Prop) : Sp := fun vs H Q _ => ∃ (S : List Addr) (d b c : Addr) (n : Int) (ws : List V) (ds : List PyData) (P : PyData → Int → Prop), vs = .ref d :: ws ∧ Ck S d b c n H ∧ (∀ a ∈ S, ∃ xs, H a = some (.lst xs)) ∧ DaAll K (hs S H) ws ds ∧ W d ds n P ∧
  ∀ v e n' H', P e n' → Same (msk d b H) (msk d b H') → Dk d b c n' H' → Da K (hs S H') v e → Q v H'
theorem Dr.pure {d b c : Addr} {n : Int} {H H' : Hp} (dk : Dk d b c n H) (s : Same H H') : Dr d b c n H n H' := (Dr.refl dk).more s
theorem Dr.then {d b c : Addr} {n1 n2 : Int} {H H1 H2 : Hp} (h : Dr d b c n1 H n1 H1) (k : Dr d b c n2 H1 n2 H2) : Dr d b c n2 H n2 H2 := ⟨k.dk, Int.le_refl _, h.sm.trans k.sm⟩
section
variable {K : PySem.W.Frag} {d : Addr}
theorem EvS.w {te : TE} {φ : Rho → Option PyData} (h : EvS K te φ) : EvW K d te (wP φ) := fun S H0 b c n G T ow ρ σ H P sm ⟨e, h1, h2⟩ Q q =>
  h _ _ G T ow ρ σ H e sm.co h1 Q fun v H' s hd => q v e n H' h2 (.pure sm.ck.dk s) hd
theorem EvF.w {te : TE} {φ : Rho → Option (List PyData)} (h : EvF K te φ) : EvFW K d te (wfP φ) := fun S H0 b c n G T ow ρ σ H P sm ⟨e, h1, h2⟩ Q q =>
  h _ _ G T ow ρ σ H e sm.co h1 Q fun p vs H' s hp hp' hd => q p vs e n H' h2 (.pure sm.ck.dk s) hp hp' hd
theorem EvFW.s {te : TE} {Φ : Rho → Int → (List PyData → Int → Prop) → Prop} (h : EvFW K d te Φ) : EvW K d te (wL Φ) := fun S H0 b c n G T ow ρ σ H P sm h1 Q q =>
  h S H0 b c n G T ow ρ σ H _ sm h1 Q fun p vs es n' H' hP dr hp hp' hd => q (.ref p) (.list es) n' H' hP dr (.lst (SqL.of (hs_at (sm.co.tr.out hp) hp')) (hd.mono hs_cons_sub))
theorem wa_nil : EvAW K d tNil wNil := fun S H0 b c n G T ow ρ σ H P sm h1 Q q => q [] [] n H h1 (.pure sm.ck.dk (Same.refl _)) .nil
/-- a list whose items are told: new, or of a slot -/
def EvLW (K : PySem.W.Frag) (d : Addr) (te : TE) (Φ : Rho → Int → (List PyData → Int → Prop) → Prop) : Prop := ∀ S H0 b c n G T ow ρ σ H P, SimW K S H0 d b c n G T ow ρ σ H → Φ ρ n P → ∀ Q : VK, (∀ p vs es n' H', P es n' → Dr d b c n' H n' H' → (p ≠ d ∧ p ≠ b ∧ p ≠ c) → H' p = some (.lst vs) → DaAll K (hs T H') vs es → Q (.ref p) H') → te σ H Q
theorem EvFW.l {te : TE} {Φ : Rho → Int → (List PyData → Int → Prop) → Prop} (h : EvFW K d te Φ) : EvLW K d te Φ := fun S H0 b c n G T ow ρ σ H P sm h1 Q q =>
  h S H0 b c n G T ow ρ σ H _ sm h1 Q fun p vs es n' H' hP dr hp hp' hd => q p vs es n' H' hP dr (sm.ck.dk.off hp) hp' (hd.mono hs_cons_sub)
theorem xw_draw {W : Addr → List PyData → Int → (PyData → Int → Prop) → Prop} {i : Nat} {ta : TA} {Φs : Rho → Int → (List PyData → Int → Prop) → Prop} {E : XK} (ha : EvAW K d ta Φs) : EvW K d (tCall (spW K W) [] E (tCons (tVar i) ta)) (wDraw d i W Φs) := fun S H0 b c n G T ow ρ σ H P sm ⟨h0, h1⟩ Q q => by
  obtain ⟨o, ho, eo⟩ := sm.co.slot i _ h0
  have eo' : o = some (.ref d) := eo
  subst eo'
  refine ⟨.ref d, ho, ha S H0 b c n G T ow ρ σ H _ sm h1 _ fun vs es n1 H1 hP d1 hvs => ?_⟩
  show spW K W ((.ref d :: vs) ++ []) H1 Q E
  rw [List.append_nil]
  exact ⟨T, d, b, c, n1, vs, es, P, rfl, (sm.draw d1).ck, fun a ha => ((sm.draw d1).co.lsT a ha).elim (fun z => absurd z List.not_mem_nil) id, hvs, hP, fun v e n' H' hP' hm hk hd => q v e n' H' hP' (d1.then ⟨hk, Int.le_refl _, hm⟩) hd⟩
/-! statements -/
def SimS (K : PySem.W.Frag) (S : List Addr) (H0 : Hp) (d b c : Addr) (n : Int) (G : Hp → Prop) (ρ : Rho) (σ : L2.St) (H : Hp) : Prop := ∃ T ow, SimW K S H0 d b c n G T ow ρ σ H
end
section
variable (K : PySem.W.Frag) (d : Addr)
def EndW (S : List Addr) (H0 : Hp) (b c : Addr) (G : Hp → Prop) (D : Ends) (n : Int) : Res → Prop
  | .nx ρ => ∀ σ H, SimS K S H0 d b c n G ρ σ H → D.nx σ H
  | .rt e => ∀ v H, Same (msk d b H0) (msk d b H) → Dk d b c n H → Da K (hs S H) v e → D.rt v H
  | .bk ρ => ∀ σ H, SimS K S H0 d b c n G ρ σ H → D.bk σ H
  | .ct ρ => ∀ σ H, SimS K S H0 d b c n G ρ σ H → D.ct σ H
  | .ex _ => False
def StW (ts : TS) (Ψ : Rho → Int → (Res → Int → Prop) → Prop) : Prop := ∀ S H0 b c n G ρ σ H P, SimS K S H0 d b c n G ρ σ H → Ψ ρ n P → ∀ D : Ends, (∀ r n', P r n' → EndW K d S H0 b c G D n' r) → ts D σ H
end
def twP (ψ : Rho → Option Res) : Rho → Int → (Res → Int → Prop) → Prop := fun ρ n P => ∃ r, ψ ρ = some r ∧ P r n
def thenW (r : Res) (n : Int) (Χ : Rho → Int → (Res → Int → Prop) → Prop) (P : Res → Int → Prop) : Prop := match r with
  | .nx ρ => Χ ρ n P
  | r => P r n
def twSeq (Ψ Χ : Rho → Int → (Res → Int → Prop) → Prop) : Rho → Int → (Res → Int → Prop) → Prop := fun ρ n P => Ψ ρ n fun r n1 => thenW r n1 Χ P
def twIf (β : Rho → Option Bool) (Ψ Χ : Rho → Int → (Res → Int → Prop) → Prop) : Rho → Int → (Res → Int → Prop) → Prop := fun ρ n P => ∃ c, β ρ = some c ∧ if c then Ψ ρ n P else Χ ρ n P
def twSet (τ : PyData → Rho → Option Rho) (Φ : Rho → Int → (PyData → Int → Prop) → Prop) : Rho → Int → (Res → Int → Prop) → Prop := fun ρ n P => Φ ρ n fun e n1 => ∃ ρ', τ e ρ = some ρ' ∧ P (.nx ρ') n1
def twOwn (i : Nat) (Φ : Rho → Int → (List PyData → Int → Prop) → Prop) : Rho → Int → (Res → Int → Prop) → Prop := fun ρ n P => Φ ρ n fun es n1 => P (.nx (ρ.set i (.own es))) n1
def twRet (Φ : Rho → Int → (PyData → Int → Prop) → Prop) : Rho → Int → (Res → Int → Prop) → Prop := fun ρ n P => Φ ρ n fun e n1 => P (.rt e) n1
def forW (B : PyData → Rho → Int → (Res → Int → Prop) → Prop) : List PyData → Rho → Int → (Res → Int → Prop) → Prop
  | [], ρ, n, P => P (.nx ρ) n
  | e :: es, ρ, n, P => B e ρ n fun r n1 => match r with
    | .nx ρ' => forW B es ρ' n1 P
    | .ct ρ' => forW B es ρ' n1 P
    | .bk ρ' => P (.nx ρ') n1
    | r => P r n1
def twFor (it : Rho → Option (List PyData)) (τ : PyData → Rho → Option Rho) (Ψ : Rho → Int → (Res → Int → Prop) → Prop) : Rho → Int → (Res → Int → Prop) → Prop := fun ρ n P => ∃ es, it ρ = some es ∧ forW (fun e ρ n P => ∃ ρ', τ e ρ = some ρ' ∧ Ψ ρ' n P) es ρ n P
section
variable {K : PySem.W.Frag} {d : Addr}
theorem StP.w {cl : Str → Addr} {E : XK} {ts : TS} {ψ : Rho → Option Res} (h : StP K cl E ts ψ) : StW K d ts (twP ψ) := fun S H0 b c n G ρ σ H P ⟨T, ow, sm⟩ ⟨r, h1, h2⟩ D q => by
  refine h (d :: b :: S) (hs ow H) G ρ σ H r ⟨T, ow, sm.pure⟩ h1 D ?_
  have e := q r n h2
  cases r with
  | nx ρ' => exact fun σ' H' ⟨T', ow', k⟩ => e σ' H' ⟨T', ow', sm.back k⟩
  | bk ρ' => exact fun σ' H' ⟨T', ow', k⟩ => e σ' H' ⟨T', ow', sm.back k⟩
  | ct ρ' => exact fun σ' H' ⟨T', ow', k⟩ => e σ' H' ⟨T', ow', sm.back k⟩
  | ex o => exact e.elim
  | rt x =>
    intro v H' s hv
    have dno : d ∉ ow := fun z => (sm.new d z).2.1 rfl
    have bno : b ∉ ow := fun z => (sm.new b z).2.2.1 rfl
    have cno : c ∉ ow := fun z => (sm.new c z).2.2.2 rfl
    refine e v H' ?_ ?_ (hv.mono (msk_to_hs fun a ha => by simp [ha]))
    · intro a o ea
      have e1 := sm.old a o ea
      obtain ⟨z1, z2, z3⟩ := msk_some e1
      obtain ⟨_, _, y3⟩ := msk_some ea
      have : a ∉ ow := fun z => by
        rw [(sm.new a z).1] at y3
        cases y3
      rw [msk_ne z1 z2]
      exact s _ _ (hs_at this z3)
    · obtain ⟨e1, e2, e3, e4, e5, ⟨bs, e6⟩, ⟨cs, e7, e8⟩⟩ := sm.ck.dk
      exact ⟨e1, e2, e3, e4, s _ _ (hs_at dno e5), ⟨bs, s _ _ (hs_at bno e6)⟩, ⟨cs, s _ _ (hs_at cno e7), e8⟩⟩
theorem sw_seq {t u : TS} {Ψ Χ : Rho → Int → (Res → Int → Prop) → Prop} (h : StW K d t Ψ) (k : StW K d u Χ) : StW K d (tSeq t u) (twSeq Ψ Χ) := fun S H0 b c n G ρ σ H P sm h1 D q => by
  refine h S H0 b c n G ρ σ H _ sm h1 _ fun r n1 hr => ?_
  cases r with
  | nx ρ' => exact fun σ' H' sm' => k S H0 b c n1 G ρ' σ' H' P sm' hr D q
  | rt e => exact q _ _ hr
  | bk ρ' => exact q _ _ hr
  | ct ρ' => exact q _ _ hr
  | ex o => exact q _ _ hr
theorem SimW.putV {K : PySem.W.Frag} {S : List Addr} {H0 : Hp} {d b c : Addr} {n : Int} {G : Hp → Prop} {T ow : List Addr} {ρ ρ' : Rho} {σ σ' : L2.St} {H : Hp} (h : SimW K S H0 d b c n G T ow ρ σ H) (k : SimO K [] (fun _ => none) G T ow ρ' σ' H) : SimW K S H0 d b c n G T ow ρ' σ' H := ⟨k, h.ck, h.old, h.new, h.sub, h.trS⟩
theorem sw_set {te : TE} {g : TG} {js : List Nat} {Φ : Rho → Int → (PyData → Int → Prop) → Prop} {τ : PyData → Rho → Option Rho} (h : EvW K d te Φ) (hg : TgP K g js τ) : StW K d (tAsg te g) (twSet τ Φ) := fun S H0 b c n G ρ σ H P ⟨T, ow, sm⟩ h1 D q =>
  h S H0 b c n G T ow ρ σ H _ sm h1 _ fun v e n1 H1 ⟨ρ', h2, h3⟩ d1 hv => hg _ _ G T ow ρ σ H1 v e ρ' (sm.draw d1).co hv h2 _ fun σ' sm' _ => q _ n1 h3 σ' H1 ⟨T, ow, (sm.draw d1).putV sm'⟩
/-- for -/
theorem SimW.weak {K : PySem.W.Frag} {S : List Addr} {H0 : Hp} {d b c : Addr} {n : Int} {G G' : Hp → Prop} {T ow : List Addr} {ρ : Rho} {σ : L2.St} {H : Hp} (h : SimW K S H0 d b c n G T ow ρ σ H) (mo : ∀ H H', Same H H' → G' H → G' H') (hg : G' (hs T H)) : SimW K S H0 d b c n G' T ow ρ σ H := ⟨h.co.weak mo hg, h.ck, h.old, h.new, h.sub, h.trS⟩
theorem for_core {g : TG} {tb : TS} {js : List Nat} {τ : PyData → Rho → Option Rho} {Ψ : Rho → Int → (Res → Int → Prop) → Prop} (hg : TgP K g js τ) (hb : StW K d tb Ψ) {S : List Addr} {H0 : Hp} {b c : Addr} {n : Int} {G : Hp → Prop} {T ow : List Addr} {ρ : Rho} {σ : L2.St} {H1 : Hp} {P : Res → Int → Prop} {D : Ends} {J : It} {es : List PyData}
    (sm : SimW K S H0 d b c n G T ow ρ σ H1) (it : ItOk K T H1 J es) (h2 : forW (fun e ρ n P => ∃ ρ', τ e ρ = some ρ' ∧ Ψ ρ' n P) es ρ n P) (q : ∀ r n', P r n' → EndW K d S H0 b c G D n' r) :
    ∃ W : Nat → Nat → L2.St → Hp → Prop, (∃ m, W 0 m σ H1) ∧ ∀ i m σ H, W i m σ H → (J.stop i H ∧ D.nx σ H) ∨ (J.go i H ∧ ∃ N : L2.St → Hp → Prop, (∀ σ' H', N σ' H' → ∃ m', m' < m ∧ W (i + 1) m' σ' H') ∧ ∀ x H', J.yld i H x H' → g x σ H' fun σ2 H2 => tb { D with nx := N, ct := N, bk := D.nx } σ2 H2) := by
  obtain ⟨F, Gw, Yw, mo, f0, wk, hG, hY⟩ := it
  have wkn : ∀ {ρ' : Rho} {σ' : L2.St} {H' : Hp} {n' : Int}, SimS K S H0 d b c n' (fun X => G X ∧ F X) ρ' σ' H' → SimS K S H0 d b c n' G ρ' σ' H' := fun ⟨T', ow', sm'⟩ => ⟨T', ow', sm'.weak sm.co.mo sm'.co.fr.1⟩
  refine for_it wk (fun i σ' H' => ∃ ρ' n', SimS K S H0 d b c n' (fun X => G X ∧ F X) ρ' σ' H' ∧ forW (fun e ρ n P => ∃ ρ', τ e ρ = some ρ' ∧ Ψ ρ' n P) (es.drop i) ρ' n' P) ?_ ?_ ?_ ?_
  · exact ⟨ρ, n, ⟨T, ow, sm.weak (fun H H' s h => ⟨sm.co.mo _ _ s h.1, mo _ _ s h.2⟩) ⟨sm.co.fr, f0⟩⟩, h2⟩
  · rintro i σ' H' _ ⟨ρ', n', ⟨T', ow', sm'⟩, _⟩
    exact hG _ _ sm'.co.fr.2
  · rintro i x σ' H2 H3 hlt ⟨ρ', n', ⟨T', ow', sm'⟩, e4⟩ y
    obtain ⟨s3, e, he3, hx⟩ := hY _ H2 i x H3 sm'.co.fr.2 sm'.co.tr hlt y
    have dr : es.drop i = e :: es.drop (i + 1) := by
      rw [List.drop_eq_getElem_cons hlt]
      congr 1
      rw [List.getElem?_eq_getElem hlt] at he3
      exact Option.some.inj he3
    rw [dr] at e4
    obtain ⟨ρ2, k3, k4⟩ := e4
    refine hg _ _ _ _ ow' _ _ H3 x e ρ2 (sm'.mono s3).co hx k3 _ fun σ2 sm4 _ => hb S H0 b c n' _ ρ2 σ2 H3 _ ⟨T', ow', (sm'.mono s3).putV sm4⟩ k4 _ fun r1 n1 k2 => ?_
    cases r1 with
    | nx ρ3 => exact fun σ5 H5 sm5 => ⟨ρ3, n1, sm5, k2⟩
    | ct ρ3 => exact fun σ5 H5 sm5 => ⟨ρ3, n1, sm5, k2⟩
    | bk ρ3 => exact fun σ5 H5 sm5 => q _ _ k2 σ5 H5 (wkn sm5)
    | rt x => exact q _ _ k2
    | ex o => exact q _ _ k2
  · rintro σ' H' ⟨ρ', n', sm', e4⟩
    rw [List.drop_length] at e4
    exact q _ _ e4 σ' H' (wkn sm')
theorem sw_for {wi : TI} {g : TG} {tb : TS} {js : List Nat} {it : Rho → Option (List PyData)} {τ : PyData → Rho → Option Rho} {Ψ : Rho → Int → (Res → Int → Prop) → Prop} (hi : ItP K wi it) (hg : TgP K g js τ) (hb : StW K d tb Ψ) : StW K d (tFor wi g tb) (twFor it τ Ψ) := fun S H0 b c n G ρ σ H P ⟨T, ow, sm⟩ ⟨es, h1, h2⟩ D q =>
  hi _ _ G T ow ρ σ H es sm.co h1 _ fun J H1 s1 ok => for_core hg hb (sm.mono s1) ok h2 q
end
end Pb

set_option Elab.async false
set_option linter.all false
set_option maxRecDepth 100000
namespace Pb
open PySem PySem.Spec PyProof.Rows L2
/-! ### repr -/
/-! ### the law -/
section
variable {P : Program} {w : World} {K : PySem.W.Frag} {mg : Str → Option Value} {base : Heap}
def rhoL (n : Nat) (d : Addr) : Rho := .no :: .deck d :: List.replicate (n - 2) .no
theorem fn_law {x qual : Str} {st : Stmt} {f : Addr} {fd : FuncData} {N : List Str} {k : Nat} {Ψ : Addr → Rho → Int → (Res → Int → Prop) → Prop} (F : Fun K x qual st f fd) (S : FnScope N ["_law_script"] (defScope st)) (hN : 2 ≤ N.length)
    (hbody : ∀ (cdv : Value) (A : Around) (fr : List Env) (t : Shared) (H : Hp), (A.deeper (envOfC qual (defScope st) t.heap.objs.size f cdv)).guards = some [] → Room k (A.deeper (envOfC qual (defScope st) t.heap.objs.size f cdv)) →
      ∃ r, PSs (cxOf CX0 P w K mg base N qual (defScope st) f cdv A fr t H E0).nox (defBody st) (tSeq (tAsg (tCall (spDeck K) [] E0 (tCons (tVar 0) tNil)) (gName 1)) r) ∧ ∀ d, StW K d r (Ψ d))
    (hP : ∀ d, Ψ d (rhoL N.length d) 0 fun r _ => r = .rt (.bool true)) : RunG P w K mg base (k + 1) f fd ["_law_script"] (spLaw K) := by
  refine runG_of F S (fun vs H Q E h => ?_) (fun cdv A fr t H vs Q hg hr h => ?_)
  · obtain ⟨a, ns, rfl, _⟩ := h
    rfl
  · obtain ⟨a, ns, rfl, hS, hl, q⟩ := h
    obtain ⟨r, h1, h2⟩ := hbody cdv A fr t H hg hr
    refine ⟨_, h1, ?_⟩
    refine ⟨.ref a, rfl, a, ns, rfl, hS, hl, fun d b c H1 dk hd hb hs' => ?_⟩
    refine h2 d [] (fun _ => none) b c 0 (fun _ => True) (rhoL N.length d) _ H1 _ ⟨[d, b], [], ?_⟩ (hP d) _ fun r n' hr' => ?_
    · refine ⟨?_, Ck.two dk, fun _ _ e => (by
        have := (msk_some e).2.2
        cases this), fun a ha => absurd ha List.not_mem_nil, fun a ha => absurd ha List.not_mem_nil, fun a ha => absurd ha List.not_mem_nil⟩
      obtain ⟨m, hm⟩ : ∃ m, N.length = m + 2 := ⟨N.length - 2, by omega⟩
      have e1 : start N [V.ref a] = some (.ref a) :: none :: List.replicate m none := by
        unfold L2.start
        rw [hm]
        show [some (V.ref a)] ++ List.replicate (m + 1) none = _
        rw [List.replicate_succ]
        rfl
      have e2 : rhoL N.length d = .no :: .deck d :: List.replicate m .no := by
        unfold rhoL
        rw [hm]
        rfl
      rw [e1, e2]
      refine { len := by simp, slot := ?slot, inj := ?inj, old := fun _ _ e => (by cases e), new := fun _ _ => rfl, sub := fun _ h => absurd h List.not_mem_nil, owT := fun _ h => absurd h List.not_mem_nil, tr := (Ck.two dk).tr, trS := fun _ h => absurd h List.not_mem_nil, mo := fun _ _ _ _ => trivial, fr := trivial, lsT := ?lsT }
      case lsT =>
        intro x hx
        simp only [List.mem_cons, List.not_mem_nil, or_false] at hx
        rcases hx with rfl | rfl
        · exact .inr ⟨_, dk.at_d⟩
        · obtain ⟨bs, e⟩ := dk.at_b
          exact .inr ⟨_, e⟩
      case slot =>
        intro i s e
        match i, e with
        | 0, e =>
          cases e
          exact ⟨_, rfl, trivial⟩
        | 1, e =>
          cases e
          exact ⟨_, rfl, rfl⟩
        | i + 2, e =>
          have e' : (List.replicate m Sl.no)[i]? = some s := e
          rw [List.getElem?_replicate] at e'
          split at e'
          · rename_i hlt
            cases e'
            refine ⟨none, ?_, trivial⟩
            show (List.replicate m (none : Option V))[i]? = some none
            rw [List.getElem?_replicate, if_pos hlt]
          · cases e'
      case inj =>
        intro i j es es' _ e
        match i, e with
        | 0, e => cases e
        | 1, e => cases e
        | i + 2, e =>
          have e' : (List.replicate m Sl.no)[i]? = some (.own es) := e
          rw [List.getElem?_replicate] at e'
          split at e'
          · cases e'
          · cases e'
    · subst hr'
      intro v H' _ _ hv
      cases hv
      exact q H'
end
/-! ### the earlier contracts as transformers -/
theorem fnok_weaker {P : Program} {w : World} {K : PySem.W.Frag} {mg : Str → Option Value} {base : Heap} {cx : CXT} {k : Nat} {f : Addr} {fd : FuncData} {ps : List Str} {sp sp' : Sp} (h : FnOk P w K mg base cx k f fd ps sp) (hs' : ∀ vs H Q E, sp' vs H Q E → sp vs H Q E) : FnOk P w K mg base cx k f fd ps sp' :=
  ⟨fun vs H Q E z => h.len vs H Q E (hs' vs H Q E z), fun A outer s H args us vs Q E hr e0 hb rv hsp => h.run A outer s H args us vs Q E hr e0 hb rv (hs' vs H Q E hsp)⟩
theorem Cl.weaker {P : Program} {w : World} {K : PySem.W.Frag} {mg : Str → Option Value} {base : Heap} {k : Nat} {x : Str} {ps : List Str} {sp sp' : Sp} (h : Cl P w K mg base k x ps sp) (hs' : ∀ vs H Q E, sp' vs H Q E → sp vs H Q E) : Cl P w K mg base k x ps sp' := by
  obtain ⟨f, fd, h1, h2, h3, h4⟩ := h.ex
  exact ⟨f, fd, fnok_weaker h1 hs', h2, h3, h4⟩
def WNext : Addr → List PyData → Int → (PyData → Int → Prop) → Prop := fun _ ds n P => ∃ m : Int, ds = [.int m] ∧ n < 2 ^ 50 ∧ 0 < m ∧ m < 1073741824 ∧ ∀ v n' : Int, 0 ≤ v → v < m → n' ≤ n + 1 → P (.int v) n'
def WOdd : Addr → List PyData → Int → (PyData → Int → Prop) → Prop := fun _ ds n P => ds = [] ∧ n < 2 ^ 50 ∧ ∀ e n', e ∈ oddL → n' ≤ n + 1 → P e n'
def WPart : Addr → List PyData → Int → (PyData → Int → Prop) → Prop := fun _ ds n P => ∃ (x : PyData) (ns : List Int) (sh : Int), ds = [x, .int sh] ∧ (x = .list (ns.map .int) ∨ x = .tuple (ns.map .int)) ∧ n < 2 ^ 50 ∧ ns.length ≤ 1000 ∧ ∀ (ms : List Int) n', ms.Sublist ns → n' ≤ n + ns.length → P (offD ms) n'
section
variable {K : PySem.W.Frag}
theorem one_arg {H : Hp} {ws : List V} {x : PyData} (h : DaAll K H ws [x]) : ∃ v, ws = [v] ∧ Da K H v x := by
  cases h with
  | cons h1 h2 =>
    cases h2
    exact ⟨_, rfl, h1⟩
theorem SqT.apart {S T : List Addr} {H : Hp} {a : Addr} {xs : List V} (hl : ∀ a ∈ S, ∃ xs, H a = some (.lst xs)) (h1 : SqT K (hs T H) a xs) : SqT K (hs S H) a xs := by
  rcases h1 with (h1 | ⟨o, h1⟩) | h1
  · refine .inl (.inl (hs_at (fun z => ?_) (hs_some h1).2))
    obtain ⟨xs, e⟩ := hl a z
    rw [(hs_some h1).2] at e
    cases e
  · refine .inl (.inr ⟨o, hs_at (fun z => ?_) (hs_some h1).2⟩)
    obtain ⟨xs, e⟩ := hl a z
    rw [(hs_some h1).2] at e
    cases e
  · exact .inr h1
theorem Kvs.apart {S T : List Addr} {H : Hp} (hl : ∀ a ∈ S, ∃ xs, H a = some (.lst xs)) : ∀ {ks : List (Key × V)} {kvs : List (PyData × PyData)}, Kvs K (hs T H) ks kvs → Kvs K (hs S H) ks kvs
  | _, _, .nil => .nil
  | _, _, .cons h k => .cons (by
    cases h with
    | non => exact .non
    | int i => exact .int i
    | tup ns h => exact .tup ns (SqT.apart hl h)) (Kvs.apart hl k)
mutual
theorem Da.apart {S T : List Addr} {H : Hp} (hl : ∀ a ∈ S, ∃ xs, H a = some (.lst xs)) : ∀ (e : PyData) (v : V), Da K (hs T H) v e → nl e = true → Da K (hs S H) v e
  | .none, _, h, _ => by
    cases h
    exact .non
  | .bool b, _, h, _ => by
    cases h
    exact .bl b
  | .int i, _, h, _ => by
    cases h
    exact .int i
  | .str x, _, h, _ => by
    cases h
    exact .str x
  | .list ds, _, _, hn => by simp [nl] at hn
  | .tuple ds, _, h, hn => by
    cases h with
    | @tup a xs _ h1 h2 =>
      refine .tup ?_ (DaAll.apart hl ds _ h2 (by simpa only [nl] using hn))
      rcases h1 with (h1 | ⟨o, h1⟩) | h1
      · refine .inl (.inl (hs_at (fun z => ?_) (hs_some h1).2))
        obtain ⟨xs, e⟩ := hl a z
        rw [(hs_some h1).2] at e
        cases e
      · refine .inl (.inr ⟨o, hs_at (fun z => ?_) (hs_some h1).2⟩)
        obtain ⟨xs, e⟩ := hl a z
        rw [(hs_some h1).2] at e
        cases e
      · exact .inr h1
  | .dict _, _, h, _ => by
    cases h with
    | @emp a h1 =>
      refine .emp (hs_at (fun z => ?_) (hs_some h1).2)
      obtain ⟨xs, e⟩ := hl a z
      rw [(hs_some h1).2] at e
      cases e
    | @dic a o ks _ h1 h2 =>
      refine .dic (hs_at (fun z => ?_) (hs_some h1).2) (Kvs.apart hl h2)
      obtain ⟨xs, e⟩ := hl a z
      rw [(hs_some h1).2] at e
      cases e
theorem DaAll.apart {S T : List Addr} {H : Hp} (hl : ∀ a ∈ S, ∃ xs, H a = some (.lst xs)) : ∀ (es : List PyData) (vs : List V), DaAll K (hs T H) vs es → nlAll es = true → DaAll K (hs S H) vs es
  | [], _, h, _ => by
    cases h
    exact .nil
  | e :: es, _, h, hn => by
    simp only [nlAll, Bool.and_eq_true] at hn
    cases h with
    | cons h1 h2 => exact .cons (Da.apart hl e _ h1 hn.1) (DaAll.apart hl es _ h2 hn.2)
end
theorem ls_dr {S : List Addr} {d b c : Addr} {n n' N : Int} {H H' : Hp} (ls : ∀ a ∈ S, ∃ xs, H a = some (.lst xs)) (dr : Dr d b c N H n' H') : ∀ a ∈ S, ∃ xs, H' a = some (.lst xs) := fun a ha => by
  by_cases z1 : a = d
  · rw [z1]
    exact ⟨_, dr.dk.at_d⟩
  · by_cases z2 : a = b
    · rw [z2]
      obtain ⟨bs, e⟩ := dr.dk.at_b
      exact ⟨_, e⟩
    · obtain ⟨xs, e⟩ := ls a ha
      have := dr.sm a _ (by rw [msk_ne z1 z2]; exact e)
      rw [msk_ne z1 z2] at this
      exact ⟨xs, this⟩
theorem apart {S : List Addr} {d b c : Addr} {n n' N : Int} {H H' : Hp} {v : V} {e : PyData} (ck : Ck S d b c n H) (ls : ∀ a ∈ S, ∃ xs, H a = some (.lst xs)) (dr : Dr d b c N H n' H') (h : Da K (msk d b H') v e) (hn : nl e = true) : Da K (hs S H') v e := by
  rw [msk_hs] at h
  exact Da.apart (ls_dr (c := c) (n := n) ls dr) e v h hn
theorem w_next : ∀ vs H Q E, spW K WNext vs H Q E → spNext vs H Q E := by
  rintro vs H Q E ⟨S, d, b, c, n, ws, ds, P, rfl, ck, ls, da, ⟨m, rfl, h1, h2, h3, h4⟩, q⟩
  obtain ⟨v, rfl, hv⟩ := one_arg da
  cases hv
  exact ⟨d, b, c, n, m, rfl, ck.dk, by omega, h2, h3, fun v n' H' g1 g2 dr => q _ _ n' H' (h4 v n' g1 g2 dr.le) dr.sm dr.dk (.int _)⟩
theorem w_odd : ∀ vs H Q E, spW K WOdd vs H Q E → spOdd K vs H Q E := by
  rintro vs H Q E ⟨S, d, b, c, n, ws, ds, P, rfl, ck, ls, da, ⟨rfl, h1, h4⟩, q⟩
  cases da
  exact ⟨S, d, b, c, n, rfl, ck, h1, fun v e n' H' g1 dr hv => q v e n' H' (h4 e n' g1 dr.le) dr.sm dr.dk hv⟩
end
end Pb

set_option Elab.async false
set_option linter.all false
set_option maxRecDepth 100000
namespace Pb
open PySem PySem.Spec PyProof.Rows L2
/-! ### calls by a relation, tests that draw, comprehensions that draw -/
def wbP (β : Rho → Option Bool) : Rho → Int → (Bool → Int → Prop) → Prop := fun ρ n P => ∃ c, β ρ = some c ∧ P c n
section
variable (K : PySem.W.Frag) (d : Addr)
def TeW (tt : TT) (Β : Rho → Int → (Bool → Int → Prop) → Prop) : Prop := ∀ S H0 b c n G T ow ρ σ H P, SimW K S H0 d b c n G T ow ρ σ H → Β ρ n P → ∀ Q : Bool → Hp → Prop, (∀ x n' H', P x n' → Dr d b c n' H n' H' → Q x H') → tt σ H Q
end
section
variable {K : PySem.W.Frag} {d : Addr}
theorem TeP.w {tt : TT} {β : Rho → Option Bool} (h : TeP K tt β) : TeW K d tt (wbP β) := fun S H0 b c n G T ow ρ σ H P sm ⟨x, h1, h2⟩ Q q => h _ _ G T ow ρ σ H x sm.co h1 _ fun H1 s1 => q x n H1 h2 (.pure sm.ck.dk s1)
/-- [e for x in ..], e drawn, over what is pure -/
def lcW (τ : PyData → Rho → Option Rho) (β : Rho → Option Bool) (Φ : Rho → Int → (PyData → Int → Prop) → Prop) (ρ : Rho) : List PyData → Int → (List PyData → Int → Prop) → Prop
  | [], n, P => P [] n
  | e :: es, n, P => ∃ ρ', τ e ρ = some ρ' ∧ ∃ c, β ρ' = some c ∧ if c then Φ ρ' n fun y n1 => lcW τ β Φ ρ es n1 fun ys n2 => P (y :: ys) n2 else lcW τ β Φ ρ es n P
def wfLc (vs : List Nat) (it : Rho → Option (List PyData)) (τ : PyData → Rho → Option Rho) (β : Rho → Option Bool) (Φ : Rho → Int → (PyData → Int → Prop) → Prop) : Rho → Int → (List PyData → Int → Prop) → Prop := fun ρ n P => ∃ es, (it ρ).bind lim = some es ∧ lcW τ β Φ (wipeR ρ vs) es n P
def twFrz (i : Nat) (Ψ : Rho → Int → (Res → Int → Prop) → Prop) : Rho → Int → (Res → Int → Prop) → Prop := fun ρ n P => ∃ es, ro ρ i = some es ∧ Ψ (ρ.set i (.val (.list es))) n P
end
end Pb

set_option Elab.async false
set_option linter.all false
set_option maxRecDepth 100000
namespace Pb
open PySem PySem.Spec PyProof.Rows L2
section
/-- the law's call, from its promise where nothing is being shown -/
theorem law_runS {P : Program} {w : World} {K : PySem.W.Frag} {mg mb : Str → Option Value} {k : Nat} {fa a : Addr} {fd : FuncData} {x : Str} {sp : Sp} {t : Shared} {us : List Value} {ns : List Int}
    (hK : K.In t.heap) (gl : t.heap.Ns mainGlobals mg) (bl : t.heap.Ns builtinsNs mb) (bb : ∀ y : Str, y ≠ "__name__" → mb y = bootBuiltins y) (lim : t.heap.NoLimit) (sy : ∃ mm, t.heap.Ns sysModules mm) (gn : t.gens = #[])
    (hobj : t.heap.get? a = some { cls := .type "list", data := .seq us.toArray }) (hi : IntsAre us ns) (hz : ns.length ≤ sizeLine) (hr : Room k callerA)
    (F : ∀ base : Heap, K.In base → base.Ns mainGlobals mg → (∃ mm, base.Ns sysModules mm) → RunG P w K mg base k fa fd [x] sp) (hbind : ∀ (s : Shared) (u : Value), BindsTo s fd ⟨[u], []⟩ [(x, u)])
    (hsp : ∀ H : Hp, Only H → SqL K H a (ns.map V.int) → sp [.ref a] H (fun v _ => v = .bl true) E0) :
    codeAny (model P w) callerA (.call (.ref fa) ⟨[.ref a], []⟩) (fun r t' => r = .ok (.ret (.bool true)) ∧ OldK t.heap t'.heap ∧ t'.os = t.os ∧ AllBare t'.gens) t := by
  have rv := vals_ints hi
  have hlen := hi.length
  have main : ∀ H : Hp, Only H → SqL K H a (ns.map V.int) → HOk P w H t.heap → (∀ b, H b ≠ none → b = a) → (H a ≠ none → K.lookup a = none) →
      codeAny (model P w) callerA (.call (.ref fa) ⟨[.ref a], []⟩) (fun r t' => r = .ok (.ret (.bool true)) ∧ OldK t.heap t'.heap ∧ t'.os = t.os ∧ AllBare t'.gens) t := by
    intro H hO hS hok onlyA notK
    have keepB : ∀ {b : Addr} {ob : Obj}, t.heap.get? b = some ob → H b = none → (hidT t.heap H).get? b = some ob := fun e z => hidT_get e z
    have dictOut : ∀ {b : Addr} {ob : Obj} {es : Array DictEntry} {ep : Nat}, t.heap.get? b = some ob → ob.data = .dict es ep → H b = none := fun {b ob es ep} e dd => by
      cases z : H b with
      | none => rfl
      | some u =>
        obtain rfl : b = a := onlyA b (by rw [z]; simp)
        rw [hobj] at e
        cases e
        cases (show Data.seq us.toArray _ = Data.dict es ep from dd)
    have nsB : ∀ {b : Addr} {m : Str → Option Value}, t.heap.Ns b m → (hidT t.heap H).Ns b m := fun {b m} ⟨ob, es, ep, e, dd, rest⟩ => ⟨ob, es, ep, keepB e (dictOut e dd), dd, rest⟩
    have kB : K.In (hidT t.heap H) := fun b ob e => keepB (hK b ob e) (by
      cases z : H b with
      | none => rfl
      | some u =>
        obtain rfl : b = a := onlyA b (by rw [z]; simp)
        rw [notK (by rw [z]; simp)] at e
        cases e)
    have modB : Mod K mg (hidT t.heap H) := ⟨kB, nsB gl, ⟨mb, nsB bl, bb⟩, lim.elim fun mc z => ⟨mc, nsB z.1, z.2⟩⟩
    have env : Env0 P w K mg (hidT t.heap H) callerA [] t H := ⟨rfl, modB, fun b ob e => of_hidT e, Nat.le_of_eq (hidT_size _ _), trivial, fun b hb => absurd (show b ∈ ([] : List Addr) from hb) List.not_mem_nil, hok, .of_eq gn⟩
    refine codeAny_mono (F _ kB (nsB gl) (sy.elim fun mm z => ⟨mm, nsB z⟩) callerA [] t H ⟨[.ref a], []⟩ [.ref a] [.ref a] _ rfl hr env (hbind t (.ref a)) (.cons rfl .nil) (hsp H hO hS)) fun r t' res => ?_
    cases r with
    | error e => exact res.elim
    | ok fl =>
      cases fl with
      | ret u =>
        obtain ⟨v, H', hos, hbare, un, hok', rel, veq⟩ := res
        obtain rfl : v = .bl true := veq
        obtain rfl : u = Value.bool true := rel
        refine ⟨rfl, OldK.of_keep fun b ob e => ?_, hos, hbare⟩
        cases z : H b with
        | none => exact un.keep b ob e z (fun y => absurd (show b ∈ ([] : List Addr) from y) List.not_mem_nil) List.not_mem_nil
        | some u =>
          rcases hO b with y | ⟨o1, xs, y⟩
          · rw [z] at y
            cases y
          · have e1 := (hok b _ y).1
            have e2 := (hok' b _ (un.frzs b o1 _ y)).1
            rw [e] at e1
            cases e1
            exact e2
      | next => exact res.elim
      | brk => exact res.elim
      | cont => exact res.elim
  cases hk : K.lookup a with
  | some ob =>
    have e := hK a ob hk
    rw [hobj] at e
    cases e
    exact main (fun _ => none) (fun _ => .inl rfl) (.inr ⟨_, us.toArray, _, hk, rfl, rfl, rfl, by rw [List.size_toArray, hlen]; exact hz, by simpa using rv⟩) (fun b u z => nomatch (show (none : Option HO) = some u from z)) (fun b z => absurd rfl z) fun z => absurd rfl z
  | none =>
    refine main (fun b => if b = a then some (.frz { cls := .type "list", data := .seq us.toArray } (.lst (ns.map V.int))) else none) (fun b => ?_) (.inl (.inr ⟨_, if_pos rfl⟩)) (fun b u z => ?_) (fun b z => Decidable.byContradiction fun nb => z (if_neg nb)) fun _ => hk
    · by_cases hb : b = a
      · exact .inr ⟨_, _, if_pos hb⟩
      · exact .inl (if_neg hb)
    · by_cases hb : b = a
      · cases (if_pos hb).symm.trans z
        subst hb
        exact ⟨hobj, by rw [List.length_map]; exact hz, us, _, rv, hobj⟩
      · cases (if_neg hb).symm.trans z
theorem walk_S {l : PySem.W.OpenLaw} {n k : Nat} {q : Program} {loose : List Str} {XP : (Str → Option Value) → Heap → Prop} {YP : World → Heap → Prop} {d : DefRec} {K : Params → PySem.W.Frag} {sp : World → Sp} {x : Str}
    (hq : importsNone q = true) (hn : l.most = some n) (hn2 : n ≤ sizeLine) (hdf : d.params.defaults = []) (hr : Room k callerA) (hY : ∀ (w : World) (h : Heap), YP w h → (K w.params).In h)
    (F : ∀ (w : World) (mg : Str → Option Value) (fa : Addr) (h : Heap), (K w.params).In h → h.Ns mainGlobals mg → mg d.name = some (.ref fa) →
      ∃ fd : FuncData, (∀ (s : Shared) (u : Value), BindsTo s fd ⟨[u], []⟩ [(x, u)]) ∧ ∀ base : Heap, (K w.params).In base → base.Ns mainGlobals mg → (∃ mm, base.Ns sysModules mm) → RunG l.prog w (K w.params) mg base k fa fd [x] (sp w))
    (hsp : ∀ (w : World) (H : Hp) (a : Addr) (ns : List Int), ns.length ≤ n → Only H → SqL (K w.params) H a (ns.map V.int) → sp w [.ref a] H (fun v _ => v = .bl true) E0) :
    PySem.W.WalkO q loose XP YP l.row.toRowW d [] (fun f vs => PySem.call f vs) := by
  refine Att.attach_call hn hdf fun w t0 t mg mb fa ob pm cd doc a us ns G Y _ _ _ hmg hobj hi hlen hg => ?_
  have hK := hY w _ Y
  obtain ⟨fd, hb, hF⟩ := F w mg fa _ hK G.T.g hmg
  exact law_runS hK G.T.g G.T.b G.T.builtins G.T.nolimit ((G.T.seer hq).mods.elim fun mm z => ⟨mm, z.1⟩) hg hobj hi (Nat.le_trans hlen hn2) hr hF hb fun H hO hS => hsp w H a ns hlen hO hS
end
section
variable {X : Cx} {pins : List (Addr × Obj)} {σ : L2.St} {H : Hp} {s : Shared}
mutual
theorem Da.readsS (I : Inv X pins σ H s) (hb : ∃ mm, X.base.Ns sysModules mm) : ∀ (d : PyData) (v : V) (u : Value), okD d = true → Da X.K H v d → RelV v u → ∃ as, Reads s.heap u d as ∧ sysModules ∉ as
  | .none, _, _, _, h, r => by
    cases h
    cases r
    exact ⟨_, Reads.none, List.not_mem_nil⟩
  | .bool b, _, _, _, h, r => by
    cases h
    cases r
    exact ⟨_, Reads.bool b, List.not_mem_nil⟩
  | .int i, _, _, _, h, r => by
    cases h
    obtain ⟨t, rfl⟩ := r
    exact ⟨_, Reads.int i t, List.not_mem_nil⟩
  | .str x, _, _, _, h, r => by
    cases h
    obtain ⟨t, rfl⟩ := r
    exact ⟨_, Reads.str x t, List.not_mem_nil⟩
  | .list ds, _, _, ok, h, r => by
    cases h with
    | lst hs ha =>
      cases r
      obtain ⟨its, rv, ⟨o, n, ho, hc, _, hd⟩, _⟩ := I.list hs
      obtain ⟨as, hr, hn⟩ := Da.readsAllS I hb ds _ its (by simp only [okD, Bool.and_eq_true] at ok; exact ok.2) ha rv
      refine ⟨_, Reads.list ho hc hd hr, fun z => ?_⟩
      rcases List.mem_cons.mp z with z | z
      · subst z
        obtain ⟨mm, ob, es, ep, e1, e2, _⟩ := hb
        have e3 := I.bk _ _ e1
        rw [ho] at e3
        cases e3
        rw [hd] at e2
        cases e2
      · exact hn z
  | .tuple ds, _, _, ok, h, r => by
    cases h with
    | tup hs ha =>
      cases r
      obtain ⟨its, rv, ⟨o, ho, hc, n, hd⟩, _⟩ := I.tuple hs
      obtain ⟨as, hr, hn⟩ := Da.readsAllS I hb ds _ its (by simp only [okD, Bool.and_eq_true] at ok; exact ok.2) ha rv
      exact ⟨_, Reads.tuple ho hc hd hr, hn⟩
  | .dict kvs, _, _, ok, h, r => by
    cases h with
    | emp h1 =>
      cases r
      have ns := noSys I h1
      obtain ⟨_, _, vs, k, o, es, ep, e1, e2, e3, _, e4, _⟩ := I.hok _ _ h1
      cases k
      have e5 : es.toList = [] := by
        generalize es.toList = l at e4
        cases e4
        rfl
      refine ⟨_, Reads.dict (kvs := []) (as := []) (bs := []) e1 e2.1 e3 (by rw [e5]; exact .nil) (by rw [e5]; exact .nil), fun z => ?_⟩
      rcases List.mem_cons.mp z with z | z
      · rw [← z] at ns
        simp at ns
      · exact absurd z List.not_mem_nil
    | dic h1 h2 => cases ok
theorem Da.readsAllS (I : Inv X pins σ H s) (hb : ∃ mm, X.base.Ns sysModules mm) : ∀ (ds : List PyData) (vs : List V) (us : List Value), okAll ds = true → DaAll X.K H vs ds → Vals vs us → ∃ as, ReadsAll s.heap us ds as ∧ sysModules ∉ as
  | [], _, _, _, h, r => by
    cases h
    cases r
    exact ⟨_, ReadsAll.nil, List.not_mem_nil⟩
  | d :: ds, _, _, ok, h, r => by
    simp only [okAll, Bool.and_eq_true] at ok
    cases h with
    | cons h1 h2 =>
      cases r with
      | cons r1 r2 =>
        obtain ⟨as, q1, n1⟩ := Da.readsS I hb d _ _ ok.1 h1 r1
        obtain ⟨bs, q2, n2⟩ := Da.readsAllS I hb ds _ _ ok.2 h2 r2
        refine ⟨_, ReadsAll.cons q1 q2, fun m => ?_⟩
        rcases List.mem_append.mp m with m | m
        · exact n1 m
        · exact n2 m
end
/-- repr of data, where nothing is being shown and the dict of modules stands ahead of all -/
def rReprS (K : PySem.W.Frag) : List V → Hp → VK → Prop := fun xs H Q => ∃ (x : V) (d : PyData), xs = [x] ∧ Da K H x d ∧ okD d = true ∧ wt d ≤ 1000000 ∧ d.depth ≤ 20 ∧ Q (.str d.shown) H
theorem call_reprS (hg : X.A.guards = some []) (hu : X.A.units + 64 < cLine) (hb : ∃ mm, X.base.Ns sysModules mm) : CallR X (.builtin "repr") (rReprS X.K) := by
  intro pins s σ H vs us Q I r h
  obtain ⟨x, d, rfl, hx, ok, hw, hd, q⟩ := h
  obtain ⟨u, rfl, r1⟩ : ∃ u, us = [u] ∧ RelV x u := by
    cases r with
    | cons r1 r2 =>
      cases r2
      exact ⟨_, rfl, r1⟩
  obtain ⟨as, rd, ns⟩ := Da.readsS I hb d x u ok hx r1
  obtain ⟨sl, sh⟩ := show_len d ok
  cases hx with
  | non =>
    cases r1
    exact P.repr_of_none ⟨.str _, H, I.tok _, ⟨_, rfl⟩, q⟩
  | bl b =>
    cases r1
    exact P.repr_of_bool ⟨.str _, H, I.tok _, ⟨_, rfl⟩, q⟩
  | int i =>
    obtain ⟨t, rfl⟩ := r1
    exact P.repr_of_int (by simpa only [PyData.showable, decide_eq_true_eq] using sh) ⟨.str _, H, I.tok _, ⟨_, rfl⟩, q⟩
  | str z =>
    obtain ⟨t, rfl⟩ := r1
    exact P.repr_of_str ⟨.str _, H, I.tok _, ⟨_, rfl⟩, q⟩ (Nat.le_trans sl (Nat.le_trans hw (by decide)))
  | lst h1 h2 =>
    cases r1
    exact repr_of_reads' rd sh (fun _ => ns) hg (by omega) (fun _ _ e => e) (fun h' u tk hk => ⟨.str _, H, I.kept (t' := tk) hk, ⟨_, rfl⟩, q⟩) (Nat.le_trans sl (Nat.le_trans hw (by decide)))
  | tup h1 h2 =>
    cases r1
    exact repr_of_reads' rd sh (fun _ => ns) hg (by omega) (fun _ _ e => e) (fun h' u tk hk => ⟨.str _, H, I.kept (t' := tk) hk, ⟨_, rfl⟩, q⟩) (Nat.le_trans sl (Nat.le_trans hw (by decide)))
  | emp h1 =>
    cases r1
    exact repr_of_reads' rd sh (fun _ => ns) hg (by omega) (fun _ _ e => e) (fun h' u tk hk => ⟨.str _, H, I.kept (t' := tk) hk, ⟨_, rfl⟩, q⟩) (Nat.le_trans sl (Nat.le_trans hw (by decide)))
  | dic h1 h2 =>
    cases r1
    exact repr_of_reads' rd sh (fun _ => ns) hg (by omega) (fun _ _ e => e) (fun h' u tk hk => ⟨.str _, H, I.kept (t' := tk) hk, ⟨_, rfl⟩, q⟩) (Nat.le_trans sl (Nat.le_trans hw (by decide)))
end
def gsB (d : PyData) : Bool := okD d && decide (wt d ≤ 1000000) && decide (d.depth ≤ 20)
structure Gs (e : PyData) : Prop where
  ok : okD e = true
  w : wt e ≤ 1000000
  dp : e.depth ≤ 20
def fReprS : List PyData → Option PyData
  | [d] => if gsB d then some (.str d.shown) else none
  | _ => none
theorem cs_reprS {K : PySem.W.Frag} : CbS K (rReprS K) fReprS := fun T H xs ds e tr h he Q q => by
  unfold fReprS at he
  split at he
  · split at he
    · rename_i d hz
      cases he
      cases h with
      | cons h1 h2 =>
        cases h2
        simp only [gsB, Bool.and_eq_true, decide_eq_true_eq] at hz
        obtain ⟨⟨z1, z2⟩, z3⟩ := hz
        exact ⟨_, d, rfl, h1.da, z1, z2, z3, q _ H (Same.refl _) (.str _)⟩
    · cases he
  · cases he
end Pb

set_option Elab.async false
set_option linter.all false
set_option maxRecDepth 100000
namespace Pb
open PySem PySem.Spec PyProof.Rows L2
/-! ### words for the pure part -/
theorem iR_of {φ : Rho → Option PyData} {ρ : Rho} {j : Int} (h : φ ρ = some (.int j)) (hj : -(2 ^ 62) ≤ j ∧ j < 2 ^ 62) : iR φ ρ = some (rngD 0 j) := by
  unfold iR
  rw [h]
  show (if small j = true then some (rngD 0 j) else none) = _
  rw [if_pos (show small j = true from decide_eq_true hj)]
theorem rng_ints (m : Nat) : rngD 0 (m : Int) = (upto m).map .int := by
  unfold rngD upto
  rw [Int.sub_zero, Int.toNat_natCast, List.map_map]
  congr 1
  funext i
  show PyData.int (0 + (i : Int)) = PyData.int (i : Int)
  rw [Int.zero_add]
def loopPost (Q : Rho → Int → Prop) (P : Res → Int → Prop) : Res → Int → Prop := fun r n1 => match r with
  | .nx ρ' => Q ρ' n1
  | .ct ρ' => Q ρ' n1
  | .bk ρ' => P (.nx ρ') n1
  | r => P r n1
theorem forW_ind {B : PyData → Rho → Int → (Res → Int → Prop) → Prop} {P : Res → Int → Prop} (I : List PyData → Rho → Int → Prop) (h0 : ∀ ρ n, I [] ρ n → P (.nx ρ) n)
    (hs' : ∀ e es ρ n, I (e :: es) ρ n → ∀ Q : Rho → Int → Prop, (∀ ρ' n', I es ρ' n' → Q ρ' n') → B e ρ n (loopPost Q P)) : ∀ es ρ n, I es ρ n → forW B es ρ n P
  | [], ρ, n, h => h0 ρ n h
  | e :: es, ρ, n, h => hs' e es ρ n h (fun ρ' n' => forW B es ρ' n' P) fun ρ' n' k => forW_ind I h0 hs' es ρ' n' k
theorem tab1 (n : Int) (os : List (List Int)) : fIxT (tabD n os) (.int 1) = some (.tuple (os.map offD)) := rfl
/-- two texts that are equal -/
theorem ne_same (x : Str) : fNe (.str x) (.str x) = some (.bool false) := by
  show some (PyData.bool (!decide (x = x))) = _
  rw [decide_eq_true rfl]
  rfl
end Pb

set_option Elab.async false
set_option linter.all false
set_option maxRecDepth 100000
namespace Pb
open PySem PySem.Spec PyProof.Rows L2
theorem oex_cls {K : PySem.W.Frag} {C : Addr} {nm q N bs bm sn sub ab col dd k0 k1 k2 k3 k5} (l : K.lookup C = some (excClassObj nm q C N bs bm true sn sub ab col dd k0 k1 k2 k3 k5 "ValueError.__new__")) (r : PySem.HandSPX.refsVE bm = true) :
    ∃ nm q N bs bm sn sub ab col dd k0 k1 k2 k3 k5, K.lookup C = some (excClassObj nm q C N bs bm true sn sub ab col dd k0 k1 k2 k3 k5 "ValueError.__new__") ∧ PySem.HandSPX.refsVE bm = true := ⟨nm, q, N, bs, bm, sn, sub, ab, col, dd, k0, k1, k2, k3, k5, l, r⟩
/-- a class's own __init__ -/
def Di (K : PySem.W.Frag) (C : Addr) (qual : Str) (st : Stmt) : Prop := ∃ (f : Addr) (fd : FuncData), PySem.W.findIn K (.ref C) "__init__" = some (some (.ref f)) ∧ PySem.W.typeIn K (.ref f) = some (.type "function") ∧ Fun K "__init__" qual st f fd
theorem di_mk {K : PySem.W.Frag} {C : Addr} {qual : Str} {st : Stmt} {f : Addr} {od an : Option Addr} {sl : Array (Option Value)} {oc kV dc pm cd ct : Value} (a : PySem.W.findIn K (.ref C) "__init__" = some (some (.ref f))) (t : PySem.W.typeIn K (.ref f) = some (.type "function"))
    (l : K.lookup f = some ⟨oc, od, .func (PySem.W.fnOf "__init__" qual (defArgs st) (defBody st) (defScope st) .none kV dc pm an cd ct), sl⟩) (c : PySem.W.codeIn K cd qual = true) (k : PySem.W.keepIn K (.ref f) = true) : Di K C qual st := ⟨f, _, a, t, fun_mk (st := st) l c k⟩
end Pb

set_option Elab.async false
set_option linter.all false
set_option maxRecDepth 100000
namespace Pb
open PySem PySem.Spec PyProof.Rows L2
/-! ### defs that raise -/
section
variable (K : PySem.W.Frag) (cl : Str → Addr)
end
inductive Rx where
  | ok (r : Res)
  | ex (o : Out) (ρ : Rho)
section
variable (K : PySem.W.Frag) (cl : Str → Addr)
def WxOk (S : List Addr) (H0 : Hp) (G : Hp → Prop) (W : WX) (ρ : Rho) : Out → Prop
  | .ret _ => False
  | .exc x => ∀ T ow σ H, SimO K S H0 G T ow ρ σ H → W (.ref (cl x)) none σ H
  | .excF x f e => ∀ T ow σ H v d, SimO K S H0 G T ow ρ σ H → hs T H d = some (.xd [(f, v)]) → Da K (hs T H) v e → W (.ref (cl x)) (some d) σ H
def EndX (S : List Addr) (H0 : Hp) (G : Hp → Prop) (D : Ends) (W : WX) : Rx → Prop
  | .ok r => EndOk K cl S H0 G D E0 r
  | .ex o ρ => WxOk K cl S H0 G W ρ o
def StX (W : WX) (ts : TS) (ψ : Rho → Option Rx) : Prop := ∀ S H0 G ρ σ H r, Sim K S H0 G ρ σ H → ψ ρ = some r → ∀ D : Ends, EndX K cl S H0 G D W r → ts D σ H
end
def xP (ψ : Rho → Option Res) : Rho → Option Rx := fun ρ => (ψ ρ).map .ok
section
variable {K : PySem.W.Frag} {cl : Str → Addr} {W : WX}
theorem StP.x {ts : TS} {ψ : Rho → Option Res} (h : StP K cl E0 ts ψ) : StX K cl W ts (xP ψ) := fun S H0 G ρ σ H r sm he D q => by
  obtain ⟨r', h1, rfl⟩ := Option.map_eq_some_iff.mp he
  exact h S H0 G ρ σ H r' sm h1 D q
end
/-! a while that may raise -/
/-! a def that may raise -/
section
variable {P : Program} {w : World} {K : PySem.W.Frag} {mg : Str → Option Value} {base : Heap}
end
/-! ### try .. except X as e, and what is told -/
section
variable (K : PySem.W.Frag) (cl : Str → Addr)
def StQ (ts : TS) (Ψ : Rho → (Res → Prop) → Prop) : Prop := ∀ S H0 G ρ σ H P, Sim K S H0 G ρ σ H → Ψ ρ P → ∀ D : Ends, (∀ r, P r → EndOk K cl S H0 G D E0 r) → ts D σ H
end
def qP (ψ : Rho → Option Res) : Rho → (Res → Prop) → Prop := fun ρ P => ∃ r, ψ ρ = some r ∧ P r
section
variable {K : PySem.W.Frag} {cl : Str → Addr}
theorem StP.q {ts : TS} {ψ : Rho → Option Res} (h : StP K cl E0 ts ψ) : StQ K cl ts (qP ψ) := fun S H0 G ρ σ H P sm ⟨r, h1, h2⟩ D q => h S H0 G ρ σ H r sm h1 D (q r h2)
end
end Pb

set_option Elab.async false
set_option linter.all false
set_option maxRecDepth 100000
namespace Pb
open PySem PySem.Spec PyProof.Rows L2
/-! ### draws below more -/
def WNextW : Addr → List PyData → Int → (PyData → Int → Prop) → Prop := fun _ ds n P => ∃ m : Int, ds = [.int m] ∧ n < 2 ^ 50 ∧ 0 < m ∧ m < 2 ^ 60 ∧ ∀ v n' : Int, 0 ≤ v → v < m → n' ≤ n + 1 → P (.int v) n'
/-! ### a def that draws -/
def rhoW (n : Nat) (d : Addr) (ds : List PyData) : Rho := (rho0 n (.none :: ds)).set 0 (.deck d)
def runW (n np : Nat) (Ψ : Addr → Rho → Int → (Res → Int → Prop) → Prop) (d : Addr) (ds : List PyData) (k : Int) (P : PyData → Int → Prop) : Prop := ds.length + 1 = np ∧ Ψ d (rhoW n d ds) k fun r k' => match r with
  | .rt e => P e k'
  | .nx _ => P .none k'
  | _ => False
section
variable {P : Program} {w : World} {K : PySem.W.Frag} {mg : Str → Option Value} {base : Heap}
end
end Pb
namespace Pb
open PySem PySem.Spec PyProof.Rows L2
end Pb

set_option Elab.async false
set_option linter.all false
set_option maxRecDepth 100000
namespace Pb
open PySem PySem.Spec PyProof.Rows L2
/-! ### sorted(set(t)) -/
def insU (x : Int) : List Int → List Int
  | [] => [x]
  | y :: ys => if x < y then x :: y :: ys else if x = y then y :: ys else y :: insU x ys
def sortU (ns : List Int) : List Int := ns.foldr insU []
theorem insU_mem {x k : Int} : ∀ {l : List Int}, k ∈ insU x l ↔ k = x ∨ k ∈ l
  | [] => by simp [insU]
  | y :: ys => by
    unfold insU
    split
    · simp
    · split
      · rename_i h
        subst h
        simp
      · simp only [List.mem_cons, insU_mem (l := ys)]
        constructor
        · rintro (h | h | h)
          · exact .inr (.inl h)
          · exact .inl h
          · exact .inr (.inr h)
        · rintro (h | h | h)
          · exact .inr (.inl h)
          · exact .inl h
          · exact .inr (.inr h)
theorem insU_lt {x : Int} : ∀ {l : List Int}, l.Pairwise (· < ·) → (insU x l).Pairwise (· < ·)
  | [], _ => by simp [insU]
  | y :: ys, h => by
    obtain ⟨h1, h2⟩ := List.pairwise_cons.mp h
    unfold insU
    split
    · rename_i hx
      refine List.pairwise_cons.mpr ⟨fun z hz => ?_, h⟩
      rcases List.mem_cons.mp hz with rfl | hz
      · exact hx
      · have := h1 z hz
        omega
    · split
      · exact h
      · refine List.pairwise_cons.mpr ⟨fun z hz => ?_, insU_lt h2⟩
        rcases insU_mem.mp hz with rfl | hz
        · omega
        · exact h1 z hz
theorem sortU_mem {k : Int} : ∀ {l : List Int}, k ∈ sortU l ↔ k ∈ l
  | [] => Iff.rfl
  | x :: l => by
    show k ∈ insU x (sortU l) ↔ _
    rw [insU_mem, sortU_mem (l := l), List.mem_cons]
theorem sortU_lt : ∀ {l : List Int}, (sortU l).Pairwise (· < ·)
  | [] => .nil
  | x :: l => insU_lt (sortU_lt (l := l))
/-! against [], () -/
def fNe0 : PyData → PyData → Option PyData
  | .list es, .list [] => some (.bool (!es.isEmpty))
  | _, _ => none
def fEq0 : PyData → PyData → Option PyData
  | .list es, .list [] => some (.bool es.isEmpty)
  | _, _ => none
section
variable {K : PySem.W.Frag}
end
end Pb

set_option Elab.async false
set_option linter.all false
set_option maxRecDepth 100000
namespace Pb
open PySem PySem.Spec PyProof.Rows L2
/-! ### comprehensions and loops, pure -/
theorem lcR_of {τ : PyData → Rho → Option Rho} {β : Rho → Option Bool} {φ : Rho → Option PyData} {ρ : Rho} (b : PyData → Bool) (v : PyData → PyData) : ∀ {es : List PyData}, (∀ e ∈ es, ∃ ρ', τ e ρ = some ρ' ∧ β ρ' = some (b e) ∧ (b e = true → φ ρ' = some (v e))) → lcR τ β φ ρ es = some ((es.filter b).map v)
  | [], _ => rfl
  | e :: es, h => by
    obtain ⟨ρ', h1, h2, h3⟩ := h e List.mem_cons_self
    have ih := lcR_of b v (es := es) fun x hx => h x (List.mem_cons_of_mem _ hx)
    unfold lcR
    rw [h1]
    show ((β ρ').bind fun c => if c then (φ ρ').bind fun y => (lcR τ β φ ρ es).map (y :: ·) else lcR τ β φ ρ es) = _
    rw [h2]
    show (if b e = true then (φ ρ').bind fun y => (lcR τ β φ ρ es).map (y :: ·) else lcR τ β φ ρ es) = _
    cases hb : b e with
    | true =>
      rw [if_pos rfl, h3 hb, ih, List.filter_cons, if_pos hb]
      rfl
    | false =>
      rw [if_neg Bool.false_ne_true, ih, List.filter_cons, if_neg (by rw [hb]; exact Bool.false_ne_true)]
/-- the same over what is walked -/
theorem lLc_of {vs : List Nat} {it : Rho → Option (List PyData)} {τ : PyData → Rho → Option Rho} {β : Rho → Option Bool} {φ : Rho → Option PyData} {ρ : Rho} {es : List PyData} (b : PyData → Bool) (v : PyData → PyData) (hi : it ρ = some es) (hl : es.length ≤ 100000)
    (h : ∀ e ∈ es, ∃ ρ', τ e (wipeR ρ vs) = some ρ' ∧ β ρ' = some (b e) ∧ (b e = true → φ ρ' = some (v e))) : lLc vs it τ β φ ρ = some ((es.filter b).map v) := by
  unfold lLc
  rw [hi]
  show ((lim es).bind _) = _
  unfold lim
  rw [if_pos hl]
  exact lcR_of b v h
/-! ### masks -/
/-- the bits of o -/
def maskN (o : List Int) : Nat := (o.map fun i => 2 ^ i.toNat).sum
theorem testBit_add_pow {a i j : Nat} (h : a.testBit i = false) : (a + 2 ^ i).testBit j = (a.testBit j || decide (i = j)) := by
  rw [Nat.add_comm]
  rcases Nat.lt_trichotomy i j with hl | rfl | hg
  · have hm : a % 2 ^ (i + 1) < 2 ^ i := by
      have e : a % 2 ^ (i + 1) = a % 2 ^ i + 2 ^ i * (a / 2 ^ i % 2) := Nat.mod_pow_succ
      have z : a / 2 ^ i % 2 = 0 := by
        have h' := h
        rw [Nat.testBit_eq_decide_div_mod_eq] at h'
        have := of_decide_eq_false h'
        omega
      rw [e, z]
      have := Nat.mod_lt a (Nat.two_pow_pos i)
      omega
    have d : (2 ^ i + a) / 2 ^ (i + 1) = a / 2 ^ (i + 1) := by
      have p2 : 2 ^ (i + 1) = 2 ^ i + 2 ^ i := by rw [Nat.pow_succ]; omega
      have da := Nat.div_add_mod a (2 ^ (i + 1))
      rw [Nat.div_eq_iff (Nat.two_pow_pos (i + 1))]
      rw [Nat.mul_comm] at da
      omega
    obtain ⟨k, rfl⟩ := Nat.exists_eq_add_of_lt hl
    have t : ∀ b : Nat, b.testBit (i + k + 1) = (b / 2 ^ (i + 1)).testBit k := by
      intro b
      rw [Nat.testBit_div_two_pow]
      congr 1
      omega
    rw [t, t, d]
    have : decide (i = i + k + 1) = false := decide_eq_false (by omega)
    rw [this, Bool.or_false]
  · rw [Nat.testBit_two_pow_add_eq, h]
    simp
  · rw [Nat.testBit_two_pow_add_gt hg]
    have : decide (i = j) = false := decide_eq_false (by omega)
    rw [this, Bool.or_false]
theorem testBit_maskN : ∀ {o : List Int}, o.Nodup → (∀ i ∈ o, 0 ≤ i) → ∀ j : Nat, (maskN o).testBit j = decide ((j : Int) ∈ o)
  | [], _, _, j => by
    show (0 : Nat).testBit j = _
    rw [Nat.zero_testBit]
    exact (decide_eq_false List.not_mem_nil).symm
  | i :: o, hn, hp, j => by
    have hn' := List.nodup_cons.1 hn
    have ih := testBit_maskN hn'.2 (fun x hx => hp x (List.mem_cons_of_mem _ hx))
    have hi := hp i List.mem_cons_self
    have e : maskN (i :: o) = maskN o + 2 ^ i.toNat := by
      show 2 ^ i.toNat + (o.map fun i => 2 ^ i.toNat).sum = _
      rw [Nat.add_comm]
      rfl
    rw [e, testBit_add_pow (by rw [ih, Int.toNat_of_nonneg hi]; exact decide_eq_false hn'.1), ih]
    by_cases hj : i = (j : Int)
    · subst hj
      simp
    · have h1 : decide (i.toNat = j) = false := decide_eq_false (by omega)
      have h2 : ¬ (j : Int) = i := fun h => hj h.symm
      rw [h1, Bool.or_false]
      simp [h2]
end Pb

set_option Elab.async false
set_option linter.all false
set_option maxRecDepth 100000
namespace Pb
open PySem PySem.Spec PyProof.Rows L2
/-! ### _law_same of twice the same data -/
end Pb

set_option Elab.async false
set_option linter.all false
set_option maxRecDepth 100000
namespace Pb
open PySem PySem.Spec PyProof.Rows L2
/-! ### evaluation, a word each -/
section
variable {β γ : Rho → Option Bool} {φ ψ' χ' : Rho → Option PyData} {ψ χ : Rho → Option Res} {ρ ρ' : Rho} {b c : Bool} {e x y : PyData} {r : Res}
theorem sIf_t (h : β ρ = some true) : sIf β ψ χ ρ = ψ ρ := by
  unfold sIf
  rw [h]
  rfl
theorem sIf_f (h : β ρ = some false) : sIf β ψ χ ρ = χ ρ := by
  unfold sIf
  rw [h]
  rfl
theorem sSeq_nx (h : ψ ρ = some (.nx ρ')) : sSeq ψ χ ρ = χ ρ' := by
  unfold sSeq
  rw [h]
  rfl
theorem sSeq_rt (h : ψ ρ = some (.rt e)) : sSeq ψ χ ρ = some (.rt e) := by
  unfold sSeq
  rw [h]
  rfl
theorem sRet_of (h : φ ρ = some e) : sRet φ ρ = some (.rt e) := by
  unfold sRet
  rw [h]
  rfl
theorem sSet_of {i : Nat} (h : φ ρ = some e) : sSet (gN i) φ ρ = some (.nx (ρ.set i (.val e))) := by
  unfold sSet
  rw [h]
  rfl
theorem bOr_t (h : β ρ = some true) : bOr β γ ρ = some true := by
  unfold bOr
  rw [h]
  rfl
theorem bOr_f (h : β ρ = some false) : bOr β γ ρ = γ ρ := by
  unfold bOr
  rw [h]
  rfl
theorem bAnd_of (h : β ρ = some b) (k : γ ρ = some c) : bAnd β γ ρ = some (b && c) := by
  unfold bAnd
  rw [h]
  cases b
  · rfl
  · exact k
theorem bNot_of (h : β ρ = some b) : bNot β ρ = some (!b) := by
  unfold bNot
  rw [h]
  rfl
theorem bTest_of (h : φ ρ = some (.bool b)) : bTest φ ρ = some b := by
  unfold bTest
  rw [h]
  rfl
theorem eOp_of {f : PyData → PyData → Option PyData} {o : Option PyData} (h : φ ρ = some x) (k : ψ' ρ = some y) (z : f x y = o) : eOp f φ ψ' ρ = o := by
  unfold eOp
  rw [h, k]
  exact z
theorem eCb_of {f : List PyData → Option PyData} {φs : Rho → Option (List PyData)} {xs : List PyData} {o : Option PyData} (h : φs ρ = some xs) (z : f xs = o) : eCb f φs ρ = o := by
  unfold eCb
  rw [h]
  exact z
theorem aCons_of {φs : Rho → Option (List PyData)} {xs : List PyData} (h : φ ρ = some x) (h' : φs ρ = some xs) : aCons φ φs ρ = some (x :: xs) := by
  unfold aCons
  rw [h, h']
  rfl
theorem eL_of {φs : Rho → Option (List PyData)} {xs : List PyData} (h : φs ρ = some xs) : eL φs ρ = some (.list xs) := by
  unfold eL
  rw [h]
  rfl
theorem runF_of {n np : Nat} {ds : List PyData} (hl : ds.length = np) (h : ψ (rho0 n ds) = some (.rt e)) : runF n np ψ ds = some e := by
  unfold runF
  rw [if_pos hl, h]
theorem intsD_ints : ∀ ns : List Int, intsD (ns.map PyData.int) = some ns
  | [] => rfl
  | n :: ns => by
    show (intsD (ns.map PyData.int)).map (n :: ·) = _
    rw [intsD_ints ns]
    rfl
end
end Pb

set_option Elab.async false
set_option linter.all false
set_option maxRecDepth 100000
namespace Pb
open PySem PySem.Spec PyProof.Rows L2
/-! ### masks: the words -/
/-- one after the other -/
def chain : List Int → Bool
  | x :: y :: l => decide (Builtin.bitAnd x y = x) && chain (y :: l)
  | _ => true
end Pb

set_option Elab.async false
set_option linter.all false
set_option maxRecDepth 100000
namespace Pb
open PySem PySem.Spec PyProof.Rows L2
/-! ### further rules: xs[i] = e, * of lists and tuples, max and min of two, any, chains of three, len(set(..)), remove, extend -/
section
variable {K : PySem.W.Frag} {cl : Str → Addr} {E : XK}
def sPut (i : Nat) (φi φ : Rho → Option PyData) : Rho → Option Res := fun ρ => (φ ρ).bind fun e => (ro ρ i).bind fun es => ((φi ρ).bind asI).bind fun k => (ixN es.length k).map fun j => .nx (ρ.set i (.own (es.set j e)))
/-- xs * k -/
theorem DaAll.repF {H : Hp} {vs : List V} {es : List PyData} (h : DaAll K H vs es) : ∀ n : Nat, DaAll K H (List.replicate n vs).flatten (List.replicate n es).flatten
  | 0 => .nil
  | n + 1 => by
    rw [List.replicate_succ, List.replicate_succ, List.flatten_cons, List.flatten_cons]
    exact h.append (DaAll.repF h n)
def repOk (n : Nat) (k : Int) : Bool := decide (0 ≤ k ∧ k ≤ 1000 ∧ n ≤ 100)
def lRep (φ : Rho → Option (List PyData)) (ψ : Rho → Option PyData) : Rho → Option (List PyData) := fun ρ => (φ ρ).bind fun es => ((ψ ρ).bind asI).bind fun k => if repOk es.length k then some (List.replicate k.toNat es).flatten else none
theorem xf_rep {ta tb : TE} {φ : Rho → Option (List PyData)} {ψ : Rho → Option PyData} (ha : EvLi K ta φ) (hb : EvTr K tb ψ) : EvF K (tOp rRep ta tb) (lRep φ ψ) := fun S H0 G T ow ρ σ H ys sm he Q q => by
  obtain ⟨es, h1, h2⟩ := Option.bind_eq_some_iff.mp he
  obtain ⟨k, h3, h4⟩ := Option.bind_eq_some_iff.mp h2
  obtain ⟨x, h5, h6⟩ := Option.bind_eq_some_iff.mp h3
  obtain rfl := asI_some h6
  split at h4
  · rename_i hz
    have hz' := of_decide_eq_true hz
    cases h4
    refine ha S H0 G T ow ρ σ H es sm h1 _ fun a vs H1 s1 ha1 hv => hb S H0 G T ow ρ σ H1 _ (sm.mono s1) h5 _ fun u H2 s2 hu => ⟨a, k, vs, rfl, hu.int, s2 _ _ ha1, by omega, by omega, Evl.sz_of ?_, fun p hp => ?_⟩
    · rw [DaAll.len hv]
      have : es.length * k.toNat ≤ 100 * 1000 := Nat.mul_le_mul (by omega) (by omega)
      omega
    · exact q p _ _ ((s1.trans s2).trans (same_upd hp)) ((s1.trans s2).free hp) upd_same (((hv.mono (hs_mono s2)).repF k.toNat).mono (hs_cons_new hp))
  · cases h4
end
section
variable {X : Cx}
end
end Pb
namespace Pb
open PySem PySem.Spec PyProof.Rows L2
section
variable {X : Cx}
end
section
variable {K : PySem.W.Frag}
def fMin2 : List PyData → Option PyData
  | [.int i, .int j] => some (.int (if j < i then j else i))
  | _ => none
def fMax2 : List PyData → Option PyData
  | [.int i, .int j] => some (.int (if j > i then j else i))
  | _ => none
end
/-! a < b < c < d -/
section
variable {X : Cx}
end
section
variable {K : PySem.W.Frag}
end
end Pb

set_option Elab.async false
set_option linter.all false
set_option maxRecDepth 100000
namespace Pb
open PySem PySem.Spec PyProof.Rows L2
/-! ### len(set(t)) -/
theorem nodup_sortI {l : List Int} (h : l.Nodup) : (sortI l).Pairwise (· < ·) := by
  have h1 := sortI_le (ns := l)
  have h2 : (sortI l).Nodup := (sortI_perm (ns := l)).nodup_iff.mpr h
  exact (h1.and h2).imp fun ⟨a, b⟩ => by omega
theorem nodup_same_len {l r : List Int} (h : l.Nodup) (h' : r.Nodup) (hm : ∀ k, k ∈ l ↔ k ∈ r) : l.length = r.length := by
  have e : sortI l = sortI r := strict_eq (nodup_sortI h) (nodup_sortI h') fun k => by rw [sortI_perm.mem_iff, sortI_perm.mem_iff, hm]
  rw [← (sortI_perm (ns := l)).length_eq, e, (sortI_perm (ns := r)).length_eq]
theorem sortU_nodup {l : List Int} : (sortU l).Nodup := sortU_lt.imp fun h => by omega
def fLenSet : PyData → Option PyData
  | .tuple es => (intsD es).bind fun ns => if ns.length ≤ 1000 then some (.int ((sortU ns).length : Nat)) else none
  | _ => none
section
variable {K : PySem.W.Frag} {cl : Str → Addr} {E : XK}
/-! ### a, b = .., .. with lists of their own -/
/-! ### xs.remove(k), xs.extend(ys) of lists of their own -/
end
/-! ### statements that draw, further -/
section
variable {K : PySem.W.Frag} {d : Addr}
end
end Pb

set_option Elab.async false
set_option linter.all false
set_option maxRecDepth 100000
namespace Pb
open PySem PySem.Spec PyProof.Rows L2
/-! ### t[-2::-1] -/
section
variable {prog : Program} {w : World} {A : Around} {E : Value → Shared → Prop} {s : Shared}
end
section
variable {X : Cx}
end
section
variable {K : PySem.W.Frag}
end
/-! ### further words that draw -/
section
variable {K : PySem.W.Frag} {d : Addr}
end
section
variable {K : PySem.W.Frag} {cl : Str → Addr} {E : XK} {d : Addr}
/-! a, b = e, f where a name is a cell: a tuple is made and unpacked -/
end
end Pb

set_option Elab.async false
set_option linter.all false
set_option maxRecDepth 100000
namespace Pb
open PySem PySem.Spec PyProof.Rows L2
/-! ### sorted(xs) of data, sorted(xs, key=len) -/
section
variable {X : Cx}
end
/-! readings -/
section
variable {K : PySem.W.Frag}
end
end Pb

set_option Elab.async false
set_option linter.all false
set_option maxRecDepth 100000
namespace Pb
open PySem PySem.Spec PyProof.Rows L2
/-! ### [e for x in .. if .. for y in .. if ..] -/
section
variable {K : PySem.W.Frag} {S : List Addr} {H0 : Hp} {G : Hp → Prop} {T ow : List Addr} {ρ : Rho} {σ : L2.St} {H : Hp} {D : Addr}
end
end Pb

set_option Elab.async false
set_option linter.all false
set_option maxRecDepth 100000
namespace Pb
open PySem PySem.Spec PyProof.Rows L2
/-! ### a call that reads lists of their own, and answers what is no list -/
section
variable {K : PySem.W.Frag}
/-! ### a list of its own read as data for the time of one reading -/
end
end Pb

set_option Elab.async false
set_option linter.all false
set_option maxRecDepth 100000
namespace Pb
open PySem PySem.Spec PyProof.Rows L2
/-! ### ints and bools as numbers -/
section
variable {X : Cx}
end
/-! ### data of a bounded width -/
mutual
def bg (L B : Nat) : PyData → Bool
  | .int i => decide (i.natAbs ≤ B)
  | .tuple xs => decide (xs.length ≤ L) && bgAll L B xs
  | .list xs => decide (xs.length ≤ L) && bgAll L B xs
  | .none => true
  | .bool _ => true
  | .str x => okD (.str x)
  | .dict kvs => okD (.dict kvs)
def bgAll (L B : Nat) : List PyData → Bool
  | [] => true
  | x :: xs => bg L B x && bgAll L B xs
end
mutual
theorem bg_ok {L B : Nat} (hL : L ≤ 60) (hB : B < 10 ^ 80) : ∀ e : PyData, bg L B e = true → okD e = true
  | .int i, h => by
    simp only [bg, okD, decide_eq_true_eq] at h ⊢
    exact Nat.lt_of_le_of_lt h hB
  | .tuple xs, h => by
    simp only [bg, okD, Bool.and_eq_true, decide_eq_true_eq] at h ⊢
    exact ⟨Nat.le_trans h.1 hL, bg_okAll hL hB xs h.2⟩
  | .list xs, h => by
    simp only [bg, okD, Bool.and_eq_true, decide_eq_true_eq] at h ⊢
    exact ⟨Nat.le_trans h.1 hL, bg_okAll hL hB xs h.2⟩
  | .none, _ => rfl
  | .bool _, _ => rfl
  | .str x, h => by simpa only [bg] using h
  | .dict kvs, h => by simpa only [bg] using h
theorem bg_okAll {L B : Nat} (hL : L ≤ 60) (hB : B < 10 ^ 80) : ∀ xs : List PyData, bgAll L B xs = true → okAll xs = true
  | [], _ => rfl
  | x :: xs, h => by
    simp only [bgAll, okAll, Bool.and_eq_true] at h ⊢
    exact ⟨bg_ok hL hB x h.1, bg_okAll hL hB xs h.2⟩
end
mutual
theorem bg_mono {L B L' B' : Nat} (hL : L ≤ L') (hB : B ≤ B') : ∀ e : PyData, bg L B e = true → bg L' B' e = true
  | .int i, h => by
    simp only [bg, decide_eq_true_eq] at h ⊢
    exact Nat.le_trans h hB
  | .tuple xs, h => by
    simp only [bg, Bool.and_eq_true, decide_eq_true_eq] at h ⊢
    exact ⟨Nat.le_trans h.1 hL, bg_monoAll hL hB xs h.2⟩
  | .list xs, h => by
    simp only [bg, Bool.and_eq_true, decide_eq_true_eq] at h ⊢
    exact ⟨Nat.le_trans h.1 hL, bg_monoAll hL hB xs h.2⟩
  | .none, _ => rfl
  | .bool _, _ => rfl
  | .str x, h => by simpa only [bg] using h
  | .dict kvs, h => by simpa only [bg] using h
theorem bg_monoAll {L B L' B' : Nat} (hL : L ≤ L') (hB : B ≤ B') : ∀ xs : List PyData, bgAll L B xs = true → bgAll L' B' xs = true
  | [], _ => rfl
  | x :: xs, h => by
    simp only [bgAll, Bool.and_eq_true] at h ⊢
    exact ⟨bg_mono hL hB x h.1, bg_monoAll hL hB xs h.2⟩
end
/-- what _law_bent makes of e, any data of width L and ints up to B -/
structure BntG (L B : Nat) (e e' : PyData) : Prop where
  g : bg (L + 1) (B + 1) e' = true
  w : wt e' ≤ 2 * wt e + 2200
  dp : e'.depth ≤ e.depth + 2
end Pb

set_option Elab.async false
set_option linter.all false
set_option maxRecDepth 100000
namespace Pb
open PySem PySem.Spec PyProof.Rows L2
section
variable {K : PySem.W.Frag} {d : Addr}
end
end Pb

set_option Elab.async false
set_option linter.all false
set_option maxRecDepth 100000
namespace Pb
open PySem PySem.Spec PyProof.Rows L2
section
variable {K : PySem.W.Frag} {S : List Addr} {H0 : Hp} {G : Hp → Prop} {T ow : List Addr} {ρ : Rho} {σ : L2.St} {H H' : Hp}
/-- a new list is tracked, no slot has it yet -/
theorem SimO.keep (h : SimO K S H0 G T ow ρ σ H) {p : Addr} {vs : List V} {es : List PyData} (hp : H p = none) (s : Same H H') (hp' : H' p = some (.lst vs)) (hd : DaAll K (hs (p :: T) H') vs es) : SimO K S H0 G (p :: T) (p :: ow) ρ σ H' := by
  have k := h.setO (i := ρ.length) hp s hp' hd
  rw [List.set_eq_of_length_le (Nat.le_refl _), List.set_eq_of_length_le (by rw [h.len]; exact Nat.le_refl _)] at k
  exact k
end
section
variable {K : PySem.W.Frag} {d : Addr}
end
end Pb

set_option Elab.async false
set_option linter.all false
set_option maxRecDepth 100000
namespace Pb
open PySem PySem.Spec PyProof.Rows L2
def whW (β : Rho → Option Bool) (Ψ : Rho → Int → (Res → Int → Prop) → Prop) : Nat → Rho → Int → (Res → Int → Prop) → Prop
  | 0, _, _, _ => False
  | m + 1, ρ, n, P => ∃ c, β ρ = some c ∧ if c then Ψ ρ n fun r n1 => match r with
    | .nx ρ' => whW β Ψ m ρ' n1 P
    | .ct ρ' => whW β Ψ m ρ' n1 P
    | .bk ρ' => P (.nx ρ') n1
    | r => P r n1
    else P (.nx ρ) n
/-- while, its body drawing -/
def twWhile (m : Nat) (β : Rho → Option Bool) (Ψ : Rho → Int → (Res → Int → Prop) → Prop) : Rho → Int → (Res → Int → Prop) → Prop := whW β Ψ m
section
variable {K : PySem.W.Frag} {d : Addr}
end
end Pb

set_option Elab.async false
set_option linter.all false
set_option maxRecDepth 100000
namespace Pb
open PySem PySem.Spec PyProof.Rows L2
open L2H (RoomH cxH)
/-! ### defs whose last parameter is an error that is being handled -/
/-- what an error's fields look like -/
def XdSh (d : Option Addr) (fs : List (Str × PyData)) : Prop := (d = none ∧ fs = []) ∨ ∃ dd f e, d = some dd ∧ fs = [(f, e)]
theorem XdO.sh {K : PySem.W.Frag} {X : Hp} {d : Option Addr} {fs : List (Str × PyData)} (h : XdO K X d fs) : XdSh d fs := by
  match d, fs, h with
  | none, [], _ => exact .inl ⟨rfl, rfl⟩
  | some dd, [(f, e)], _ => exact .inr ⟨dd, f, e, rfl, rfl⟩
section
variable {P : Program} {w : World} {K : PySem.W.Frag} {mg : Str → Option Value} {base : Heap}
theorem ClE.weaker {k : Nat} {x : Str} {ps : List Str} {sp sp' : SpE} (h : ClE P w K mg base k x ps sp) (hs' : ∀ a cls d vs H Q E, sp' a cls d vs H Q E → sp a cls d vs H Q E) : ClE P w K mg base k x ps sp' := by
  obtain ⟨f, fd, h1, h2, h3, h4⟩ := h.ex
  exact ⟨f, fd, ⟨fun a cls d vs H Q E z => h1.len a cls d vs H Q E (hs' _ _ _ _ _ _ _ z), fun A outer s H args us vs Q E p cls d hr hz hf hp e0 hb rv hsp => h1.run A outer s H args us vs Q E p cls d hr hz hf hp e0 hb rv (hs' _ _ _ _ _ _ _ hsp)⟩, h2, h3, h4⟩
end
section
variable {K : PySem.W.Frag} {cl : Str → Addr}
end
end Pb

set_option Elab.async false
set_option linter.all false
set_option maxRecDepth 100000
namespace Pb
open PySem PySem.Spec PyProof.Rows L2
/-! ### expressions that may raise -/
section
variable (K : PySem.W.Frag) (cl : Str → Addr) (W : WX)
end
section
variable {K : PySem.W.Frag} {cl : Str → Addr} {W : WX}
end
end Pb

set_option Elab.async false
set_option linter.all false
set_option maxRecDepth 100000
namespace Pb
open PySem PySem.Spec PyProof.Rows L2
open PySem.W (Frag findIn InstAt KitX)
open L2H (RoomH cxH)
/-! ### isinstance(err, ValueError) -/
theorem bt_ValueError : bootBuiltins "ValueError" = some (.type "ValueError") := by decide +kernel
theorem kit_tyv {K : Frag} {C : Addr} {T : String} {b : Bool} (hm : PySem.W.kitMeta T = true) (h : PySem.W.subIn K (.ref C) (.type T) = some b) : PySem.W.kitOne K (.ref C) (.type T) = some b := by
  show (if (Value.ref C == Value.type T) = true then some true else PySem.W.kitCls K (.ref C) (.type T)) = some b
  rw [if_neg (show ¬ (Value.ref C == Value.type T) = true from fun z => by cases z)]
  show (if PySem.W.kitMeta T = true then PySem.W.subIn K (.ref C) (.type T) else none) = some b
  rw [if_pos hm]
  exact h
theorem meta_VE : PySem.W.kitMeta "ValueError" = true := by decide +kernel
section
variable {K : PySem.W.Frag} {cl : Str → Addr}
end
/-! ### a def of a slot called -/
section
variable {X : Cx} {CX : CXT} {k j i : Nat} {f : Addr} {fd : FuncData} {ps : List Str} {sp : Sp} {E : L2.St → XK} {W : WX} {x : Str} {p pos : Pos} {e : Expr} {es : List Expr} {t : TA}
end
section
variable {K : PySem.W.Frag} {cl : Str → Addr} {W : WX}
end
/-! ### a def whose first parameter is a def -/
section
variable {K : PySem.W.Frag} {cl : Str → Addr}
end
end Pb

set_option Elab.async false
set_option linter.all false
set_option maxRecDepth 100000
namespace Pb
open PySem PySem.Spec PyProof.Rows L2
/-! ### xs[i] -= e -/
end Pb

set_option Elab.async false
set_option linter.all false
set_option maxRecDepth 100000
namespace Pb
open PySem PySem.Spec PyProof.Rows L2
/-! ### sum of a tuple -/
end Pb

set_option Elab.async false
set_option linter.all false
set_option maxRecDepth 100000
namespace Pb
open PySem PySem.Spec PyProof.Rows L2
/-! ### what does not look at a slot -/
def atR (i : Nat) (b : Addr) : Res → Res
  | .nx ρ => .nx (ρ.set i (.deck b))
  | .bk ρ => .bk (ρ.set i (.deck b))
  | .ct ρ => .ct (ρ.set i (.deck b))
  | r => r
def BlS (i : Nat) (ψ : Rho → Option Res) : Prop := ∀ (a b : Addr) (ρ : Rho), ψ (ρ.set i (.deck b)) = (ψ (ρ.set i (.deck a))).map (atR i b)
section
variable {i : Nat} {φ χ : Rho → Option PyData} {φs : Rho → Option (List PyData)} {β γ : Rho → Option Bool} {ψ ξ : Rho → Option Res}
theorem BlS.self (k : BlS i ψ) {a : Addr} {ρ ρ' : Rho} (h : ψ (ρ.set i (.deck a)) = some (.nx ρ')) : ρ'.set i (.deck a) = ρ' := by
  have := k a a ρ
  rw [h] at this
  injection this with this
  injection this with this
  exact this.symm
end
/-! ### a walk over a list of a slot that the body leaves alone -/
section
variable {K : PySem.W.Frag} {S : List Addr} {H0 : Hp} {G : Hp → Prop} {T ow : List Addr} {ρ : Rho} {σ : L2.St} {H : Hp}
end
end Pb

set_option Elab.async false
set_option linter.all false
set_option maxRecDepth 100000
namespace Pb
open PySem PySem.Spec PyProof.Rows L2
/-! ### a, b, c = [..], [..], [..] -/
end Pb

set_option Elab.async false
set_option linter.all false
set_option maxRecDepth 100000
namespace Pb
open PySem PySem.Spec PyProof.Rows L2
/-! ### sorted(set(l)), l a list of ints -/
section
variable {X : Cx}
end
section
variable {K : PySem.W.Frag} {d : Addr}
/-- of a list just drawn -/
def wfSortU (Φ : Rho → Int → (List PyData → Int → Prop) → Prop) : Rho → Int → (List PyData → Int → Prop) → Prop := fun ρ n P => Φ ρ n fun es n1 => ∃ ns, intsD es = some ns ∧ ns.length < 64 ∧ P ((sortU ns).map .int) n1
/-! ### a comprehension over a range whose bound is drawn -/
def wfLcR (vs : List Nat) (it : Rho → Int → (PyData → Int → Prop) → Prop) (τ : PyData → Rho → Option Rho) (β : Rho → Option Bool) (Φ : Rho → Int → (PyData → Int → Prop) → Prop) : Rho → Int → (List PyData → Int → Prop) → Prop := fun ρ n P => it ρ n fun x n1 => ∃ j, x = .int j ∧ small j = true ∧ j ≤ 100000 ∧ lcW τ β Φ (wipeR ρ vs) (rngD 0 j) n1 P
end
end Pb

set_option Elab.async false
set_option linter.all false
set_option maxRecDepth 100000
namespace Pb
open PySem PySem.Spec PyProof.Rows L2
/-! ### for whose body may raise -/
section
variable {K : PySem.W.Frag} {cl : Str → Addr} {W : WX}
theorem WxOk.weak {S : List Addr} {H0 : Hp} {G G' : Hp → Prop} {ρ : Rho} {o : Out} (mo : ∀ H H', Same H H' → G H → G H') (hg : ∀ H, G' H → G H) (h : WxOk K cl S H0 G W ρ o) : WxOk K cl S H0 G' W ρ o := by
  cases o with
  | ret _ => exact h
  | exc x => exact fun T ow σ H sm => h T ow σ H (sm.weak mo (hg _ sm.fr))
  | excF x f e => exact fun T ow σ H v d sm h1 h2 => h T ow σ H v d (sm.weak mo (hg _ sm.fr)) h1 h2
end
end Pb

set_option Elab.async false
set_option linter.all false
set_option maxRecDepth 100000
namespace Pb
open PySem PySem.Spec PyProof.Rows L2
/-! ### dicts: locked for good, they are data -/
section
variable {X : Cx}
end
def kI : PyData → Int
  | .int i => i
  | _ => 0
def dAt (kvs : List (PyData × PyData)) (k : Int) : Option PyData := (kvs.find? fun p => decide (kI p.1 = k)).map (·.2)
def dPut (kvs : List (PyData × PyData)) (k : Int) (d : PyData) : List (PyData × PyData) :=
  if (kvs.any fun p => decide (kI p.1 = k)) = true then kvs.map (fun p => if kI p.1 = k then (p.1, d) else p) else kvs ++ [(.int k, d)]
/-- a dict as data: its first entry is a mark -/
def dicD (kvs : List (PyData × PyData)) : PyData := .dict ((.none, .none) :: kvs)
def flB : PyData → Bool
  | .none => true
  | .int _ => true
  | .tuple ds => ds.all fun d => match d with
    | .int _ => true
    | _ => false
  | _ => false
section
variable {K : PySem.W.Frag} {H H' : Hp}
theorem DaAll.ints_of : ∀ {vs : List V} {ds : List PyData}, DaAll K H vs ds → (ds.all fun d => match d with | .int _ => true | _ => false) = true → ∃ ns : List Int, vs = ns.map V.int ∧ ds = ns.map PyData.int
  | _, _, .nil, _ => ⟨[], rfl, rfl⟩
  | _, _, .cons h k, hb => by
    rw [List.all_cons, Bool.and_eq_true] at hb
    obtain ⟨ns, rfl, rfl⟩ := DaAll.ints_of k hb.2
    cases h with
    | int i => exact ⟨i :: ns, rfl, rfl⟩
    | _ => cases hb.1
theorem Fl.of {v : V} {d : PyData} (h : Da K H v d) (hb : flB d = true) : Fl K H v d := by
  cases h with
  | non => exact .non
  | int i => exact .int i
  | tup h1 h2 =>
    obtain ⟨ns, rfl, rfl⟩ := DaAll.ints_of h2 hb
    exact .tup ns h1
  | _ => cases hb
theorem Fl.da {v : V} {d : PyData} (h : Fl K H v d) : Da K H v d := by
  cases h with
  | non => exact .non
  | int i => exact .int i
  | tup ns h => exact .tup h (DaAll.ints ns)
theorem Kvs.at : ∀ {ks : List (Key × V)} {kvs : List (PyData × PyData)}, Kvs K H ks kvs → ∀ k : Int, (dAt kvs k = none ∧ valV ks (Sum.inl k) = none) ∨ ∃ d v, dAt kvs k = some d ∧ valV ks (Sum.inl k) = some v ∧ Fl K H v d
  | _, _, .nil, k => .inl ⟨rfl, rfl⟩
  | _, _, @Kvs.cons _ _ i v d ks kvs h r, k => by
    by_cases e : i = k
    · subst e
      exact .inr ⟨d, v, by simp [dAt, kI], valV_pos rfl, h⟩
    · have e1 : dAt ((.int i, d) :: kvs) k = dAt kvs k := by simp [dAt, kI, e]
      have e2 : valV ((Sum.inl i, v) :: ks) (Sum.inl k) = valV ks (Sum.inl k) := valV_neg (p := (Sum.inl i, v)) (by simpa using e)
      rw [e1, e2]
      exact Kvs.at r k
theorem Kvs.any : ∀ {ks : List (Key × V)} {kvs : List (PyData × PyData)}, Kvs K H ks kvs → ∀ k : Int, (ks.any fun kv => decide (kv.1 = Sum.inl k)) = kvs.any fun p => decide (kI p.1 = k)
  | _, _, .nil, k => rfl
  | _, _, @Kvs.cons _ _ i v d ks kvs h r, k => by
    rw [List.any_cons, List.any_cons, Kvs.any r k]
    congr 1
    show decide (Sum.inl i = (Sum.inl k : Key)) = decide (i = k)
    rw [decide_eq_decide]
    exact ⟨Sum.inl.inj, fun z => by rw [z]⟩
theorem Kvs.map {k : Int} {v : V} {d : PyData} (fl : Fl K H v d) : ∀ {ks : List (Key × V)} {kvs : List (PyData × PyData)}, Kvs K H ks kvs → Kvs K H (ks.map fun kv => if kv.1 = Sum.inl k then (kv.1, v) else kv) (kvs.map fun p => if kI p.1 = k then (p.1, d) else p)
  | _, _, .nil => .nil
  | _, _, @Kvs.cons _ _ i u e ks kvs h r => by
    rw [List.map_cons, List.map_cons]
    by_cases z : i = k
    · rw [if_pos (show (Sum.inl i : Key) = Sum.inl k by rw [z]), if_pos (show kI (.int i) = k from z)]
      exact .cons fl (Kvs.map fl r)
    · rw [if_neg (show ¬ (Sum.inl i : Key) = Sum.inl k from fun q => z (Sum.inl.inj q)), if_neg (show ¬ kI (.int i) = k from z)]
      exact .cons h (Kvs.map fl r)
theorem Kvs.snoc {k : Int} {v : V} {d : PyData} (fl : Fl K H v d) : ∀ {ks : List (Key × V)} {kvs : List (PyData × PyData)}, Kvs K H ks kvs → Kvs K H (ks ++ [(Sum.inl k, v)]) (kvs ++ [(.int k, d)])
  | _, _, .nil => .cons fl .nil
  | _, _, .cons h r => .cons h (Kvs.snoc fl r)
theorem Kvs.put {k : Int} {v : V} {d : PyData} (fl : Fl K H v d) {ks : List (Key × V)} {kvs : List (PyData × PyData)} (h : Kvs K H ks kvs) : Kvs K H (putK ks (Sum.inl k) v) (dPut kvs k d) := by
  unfold putK dPut
  rw [h.any k]
  by_cases z : (kvs.any fun p => decide (kI p.1 = k)) = true
  · rw [if_pos z, if_pos z]
    exact Kvs.map fl h
  · rw [if_neg z, if_neg z]
    exact Kvs.snoc fl h
theorem Kvs.key : ∀ {ks : List (Key × V)} {kvs : List (PyData × PyData)}, Kvs K H ks kvs → ∀ {i : Nat} {k : Key} {v : V}, ks[i]? = some (k, v) → ∃ n : Int, k = Sum.inl n ∧ (kvs.map (·.1))[i]? = some (.int n)
  | _, _, .nil, i, k, v, e => by simp at e
  | _, _, @Kvs.cons _ _ n _ _ _ _ h r, i, k, v, e => by
    cases i with
    | zero =>
      simp only [List.getElem?_cons_zero, Option.some.injEq, Prod.mk.injEq] at e
      exact ⟨n, e.1.symm, rfl⟩
    | succ i => exact Kvs.key r (by simpa using e)
theorem Kvs.ints : ∀ {ks : List (Key × V)} {kvs : List (PyData × PyData)}, Kvs K H ks kvs → DaAll K H' (ks.map fun kv => kV kv.1) (kvs.map (·.1))
  | _, _, .nil => .nil
  | _, _, .cons h r => .cons (.int _) (Kvs.ints r)
/-! without one dict -/
theorem SqL.off {Y : Hp} {a b : Addr} {xs : List V} {o : Obj} {ks : List (Key × V)} (hXY : ∀ b o, b ≠ a → H b = some o → Y b = some o) (ha : H a = some (.frz o (.dK ks))) (h : SqL K H b xs) : SqL K Y b xs := by
  have ne : ∀ u, H b = some u → u ≠ .frz o (.dK ks) → b ≠ a := fun u e hn z => by
    rw [z, ha] at e
    exact hn (Option.some.inj e).symm
  rcases h with (h | ⟨o', h⟩) | h
  · exact .inl (.inl (hXY b _ (ne _ h (fun z => by cases z)) h))
  · exact .inl (.inr ⟨o', hXY b _ (ne _ h (fun z => by cases z)) h⟩)
  · exact .inr h
theorem SqT.off {Y : Hp} {a b : Addr} {xs : List V} {o : Obj} {ks : List (Key × V)} (hXY : ∀ b o, b ≠ a → H b = some o → Y b = some o) (ha : H a = some (.frz o (.dK ks))) (h : SqT K H b xs) : SqT K Y b xs := by
  have ne : ∀ u, H b = some u → u ≠ .frz o (.dK ks) → b ≠ a := fun u e hn z => by
    rw [z, ha] at e
    exact hn (Option.some.inj e).symm
  rcases h with (h | ⟨o', h⟩) | h
  · exact .inl (.inl (hXY b _ (ne _ h (fun z => by cases z)) h))
  · exact .inl (.inr ⟨o', hXY b _ (ne _ h (fun z => by cases z)) h⟩)
  · exact .inr h
mutual
theorem Da.off {Y : Hp} {a : Addr} {o : Obj} {ks : List (Key × V)} (hXY : ∀ b o, b ≠ a → H b = some o → Y b = some o) (ha : H a = some (.frz o (.dK ks))) : ∀ (e : PyData) (v : V), Da K H v e → e.hasDict = false → Da K Y v e
  | .none, _, h, _ => by
    cases h
    exact .non
  | .bool b, _, h, _ => by
    cases h
    exact .bl b
  | .int i, _, h, _ => by
    cases h
    exact .int i
  | .str x, _, h, _ => by
    cases h
    exact .str x
  | .list ds, _, h, hn => by
    cases h with
    | lst h1 h2 => exact .lst (SqL.off hXY ha h1) (DaAll.off hXY ha ds _ h2 (by simpa only [PyData.hasDict] using hn))
  | .tuple ds, _, h, hn => by
    cases h with
    | tup h1 h2 => exact .tup (SqT.off hXY ha h1) (DaAll.off hXY ha ds _ h2 (by simpa only [PyData.hasDict] using hn))
  | .dict _, _, h, hn => by simp [PyData.hasDict] at hn
theorem DaAll.off {Y : Hp} {a : Addr} {o : Obj} {ks : List (Key × V)} (hXY : ∀ b o, b ≠ a → H b = some o → Y b = some o) (ha : H a = some (.frz o (.dK ks))) : ∀ (es : List PyData) (vs : List V), DaAll K H vs es → PyData.hasDictAll es = false → DaAll K Y vs es
  | [], _, h, _ => by
    cases h
    exact .nil
  | e :: es, _, h, hn => by
    simp only [PyData.hasDictAll, Bool.or_eq_false_iff] at hn
    cases h with
    | cons h1 h2 => exact .cons (Da.off hXY ha e _ h1 hn.1) (DaAll.off hXY ha es _ h2 hn.2)
end
end
/-! ### reading them -/
section
variable {K : PySem.W.Frag}
/-! ### new dicts -/
end
end Pb

set_option Elab.async false
set_option linter.all false
set_option maxRecDepth 100000
namespace Pb
open PySem PySem.Spec PyProof.Rows L2
/-! ### a dict of its own in a slot -/
structure SimDO (K : PySem.W.Frag) (S : List Addr) (H0 : Hp) (G : Hp → Prop) (c : Nat) (a : Addr) (ks : List (Key × V)) (kvs : List (PyData × PyData)) (Hx : Hp) (T ow : List Addr) (ρ : Rho) (σ : L2.St) (H : Hp) : Prop where
  so : SimO K (a :: S) Hx G T ow (ρ.set c (.deck a)) σ H
  rc : ρ[c]? = some (.val (dicD kvs))
  ha : H a = some (.dK ks)
  kv : Kvs K (hs T H) ks kvs
  hx : Same H0 Hx
  h0 : H0 a = none
  tS : Tr S H0
section
variable {K : PySem.W.Frag} {S : List Addr} {H0 : Hp} {G : Hp → Prop} {c : Nat} {a : Addr} {ks : List (Key × V)} {kvs : List (PyData × PyData)} {Hx : Hp} {T ow : List Addr} {ρ : Rho} {σ : L2.St} {H H' : Hp}
theorem SimDO.mono (h : SimDO K S H0 G c a ks kvs Hx T ow ρ σ H) (s : Same H H') : SimDO K S H0 G c a ks kvs Hx T ow ρ σ H' :=
  { so := h.so.mono s, rc := h.rc, ha := s _ _ h.ha, kv := h.kv.mono (hs_mono s), hx := h.hx, h0 := h.h0, tS := h.tS }
theorem SimDO.weak {G' : Hp → Prop} (h : SimDO K S H0 G c a ks kvs Hx T ow ρ σ H) (mo : ∀ H H', Same H H' → G' H → G' H') (hg : G' (hs T H)) : SimDO K S H0 G' c a ks kvs Hx T ow ρ σ H :=
  { so := h.so.weak mo hg, rc := h.rc, ha := h.ha, kv := h.kv, hx := h.hx, h0 := h.h0, tS := h.tS }
theorem SimDO.lt (h : SimDO K S H0 G c a ks kvs Hx T ow ρ σ H) : c < ρ.length := (List.getElem?_eq_some_iff.mp h.rc).1
theorem SimDO.at (h : SimDO K S H0 G c a ks kvs Hx T ow ρ σ H) : σ[c]? = some (some (.ref a)) := by
  obtain ⟨o, ho, e⟩ := h.so.slot c (.deck a) (by rw [List.getElem?_set_self h.lt])
  rw [ho, show o = some (.ref a) from e]
theorem SimDO.back {od : Obj} (h : SimDO K S H0 G c a ks kvs Hx T ow ρ σ H) (s : Same (upd H a (.frz od (.dK ks))) H') : Same H (upd H' a (.dK ks)) := fun b o e => by
  by_cases z : b = a
  · rw [z, h.ha] at e
    rw [z, upd_same]
    exact e
  · rw [upd_ne z]
    exact s _ _ (by rw [upd_ne z]; exact e)
/-- a slot set to data -/
theorem SimDO.setV (h : SimDO K S H0 G c a ks kvs Hx T ow ρ σ H) {i : Nat} (hi : i ≠ c) {v : V} {d : PyData} (hd : Da K (hs T H) v d) : SimDO K S H0 G c a ks kvs Hx T ow (ρ.set i (.val d)) (σ.set i (some v)) H :=
  { so := by
      have := h.so.setV (i := i) hd
      rw [List.set_comm _ _ (Ne.symm hi)] at this
      exact this
    rc := by rw [List.getElem?_set_ne hi]; exact h.rc
    ha := h.ha, kv := h.kv, hx := h.hx, h0 := h.h0, tS := h.tS }
end
/-! ### statements -/
section
variable (K : PySem.W.Frag) (cl : Str → Addr)
end
section
variable {K : PySem.W.Frag} {cl : Str → Addr} {E : XK} {c : Nat}
/-! the way in, the way out -/
end
end Pb

set_option Elab.async false
set_option linter.all false
set_option maxRecDepth 100000
namespace Pb
open PySem PySem.Spec PyProof.Rows L2
end Pb

set_option Elab.async false
set_option linter.all false
set_option maxRecDepth 100000
namespace Pb
open PySem PySem.Spec PyProof.Rows L2
/-! ### zip of a list and a tuple -/
section
variable {K : PySem.W.Frag}
end
end Pb

set_option Elab.async false
set_option linter.all false
set_option maxRecDepth 100000
namespace Pb
open PySem PySem.Spec PyProof.Rows L2
section
variable {K : PySem.W.Frag}
end
end Pb

set_option Elab.async false
set_option linter.all false
set_option maxRecDepth 100000
namespace Pb
open PySem PySem.Spec PyProof.Rows L2
end Pb

set_option Elab.async false
set_option linter.all false
namespace Pb
open PySem PySem.Spec PyProof.Rows L2 PyProof
/-! xs.extend(a list of any place) -/
section
variable {K : PySem.W.Frag} {cl : Str → Addr} {E : XK}
end
end Pb

set_option Elab.async false
set_option linter.all false
set_option maxRecDepth 100000
namespace Pb
open PySem PySem.Spec PyProof.Rows L2
section
variable {P : Program} {w : World} {K : PySem.W.Frag} {mg : Str → Option Value} {base : Heap}
def q_is_integer : List PyData → Option PyData := runF 1 1
  ((sRet (eAnd (eUn (fIsi "int") (eVar 0)) (eNot (eUn (fIsi "bool") (eVar 0))))))
def q_is_number_below : List PyData → Option PyData := runF 2 2
  ((sRet (eAnd (eCb q_is_integer (aCons (eVar 0) aNil)) (eChain fLe fLt (eInt 0) (eVar 0) (eVar 1)))))
def q_is_tuple_of : List PyData → Option PyData := runF 2 2
  ((sRet (eAnd (eUn (fIsi "tuple") (eVar 0)) (eOp fEq (eCb fLen (aCons (eVar 0) aNil)) (eVar 1)))))
def q_is_distinct_below : List PyData → Option PyData := runF 3 2
  ((sSeq (sIf (bNot (bTest (eUn (fIsi "tuple") (eVar 0)))) (sRet (eBl false)) sNil)
  (sSeq (sIf (bNot (bTest (eCb fAll (aCons (eL (lLc [2] (iT (eVar 0)) (gN 2) bYes (eCb q_is_number_below (aCons (eVar 2) (aCons (eVar 1) aNil))))) aNil)))) (sRet (eBl false)) sNil)
  (sRet (eOp fEq (eUn fLenSet (eVar 0)) (eCb fLen (aCons (eVar 0) aNil)))))))
end
end Pb

set_option Elab.async false
set_option linter.all false
set_option maxRecDepth 100000
namespace Pb
open PySem PySem.Spec PyProof.Rows L2
/-! ### small defs evaluated -/
theorem q_num (x : PyData) (c : Int) : q_is_number_below [x, .int c] = some (.bool (numBelow x c)) := by
  cases x with
  | int i =>
    show (match (((if decide (0 ≤ i) = true then some (PyData.bool (decide (i < c))) else some (.bool false)) : Option PyData).map Res.rt) with
      | some (.rt e) => some e
      | some (.nx _) => some .none
      | _ => none) = some (.bool (decide (0 ≤ i) && decide (i < c)))
    cases decide (0 ≤ i) <;> rfl
  | none => rfl
  | bool _ => rfl
  | str _ => rfl
  | list _ => rfl
  | tuple _ => rfl
  | dict _ => rfl
theorem num_iff {x : PyData} {c : Int} : numBelow x c = true ↔ ∃ i : Int, x = .int i ∧ 0 ≤ i ∧ i < c := by
  cases x with
  | int i =>
    show (decide (0 ≤ i) && decide (i < c)) = true ↔ _
    simp only [Bool.and_eq_true, decide_eq_true_eq]
    exact ⟨fun h => ⟨i, rfl, h⟩, fun ⟨j, e, h⟩ => by cases e; exact h⟩
  | _ => exact ⟨fun h => (by cases h), fun ⟨_, e, _⟩ => (by cases e)⟩
/-- a tuple of n things -/
def tupLen : PyData → Int → Bool
  | .tuple es, n => decide ((es.length : Int) = n)
  | _, _ => false
theorem q_tupOf (x : PyData) (n : Int) : q_is_tuple_of [x, .int n] = some (.bool (tupLen x n)) := by
  cases x <;> rfl
/-! ### comprehensions over data: tests alone, values alone -/
theorem lLc_map {vs : List Nat} {it : Rho → Option (List PyData)} {τ : PyData → Rho → Option Rho} {φ : Rho → Option PyData} {ρ : Rho} {es : List PyData} (v : PyData → PyData) (hi : it ρ = some es) (hl : es.length ≤ 100000)
    (h : ∀ e ∈ es, ∃ ρ', τ e (wipeR ρ vs) = some ρ' ∧ φ ρ' = some (v e)) : lLc vs it τ bYes φ ρ = some (es.map v) := by
  have := lLc_of (vs := vs) (it := it) (τ := τ) (β := bYes) (φ := φ) (ρ := ρ) (fun _ => true) v hi hl fun e he => by
    obtain ⟨ρ', h1, h2⟩ := h e he
    exact ⟨ρ', h1, rfl, fun _ => h2⟩
  rw [this, List.filter_eq_self.mpr fun _ _ => rfl]
/-- all([..]) -/
theorem fAll_map (b : PyData → Bool) (es : List PyData) : fAll [.list (es.map fun e => .bool (b e))] = some (.bool (es.all b)) := by
  have e : (es.map fun e => PyData.bool (b e)) = (es.map b).map PyData.bool := by rw [List.map_map]; rfl
  show ((bools (es.map fun e => PyData.bool (b e))).map fun bs => PyData.bool (bs.all id)) = _
  rw [e, bools_map]
  show some (PyData.bool ((es.map b).all id)) = _
  rw [List.all_map]
  rfl
theorem inL_ints {d : Int} : ∀ o : List Int, inL (.int d) (o.map PyData.int) = decide (d ∈ o)
  | [] => rfl
  | x :: o => by
    show (PyData.eqv (.int x) (.int d) || inL (.int d) (o.map PyData.int)) = _
    rw [inL_ints o]
    have e : PyData.eqv (.int x) (.int d) = decide (x = d) := by
      simp only [PyData.eqv]
      first | rfl | (by_cases h : x = d <;> simp [h])
    rw [e, Bool.eq_iff_iff, Bool.or_eq_true, decide_eq_true_iff, decide_eq_true_iff, decide_eq_true_iff, List.mem_cons]
    exact ⟨fun h => h.imp Eq.symm id, fun h => h.imp Eq.symm id⟩
theorem flat_ints : ∀ o : List Int, (o.map PyData.int).all flatD = true
  | [] => rfl
  | _ :: o => flat_ints o
theorem fIn_tup (d : Int) (o : List Int) : fIn (.int d) (offD o) = some (.bool (decide (d ∈ o))) := by
  show (if (true && (o.map PyData.int).all flatD) = true then _ else _) = _
  rw [flat_ints, Bool.true_and, if_pos rfl, inL_ints]
theorem okL {ds : List PyData} (h : okD (.tuple ds) = true) : ds.length ≤ 60 := by
  simp only [okD, Bool.and_eq_true, decide_eq_true_eq] at h
  exact h.1
theorem okAll_mem {ds : List PyData} (h : okAll ds = true) : ∀ x ∈ ds, okD x = true := by
  induction ds with
  | nil => exact fun x hx => absurd hx List.not_mem_nil
  | cons d ds ih =>
    simp only [okAll, Bool.and_eq_true] at h
    intro x hx
    rcases List.mem_cons.mp hx with rfl | hx
    · exact h.1
    · exact ih h.2 x hx
theorem okT_mem {ds : List PyData} (h : okD (.tuple ds) = true) : ∀ x ∈ ds, okD x = true := by
  simp only [okD, Bool.and_eq_true, decide_eq_true_eq] at h
  exact okAll_mem h.2
/-! ### is_distinct_below -/
theorem sortU_len_le : ∀ {ns : List Int}, (sortU ns).length ≤ ns.length
  | [] => Nat.le_refl _
  | x :: ns => by
    have ih := sortU_len_le (ns := ns)
    have : ∀ l : List Int, (insU x l).length ≤ l.length + 1 := by
      intro l
      induction l with
      | nil => simp [insU]
      | cons y l ih =>
        unfold insU
        split
        · simp
        · split
          · simp
          · simp only [List.length_cons]
            omega
    have := this (sortU ns)
    show (insU x (sortU ns)).length ≤ _
    rw [List.length_cons]
    omega
theorem insU_len_eq {x : Int} : ∀ {l : List Int}, (insU x l).length = l.length + 1 → x ∉ l ∨ ¬ l.Pairwise (· < ·)
  | [], _ => .inl List.not_mem_nil
  | y :: l, h => by
    by_cases hp : (y :: l).Pairwise (· < ·)
    · obtain ⟨h1, h2⟩ := List.pairwise_cons.mp hp
      unfold insU at h
      split at h
      · rename_i hx
        refine .inl fun hm => ?_
        rcases List.mem_cons.mp hm with rfl | hm
        · omega
        · have := h1 x hm
          omega
      · split at h
        · simp at h
        · rename_i ne
          simp only [List.length_cons] at h
          rcases insU_len_eq (x := x) (l := l) (by omega) with k | k
          · exact .inl fun hm => (List.mem_cons.mp hm).elim ne k
          · exact absurd h2 k
    · exact .inr hp
theorem sortU_len_iff : ∀ {ns : List Int}, (sortU ns).length = ns.length ↔ ns.Nodup
  | [] => by simp [sortU]
  | x :: ns => by
    constructor
    · intro h
      have h' : (insU x (sortU ns)).length = ns.length + 1 := h
      have le := sortU_len_le (ns := ns)
      have le2 : (insU x (sortU ns)).length ≤ (sortU ns).length + 1 := by
        have : ∀ l : List Int, (insU x l).length ≤ l.length + 1 := by
          intro l
          induction l with
          | nil => simp [insU]
          | cons y l ih =>
            unfold insU
            split
            · simp
            · split
              · simp
              · simp only [List.length_cons]
                omega
        exact this _
      have e1 : (sortU ns).length = ns.length := by omega
      refine List.nodup_cons.mpr ⟨?_, sortU_len_iff.mp e1⟩
      rcases insU_len_eq (x := x) (l := sortU ns) (by omega) with k | k
      · exact fun z => k (sortU_mem.mpr z)
      · exact absurd sortU_lt k
    · intro h
      exact nodup_same_len sortU_nodup h fun k => sortU_mem
def distB (x : PyData) (c : Int) : Bool := match x with
  | .tuple es => (es.all fun e => numBelow e c) && match intsD es with
    | some ns => decide (ns.Nodup)
    | none => false
  | _ => false
theorem dist_iff {x : PyData} {c : Int} : distB x c = true ↔ ∃ ns : List Int, x = offD ns ∧ (∀ i ∈ ns, 0 ≤ i ∧ i < c) ∧ ns.Nodup := by
  cases x with
  | tuple es =>
    simp only [distB, Bool.and_eq_true]
    constructor
    · rintro ⟨h1, h2⟩
      obtain ⟨ns, rfl⟩ := all_ints (ds := es) fun e he => by
        obtain ⟨i, rfl, _⟩ := num_iff.mp (List.all_eq_true.mp h1 e he)
        exact isInt_iff.mpr ⟨i, rfl⟩
      rw [intsD_ints] at h2
      refine ⟨ns, rfl, fun i hi => ?_, of_decide_eq_true h2⟩
      obtain ⟨j, e, hj⟩ := num_iff.mp (List.all_eq_true.mp h1 _ (List.mem_map_of_mem hi))
      cases e
      exact hj
    · rintro ⟨ns, e, h1, h2⟩
      cases e
      refine ⟨List.all_eq_true.mpr fun e he => ?_, ?_⟩
      · obtain ⟨i, hi, rfl⟩ := List.mem_map.mp he
        exact num_iff.mpr ⟨i, rfl, h1 i hi⟩
      · rw [intsD_ints]
        exact decide_eq_true h2
  | _ => exact ⟨fun h => (by cases h), fun ⟨_, e, _⟩ => (by cases e)⟩
theorem lenSet_ints {ns : List Int} (h : ns.length ≤ 1000) : fLenSet (offD ns) = some (.int ((sortU ns).length : Nat)) := by
  show (Option.bind (intsD (ns.map PyData.int)) _) = _
  rw [intsD_ints]
  show (if ns.length ≤ 1000 then _ else _) = _
  rw [if_pos h]
theorem fEq_int (i j : Int) : fEq (.int i) (.int j) = some (.bool (decide (i = j))) := rfl
theorem q_dist {x : PyData} (c : Int) (ok : okD x = true) : q_is_distinct_below [x, .int c] = some (.bool (distB x c)) := by
  cases x with
  | tuple es =>
    have hl := okL ok
    refine runF_of rfl ((sSeq_nx ((sIf_f rfl).trans rfl)).trans ?_)
    have k : lLc [2] (iT (eVar 0)) (gN 2) bYes (eCb q_is_number_below (aCons (eVar 2) (aCons (eVar 1) aNil))) [.val (.tuple es), .val (.int c), .no] = some (es.map fun e => .bool (numBelow e c)) :=
      lLc_map _ rfl (by omega) fun e _ => ⟨_, rfl, eCb_of (aCons_of rfl (aCons_of rfl rfl)) (q_num e c)⟩
    have k2 := bNot_of (bTest_of (φ := eCb fAll (aCons (eL (lLc [2] (iT (eVar 0)) (gN 2) bYes (eCb q_is_number_below (aCons (eVar 2) (aCons (eVar 1) aNil))))) aNil)) (eCb_of (aCons_of (eL_of k) rfl) (fAll_map (fun e => numBelow e c) es)))
    cases ha : es.all fun e => numBelow e c with
    | false =>
      rw [ha] at k2
      refine (sSeq_rt ((sIf_t k2).trans rfl)).trans ?_
      simp only [distB, ha, Bool.false_and]
    | true =>
      rw [ha] at k2
      refine (sSeq_nx ((sIf_f k2).trans rfl)).trans (sRet_of ?_)
      obtain ⟨ns, rfl⟩ := all_ints (ds := es) fun e he => by
        obtain ⟨i, rfl, _⟩ := num_iff.mp (List.all_eq_true.mp ha e he)
        exact isInt_iff.mpr ⟨i, rfl⟩
      rw [List.length_map] at hl
      refine (eOp_of (f := fEq) (x := .int ((sortU ns).length : Nat)) (y := .int (ns.length : Nat)) (lenSet_ints (by omega)) ?_ (fEq_int _ _)).trans ?_
      · show some (PyData.int (((ns.map PyData.int).length : Nat) : Int)) = _
        rw [List.length_map]
      · simp only [distB, ha, Bool.true_and, intsD_ints]
        congr 2
        rw [Bool.eq_iff_iff, decide_eq_true_iff, decide_eq_true_iff, ← sortU_len_iff]
        omega
  | _ => rfl
end Pb

set_option Elab.async false
set_option linter.all false
set_option maxRecDepth 100000
namespace Pb
open PySem PySem.Spec PyProof.Rows L2
/-! ### loops that check each item -/
/-! ### enumerate, items -/
theorem mem_enumD {xs : List PyData} {e : PyData} : e ∈ enumD xs ↔ ∃ (k : Nat) (x : PyData), xs[k]? = some x ∧ e = .tuple [.int (k : Int), x] := by
  unfold enumD
  rw [List.mem_map]
  constructor
  · rintro ⟨⟨x, k⟩, h, rfl⟩
    exact ⟨k, x, List.mem_zipIdx_iff_getElem?.mp h, rfl⟩
  · rintro ⟨k, x, h, rfl⟩
    exact ⟨(x, k), List.mem_zipIdx_iff_getElem?.mpr h, rfl⟩
theorem ixT_at {xs : List PyData} {k : Nat} {x : PyData} (h : xs[k]? = some x) : fIxT (.tuple xs) (.int (k : Int)) = some x := atI_nat h
theorem ixL_at {xs : List PyData} {k : Nat} {x : PyData} (h : xs[k]? = some x) : fIxL (.list xs) (.int (k : Int)) = some x := atI_nat h
theorem ixT_int {ns : List Int} {k : Nat} {i : Int} (h : ns[k]? = some i) : fIxT (offD ns) (.int (k : Int)) = some (.int i) := ixT_at (by rw [List.getElem?_map, h]; rfl)
theorem ixT_off {os : List (List Int)} {k : Nat} {o : List Int} (h : os[k]? = some o) : fIxT (.tuple (os.map offD)) (.int (k : Int)) = some (offD o) := ixT_at (by rw [List.getElem?_map, h]; rfl)
theorem len_off (ns : List Int) : fLen [offD ns] = some (.int (ns.length : Nat)) := by
  show some (PyData.int (((ns.map PyData.int).length : Nat) : Int)) = _
  rw [List.length_map]
theorem len_offs (os : List (List Int)) : fLen [.tuple (os.map offD)] = some (.int (os.length : Nat)) := by
  show some (PyData.int (((os.map offD).length : Nat) : Int)) = _
  rw [List.length_map]
end Pb

set_option Elab.async false
set_option linter.all false
set_option maxRecDepth 100000
namespace Pb
open PySem PySem.Spec PyProof.Rows L2
/-! ### data of a bounded size -/
structure Gw (W D : Nat) (e : PyData) : Prop where
  ok : okD e = true
  w : wt e ≤ W
  dp : e.depth ≤ D
theorem Gw.mono {W W' D D' : Nat} {e : PyData} (h : Gw W D e) (hW : W ≤ W' := by omega) (hD : D ≤ D' := by omega) : Gw W' D' e := ⟨h.ok, Nat.le_trans h.w hW, Nat.le_trans h.dp hD⟩
/-! ### a well-formed table -/
structure Tb (m : Nat) (os : List (List Int)) : Prop where
  m1 : 1 ≤ m
  m10 : m ≤ 10
  len : os.length ≤ 10
  off : ∀ o ∈ os, OffOk m o
theorem eTup2_of {φ ψ : Rho → Option PyData} {ρ : Rho} {x y : PyData} (h : φ ρ = some x) (k : ψ ρ = some y) : eTup (aCons φ (aCons ψ aNil)) ρ = some (.tuple [x, y]) := by
  unfold eTup
  rw [aCons_of h (aCons_of k rfl)]
  rfl
theorem lim_of {xs : List PyData} (hl : xs.length ≤ 100000) : lim xs = some xs := by
  unfold lim
  rw [if_pos hl]
end Pb

set_option Elab.async false
set_option linter.all false
set_option maxRecDepth 100000
namespace Pb
open PySem PySem.Spec PyProof.Rows L2
section
variable {P : Program} {w : World} {K : PySem.W.Frag} {mg : Str → Option Value} {base : Heap}
end
end Pb

set_option Elab.async false
set_option linter.all false
set_option maxRecDepth 100000
namespace Pb
open PySem PySem.Spec PyProof.Rows L2
/-! ### orders -/
def OrdP (m : Nat) (ns : List Int) : Prop := (∀ i ∈ ns, 0 ≤ i ∧ i < (m : Int)) ∧ ns.Nodup ∧ ns.length = m
theorem sub_full {l r : List Int} (h : l.Nodup) (hl : r.length ≤ l.length) (hs : ∀ i ∈ l, i ∈ r) : ∀ i ∈ r, i ∈ l := by
  intro i hi
  by_cases z : i ∈ l
  · exact z
  · have := nodup_len (l := i :: l) (r := r) (List.nodup_cons.mpr ⟨z, h⟩) fun j hj => by
      rcases List.mem_cons.mp hj with rfl | hj
      · exact hi
      · exact hs j hj
    rw [List.length_cons] at this
    omega
/-! ### simple demands -/
def pairB (a b : List Int) : Bool := !(!(a.filter fun i => !decide (i ∈ b)).isEmpty && !(b.filter fun i => !decide (i ∈ a)).isEmpty)
def partsL (os : List (List Int)) (ns : List Int) (d : Int) : List (List Int) := (os.filter fun o => decide (d ∈ o)).map fun o => o.filter fun i => decide (i ∈ ns)
def fineB (os : List (List Int)) (ns : List Int) (d : Int) : Bool := (partsL os ns d).all fun a => (partsL os ns d).all fun b => pairB a b
def incl (a b : List Int) : Bool := (a.filter fun i => !decide (i ∈ b)).isEmpty
theorem incl_iff {a b : List Int} : incl a b = true ↔ ∀ i ∈ a, i ∈ b := by
  unfold incl
  rw [List.isEmpty_iff, List.filter_eq_nil_iff]
  simp
theorem pairB_iff {a b : List Int} : pairB a b = true ↔ (∀ i ∈ a, i ∈ b) ∨ (∀ i ∈ b, i ∈ a) := by
  rw [← incl_iff, ← incl_iff]
  unfold pairB incl
  cases (a.filter fun i => !decide (i ∈ b)).isEmpty <;> cases (b.filter fun i => !decide (i ∈ a)).isEmpty <;> decide
theorem fineB_iff {os : List (List Int)} {ns : List Int} {d : Int} : fineB os ns d = true ↔ ∀ o ∈ os, ∀ o' ∈ os, d ∈ o → d ∈ o' → (∀ i ∈ o, i ∈ ns → i ∈ o') ∨ (∀ i ∈ o', i ∈ ns → i ∈ o) := by
  unfold fineB
  rw [List.all_eq_true]
  constructor
  · intro h o ho o' ho' hd hd'
    have h1 : (o.filter fun i => decide (i ∈ ns)) ∈ partsL os ns d := List.mem_map.mpr ⟨o, List.mem_filter.mpr ⟨ho, decide_eq_true hd⟩, rfl⟩
    have h2 : (o'.filter fun i => decide (i ∈ ns)) ∈ partsL os ns d := List.mem_map.mpr ⟨o', List.mem_filter.mpr ⟨ho', decide_eq_true hd'⟩, rfl⟩
    rcases pairB_iff.mp (List.all_eq_true.mp (h _ h1) _ h2) with k | k
    · exact .inl fun i hi hn => (List.mem_filter.mp (k i (List.mem_filter.mpr ⟨hi, decide_eq_true hn⟩))).1
    · exact .inr fun i hi hn => (List.mem_filter.mp (k i (List.mem_filter.mpr ⟨hi, decide_eq_true hn⟩))).1
  · intro h a ha
    rw [List.all_eq_true]
    intro b hb
    obtain ⟨o, h1, rfl⟩ := List.mem_map.mp ha
    obtain ⟨o', h2, rfl⟩ := List.mem_map.mp hb
    obtain ⟨g1, g2⟩ := List.mem_filter.mp h1
    obtain ⟨g3, g4⟩ := List.mem_filter.mp h2
    refine pairB_iff.mpr ?_
    rcases h o g1 o' g3 (of_decide_eq_true g2) (of_decide_eq_true g4) with k | k
    · exact .inl fun i hi => by
        obtain ⟨x, y⟩ := List.mem_filter.mp hi
        exact List.mem_filter.mpr ⟨k i x (of_decide_eq_true y), y⟩
    · exact .inr fun i hi => by
        obtain ⟨x, y⟩ := List.mem_filter.mp hi
        exact List.mem_filter.mpr ⟨k i x (of_decide_eq_true y), y⟩
theorem fineB_sub {os : List (List Int)} {ns ms : List Int} {d : Int} (h : fineB os ns d = true) (hs : ∀ i ∈ ms, i ∈ ns) : fineB os ms d = true := by
  rw [fineB_iff] at h ⊢
  intro o ho o' ho' hd hd'
  exact (h o ho o' ho' hd hd').imp (fun k i hi hn => k i hi (hs i hn)) (fun k i hi hn => k i hi (hs i hn))
end Pb

set_option Elab.async false
set_option linter.all false
set_option maxRecDepth 100000
namespace Pb
open PySem PySem.Spec PyProof.Rows L2
theorem lSl_of {φ : Rho → Option PyData} {lo hi : Rho → Option (Option Int)} {ρ : Rho} {es : List PyData} {l h : Option Int} (h1 : φ ρ = some (.list es)) (h2 : lo ρ = some l) (h3 : hi ρ = some h) : lSl φ lo hi ρ = some (cutG es l h) := by
  unfold lSl
  rw [h1]
  show ((lo ρ).bind fun l => (hi ρ).map fun h => cutG es l h) = _
  rw [h2, h3]
  rfl
/-- _law_is_nested -/
def nestB (os : List (List Int)) (ns : List Int) : Bool := (List.range ns.length).all fun k => fineB os (ns.drop k) (ns.getD k 0)
end Pb

set_option Elab.async false
set_option linter.all false
set_option maxRecDepth 100000
namespace Pb
open PySem PySem.Spec PyProof.Rows L2
/-! ### loops that return at the first hit -/
/-! ### covering offers -/
def covL (os : List (List Int)) (d : Int) : List Int := (os.zipIdx.filter fun p => decide (d ∈ p.1)).map fun p => ((p.2 : Nat) : Int)
theorem mem_covL {os : List (List Int)} {d k : Int} : k ∈ covL os d ↔ ∃ (j : Nat) (o : List Int), os[j]? = some o ∧ d ∈ o ∧ k = (j : Int) := by
  unfold covL
  rw [List.mem_map]
  constructor
  · rintro ⟨⟨o, j⟩, h, rfl⟩
    obtain ⟨h1, h2⟩ := List.mem_filter.mp h
    exact ⟨j, o, List.mem_zipIdx_iff_getElem?.mp h1, of_decide_eq_true h2, rfl⟩
  · rintro ⟨j, o, h1, h2, rfl⟩
    exact ⟨(o, j), List.mem_filter.mpr ⟨List.mem_zipIdx_iff_getElem?.mpr h1, decide_eq_true h2⟩, rfl⟩
/-! ### conflicts -/
structure Conf (os : List (List Int)) (d : Int) (later : List Int) (i j a b : Int) (oa ob : List Int) : Prop where
  a0 : 0 ≤ a
  b0 : 0 ≤ b
  ha : os[a.toNat]? = some oa
  hb : os[b.toNat]? = some ob
  da : d ∈ oa
  db : d ∈ ob
  il : i ∈ later
  jl : j ∈ later
  ia : i ∈ oa
  ib : i ∉ ob
  jb : j ∈ ob
  ja : j ∉ oa
def offAt (os : List (List Int)) (a : Int) : List Int := os.getD a.toNat []
end Pb

set_option Elab.async false
set_option linter.all false
set_option maxRecDepth 100000
namespace Pb
open PySem PySem.Spec PyProof.Rows L2
/-! ### find_conflict, is_nested_order -/
theorem nestB_iff {os : List (List Int)} {ns : List Int} : nestB os ns = true ↔ ∀ j d, ns[j]? = some d → fineB os (ns.drop j) d = true := by
  unfold nestB
  rw [List.all_eq_true]
  constructor
  · intro h j d hd
    have := h j (List.mem_range.mpr (List.getElem?_eq_some_iff.mp hd).1)
    rwa [List.getD_eq_getElem?_getD, hd] at this
  · intro h k hk
    have hk' := List.mem_range.mp hk
    rw [List.getD_eq_getElem?_getD, List.getElem?_eq_getElem hk']
    exact h k _ (List.getElem?_eq_getElem hk')
end Pb

set_option Elab.async false
set_option linter.all false
set_option maxRecDepth 100000
namespace Pb
open PySem PySem.Spec PyProof.Rows L2
theorem whR_nx {β : Rho → Option Bool} {ψ : Rho → Option Res} {n : Nat} {ρ ρ' : Rho} (h : β ρ = some true) (hb : ψ ρ = some (.nx ρ')) : whR β ψ (n + 1) ρ = whR β ψ n ρ' := by
  show (β ρ).bind _ = _
  rw [h]
  show (ψ ρ).bind _ = _
  rw [hb]
  rfl
theorem whR_no {β : Rho → Option Bool} {ψ : Rho → Option Res} {n : Nat} {ρ : Rho} (h : β ρ = some false) : whR β ψ (n + 1) ρ = some (.nx ρ) := by
  show (β ρ).bind _ = _
  rw [h]
  rfl
end Pb

set_option Elab.async false
set_option linter.all false
set_option maxRecDepth 100000
namespace Pb
open PySem PySem.Spec PyProof.Rows L2
/-! ### what is told, and what is the same, as functions -/
end Pb

set_option Elab.async false
set_option linter.all false
set_option maxRecDepth 100000
namespace Pb
open PySem PySem.Spec PyProof.Rows L2
theorem ixL_ints {vs : List Int} {j : Int} (h0 : 0 ≤ j) (h1 : j < vs.length) : ∃ v ∈ vs, fIxL (.list (vs.map PyData.int)) (.int j) = some (.int v) := by
  obtain ⟨k, rfl⟩ : ∃ k : Nat, j = (k : Int) := ⟨j.toNat, by omega⟩
  have hk : k < vs.length := by omega
  exact ⟨vs[k], List.getElem_mem hk, ixL_at (by rw [List.getElem?_map, List.getElem?_eq_getElem hk]; rfl)⟩
theorem lcW_yes {τ : PyData → Rho → Option Rho} {Φ : Rho → Int → (PyData → Int → Prop) → Prop} {ρ ρ' : Rho} {e : PyData} {es : List PyData} {n : Int} {P : List PyData → Int → Prop} (h : τ e ρ = some ρ') (k : Φ ρ' n fun y n1 => lcW τ bYes Φ ρ es n1 fun ys n2 => P (y :: ys) n2) : lcW τ bYes Φ ρ (e :: es) n P :=
  ⟨ρ', h, true, rfl, by rw [if_pos rfl]; exact k⟩
end Pb

set_option Elab.async false
set_option linter.all false
set_option maxRecDepth 100000
namespace Pb
open PySem PySem.Spec PyProof.Rows L2
section
variable {P : Program} {w : World} {K : PySem.W.Frag} {mg : Str → Option Value} {base : Heap}
end
end Pb

set_option Elab.async false
set_option linter.all false
set_option maxRecDepth 100000
namespace Pb
open PySem PySem.Spec PyProof.Rows L2
structure Asc (c : Int) (x : PyData) (ns : List Int) : Prop where
  eq : x = offD ns
  ran : ∀ i ∈ ns, 0 ≤ i ∧ i < c
  asc : ns.Pairwise (· < ·)
theorem off_inj {a b : List Int} (h : offD a = offD b) : a = b := by
  have : a.map PyData.int = b.map PyData.int := by injection h
  exact List.map_inj_right (fun x y z => by injection z) |>.mp this
end Pb
namespace Pb
open PySem PySem.Spec PyProof.Rows L2
end Pb

set_option Elab.async false
set_option linter.all false
set_option maxRecDepth 100000
namespace Pb
open PySem PySem.Spec PyProof.Rows L2
section
variable {P : Program} {w : World} {K : PySem.W.Frag} {mg : Str → Option Value} {base : Heap}
def w__law_amount : Addr → List PyData → Int → (PyData → Int → Prop) → Prop := runW 1 1 fun d =>
  (twRet (wOp fIxL (wL (wfLst (wCons (wP (eInt 0)) (wCons (wP (eInt 1)) (wCons (wDraw d 0 WNextW (wCons (wP (eInt 4)) wNil)) (wCons (wDraw d 0 WNextW (wCons (wP (eInt 12)) wNil)) (wCons (wDraw d 0 WNextW (wCons (wP (eOp fAdd (eOp fPow (eInt 10) (eInt 12)) (eInt 1))) wNil)) (wCons (wP (eOp fPow (eInt 10) (eInt 12))) wNil)))))))) (wDraw d 0 WNextW (wCons (wP (eInt 6)) wNil))))
def w__law_data : Addr → List PyData → Int → (PyData → Int → Prop) → Prop := runW 6 2 fun d =>
  (twSeq (twSet (gN 2) (wOp fIxL (wL (wfP (lLst (aCons (eInt 3) (aCons (eInt 12) (aCons (eInt 0) aNil)))))) (wDraw d 0 WNextW (wCons (wP (eInt 3)) wNil))))
  (twSeq (twP (sSet (gN 3) (eOp fAdd (eOp fIxT (eVar 1) (eInt 0)) (eCb fLen (aCons (eOp fIxT (eVar 1) (eInt 1)) aNil)))))
  (twSeq (twSet (gN 4) (wL (wfLc [5] (iR (eVar 3)) (gN 5) bYes (wDraw d 0 WNextW (wCons (wP (eOp fAdd (eVar 2) (eInt 1))) wNil)))))
  (twSeq (twIf (bTest (eOp fEq (eVar 2) (eInt 0))) (twSet (gN 4) (wL (wfLc [5] (iR (eVar 3)) (gN 5) bYes (wDraw d 0 w__law_amount wNil)))) (twP sNil))
  (twP (sRet (eTup (aCons (eCb fTupOf (aCons (eL (lSl (eVar 4) (oSome (eOp fIxT (eVar 1) (eInt 0))) oNone)) aNil)) (aCons (eCb fTupOf (aCons (eL (lSl (eVar 4) oNone (oSome (eOp fIxT (eVar 1) (eInt 0))))) aNil)) aNil)))))))))
end
end Pb

set_option Elab.async false
set_option linter.all false
set_option maxRecDepth 100000
namespace Pb
open PySem PySem.Spec PyProof.Rows L2
theorem off_ints (o : List Int) : (o.map PyData.int).map intOf = o := by
  rw [List.map_map]
  exact List.map_id'' (fun _ => rfl) o
theorem cov_nodup (os : List (List Int)) (d : Int) : (covL os d).Nodup := by
  have e : covL os d = ((os.zipIdx.filter fun p => decide (d ∈ p.1)).map Prod.snd).map fun (k : Nat) => (k : Int) := by
    rw [List.map_map]
    rfl
  rw [e]
  refine List.Pairwise.map _ (fun a b h => by omega) (R := fun a b => a ≠ b) ?_
  have s : ((os.zipIdx.filter fun p => decide (d ∈ p.1)).map Prod.snd).Sublist (os.zipIdx.map Prod.snd) := (List.filter_sublist).map _
  rw [List.zipIdx_map_snd] at s
  exact List.Nodup.sublist s List.nodup_range'
def In0 (M : Int) (ns : List Int) : Prop := ∀ i ∈ ns, 0 ≤ i ∧ i ≤ M
theorem In0.set {M : Int} {ns : List Int} (h : In0 M ns) {k : Nat} {v : Int} (hv : 0 ≤ v ∧ v ≤ M) : In0 M (ns.set k v) := fun i hi => by
  rcases List.mem_or_eq_of_mem_set hi with hi | rfl
  · exact h i hi
  · exact hv
theorem In0.get {M : Int} {ns : List Int} (h : In0 M ns) {k : Nat} (hk : k < ns.length) : 0 ≤ ns.getD k 0 ∧ ns.getD k 0 ≤ M := by
  rw [List.getD_eq_getElem?_getD, List.getElem?_eq_getElem hk]
  exact h _ (List.getElem_mem hk)
theorem amount {d : Addr} {n : Int} (hn : n < 2 ^ 45) {P : PyData → Int → Prop} (h : ∀ v n' : Int, 0 ≤ v → v ≤ (1000000000000 : Int) → n' ≤ n + 4 → P (.int v) n') : w__law_amount d [] n P := by
  refine ⟨rfl, ?_⟩
  refine ⟨_, rfl, _, rfl, rfl, _, rfl, 4, rfl, by omega, by omega, by omega, fun a n1 a0 a1 le1 => ?_⟩
  refine ⟨rfl, _, rfl, 12, rfl, by omega, by omega, by omega, fun b n2 b0 b1 le2 => ?_⟩
  refine ⟨rfl, _, rfl, 1000000000001, rfl, by omega, by omega, by omega, fun c n3 c0 c1 le3 => ?_⟩
  refine ⟨_, rfl, _, rfl, ?_⟩
  refine ⟨rfl, _, rfl, 6, rfl, by omega, by omega, by omega, fun j n4 j0 j6 le4 => ?_⟩
  obtain ⟨v, hv, e⟩ := ixL_ints (vs := [0, 1, a, b, c, 1000000000000]) j0 (by simpa using j6)
  simp only [List.mem_cons, List.not_mem_nil, or_false] at hv
  exact ⟨_, e, h v n4 (by omega) (by omega) (by omega)⟩
/-- a comprehension whose items are drawn ints -/
theorem lcW_ints {τ : PyData → Rho → Option Rho} {Φ : Rho → Int → (PyData → Int → Prop) → Prop} {ρ : Rho} {c B : Int} (c0 : 0 ≤ c) : ∀ {es : List PyData}, (∀ e ∈ es, ∀ (n : Int) (Q : PyData → Int → Prop), n < B → (∀ v n' : Int, 0 ≤ v → v ≤ (1000000000000 : Int) → n' ≤ n + c → Q (.int v) n') → ∃ ρ', τ e ρ = some ρ' ∧ Φ ρ' n Q) →
    ∀ {n : Int} {P : List PyData → Int → Prop}, n + c * es.length < B → (∀ (ks : List Int) (n' : Int), ks.length = es.length → In0 (1000000000000 : Int) ks → n' ≤ n + c * es.length → P (ks.map PyData.int) n') → lcW τ bYes Φ ρ es n P
  | [], _, n, P, _, h => h [] n rfl (fun _ z => absurd z List.not_mem_nil) (by simp)
  | e :: es, hs, n, P, hn, h => by
    have e1 : c * ((e :: es).length : Int) = c + c * (es.length : Int) := by
      rw [List.length_cons, Int.natCast_add, Int.mul_add]
      simp
      omega
    rw [e1] at hn h
    have cl : 0 ≤ c * (es.length : Int) := Int.mul_nonneg c0 (by omega)
    obtain ⟨ρ', h1, h2⟩ := hs e List.mem_cons_self n (fun y n1 => lcW τ bYes Φ ρ es n1 fun ys n2 => P (y :: ys) n2) (by omega) fun v n' v0 v1 le => by
      refine lcW_ints c0 (fun x hx => hs x (List.mem_cons_of_mem _ hx)) (by omega) fun ks n2 hl hk le2 => ?_
      exact h (v :: ks) n2 (by rw [List.length_cons, hl, List.length_cons]) (fun i hi => by
        rcases List.mem_cons.mp hi with rfl | hi
        · exact ⟨v0, v1⟩
        · exact hk i hi) (by omega)
    exact lcW_yes h1 h2
theorem take_ints {ks : List Int} {m : Nat} (h : m ≤ ks.length) : cutG (ks.map PyData.int) none (some (m : Int)) = (ks.take m).map PyData.int ∧ cutG (ks.map PyData.int) (some (m : Int)) none = (ks.drop m).map PyData.int := by
  constructor
  · rw [cutG_take (by rw [List.length_map]; exact h), List.map_take]
  · rw [cutG_drop (by rw [List.length_map]; exact h), List.map_drop]
theorem data {d : Addr} {m : Nat} {os : List (List Int)} (t : Tb m os) {n : Int} (hn : n < 2 ^ 40) {P : PyData → Int → Prop} (h : ∀ (ps qs : List Int) (n' : Int), ps.length = os.length → qs.length = m → In0 (1000000000000 : Int) ps → In0 (1000000000000 : Int) qs → n' ≤ n + 200 → P (.tuple [offD ps, offD qs]) n') : w__law_data d [tabD m os] n P := by
  have m10 := t.m10
  have ol := t.len
  refine ⟨rfl, ?_⟩
  refine ⟨[.int 3, .int 12, .int 0], rfl, rfl, _, rfl, 3, rfl, by omega, by omega, by omega, fun j n1 j0 j3 le1 => ?_⟩
  obtain ⟨w, hw, hwe⟩ := ixL_ints (vs := [3, 12, 0]) j0 (by simpa using j3)
  simp only [List.mem_cons, List.not_mem_nil, or_false] at hw
  refine ⟨_, hwe, _, rfl, ?_⟩
  refine ⟨.nx [.deck d, .val (tabD m os), .val (.int w), .val (.int ((m + os.length : Nat) : Int)), .no, .no], sSet_of (eOp_of (x := .int m) (y := .int (os.length : Nat)) rfl (eCb_of (aCons_of rfl rfl) (len_offs os)) ?_), ?_⟩
  · show some (PyData.int ((m : Int) + (os.length : Int))) = _
    rw [Int.natCast_add]
  have hi : ∀ s4 : Sl, ((iR (eVar 3)) [.deck d, .val (tabD m os), .val (.int w), .val (.int ((m + os.length : Nat) : Int)), s4, .no]).bind lim = some (rngD 0 ((m + os.length : Nat) : Int)) := fun s4 => by
    rw [iR_of (j := ((m + os.length : Nat) : Int)) rfl (by omega)]
    exact lim_of (by rw [rngD_len]; omega)
  have rl : (rngD 0 ((m + os.length : Nat) : Int)).length = m + os.length := by rw [rngD_len]; omega
  have fin : ∀ (ks : List Int) (n' : Int), ks.length = m + os.length → In0 (1000000000000 : Int) ks → n' ≤ n + 200 → (twP (sRet (eTup (aCons (eCb fTupOf (aCons (eL (lSl (eVar 4) (oSome (eOp fIxT (eVar 1) (eInt 0))) oNone)) aNil)) (aCons (eCb fTupOf (aCons (eL (lSl (eVar 4) oNone (oSome (eOp fIxT (eVar 1) (eInt 0))))) aNil)) aNil)))))
      [.deck d, .val (tabD m os), .val (.int w), .val (.int ((m + os.length : Nat) : Int)), .val (.list (ks.map PyData.int)), .no] n' fun r k' => match r with
        | .rt e => P e k'
        | .nx _ => P .none k'
        | _ => False := fun ks n' hl hk le => by
    have cut := take_ints (ks := ks) (m := m) (by omega)
    refine ⟨.rt (.tuple [offD (ks.drop m), offD (ks.take m)]), sRet_of (eTup2_of (eCb_of (aCons_of (eL_of ((lSl_of (es := ks.map PyData.int) (l := some (m : Int)) (h := none) rfl rfl rfl).trans (congrArg some cut.2))) rfl) rfl) (eCb_of (aCons_of (eL_of ((lSl_of (es := ks.map PyData.int) (l := none) (h := some (m : Int)) rfl rfl rfl).trans (congrArg some cut.1))) rfl) rfl)), ?_⟩
    exact h _ _ n' (by rw [List.length_drop]; omega) (by rw [List.length_take]; omega) (fun i hi => hk i (List.mem_of_mem_drop hi)) (fun i hi => hk i (List.mem_of_mem_take hi)) le
  refine ⟨_, hi .no, lcW_ints (c := 1) (B := 2 ^ 44) (by omega) (fun e he n2 Q hn2 hQ => ?_) (by rw [rl]; omega) fun ks n2 hl hk le2 => ?_⟩
  · exact ⟨_, rfl, rfl, _, rfl, w + 1, rfl, by omega, by omega, by omega, fun v n3 v0 v1 le3 => hQ v n3 v0 (by omega) (by omega)⟩
  refine ⟨_, rfl, ?_⟩
  rw [rl] at hl le2
  by_cases w0 : w = 0
  · refine ⟨true, bTest_of (eOp_of rfl rfl (by rw [w0]; rfl)), ?_⟩
    rw [if_pos rfl]
    refine ⟨_, hi (.val (.list (ks.map PyData.int))), lcW_ints (c := 4) (B := 2 ^ 44) (by omega) (fun e he n3 Q hn3 hQ => ?_) (by rw [rl]; omega) fun ks2 n3 hl2 hk2 le3 => ?_⟩
    · exact ⟨_, rfl, rfl, amount (by omega) hQ⟩
    refine ⟨_, rfl, ?_⟩
    rw [rl] at hl2 le3
    exact fin ks2 n3 hl2 hk2 (by omega)
  · refine ⟨false, bTest_of (eOp_of (x := .int w) (y := .int 0) rfl rfl (by rw [fEq_int, decide_eq_false w0])), ?_⟩
    rw [if_neg (by decide)]
    exact ⟨_, rfl, fin ks n2 hl hk (by omega)⟩
def Sm (ns : List Int) : Prop := ∀ i ∈ ns, i.natAbs < 10 ^ 80
theorem big13 : (10000000000000 : Nat) < 10 ^ 59 ∧ (10 : Nat) ^ 59 + 1 + 1 < 10 ^ 80 := by decide +kernel
theorem In0.sm {ns : List Int} (h : In0 (1000000000000 : Int) ns) : Sm ns := fun i hi => by
  have := h i hi
  have := big13
  omega
/-! ### a def handed on and called -/
end Pb

set_option Elab.async false
set_option linter.all false
set_option maxRecDepth 100000
namespace Pb
open PySem PySem.Spec PyProof.Rows L2
section
variable {P : Program} {w : World} {K : PySem.W.Frag} {mg : Str → Option Value} {base : Heap}
end
end Pb

set_option Elab.async false
set_option linter.all false
set_option maxRecDepth 100000
namespace Pb
open PySem PySem.Spec PyProof.Rows L2
/-! ### choices and their costs -/
def paid (ns o : List Int) : Int := (o.map fun d => ns.getD d.toNat 0).sum
def coveredB (os : List (List Int)) (ks : List Int) (d : Int) : Bool := ks.any fun k => decide (d ∈ offAt os k)
def penL (qs : List Int) (b : Int → Bool) : Int := ((qs.zipIdx.filter fun p => !b ((p.2 : Nat) : Int)).map Prod.fst).sum
def costL (os : List (List Int)) (ps qs ks : List Int) : Int := paid ps ks + penL qs (coveredB os ks)
theorem sFor_of {it : Rho → Option (List PyData)} {τ : PyData → Rho → Option Rho} {ψ : Rho → Option Res} {ρ : Rho} {es : List PyData} {r : Option Res} (h : it ρ = some es) (k : forR (fun e ρ => (τ e ρ).bind ψ) es ρ = r) : sFor it τ ψ ρ = r := by
  unfold sFor
  rw [h]
  exact k
/-! the mask of what is covered -/
def orN (os : List (List Int)) (ks : List Int) (c : Nat) : Nat := ks.foldl (fun c k => c ||| maskN (offAt os k)) c
theorem orN_bit {m : Nat} {os : List (List Int)} (h : ∀ o ∈ os, OffOk m o) : ∀ (ks : List Int) (c j : Nat), (∀ k ∈ ks, 0 ≤ k ∧ k < (os.length : Int)) → (orN os ks c).testBit j = (c.testBit j || coveredB os ks (j : Int))
  | [], c, j, _ => by simp [orN, coveredB]
  | k :: ks, c, j, hk => by
    have ih := orN_bit h ks (c ||| maskN (offAt os k)) j fun x hx => hk x (List.mem_cons_of_mem _ hx)
    have kk := hk k List.mem_cons_self
    have oo : OffOk m (offAt os k) := h _ (by
      unfold offAt
      rw [List.getD_eq_getElem?_getD, List.getElem?_eq_getElem (by omega : k.toNat < os.length)]
      exact List.getElem_mem _)
    have e : orN os (k :: ks) c = orN os ks (c ||| maskN (offAt os k)) := rfl
    rw [e, ih, Nat.testBit_or, testBit_maskN (oo.2.imp fun h => by omega) (fun i hi => (oo.1 i hi).1)]
    simp only [coveredB, List.any_cons, Bool.or_assoc]
theorem offAt_get {os : List (List Int)} {k : Int} (h : 0 ≤ k ∧ k < (os.length : Int)) : os[k.toNat]? = some (offAt os k) := by
  unfold offAt
  rw [List.getD_eq_getElem?_getD, List.getElem?_eq_getElem (by omega : k.toNat < os.length)]
  rfl
theorem offAt_mem {os : List (List Int)} {k : Int} (h : 0 ≤ k ∧ k < (os.length : Int)) : offAt os k ∈ os := List.mem_of_getElem? (offAt_get h)
theorem sAug_of {i : Nat} {f : PyData → PyData → Option PyData} {φ : Rho → Option PyData} {ρ : Rho} {x y z : PyData} (h1 : rv ρ i = some x) (h2 : φ ρ = some y) (h3 : f x y = some z) : sAug i f φ ρ = some (.nx (ρ.set i (.val z))) := by
  unfold sAug
  rw [h1, h2]
  show (f x y).map _ = _
  rw [h3]
  rfl
/-! the law's own -/
end Pb

set_option Elab.async false
set_option linter.all false
set_option maxRecDepth 100000
namespace Pb
open PySem PySem.Spec PyProof.Rows L2
/-! ### values that may be bent and shown -/
structure Vd (W D L : Nat) (x : PyData) : Prop where
  w : wt x ≤ W
  dp : x.depth ≤ D
  g : bg L (10 ^ 59 + L) x = true
theorem big80 : (10 : Nat) ^ 59 + 61 < 10 ^ 80 := by decide +kernel
theorem Vd.mono {W D L W' D' L' : Nat} {x : PyData} (h : Vd W D L x) (hW : W ≤ W' := by omega) (hD : D ≤ D' := by omega) (hL : L ≤ L' := by omega) : Vd W' D' L' x := ⟨Nat.le_trans h.w hW, Nat.le_trans h.dp hD, bg_mono hL (by omega) x h.g⟩
theorem Vd.gw {W D L : Nat} {x : PyData} (h : Vd W D L x) (hL : L ≤ 60 := by decide) : Gw W D x := ⟨bg_ok hL (by have := big80; omega) x h.g, h.w, h.dp⟩
theorem part {d : Addr} {k : Nat} (hk : k ≤ 10) {n sh : Int} (hn : n < 2 ^ 45) {P : PyData → Int → Prop} (h : ∀ (ms : List Int) (n' : Int), OffOk k ms → n' ≤ n + 10 → P (offD ms) n') : WPart d [.list (rngD 0 (k : Int)), .int sh] n P := by
  refine ⟨_, upto k, sh, rfl, .inl (by rw [rng_ints]), by omega, by rw [ints_len]; omega, fun ms n' sub le => h ms n' ⟨fun i hi => mem_ints.mp (sub.subset hi), (ints_strict k).sublist sub⟩ ?_⟩
  rw [ints_len] at le
  omega
theorem Vd.in {W D L : Nat} {x : PyData} (h : Vd W D L x) (hW : W ≤ 100000 := by decide) (hD : D ≤ 10 := by decide) (hL : L ≤ 60 := by decide) : Gw 100000 10 x := (h.gw hL).mono hW hD
end Pb

set_option Elab.async false
set_option linter.all false
set_option maxRecDepth 100000
namespace Pb
open PySem PySem.Spec PyProof.Rows L2
theorem sum_bd {M : Int} (hM : 0 ≤ M) : ∀ {l : List Int}, (∀ i ∈ l, 0 ≤ i ∧ i ≤ M) → 0 ≤ l.sum ∧ l.sum ≤ (l.length : Int) * M
  | [], _ => ⟨Int.le_refl _, by simp⟩
  | x :: l, h => by
    have h1 := h x List.mem_cons_self
    have ih := sum_bd hM (l := l) fun i hi => h i (List.mem_cons_of_mem _ hi)
    rw [List.sum_cons, List.length_cons, Int.natCast_add, Int.add_mul]
    omega
theorem paid_bd {M : Int} (hM : 0 ≤ M) {ns o : List Int} (h : In0 M ns) (ho : ∀ d ∈ o, 0 ≤ d ∧ d < (ns.length : Int)) : 0 ≤ paid ns o ∧ paid ns o ≤ (o.length : Int) * M := by
  have := sum_bd hM (l := o.map fun d => ns.getD d.toNat 0) fun i hi => by
    obtain ⟨d, hd, rfl⟩ := List.mem_map.mp hi
    have := ho d hd
    exact h.get (by omega)
  rw [List.length_map] at this
  exact this
theorem pen_bd {M : Int} (hM : 0 ≤ M) {qs : List Int} (h : In0 M qs) (b : Int → Bool) : 0 ≤ penL qs b ∧ penL qs b ≤ (qs.length : Int) * M := by
  have s : ((qs.zipIdx.filter fun p => !b ((p.2 : Nat) : Int)).map Prod.fst).Sublist qs := by
    have := (List.filter_sublist (p := fun p : Int × Nat => !b ((p.2 : Nat) : Int)) (l := qs.zipIdx)).map Prod.fst
    rw [List.zipIdx_map_fst] at this
    exact this
  have k := sum_bd hM (l := (qs.zipIdx.filter fun p => !b ((p.2 : Nat) : Int)).map Prod.fst) fun i hi => h i (s.subset hi)
  have l := s.length_le
  refine ⟨k.1, Int.le_trans k.2 (Int.mul_le_mul_of_nonneg_right (by omega) hM)⟩
theorem cost_bd {m : Nat} {os : List (List Int)} {ps qs ns : List Int} (t : Tb m os) (hp : ps.length = os.length) (hq : qs.length = m) (h1 : In0 (1000000000000 : Int) ps) (h2 : In0 (1000000000000 : Int) qs) (hn : ∀ k ∈ ns, 0 ≤ k ∧ k < (os.length : Int)) (nl : ns.length ≤ 60) : 0 ≤ costL os ps qs ns ∧ costL os ps qs ns ≤ 100000000000000 := by
  have a := paid_bd (by decide) h1 (o := ns) fun d hd => by have := hn d hd; omega
  have b := pen_bd (by decide) h2 (coveredB os ns)
  have m10 := t.m10
  unfold costL
  omega
end Pb

set_option Elab.async false
set_option linter.all false
set_option maxRecDepth 100000
namespace Pb
open PySem PySem.Spec PyProof.Rows L2
section
variable {P : Program} {w : World} {K : PySem.W.Frag} {mg : Str → Option Value} {base : Heap}
end
end Pb

set_option Elab.async false
set_option linter.all false
set_option maxRecDepth 100000
namespace Pb
open PySem PySem.Spec PyProof.Rows L2
/-! ### payments along an order -/
def subAll (x : Int) (l ks : List Int) : List Int := ks.foldl (fun l k => l.set k.toNat (l.getD k.toNat 0 - x)) l
def payX (os : List (List Int)) (qs ls : List Int) (d : Int) : Int := ((covL os d).map fun k => ls.getD k.toNat 0).foldl min (qs.getD d.toNat 0)
def payGo (os : List (List Int)) (qs : List Int) : List Int → List Int → List Int → List Int × List Int
  | [], ls, fs => (ls, fs)
  | d :: so, ls, fs => payGo os qs so (subAll (payX os qs ls d) ls (covL os d)) (fs.set d.toNat (payX os qs ls d))
theorem subAll_len {x : Int} : ∀ {ks l : List Int}, (subAll x l ks).length = l.length
  | [], _ => rfl
  | k :: ks, l => by
    show (subAll x (l.set k.toNat (l.getD k.toNat 0 - x)) ks).length = _
    rw [subAll_len, List.length_set]
/-! the law's -/
abbrev rP (m : Nat) (os : List (List Int)) (ps qs so ls fs : List Int) (s6 s7 s8 s9 : Sl) : Rho := [.val (tabD m os), .val (offD ps), .val (offD qs), .val (offD so), .own (ls.map PyData.int), .own (fs.map PyData.int), s6, s7, s8, s9]
abbrev inB : Rho → Option Res := sPut 4 (eVar 8) (eOp fSub (eOp fIxL (eL (lOwn 4)) (eVar 8)) (eOp fIxL (eL (lOwn 5)) (eVar 6)))
theorem cov_ran {os : List (List Int)} {d : Int} : ∀ k ∈ covL os d, 0 ≤ k ∧ k < (os.length : Int) := fun k hk => by
  obtain ⟨j, o, hj, _, rfl⟩ := mem_covL.mp hk
  have := (List.getElem?_eq_some_iff.mp hj).1
  omega
theorem set_getD {l : List Int} {k : Nat} {x : Int} (h : k < l.length) : (l.set k x).getD k 0 = x := by
  rw [List.getD_eq_getElem?_getD, List.getElem?_set_self h]
  rfl
/-! the program's -/
end Pb

set_option Elab.async false
set_option linter.all false
set_option maxRecDepth 100000
namespace Pb
open PySem PySem.Spec PyProof.Rows L2
section
variable {P : Program} {w : World} {K : PySem.W.Frag} {mg : Str → Option Value} {base : Heap}
def w__law_one : Addr → List PyData → Int → (PyData → Int → Prop) → Prop := runW 2 2 fun d =>
  (twRet (wOp fIxL (wP (eVar 1)) (wDraw d 0 WNextW (wCons (wP (eCb fLen (aCons (eVar 1) aNil))) wNil))))
end
end Pb

set_option Elab.async false
set_option linter.all false
set_option maxRecDepth 100000
namespace Pb
open PySem PySem.Spec PyProof.Rows L2
theorem oneD {d : Addr} {ns : List Int} (h0 : ns ≠ []) (hl : ns.length ≤ 1000) {n : Int} (hn : n < 2 ^ 49) {P : PyData → Int → Prop} (h : ∀ (i n' : Int), i ∈ ns → n' ≤ n + 1 → P (.int i) n') : w__law_one d [.list (ns.map PyData.int)] n P := by
  have lp : 0 < ns.length := List.length_pos_iff.mpr h0
  refine ⟨rfl, _, rfl, rfl, .int (ns.length : Nat), ?_, (ns.length : Int), rfl, by omega, by omega, by omega, fun v n' v0 v1 le => ?_⟩
  · refine eCb_of (aCons_of rfl rfl) ?_
    show some (PyData.int (((ns.map PyData.int).length : Nat) : Int)) = _
    rw [List.length_map]
  · obtain ⟨i, hi, e⟩ := ixL_ints v0 v1
    exact ⟨_, e, h i n' hi le⟩
end Pb

set_option Elab.async false
set_option linter.all false
set_option maxRecDepth 100000
namespace Pb
open PySem PySem.Spec PyProof.Rows L2
/-! ### payments: bounds -/
theorem subAll_get {x : Int} : ∀ {ks l : List Int}, ks.Nodup → (∀ k ∈ ks, 0 ≤ k ∧ k < (l.length : Int)) → ∀ j : Nat, (subAll x l ks).getD j 0 = if (j : Int) ∈ ks then l.getD j 0 - x else l.getD j 0
  | [], l, _, _, j => by simp [subAll]
  | k :: ks, l, hn, hk, j => by
    obtain ⟨n1, n2⟩ := List.nodup_cons.mp hn
    have kk := hk k List.mem_cons_self
    have ih := subAll_get (x := x) (ks := ks) (l := l.set k.toNat (l.getD k.toNat 0 - x)) n2 (fun i hi => by rw [List.length_set]; exact hk i (List.mem_cons_of_mem _ hi)) j
    have e : subAll x l (k :: ks) = subAll x (l.set k.toNat (l.getD k.toNat 0 - x)) ks := rfl
    rw [e, ih]
    by_cases hj : k.toNat = j
    · have hjk : (j : Int) = k := by omega
      have hno : (j : Int) ∉ ks := by rw [hjk]; exact n1
      rw [if_neg hno, if_pos (by rw [hjk]; exact List.mem_cons_self), ← hj, set_getD (by omega)]
    · have g : (l.set k.toNat (l.getD k.toNat 0 - x)).getD j 0 = l.getD j 0 := by
        rw [List.getD_eq_getElem?_getD, List.getElem?_set_ne hj, ← List.getD_eq_getElem?_getD]
      have m : (j : Int) ∈ k :: ks ↔ (j : Int) ∈ ks := by
        rw [List.mem_cons]
        exact ⟨fun h => h.elim (fun z => absurd (by omega) hj) id, .inr⟩
      rw [g]
      by_cases hm : (j : Int) ∈ ks
      · rw [if_pos hm, if_pos (m.mpr hm)]
      · rw [if_neg hm, if_neg (fun z => hm (m.mp z))]
theorem payX_le {os : List (List Int)} {qs ls : List Int} {d : Int} : payX os qs ls d ≤ qs.getD d.toNat 0 ∧ ∀ k ∈ covL os d, payX os qs ls d ≤ ls.getD k.toNat 0 := by
  obtain ⟨_, h2, h3⟩ := foldl_min ((covL os d).map fun k => ls.getD k.toNat 0) (qs.getD d.toNat 0)
  exact ⟨h2, fun k hk => h3 _ (List.mem_map_of_mem hk)⟩
theorem payX_at {os : List (List Int)} {qs ls : List Int} {d : Int} : payX os qs ls d = qs.getD d.toNat 0 ∨ ∃ k ∈ covL os d, payX os qs ls d = ls.getD k.toNat 0 := by
  obtain ⟨h1, _, _⟩ := foldl_min ((covL os d).map fun k => ls.getD k.toNat 0) (qs.getD d.toNat 0)
  rcases h1 with h | h
  · exact .inl h
  · obtain ⟨k, hk, e⟩ := List.mem_map.mp h
    exact .inr ⟨k, hk, e.symm⟩
theorem in0_of {M : Int} {l : List Int} (h : ∀ j < l.length, 0 ≤ l.getD j 0 ∧ l.getD j 0 ≤ M) : In0 M l := fun i hi => by
  obtain ⟨j, hj⟩ := List.getElem?_of_mem hi
  have := h j (List.getElem?_eq_some_iff.mp hj).1
  rwa [List.getD_eq_getElem?_getD, hj] at this
theorem payX_in {M : Int} {os : List (List Int)} {qs ls : List Int} {d : Int} (ll : ls.length = os.length) (h1 : In0 M ls) (h2 : In0 M qs) (hd : 0 ≤ d ∧ d < (qs.length : Int)) : 0 ≤ payX os qs ls d ∧ payX os qs ls d ≤ M := by
  have q := h2.get (k := d.toNat) (by omega)
  have le := (payX_le (os := os) (qs := qs) (ls := ls) (d := d)).1
  refine ⟨?_, by omega⟩
  rcases payX_at (os := os) (qs := qs) (ls := ls) (d := d) with e | ⟨k, hk, e⟩
  · omega
  · have kk := cov_ran k hk
    have := h1.get (k := k.toNat) (by omega)
    omega
theorem left_in {M : Int} {os : List (List Int)} {qs ls : List Int} {d : Int} (ll : ls.length = os.length) (h1 : In0 M ls) (h2 : In0 M qs) (hd : 0 ≤ d ∧ d < (qs.length : Int)) : In0 M (subAll (payX os qs ls d) ls (covL os d)) := by
  have x0 := payX_in (os := os) ll h1 h2 hd
  refine in0_of fun j hj => ?_
  rw [subAll_len] at hj
  have g := h1.get (k := j) hj
  rw [subAll_get (cov_nodup os d) (fun k hk => by have := cov_ran k hk; omega)]
  split
  · rename_i hm
    have := (payX_le (os := os) (qs := qs) (ls := ls) (d := d)).2 _ hm
    rw [Int.toNat_natCast] at this
    omega
  · exact g
end Pb

set_option Elab.async false
set_option linter.all false
set_option maxRecDepth 100000
namespace Pb
open PySem PySem.Spec PyProof.Rows L2
section
variable {P : Program} {w : World} {K : PySem.W.Frag} {mg : Str → Option Value} {base : Heap}
end
end Pb

set_option Elab.async false
set_option linter.all false
set_option maxRecDepth 100000
namespace Pb
open PySem PySem.Spec PyProof.Rows L2
section
variable {P : Program} {w : World} {K : PySem.W.Frag} {mg : Str → Option Value} {base : Heap}
end
end Pb

set_option Elab.async false
set_option linter.all false
set_option maxRecDepth 100000
namespace Pb
open PySem PySem.Spec PyProof.Rows L2
/-! ### rows and their order -/
end Pb

set_option Elab.async false
set_option linter.all false
set_option maxRecDepth 100000
namespace Pb
open PySem PySem.Spec PyProof.Rows L2
/-! ### the second pass, as the law has it -/
theorem forR_nx {B : PyData → Rho → Option Res} {e : PyData} {es : List PyData} {ρ ρ' : Rho} (h : B e ρ = some (.nx ρ')) : forR B (e :: es) ρ = forR B es ρ' := by
  show (B e ρ).bind _ = _
  rw [h]
  rfl
end Pb

set_option Elab.async false
set_option linter.all false
set_option maxRecDepth 100000
namespace Pf
open PySem PySem.Spec PyProof.Rows L2 Pb
section
variable {P : Program} {w : World} {K : PySem.W.Frag} {mg : Str → Option Value} {base : Heap}
def w__law_drawn : Addr → List PyData → Int → (PyData → Int → Prop) → Prop := runW 7 2 fun d =>
  (twSeq (twP (sOwn 2 (lLst aNil)))
  (twSeq (twFor (iT (eOp fIxT (eVar 1) (eInt 0))) (gT (gC (gN 3) (gC (gN 4) (gC (gN 5) g0)))) (twOwn 2 (wfCat (wfP (lOwn 2)) (wfLst (wCons (wP (eVar 3)) (wCons (wP (eVar 4)) (wCons (wOp fAdd (wP (eVar 3)) (wDraw d 0 WNextW (wCons (wP (eOp fAdd (eOp fSub (eVar 4) (eVar 3)) (eInt 1))) wNil))) wNil)))))))
  (twFrz 2 (twRet (wCb fTupOf (wCons (wL (wfSortU (wfLcR [6] (wOp fAdd (wP (eInt 1)) (wDraw d 0 WNextW (wCons (wP (eInt 10)) wNil))) (gN 6) bYes (wDraw d 0 Pb.w__law_one (wCons (wP (eVar 2)) wNil))))) wNil))))))
end
end Pf

set_option Elab.async false
set_option linter.all false
set_option maxRecDepth 100000
namespace Pf
open PySem PySem.Spec PyProof.Rows L2 Pb
/-! ### lines: triples, how they are drawn -/
abbrev T3 : Type := Int × Int × Int
def triD (t : T3) : PyData := .tuple [.int t.1, .int t.2.1, .int t.2.2]
def lineD (bs ss : List T3) : PyData := .tuple [.tuple (bs.map triD), .tuple (ss.map triD)]
/-- a span within 10 ** 13, with its amount -/
def Spn (t : T3) : Prop := 0 ≤ t.1 ∧ t.1 ≤ t.2.1 ∧ t.2.1 ≤ 10000000000000 ∧ 0 ≤ t.2.2 ∧ t.2.2 ≤ 1000000000000
structure Lin (bs ss : List T3) : Prop where
  b : ∀ t ∈ bs, Spn t
  s : ∀ t ∈ ss, Spn t
  b1 : 1 ≤ bs.length
  b6 : bs.length ≤ 6
  s10 : ss.length ≤ 10
  ord : bs.Pairwise fun x y => x.2.1 < y.1
end Pf

set_option Elab.async false
set_option linter.all false
set_option maxRecDepth 100000
namespace Pf
open PySem PySem.Spec PyProof.Rows L2 Pb
/-! ### words over lists that are told by something else -/
theorem lLc_at {α : Type} (D : α → PyData) (O : PyData → α) (hO : ∀ a, O (D a) = a) {vs : List Nat} {it : Rho → Option (List PyData)} {τ : PyData → Rho → Option Rho} {β : Rho → Option Bool} {φ : Rho → Option PyData} {ρ : Rho} {l : List α} (b : α → Bool) (v : α → PyData) (hi : it ρ = some (l.map D)) (hl : l.length ≤ 100000)
    (h : ∀ a ∈ l, ∃ ρ', τ (D a) (wipeR ρ vs) = some ρ' ∧ β ρ' = some (b a) ∧ (b a = true → φ ρ' = some (v a))) : lLc vs it τ β φ ρ = some ((l.filter b).map v) := by
  have := lLc_of (vs := vs) (it := it) (τ := τ) (β := β) (φ := φ) (ρ := ρ) (fun e => b (O e)) (fun e => v (O e)) hi (by rw [List.length_map]; exact hl) fun e he => by
    obtain ⟨a, ha, rfl⟩ := List.mem_map.mp he
    obtain ⟨ρ', h1, h2, h3⟩ := h a ha
    rw [hO]
    exact ⟨ρ', h1, h2, h3⟩
  rw [this, List.filter_map, List.map_map]
  have e1 : ((fun e => b (O e)) ∘ D) = b := funext fun a => by show b (O (D a)) = b a; rw [hO]
  have e2 : ((fun e => v (O e)) ∘ D) = v := funext fun a => by show v (O (D a)) = v a; rw [hO]
  rw [e1, e2]
/-- the spans around x -/
def inB (x : Int) (t : T3) : Bool := decide (t.1 ≤ x) && decide (x ≤ t.2.1)
end Pf

set_option Elab.async false
set_option linter.all false
set_option maxRecDepth 100000
namespace Pf
open PySem PySem.Spec PyProof.Rows L2 Pb
/-! ### the table of a line at positions -/
/-! ### positions, drawn -/
theorem lcW_from {τ : PyData → Rho → Option Rho} {Φ : Rho → Int → (PyData → Int → Prop) → Prop} {ρ : Rho} {ms : List Int} {B : Int} : ∀ {es : List PyData}, (∀ e ∈ es, ∀ (n : Int) (Q : PyData → Int → Prop), n < B → (∀ v ∈ ms, ∀ n' : Int, n' ≤ n + 1 → Q (.int v) n') → ∃ ρ', τ e ρ = some ρ' ∧ Φ ρ' n Q) →
    ∀ {n : Int} {P : List PyData → Int → Prop}, n + es.length < B → (∀ (ks : List Int) (n' : Int), ks.length = es.length → (∀ k ∈ ks, k ∈ ms) → n' ≤ n + es.length → P (ks.map PyData.int) n') → lcW τ bYes Φ ρ es n P
  | [], _, n, P, _, h => h [] n rfl (fun _ z => absurd z List.not_mem_nil) (by simp)
  | e :: es, hs, n, P, hn, h => by
    rw [List.length_cons] at hn
    obtain ⟨ρ', h1, h2⟩ := hs e List.mem_cons_self n (fun y n1 => lcW τ bYes Φ ρ es n1 fun ys n2 => P (y :: ys) n2) (by omega) fun v hv n1 le1 => by
      refine lcW_from (fun x hx => hs x (List.mem_cons_of_mem _ hx)) (by omega) fun ks n2 hl hk le2 => ?_
      exact h (v :: ks) n2 (by rw [List.length_cons, hl, List.length_cons]) (fun i hi => by
        rcases List.mem_cons.mp hi with rfl | hi
        · exact hv
        · exact hk i hi) (by rw [List.length_cons]; omega)
    exact lcW_yes h1 h2
theorem drawn {d : Addr} {bs ss : List T3} (l : Lin bs ss) {n : Int} (hn : n < 2 ^ 40) {P : PyData → Int → Prop} (h : ∀ (ns : List Int) (n' : Int), (∀ x ∈ ns, 0 ≤ x ∧ x ≤ 10000000000000) → ns.length ≤ 10 → n' ≤ n + 30 → P (offD ns) n') : w__law_drawn d [lineD bs ss] n P := by
  have b1 := l.b1
  have b6 := l.b6
  refine ⟨rfl, _, rfl, bs.map triD, rfl, forW_ind (fun es ρ k => ∃ (ts : List T3) (ms : List Int) (s3 s4 s5 : Sl), es = ts.map triD ∧ ρ = [.deck d, .val (lineD bs ss), .own (ms.map PyData.int), s3, s4, s5, .no] ∧ (∀ t ∈ ts, Spn t) ∧ (∀ x ∈ ms, 0 ≤ x ∧ x ≤ 10000000000000) ∧ ms.length + 3 * ts.length = 3 * bs.length ∧ k + ts.length ≤ n + 6) ?_ ?_ _ _ _ ⟨bs, [], .no, .no, .no, rfl, rfl, l.b, fun _ z => absurd z List.not_mem_nil, by simp, by omega⟩⟩
  · rintro ρ k ⟨ts, ms, s3, s4, s5, e0, rfl, hts, hms, hl, hk⟩
    have e1 : ts = [] := by
      cases ts with
      | nil => rfl
      | cons _ _ => cases e0
    subst e1
    simp only [List.length_nil] at hl hk
    have hp : ms ≠ [] := fun z => by rw [z] at hl; simp at hl; omega
    refine ⟨ms.map PyData.int, rfl, ?_⟩
    refine ⟨_, rfl, rfl, _, rfl, 10, rfl, by omega, by omega, by omega, fun q n2 q0 q9 le2 => ⟨_, rfl, 1 + q, rfl, decide_eq_true ⟨by omega, by omega⟩, by omega, ?_⟩⟩
    refine lcW_from (ms := ms) (B := 2 ^ 42) ?_ ?_ ?_
    · intro e _ n3 Q hn3 hQ
      exact ⟨_, rfl, rfl, _, rfl, oneD hp (by omega) (by omega) fun v n4 hv le4 => hQ v hv n4 le4⟩
    · rw [rngD_len]
      omega
    intro ks n3 kl hks le3
    rw [rngD_len] at kl le3
    refine ⟨ks, intsD_ints ks, by omega, _, rfl, ?_⟩
    have sl : (sortU ks).length ≤ ks.length := sortU_len_le
    exact h (sortU ks) n3 (fun x hx => hms x (hks x (sortU_mem.mp hx))) (by omega) (by omega)
  · rintro e es ρ k ⟨ts, ms, s3, s4, s5, e0, rfl, hts, hms, hl, hk⟩ Q ih
    cases ts with
    | nil => cases e0
    | cons t ts =>
      rw [List.map_cons] at e0
      injection e0 with e1 e2
      subst e1 e2
      rw [List.length_cons] at hl hk
      have sp := hts t List.mem_cons_self
      unfold Spn at sp
      refine ⟨_, rfl, ?_⟩
      refine ⟨_, rfl, _, rfl, _, rfl, _, rfl, rfl, .int (t.2.1 - t.1 + 1), rfl, t.2.1 - t.1 + 1, rfl, by omega, by omega, by omega, fun g n2 g0 g1 le2 => ⟨.int (t.1 + g), rfl, _, rfl, ms.map PyData.int ++ [.int t.1, .int t.2.1, .int (t.1 + g)], lim_of (by simp; omega), ?_⟩⟩
      refine ih _ _ ⟨ts, ms ++ [t.1, t.2.1, t.1 + g], _, _, _, rfl, by rw [List.map_append]; rfl, fun x hx => hts x (List.mem_cons_of_mem _ hx), fun x hx => ?_, by rw [List.length_append]; simp; omega, by omega⟩
      rcases List.mem_append.mp hx with hx | hx
      · exact hms x hx
      · simp only [List.mem_cons, List.not_mem_nil, or_false] at hx
        omega
end Pf

set_option Elab.async false
set_option linter.all false
set_option maxRecDepth 100000
namespace Pf
open PySem PySem.Spec PyProof.Rows L2 Pb
section
variable {P : Program} {w : World} {K : PySem.W.Frag} {mg : Str → Option Value} {base : Heap}
def q_is_vertex : List PyData → Option PyData := runF 2 2
  ((sRet (eCb Pb.q_is_number_below (aCons (eVar 1) (aCons (eOp fAdd (eCb fLen (aCons (eVar 0) aNil)) (eInt 1)) aNil)))))
def q_tree_distance : List PyData → Option PyData := runF 6 3
  ((sSeq (sFor (iT (eTup (aCons (eVar 1) (aCons (eVar 2) aNil)))) (gN 3) (sIf (bNot (bTest (eCb Pf.q_is_vertex (aCons (eVar 0) (aCons (eVar 3) aNil))))) sNever sNil))
  (sSeq (sSet (gN 4) (eInt 0))
  (sSeq (sWhile 100 (bTest (eOp fNe (eVar 1) (eVar 2))) (sSeq (sPar 1 2 (aCons (eCb fMin2 (aCons (eVar 1) (aCons (eVar 2) aNil))) (aCons (eCb fMax2 (aCons (eVar 1) (aCons (eVar 2) aNil))) aNil)))
  (sSeq (sSet (gT (gC (gN 2) (gC (gN 5) g0))) (eOp fIxT (eVar 0) (eOp fSub (eVar 2) (eInt 1))))
  (sAug 4 fAdd (eVar 5)))))
  (sRet (eVar 4))))))
end
end Pf

set_option Elab.async false
set_option linter.all false
set_option maxRecDepth 100000
namespace Pf
open PySem PySem.Spec PyProof.Rows L2 Pb
/-! ### trees and distances -/
def edgD (p : Int × Int) : PyData := .tuple [.int p.1, .int p.2]
def treeD (t : List (Int × Int)) : PyData := .tuple (t.map edgD)
structure Tre (t : List (Int × Int)) : Prop where
  len : t.length ≤ 9
  ok : ∀ (k : Nat) (e : Int × Int), t[k]? = some e → 0 ≤ e.1 ∧ e.1 ≤ (k : Int) ∧ 1 ≤ e.2 ∧ e.2 ≤ 1000000000000
/-- the way between two vertices -/
def td (t : List (Int × Int)) : Nat → Int → Int → Int
  | 0, _, _ => 0
  | n + 1, i, j => if i = j then 0 else (t.getD (max i j - 1).toNat (0, 0)).2 + td t n (min i j) (t.getD (max i j - 1).toNat (0, 0)).1
abbrev wT : Rho → Option Bool := (bTest (eOp fNe (eVar 1) (eVar 2)))
abbrev wB : Rho → Option Res := (sSeq (sPar 1 2 (aCons (eCb fMin2 (aCons (eVar 1) (aCons (eVar 2) aNil))) (aCons (eCb fMax2 (aCons (eVar 1) (aCons (eVar 2) aNil))) aNil)))
  (sSeq (sSet (gT (gC (gN 2) (gC (gN 5) g0))) (eOp fIxT (eVar 0) (eOp fSub (eVar 2) (eInt 1))))
  (sAug 4 fAdd (eVar 5))))
theorem min2 (i j : Int) : fMin2 [.int i, .int j] = some (.int (min i j)) := by
  show some (PyData.int _) = _
  congr 2
  split <;> omega
theorem max2 (i j : Int) : fMax2 [.int i, .int j] = some (.int (max i j)) := by
  show some (PyData.int _) = _
  congr 2
  split <;> omega
theorem sPar_of {i j : Nat} {φ ψ : Rho → Option PyData} {ρ : Rho} {x y : PyData} (h : φ ρ = some x) (k : ψ ρ = some y) : sPar i j (aCons φ (aCons ψ aNil)) ρ = some (.nx ((ρ.set i (.val x)).set j (.val y))) := by
  unfold sPar
  rw [aCons_of h (aCons_of k rfl)]
  rfl
theorem edge_at {t : List (Int × Int)} {k : Int} (h0 : 0 ≤ k) (h1 : k < (t.length : Int)) : fIxT (treeD t) (.int k) = some (edgD (t.getD k.toNat (0, 0))) := by
  have hk : k.toNat < t.length := by omega
  have := ixT_at (xs := t.map edgD) (k := k.toNat) (x := edgD (t.getD k.toNat (0, 0))) (by rw [List.getElem?_map, List.getElem?_eq_getElem hk, List.getD_eq_getElem?_getD, List.getElem?_eq_getElem hk]; rfl)
  rw [show ((k.toNat : Nat) : Int) = k by omega] at this
  exact this
theorem td_loop {t : List (Int × Int)} (h : Tre t) : ∀ (n : Nat) (i j acc : Int) (s3 s5 : Sl), 0 ≤ i → 0 ≤ j → i ≤ (t.length : Int) → j ≤ (t.length : Int) → (i + j).toNat < n → ∃ i' j' s5', whR wT wB n [.val (treeD t), .val (.int i), .val (.int j), s3, .val (.int acc), s5] = some (.nx [.val (treeD t), .val (.int i'), .val (.int j'), s3, .val (.int (acc + td t n i j)), s5'])
  | 0, i, j, acc, s3, s5, _, _, _, _, z => absurd z (Nat.not_lt_zero _)
  | n + 1, i, j, acc, s3, s5, i0, j0, i1, j1, z => by
    have tt : wT [.val (treeD t), .val (.int i), .val (.int j), s3, .val (.int acc), s5] = some (!decide (i = j)) := bTest_of rfl
    unfold td
    by_cases e : i = j
    · rw [show (!decide (i = j)) = false by simp [e]] at tt
      rw [if_pos e, Int.add_zero]
      exact ⟨i, j, s5, whR_no tt⟩
    · rw [show (!decide (i = j)) = true by simp [e]] at tt
      rw [if_neg e]
      have b1 : 1 ≤ max i j := by omega
      have hk : (max i j - 1).toNat < t.length := by omega
      have ed := h.ok (max i j - 1).toNat (t.getD (max i j - 1).toNat (0, 0)) (by rw [List.getD_eq_getElem?_getD, List.getElem?_eq_getElem hk]; rfl)
      generalize hE : t.getD (max i j - 1).toNat (0, 0) = E at ed
      have ea := edge_at (t := t) (k := max i j - 1) (by omega) (by omega)
      rw [hE] at ea
      have st : wB [.val (treeD t), .val (.int i), .val (.int j), s3, .val (.int acc), s5] = some (.nx [.val (treeD t), .val (.int (min i j)), .val (.int E.1), s3, .val (.int (acc + E.2)), .val (.int E.2)]) := by
        refine (sSeq_nx (sPar_of (eCb_of (aCons_of rfl (aCons_of rfl rfl)) (min2 i j)) (eCb_of (aCons_of rfl (aCons_of rfl rfl)) (max2 i j)))).trans ((sSeq_nx (ρ' := [.val (treeD t), .val (.int (min i j)), .val (.int E.1), s3, .val (.int acc), .val (.int E.2)]) ?_).trans ?_)
        · show sSet (gT (gC (gN 2) (gC (gN 5) g0))) (eOp fIxT (eVar 0) (eOp fSub (eVar 2) (eInt 1))) [.val (treeD t), .val (.int (min i j)), .val (.int (max i j)), s3, .val (.int acc), s5] = _
          unfold sSet
          rw [eOp_of (f := fIxT) (φ := eVar 0) (ψ' := eOp fSub (eVar 2) (eInt 1)) (x := treeD t) (y := .int (max i j - 1)) rfl (eOp_of (x := .int (max i j)) (y := .int 1) rfl rfl rfl) ea]
          rfl
        · exact sAug_of (i := 4) (f := fAdd) (φ := eVar 5) (ρ := [.val (treeD t), .val (.int (min i j)), .val (.int E.1), s3, .val (.int acc), .val (.int E.2)]) (z := .int (acc + E.2)) rfl rfl rfl
      obtain ⟨i', j', s5', k⟩ := td_loop h n (min i j) E.1 (acc + E.2) s3 (.val (.int E.2)) (by omega) ed.1 (by omega) (by omega) (by omega)
      exact ⟨i', j', s5', (whR_nx tt st).trans (by rw [k, Int.add_assoc])⟩
theorem q_vert {t : List (Int × Int)} (x : PyData) : q_is_vertex [treeD t, x] = some (.bool (numBelow x ((t.length : Int) + 1))) := by
  refine runF_of rfl (sRet_of (eCb_of (xs := [x, .int ((t.length : Int) + 1)]) (aCons_of rfl (aCons_of ?_ rfl)) (q_num x _)))
  refine eOp_of (x := .int (t.length : Nat)) (y := .int 1) (eCb_of (aCons_of rfl rfl) ?_) rfl rfl
  show some (PyData.int ((t.map edgD).length : Nat)) = _
  rw [List.length_map]
theorem vert_in {t : List (Int × Int)} {i : Int} (h0 : 0 ≤ i) (h1 : i ≤ (t.length : Int)) : numBelow (.int i) ((t.length : Int) + 1) = true := by
  show (decide (0 ≤ i) && decide (i < (t.length : Int) + 1)) = true
  rw [decide_eq_true h0, decide_eq_true (by omega)]
  rfl
theorem q_dist {t : List (Int × Int)} (h : Tre t) {i j : Int} (i0 : 0 ≤ i) (j0 : 0 ≤ j) (i1 : i ≤ (t.length : Int)) (j1 : j ≤ (t.length : Int)) : q_tree_distance [treeD t, .int i, .int j] = some (.int (td t 100 i j)) := by
  have l9 := h.len
  have lp : forR (fun e ρ => (gN 3 e ρ).bind (sIf (bNot (bTest (eCb Pf.q_is_vertex (aCons (eVar 0) (aCons (eVar 3) aNil))))) sNever sNil)) [.int i, .int j] [.val (treeD t), .val (.int i), .val (.int j), .no, .no, .no] = some (.nx [.val (treeD t), .val (.int i), .val (.int j), .val (.int j), .no, .no]) := by
    have st : ∀ (x : Int) (s3 : Sl), 0 ≤ x → x ≤ (t.length : Int) → (gN 3 (.int x) [.val (treeD t), .val (.int i), .val (.int j), s3, .no, .no]).bind (sIf (bNot (bTest (eCb Pf.q_is_vertex (aCons (eVar 0) (aCons (eVar 3) aNil))))) sNever sNil) = some (.nx [.val (treeD t), .val (.int i), .val (.int j), .val (.int x), .no, .no]) := fun x s3 x0 x1 => by
      have c : bNot (bTest (eCb Pf.q_is_vertex (aCons (eVar 0) (aCons (eVar 3) aNil)))) [.val (treeD t), .val (.int i), .val (.int j), .val (.int x), .no, .no] = some (!numBelow (.int x) ((t.length : Int) + 1)) := bNot_of (bTest_of (eCb_of (aCons_of rfl (aCons_of rfl rfl)) (q_vert (.int x))))
      rw [vert_in x0 x1] at c
      show sIf _ _ _ [.val (treeD t), .val (.int i), .val (.int j), .val (.int x), .no, .no] = _
      exact (sIf_f c).trans rfl
    exact (forR_nx (st i .no i0 i1)).trans ((forR_nx (st j _ j0 j1)).trans rfl)
  obtain ⟨i', j', s5', k⟩ := td_loop h 100 i j 0 (.val (.int j)) .no i0 j0 i1 j1 (by omega)
  rw [Int.zero_add] at k
  exact runF_of rfl ((sSeq_nx (sFor_of rfl lp)).trans ((sSeq_nx rfl).trans ((sSeq_nx (show sWhile 100 wT wB _ = _ from k)).trans rfl)))
end Pf

set_option Elab.async false
set_option linter.all false
set_option maxRecDepth 100000
namespace Pf
open PySem PySem.Spec PyProof.Rows L2 Pb
theorem Tre.at {t : List (Int × Int)} (h : Tre t) {k : Nat} (hk : k < t.length) : 0 ≤ (t.getD k (0, 0)).1 ∧ (t.getD k (0, 0)).1 ≤ (k : Int) ∧ 1 ≤ (t.getD k (0, 0)).2 ∧ (t.getD k (0, 0)).2 ≤ 1000000000000 :=
  h.ok k _ (by rw [List.getD_eq_getElem?_getD, List.getElem?_eq_getElem hk]; rfl)
/-! the law's rows -/
end Pf

set_option Elab.async false
set_option linter.all false
set_option maxRecDepth 100000
namespace Pf
open PySem PySem.Spec PyProof.Rows L2 Pb
/-! ### rows of distances: lists inside a list -/
structure Dst (H : Hp) (D : Addr) (rows : List (List Int)) (refs : List Addr) (H2 : Hp) : Prop where
  at_ : H2 D = some (.lst (refs.map V.ref))
  len : refs.length = rows.length
  row : ∀ (j : Nat) (r : Addr) (ro : List Int), refs[j]? = some r → rows[j]? = some ro → H2 r = some (.lst (ro.map V.int))
  nd : refs.Nodup
  off : D ∉ refs
  newD : H D = none
  new : ∀ r ∈ refs, H r = none
  sm : Same H H2
section
variable {H : Hp} {D : Addr} {rows : List (List Int)} {refs : List Addr} {H2 H3 : Hp}
theorem same_put {p : Addr} {o : HO} (s : Same H H2) (hp : H p = none) : Same H (upd H2 p o) := fun a x e => by
  have ne : a ≠ p := fun z => by
    rw [z, hp] at e
    cases e
  rw [upd_ne ne]
  exact s a x e
theorem Dst.put (d : Dst H D rows refs H2) {j : Nat} {r : Addr} {ro : List Int} (h1 : refs[j]? = some r) : Dst H D (rows.set j ro) refs (upd H2 r (.lst (ro.map V.int))) := by
  have hr : r ∈ refs := List.mem_of_getElem? h1
  have hj := (List.getElem?_eq_some_iff.mp h1).1
  refine ⟨?_, by rw [List.length_set]; exact d.len, fun j' r' ro' k1 k2 => ?_, d.nd, d.off, d.newD, d.new, same_put d.sm (d.new r hr)⟩
  · rw [upd_ne (show D ≠ r from fun z => d.off (by rw [z]; exact hr))]
    exact d.at_
  · by_cases e : j' = j
    · subst e
      rw [h1] at k1
      cases k1
      rw [List.getElem?_set_self (by rw [← d.len]; exact hj)] at k2
      cases k2
      exact upd_same
    · have ne : r' ≠ r := fun z => by
        subst z
        have hj' := (List.getElem?_eq_some_iff.mp k1)
        have hjj := (List.getElem?_eq_some_iff.mp h1)
        exact e ((List.getElem_inj d.nd).mp (hj'.2.trans hjj.2.symm))
      rw [upd_ne ne]
      rw [List.getElem?_set_ne (fun z => e z.symm)] at k2
      exact d.row j' r' ro' k1 k2
end
/-- the body of the law's def -/
abbrev distB (K : PySem.W.Frag) : TS := (tSeq
          (tAsg
            (tLc (iList K (tOp (rIxL K) (tVar 1) (tVar 3))) (gName 7) tYes
              (tOp (rI0 fun i j => V.int (i + j)) (tVar 7) (tVar 4))
              [7])
            (gName 5))
          (tSeq
            (tFor (RZ.iZipA K (tCons (tVar 1) (tCons (tVar 5) tNil)))
              (gTup K 2 (gCons (gName 6) (gCons (gName 7) gNil)))
              (tDrop (tBM K "list" rAppend (tVar 6) (tCons (tVar 7) tNil))))
            (tDrop
              (tBM K "list" rAppend (tVar 1) (tCons (tOp rCat (tVar 5) (tLst (tCons (tC (V.int 0)) tNil))) tNil)))))
end Pf

set_option Elab.async false
set_option linter.all false
set_option maxRecDepth 100000
namespace Pf
open PySem PySem.Spec PyProof.Rows L2 Pb
theorem Tre.take {t : List (Int × Int)} (h : Tre t) (i : Nat) : Tre (t.take i) := ⟨by rw [List.length_take]; have := h.len; omega, fun k e he => h.ok k e (by
  rw [List.getElem?_take] at he
  split at he
  · exact he
  · cases he)⟩
end Pf

set_option Elab.async false
set_option linter.all false
set_option maxRecDepth 100000
namespace Pf
open PySem PySem.Spec PyProof.Rows L2 Pb
abbrev T2 : Type := Int × Int
end Pf

set_option Elab.async false
set_option linter.all false
set_option maxRecDepth 100000
namespace Pb
open PySem PySem.Spec PyProof.Rows L2
section
variable {P : Program} {w : World} {K : PySem.W.Frag} {mg : Str → Option Value} {base : Heap}
end
end Pb

set_option Elab.async false
set_option linter.all false
set_option maxRecDepth 100000
namespace Pb
open PySem PySem.Spec PyProof.Rows L2
/-! ### words beside a dict -/
section
variable {ρ ρ' : Rho} {φ ψ χ : Rho → Option PyData} {e x y : PyData} {c i j : Nat}
end
/-! ### dicts of masks and prices -/
abbrev Dn : Type := List (Nat × Int)
def lkN (D : Dn) (c : Nat) : Option Int := (D.find? fun q => decide (q.1 = c)).map (·.2)
def ptN (D : Dn) (c : Nat) (v : Int) : Dn := if (D.any fun q => decide (q.1 = c)) = true then D.map (fun q => if q.1 = c then (q.1, v) else q) else D ++ [(c, v)]
def ksN (D : Dn) : List Nat := D.map (·.1)
theorem lk_mem {D : Dn} {c : Nat} {v : Int} (h : lkN D c = some v) : (c, v) ∈ D := by
  unfold lkN at h
  obtain ⟨q, h1, h2⟩ := Option.map_eq_some_iff.mp h
  have h3 := List.find?_some h1
  have : q.1 = c := by simpa using h3
  have e : q = (c, v) := by
    rw [← this, ← h2]
  rw [← e]
  exact List.mem_of_find?_eq_some h1
theorem ks_pt (D : Dn) (c : Nat) (v : Int) : ksN (ptN D c v) = if c ∈ ksN D then ksN D else ksN D ++ [c] := by
  have hm : (D.any fun q => decide (q.1 = c)) = decide (c ∈ ksN D) := by
    rw [Bool.eq_iff_iff, List.any_eq_true, decide_eq_true_iff]
    unfold ksN
    rw [List.mem_map]
    simp only [decide_eq_true_iff]
  unfold ptN
  rw [hm]
  by_cases h : c ∈ ksN D
  · rw [if_pos (decide_eq_true h), if_pos h]
    unfold ksN
    rw [List.map_map]
    refine List.map_congr_left fun q _ => ?_
    show (if q.1 = c then (q.1, v) else q).1 = q.1
    split <;> rfl
  · rw [if_neg (by simpa using h), if_neg h]
    unfold ksN
    rw [List.map_append]
    rfl
theorem nd_pt {D : Dn} (nd : (ksN D).Nodup) (c : Nat) (v : Int) : (ksN (ptN D c v)).Nodup := by
  rw [ks_pt]
  split
  · exact nd
  · rename_i h
    rw [List.nodup_append]
    exact ⟨nd, by simp, fun a ha b hb z => h (by rw [List.mem_singleton] at hb; rw [← hb, ← z]; exact ha)⟩
/-! ### one more offer -/
structure Stp (D W : Dn) (m : Nat) (p : Int) : Prop where
  fr : ∀ c x, lkN W c = some x → lkN D c = some x ∨ ∃ c0 v0, lkN D c0 = some v0 ∧ c0 ||| m = c ∧ x = v0 + p
  old : ∀ c x, lkN D c = some x → ∃ y, y ≤ x ∧ lkN W c = some y
  new : ∀ c x, lkN D c = some x → ∃ y, y ≤ x + p ∧ lkN W (c ||| m) = some y
  nd : (ksN W).Nodup
  len : W.length ≤ 2 * D.length
/-! ### the lowest prices by what is covered -/
def subs : Nat → List (List Int)
  | 0 => [[]]
  | n + 1 => subs n ++ (subs n).map (· ++ [(n : Int)])
theorem subs_in : ∀ {n : Nat} {ks : List Int}, ks ∈ subs n → OffOk n ks ∧ ks.length ≤ n
  | 0, ks, h => by
    rw [subs, List.mem_singleton] at h
    subst h
    exact ⟨⟨fun i hi => absurd hi List.not_mem_nil, List.Pairwise.nil⟩, Nat.le_refl _⟩
  | n + 1, ks, h => by
    rw [subs, List.mem_append] at h
    rcases h with h | h
    · obtain ⟨⟨h1, h2⟩, h3⟩ := subs_in h
      exact ⟨⟨fun i hi => by have := h1 i hi; omega, h2⟩, by omega⟩
    · obtain ⟨l, hl, rfl⟩ := List.mem_map.mp h
      obtain ⟨⟨h1, h2⟩, h3⟩ := subs_in hl
      refine ⟨⟨fun i hi => ?_, ?_⟩, by rw [List.length_append]; simp; omega⟩
      · rcases List.mem_append.mp hi with hi | hi
        · have := h1 i hi; omega
        · rw [List.mem_singleton] at hi; omega
      · rw [List.pairwise_append]
        exact ⟨h2, List.pairwise_singleton _ _, fun a ha b hb => by
          rw [List.mem_singleton] at hb
          have := h1 a ha
          omega⟩
theorem subs_all : ∀ {n : Nat} {ks : List Int}, OffOk n ks → ks ∈ subs n
  | 0, ks, h => by
    rw [subs, List.mem_singleton]
    cases ks with
    | nil => rfl
    | cons k ks =>
      have := h.1 k List.mem_cons_self
      omega
  | n + 1, ks, h => by
    rw [subs, List.mem_append]
    by_cases hm : (n : Int) ∈ ks
    · right
      obtain ⟨a, b, rfl⟩ := List.append_of_mem hm
      have hb : b = [] := by
        cases b with
        | nil => rfl
        | cons x b =>
          have p := h.2
          rw [List.pairwise_append] at p
          have h1 := (List.pairwise_cons.mp p.2.1).1 x List.mem_cons_self
          have h2 := h.1 x (by simp)
          omega
      subst hb
      refine List.mem_map.mpr ⟨a, subs_all ⟨fun i hi => ?_, ?_⟩, rfl⟩
      · have p := h.2
        rw [List.pairwise_append] at p
        have h1 := p.2.2 i hi (n : Int) List.mem_cons_self
        have h2 := h.1 i (List.mem_append_left _ hi)
        omega
      · have p := h.2
        rw [List.pairwise_append] at p
        exact p.1
    · left
      exact subs_all ⟨fun i hi => by
        have := h.1 i hi
        have : i ≠ (n : Int) := fun z => hm (by rw [← z]; exact hi)
        omega, h.2⟩
theorem orN_snoc (os : List (List Int)) (ks : List Int) (k : Int) (c : Nat) : orN os (ks ++ [k]) c = orN os ks c ||| maskN (offAt os k) := by
  unfold orN
  rw [List.foldl_append]
  rfl
theorem paid_snoc (ps ks : List Int) (k : Int) : paid ps (ks ++ [k]) = paid ps ks + ps.getD k.toNat 0 := by
  unfold paid
  rw [List.map_append, List.sum_append]
  simp
structure Low (os : List (List Int)) (ps : List Int) (n : Nat) (D : Dn) : Prop where
  fr : ∀ c x, lkN D c = some x → ∃ ks ∈ subs n, orN os ks 0 = c ∧ paid ps ks = x
  all : ∀ ks ∈ subs n, ∃ y, y ≤ paid ps ks ∧ lkN D (orN os ks 0) = some y
  nd : (ksN D).Nodup
  len : D.length ≤ 2 ^ n
theorem Low.zero (os : List (List Int)) (ps : List Int) : Low os ps 0 [(0, 0)] where
  fr := fun c x h => by
    have := lk_mem h
    rw [List.mem_singleton] at this
    cases this
    exact ⟨[], List.mem_singleton.mpr rfl, rfl, rfl⟩
  all := fun ks h => by
    rw [subs, List.mem_singleton] at h
    subst h
    exact ⟨0, Int.le_refl _, rfl⟩
  nd := by simp [ksN]
  len := by simp
theorem Low.next {os : List (List Int)} {ps : List Int} {n : Nat} {D W : Dn} (h : Low os ps n D) (s : Stp D W (maskN (offAt os (n : Int))) (ps.getD n 0)) : Low os ps (n + 1) W where
  fr := fun c x hx => by
    rcases s.fr c x hx with h1 | ⟨c0, v0, h1, h2, h3⟩
    · obtain ⟨ks, k1, k2, k3⟩ := h.fr c x h1
      exact ⟨ks, List.mem_append_left _ k1, k2, k3⟩
    · obtain ⟨ks, k1, k2, k3⟩ := h.fr c0 v0 h1
      refine ⟨ks ++ [(n : Int)], List.mem_append_right _ (List.mem_map.mpr ⟨ks, k1, rfl⟩), ?_, ?_⟩
      · rw [orN_snoc, k2, h2]
      · rw [paid_snoc, k3, h3, Int.toNat_natCast]
  all := fun ks hk => by
    rw [subs, List.mem_append] at hk
    rcases hk with hk | hk
    · obtain ⟨y, h1, h2⟩ := h.all ks hk
      obtain ⟨z, h3, h4⟩ := s.old _ _ h2
      exact ⟨z, by omega, h4⟩
    · obtain ⟨l, hl, rfl⟩ := List.mem_map.mp hk
      obtain ⟨y, h1, h2⟩ := h.all l hl
      obtain ⟨z, h3, h4⟩ := s.new _ _ h2
      refine ⟨z, ?_, ?_⟩
      · rw [paid_snoc, Int.toNat_natCast]
        omega
      · rw [orN_snoc]
        exact h4
  nd := s.nd
  len := by
    have h1 := s.len
    have h2 := h.len
    rw [Nat.pow_succ]
    omega
/-! ### the lowest cost -/
structure IsLow (os : List (List Int)) (ps qs : List Int) (x : Int) : Prop where
  ex : ∃ ks, OffOk os.length ks ∧ costL os ps qs ks = x
  le : ∀ ks, OffOk os.length ks → x ≤ costL os ps qs ks
end Pb

set_option Elab.async false
set_option linter.all false
set_option maxRecDepth 100000
namespace Pb
open PySem PySem.Spec PyProof.Rows L2
end Pb

set_option Elab.async false
set_option linter.all false
set_option maxRecDepth 100000
namespace Pb
open PySem PySem.Spec PyProof.Rows L2
/-! ### the law's own lowest cost -/
end Pb

set_option Elab.async false
set_option linter.all false
set_option maxRecDepth 100000
namespace Pb
open PySem PySem.Spec PyProof.Rows L2
def offO (e : PyData) : List Int := match e with
  | .tuple ds => ds.map intOf
  | _ => []
theorem offO_D (o : List Int) : offO (offD o) = o := off_ints o
/-- the least of the costs of all choices -/
theorem IsLow.min {os : List (List Int)} {ps qs : List Int} {x y : Int} (h : IsLow os ps qs x) (hy : y ∈ (subs os.length).map (costL os ps qs)) (hl : ∀ z ∈ (subs os.length).map (costL os ps qs), y ≤ z) : y = x := by
  obtain ⟨ks, k1, rfl⟩ := List.mem_map.mp hy
  obtain ⟨ls, l1, l2⟩ := h.ex
  have a := h.le ks (subs_in k1).1
  have b := hl _ (List.mem_map.mpr ⟨ls, subs_all l1, rfl⟩)
  omega
theorem IsLow.bd {m : Nat} {os : List (List Int)} {ps qs : List Int} {x : Int} (t : Tb m os) (hp : ps.length = os.length) (hq : qs.length = m) (h1 : In0 (1000000000000 : Int) ps) (h2 : In0 (1000000000000 : Int) qs) (h : IsLow os ps qs x) : 0 ≤ x ∧ x ≤ 100000000000000 := by
  obtain ⟨ks, k1, rfl⟩ := h.ex
  exact cost_bd t hp hq h1 h2 k1.1 (by have := k1.len; have := t.len; omega)
end Pb

set_option Elab.async false
set_option linter.all false
set_option maxRecDepth 100000
namespace Pb
open PySem PySem.Spec PyProof.Rows L2
/-! ### one item of a row replaced, or left out -/
def wiL {α : Type} (ns : List α) (k : Nat) (x : α) : List α := ns.take k ++ [x] ++ ns.drop (k + 1)
section
variable {φ ψ χ : Rho → Option PyData} {ρ : Rho}
end
end Pb

set_option Elab.async false
set_option linter.all false
set_option maxRecDepth 100000
namespace Pb
open PySem PySem.Spec PyProof.Rows L2
/-! ### costs as functions of one amount -/
end Pb

set_option Elab.async false
set_option linter.all false
set_option maxRecDepth 100000
namespace Pb
open PySem PySem.Spec PyProof.Rows L2
/-! ### comparing data -/
/-! ### one offer less -/
/-- the lowest cost of a choice that covers a demand -/
structure IsCov (os : List (List Int)) (ps qs : List Int) (d : Nat) (l : Int) : Prop where
  ex : ∃ ks, OffOk os.length ks ∧ coveredB os ks (d : Int) = true ∧ costL os ps (wiL qs d 0) ks = l
  le : ∀ ks, OffOk os.length ks → coveredB os ks (d : Int) = true → l ≤ costL os ps (wiL qs d 0) ks
end Pb

set_option Elab.async false
set_option linter.all false
set_option maxRecDepth 100000
namespace Pb
open PySem PySem.Spec PyProof.Rows L2
section
variable {P : Program} {w : World} {K : PySem.W.Frag} {mg : Str → Option Value} {base : Heap}
def q__law_uncovered : List PyData → Option PyData := runF 3 1
  ((sRet (eL (lLc [1] (iR (eOp fIxT (eVar 0) (eInt 0))) (gN 1) (bTest (eOp fEq0 (eL (lLc [2] (iT (eOp fIxT (eVar 0) (eInt 1))) (gN 2) (bTest (eOp fIn (eVar 1) (eVar 2))) (eInt 1))) (eL (lLst aNil)))) (eVar 1)))))
def w__law_covered : Addr → List PyData → Int → (PyData → Int → Prop) → Prop := runW 5 2 fun d =>
  (twSeq (twP (sPar 2 3 (aCons (eCb Pb.q__law_uncovered (aCons (eVar 1) aNil)) (aCons (eOp fIxT (eVar 1) (eInt 1)) aNil))))
  (twSeq (twWhile 20 (bAnd (bTest (eOp fNe0 (eVar 2) (eL (lLst aNil)))) (bTest (eOp fLt (eCb fLen (aCons (eVar 3) aNil)) (eInt 10)))) (twSeq (twSet (gN 4) (wOp fAdd (wP (eInt 1)) (wDraw d 0 WNextW (wCons (wP (eCb fLen (aCons (eVar 2) aNil))) wNil))))
  (twSeq (twP (sSet (gN 3) (eOp fCat (eVar 3) (eTup (aCons (eCb fTupOf (aCons (eL (lSl (eVar 2) oNone (oSome (eVar 4)))) aNil)) aNil)))))
  (twP (sSet (gN 2) (eL (lSl (eVar 2) (oSome (eVar 4)) oNone)))))))
  (twP (sRet (eTup (aCons (eOp fIxT (eVar 1) (eInt 0)) (aCons (eVar 3) aNil)))))))
end
end Pb

set_option Elab.async false
set_option linter.all false
set_option maxRecDepth 100000
namespace Pb
open PySem PySem.Spec PyProof.Rows L2
theorem filter_any {α : Type} (l : List α) (b : α → Bool) : (l.filter b).isEmpty = !l.any b := by
  rw [Bool.eq_iff_iff, List.isEmpty_iff, List.filter_eq_nil_iff]
  simp
theorem upto_lt (m : Nat) : (upto m).Pairwise (· < ·) := by
  unfold upto
  refine List.Pairwise.map _ (fun a b h => ?_) (List.pairwise_lt_range (n := m))
  have : a < b := h
  show (a : Int) < (b : Int)
  omega
def uncB (os : List (List Int)) (i : Int) : Bool := !os.any fun o => decide (i ∈ o)
def uncL (m : Nat) (os : List (List Int)) : List Int := (upto m).filter (uncB os)
theorem unc_cov {os : List (List Int)} {i : Int} : uncB os i = true ↔ covL os i = [] := by
  unfold uncB
  rw [Bool.not_eq_true']
  constructor
  · intro h
    refine List.eq_nil_iff_forall_not_mem.mpr fun k hk => ?_
    obtain ⟨j, o, h1, h2, _⟩ := mem_covL.mp hk
    rw [List.any_eq_false] at h
    exact h o (List.mem_of_getElem? h1) (by simpa using h2)
  · intro h
    rw [List.any_eq_false]
    intro o ho z
    obtain ⟨j, hj⟩ := List.getElem?_of_mem ho
    have : (j : Int) ∈ covL os i := mem_covL.mpr ⟨j, o, hj, by simpa using z, rfl⟩
    rw [h] at this
    exact absurd this List.not_mem_nil
theorem q_unc {m : Nat} {os : List (List Int)} (t : Tb m os) : q__law_uncovered [tabD m os] = some (.list ((uncL m os).map PyData.int)) := by
  have m10 := t.m10
  have ol := t.len
  refine runF_of rfl (sRet_of (eL_of ?_))
  refine Pf.lLc_at PyData.int intOf (fun _ => rfl) (l := upto m) (uncB os) PyData.int ?_ (by rw [ints_len]; omega) fun i hi => ⟨_, rfl, ?_, fun _ => rfl⟩
  · rw [← rng_ints]
    exact iR_of (eOp_of (x := tabD m os) (y := .int 0) rfl rfl rfl) (by omega)
  · have k := Pf.lLc_at offD offO offO_D (vs := [2]) (it := iT (eOp fIxT (eVar 0) (eInt 1))) (τ := gN 2) (β := bTest (eOp fIn (eVar 1) (eVar 2))) (φ := eInt 1) (ρ := [.val (tabD m os), .val (.int i), .no]) (l := os) (fun o => decide (i ∈ o)) (fun _ => PyData.int 1) rfl (by omega) fun o _ => ⟨_, rfl, bTest_of (eOp_of rfl rfl (fIn_tup i o)), fun _ => rfl⟩
    refine bTest_of (eOp_of (y := .list []) (eL_of k) rfl ?_)
    show some (PyData.bool (((os.filter fun o => decide (i ∈ o)).map fun _ => PyData.int 1).isEmpty)) = _
    rw [List.isEmpty_map, filter_any]
    rfl
theorem unc_in {m : Nat} {os : List (List Int)} : (uncL m os).Pairwise (· < ·) ∧ (uncL m os).length ≤ m ∧ ∀ i ∈ uncL m os, (0 ≤ i ∧ i < (m : Int)) ∧ covL os i = [] := by
  refine ⟨(upto_lt m).filter _, ?_, fun i hi => ?_⟩
  · refine Nat.le_trans (List.length_filter_le _ _) ?_
    rw [ints_len]
    exact Nat.le_refl _
  · obtain ⟨h1, h2⟩ := List.mem_filter.mp hi
    exact ⟨mem_ints.mp h1, unc_cov.mp h2⟩
abbrev cT : Rho → Option Bool := bAnd (bTest (eOp fNe0 (eVar 2) (eL (lLst aNil)))) (bTest (eOp fLt (eCb fLen (aCons (eVar 3) aNil)) (eInt 10)))
abbrev cBd (d : Addr) : Rho → Int → (Res → Int → Prop) → Prop := (twSeq (twSet (gN 4) (wOp fAdd (wP (eInt 1)) (wDraw d 0 WNextW (wCons (wP (eCb fLen (aCons (eVar 2) aNil))) wNil))))
  (twSeq (twP (sSet (gN 3) (eOp fCat (eVar 3) (eTup (aCons (eCb fTupOf (aCons (eL (lSl (eVar 2) oNone (oSome (eVar 4)))) aNil)) aNil)))))
  (twP (sSet (gN 2) (eL (lSl (eVar 2) (oSome (eVar 4)) oNone))))))
abbrev rC (d : Addr) (m : Nat) (os : List (List Int)) (us : List Int) (os' : List (List Int)) (s4 : Sl) : Rho := [.deck d, .val (tabD m os), .val (.list (us.map PyData.int)), .val (.tuple (os'.map offD)), s4]
theorem cov_loop {d : Addr} {m : Nat} {os : List (List Int)} {P : Res → Int → Prop} {N : Int} (hN : N < 2 ^ 45) (h : ∀ (us : List Int) (os' : List (List Int)) (s4 : Sl) (n' : Int), Tb m os' → n' ≤ N → P (.nx (rC d m os us os' s4)) n') :
    ∀ (f : Nat) (us : List Int) (os' : List (List Int)) (s4 : Sl) (n : Int), us.length < f → us.length ≤ 100 → us.Pairwise (· < ·) → (∀ i ∈ us, 0 ≤ i ∧ i < (m : Int)) → Tb m os' → n + us.length ≤ N → whW cT (cBd d) f (rC d m os us os' s4) n P
  | 0, us, os', s4, n, hf, _, _, _, _, _ => absurd hf (Nat.not_lt_zero _)
  | f + 1, us, os', s4, n, hf, hu, hp, hr, t, hn => by
    have t1 : (bTest (eOp fNe0 (eVar 2) (eL (lLst aNil)))) (rC d m os us os' s4) = some (!(us.map PyData.int).isEmpty) := rfl
    have t2 : (bTest (eOp fLt (eCb fLen (aCons (eVar 3) aNil)) (eInt 10))) (rC d m os us os' s4) = some (decide ((os'.length : Int) < 10)) := bTest_of (eOp_of (eCb_of (aCons_of rfl rfl) (len_offs os')) rfl rfl)
    have tt := bAnd_of t1 t2
    rw [List.isEmpty_map] at tt
    refine ⟨_, tt, ?_⟩
    by_cases z : us ≠ [] ∧ os'.length < 10
    · have u0 : 0 < us.length := List.length_pos_iff.mpr z.1
      have e1 : us.isEmpty = false := by
        cases us with
        | nil => exact absurd rfl z.1
        | cons _ _ => rfl
      rw [e1, decide_eq_true (show (os'.length : Int) < 10 by omega), if_pos (show (!false && true) = true from rfl)]
      refine ⟨_, rfl, rfl, .int (us.length : Nat), ?_, (us.length : Nat), rfl, by omega, by omega, by omega, fun v n1 v0 v1 le1 => ⟨.int (1 + v), rfl, _, rfl, ?_⟩⟩
      · show some (PyData.int ((us.map PyData.int).length : Nat)) = _
        rw [List.length_map]
      obtain ⟨k, rfl⟩ : ∃ k : Nat, v = (k : Int) := ⟨v.toNat, by omega⟩
      have hk : k + 1 ≤ us.length := by omega
      have c1 : cutG (us.map PyData.int) none (some (1 + (k : Int))) = (us.take (k + 1)).map PyData.int := by
        rw [show 1 + (k : Int) = ((k + 1 : Nat) : Int) by omega, cutG_take (by rw [List.length_map]; exact hk), List.map_take]
      have c2 : cutG (us.map PyData.int) (some (1 + (k : Int))) none = (us.drop (k + 1)).map PyData.int := by
        rw [show 1 + (k : Int) = ((k + 1 : Nat) : Int) by omega, cutG_drop (by rw [List.length_map]; exact hk), List.map_drop]
      have tl := t.len
      have s3 : sSet (gN 3) (eOp fCat (eVar 3) (eTup (aCons (eCb fTupOf (aCons (eL (lSl (eVar 2) oNone (oSome (eVar 4)))) aNil)) aNil))) (rC d m os us os' (.val (.int (1 + (k : Int))))) = some (.nx (rC d m os us (os' ++ [us.take (k + 1)]) (.val (.int (1 + (k : Int)))))) := by
        have g1 : (eTup (aCons (eCb fTupOf (aCons (eL (lSl (eVar 2) oNone (oSome (eVar 4)))) aNil)) aNil)) (rC d m os us os' (.val (.int (1 + (k : Int))))) = some (.tuple [offD (us.take (k + 1))]) := by
          have := aCons_of (φ := eCb fTupOf (aCons (eL (lSl (eVar 2) oNone (oSome (eVar 4)))) aNil)) (ρ := rC d m os us os' (.val (.int (1 + (k : Int))))) (eCb_of (aCons_of (eL_of ((lSl_of (es := us.map PyData.int) (l := none) (h := some (1 + (k : Int))) rfl rfl rfl).trans (congrArg some c1))) rfl) rfl) (φs := aNil) rfl
          unfold eTup
          rw [this]
          rfl
        refine (sSet_of (eOp_of (x := .tuple (os'.map offD)) rfl g1 (show fCat _ _ = some (.tuple ((os' ++ [us.take (k + 1)]).map offD)) from ?_))).trans rfl
        show (if (os'.map offD).length + 1 ≤ 100000 then some (PyData.tuple (os'.map offD ++ [offD (us.take (k + 1))])) else none) = _
        rw [if_pos (by rw [List.length_map]; omega), List.map_append]
        rfl
      refine ⟨_, s3, ?_⟩
      refine ⟨.nx (rC d m os (us.drop (k + 1)) (os' ++ [us.take (k + 1)]) (.val (.int (1 + (k : Int))))), ?_, ?_⟩
      · exact sSet_of (eL_of ((lSl_of (es := us.map PyData.int) (l := some (1 + (k : Int))) (h := none) rfl rfl rfl).trans (congrArg some c2)))
      · refine cov_loop hN h f (us.drop (k + 1)) (os' ++ [us.take (k + 1)]) _ n1 (by rw [List.length_drop]; omega) (by rw [List.length_drop]; omega) (hp.sublist (List.drop_sublist _ _)) (fun i hi => hr i (List.mem_of_mem_drop hi)) ⟨t.m1, t.m10, by rw [List.length_append]; simp; omega, fun o ho => ?_⟩ (by rw [List.length_drop]; omega)
        rcases List.mem_append.mp ho with ho | ho
        · exact t.off o ho
        · simp only [List.mem_cons, List.not_mem_nil, or_false] at ho
          subst ho
          exact ⟨fun i hi => hr i (List.mem_of_mem_take hi), hp.sublist (List.take_sublist _ _)⟩
    · have e : (!us.isEmpty && decide ((os'.length : Int) < 10)) = false := by
        cases us with
        | nil => rfl
        | cons a l =>
          have : ¬ os'.length < 10 := fun w => z ⟨by simp, w⟩
          rw [decide_eq_false (by omega), Bool.and_false]
      rw [e, if_neg Bool.false_ne_true]
      exact h us os' s4 n t (by omega)
theorem covered {d : Addr} {m : Nat} {os : List (List Int)} (t : Tb m os) {n : Int} (hn : n < 2 ^ 40) {P : PyData → Int → Prop} (h : ∀ (os' : List (List Int)) (n' : Int), Tb m os' → n' ≤ n + 10 → P (tabD m os') n') : w__law_covered d [tabD m os] n P := by
  obtain ⟨up, ul, ur'⟩ := unc_in (m := m) (os := os)
  have hu := q_unc t
  have m10 := t.m10
  have ur : ∀ i ∈ uncL m os, 0 ≤ i ∧ i < (m : Int) := fun i hi => (ur' i hi).1
  generalize uncL m os = us at hu up ul ur
  refine ⟨rfl, .nx (rC d m os us os .no), ?_, ?_⟩
  · show sPar 2 3 (aCons (eCb q__law_uncovered (aCons (eVar 1) aNil)) (aCons (eOp fIxT (eVar 1) (eInt 1)) aNil)) [.deck d, .val (tabD m os), .no, .no, .no] = _
    unfold sPar
    rw [aCons_of (eCb_of (aCons_of rfl rfl) hu) (aCons_of (x := .tuple (os.map offD)) rfl rfl)]
    rfl
  · refine cov_loop (N := n + 10) (by omega) (fun us' os' s4 n' t' le => ?_) 20 us os .no n (by omega) (by omega) up ur t (by omega)
    exact ⟨_, rfl, h os' n' t' le⟩
end Pb

set_option Elab.async false
set_option linter.all false
set_option maxRecDepth 100000
namespace Pb
open PySem PySem.Spec PyProof.Rows L2
/-! ### covers -/
def cvB (m : Nat) (os : List (List Int)) (ks : List Int) : Bool := (upto m).all (coveredB os ks)
theorem cv_iff {m : Nat} {os : List (List Int)} {ks : List Int} : cvB m os ks = true ↔ ∀ d : Nat, d < m → coveredB os ks (d : Int) = true := by
  unfold cvB
  rw [List.all_eq_true]
  constructor
  · intro h d hd
    exact h (d : Int) (mem_ints.mpr ⟨by omega, by omega⟩)
  · intro h i hi
    have := mem_ints.mp hi
    have := h i.toNat (by omega)
    rw [show ((i.toNat : Nat) : Int) = i by omega] at this
    exact this
theorem cov_out {m : Nat} {os : List (List Int)} {ks : List Int} (h : ∀ o ∈ os, OffOk m o) (ok : OffOk os.length ks) {d : Nat} (hd : m ≤ d) : coveredB os ks (d : Int) = false := by
  unfold coveredB
  rw [List.any_eq_false]
  intro k hk z
  have := (h _ (offAt_mem (ok.1 k hk))).1 (d : Int) (by simpa using z)
  omega
theorem or_full {m : Nat} {os : List (List Int)} {ks : List Int} (h : ∀ o ∈ os, OffOk m o) (ok : OffOk os.length ks) : orN os ks 0 = 2 ^ m - 1 ↔ cvB m os ks = true := by
  rw [cv_iff]
  constructor
  · intro e d hd
    have := orN_bit h ks 0 d ok.1
    rw [e, Nat.testBit_two_pow_sub_one, decide_eq_true hd, Nat.zero_testBit, Bool.false_or] at this
    exact this.symm
  · intro hc
    refine Nat.eq_of_testBit_eq fun j => ?_
    rw [orN_bit h ks 0 j ok.1, Nat.testBit_two_pow_sub_one, Nat.zero_testBit, Bool.false_or]
    by_cases hj : j < m
    · rw [decide_eq_true hj, hc j hj]
    · rw [decide_eq_false hj, cov_out h ok (by omega)]
/-- the lowest sum of prices of a cover -/
structure IsCC (m : Nat) (os : List (List Int)) (ps : List Int) (x : Int) : Prop where
  ex : ∃ ks, OffOk os.length ks ∧ cvB m os ks = true ∧ paid ps ks = x
  le : ∀ ks, OffOk os.length ks → cvB m os ks = true → x ≤ paid ps ks
theorem all_ok (N : Nat) : OffOk N (upto N) := ⟨fun i hi => mem_ints.mp hi, ints_strict N⟩
theorem all_cov {m : Nat} {os : List (List Int)} (hu : uncL m os = []) : cvB m os (upto os.length) = true := by
  rw [cv_iff]
  intro d hd
  have nc : covL os (d : Int) ≠ [] := fun z => by
    have : (d : Int) ∈ uncL m os := List.mem_filter.mpr ⟨mem_ints.mpr ⟨by omega, by omega⟩, unc_cov.mpr z⟩
    rw [hu] at this
    exact absurd this List.not_mem_nil
  obtain ⟨k, hk⟩ := List.exists_mem_of_ne_nil _ nc
  obtain ⟨j, o, h1, h2, rfl⟩ := mem_covL.mp hk
  have hj := (List.getElem?_eq_some_iff.mp h1).1
  unfold coveredB
  rw [List.any_eq_true]
  refine ⟨(j : Int), mem_ints.mpr ⟨by omega, by omega⟩, ?_⟩
  have := offAt_get (os := os) (k := (j : Int)) ⟨by omega, by omega⟩
  rw [Int.toNat_natCast, h1] at this
  rw [← Option.some.inj this]
  simpa using h2
theorem Low.cc {m : Nat} {os : List (List Int)} {ps : List Int} {D : Dn} (ho : ∀ o ∈ os, OffOk m o) (hu : uncL m os = []) (h : Low os ps os.length D) : ∃ x, lkN D (2 ^ m - 1) = some x ∧ IsCC m os ps x := by
  have ok := all_ok os.length
  obtain ⟨y, h1, h2⟩ := h.all _ (subs_all ok)
  rw [(or_full ho ok).mpr (all_cov hu)] at h2
  refine ⟨y, h2, ?_, fun ks k1 k2 => ?_⟩
  · obtain ⟨ks, k1, k2, k3⟩ := h.fr _ _ h2
    have ok := (subs_in k1).1
    exact ⟨ks, ok, (or_full ho ok).mp k2, k3⟩
  · obtain ⟨z, z1, z2⟩ := h.all ks (subs_all k1)
    rw [(or_full ho k1).mpr k2, h2] at z2
    cases z2
    exact z1
/-! ### the law's own lowest sum -/
/-! ### the program -/
end Pb

set_option Elab.async false
set_option linter.all false
set_option maxRecDepth 100000
namespace Pb
open PySem PySem.Spec PyProof.Rows L2
section
variable {P : Program} {w : World} {K : PySem.W.Frag} {mg : Str → Option Value} {base : Heap}
end
end Pb

set_option Elab.async false
set_option linter.all false
set_option maxRecDepth 100000
namespace Pb
open PySem PySem.Spec PyProof.Rows L2
/-! ### simple in what is left, by masks -/
/-! ### the members of a mask -/
def bitW (m r : Nat) : List Nat := (List.range m).filter r.testBit
end Pb

set_option Elab.async false
set_option linter.all false
set_option maxRecDepth 100000
namespace Pb
open PySem PySem.Spec PyProof.Rows L2
/-! ### the numbers of nested orders by masks -/
end Pb

set_option Elab.async false
set_option linter.all false
set_option maxRecDepth 100000
namespace Pb
open PySem PySem.Spec PyProof.Rows L2
/-! ### one demand less in a mask -/
theorem nodup_lt : ∀ (n : Nat) (l : List Nat), l.Nodup → (∀ x ∈ l, x < n) → l.length ≤ n
  | 0, l, _, h => by
    cases l with
    | nil => exact Nat.le_refl _
    | cons x l => exact absurd (h x List.mem_cons_self) (Nat.not_lt_zero _)
  | n + 1, l, nd, h => by
    have := nodup_lt n (l.erase n) (nd.erase n) fun x hx => by
      have := (nd.mem_erase_iff.mp hx)
      have := h x this.2
      omega
    by_cases hm : n ∈ l
    · rw [List.length_erase_of_mem hm] at this
      omega
    · rw [List.erase_of_not_mem hm] at this
      omega
/-! ### what a dict of ways weighs -/
/-! ### the ways of the law -/
structure Okk (m k : Nat) (W : Dn) : Prop where
  nd : (ksN W).Nodup
  ok : ∀ c ∈ ksN W, c < 2 ^ m ∧ (bitW m (2 ^ m - 1 - c)).length + k = m
theorem Okk.len {m k : Nat} {W : Dn} (h : Okk m k W) : W.length ≤ 2 ^ m := by
  have := nodup_lt (2 ^ m) (ksN W) h.nd fun x hx => (h.ok x hx).1
  unfold ksN at this
  rw [List.length_map] at this
  exact this
theorem Okk.put {m k : Nat} {W : Dn} (h : Okk m k W) {c : Nat} (v : Int) (hc : c < 2 ^ m ∧ (bitW m (2 ^ m - 1 - c)).length + k = m) : Okk m k (ptN W c v) := ⟨nd_pt h.nd _ _, fun a ha => by
  rw [ks_pt] at ha
  split at ha
  · exact h.ok a ha
  · rcases List.mem_append.mp ha with ha | ha
    · exact h.ok a ha
    · rw [List.mem_singleton] at ha
      rw [ha]
      exact hc⟩
end Pb

set_option Elab.async false
set_option linter.all false
set_option maxRecDepth 100000
namespace Pb
open PySem PySem.Spec PyProof.Rows L2
/-! ### bounds, and tables whose offers have one demand at most -/
end Pb

set_option Elab.async false
set_option linter.all false
set_option maxRecDepth 100000
namespace Pl
open PySem PySem.Spec PyProof.Rows L2 Pb
section
variable {P : Program} {w : World} {K : PySem.W.Frag} {mg : Str → Option Value} {base : Heap}
end
end Pl

set_option Elab.async false
set_option linter.all false
set_option maxRecDepth 100000
namespace Pb
open PySem PySem.Spec PyProof.Rows L2
/-! ### payments along orders of wider tables -/
structure Tw (m : Nat) (os : List (List Int)) : Prop where
  m1 : 1 ≤ m
  m200 : m ≤ 200
  len : os.length ≤ 10
  off : ∀ o ∈ os, OffOk m o
end Pb

set_option Elab.async false
set_option linter.all false
set_option maxRecDepth 100000
namespace Pl
open PySem PySem.Spec PyProof.Rows L2 Pb Pf
/-! ### segments -/
structure SegOk (bs : List T3) (t : T3) : Prop where
  sp : Spn t
  dem : bs.any (Pf.inB t.1) = true
end Pl

set_option Elab.async false
set_option linter.all false
set_option maxRecDepth 100000
namespace Pl
open PySem PySem.Spec PyProof.Rows L2 Pb Pf
end Pl

set_option Elab.async false
set_option linter.all false
set_option maxRecDepth 100000
namespace Pl
open PySem PySem.Spec PyProof.Rows L2 Pb Pf
/-! ### what the segments pay -/
/-! ### rows -/
structure RowOk (t : T3) : Prop where
  le : t.1 ≤ t.2.1
  p0 : 0 ≤ t.2.2
  p1 : t.2.2 ≤ 1000000000000
end Pl

set_option Elab.async false
set_option linter.all false
set_option maxRecDepth 100000
namespace Pl
open PySem PySem.Spec PyProof.Rows L2 Pb Pf
/-! ### joined rows -/
theorem nil_snoc {α : Type} (l : List α) : l = [] ∨ ∃ (a : List α) (u : α), l = a ++ [u] := by
  cases l with
  | nil => exact .inl rfl
  | cons x l => exact .inr ⟨(x :: l).dropLast, (x :: l).getLast (by simp), (List.dropLast_concat_getLast (by simp)).symm⟩
/-! ### the rows of a line -/
end Pl

set_option Elab.async false
set_option linter.all false
set_option maxRecDepth 100000
namespace Pb
open PySem PySem.Spec PyProof.Rows L2
/-! ### what the payments along an order keep -/
def sIn (os : List (List Int)) (fs pre : List Int) (k : Nat) : Int := (pre.map fun e => if e ∈ os.getD k [] then fs.getD e.toNat 0 else 0).sum
theorem cov_mem {os : List (List Int)} {d : Int} {j : Nat} (hj : j < os.length) : (j : Int) ∈ covL os d ↔ d ∈ os.getD j [] := by
  rw [mem_covL, List.getD_eq_getElem?_getD, List.getElem?_eq_getElem hj]
  constructor
  · rintro ⟨i, o, h1, h2, h3⟩
    have : i = j := by omega
    subst this
    rw [List.getElem?_eq_getElem hj] at h1
    cases h1
    exact h2
  · intro h
    exact ⟨j, _, List.getElem?_eq_getElem hj, h, rfl⟩
structure PInv (M : Int) (os : List (List Int)) (ps qs pre ls fs : List Int) : Prop where
  ll : ls.length = os.length
  fl : fs.length = qs.length
  in0 : In0 M ls
  rg : ∀ e ∈ pre, 0 ≤ e ∧ e < (qs.length : Int)
  sum : ∀ k : Nat, k < os.length → ls.getD k 0 = ps.getD k 0 - sIn os fs pre k
  bd : ∀ e ∈ pre, 0 ≤ fs.getD e.toNat 0 ∧ fs.getD e.toNat 0 ≤ qs.getD e.toNat 0
  tg : ∀ a e b, pre = a ++ e :: b → fs.getD e.toNat 0 = qs.getD e.toNat 0 ∨ ∃ k : Nat, k < os.length ∧ e ∈ os.getD k [] ∧ ls.getD k 0 = 0 ∧ ∀ e' ∈ b, e' ∈ os.getD k [] → fs.getD e'.toNat 0 = 0
theorem set_ne {l : List Int} {i j : Nat} {x : Int} (h : i ≠ j) : (l.set i x).getD j 0 = l.getD j 0 := by
  rw [List.getD_eq_getElem?_getD, List.getElem?_set_ne h, ← List.getD_eq_getElem?_getD]
theorem PInv.step {M : Int} {os : List (List Int)} {ps qs pre ls fs : List Int} {d : Int} (h2 : In0 M qs) (h : PInv M os ps qs pre ls fs) (hd : 0 ≤ d ∧ d < (qs.length : Int)) (nd : d ∉ pre) : PInv M os ps qs (pre ++ [d]) (subAll (payX os qs ls d) ls (covL os d)) (fs.set d.toNat (payX os qs ls d)) := by
  have x0 := payX_in h.ll h.in0 h2 hd
  have xl := payX_le (os := os) (qs := qs) (ls := ls) (d := d)
  have xa := payX_at (os := os) (qs := qs) (ls := ls) (d := d)
  have li := left_in h.ll h.in0 h2 hd
  generalize payX os qs ls d = x at x0 xl xa li
  have ck : ∀ k ∈ covL os d, 0 ≤ k ∧ k < (ls.length : Int) := fun k hk => by
    have := cov_ran k hk
    have := h.ll
    omega
  have lg : ∀ j : Nat, j < os.length → (subAll x ls (covL os d)).getD j 0 = if d ∈ os.getD j [] then ls.getD j 0 - x else ls.getD j 0 := fun j hj => by
    rw [subAll_get (cov_nodup os d) ck j]
    by_cases hm : d ∈ os.getD j []
    · rw [if_pos hm, if_pos ((cov_mem hj).mpr hm)]
    · rw [if_neg hm, if_neg fun z => hm ((cov_mem hj).mp z)]
  have fo : ∀ e ∈ pre, (fs.set d.toNat x).getD e.toNat 0 = fs.getD e.toNat 0 := fun e he => set_ne fun z => by
    have := h.rg e he
    exact nd (by rw [show d = e by omega]; exact he)
  have fd : (fs.set d.toNat x).getD d.toNat 0 = x := set_getD (by have := h.fl; omega)
  refine ⟨by rw [subAll_len]; exact h.ll, by rw [List.length_set]; exact h.fl, li, fun e he => ?_, fun k hk => ?_, fun e he => ?_, fun a e b hab => ?_⟩
  · rcases List.mem_append.mp he with he | he
    · exact h.rg e he
    · rw [List.mem_singleton] at he
      rw [he]
      exact hd
  · have so : sIn os (fs.set d.toNat x) pre k = sIn os fs pre k := by
      unfold sIn
      congr 1
      exact List.map_congr_left fun e he => by rw [fo e he]
    have e1 : sIn os (fs.set d.toNat x) (pre ++ [d]) k = sIn os fs pre k + if d ∈ os.getD k [] then x else 0 := by
      rw [← so]
      unfold sIn
      rw [List.map_append, List.sum_append]
      simp only [List.map_cons, List.map_nil, List.sum_cons, List.sum_nil, Int.add_zero, fd]
    rw [lg k hk, e1, h.sum k hk]
    split <;> omega
  · rcases List.mem_append.mp he with he | he
    · rw [fo e he]
      exact h.bd e he
    · rw [List.mem_singleton] at he
      rw [he, fd]
      exact ⟨x0.1, xl.1⟩
  · rcases Pl.nil_snoc b with rfl | ⟨b', u, rfl⟩
    · have := List.append_inj' hab (by simp)
      have ed : e = d := by have := this.2; simp at this; exact this.symm
      subst ed
      rw [fd]
      rcases xa with xa | ⟨k, hk, xk⟩
      · exact .inl xa
      · obtain ⟨k0, k1⟩ := cov_ran k hk
        have hk' : ((k.toNat : Nat) : Int) = k := by omega
        have km : e ∈ os.getD k.toNat [] := (cov_mem (by omega)).mp (by rw [hk']; exact hk)
        exact .inr ⟨k.toNat, by omega, km, by rw [lg _ (by omega), if_pos km, xk]; omega, fun e' he' => absurd he' List.not_mem_nil⟩
    · have hab' : pre ++ [d] = (a ++ e :: b') ++ [u] := by rw [hab]; simp
      have := List.append_inj' hab' rfl
      have ed : u = d := by have := this.2; simp at this; exact this.symm
      subst ed
      have hp := this.1
      have ep : e ∈ pre := by rw [hp]; simp
      rw [fo e ep]
      rcases h.tg a e b' hp with t | ⟨k, k1, k2, k3, k4⟩
      · exact .inl t
      · refine .inr ⟨k, k1, k2, ?_, fun e' he' hm => ?_⟩
        · rw [lg k k1]
          split
          · rename_i hm
            have := xl.2 (k : Int) ((cov_mem k1).mpr hm)
            rw [Int.toNat_natCast] at this
            omega
          · exact k3
        · rcases List.mem_append.mp he' with he' | he'
          · rw [fo e' (by rw [hp]; simp [he'])]
            exact k4 e' he' hm
          · rw [List.mem_singleton] at he'
            subst he'
            rw [fd]
            have := xl.2 (k : Int) ((cov_mem k1).mpr hm)
            rw [Int.toNat_natCast] at this
            omega
theorem PInv.all {M : Int} {os : List (List Int)} {ps qs : List Int} (h2 : In0 M qs) : ∀ {post pre ls fs : List Int}, PInv M os ps qs pre ls fs → (∀ d ∈ post, 0 ≤ d ∧ d < (qs.length : Int)) → (pre ++ post).Nodup → PInv M os ps qs (pre ++ post) (payGo os qs post ls fs).1 (payGo os qs post ls fs).2
  | [], pre, ls, fs, h, _, _ => by rw [List.append_nil]; exact h
  | d :: post, pre, ls, fs, h, hs, nd => by
    have e : pre ++ d :: post = (pre ++ [d]) ++ post := by simp
    rw [e] at nd ⊢
    have nd' := (List.nodup_append.mp nd).1
    exact PInv.all h2 (h.step h2 (hs d List.mem_cons_self) fun z => (List.nodup_append.mp nd').2.2 d z d (by simp) rfl) (fun x hx => hs x (List.mem_cons_of_mem _ hx)) nd
end Pb

set_option Elab.async false
set_option linter.all false
set_option maxRecDepth 100000
namespace Pb
open PySem PySem.Spec PyProof.Rows L2
/-! ### sums over an order -/
theorem sum_perm {l r : List Int} (h : l.Perm r) : l.sum = r.sum := by
  induction h with
  | nil => rfl
  | cons x _ ih => rw [List.sum_cons, List.sum_cons, ih]
  | swap x y l => rw [List.sum_cons, List.sum_cons, List.sum_cons, List.sum_cons]; omega
  | trans _ _ h1 h2 => exact h1.trans h2
theorem sum_le {f g : Int → Int} : ∀ {l : List Int}, (∀ e ∈ l, f e ≤ g e) → (l.map f).sum ≤ (l.map g).sum
  | [], _ => Int.le_refl _
  | e :: l, h => by
    rw [List.map_cons, List.map_cons, List.sum_cons, List.sum_cons]
    have := h e List.mem_cons_self
    have := sum_le (l := l) fun x hx => h x (List.mem_cons_of_mem _ hx)
    omega
theorem sum_add {f g : Int → Int} : ∀ l : List Int, (l.map fun e => f e + g e).sum = (l.map f).sum + (l.map g).sum
  | [] => rfl
  | e :: l => by
    rw [List.map_cons, List.map_cons, List.map_cons, List.sum_cons, List.sum_cons, List.sum_cons, sum_add l]
    omega
theorem ord_perm {m : Nat} {so : List Int} (h : OrdP m so) : so.Perm (upto m) := by
  have nu : (upto m).Nodup := (ints_strict m).imp fun h => by omega
  rw [List.perm_ext_iff_of_nodup h.2.1 nu]
  intro a
  constructor
  · intro ha
    exact mem_ints.mpr (h.1 a ha)
  · intro ha
    exact sub_full h.2.1 (by rw [ints_len, h.2.2]; exact Nat.le_refl _) (fun i hi => mem_ints.mpr (h.1 i hi)) a ha
theorem pen_upto (b : Int → Bool) : ∀ (qs : List Int) (n : Nat), (((qs.zipIdx n).filter fun p => !b ((p.2 : Nat) : Int)).map Prod.fst).sum = ((List.range qs.length).map fun i => if b ((n + i : Nat) : Int) = true then 0 else qs.getD i 0).sum
  | [], n => rfl
  | q :: qs, n => by
    have ih := pen_upto b qs (n + 1)
    rw [List.zipIdx_cons, List.length_cons, List.range_succ_eq_map, List.map_cons, List.sum_cons, List.map_map]
    have e : ((fun i => if b ((n + i : Nat) : Int) = true then 0 else (q :: qs).getD i 0) ∘ Nat.succ) = fun i => if b ((n + 1 + i : Nat) : Int) = true then 0 else qs.getD i 0 := by
      funext i
      show (if b ((n + (i + 1) : Nat) : Int) = true then 0 else (q :: qs).getD (i + 1) 0) = _
      rw [show n + (i + 1) = n + 1 + i by omega, List.getD_cons_succ]
    rw [e, ← ih, List.filter_cons]
    show _ = (if b ((n + 0 : Nat) : Int) = true then 0 else (q :: qs).getD 0 0) + _
    rw [Nat.add_zero, List.getD_cons_zero]
    cases h : b ((n : Nat) : Int) with
    | true => simp [h]
    | false => simp [h]
theorem pen_ord {m : Nat} {qs so : List Int} {b : Int → Bool} (ho : OrdP m so) (hq : qs.length = m) : penL qs b = (so.map fun e => if b e = true then 0 else qs.getD e.toNat 0).sum := by
  unfold penL
  rw [pen_upto b qs 0, sum_perm ((ord_perm ho).map _), hq]
  unfold upto
  rw [List.map_map]
  congr 1
  refine List.map_congr_left fun i _ => ?_
  show _ = if b ((i : Nat) : Int) = true then 0 else qs.getD ((i : Nat) : Int).toNat 0
  rw [Int.toNat_natCast, Nat.zero_add]
theorem total_ord {m : Nat} {fs so : List Int} (ho : OrdP m so) (hf : fs.length = m) : fs.sum = (so.map fun e => fs.getD e.toNat 0).sum := by
  rw [sum_perm ((ord_perm ho).map _)]
  unfold upto
  rw [List.map_map]
  congr 1
  refine List.ext_getElem? fun k => ?_
  rw [List.getElem?_map]
  by_cases h : k < m
  · rw [List.getElem?_range h, List.getElem?_eq_getElem (by omega : k < fs.length)]
    show _ = some (fs.getD ((k : Nat) : Int).toNat 0)
    rw [Int.toNat_natCast, List.getD_eq_getElem?_getD, List.getElem?_eq_getElem (by omega : k < fs.length)]
    rfl
  · rw [List.getElem?_eq_none (by omega), List.getElem?_eq_none (by rw [List.length_range]; omega)]
    rfl
/-! ### what is known of the payments -/
structure PayF (os : List (List Int)) (ps qs so fs : List Int) : Prop where
  fl : fs.length = qs.length
  bd : ∀ e ∈ so, 0 ≤ fs.getD e.toNat 0 ∧ fs.getD e.toNat 0 ≤ qs.getD e.toNat 0
  le : ∀ k : Nat, k < os.length → sIn os fs so k ≤ ps.getD k 0
  tg : ∀ a e b, so = a ++ e :: b → fs.getD e.toNat 0 = qs.getD e.toNat 0 ∨ ∃ k : Nat, k < os.length ∧ e ∈ os.getD k [] ∧ sIn os fs so k = ps.getD k 0 ∧ ∀ e' ∈ b, e' ∈ os.getD k [] → fs.getD e'.toNat 0 = 0
theorem swap_sum (F : Int → Int → Int) : ∀ (ks so : List Int), (so.map fun e => (ks.map fun k => F k e).sum).sum = (ks.map fun k => (so.map fun e => F k e).sum).sum
  | [], so => by
    induction so with
    | nil => rfl
    | cons e so ih => rw [List.map_cons, List.sum_cons, ih]; rfl
  | k :: ks, so => by
    rw [List.map_cons, List.sum_cons, ← swap_sum F ks so, ← sum_add]
    rfl
/-- no choice costs less than what is paid -/
theorem weak {m : Nat} {os : List (List Int)} {ps qs so fs ks : List Int} (hq : qs.length = m) (ho : OrdP m so) (h : PayF os ps qs so fs) (hk : OffOk os.length ks) : fs.sum ≤ costL os ps qs ks := by
  unfold costL
  rw [pen_ord ho hq, total_ord ho (h.fl.trans hq)]
  have e1 : (so.map fun e => fs.getD e.toNat 0).sum ≤ (so.map fun e => (ks.map fun k => if e ∈ os.getD k.toNat [] then fs.getD e.toNat 0 else 0).sum + if coveredB os ks e = true then 0 else qs.getD e.toNat 0).sum := sum_le fun e he => by
    have b := h.bd e he
    have nn : ∀ l : List Int, 0 ≤ (l.map fun k => if e ∈ os.getD k.toNat [] then fs.getD e.toNat 0 else 0).sum := by
      intro l
      induction l with
      | nil => exact Int.le_refl _
      | cons k l ih =>
        rw [List.map_cons, List.sum_cons]
        split <;> omega
    cases hc : coveredB os ks e with
    | false =>
      rw [if_neg Bool.false_ne_true]
      have := nn ks
      omega
    | true =>
      rw [if_pos rfl, Int.add_zero]
      unfold coveredB at hc
      obtain ⟨k, k1, k2⟩ := List.any_eq_true.mp hc
      have k2' : e ∈ os.getD k.toNat [] := of_decide_eq_true k2
      obtain ⟨a, c, rfl⟩ := List.append_of_mem k1
      rw [List.map_append, List.sum_append, List.map_cons, List.sum_cons, if_pos k2']
      have := nn a
      have := nn c
      omega
  refine Int.le_trans e1 ?_
  rw [sum_add, swap_sum fun k e => if e ∈ os.getD k.toNat [] then fs.getD e.toNat 0 else 0]
  have e2 : (ks.map fun k => (so.map fun e => if e ∈ os.getD k.toNat [] then fs.getD e.toNat 0 else 0).sum).sum ≤ (ks.map fun k => ps.getD k.toNat 0).sum := sum_le fun k hk' => by
    have r := hk.1 k hk'
    exact h.le k.toNat (by omega)
  unfold paid
  omega
end Pb

set_option linter.all false
namespace BK
open Classical
/-! ### a family of sets without rings: each set of demands has a simple one (Brouwer and Kolen) -/
/-- what a way that starts in a, not in b, reaches by sets without d, outside of a -/
inductive Reach (E : List (List Int)) (d : Int) (a b : List Int) : Int → Prop
  | start {p : Int} : p ∈ a → p ∉ b → Reach E d a b p
  | step {p q : Int} {l : List Int} : Reach E d a b p → l ∈ E → d ∉ l → p ∈ l → q ∈ l → q ∉ a → Reach E d a b q
def NoWay (E : List (List Int)) : Prop := ∀ (i j : Nat) (a b : List Int), i < j → E[i]? = some a → E[j]? = some b → ∀ d, d ∈ a → d ∈ b → ∀ q, Reach E d a b q → q ∉ b
/-- in a set of demands -/
def SimpleIn (E : List (List Int)) (V : List Int) (x : Int) : Prop := ∀ a ∈ E, ∀ b ∈ E, x ∈ a → x ∈ b → (∀ y ∈ V, y ∈ a → y ∈ b) ∨ (∀ y ∈ V, y ∈ b → y ∈ a)
theorem exMax {α : Type} (f : α → Nat) (p : α → Prop) : ∀ (L : List α), (∃ x ∈ L, p x) → ∃ x ∈ L, p x ∧ ∀ y ∈ L, p y → f y ≤ f x
  | [], ⟨x, h, _⟩ => by cases h
  | x :: L, h => by
    by_cases k : ∃ y ∈ L, p y
    · obtain ⟨y, hy, py, my⟩ := exMax f p L k
      by_cases c : p x ∧ f y < f x
      · exact ⟨x, List.mem_cons_self, c.1, fun z hz pz => by
          rcases List.mem_cons.mp hz with rfl | hz
          · exact Nat.le_refl _
          · exact Nat.le_trans (my z hz pz) (Nat.le_of_lt c.2)⟩
      · refine ⟨y, List.mem_cons_of_mem _ hy, py, fun z hz pz => ?_⟩
        rcases List.mem_cons.mp hz with rfl | hz
        · exact Nat.le_of_not_lt fun q => c ⟨pz, q⟩
        · exact my z hz pz
    · obtain ⟨z, hz, pz⟩ := h
      rcases List.mem_cons.mp hz with rfl | hz
      · exact ⟨z, List.mem_cons_self, pz, fun y hy py => by
          rcases List.mem_cons.mp hy with rfl | hy
          · exact Nat.le_refl _
          · exact absurd ⟨y, hy, py⟩ k⟩
      · exact absurd ⟨z, hz, pz⟩ k
noncomputable def kp (V : List Int) (p : Int → Prop) : List Int := V.filter fun v => decide (p v)
noncomputable def cnt (V : List Int) (p : Int → Prop) : Nat := (kp V p).length
theorem mem_kp {V : List Int} {p : Int → Prop} {x : Int} : x ∈ kp V p ↔ x ∈ V ∧ p x := by
  unfold kp
  rw [List.mem_filter, decide_eq_true_iff]
theorem cnt_le {V : List Int} {p q : Int → Prop} (h : ∀ v ∈ V, p v → q v) : cnt V p ≤ cnt V q := by
  unfold cnt kp
  induction V with
  | nil => exact Nat.le_refl _
  | cons v V ih =>
    have ih' := ih fun u hu => h u (List.mem_cons_of_mem _ hu)
    have hv := h v List.mem_cons_self
    by_cases c : p v
    · rw [List.filter_cons_of_pos (by simpa using c), List.filter_cons_of_pos (by simpa using hv c), List.length_cons, List.length_cons]
      omega
    · rw [List.filter_cons_of_neg (by simpa using c)]
      by_cases e : q v
      · rw [List.filter_cons_of_pos (by simpa using e), List.length_cons]
        omega
      · rw [List.filter_cons_of_neg (by simpa using e)]
        exact ih'
theorem cnt_lt {V : List Int} {p q : Int → Prop} (h : ∀ v ∈ V, p v → q v) {x : Int} (hx : x ∈ V) (nx : ¬ p x) (qx : q x) : cnt V p < cnt V q := by
  unfold cnt kp
  induction V with
  | nil => cases hx
  | cons v V ih =>
    have hv := h v List.mem_cons_self
    have le : (V.filter fun v => decide (p v)).length ≤ (V.filter fun v => decide (q v)).length := cnt_le fun u hu => h u (List.mem_cons_of_mem _ hu)
    rcases List.mem_cons.mp hx with rfl | hx
    · rw [List.filter_cons_of_neg (by simpa using nx), List.filter_cons_of_pos (by simpa using qx), List.length_cons]
      omega
    · have ih' := ih (fun u hu => h u (List.mem_cons_of_mem _ hu)) hx
      by_cases c : p v
      · rw [List.filter_cons_of_pos (by simpa using c), List.filter_cons_of_pos (by simpa using hv c), List.length_cons, List.length_cons]
        omega
      · rw [List.filter_cons_of_neg (by simpa using c)]
        by_cases e : q v
        · rw [List.filter_cons_of_pos (by simpa using e), List.length_cons]
          omega
        · rw [List.filter_cons_of_neg (by simpa using e)]
          exact ih'
section
variable {E : List (List Int)} {V : List Int} {e : List Int} {t0 : Int}
/-- a set that misses a demand -/
def Pr (E : List (List Int)) (V : List Int) (l : List Int) : Prop := l ∈ E ∧ ∃ y ∈ V, y ∉ l
inductive Comp (E : List (List Int)) (V : List Int) (e : List Int) (t0 : Int) : Int → Prop
  | base : Comp E V e t0 t0
  | step {t u : Int} {l : List Int} : Comp E V e t0 t → Pr E V l → t ∈ l → u ∈ l → u ∈ V → u ∉ e → Comp E V e t0 u
theorem Comp.out (h0 : t0 ∈ V) (h1 : t0 ∉ e) {t : Int} (h : Comp E V e t0 t) : t ∈ V ∧ t ∉ e := by
  cases h with
  | base => exact ⟨h0, h1⟩
  | step _ _ _ _ h2 h3 => exact ⟨h2, h3⟩
/-- linked to the set f by sets whose part in e is one of f -/
inductive Lk (E : List (List Int)) (V : List Int) (e f : List Int) (t0 : Int) : Int → Prop
  | base {t : Int} : t ∈ f → Comp E V e t0 t → Lk E V e f t0 t
  | step {t u : Int} {l : List Int} : Lk E V e f t0 t → Pr E V l → (∀ y ∈ V, y ∈ e → y ∈ l → y ∈ f) → t ∈ l → u ∈ l → Comp E V e t0 u → Lk E V e f t0 u
theorem Lk.comp {f : List Int} {t : Int} (h : Lk E V e f t0 t) : Comp E V e t0 t := by
  cases h with
  | base _ h => exact h
  | step _ _ _ _ _ h => exact h
/-- a chain from t to m by sets without z, outside of e -/
inductive Ch (E : List (List Int)) (e : List Int) (z m : Int) : Int → Prop
  | base {t : Int} {l : List Int} : t ∉ e → l ∈ E → z ∉ l → t ∈ l → m ∈ l → Ch E e z m t
  | step {t u : Int} {l : List Int} : t ∉ e → l ∈ E → z ∉ l → t ∈ l → u ∈ l → Ch E e z m u → Ch E e z m t
theorem Ch.out {z m t : Int} (h : Ch E e z m t) : t ∉ e := by
  cases h with
  | base h => exact h
  | step h => exact h
theorem ch_reach {z m : Int} {g : List Int} (he : m ∈ e) (hg : m ∉ g) {t : Int} (h : Ch E e z m t) : Reach E z e g t := by
  induction h with
  | base h1 h2 h3 h4 h5 => exact .step (.start he hg) h2 h3 h5 h4 h1
  | step h1 h2 h3 h4 h5 _ ih => exact .step ih h2 h3 h5 h4 h1
theorem ch_reach2 {z m : Int} {g : List Int} (he : m ∈ e) (hg : m ∉ g) {t : Int} (h : Ch E e z m t) (r : Reach E z g e t) : Reach E z g e m := by
  induction h with
  | base h1 h2 h3 h4 h5 => exact .step r h2 h3 h4 h5 hg
  | @step t u l h1 h2 h3 h4 h5 h6 ih =>
    refine ih ?_
    by_cases c : u ∈ g
    · exact .start c h6.out
    · exact .step r h2 h3 h4 h5 c
theorem no_chain (nw : NoWay E) {g : List Int} (ge : g ∈ E) (ee : e ∈ E) {z m t : Int} (zg : z ∈ g) (ze : z ∈ e) (me : m ∈ e) (mg : m ∉ g) (tg : t ∈ g) (h : Ch E e z m t) : False := by
  obtain ⟨i, hi⟩ := List.mem_iff_getElem?.mp ge
  obtain ⟨j, hj⟩ := List.mem_iff_getElem?.mp ee
  have ne : i ≠ j := fun q => by
    rw [q, hj] at hi
    cases hi
    exact mg me
  rcases Nat.lt_or_gt_of_ne ne with lt | lt
  · exact nw i j g e lt hi hj z zg ze m (ch_reach2 me mg h (.start tg h.out)) me
  · exact nw j i e g lt hj hi z ze zg t (ch_reach me mg h) tg
theorem lk_chain {f : List Int} (h0 : t0 ∈ V) (h1 : t0 ∉ e) (fe : f ∈ E) {z m : Int} (zV : z ∈ V) (ze : z ∈ e) (zf : z ∉ f) (mf : m ∈ f) {t : Int} (h : Lk E V e f t0 t) : Ch E e z m t := by
  induction h with
  | base k1 k2 => exact .base (k2.out h0 h1).2 fe zf k1 mf
  | step k1 k2 k3 k4 k5 k6 ih => exact .step (k6.out h0 h1).2 k2.1 (fun q => zf (k3 z zV ze q)) k5 k4 ih
/-- the part in e of each set that meets the component is one of f -/
theorem traces (nw : NoWay E) (ee : e ∈ E) (h0 : t0 ∈ V) (h1 : t0 ∉ e) {f : List Int} (pf : Pr E V f) {tf : Int} (htf : tf ∈ f) (ctf : Comp E V e t0 tf)
    (mx : ∀ g, Pr E V g → (∃ t ∈ g, Comp E V e t0 t) → cnt V (fun y => y ∈ g ∧ y ∈ e) ≤ cnt V (fun y => y ∈ f ∧ y ∈ e))
    {g : List Int} (pg : Pr E V g) {x : Int} (xg : x ∈ g) (cx : Comp E V e t0 x) : ∀ y ∈ V, y ∈ e → y ∈ g → y ∈ f := by
  refine Classical.byContradiction fun bad => ?_
  have : ∃ g', Pr E V g' ∧ (∃ t ∈ g', Lk E V e f t0 t) ∧ ¬ ∀ y ∈ V, y ∈ e → y ∈ g' → y ∈ f := by
    refine Classical.byContradiction fun none => ?_
    have all : ∀ g', Pr E V g' → (∃ t ∈ g', Lk E V e f t0 t) → ∀ y ∈ V, y ∈ e → y ∈ g' → y ∈ f := fun g' p q => Classical.byContradiction fun w => none ⟨g', p, q, w⟩
    have iff : ∀ s, Comp E V e t0 s → (Lk E V e f t0 s ↔ Lk E V e f t0 t0) := fun s hs => by
      induction hs with
      | base => exact Iff.rfl
      | @step t u l k1 k2 k3 k4 k5 k6 ih =>
        have cu : Comp E V e t0 u := .step k1 k2 k3 k4 k5 k6
        exact ⟨fun w => ih.mp (.step w k2 (all l k2 ⟨u, k4, w⟩) k4 k3 k1), fun w => let w' := ih.mpr w; .step w' k2 (all l k2 ⟨t, k3, w'⟩) k3 k4 cu⟩
    exact bad (all g pg ⟨x, xg, (iff x cx).mpr ((iff tf ctf).mp (.base htf ctf))⟩)
  obtain ⟨g', pg', ⟨t, tg, lt⟩, nb⟩ := this
  have : ∃ z, z ∈ V ∧ z ∈ e ∧ z ∈ g' ∧ z ∉ f := Classical.byContradiction fun w => nb fun y y1 y2 y3 => Classical.byContradiction fun q => w ⟨y, y1, y2, y3, q⟩
  obtain ⟨z, z1, z2, z3, z4⟩ := this
  have : ∃ m, m ∈ V ∧ m ∈ e ∧ m ∈ f ∧ m ∉ g' := Classical.byContradiction fun w => by
    have le := mx g' pg' ⟨t, tg, lt.comp⟩
    have lt := cnt_lt (V := V) (p := fun y => y ∈ f ∧ y ∈ e) (q := fun y => y ∈ g' ∧ y ∈ e) (fun v v1 v2 => ⟨Classical.byContradiction fun q => w ⟨v, v1, v2.2, v2.1, q⟩, v2.2⟩) z1 (fun q => z4 q.1) ⟨z3, z2⟩
    omega
  obtain ⟨m, m1, m2, m3, m4⟩ := this
  exact no_chain nw pg'.1 ee z3 z2 m2 m4 tg (lk_chain h0 h1 pf.1 z1 z2 z4 m3 lt)
end
/-- outside of each set that misses a demand there is a simple one -/
theorem simple_out {E : List (List Int)} (nw : NoWay E) : ∀ (n : Nat) (V : List Int), V.length ≤ n → ∀ e0 ∈ E, (∃ t ∈ V, t ∉ e0) → ∃ x ∈ V, x ∉ e0 ∧ SimpleIn E V x := by
  intro n
  induction n with
  | zero =>
    intro V hV e0 he ⟨t, ht, _⟩
    cases V with
    | nil => cases ht
    | cons _ _ => simp at hV
  | succ n ih =>
    intro V hV e0 he0 hex
    obtain ⟨e, ee, ⟨pe, sub⟩, mxe⟩ := exMax (fun l => cnt V (fun y => y ∈ l)) (fun l => (∃ t ∈ V, t ∉ l) ∧ ∀ y ∈ V, y ∈ e0 → y ∈ l) E ⟨e0, he0, hex, fun _ _ h => h⟩
    obtain ⟨t0, h0, h1⟩ := pe
    by_cases hF : ∃ l ∈ E, (∃ y ∈ V, y ∉ l) ∧ ∃ t ∈ l, Comp E V e t0 t
    · obtain ⟨f, fe, ⟨pf, tf, htf, ctf⟩, mxf⟩ := exMax (fun l => cnt V (fun y => y ∈ l ∧ y ∈ e)) (fun l => (∃ y ∈ V, y ∉ l) ∧ ∃ t ∈ l, Comp E V e t0 t) E hF
      have hy : ∃ y, y ∈ V ∧ y ∈ e ∧ y ∉ f := Classical.byContradiction fun w => by
        have ef : ∀ y ∈ V, y ∈ e → y ∈ f := fun y y1 y2 => Classical.byContradiction fun q => w ⟨y, y1, y2, q⟩
        have le := mxe f fe ⟨pf, fun y y1 y2 => ef y y1 (sub y y1 y2)⟩
        have lt := cnt_lt (V := V) (p := fun y => y ∈ e) (q := fun y => y ∈ f) ef (ctf.out h0 h1).1 (ctf.out h0 h1).2 htf
        omega
      obtain ⟨y, y1, y2, y3⟩ := hy
      have tr := fun {g : List Int} (pg : Pr E V g) {x : Int} (xg : x ∈ g) (cx : Comp E V e t0 x) => traces nw ee h0 h1 ⟨fe, pf⟩ htf ctf (fun g p q => mxf g p.1 ⟨p.2, q⟩) pg xg cx
      have lt : (kp V fun v => Comp E V e t0 v ∨ (v ∈ e ∧ v ∈ f)).length < V.length := by
        have := cnt_lt (V := V) (p := fun v => Comp E V e t0 v ∨ (v ∈ e ∧ v ∈ f)) (q := fun _ => True) (fun _ _ _ => trivial) y1 (fun q => by
          rcases q with q | q
          · exact (q.out h0 h1).2 y2
          · exact y3 q.2) trivial
        refine Nat.lt_of_lt_of_le this ?_
        exact List.length_filter_le _ _
      obtain ⟨x, hx, xe, sx⟩ := ih (kp V fun v => Comp E V e t0 v ∨ (v ∈ e ∧ v ∈ f)) (by omega) e ee ⟨t0, mem_kp.mpr ⟨h0, .inl .base⟩, h1⟩
      obtain ⟨xV, xp⟩ := mem_kp.mp hx
      have cx : Comp E V e t0 x := by
        rcases xp with q | q
        · exact q
        · exact absurd q.1 xe
      refine ⟨x, xV, fun q => xe (sub x xV q), fun a ae b be xa xb => ?_⟩
      by_cases pa : ∃ y ∈ V, y ∉ a
      · by_cases pb : ∃ y ∈ V, y ∉ b
        · have inV : ∀ {g : List Int}, Pr E V g → x ∈ g → ∀ v ∈ V, v ∈ g → v ∈ kp V fun v => Comp E V e t0 v ∨ (v ∈ e ∧ v ∈ f) := fun {g} pg xg v v1 v2 => by
            refine mem_kp.mpr ⟨v1, ?_⟩
            by_cases c : v ∈ e
            · exact .inr ⟨c, tr pg xg cx v v1 c v2⟩
            · exact .inl (.step cx pg xg v2 v1 c)
          rcases sx a ae b be xa xb with k | k
          · exact .inl fun v v1 v2 => k v (inV ⟨ae, pa⟩ xa v v1 v2) v2
          · exact .inr fun v v1 v2 => k v (inV ⟨be, pb⟩ xb v v1 v2) v2
        · exact .inl fun v v1 _ => Classical.byContradiction fun q => pb ⟨v, v1, q⟩
      · exact .inr fun v v1 _ => Classical.byContradiction fun q => pa ⟨v, v1, q⟩
    · refine ⟨t0, h0, fun q => h1 (sub t0 h0 q), fun a ae b be xa xb => .inl fun v v1 _ => Classical.byContradiction fun q => ?_⟩
      exact hF ⟨b, be, ⟨v, v1, q⟩, t0, xb, .base⟩
theorem simple_ex {E : List (List Int)} (nw : NoWay E) {V : List Int} (hV : V ≠ []) : ∃ x ∈ V, SimpleIn E V x := by
  by_cases h : ∃ e ∈ E, ∃ t ∈ V, t ∉ e
  · obtain ⟨e, he, ht⟩ := h
    obtain ⟨x, h1, _, h2⟩ := simple_out nw V.length V (Nat.le_refl _) e he ht
    exact ⟨x, h1, h2⟩
  · obtain ⟨x, hx⟩ := List.exists_mem_of_ne_nil V hV
    exact ⟨x, hx, fun a ae b be _ _ => .inl fun v v1 _ => Classical.byContradiction fun q => h ⟨b, be, v, v1, q⟩⟩
end BK

set_option Elab.async false
set_option linter.all false
set_option maxRecDepth 100000
namespace Pb
open PySem PySem.Spec PyProof.Rows L2
/-! ### comprehensions clause by clause: [e for x in .. for y in .. for z in ..] -/
section
variable {Y : Cx}
/-- what stands behind the tests, as a transformer of heaps; the slots ws are let go -/
structure InOk (Y : Cx) (B : Sem Fin → Sem Fin) (ws : List Nat) (b : L2.St → Hp → (Hp → Prop) → Prop) : Prop where
  run : ∀ (pins : List (Addr × Obj)) (s : Shared) (σ : L2.St) (H : Hp) (Nx : Hp → Prop) (k : Sem Fin) (Q : Fin → Shared → Prop) (E : Value → Shared → Prop), Inv Y pins σ H s → b σ H Nx →
    (∀ s' H', Inv Y pins (wipe σ ws) H' s' → Nx H' → wpAny (model Y.prog Y.w) Y.A k Q E s') → wpAny (model Y.prog Y.w) Y.A (B k) Q E s
end
section
variable {elt t0 i0 t1 i1 t2 i2 : Expr} {f0 f1 f2 : List Expr} {scope : Scope} {pos : Pos}
end
end Pb

set_option Elab.async false
set_option linter.all false
set_option maxRecDepth 100000
namespace Pb
open PySem PySem.Spec PyProof.Rows L2
/-! ### readings of comprehensions clause by clause -/
section
variable {K : PySem.W.Frag} {S : List Addr} {H0 : Hp} {G : Hp → Prop} {T ow : List Addr} {ρ : Rho} {σ : L2.St} {H H' : Hp} {D : Addr}
/-- all but one address stays -/
def Kd (D : Addr) (H H' : Hp) : Prop := ∀ a o, a ≠ D → H a = some o → H' a = some o
theorem Kd.refl : Kd D H H := fun _ _ _ e => e
theorem Kd.same {H2 : Hp} (h : Kd D H H') (s : Same H' H2) : Kd D H H2 := fun a o n e => s _ _ (h a o n e)
theorem Kd.trans {H2 : Hp} (h : Kd D H H') (k : Kd D H' H2) : Kd D H H2 := fun a o n e => k a o n (h a o n e)
theorem Kd.upd {o : HO} (h : Kd D H H') : Kd D H (upd H' D o) := fun a u n e => by
  rw [upd_ne n]
  exact h a u n e
theorem Kd.hs (h : Kd D H H') : Same (hs (D :: T) H) (hs (D :: T) H') := fun a o e => by
  obtain ⟨z1, z2⟩ := hs_some e
  rw [hs_out z1]
  exact h a o (fun q => z1 (by rw [q]; exact List.mem_cons_self)) z2
/-! ### {x: None for x in ..} -/
/-! ### *x in a display -/
/-! ### beside a dict: a list of its own becomes data -/
end
end Pb

set_option Elab.async false
set_option linter.all false
set_option maxRecDepth 100000
namespace Pb
open PySem PySem.Spec PyProof.Rows L2
section
variable {P : Program} {w : World} {K : PySem.W.Frag} {mg : Str → Option Value} {base : Heap}
end
end Pb

set_option Elab.async false
set_option linter.all false
set_option maxRecDepth 100000
namespace Pb
open PySem PySem.Spec PyProof.Rows L2
/-! ### the search for a ring, apart from the program: what its dict and its layers keep -/
def keysOf (kvs : List (PyData × PyData)) : List Int := kvs.map fun p => kI p.1
theorem dAt_key {kvs : List (PyData × PyData)} {x : Int} : (dAt kvs x).isSome = true ↔ x ∈ keysOf kvs := by
  unfold dAt keysOf
  rw [Option.isSome_map, List.find?_isSome, List.mem_map]
  constructor
  · rintro ⟨p, h1, h2⟩
    exact ⟨p, h1, by simpa using h2⟩
  · rintro ⟨p, h1, h2⟩
    exact ⟨p, h1, by simpa using h2⟩
theorem dAt_no {kvs : List (PyData × PyData)} {x : Int} (h : x ∉ keysOf kvs) : dAt kvs x = none := by
  cases e : dAt kvs x with
  | none => rfl
  | some v => exact absurd (dAt_key.mp (by rw [e]; rfl)) h
theorem put_new {kvs : List (PyData × PyData)} {x : Int} {v : PyData} (h : x ∉ keysOf kvs) : dPut kvs x v = kvs ++ [(.int x, v)] := by
  unfold dPut
  rw [if_neg]
  intro z
  rw [List.any_eq_true] at z
  obtain ⟨p, h1, h2⟩ := z
  exact h (List.mem_map.mpr ⟨p, h1, by simpa using h2⟩)
theorem keys_put {kvs : List (PyData × PyData)} {x : Int} {v : PyData} (h : x ∉ keysOf kvs) : keysOf (dPut kvs x v) = keysOf kvs ++ [x] := by
  rw [put_new h]
  unfold keysOf
  rw [List.map_append]
  rfl
theorem dAt_put {kvs : List (PyData × PyData)} {x y : Int} {v : PyData} (h : x ∉ keysOf kvs) : dAt (dPut kvs x v) y = if y = x then some v else dAt kvs y := by
  rw [put_new h]
  unfold dAt
  rw [List.find?_append]
  by_cases e : y = x
  · subst e
    have : kvs.find? (fun p => decide (kI p.1 = y)) = none := by
      have := dAt_no h
      unfold dAt at this
      simpa using this
    rw [this, if_pos rfl]
    simp [kI]
  · rw [if_neg e]
    cases h1 : kvs.find? (fun p => decide (kI p.1 = y)) with
    | some p => simp
    | none => simp [kI, Ne.symm e]
inductive Pth (kvs : List (PyData × PyData)) : Int → List Int → List Int → Prop
  | zero {x : Int} : dAt kvs x = some .none → Pth kvs x [x] []
  | succ {x d l : Int} {P U : List Int} : dAt kvs x = some (.tuple [.int d, .int l]) → Pth kvs d P U → Pth kvs x (P ++ [x]) (U ++ [l])
theorem Pth.put {kvs : List (PyData × PyData)} {r : Int} {v : PyData} (hr : r ∉ keysOf kvs) {x : Int} {P U : List Int} (h : Pth kvs x P U) : Pth (dPut kvs r v) x P U := by
  have ne : ∀ {y : Int} {u : PyData}, dAt kvs y = some u → dAt (dPut kvs r v) y = some u := fun {y u} e => by
    rw [dAt_put hr, if_neg]
    · exact e
    · intro z
      rw [← z] at hr
      rw [dAt_no hr] at e
      cases e
  induction h with
  | zero e => exact .zero (ne e)
  | succ e _ ih => exact .succ (ne e) ih
structure BI (m : Nat) (os : List (List Int)) (lk st en cl : List Int) (kvs : List (PyData × PyData)) (lv : Int → Nat) (n : Nat) (layer fol : List Int) (done : List (Int × Int × Int)) : Prop where
  nd : (keysOf kvs).Nodup
  rg : ∀ x ∈ keysOf kvs, 0 ≤ x ∧ x < (m : Int)
  st0 : ∀ x ∈ st, x ∈ keysOf kvs
  lay : ∀ x, x ∈ layer ↔ x ∈ keysOf kvs ∧ lv x = n
  fol : ∀ x, x ∈ fol ↔ x ∈ keysOf kvs ∧ lv x = n + 1
  le : ∀ x ∈ keysOf kvs, lv x ≤ n + 1
  src : ∀ x v, dAt kvs x = some v → (v = .none ∧ x ∈ st ∧ lv x = 0) ∨ ∃ d l, v = .tuple [.int d, .int l] ∧ d ∈ keysOf kvs ∧ lv x = lv d + 1 ∧ l ∈ lk ∧ d ∈ offAt os l ∧ x ∈ offAt os l ∧ x ∉ cl ∧ x ∉ en
  clo : ∀ x ∈ keysOf kvs, lv x < n → ∀ l ∈ lk, x ∈ offAt os l → ∀ r ∈ offAt os l, r ∈ cl ∨ (r ∈ keysOf kvs ∧ lv r ≤ lv x + 1)
  dn : ∀ d l r, (d, l, r) ∈ done → r ∈ cl ∨ (r ∈ keysOf kvs ∧ lv r ≤ n + 1)
structure Way (os : List (List Int)) (lk st en cl P U : List Int) : Prop where
  len : P.length = U.length + 1
  n1 : 1 ≤ U.length
  s0 : ∀ p, P[0]? = some p → p ∈ st
  lk : ∀ (i : Nat) (l p q : Int), U[i]? = some l → P[i]? = some p → P[i + 1]? = some q → l ∈ lk ∧ p ∈ offAt os l ∧ q ∈ offAt os l ∧ q ∉ cl
  ch : ∀ (i j : Nat) (l p : Int), U[i]? = some l → P[j]? = some p → p ∈ offAt os l → j = i ∨ j = i + 1
  nd : P.Nodup
  last : ∀ p, P[U.length]? = some p → p ∈ en
  mid : ∀ (i : Nat) (p : Int), i < U.length → P[i]? = some p → p ∉ en
section
variable {m : Nat} {os : List (List Int)} {lk st en cl : List Int} {kvs : List (PyData × PyData)} {lv : Int → Nat} {n : Nat} {layer fol : List Int} {done : List (Int × Int × Int)}
theorem BI.small (h : BI m os lk st en cl kvs lv n layer fol done) : kvs.length ≤ m := by
  have := nodup_len h.nd fun x hx => mem_ints.mpr (h.rg x hx)
  rw [ints_len] at this
  unfold keysOf at this
  rwa [List.length_map] at this
/-- a step to what was reached, or is closed -/
theorem BI.old (h : BI m os lk st en cl kvs lv n layer fol done) {d l r : Int} (hr : r ∈ keysOf kvs ∨ r ∈ cl) : BI m os lk st en cl kvs lv n layer fol (done ++ [(d, l, r)]) :=
  { nd := h.nd, rg := h.rg, st0 := h.st0, lay := h.lay, fol := h.fol, le := h.le, src := h.src, clo := h.clo
    dn := fun d' l' r' z => by
      rcases List.mem_append.mp z with z | z
      · exact h.dn d' l' r' z
      · simp only [List.mem_singleton, Prod.mk.injEq] at z
        obtain ⟨_, _, rfl⟩ := z
        rcases hr with hr | hr
        · exact .inr ⟨hr, h.le _ hr⟩
        · exact .inl hr }
theorem BI.new (h : BI m os lk st en cl kvs lv n layer fol done) {d l r : Int} (hd : d ∈ layer) (hl : l ∈ lk) (hdl : d ∈ offAt os l) (hrl : r ∈ offAt os l) (rm : 0 ≤ r ∧ r < (m : Int)) (hr : r ∉ keysOf kvs) (hc : r ∉ cl) (he : r ∉ en) :
    BI m os lk st en cl (dPut kvs r (.tuple [.int d, .int l])) (fun x => if x = r then n + 1 else lv x) n layer (fol ++ [r]) (done ++ [(d, l, r)]) := by
  have kk : ∀ x, x ∈ keysOf (dPut kvs r (.tuple [.int d, .int l])) ↔ x ∈ keysOf kvs ∨ x = r := fun x => by rw [keys_put hr, List.mem_append, List.mem_singleton]
  have ne : ∀ x ∈ keysOf kvs, x ≠ r := fun x hx z => hr (by rw [← z]; exact hx)
  exact
  { nd := by
      rw [keys_put hr, List.nodup_append]
      exact ⟨h.nd, by simp, fun a ha b hb e => ne a ha (by rw [e]; exact List.mem_singleton.mp hb)⟩
    rg := fun x hx => by
      rcases (kk x).mp hx with z | z
      · exact h.rg x z
      · rw [z]; exact rm
    st0 := fun x hx => (kk x).mpr (.inl (h.st0 x hx))
    lay := fun x => by
      rw [h.lay, kk]
      constructor
      · rintro ⟨a, b⟩
        exact ⟨.inl a, by rw [if_neg (ne x a)]; exact b⟩
      · rintro ⟨a | a, b⟩
        · rw [if_neg (ne x a)] at b
          exact ⟨a, b⟩
        · rw [if_pos a] at b
          omega
    fol := fun x => by
      rw [List.mem_append, List.mem_singleton, h.fol, kk]
      constructor
      · rintro (⟨a, b⟩ | a)
        · exact ⟨.inl a, by rw [if_neg (ne x a)]; exact b⟩
        · exact ⟨.inr a, by rw [if_pos a]⟩
      · rintro ⟨a | a, b⟩
        · rw [if_neg (ne x a)] at b
          exact .inl ⟨a, b⟩
        · exact .inr a
    le := fun x hx => by
      rcases (kk x).mp hx with z | z
      · rw [if_neg (ne x z)]
        exact h.le x z
      · rw [if_pos z]
        exact Nat.le_refl _
    src := fun x v e => by
      rw [dAt_put hr] at e
      by_cases z : x = r
      · rw [if_pos z] at e
        cases e
        have dk := (h.lay d).mp hd
        refine .inr ⟨d, l, rfl, (kk d).mpr (.inl dk.1), ?_, hl, hdl, by rw [z]; exact hrl, by rw [z]; exact hc, by rw [z]; exact he⟩
        rw [if_pos z, if_neg (ne d dk.1), dk.2]
      · rw [if_neg z] at e
        rcases h.src x v e with ⟨a, b, c⟩ | ⟨d', l', a, b, c, k⟩
        · exact .inl ⟨a, b, by rw [if_neg z]; exact c⟩
        · exact .inr ⟨d', l', a, (kk d').mpr (.inl b), by rw [if_neg z, if_neg (ne d' b)]; exact c, k⟩
    clo := fun x hx lt l' hl' hxl r' hr' => by
      rcases (kk x).mp hx with z | z
      · rw [if_neg (ne x z)] at lt ⊢
        rcases h.clo x z lt l' hl' hxl r' hr' with k | ⟨k1, k2⟩
        · exact .inl k
        · exact .inr ⟨(kk r').mpr (.inl k1), by rw [if_neg (ne r' k1)]; exact k2⟩
      · rw [if_pos z] at lt
        omega
    dn := fun d' l' r' z => by
      rcases List.mem_append.mp z with z | z
      · rcases h.dn d' l' r' z with k | ⟨k1, k2⟩
        · exact .inl k
        · exact .inr ⟨(kk r').mpr (.inl k1), by rw [if_neg (ne r' k1)]; exact k2⟩
      · simp only [List.mem_singleton, Prod.mk.injEq] at z
        obtain ⟨_, _, rfl⟩ := z
        exact .inr ⟨(kk _).mpr (.inr rfl), by rw [if_pos rfl]; exact Nat.le_refl _⟩ }
/-- the next layer -/
theorem BI.next (h : BI m os lk st en cl kvs lv n layer fol done) (all : ∀ d ∈ layer, ∀ l ∈ lk, d ∈ offAt os l → ∀ r ∈ offAt os l, (d, l, r) ∈ done) : BI m os lk st en cl kvs lv (n + 1) fol [] [] :=
  { nd := h.nd, rg := h.rg, st0 := h.st0, lay := h.fol, src := h.src
    fol := fun x => ⟨fun z => (by cases z), fun ⟨a, b⟩ => by have := h.le x a; omega⟩
    le := fun x hx => Nat.le_succ_of_le (h.le x hx)
    clo := fun x hx lt l hl hxl r hr => by
      by_cases c : lv x < n
      · exact h.clo x hx c l hl hxl r hr
      · have e : lv x = n := by omega
        rw [e]
        exact h.dn x l r (all x ((h.lay x).mpr ⟨hx, e⟩) l hl hxl r hr)
    dn := fun d l r z => by cases z }
end
end Pb

set_option Elab.async false
set_option linter.all false
set_option maxRecDepth 100000
namespace Pb
open PySem PySem.Spec PyProof.Rows L2
/-! ### the search for a ring: what the program's defs give -/
end Pb

set_option Elab.async false
set_option linter.all false
set_option maxRecDepth 100000
namespace Pb
open PySem PySem.Spec PyProof.Rows L2
section
variable {m : Nat} {os : List (List Int)} {lk st en cl : List Int}
end
end Pb

set_option Elab.async false
set_option linter.all false
set_option maxRecDepth 100000
namespace Pb
open PySem PySem.Spec PyProof.Rows L2
/-! ### rings -/
structure RingP (m : Nat) (os : List (List Int)) (ds fs : List Int) : Prop where
  d1 : ∀ i ∈ ds, 0 ≤ i ∧ i < (m : Int)
  d2 : ds.Nodup
  f1 : ∀ i ∈ fs, 0 ≤ i ∧ i < (os.length : Int)
  f2 : fs.Nodup
  len : ds.length = fs.length
  len3 : 3 ≤ ds.length
  link : ∀ (k : Nat) (a b f : Int) (o : List Int), ds[k]? = some a → ds[(k + 1) % ds.length]? = some b → fs[k]? = some f → os[f.toNat]? = some o → ∀ d ∈ ds, (d ∈ o ↔ d = a ∨ d = b)
section
variable {m : Nat} {os : List (List Int)} {lk st en cl : List Int}
end
end Pb

set_option Elab.async false
set_option linter.all false
set_option maxRecDepth 100000
namespace Pb
open PySem PySem.Spec PyProof.Rows L2
/-! ### orderable tables: greedy orders, stuck sets, rings -/
def Orderable (m : Nat) (os : List (List Int)) : Prop := ∃ ns, OrdP m ns ∧ nestB os ns = true
/-- a set of demands none of which is simple in it -/
structure Stuck (m : Nat) (os : List (List Int)) (rest : List Int) : Prop where
  ne : rest ≠ []
  rg : ∀ x ∈ rest, 0 ≤ x ∧ x < (m : Int)
  no : ∀ x ∈ rest, fineB os rest x = false
theorem fine_simple {os : List (List Int)} {V : List Int} {x : Int} : fineB os V x = true ↔ BK.SimpleIn os V x := by
  rw [fineB_iff]
  constructor
  · intro h a ha b hb xa xb
    rcases h a ha b hb xa xb with k | k
    · exact .inl fun y hy ya => k y ya hy
    · exact .inr fun y hy yb => k y yb hy
  · intro h a ha b hb xa xb
    rcases h a ha b hb xa xb with k | k
    · exact .inl fun y ya hy => k y hy ya
    · exact .inr fun y yb hy => k y hy yb
theorem Stuck.way {m : Nat} {os : List (List Int)} {rest : List Int} (h : Stuck m os rest) : ¬ BK.NoWay os := fun nw => by
  obtain ⟨x, hx, sx⟩ := BK.simple_ex nw h.ne
  have := h.no x hx
  rw [fine_simple.mpr sx] at this
  cases this
theorem Stuck.not {m : Nat} {os : List (List Int)} {rest : List Int} (h : Stuck m os rest) : ¬ Orderable m os := fun ⟨ns, ho, hn⟩ => by
  -- the first of them in the order
  have key : ∀ (k : Nat), k ≤ ns.length → (∀ x ∈ rest, x ∈ ns.drop k) → False := by
    intro k
    induction hj : ns.length - k generalizing k with
    | zero =>
      intro hk sub
      obtain ⟨x, hx⟩ := List.exists_mem_of_ne_nil rest h.ne
      have := sub x hx
      rw [List.drop_eq_nil_of_le (by omega)] at this
      cases this
    | succ j ih =>
      intro hk sub
      have lt : k < ns.length := by omega
      by_cases c : ns[k] ∈ rest
      · have f := nestB_iff.mp hn k _ (List.getElem?_eq_getElem lt)
        have := fineB_sub f sub
        rw [h.no _ c] at this
        cases this
      · refine ih (k + 1) (by omega) (by omega) fun x hx => ?_
        have := sub x hx
        rw [List.drop_eq_getElem_cons lt] at this
        rcases List.mem_cons.mp this with z | z
        · exact absurd (by rw [← z]; exact hx) c
        · exact z
  exact key 0 (Nat.zero_le _) fun x hx => by
    rw [List.drop_zero]
    exact sub_full (ho.2.1) (l := ns) (r := upto m) (by rw [ints_len, ho.2.2]; exact Nat.le_refl _) (fun i hi => mem_ints.mpr (ho.1 i hi)) x (mem_ints.mpr (h.rg x hx))
theorem RingP.stuck {m : Nat} {os : List (List Int)} {ds fs : List Int} (h : RingP m os ds fs) : Stuck m os ds := by
  have l3 := h.len3
  refine ⟨fun z => by rw [z] at l3; simp at l3, h.d1, fun x hx => ?_⟩
  obtain ⟨k, hk⟩ := List.mem_iff_getElem?.mp hx
  have kl := (List.getElem?_eq_some_iff.mp hk).1
  have fl : k < fs.length := by rw [← h.len]; exact kl
  -- the neighbours' places
  obtain ⟨p, hp, hpk⟩ : ∃ p, p < ds.length ∧ (p + 1) % ds.length = k := by
    by_cases z : k = 0
    · exact ⟨ds.length - 1, by omega, by rw [show ds.length - 1 + 1 = ds.length by omega, Nat.mod_self, z]⟩
    · exact ⟨k - 1, by omega, by rw [show k - 1 + 1 = k by omega, Nat.mod_eq_of_lt kl]⟩
  have nl : (k + 1) % ds.length < ds.length := Nat.mod_lt _ (by omega)
  have pk : p ≠ k := fun z => by
    rw [z] at hpk
    by_cases c : k + 1 < ds.length
    · rw [Nat.mod_eq_of_lt c] at hpk
      omega
    · rw [show k + 1 = ds.length by omega, Nat.mod_self] at hpk
      omega
  have nk : (k + 1) % ds.length ≠ k := fun z => by
    by_cases c : k + 1 < ds.length
    · rw [Nat.mod_eq_of_lt c] at z
      omega
    · rw [show k + 1 = ds.length by omega, Nat.mod_self] at z
      omega
  have np : (k + 1) % ds.length ≠ p := fun z => by
    by_cases c : k + 1 < ds.length
    · rw [Nat.mod_eq_of_lt c] at z
      rw [← z] at hpk
      by_cases c2 : k + 1 + 1 < ds.length
      · rw [Nat.mod_eq_of_lt c2] at hpk
        omega
      · rw [show k + 1 + 1 = ds.length by omega, Nat.mod_self] at hpk
        omega
    · rw [show k + 1 = ds.length by omega, Nat.mod_self] at z
      rw [← z, Nat.mod_eq_of_lt (by omega)] at hpk
      omega
  have idx : ∀ {i j : Nat} {y : Int}, ds[i]? = some y → ds[j]? = some y → i = j := fun {i j y} a b => by
    obtain ⟨hi, ei⟩ := List.getElem?_eq_some_iff.mp a
    obtain ⟨hj, ej⟩ := List.getElem?_eq_some_iff.mp b
    refine Classical.byContradiction fun c => ?_
    rcases Nat.lt_or_gt_of_ne c with lt | lt
    · exact List.pairwise_iff_getElem.mp h.d2 i j hi hj lt (ei.trans ej.symm)
    · exact List.pairwise_iff_getElem.mp h.d2 j i hj hi lt (ej.trans ei.symm)
  have pf : p < fs.length := by rw [← h.len]; exact hp
  have r1 := h.f1 _ (List.getElem_mem fl)
  have r2 := h.f1 _ (List.getElem_mem pf)
  have o1 : fs[k].toNat < os.length := by omega
  have o2 : fs[p].toNat < os.length := by omega
  have L1 := h.link k x _ _ _ hk (List.getElem?_eq_getElem nl) (List.getElem?_eq_getElem fl) (List.getElem?_eq_getElem o1)
  have L2 := h.link p _ x _ _ (List.getElem?_eq_getElem hp) (by rw [hpk]; exact hk) (List.getElem?_eq_getElem pf) (List.getElem?_eq_getElem o2)
  cases e : fineB os ds x with
  | false => rfl
  | true =>
    exfalso
    rcases fineB_iff.mp e _ (List.getElem_mem o1) _ (List.getElem_mem o2) ((L1 x hx).mpr (.inl rfl)) ((L2 x hx).mpr (.inr rfl)) with q | q
    · have m1 : ds[(k + 1) % ds.length] ∈ ds := List.getElem_mem nl
      rcases (L2 _ m1).mp (q _ ((L1 _ m1).mpr (.inr rfl)) m1) with z | z
      · exact np (idx (List.getElem?_eq_getElem nl) (by rw [z]; exact List.getElem?_eq_getElem hp))
      · exact nk (idx (List.getElem?_eq_getElem nl) (by rw [z]; exact hk))
    · have m1 : ds[p] ∈ ds := List.getElem_mem hp
      rcases (L1 _ m1).mp (q _ ((L2 _ m1).mpr (.inl rfl)) m1) with z | z
      · exact pk (idx (List.getElem?_eq_getElem hp) (by rw [z]; exact hk))
      · exact np (idx (List.getElem?_eq_getElem nl) (by rw [← z]; exact List.getElem?_eq_getElem hp))
/-! ### the law's order -/
/-! ### the program's order -/
end Pb

set_option Elab.async false
set_option linter.all false
set_option maxRecDepth 100000
namespace Pu
open PySem PySem.Spec PyProof.Rows L2 Pb
section
variable {P : Program} {w : World} {K : PySem.W.Frag} {mg : Str → Option Value} {base : Heap}
def q_links_neighbours : List PyData → Option PyData := runF 7 4
  ((sSeq (sSet (gN 4) (eTup (aCons (eOp fIxT (eVar 1) (eVar 2)) (aCons (eOp fIxT (eVar 1) (eOp fMod (eOp fAdd (eVar 2) (eInt 1)) (eCb fLen (aCons (eVar 1) aNil)))) aNil))))
  (sSeq (sSet (gN 5) (eOp fIxT (eOp fIxT (eVar 0) (eInt 1)) (eVar 3)))
  (sRet (eCb fAll (aCons (eL (lLc [6] (iT (eVar 1)) (gN 6) bYes (eOp fEq (eOp fIn (eVar 6) (eVar 5)) (eOp fIn (eVar 6) (eVar 4))))) aNil))))))
def q_is_ring : List PyData → Option PyData := runF 6 2
  ((sSeq (sIf (bNot (bTest (eCb Pb.q_is_tuple_of (aCons (eVar 1) (aCons (eInt 2) aNil))))) (sRet (eBl false)) sNil)
  (sSeq (sSet (gT (gC (gN 2) (gC (gN 3) g0))) (eVar 1))
  (sSeq (sIf (bOr (bNot (bTest (eCb Pb.q_is_distinct_below (aCons (eVar 2) (aCons (eOp fIxT (eVar 0) (eInt 0)) aNil))))) (bNot (bTest (eCb Pb.q_is_distinct_below (aCons (eVar 3) (aCons (eCb fLen (aCons (eOp fIxT (eVar 0) (eInt 1)) aNil)) aNil)))))) (sRet (eBl false)) sNil)
  (sSeq (sIf (bOr (bTest (eOp fNe (eCb fLen (aCons (eVar 2) aNil)) (eCb fLen (aCons (eVar 3) aNil)))) (bTest (eOp fLt (eCb fLen (aCons (eVar 2) aNil)) (eInt 3)))) (sRet (eBl false)) sNil)
  (sRet (eCb fAll (aCons (eL (lLc [4, 5] (iET (eVar 3)) (gT (gC (gN 4) (gC (gN 5) g0))) bYes (eCb q_links_neighbours (aCons (eVar 0) (aCons (eVar 2) (aCons (eVar 4) (aCons (eVar 5) aNil))))))) aNil))))))))
end
end Pu

set_option Elab.async false
set_option linter.all false
set_option maxRecDepth 100000
namespace Pu
open PySem PySem.Spec PyProof.Rows L2 Pb
/-! ### what a ring is -/
structure Ring (m : Nat) (os : List (List Int)) (x : PyData) (ds fs : List Int) : Prop where
  eq : x = .tuple [offD ds, offD fs]
  d1 : ∀ i ∈ ds, 0 ≤ i ∧ i < (m : Int)
  d2 : ds.Nodup
  f1 : ∀ i ∈ fs, 0 ≤ i ∧ i < (os.length : Int)
  f2 : fs.Nodup
  len : ds.length = fs.length
  len3 : 3 ≤ ds.length
  link : ∀ (k : Nat) (a b f : Int) (o : List Int), ds[k]? = some a → ds[(k + 1) % ds.length]? = some b → fs[k]? = some f → os[f.toNat]? = some o → ∀ d ∈ ds, (d ∈ o ↔ d = a ∨ d = b)
def linkB (os : List (List Int)) (ds : List Int) : PyData → Bool
  | .tuple [.int k, .int f] => match ds[k.toNat]?, ds[(k.toNat + 1) % ds.length]?, os[f.toNat]? with
    | some a, some b, some o => ds.all fun d => decide ((decide (d ∈ o)) = (decide (d ∈ [a, b])))
    | _, _, _ => false
  | _ => false
theorem q_links {m : Nat} {os : List (List Int)} {ds : List Int} {k : Nat} {f a b : Int} {o : List Int} (hl : ds.length ≤ 60) (hf : 0 ≤ f) (ha : ds[k]? = some a) (hb : ds[(k + 1) % ds.length]? = some b) (ho : os[f.toNat]? = some o) :
    q_links_neighbours [tabD m os, offD ds, .int (k : Nat), .int f] = some (.bool (linkB os ds (.tuple [.int (k : Nat), .int f]))) := by
  have e : linkB os ds (.tuple [.int (k : Nat), .int f]) = ds.all fun d => decide ((decide (d ∈ o)) = (decide (d ∈ [a, b]))) := by
    simp only [linkB, Int.toNat_natCast, ha, hb, ho]
  rw [e]
  have pos : 0 < ds.length := by
    cases ds with
    | nil => simp at ha
    | cons _ _ => simp
  obtain ⟨g, rfl⟩ : ∃ g : Nat, f = (g : Int) := ⟨f.toNat, by omega⟩
  rw [Int.toNat_natCast] at ho
  refine runF_of rfl ((sSeq_nx (ρ' := [.val (tabD m os), .val (offD ds), .val (.int (k : Nat)), .val (.int (g : Int)), .val (offD [a, b]), .no, .no]) (sSet_of ?_)).trans ((sSeq_nx (ρ' := [.val (tabD m os), .val (offD ds), .val (.int (k : Nat)), .val (.int (g : Int)), .val (offD [a, b]), .val (offD o), .no]) (sSet_of ?_)).trans (sRet_of ?_)))
  · have e1 : eOp fMod (eOp fAdd (eVar 2) (eInt 1)) (eCb fLen (aCons (eVar 1) aNil)) [.val (tabD m os), .val (offD ds), .val (.int (k : Nat)), .val (.int (g : Int)), .no, .no, .no] = some (.int (((k + 1) % ds.length : Nat) : Int)) := by
      refine eOp_of (x := .int ((k : Int) + 1)) (y := .int (ds.length : Nat)) rfl (eCb_of (aCons_of rfl rfl) (len_off ds)) ?_
      show (if decide ((0 : Int) < (ds.length : Int)) = true then some (PyData.int (((k : Int) + 1) % (ds.length : Int))) else none) = _
      rw [if_pos (decide_eq_true (by omega))]
      rfl
    have e2 := aCons_of (φ := eOp fIxT (eVar 1) (eVar 2)) (ρ := [.val (tabD m os), .val (offD ds), .val (.int (k : Nat)), .val (.int (g : Int)), .no, .no, .no]) (eOp_of rfl rfl (ixT_int ha)) (aCons_of (φs := aNil) (eOp_of (φ := eVar 1) rfl e1 (ixT_int hb)) rfl)
    show (((aCons _ (aCons _ aNil)) [.val (tabD m os), .val (offD ds), .val (.int (k : Nat)), .val (.int (g : Int)), .no, .no, .no]).bind lim).map PyData.tuple = _
    rw [e2]
    rfl
  · exact eOp_of (x := .tuple (os.map offD)) rfl rfl (ixT_off ho)
  · refine eCb_of (aCons_of (eL_of (lLc_map (es := ds.map PyData.int) (fun e => .bool (decide (decide (intOf e ∈ o) = decide (intOf e ∈ [a, b])))) rfl (by rw [List.length_map]; omega) fun e he => ?_)) rfl) ?_
    · obtain ⟨d, hd, rfl⟩ := List.mem_map.mp he
      exact ⟨_, rfl, eOp_of (eOp_of rfl rfl (fIn_tup d o)) (eOp_of rfl rfl (fIn_tup d [a, b])) rfl⟩
    · rw [fAll_map (fun e => decide (decide (intOf e ∈ o) = decide (intOf e ∈ [a, b]))), List.all_map]
      rfl
abbrev rP (m : Nat) (os : List (List Int)) (ds fs : List Int) : Rho := [.val (tabD m os), .val (.tuple [offD ds, offD fs]), .val (offD ds), .val (offD fs), .no, .no]
theorem links_all {m : Nat} {os : List (List Int)} {ds fs : List Int} (hl : ds.length ≤ 60) (e : ds.length = fs.length) (hf : ∀ i ∈ fs, 0 ≤ i ∧ i < (os.length : Int)) :
    eCb fAll (aCons (eL (lLc [4, 5] (iET (eVar 3)) (gT (gC (gN 4) (gC (gN 5) g0))) bYes (eCb q_links_neighbours (aCons (eVar 0) (aCons (eVar 2) (aCons (eVar 4) (aCons (eVar 5) aNil))))))) aNil) (rP m os ds fs) = some (.bool ((enumD (fs.map PyData.int)).all (linkB os ds))) := by
  refine eCb_of (aCons_of (eL_of (lLc_map (es := enumD (fs.map PyData.int)) (fun e => .bool (linkB os ds e)) rfl (by rw [enumD_len, List.length_map]; omega) fun x hx => ?_)) rfl) (fAll_map _ _)
  obtain ⟨k, y, h1, rfl⟩ := mem_enumD.mp hx
  rw [List.getElem?_map] at h1
  obtain ⟨f, h2, rfl⟩ := Option.map_eq_some_iff.mp h1
  have hk : k < ds.length := by
    have := (List.getElem?_eq_some_iff.mp h2).1
    omega
  have hm : (k + 1) % ds.length < ds.length := Nat.mod_lt _ (by omega)
  have ff := hf f (List.mem_of_getElem? h2)
  have ho : f.toNat < os.length := by omega
  exact ⟨_, rfl, eCb_of (aCons_of rfl (aCons_of rfl (aCons_of rfl (aCons_of rfl rfl)))) (q_links hl ff.1 (List.getElem?_eq_getElem hk) (List.getElem?_eq_getElem hm) (List.getElem?_eq_getElem ho))⟩
theorem link_iff {os : List (List Int)} {ds fs : List Int} (e : ds.length = fs.length) (hf : ∀ i ∈ fs, 0 ≤ i ∧ i < (os.length : Int)) : (enumD (fs.map PyData.int)).all (linkB os ds) = true ↔
    ∀ (k : Nat) (a b f : Int) (o : List Int), ds[k]? = some a → ds[(k + 1) % ds.length]? = some b → fs[k]? = some f → os[f.toNat]? = some o → ∀ d ∈ ds, (d ∈ o ↔ d = a ∨ d = b) := by
  rw [List.all_eq_true]
  constructor
  · intro h k a b f o ha hb hk ho d hd
    have := h _ (mem_enumD.mpr ⟨k, .int f, by rw [List.getElem?_map, hk]; rfl, rfl⟩)
    simp only [linkB, Int.toNat_natCast, ha, hb, ho, List.all_eq_true, decide_eq_true_eq, decide_eq_decide, List.mem_cons, List.not_mem_nil, or_false] at this
    exact this d hd
  · intro h x hx
    obtain ⟨k, y, h1, rfl⟩ := mem_enumD.mp hx
    rw [List.getElem?_map] at h1
    obtain ⟨f, h2, rfl⟩ := Option.map_eq_some_iff.mp h1
    have hk : k < ds.length := by
      have := (List.getElem?_eq_some_iff.mp h2).1
      omega
    have hm : (k + 1) % ds.length < ds.length := Nat.mod_lt _ (by omega)
    have ff := hf f (List.mem_of_getElem? h2)
    have ho : f.toNat < os.length := by omega
    have := h k _ _ f _ (List.getElem?_eq_getElem hk) (List.getElem?_eq_getElem hm) h2 (List.getElem?_eq_getElem ho)
    simp only [linkB, Int.toNat_natCast, List.getElem?_eq_getElem hk, List.getElem?_eq_getElem hm, List.getElem?_eq_getElem ho, List.all_eq_true, decide_eq_true_eq, decide_eq_decide, List.mem_cons, List.not_mem_nil, or_false]
    exact this
theorem off_inj {a b : List Int} (h : offD a = offD b) : a = b := by
  have : a.map PyData.int = b.map PyData.int := by injection h
  exact List.map_inj_right (fun x y z => by injection z) |>.mp this
/-- what the program answers -/
theorem prog {m : Nat} {os : List (List Int)} {x : PyData} (ok : okD x = true) : ∃ b : Bool, q_is_ring [tabD m os, x] = some (.bool b) ∧ (b = true ↔ ∃ ds fs, Ring m os x ds fs) := by
  by_cases h2 : tupLen x 2 = true
  · obtain ⟨D, F, rfl⟩ : ∃ D F, x = .tuple [D, F] := by
      match x, h2 with
      | .tuple [D, F], _ => exact ⟨D, F, rfl⟩
      | .tuple [], h => simp [tupLen] at h
      | .tuple [_], h => simp [tupLen] at h
      | .tuple (_ :: _ :: _ :: _), h =>
        simp only [tupLen, List.length_cons, decide_eq_true_eq] at h
        omega
    have okD1 : okD D = true := okT_mem ok D (by simp)
    have okF1 : okD F = true := okT_mem ok F (by simp)
    have c1 : (bOr (bNot (bTest (eCb q_is_distinct_below (aCons (eVar 2) (aCons (eOp fIxT (eVar 0) (eInt 0)) aNil))))) (bNot (bTest (eCb q_is_distinct_below (aCons (eVar 3) (aCons (eCb fLen (aCons (eOp fIxT (eVar 0) (eInt 1)) aNil)) aNil)))))) [.val (tabD m os), .val (.tuple [D, F]), .val D, .val F, .no, .no] = some (!(distB D m && distB F os.length)) := by
      have a := bNot_of (bTest_of (φ := eCb q_is_distinct_below (aCons (eVar 2) (aCons (eOp fIxT (eVar 0) (eInt 0)) aNil))) (ρ := [.val (tabD m os), .val (.tuple [D, F]), .val D, .val F, .no, .no]) (eCb_of (aCons_of rfl (aCons_of rfl rfl)) (q_dist (m : Int) okD1)))
      have b := bNot_of (bTest_of (φ := eCb q_is_distinct_below (aCons (eVar 3) (aCons (eCb fLen (aCons (eOp fIxT (eVar 0) (eInt 1)) aNil)) aNil))) (ρ := [.val (tabD m os), .val (.tuple [D, F]), .val D, .val F, .no, .no]) (eCb_of (aCons_of rfl (aCons_of (eCb_of (aCons_of (eOp_of (x := tabD m os) rfl rfl (tab1 m os)) rfl) (len_offs os)) rfl)) (q_dist ((os.length : Nat) : Int) okF1)))
      cases hd : distB D m with
      | false =>
        rw [hd] at a
        exact bOr_t a
      | true =>
        rw [hd] at a
        exact (bOr_f a).trans b
    have start : ∀ {r : Option Res}, (sSeq (sIf (bOr (bNot (bTest (eCb q_is_distinct_below (aCons (eVar 2) (aCons (eOp fIxT (eVar 0) (eInt 0)) aNil))))) (bNot (bTest (eCb q_is_distinct_below (aCons (eVar 3) (aCons (eCb fLen (aCons (eOp fIxT (eVar 0) (eInt 1)) aNil)) aNil)))))) (sRet (eBl false)) sNil)
        (sSeq (sIf (bOr (bTest (eOp fNe (eCb fLen (aCons (eVar 2) aNil)) (eCb fLen (aCons (eVar 3) aNil)))) (bTest (eOp fLt (eCb fLen (aCons (eVar 2) aNil)) (eInt 3)))) (sRet (eBl false)) sNil)
        (sRet (eCb fAll (aCons (eL (lLc [4, 5] (iET (eVar 3)) (gT (gC (gN 4) (gC (gN 5) g0))) bYes (eCb q_links_neighbours (aCons (eVar 0) (aCons (eVar 2) (aCons (eVar 4) (aCons (eVar 5) aNil))))))) aNil)))) ) [.val (tabD m os), .val (.tuple [D, F]), .val D, .val F, .no, .no] = r → (∀ b, r = some (.rt (.bool b)) → q_is_ring [tabD m os, .tuple [D, F]] = some (.bool b)) := fun h b hb =>
      runF_of rfl ((sSeq_nx ((sIf_f (bNot_of (bTest_of (eCb_of (aCons_of rfl (aCons_of rfl rfl)) (q_tupOf (.tuple [D, F]) 2))))).trans rfl)).trans ((sSeq_nx rfl).trans (h.trans hb)))
    by_cases hdf : (distB D m && distB F os.length) = true
    · rw [hdf] at c1
      rw [Bool.and_eq_true] at hdf
      obtain ⟨ds, rfl, d1, d2⟩ := dist_iff.mp hdf.1
      obtain ⟨fs, rfl, f1, f2⟩ := dist_iff.mp hdf.2
      have hl : ds.length ≤ 60 := by
        have := okL okD1
        rwa [List.length_map] at this
      have a1 : (bTest (eOp fNe (eCb fLen (aCons (eVar 2) aNil)) (eCb fLen (aCons (eVar 3) aNil)))) (rP m os ds fs) = some (!decide ((ds.length : Int) = (fs.length : Int))) := bTest_of (eOp_of (x := .int (ds.length : Nat)) (y := .int (fs.length : Nat)) (eCb_of (aCons_of rfl rfl) (len_off ds)) (eCb_of (aCons_of rfl rfl) (len_off fs)) rfl)
      have a2 : (bTest (eOp fLt (eCb fLen (aCons (eVar 2) aNil)) (eInt 3))) (rP m os ds fs) = some (decide ((ds.length : Int) < 3)) := bTest_of (eOp_of (x := .int (ds.length : Nat)) (eCb_of (aCons_of rfl rfl) (len_off ds)) rfl rfl)
      by_cases hlen : ds.length = fs.length ∧ 3 ≤ ds.length
      · rw [decide_eq_true (show (ds.length : Int) = (fs.length : Int) by omega)] at a1
        rw [decide_eq_false (show ¬ (ds.length : Int) < 3 by omega)] at a2
        refine ⟨_, start rfl _ ((sSeq_nx ((sIf_f c1).trans rfl)).trans ((sSeq_nx ((sIf_f ((bOr_f a1).trans a2)).trans rfl)).trans (sRet_of (links_all hl hlen.1 f1)))), ?_⟩
        rw [link_iff hlen.1 f1]
        constructor
        · intro h
          exact ⟨ds, fs, rfl, d1, d2, f1, f2, hlen.1, hlen.2, h⟩
        · rintro ⟨ds', fs', h⟩
          have e := h.eq
          injection e with e
          injection e with e1 e2
          injection e2 with e2 _
          obtain rfl := off_inj e1
          obtain rfl := off_inj e2
          exact h.link
      · refine ⟨false, start rfl _ ((sSeq_nx ((sIf_f c1).trans rfl)).trans (sSeq_rt ((sIf_t ?_).trans rfl))), ?_⟩
        · by_cases he : ds.length = fs.length
          · rw [decide_eq_true (show (ds.length : Int) = (fs.length : Int) by omega)] at a1
            rw [decide_eq_true (show (ds.length : Int) < 3 by omega)] at a2
            exact (bOr_f a1).trans a2
          · rw [decide_eq_false (show ¬ (ds.length : Int) = (fs.length : Int) by omega)] at a1
            exact bOr_t a1
        · refine ⟨fun z => (by cases z), ?_⟩
          rintro ⟨ds', fs', h⟩
          have e := h.eq
          injection e with e
          injection e with e1 e2
          injection e2 with e2 _
          obtain rfl := off_inj e1
          obtain rfl := off_inj e2
          exact absurd ⟨h.len, h.len3⟩ hlen
    · refine ⟨false, start rfl _ (sSeq_rt ((sIf_t ?_).trans rfl)), ?_⟩
      · rw [c1]
        cases hz : (distB D m && distB F os.length) with
        | true => exact absurd hz hdf
        | false => rfl
      · refine ⟨fun z => (by cases z), ?_⟩
        rintro ⟨ds', fs', h⟩
        have e := h.eq
        injection e with e
        injection e with e1 e2
        injection e2 with e2 _
        refine absurd ?_ hdf
        rw [Bool.and_eq_true]
        exact ⟨dist_iff.mpr ⟨ds', e1, h.d1, h.d2⟩, dist_iff.mpr ⟨fs', e2, h.f1, h.f2⟩⟩
  · refine ⟨false, runF_of rfl (sSeq_rt ((sIf_t (bNot_of (b := false) (bTest_of (eCb_of (aCons_of rfl (aCons_of rfl rfl)) ?_)))).trans rfl)), ?_⟩
    · exact (q_tupOf x 2).trans (by rw [Bool.not_eq_true] at h2; rw [h2])
    · refine ⟨fun z => (by cases z), ?_⟩
      rintro ⟨ds', fs', h⟩
      exact absurd (by rw [h.eq]; rfl) h2
end Pu

set_option Elab.async false
set_option linter.all false
set_option maxRecDepth 100000
namespace Pu
open PySem PySem.Spec PyProof.Rows L2 Pb
/-! ### what the law asks -/
abbrev r0 (T x D F : PyData) (s4 s5 s6 s7 s8 s9 s10 : Sl) : Rho := [.val T, .val x, .val D, .val F, s4, s5, s6, s7, s8, s9, s10]
end Pu

set_option Elab.async false
set_option linter.all false
set_option maxRecDepth 100000
namespace Zz
open PySem PySem.Spec PyProof.Rows L2 Pb
/-! ### sessions: what is told of them beside the slots -/
structure Ses where
  g : Bool
  now : PyData
  past : List PyData
  lim : PyData
  ents : List PyData
abbrev Sto := Addr → Option Ses
def upY (y : Sto) (a : Addr) (s : Ses) : Sto := fun x => if x = a then some s else y x
theorem upY_at {y : Sto} {a : Addr} {s : Ses} : upY y a s a = some s := if_pos rfl
theorem upY_ne {y : Sto} {a b : Addr} {s : Ses} (h : b ≠ a) : upY y a s b = y b := if_neg h
def clsS (cl : Str → Addr) (g : Bool) : Addr := if g then cl "GuardedSession" else cl "Session"
def sesF (vn : V) (p : Addr) (vl : V) (q : Addr) : List (Str × V) := [("now", vn), ("past", .ref p), ("limit", vl), ("entries", .ref q)]
/-- what a session's class must have -/
structure SesC (K : PySem.W.Frag) (C : Addr) : Prop where
  c : Cls K C
  no : ∀ f ∈ (["now", "past", "limit", "entries"] : List Str), NoAttr K C f
structure SesAt (K : PySem.W.Frag) (cl : Str → Addr) (X H : Hp) (a p q : Addr) (s : Ses) : Prop where
  ne : p ≠ q
  cf : SesC K (clsS cl s.g)
  ex : ∃ dx vn vl vs es, H a = some (.ins (clsS cl s.g) dx (sesF vn p vl q)) ∧ H p = some (.lst vs) ∧ H q = some (.lst es) ∧ Da K X vn s.now ∧ Da K X vl s.lim ∧ DaAll K X vs s.past ∧ DaAll K X es s.ents
/-! ### data do not see instances -/
def SameI (X Y : Hp) : Prop := ∀ x o, X x = some o → (∀ C dx fs, o ≠ .ins C dx fs) → Y x = some o
theorem same_i {X Y : Hp} (s : Same X Y) : SameI X Y := fun x o e _ => s x o e
theorem SameI.refl (X : Hp) : SameI X X := fun _ _ e _ => e
theorem SameI.trans {X Y Z : Hp} (s : SameI X Y) (t : SameI Y Z) : SameI X Z := fun x o e h => t x o (s x o e h) h
section
variable {K : PySem.W.Frag} {H H' : Hp}
theorem SameI.seq {a : Addr} {xs : List V} (e : SameI H H') (h : SqL K H a xs) : SqL K H' a xs := by
  rcases h with (h | ⟨o, h⟩) | h
  · exact .inl (.inl (e _ _ h (fun _ _ _ z => by cases z)))
  · exact .inl (.inr ⟨o, e _ _ h (fun _ _ _ z => by cases z)⟩)
  · exact .inr h
theorem SameI.tq {a : Addr} {xs : List V} (e : SameI H H') (h : SqT K H a xs) : SqT K H' a xs := by
  rcases h with (h | ⟨o, h⟩) | h
  · exact .inl (.inl (e _ _ h (fun _ _ _ z => by cases z)))
  · exact .inl (.inr ⟨o, e _ _ h (fun _ _ _ z => by cases z)⟩)
  · exact .inr h
theorem Fl.monoI {v : V} {d : PyData} (h : Fl K H v d) (s : SameI H H') : Fl K H' v d := by
  cases h with
  | non => exact .non
  | int i => exact .int i
  | tup ns h => exact .tup ns (s.tq h)
theorem Kvs.monoI : ∀ {ks : List (Key × V)} {kvs : List (PyData × PyData)}, Kvs K H ks kvs → SameI H H' → Kvs K H' ks kvs
  | _, _, .nil, _ => .nil
  | _, _, .cons h k, s => .cons (Fl.monoI h s) (Kvs.monoI k s)
mutual
theorem Da.sameI (s : SameI H H') : ∀ (d : PyData) (v : V), Da K H v d → Da K H' v d
  | .none, _, h => by
    cases h
    exact .non
  | .bool b, _, h => by
    cases h
    exact .bl b
  | .int i, _, h => by
    cases h
    exact .int i
  | .str x, _, h => by
    cases h
    exact .str x
  | .list ds, _, h => by
    cases h with
    | lst h1 h2 => exact .lst (s.seq h1) (DaAll.sameI s ds _ h2)
  | .tuple ds, _, h => by
    cases h with
    | tup h1 h2 => exact .tup (s.tq h1) (DaAll.sameI s ds _ h2)
  | .dict _, _, h => by
    cases h with
    | emp h1 => exact .emp (s _ _ h1 (fun _ _ _ z => by cases z))
    | dic h1 h2 => exact .dic (s _ _ h1 (fun _ _ _ z => by cases z)) (Kvs.monoI h2 s)
theorem DaAll.sameI (s : SameI H H') : ∀ (ds : List PyData) (vs : List V), DaAll K H vs ds → DaAll K H' vs ds
  | [], _, h => by
    cases h
    exact .nil
  | d :: ds, _, h => by
    cases h with
    | cons h1 h2 => exact .cons (Da.sameI s d _ h1) (DaAll.sameI s ds _ h2)
end
end
theorem XdO.monoI {K : PySem.W.Frag} {X Y : Hp} {d : Option Addr} {fs : List (Str × PyData)} (h : XdO K X d fs) (s : SameI X Y) : XdO K Y d fs := by
  match d, fs, h with
  | none, [], _ => trivial
  | some dd, [(f, e)], ⟨v, h1, h2⟩ => exact ⟨v, s _ _ h1 (fun _ _ _ z => by cases z), Da.sameI s _ _ h2⟩
theorem PlO.monoI {X Y : Hp} {o : Option V} {ns : List Int} (h : PlO X o ns) (s : SameI X Y) : PlO Y o ns := by
  obtain ⟨a, b, e, h1, h2⟩ := h
  exact ⟨a, b, e, s _ _ h1 (fun _ _ _ z => by cases z), h2⟩
theorem SesAt.move {K : PySem.W.Frag} {cl : Str → Addr} {X Y H H' : Hp} {a p q : Addr} {s : Ses} (h : SesAt K cl X H a p q s) (sm : SameI X Y) (h1 : ∀ o, H a = some o → H' a = some o) (h2 : ∀ o, H p = some o → H' p = some o) (h3 : ∀ o, H q = some o → H' q = some o) : SesAt K cl Y H' a p q s := by
  obtain ⟨ne, cf, dx, vn, vl, vs, es, e1, e2, e3, d1, d2, d3, d4⟩ := h
  exact ⟨ne, cf, dx, vn, vl, vs, es, h1 _ e1, h2 _ e2, h3 _ e3, Da.sameI sm _ _ d1, Da.sameI sm _ _ d2, DaAll.sameI sm _ _ d3, DaAll.sameI sm _ _ d4⟩
abbrev SO (K : PySem.W.Frag) (T ow : List Addr) (ρ : Rho) (σ : L2.St) (H : Hp) : Prop := SimO K [] (fun _ => none) (fun _ => True) T ow ρ σ H
def LsT (T : List Addr) (H : Hp) : Prop := ∀ x ∈ T, ∃ xs, H x = some (.lst xs)
theorem LsT.same {T : List Addr} {H H' : Hp} (h : LsT T H) (s : Same H H') : LsT T H' := fun x hx => (h x hx).elim fun xs e => ⟨xs, s _ _ e⟩
theorem LsT.tr {T : List Addr} {H : Hp} (h : LsT T H) : Tr T H := fun x hx => (h x hx).elim fun xs e => ⟨_, e⟩
/-- the slots' own part behind a step that changes no own list -/
theorem so_move {K : PySem.W.Frag} {T T' ow : List Addr} {ρ : Rho} {σ : L2.St} {H H' : Hp} (h : SO K T ow ρ σ H) (sub : ∀ x ∈ T, x ∈ T') (ls : LsT T' H') (sm : SameI (hs T H) (hs T' H')) (kp : ∀ fo ∈ ow, ∀ vs, H fo = some (.lst vs) → H' fo = some (.lst vs)) : SO K T' ow ρ σ H' :=
  { len := h.len, inj := h.inj, old := fun _ _ e => (by cases e), new := fun _ _ => rfl, sub := fun _ h => absurd h List.not_mem_nil, owT := fun a ha => sub a (h.owT a ha), tr := ls.tr, trS := fun _ h => absurd h List.not_mem_nil, mo := fun _ _ _ _ => trivial, fr := trivial, lsT := fun a ha => .inr (ls a ha),
    slot := fun i sl e => by
      obtain ⟨o, ho, hs'⟩ := h.slot i sl e
      refine ⟨o, ho, ?_⟩
      cases sl with
      | no => trivial
      | deck d => exact hs'
      | exn a d fs => exact ⟨hs'.1, XdO.monoI hs'.2 sm⟩
      | plt ns => exact PlO.monoI hs' sm
      | val d =>
        obtain ⟨v, e, hd⟩ := hs'
        exact ⟨v, e, Da.sameI sm _ _ hd⟩
      | own es =>
        obtain ⟨fo, vs, e, h1, h2, h3⟩ := hs'
        exact ⟨fo, vs, e, h1, kp fo h1 vs h2, DaAll.sameI sm _ _ h3⟩ }
/-! ### the world beside the slots -/
structure Yk (K : PySem.W.Frag) (cl : Str → Addr) (D : Option (Addr × Addr × Addr)) (S : List Addr) (H0 : Hp) (R0 : Addr → Prop) (n : Int) (y : Sto) (T : List Addr) (z : Addr → Addr × Addr) (H : Hp) : Prop where
  ls : LsT T H
  dk : ∀ d b c, D = some (d, b, c) → Ck T d b c n H ∧ R0 d ∧ R0 b
  se : ∀ a s, y a = some s → SesAt K cl (hs T H) H a (z a).1 (z a).2 s
  ce : ∀ a s, y a = some s → ∀ x, x = (z a).1 ∨ x = (z a).2 → x ∈ T ∧ (R0 x ∨ H0 x = none) ∧ ∀ d b c, D = some (d, b, c) → x ≠ d ∧ x ≠ b ∧ x ≠ c
  ca : ∀ a s, y a = some s → R0 a ∨ H0 a = none
  sp : ∀ a s a' s', y a = some s → y a' = some s' → a ≠ a' → ∀ x, x = (z a).1 ∨ x = (z a).2 → x ≠ (z a').1 ∧ x ≠ (z a').2
  fr : ∀ x o, H0 x = some o → ¬ R0 x → H x = some o
  al : ∀ x o, H0 x = some o → ∃ o', H x = some o'
  sub : ∀ x ∈ S, x ∈ T
  nn : ∀ x ∈ T, x ∈ S ∨ H0 x = none
  tS : ∀ x ∈ S, ∃ o, H0 x = some o
structure SimY (K : PySem.W.Frag) (cl : Str → Addr) (D : Option (Addr × Addr × Addr)) (S : List Addr) (H0 : Hp) (R0 : Addr → Prop) (G : Hp → Prop) (n : Int) (y : Sto) (T ow : List Addr) (z : Addr → Addr × Addr) (ρ : Rho) (σ : L2.St) (H : Hp) : Prop where
  k : Yk K cl D S H0 R0 n y T z H
  mo : ∀ X Y, SameI X Y → G X → G Y
  gf : G (hs T H)
  co : SO K T ow ρ σ H
  ow : ∀ x ∈ ow, H0 x = none ∧ (∀ d b c, D = some (d, b, c) → x ≠ d ∧ x ≠ b ∧ x ≠ c) ∧ ∀ a s, y a = some s → x ≠ (z a).1 ∧ x ≠ (z a).2
section
variable {K : PySem.W.Frag} {cl : Str → Addr} {D : Option (Addr × Addr × Addr)} {S : List Addr} {H0 : Hp} {R0 : Addr → Prop} {G : Hp → Prop} {n : Int} {y : Sto} {T ow : List Addr} {z : Addr → Addr × Addr} {ρ : Rho} {σ : L2.St} {H H' : Hp}
theorem Yk.mono (h : Yk K cl D S H0 R0 n y T z H) (s : Same H H') : Yk K cl D S H0 R0 n y T z H' :=
  { ls := h.ls.same s, ce := h.ce, ca := h.ca, sp := h.sp, sub := h.sub, nn := h.nn, tS := h.tS
    dk := fun d b c e => ⟨(h.dk d b c e).1.same s, (h.dk d b c e).2⟩
    se := fun a t e => (h.se a t e).move (same_i (hs_mono s)) (fun o => s _ _) (fun o => s _ _) (fun o => s _ _)
    fr := fun x o e r => s _ _ (h.fr x o e r)
    al := fun x o e => (h.al x o e).elim fun o' e' => ⟨o', s _ _ e'⟩ }
theorem SimY.mono (h : SimY K cl D S H0 R0 G n y T ow z ρ σ H) (s : Same H H') : SimY K cl D S H0 R0 G n y T ow z ρ σ H' := ⟨h.k.mono s, h.mo, h.mo _ _ (same_i (hs_mono s)) h.gf, h.co.mono s, h.ow⟩
theorem Yk.fresh (h : Yk K cl D S H0 R0 n y T z H) {x : Addr} (hx : H x = none) : H0 x = none := by
  cases e : H0 x with
  | none => rfl
  | some o =>
    obtain ⟨o', e'⟩ := h.al x o e
    rw [hx] at e'
    cases e'
theorem Yk.cell (h : Yk K cl D S H0 R0 n y T z H) {a : Addr} {s : Ses} (e : y a = some s) : (∃ xs, H (z a).1 = some (.lst xs)) ∧ (∃ xs, H (z a).2 = some (.lst xs)) ∧ ∃ C dx fs, H a = some (.ins C dx fs) := by
  obtain ⟨_, _, dx, vn, vl, vs, es, e1, e2, e3, _⟩ := h.se a s e
  exact ⟨⟨_, e2⟩, ⟨_, e3⟩, _, _, _, e1⟩
/-- a draw -/
theorem Yk.draw {d b c : Addr} {n' N : Int} (h : Yk K cl (some (d, b, c)) S H0 R0 n y T z H) (dr : Dr d b c N H n' H') : Yk K cl (some (d, b, c)) S H0 R0 n' y T z H' := by
  have ck := (h.dk d b c rfl).1
  have kp : ∀ {x : Addr} {o : HO}, x ≠ d → x ≠ b → H x = some o → H' x = some o := fun {x o} h1 h2 e => by
    have := dr.sm x o (by rw [msk_ne h1 h2]; exact e)
    rw [msk_ne h1 h2] at this
    exact this
  refine { ls := ls_dr (n := n) h.ls dr, ce := h.ce, ca := h.ca, sp := h.sp, sub := h.sub, nn := h.nn, tS := h.tS, dk := ?_, se := ?_, fr := ?_, al := ?_ }
  · intro d' b' c' e
    cases e
    exact ⟨ck.dr dr, (h.dk d b c rfl).2⟩
  · intro a s e
    obtain ⟨_, _, C, dx, fs, ea⟩ := h.cell e
    have c1 := (h.ce a s e _ (.inl rfl)).2.2 d b c rfl
    have c2 := (h.ce a s e _ (.inr rfl)).2.2 d b c rfl
    refine (h.se a s e).move (same_i (ck.sm dr)) (fun o eo => kp ?_ ?_ eo) (fun o eo => kp c1.1 c1.2.1 eo) (fun o eo => kp c2.1 c2.2.1 eo)
    · intro q
      rw [q, ck.dk.at_d] at ea
      cases ea
    · intro q
      obtain ⟨bs, e'⟩ := ck.dk.at_b
      rw [q, e'] at ea
      cases ea
  · intro x o e r
    refine kp ?_ ?_ (h.fr x o e r)
    · intro q
      exact r (q ▸ (h.dk d b c rfl).2.1)
    · intro q
      exact r (q ▸ (h.dk d b c rfl).2.2)
  · intro x o e
    obtain ⟨o', e'⟩ := h.al x o e
    by_cases q1 : x = d
    · rw [q1]
      exact ⟨_, dr.dk.at_d⟩
    · by_cases q2 : x = b
      · rw [q2]
        exact dr.dk.at_b.elim fun bs e => ⟨_, e⟩
      · exact ⟨o', kp q1 q2 e'⟩
theorem SimY.w {d b c : Addr} (h : SimY K cl (some (d, b, c)) S H0 R0 G n y T ow z ρ σ H) : SimW K [] (fun _ => none) d b c n (fun _ => True) T ow ρ σ H :=
  ⟨h.co, (h.k.dk d b c rfl).1, fun _ _ e => (by have := (msk_some e).2.2; cases this), fun a ha => ⟨rfl, (h.ow a ha).2.1 d b c rfl⟩, fun _ h => absurd h List.not_mem_nil, fun _ h => absurd h List.not_mem_nil⟩
theorem SimY.draw {d b c : Addr} {n' N : Int} (h : SimY K cl (some (d, b, c)) S H0 R0 G n y T ow z ρ σ H) (dr : Dr d b c N H n' H') : SimY K cl (some (d, b, c)) S H0 R0 G n' y T ow z ρ σ H' := ⟨h.k.draw dr, h.mo, h.mo _ _ (same_i ((h.k.dk d b c rfl).1.sm dr)) h.gf, (h.w.draw dr).co, h.ow⟩
end
end Zz

set_option Elab.async false
set_option linter.all false
set_option maxRecDepth 100000
namespace Zz
open PySem PySem.Spec PyProof.Rows L2 Pb
/-! ### readings beside sessions -/
inductive Ye (α : Type) where
  | val (a : α)
  | ex (o : Out)
abbrev YT (α : Type) := Rho → Int → Sto → (Ye α → Int → Sto → Prop) → Prop
def ErrAt (K : PySem.W.Frag) (X : Hp) (d : Option Addr) : Out → Prop
  | .ret _ => False
  | .exc _ => d = none
  | .excF _ f e => ∃ dd v, d = some dd ∧ X dd = some (.xd [(f, v)]) ∧ Da K X v e
theorem ErrAt.mono {K : PySem.W.Frag} {X Y : Hp} {d : Option Addr} {o : Out} (h : ErrAt K X d o) (s : SameI X Y) : ErrAt K Y d o := by
  match o, h with
  | .exc _, h => exact h
  | .excF _ f e, ⟨dd, v, h1, h2, h3⟩ => exact ⟨dd, v, h1, s _ _ h2 (fun _ _ _ z => by cases z), Da.sameI s _ _ h3⟩
def Reg (D : Option (Addr × Addr × Addr)) (y : Sto) (z : Addr → Addr × Addr) (x : Addr) : Prop := (∃ a s, y a = some s ∧ (x = a ∨ x = (z a).1 ∨ x = (z a).2)) ∨ ∃ d b c, D = some (d, b, c) ∧ (x = d ∨ x = b)
section
variable (K : PySem.W.Frag) (cl : Str → Addr) (D : Option (Addr × Addr × Addr))
/-- the step from one world to another, the slots as they were -/
structure StepY (S : List Addr) (H0 : Hp) (R0 : Addr → Prop) (G : Hp → Prop) (y : Sto) (z : Addr → Addr × Addr) (T ow : List Addr) (ρ : Rho) (σ : L2.St) (H : Hp) (n' : Int) (y' : Sto) (T' : List Addr) (z' : Addr → Addr × Addr) (H' : Hp) : Prop where
  sm : SimY K cl D S H0 R0 G n' y' T' ow z' ρ σ H'
  sub : ∀ x ∈ T, x ∈ T'
  si : SameI (hs T H) (hs T' H')
  fr : ∀ x o, H x = some o → ¬ Reg D y z x → H' x = some o
  rg : ∀ x, Reg D y' z' x → Reg D y z x ∨ H x = none
end
/-! words -/
section
variable {K : PySem.W.Frag} {cl : Str → Addr} {D : Option (Addr × Addr × Addr)} {W : WX}
section
variable {S : List Addr} {H0 : Hp} {R0 : Addr → Prop} {G : Hp → Prop} {n n1 n2 : Int} {y y1 y2 : Sto} {T T1 T2 ow : List Addr} {z z1 z2 : Addr → Addr × Addr} {ρ : Rho} {σ : L2.St} {H H1 H2 : Hp}
theorem StepY.of (h : SimY K cl D S H0 R0 G n y T ow z ρ σ H) (s : Same H H1) : StepY K cl D S H0 R0 G y z T ow ρ σ H n y T z H1 := ⟨h.mono s, fun _ h => h, same_i (hs_mono s), fun x o e _ => s _ _ e, fun x r => .inl r⟩
theorem StepY.trans (h : StepY K cl D S H0 R0 G y z T ow ρ σ H n1 y1 T1 z1 H1) (k : StepY K cl D S H0 R0 G y1 z1 T1 ow ρ σ H1 n2 y2 T2 z2 H2) : StepY K cl D S H0 R0 G y z T ow ρ σ H n2 y2 T2 z2 H2 := ⟨k.sm, fun x hx => k.sub x (h.sub x hx), h.si.trans k.si, fun x o e r => k.fr x o (h.fr x o e r) fun r1 => (h.rg x r1).elim r fun w => (by rw [w] at e; cases e), fun x r => (k.rg x r).elim (h.rg x) fun w => by
    by_cases q : Reg D y z x
    · exact .inl q
    · refine .inr ?_
      cases e : H x with
      | none => rfl
      | some o =>
        rw [h.fr x o e q] at w
        cases w⟩
theorem StepY.more (h : StepY K cl D S H0 R0 G y z T ow ρ σ H n1 y1 T1 z1 H1) (s : Same H1 H2) : StepY K cl D S H0 R0 G y z T ow ρ σ H n1 y1 T1 z1 H2 := h.trans (.of h.sm s)
theorem StepY.draw {d b c : Addr} {N : Int} (h : SimY K cl (some (d, b, c)) S H0 R0 G n y T ow z ρ σ H) (dr : Dr d b c N H n1 H1) : StepY K cl (some (d, b, c)) S H0 R0 G y z T ow ρ σ H n1 y T z H1 := ⟨h.draw dr, fun _ h => h, same_i ((h.k.dk d b c rfl).1.sm dr), fun x o e r => by
    have n1 : x ≠ d := fun w => r (.inr ⟨d, b, c, rfl, .inl w⟩)
    have n2 : x ≠ b := fun w => r (.inr ⟨d, b, c, rfl, .inr w⟩)
    have := dr.sm x o (by rw [msk_ne n1 n2]; exact e)
    rw [msk_ne n1 n2] at this
    exact this, fun x r => .inl r⟩
end
end
end Zz

set_option Elab.async false
set_option linter.all false
set_option maxRecDepth 100000
namespace Zz
open PySem PySem.Spec PyProof.Rows L2 Pb
/-! ### statements beside sessions -/
section
variable {K : PySem.W.Frag} {cl : Str → Addr} {D : Option (Addr × Addr × Addr)} {S : List Addr} {H0 : Hp} {R0 : Addr → Prop} {G : Hp → Prop} {n n' : Int} {y : Sto} {T ow : List Addr} {z : Addr → Addr × Addr} {ρ : Rho} {σ : L2.St} {H H' : Hp}
end
section
variable (K : PySem.W.Frag) (cl : Str → Addr) (D : Option (Addr × Addr × Addr))
def SimYs (S : List Addr) (H0 : Hp) (R0 : Addr → Prop) (G : Hp → Prop) (n : Int) (y : Sto) (ρ : Rho) (σ : L2.St) (H : Hp) : Prop := ∃ T ow z, SimY K cl D S H0 R0 G n y T ow z ρ σ H
end
section
variable {K : PySem.W.Frag} {cl : Str → Addr} {D : Option (Addr × Addr × Addr)} {W : WX}
section
variable {S : List Addr} {H0 : Hp} {R0 : Addr → Prop} {G : Hp → Prop} {n n' : Int} {y : Sto} {T ow : List Addr} {z : Addr → Addr × Addr} {ρ : Rho} {σ : L2.St} {H H' : Hp}
theorem SimY.s (h : SimY K cl D S H0 R0 G n y T ow z ρ σ H) : SimYs K cl D S H0 R0 G n y ρ σ H := ⟨T, ow, z, h⟩
end
theorem SimY.put {S : List Addr} {H0 : Hp} {R0 : Addr → Prop} {G : Hp → Prop} {n : Int} {y : Sto} {T ow : List Addr} {z : Addr → Addr × Addr} {ρ ρ' : Rho} {σ σ' : L2.St} {H : Hp} (h : SimY K cl D S H0 R0 G n y T ow z ρ σ H) (k : SO K T ow ρ' σ' H) : SimY K cl D S H0 R0 G n y T ow z ρ' σ' H := ⟨h.k, h.mo, h.gf, k, h.ow⟩
end
end Zz

set_option Elab.async false
set_option linter.all false
set_option maxRecDepth 100000
namespace Zz
open PySem PySem.Spec PyProof.Rows L2 Pb
/-! ### defs that change sessions -/
def ArgOk (K : PySem.W.Frag) (T : List Addr) (H : Hp) (v : V) : Sl → Prop
  | .val d => Da K (hs T H) v d
  | .deck a => v = .ref a
  | _ => False
inductive ArgsOk (K : PySem.W.Frag) (T : List Addr) (H : Hp) : List V → List Sl → Prop
  | nil : ArgsOk K T H [] []
  | cons {v : V} {vs : List V} {s : Sl} {ss : List Sl} : ArgOk K T H v s → ArgsOk K T H vs ss → ArgsOk K T H (v :: vs) (s :: ss)
theorem ArgOk.move {K : PySem.W.Frag} {T T' : List Addr} {H H' : Hp} {v : V} {s : Sl} (h : ArgOk K T H v s) (m : SameI (hs T H) (hs T' H')) : ArgOk K T' H' v s := by
  cases s with
  | val d => exact Da.sameI m _ _ h
  | deck a => exact h
  | no => exact h.elim
  | own es => exact h.elim
  | exn a d fs => exact h.elim
  | plt ns => exact h.elim
theorem ArgsOk.move {K : PySem.W.Frag} {T T' : List Addr} {H H' : Hp} (m : SameI (hs T H) (hs T' H')) : ∀ {vs : List V} {ss : List Sl}, ArgsOk K T H vs ss → ArgsOk K T' H' vs ss
  | _, _, .nil => .nil
  | _, _, .cons h k => .cons (h.move m) (ArgsOk.move m k)
theorem ArgsOk.len {K : PySem.W.Frag} {T : List Addr} {H : Hp} : ∀ {vs : List V} {ss : List Sl}, ArgsOk K T H vs ss → vs.length = ss.length
  | _, _, .nil => rfl
  | _, _, .cons h k => by rw [List.length_cons, List.length_cons, ArgsOk.len k]
section
variable {K : PySem.W.Frag} {cl : Str → Addr} {D D' : Option (Addr × Addr × Addr)} {S S' : List Addr} {H0 : Hp} {R0 : Addr → Prop} {G : Hp → Prop} {n n' n2 : Int} {y y' : Sto} {T ow : List Addr} {z z' : Addr → Addr × Addr} {ρ : Rho} {σ : L2.St} {H H' : Hp}
/-- what the region is to the caller -/
theorem Yk.reg (h : Yk K cl D S H0 R0 n y T z H) (hD : D' = none ∨ D' = D) {x : Addr} (r : Reg D' y z x) : R0 x ∨ H0 x = none := by
  rcases r with ⟨a, s, e, rfl | hx⟩ | ⟨d, b, c, e, hx⟩
  · exact h.ca _ s e
  · exact (h.ce a s e x hx).2.1
  · rcases hD with q | q
    · rw [q] at e
      cases e
    · obtain ⟨_, h1, h2⟩ := h.dk d b c (q ▸ e)
      rcases hx with rfl | rfl
      · exact .inl h1
      · exact .inl h2
theorem Yk.regT (h : Yk K cl D S H0 R0 n y T z H) (hD : D' = none ∨ D' = D) {x : Addr} (r : Reg D' y z x) : x ∈ T ∨ ∃ C dx fs, H x = some (.ins C dx fs) := by
  rcases r with ⟨a, s, e, rfl | hx⟩ | ⟨d, b, c, e, hx⟩
  · exact .inr (h.cell e).2.2
  · exact .inl (h.ce a s e x hx).1
  · rcases hD with q | q
    · rw [q] at e
      cases e
    · obtain ⟨ck, _, _⟩ := h.dk d b c (q ▸ e)
      rcases hx with rfl | rfl
      · exact .inl ck.hd
      · exact .inl ck.hb
/-- back from a call -/
theorem SimY.after (h : SimY K cl D S H0 R0 G n y T ow z ρ σ H) (k : Yk K cl D' T H (Reg D' y z) n' y' S' z' H') (hD : D' = none ∧ n2 = n ∨ D' = D ∧ n2 = n') : StepY K cl D S H0 R0 G y z T ow ρ σ H n2 y' S' z' H' := by
  have hD' : D' = none ∨ D' = D := hD.imp And.left And.left
  have noR : ∀ x, (∃ o, H0 x = some o) → ¬ R0 x → ¬ Reg D' y z x := fun x ⟨o, e⟩ r q => (h.k.reg hD' q).elim r fun w => by
    rw [w] at e
    cases e
  have noD : ∀ d b c, D = some (d, b, c) → D' = none → ∀ x, (x = d ∨ x = b ∨ x = c) → ¬ Reg D' y z x := fun d b c e q x hx r => by
    have dk := (h.k.dk d b c e).1.dk
    obtain ⟨bs, eb⟩ := dk.at_b
    obtain ⟨cs, ec, _⟩ := dk.at_c
    have lx : ∃ xs, H x = some (.lst xs) := by
      rcases hx with rfl | rfl | rfl
      · exact ⟨_, dk.at_d⟩
      · exact ⟨_, eb⟩
      · exact ⟨_, ec⟩
    rcases r with ⟨a, s, ea, rfl | hc⟩ | ⟨d', b', c', ed, _⟩
    · obtain ⟨_, _, C, dx, fs, ei⟩ := h.k.cell ea
      obtain ⟨xs, el⟩ := lx
      rw [ei] at el
      cases el
    · obtain ⟨n1, n2, n3⟩ := (h.k.ce a s ea x hc).2.2 d b c e
      rcases hx with w | w | w
      · exact n1 w
      · exact n2 w
      · exact n3 w
    · rw [q] at ed
      cases ed
  have owR : ∀ x ∈ ow, ¬ Reg D' y z x := fun x hx r => by
    obtain ⟨h1, h2, h3⟩ := h.ow x hx
    rcases r with ⟨a, s, ea, rfl | hc⟩ | ⟨d, b, c, ed, hc⟩
    · obtain ⟨_, _, C, dx, fs, ei⟩ := h.k.cell ea
      obtain ⟨xs, el⟩ := h.k.ls _ (h.co.owT _ hx)
      rw [ei] at el
      cases el
    · exact hc.elim (h3 a s ea).1 (h3 a s ea).2
    · rcases hD' with q | q
      · rw [q] at ed
        cases ed
      · obtain ⟨n1, n2, _⟩ := h2 d b c (q ▸ ed)
        exact hc.elim n1 n2
  have si : SameI (hs T H) (hs S' H') := fun x o e ni => by
    obtain ⟨h1, h2⟩ := hs_some e
    have nr : ¬ Reg D' y z x := fun r => (h.k.regT hD' r).elim h1 fun ⟨C, dx, fs, e'⟩ => by
      rw [h2] at e'
      exact ni C dx fs (Option.some.inj e')
    refine hs_at (fun m => ?_) (k.fr x o h2 nr)
    rcases k.nn x m with w | w
    · exact h1 w
    · rw [h2] at w
      cases w
  refine ⟨⟨{ ls := k.ls, se := k.se, sp := k.sp, tS := h.k.tS, dk := ?_, ce := ?_, ca := ?_, fr := ?_, al := ?_, sub := fun x hx => k.sub x (h.k.sub x hx), nn := ?_ }, h.mo, h.mo _ _ si h.gf, so_move h.co k.sub k.ls si fun fo hf vs e => k.fr fo _ e (owR fo hf), ?_⟩, k.sub, si, ?fr, ?rg⟩
  case fr =>
    intro x o e r
    refine k.fr x o e fun r1 => r ?_
    rcases r1 with r1 | ⟨d, b, c, ed, hx⟩
    · exact .inl r1
    · rcases hD' with q | q
      · rw [q] at ed
        cases ed
      · exact .inr ⟨d, b, c, q ▸ ed, hx⟩
  case rg =>
    have up : ∀ {u : Addr}, Reg D' y z u → Reg D y z u := fun {u} r1 => by
      rcases r1 with r1 | ⟨d, b, c, ed, hx⟩
      · exact .inl r1
      · rcases hD' with q | q
        · rw [q] at ed
          cases ed
        · exact .inr ⟨d, b, c, q ▸ ed, hx⟩
    intro x r
    rcases r with ⟨a, s, e, rfl | hx⟩ | r
    · exact (k.ca _ s e).imp up id
    · exact (k.ce a s e x hx).2.1.imp up id
    · exact .inl (.inr r)
  · intro d b c e
    obtain ⟨c1, c2, c3⟩ := h.k.dk d b c e
    refine ⟨?_, c2, c3⟩
    rcases hD with ⟨q, rfl⟩ | ⟨q, rfl⟩
    · obtain ⟨e1, e2, e3, e4, e5, ⟨bs, e6⟩, ⟨cs, e7, e8⟩⟩ := c1.dk
      exact ⟨⟨e1, e2, e3, e4, k.fr _ _ e5 (noD d b c e q _ (.inl rfl)), ⟨bs, k.fr _ _ e6 (noD d b c e q _ (.inr (.inl rfl)))⟩, ⟨cs, k.fr _ _ e7 (noD d b c e q _ (.inr (.inr rfl))), e8⟩⟩, k.sub d c1.hd, k.sub b c1.hb, k.ls.tr⟩
    · exact (k.dk d b c (q ▸ e)).1
  · intro a s e x hx
    obtain ⟨h1, h2, h3⟩ := k.ce a s e x hx
    refine ⟨h1, h2.elim (h.k.reg hD') fun w => .inr (h.k.fresh w), fun d b c ed => ?_⟩
    rcases hD with ⟨q, _⟩ | ⟨q, _⟩
    · have dk := (h.k.dk d b c ed).1.dk
      obtain ⟨bs, eb⟩ := dk.at_b
      obtain ⟨cs, ec, _⟩ := dk.at_c
      have ne : ∀ {u : Addr} {o : HO}, H u = some o → (u = d ∨ u = b ∨ u = c) → x ≠ u := fun {u o} eu hu w => by
        rcases h2 with r | r
        · exact noD d b c ed q u hu (w ▸ r)
        · rw [w, eu] at r
          cases r
      exact ⟨ne dk.at_d (.inl rfl), ne eb (.inr (.inl rfl)), ne ec (.inr (.inr rfl))⟩
    · exact h3 d b c (q ▸ ed)
  · intro a s e
    exact (k.ca a s e).elim (h.k.reg hD') fun w => .inr (h.k.fresh w)
  · exact fun x o e r => k.fr x o (h.k.fr x o e r) (noR x ⟨o, e⟩ r)
  · intro x o e
    obtain ⟨o', e'⟩ := h.k.al x o e
    exact k.al x o' e'
  · intro x hx
    rcases k.nn x hx with w | w
    · exact h.k.nn x w
    · exact .inr (h.k.fresh w)
  · intro x hx
    obtain ⟨h1, h2, h3⟩ := h.ow x hx
    refine ⟨h1, h2, fun a s e => ?_⟩
    obtain ⟨xs, el⟩ := h.k.ls x (h.co.owT x hx)
    have ne : ∀ u, (u = (z' a).1 ∨ u = (z' a).2) → x ≠ u := fun u hu w => by
      rcases (k.ce a s e u hu).2.1 with r | r
      · exact owR x hx (w ▸ r)
      · rw [← w, el] at r
        cases r
    exact ⟨ne _ (.inl rfl), ne _ (.inr rfl)⟩
end
/-! ### arguments and calls -/
def gNil : YT (List Sl) := fun _ n y P => P (.val []) n y
section
variable {K : PySem.W.Frag} {cl : Str → Addr} {D : Option (Addr × Addr × Addr)} {W : WX}
end
section
variable {K : PySem.W.Frag} {cl : Str → Addr} {D : Option (Addr × Addr × Addr)} {W : WX}
end
end Zz

set_option Elab.async false
set_option linter.all false
set_option maxRecDepth 100000
namespace Zz
open PySem PySem.Spec PyProof.Rows L2 Pb
/-! ### methods called where what is raised is wished for at the slots -/
section
variable {X : Cx} {CX : CXT} {k : Nat} {f C : Addr} {fd : FuncData} {ps ks : List Str} {sp : Sp} {dvs : List V} {ds : List Value} {E : L2.St → XK} {m : Str} {pos apos : Pos} {e o : Expr} {es : List Expr} {kws : List Keyword} {ta : TE} {t tk : TA} {g : List Value → List Value → List Value} {gV : List V → List V → List V}
end
end Zz

set_option Elab.async false
set_option linter.all false
set_option maxRecDepth 100000
namespace Zz
open PySem PySem.Spec PyProof.Rows L2 Pb
/-! ### one session changed -/
def updZ (z : Addr → Addr × Addr) (a p q : Addr) : Addr → Addr × Addr := fun x => if x = a then (p, q) else z x
theorem updZ_at {z : Addr → Addr × Addr} {a p q : Addr} : updZ z a p q a = (p, q) := if_pos rfl
theorem updZ_ne {z : Addr → Addr × Addr} {a p q b : Addr} (h : b ≠ a) : updZ z a p q b = z b := if_neg h
section
variable {K : PySem.W.Frag} {cl : Str → Addr} {D D' : Option (Addr × Addr × Addr)} {S S' : List Addr} {H0 : Hp} {R0 : Addr → Prop} {G : Hp → Prop} {n n' n2 : Int} {y y' : Sto} {T ow : List Addr} {z z' : Addr → Addr × Addr} {ρ : Rho} {σ : L2.St} {H H' : Hp}
theorem SimY.at (h : SimY K cl D S H0 R0 G n y T ow z ρ σ H) {i : Nat} {a : Addr} (e : ρ[i]? = some (.deck a)) : σ[i]? = some (some (.ref a)) := by
  obtain ⟨o, ho, eo⟩ := h.co.slot i _ e
  have eo' : o = some (.ref a) := eo
  rw [ho, eo']
end
/-! ### fields -/
section
variable {K : PySem.W.Frag} {cl : Str → Addr} {D : Option (Addr × Addr × Addr)} {W : WX}
end
end Zz

set_option Elab.async false
set_option linter.all false
set_option maxRecDepth 100000
namespace Zz
open PySem PySem.Spec PyProof.Rows L2 Pb
/-! ### readings that change nothing -/
section
variable {K : PySem.W.Frag} {cl : Str → Addr} {D : Option (Addr × Addr × Addr)} {W : WX}
/-! ### methods -/
end
end Zz

set_option Elab.async false
set_option linter.all false
set_option maxRecDepth 100000
namespace Zz
open PySem PySem.Spec PyProof.Rows L2 Pb
/-! ### walks beside sessions -/
structure ItY (K : PySem.W.Frag) (T : List Addr) (H1 : Hp) (J : It) (es : List PyData) : Prop where
  ex : ∃ (F Gw : Hp → Prop) (Yw : Nat → Hp → V → Hp → Prop), (∀ H H', SameI H H' → F H → F H') ∧ F (hs T H1) ∧ Walk J es.length Gw Yw ∧ (∀ T' H2, F (hs T' H2) → Gw H2) ∧
    (∀ T' H2 i x H', F (hs T' H2) → Tr T' H2 → i < es.length → Yw i H2 x H' → Same H2 H' ∧ ∃ e, es[i]? = some e ∧ Da K (hs T' H') x e)
section
variable {K : PySem.W.Frag}
end
section
variable {K : PySem.W.Frag} {cl : Str → Addr} {D : Option (Addr × Addr × Addr)} {W : WX}
theorem SimY.weak {S : List Addr} {H0 : Hp} {R0 : Addr → Prop} {G G' : Hp → Prop} {n : Int} {y : Sto} {T ow : List Addr} {z : Addr → Addr × Addr} {ρ : Rho} {σ : L2.St} {H : Hp} (h : SimY K cl D S H0 R0 G n y T ow z ρ σ H) (mo : ∀ X Y, SameI X Y → G' X → G' Y) (g : G' (hs T H)) : SimY K cl D S H0 R0 G' n y T ow z ρ σ H := ⟨h.k, mo, g, h.co, h.ow⟩
/-! ### try -/
theorem SimYs.setN {S : List Addr} {H0 : Hp} {R0 : Addr → Prop} {G : Hp → Prop} {n : Int} {y : Sto} {ρ : Rho} {σ : L2.St} {H : Hp} {i : Nat} {o : Option V} (h : SimYs K cl D S H0 R0 G n y ρ σ H) : SimYs K cl D S H0 R0 G n y (ρ.set i .no) (σ.set i o) H := by
  obtain ⟨T, ow, z, sm⟩ := h
  exact ⟨T, ow, z, sm.put sm.co.setN⟩
end
end Zz

set_option Elab.async false
set_option linter.all false
set_option maxRecDepth 100000
namespace Zz
open PySem PySem.Spec PyProof.Rows L2 Pb
/-! ### comprehensions beside sessions -/
section
variable {K : PySem.W.Frag} {cl : Str → Addr} {D : Option (Addr × Addr × Addr)} {S : List Addr} {H0 : Hp} {R0 : Addr → Prop} {G : Hp → Prop} {n : Int} {y : Sto} {T ow : List Addr} {z : Addr → Addr × Addr} {ρ : Rho} {σ : L2.St} {H H' : Hp}
/-- a hidden list handed on as data -/
theorem Yk.show (h : Yk K cl D S H0 R0 n y T z H) {p : Addr} (hr : ¬ Reg D y z p) (hS : p ∉ S) : Yk K cl D S H0 R0 n y (T.filter (· ≠ p)) z H := by
  have mem : ∀ {x : Addr}, x ∈ T → x ≠ p → x ∈ T.filter (· ≠ p) := fun {x} hx ne => List.mem_filter.mpr ⟨hx, by simpa using ne⟩
  have sm : SameI (hs T H) (hs (T.filter (· ≠ p)) H) := same_i (msk_to_hs fun x hx => (List.mem_filter.mp hx).1)
  exact
    { ls := fun x hx => h.ls x (List.mem_filter.mp hx).1, ca := h.ca, sp := h.sp, fr := h.fr, al := h.al, tS := h.tS, nn := fun x hx => h.nn x (List.mem_filter.mp hx).1
      dk := fun d b c e => by
        obtain ⟨c1, c2, c3⟩ := h.dk d b c e
        exact ⟨⟨c1.dk, mem c1.hd fun w => hr (w ▸ .inr ⟨d, b, c, e, .inl rfl⟩), mem c1.hb fun w => hr (w ▸ .inr ⟨d, b, c, e, .inr rfl⟩), fun x hx => c1.tr x (List.mem_filter.mp hx).1⟩, c2, c3⟩
      se := fun a s e => (h.se a s e).move sm (fun _ q => q) (fun _ q => q) (fun _ q => q)
      ce := fun a s e x hx => ⟨mem (h.ce a s e x hx).1 fun w => hr (w ▸ .inl ⟨a, s, e, .inr hx⟩), (h.ce a s e x hx).2⟩
      sub := fun x hx => mem (h.sub x hx) fun w => hS (w ▸ hx) }
end
end Zz

set_option Elab.async false
set_option linter.all false
set_option maxRecDepth 100000
namespace Zz
open PySem PySem.Spec PyProof.Rows L2 Pb
/-! ### new sessions -/
section
variable {K : PySem.W.Frag} {cl : Str → Addr} {D : Option (Addr × Addr × Addr)} {S : List Addr} {H0 : Hp} {R0 : Addr → Prop} {G : Hp → Prop} {n : Int} {y : Sto} {T ow : List Addr} {z : Addr → Addr × Addr} {ρ : Rho} {σ : L2.St} {H H' : Hp}
theorem SimY.new (h : SimY K cl D S H0 R0 G n y T ow z ρ σ H) {x p q : Addr} {s : Ses} (sm : Same H H') (hx : H x = none) (hp : H p = none) (hq : H q = none) (se : SesAt K cl (hs (p :: q :: T) H') H' x p q s) : StepY K cl D S H0 R0 G y z T ow ρ σ H n (upY y x s) (p :: q :: T) (updZ z x p q) H' ∧ y x = none := by
  have tr : ∀ {b : Addr} {t : Ses}, y b = some t → ∀ u, u = b ∨ u = (z b).1 ∨ u = (z b).2 → H u ≠ none := fun {b t} eb u hu w => by
    obtain ⟨⟨_, d1⟩, ⟨_, d2⟩, _, _, _, di⟩ := h.k.cell eb
    rcases hu with rfl | rfl | rfl
    · rw [di] at w
      cases w
    · rw [d1] at w
      cases w
    · rw [d2] at w
      cases w
  have yx : y x = none := by
    cases e : y x with
    | none => rfl
    | some t => exact absurd hx (tr e x (.inl rfl))
  have ne : ∀ {b : Addr} {t : Ses}, y b = some t → b ≠ x := fun {b t} eb w => by
    rw [w, yx] at eb
    cases eb
  obtain ⟨_, _, dx, vn, vl, vs, es, e1, e2, e3, _⟩ := id se
  have nT : ∀ u ∈ T, H u ≠ none := fun u hu w => by
    obtain ⟨xs, e⟩ := h.k.ls u hu
    rw [w] at e
    cases e
  have vis : Same (hs T H) (hs (p :: q :: T) H') := fun u o e => by
    obtain ⟨h1, h2⟩ := hs_some e
    refine hs_at (fun m => ?_) (sm _ _ h2)
    rcases List.mem_cons.mp m with w | m
    · rw [w, hp] at h2
      cases h2
    · rcases List.mem_cons.mp m with w | m
      · rw [w, hq] at h2
        cases h2
      · exact h1 m
  have sub : ∀ u ∈ T, u ∈ p :: q :: T := fun u hu => List.mem_cons_of_mem _ (List.mem_cons_of_mem _ hu)
  have ls : LsT (p :: q :: T) H' := fun u hu => by
    rcases List.mem_cons.mp hu with rfl | hu
    · exact ⟨_, e2⟩
    · rcases List.mem_cons.mp hu with rfl | hu
      · exact ⟨_, e3⟩
      · exact (h.k.ls u hu).elim fun xs e => ⟨xs, sm _ _ e⟩
  have fresh : ∀ {u : Addr} {o : HO}, H u = some o → u ≠ p ∧ u ≠ q := fun {u o} e => ⟨fun w => (by rw [w, hp] at e; cases e), fun w => (by rw [w, hq] at e; cases e)⟩
  have k : Yk K cl D S H0 R0 n (upY y x s) (p :: q :: T) (updZ z x p q) H' := by
    refine { ls := ls, dk := fun d b c e => ?_, se := fun b t eb => ?_, ce := fun b t eb u hu => ?_, ca := fun b t eb => ?_, sp := fun b t c t' eb ec nbc u hu => ?_, fr := fun u o e r => sm _ _ (h.k.fr u o e r), al := fun u o e => (h.k.al u o e).elim fun o' e' => ⟨o', sm _ _ e'⟩, sub := fun u hu => sub u (h.k.sub u hu), nn := fun u hu => ?_, tS := h.k.tS }
    · obtain ⟨c1, c2, c3⟩ := h.k.dk d b c e
      exact ⟨⟨c1.dk.same sm, sub _ c1.hd, sub _ c1.hb, ls.tr⟩, c2, c3⟩
    · by_cases w : b = x
      · subst w
        rw [upY_at] at eb
        cases eb
        rw [updZ_at]
        exact se
      · rw [upY_ne w] at eb
        rw [updZ_ne w]
        exact (h.k.se b t eb).move (same_i vis) (fun o => sm _ _) (fun o => sm _ _) (fun o => sm _ _)
    · by_cases w : b = x
      · subst w
        rw [updZ_at] at hu
        have nd : ∀ d b c, D = some (d, b, c) → ∀ v, (v = p ∨ v = q) → v ≠ d ∧ v ≠ b ∧ v ≠ c := fun d b c e v hv => by
          have dk := (h.k.dk d b c e).1.dk
          obtain ⟨bs, eb⟩ := dk.at_b
          obtain ⟨cs, ec, _⟩ := dk.at_c
          have ne' : ∀ {u : Addr} {o : HO}, H u = some o → v ≠ u := fun {u o} e w => hv.elim (fun v1 => (fresh e).1 (w ▸ v1)) (fun v1 => (fresh e).2 (w ▸ v1))
          exact ⟨ne' dk.at_d, ne' eb, ne' ec⟩
        rcases hu with rfl | rfl
        · exact ⟨List.mem_cons_self, .inr (h.k.fresh hp), fun d b c e => nd d b c e _ (.inl rfl)⟩
        · exact ⟨List.mem_cons_of_mem _ List.mem_cons_self, .inr (h.k.fresh hq), fun d b c e => nd d b c e _ (.inr rfl)⟩
      · rw [upY_ne w] at eb
        rw [updZ_ne w] at hu
        exact ⟨sub u (h.k.ce b t eb u hu).1, (h.k.ce b t eb u hu).2⟩
    · by_cases w : b = x
      · rw [w]
        exact .inr (h.k.fresh hx)
      · rw [upY_ne w] at eb
        exact h.k.ca b t eb
    · have cellf : ∀ {b : Addr} {t : Ses}, y b = some t → ∀ u, u = (z b).1 ∨ u = (z b).2 → u ≠ p ∧ u ≠ q := fun {b t} eb u hu => by
        obtain ⟨⟨_, d1⟩, ⟨_, d2⟩, _⟩ := h.k.cell eb
        rcases hu with rfl | rfl
        · exact fresh d1
        · exact fresh d2
      by_cases w : b = x
      · subst w
        have nc : c ≠ b := fun v => nbc v.symm
        rw [upY_ne nc] at ec
        rw [updZ_at] at hu
        rw [updZ_ne nc]
        have f1 := cellf ec _ (.inl rfl)
        have f2 := cellf ec _ (.inr rfl)
        rcases hu with rfl | rfl
        · exact ⟨f1.1.symm, f2.1.symm⟩
        · exact ⟨f1.2.symm, f2.2.symm⟩
      · rw [upY_ne w] at eb
        rw [updZ_ne w] at hu
        by_cases v : c = x
        · subst v
          rw [updZ_at]
          exact cellf eb u hu
        · rw [upY_ne v] at ec
          rw [updZ_ne v]
          exact h.k.sp b t c t' eb ec nbc u hu
    · rcases List.mem_cons.mp hu with rfl | hu
      · exact .inr (h.k.fresh hp)
      · rcases List.mem_cons.mp hu with rfl | hu
        · exact .inr (h.k.fresh hq)
        · exact h.k.nn u hu
  refine ⟨⟨⟨k, h.mo, h.mo _ _ (same_i vis) h.gf, so_move h.co sub ls (same_i vis) fun fo hf ws e => sm _ _ e, fun u hu => ?_⟩, sub, same_i vis, fun u o e _ => sm _ _ e, fun u r => ?_⟩, yx⟩
  · obtain ⟨h1, h2, h3⟩ := h.ow u hu
    refine ⟨h1, h2, fun b t eb => ?_⟩
    by_cases w : b = x
    · subst w
      rw [updZ_at]
      obtain ⟨xs, e⟩ := h.k.ls u (h.co.owT u hu)
      exact fresh e
    · rw [upY_ne w] at eb
      rw [updZ_ne w]
      exact h3 b t eb
  · rcases r with ⟨b, t, eb, hc⟩ | r
    · by_cases w : b = x
      · subst w
        rw [updZ_at] at hc
        rcases hc with rfl | rfl | rfl
        · exact .inr hx
        · exact .inr hp
        · exact .inr hq
      · rw [upY_ne w] at eb
        rw [updZ_ne w] at hc
        exact .inl (.inl ⟨b, t, eb, hc⟩)
    · exact .inl (.inr r)
end
section
variable {K : PySem.W.Frag} {cl : Str → Addr} {D : Option (Addr × Addr × Addr)} {W : WX}
end
/-! ### is_guarded -/
/-! ### a call f(e, *y) of a local that holds one of several defs -/
end Zz

set_option Elab.async false
set_option linter.all false
set_option maxRecDepth 100000
namespace Zz
open PySem PySem.Spec PyProof.Rows L2 Pb
/-! ### methods as facts of a class -/
structure MtP (P : Program) (w : World) (K : PySem.W.Frag) (mg : Str → Option Value) (base : Heap) (CX : CXT) (k : Nat) (C : Addr) (m : Str) (ps : List Str) (dvs : List V) (sp : Sp) : Prop where
  ex : ∃ (f : Addr) (fd : FuncData) (ds : List Value), Meth K C m f ∧ FnOk P w K mg base CX k f fd ps sp ∧ Binds K fd ps ds ∧ Vals dvs ds
  cc : Cls K C
structure MtK (P : Program) (w : World) (K : PySem.W.Frag) (mg : Str → Option Value) (base : Heap) (CX : CXT) (k : Nat) (C : Addr) (m : Str) (ps ks : List Str) (sp : Sp) : Prop where
  ex : ∃ (f : Addr) (fd : FuncData) (g : List Value → List Value → List Value), Meth K C m f ∧ FnOk P w K mg base CX k f fd ps sp ∧ KBn K fd ps 1 ks g (fun us ws => us ++ ws)
  cc : Cls K C
section
variable {X : Cx} {CX : CXT} {j k : Nat} {C : Addr} {ps ks : List Str} {sp : Sp} {dvs : List V} {E : L2.St → XK} {m : Str} {pos apos : Pos} {e o : Expr} {es : List Expr} {kws : List Keyword} {ta : TE} {t tk : TA}
theorem p0 {E : L2.St → XK} : ∀ σ, PassesAt CX0 X σ (E σ) := fun _ _ _ _ _ _ _ h => h.elim
end
/-! ### the change with a word (pure) -/
section
variable {P : Program} {w : World} {K : PySem.W.Frag} {mg : Str → Option Value} {base : Heap}
end
end Zz

set_option Elab.async false
set_option linter.all false
set_option maxRecDepth 100000
namespace Oe
open PySem PySem.Spec PyProof.Rows L2 Pb
open PySem.W (Frag findIn subIn InstAt)
/-! ### made errors as values -/
/-- a made error of the class at C, its fields -/
def ErrIn (H : Hp) (a C : Addr) (fs : List (Str × V)) : Prop := (∃ d, H a = some (exo a C (some d)) ∧ H d = some (exd d fs)) ∨ (H a = some (ExO (.ref C) a) ∧ fs = [])
theorem ErrIn.same {H H' : Hp} {a C : Addr} {fs : List (Str × V)} (h : ErrIn H a C fs) (s : Same H H') : ErrIn H' a C fs := by
  rcases h with ⟨d, h1, h2⟩ | ⟨h1, h2⟩
  · exact .inl ⟨d, s _ _ h1, s _ _ h2⟩
  · exact .inr ⟨s _ _ h1, h2⟩
section
variable {X : Cx} {pins : List (Addr × Obj)} {σ : L2.St} {H : Hp} {s : Shared}
theorem ErrIn.inst {a C : Addr} {fs : List (Str × V)} (h : ErrIn H a C fs) (I : Inv X pins σ H s) : ∃ ox od, InstAt s.heap a ox C od := by
  rcases h with ⟨d, h1, h2⟩ | ⟨h1, h2⟩
  · obtain ⟨t1, ho⟩ := exo_at I.hok h1
    obtain ⟨mA, hns, hr⟩ := exd_at I.hok h2
    obtain ⟨od, hod, hl⟩ := lookIn_ns hns
    exact ⟨_, some od, ho, rfl, rfl, hod⟩
  · obtain ⟨⟨oe, vs, ho, hz, hd, _⟩, _, _⟩ := I.hok a _ h1
    exact ⟨oe, none, ho, hz.1, by unfold PySem.W.notCls; rw [hd] <;> rfl, by rw [hz.2]; trivial⟩
end
/-- isinstance(e, c), e such an error -/
def rIsX (K : Frag) : List V → Hp → VK → Prop := fun xs H Q => ∃ (a C : Addr) (fs : List (Str × V)) (c : V) (cv : Value) (b : Bool), xs = [.ref a, c] ∧ ClsV c cv ∧ ErrIn H a C fs ∧ ExcC K C ∧ PySem.W.kitOne K (.ref C) cv = some b ∧ Q (.bl b) H
theorem call_isX {X : Cx} : CallR X (.builtin "isinstance") (rIsX X.K) := by
  intro pins s σ H xs us Q I r ⟨a, C, fs, c, cv, b, ex, kc, he, xc, e, q⟩
  subst ex
  obtain ⟨u1, u2, rfl, r1, r2⟩ := vals2 r
  obtain rfl : u1 = Value.ref a := r1
  obtain rfl := kc.eq r2
  obtain ⟨ox, od, J⟩ := he.inst I
  exact PySem.W.kia_one (H := fun h => InstAt h a ox C od) (kit_err xc) I.kIn J e (fun z => nomatch z) fun tk => ⟨.bl b, H, I.kept (t' := tk) fun _ _ z => z, rfl, q⟩
/-- C(e), C with def __init__(self, v): self.f = v -/
def tMkE (C : Addr) (f : Str) (te : TE) : TE := fun σ H Q => te σ H fun y H1 => ∀ a d, H1 a = none → H1 d = none → d ≠ a → Q (.ref a) (upd (upd (upd H1 a (exo a C none)) d (exd d [(f, y)])) a (exo a C (some d)))
/-- C() -/
def tMk0 (C : Addr) : TE := fun σ H Q => ∀ a, H a = none → Q (.ref a) (upd H a (ExO (.ref C) a))
section
variable {X : Cx} {x f : Str} {C : Addr} {e : Expr} {te : TE} {p pos : Pos}
theorem pe_mkE (T0 : EcI X.prog X.w X.K X.mg X.base x C f) (hr : Room 2 X.A) (hg : Gl X x) (hE : PE X e te) (hdb : (x == ("__debug__" : Str)) = false := by decide) (he : starEach [e] X.env = (false, eval e X.env) :: starEach [] X.env := by rfl) (hpl : (backTo pos (starEach [] X.env)).any (·.1) = false := by rfl) :
    PE X (.Call (.Name x p) [e] [] pos) (tMkE C f te) := by
  obtain ⟨fI, fd, v, iC, tI, F1, hb⟩ := T0.ini
  have T := T0.T
  obtain ⟨nm, q, N, bs, bm, sn, sub, ab, col, dd, k0, k1, k2, k3, k5, hC, hbm⟩ := T.cls
  refine ⟨fun pins s σ H Q I h => ?_⟩
  refine wpAny_Call_Name_kw (ld_glob I hg T0.g ?_ hdb)
  have key := (pa_cons (pe_cl hE) pa_nil (hs := he)).run pos pins s σ H (fun vs H1 => ∃ y, vs = [y] ∧ ∀ a d, H1 a = none → H1 d = none → d ≠ a → Q (.ref a) (upd (upd (upd H1 a (exo a C none)) d (exd d [(f, y)])) a (exo a C (some d)))) I (by
    refine ⟨_, h, fun y H1 q => ?_⟩
    exact ⟨y, rfl, q⟩)
  refine PySem.W.callWith_K (h₀ := X.base) I.ok.mod.kin T.kC (thn key fun us s1 ⟨vs, H1, I1, r1, y, ev, q1⟩ => ⟨I1.kIn, ?_⟩) he hpl
  subst ev
  show wpAny _ _ (call (.ref C) us) _ _ _
  obtain ⟨hp, g, dr, tk, os⟩ := s1
  have hsz : hp.objs.size ≤ hp.objs.size + 1 := Nat.le_succ _
  have hn : H1 (hp.objs.size + 1) = none := I1.hok.fresh hsz
  have kk : ∀ b o, hp.get? b = some o → ((hp.push (PySem.W.kdv_tup us)).push (PySem.HandSPX.excO C hp.objs.size)).get? b = some o := fun b o e => Heap.get?_push_of_some _ (Heap.get?_push_of_some _ e)
  have hget : ((hp.push (PySem.W.kdv_tup us)).push (PySem.HandSPX.excO C hp.objs.size)).get? (hp.objs.size + 1) = some (PySem.HandSPX.excO C hp.objs.size) := by heap_get
  have I2 : Inv X pins σ (upd H1 (hp.objs.size + 1) (exo (hp.objs.size + 1) C none)) ⟨(hp.push (PySem.W.kdv_tup us)).push (PySem.HandSPX.excO C hp.objs.size), g, dr, tk, os⟩ :=
    I1.laid (t' := tk) (a := hp.objs.size + 1) (o := exo (hp.objs.size + 1) C none) (h' := (hp.push (PySem.W.kdv_tup us)).push (PySem.HandSPX.excO C hp.objs.size)) kk hsz (exo_ok hget)
  have hq : spInit C f [.ref (hp.objs.size + 1), y] (upd H1 (hp.objs.size + 1) (exo (hp.objs.size + 1) C none)) (fun v H2 => v = .non ∧ Q (.ref (hp.objs.size + 1)) H2) (fun _ _ _ => False) :=
    ⟨_, y, rfl, upd_same, fun d hd hda => ⟨rfl, by
      rw [upd_ne hda] at hd
      exact q1 _ d hn hd hda⟩⟩
  have r2 : Vals [V.ref (hp.objs.size + 1), y] (Value.ref (hp.objs.size + 1) :: us) := .cons rfl r1
  have hl : (Value.ref (hp.objs.size + 1) :: us ++ []).length = (["self", v] : List Str).length := by
    have e := r2.length
    rw [F1.len _ _ _ _ hq] at e
    rw [List.append_nil]
    exact e.symm
  have hus : us.length ≤ sizeLine := by
    rw [← Paired.length r1, sizeLine_eq]
    show 1 ≤ _
    omega
  have hbd := hb _ (Value.ref (hp.objs.size + 1) :: us) I2.kIn hl
  rw [List.append_nil] at hbd
  refine wpAny_call (PySem.HandSPX.call_own F.excBase_ValueError (fun Y => PySem.HandSPX.refsVE_contains Y bm hbm) (I1.kIn _ _ hC) (PySem.W.looks_findIn I1.kIn iC) (fun self => PySem.W.bind_fn I1.kIn self tI) hus
    (codeAny_mono (F1.run _ X.stack _ _ ⟨Value.ref (hp.objs.size + 1) :: us, []⟩ (Value.ref (hp.objs.size + 1) :: us) _ _ (fun _ _ _ => False) (hr.make C us []) (I2.env0.make C us []) hbd r2 hq) fun r s' hq' => ?_))
  cases r with
  | error er => exact hq'.elim
  | ok fl =>
    cases fl with
    | ret u =>
      obtain ⟨v', H2, I3, rv, ev, q2⟩ := I2.after hq'
      subst ev
      exact ⟨rv, .ref _, H2, I3, rfl, q2⟩
    | next => exact False.elim hq'
    | brk => exact False.elim hq'
    | cont => exact False.elim hq'
/-- C(), a class without own __init__ -/
theorem pe_mk0 {mgx : Str} (T : Ec0 X.K X.mg x C) (hg : Gl X x) (hdb : (x == ("__debug__" : Str)) = false := by decide) : PE X (.Call (.Name x p) [] [] pos) (tMk0 C) := by
  refine ⟨fun pins s σ H Q I h => ?_⟩
  refine wpAny_Call_Name_kw (ld_glob I hg T.g (PySem.W.callWith_K0 I.kIn T.k ?_) hdb)
  obtain ⟨bm, N, nm, qn, bs, hdct, sn, sub, ab, col, dd, k0, k1, k2, k3, k5, mN, hC, hN, hni, TT⟩ := exc_obj I.kIn T.x
  refine wpAny_call_exc_subT PySem.F.excBase_ValueError TT hC hN hni (fun h' a hm => ?_) (Nat.zero_le _)
  have hn : H a = none := I.hok.gone hm.new
  obtain ⟨t, ht, _, _⟩ := hm.there
  exact ⟨.ref a, upd H a (ExO (.ref C) a), I.laidN hm.keeps hm.new hn (exO_ok ht ⟨rfl, rfl⟩ rfl rfl rfl (show 4 < 6 by decide)), rfl, h a hn⟩
/-- e.n, e such an error -/
def tXfE (K : Frag) (n : Str) (te : TE) : TE := fun σ H Q => te σ H fun x H1 => ∃ (a C d : Addr) (fs : List (Str × V)) (v : V), x = .ref a ∧ H1 a = some (exo a C (some d)) ∧ H1 d = some (exd d fs) ∧ XfC K C ∧ findIn K (.ref C) n = some none ∧ fs.lookup n = some v ∧ Q v H1
theorem pe_xfE {n : Str} (he : PE X e te) (hb : attributeBase e n X.env (eval e X.env) = eval e X.env := by rfl) : PE X (.Attribute e n pos) (tXfE X.K n te) := by
  refine ⟨fun pins s σ H Q I h => attr_of hb (thn (he.run pins s σ H _ I h) fun u s1 ⟨x, H1, I1, rx, a, C, d, fs, v, ex, h1, h2, T, hno, l, q⟩ => ?_)⟩
  subst ex
  obtain rfl : u = Value.ref a := rx
  obtain ⟨t1, ho⟩ := exo_at I1.hok h1
  obtain ⟨mA, hns, hr⟩ := exd_at I1.hok h2
  obtain ⟨od, hod, hl⟩ := lookIn_ns hns
  obtain ⟨u, hu, ru⟩ := RelO.some_of (v := v) (o := mA n) (by rw [← l]; exact hr n)
  exact HandSPX.exc_get (x := a) (od := some od) I1.kIn ⟨ho, rfl, rfl, hod⟩ T.ga T.gg T.exC (PySem.W.findObj_own T.hdC hno rfl (by rw [hl, hu])) (handed_of ru) ⟨v, H1, I1.tok _, ru, q⟩
end
/-! ### readings -/
section
variable {K : Frag} {cl : Str → Addr} {C : Addr} {f : Str} {te : TE}
theorem mkE_same {H : Hp} {a d : Addr} {y : V} (ha : H a = none) (hd : H d = none) (hda : d ≠ a) : Same H (upd (upd (upd H a (exo a C none)) d (exd d [(f, y)])) a (exo a C (some d))) := fun b o e => by
  have n1 : b ≠ a := fun z => by rw [z, ha] at e; cases e
  have n2 : b ≠ d := fun z => by rw [z, hd] at e; cases e
  rw [upd_ne n1, upd_ne n2, upd_ne n1]
  exact e
/-- C(e).f -/
theorem xs_newFld {φ : Rho → Option PyData} (h : EvS K te φ) (x : XfC K C) (no : findIn K (.ref C) f = some none) : EvS K (tXfE K f (tMkE C f te)) φ := fun S H0 G T ow ρ σ H e sm he Q q =>
  h S H0 G T ow ρ σ H e sm he _ fun v H1 s1 hv a d ha hd hda => ⟨a, C, d, [(f, v)], v, rfl, upd_same, by rw [upd_ne hda, upd_same], x, no, by simp [List.lookup],
    q v _ (s1.trans (mkE_same ha hd hda)) (hv.mono (hs_mono (mkE_same ha hd hda)))⟩
/-- an error of the class x -/
def Er (K : Frag) (cl : Str → Addr) (H : Hp) (v : V) (x : Str) : Prop := ∃ a fs, v = .ref a ∧ ErrIn H a (cl x) fs
theorem Er.same {H H' : Hp} {v : V} {x : Str} (h : Er K cl H v x) (s : Same H H') : Er K cl H' v x := by
  obtain ⟨a, fs, h1, h2⟩ := h
  exact ⟨a, fs, h1, h2.same s⟩
inductive Ers (K : Frag) (cl : Str → Addr) (H : Hp) : List V → List Str → Prop
  | nil : Ers K cl H [] []
  | cons {v : V} {vs : List V} {x : Str} {xs : List Str} : Er K cl H v x → Ers K cl H vs xs → Ers K cl H (v :: vs) (x :: xs)
theorem Ers.same {H H' : Hp} (s : Same H H') : ∀ {vs : List V} {xs : List Str}, Ers K cl H vs xs → Ers K cl H' vs xs
  | _, _, .nil => .nil
  | _, _, .cons h k => .cons (h.same s) (Ers.same s k)
theorem Ers.len {H : Hp} : ∀ {vs : List V} {xs : List Str}, Ers K cl H vs xs → vs.length = xs.length
  | _, _, .nil => rfl
  | _, _, .cons h k => by rw [List.length_cons, List.length_cons, Ers.len k]
theorem Ers.app {H : Hp} : ∀ {vs : List V} {xs : List Str} {us : List V} {ys : List Str}, Ers K cl H vs xs → Ers K cl H us ys → Ers K cl H (vs ++ us) (xs ++ ys)
  | _, _, _, _, .nil, k => k
  | _, _, _, _, .cons h r, k => .cons h (Ers.app r k)
theorem Ers.get {H : Hp} {vs : List V} {xs : List Str} (h : Ers K cl H vs xs) : ∀ {i : Nat} {v : V}, vs[i]? = some v → ∃ x, xs[i]? = some x ∧ Er K cl H v x := by
  induction h with
  | nil =>
    intro i v e
    cases e
  | cons h r ih =>
    intro i v e
    cases i with
    | zero =>
      cases e
      exact ⟨_, rfl, h⟩
    | succ i =>
      simp only [List.getElem?_cons_succ] at e ⊢
      exact ih e
/-- one made error, some made errors; the argument stands in slot 0 -/
def EvE (K : Frag) (cl : Str → Addr) (te : TE) (x : Str) : Prop := ∀ (σ : L2.St) (H : Hp) (v : V), σ[0]? = some (some v) → ∀ Q : VK, (∀ u H', Same H H' → (∀ T, Tr T H → Er K cl (hs T H') u x) → Q u H') → te σ H Q
def EvEs (K : Frag) (cl : Str → Addr) (ta : TA) (xs : List Str) : Prop := ∀ (σ : L2.St) (H : Hp) (v : V), σ[0]? = some (some v) → ∀ Q : List V → Hp → Prop, (∀ us H', Same H H' → us.length = xs.length → (∀ T, Tr T H → Ers K cl (hs T H') us xs) → Q us H') → ta σ H Q
theorem ee_mk {x : Str} : EvE K cl (tMkE (cl x) f (tVar 0)) x := fun σ H v h0 Q q => ⟨v, h0, fun a d ha hd hda => q _ _ (mkE_same ha hd hda) fun T tr => ⟨a, _, rfl, .inl ⟨d, hs_at (tr.out ha) upd_same, hs_at (tr.out hd) (by rw [upd_ne hda, upd_same])⟩⟩⟩
theorem ee_mk0 {x : Str} : EvE K cl (tMk0 (cl x)) x := fun σ H v h0 Q q a ha => q _ _ (same_upd ha) fun T tr => ⟨a, [], rfl, .inr ⟨hs_at (tr.out ha) upd_same, rfl⟩⟩
theorem es_nil : EvEs K cl tNil [] := fun σ H v h0 Q q => q [] H (Same.refl _) rfl fun _ _ => .nil
theorem es_cons {ta : TA} {x : Str} {xs : List Str} (h : EvE K cl te x) (k : EvEs K cl ta xs) : EvEs K cl (tCons te ta) (x :: xs) := fun σ H v h0 Q q =>
  h σ H v h0 _ fun u H1 s1 hu => k σ H1 v h0 _ fun us H2 s2 hl hus => q _ H2 (s1.trans s2) (by rw [List.length_cons, List.length_cons, hl]) fun T tr => .cons ((hu T tr).same (hs_mono s2)) (hus T (tr.same s1))
/-- a list of errors made since B -/
def LsE (K : Frag) (cl : Str → Addr) (B H : Hp) (p : Addr) (xs : List Str) : Prop := ∃ us, H p = some (.lst us) ∧ us.length = xs.length ∧ B p = none ∧ ∀ T, Tr T B → Ers K cl (hs T H) us xs
theorem LsE.same {B H H' : Hp} {p : Addr} {xs : List Str} (h : LsE K cl B H p xs) (s : Same H H') : LsE K cl B H' p xs := by
  obtain ⟨us, h1, h2, h3, h4⟩ := h
  exact ⟨us, s _ _ h1, h2, h3, fun T tr => (h4 T tr).same (hs_mono s)⟩
/-- a list of them: new, or one that stands in slot 1 and a new one -/
def EvEL (K : Frag) (cl : Str → Addr) (te : TE) (pre : Option (List Str)) (xs : List Str) : Prop := ∀ (B : Hp) (σ : L2.St) (H : Hp) (v : V), Same B H → σ[0]? = some (some v) → (∀ ys, pre = some ys → ∃ p, σ[1]? = some (some (.ref p)) ∧ LsE K cl B H p ys) →
  ∀ Q : VK, (∀ p H', Same H H' → LsE K cl B H' p xs → Q (.ref p) H') → te σ H Q
theorem el_new {ta : TA} {xs : List Str} (h : EvEs K cl ta xs) (hl : xs.length ≤ 1000) {pre : Option (List Str)} : EvEL K cl (tLst ta) pre xs := fun B σ H v sB h0 _ Q q =>
  h σ H v h0 _ fun us H1 s1 hn hu => ⟨Evl.sz_of (by rw [hn]; exact Nat.le_trans hl (by decide)), fun p hp => q p _ (s1.trans (same_upd hp)) ⟨us, upd_same, hn, (sB.trans s1).free hp, fun T tr => (hu T (tr.same sB)).same (hs_mono (same_upd hp))⟩⟩
theorem el_cat {ta : TA} {ys xs : List Str} (h : EvEs K cl ta xs) (hl : ys.length + xs.length ≤ 1000) : EvEL K cl (tOp rCat (tVar 1) (tLst ta)) (some ys) (ys ++ xs) := fun B σ H v sB h0 hp Q q => by
  obtain ⟨p, e1, us, e2, e3, e4, e5⟩ := hp ys rfl
  refine ⟨_, e1, h σ H v h0 _ fun ws H1 s1 hn hw => ⟨Evl.sz_of (by rw [hn]; omega), fun b hb => ?_⟩⟩
  refine ⟨p, b, us, ws, rfl, rfl, ?_, upd_same, Evl.sz_of (by rw [hn, e3]; omega), fun r hr => ?_⟩
  · rw [upd_ne (ne_of_none (s1 _ _ e2) hb)]
    exact s1 _ _ e2
  · exact q r _ ((s1.trans (same_upd hb)).trans (same_upd hr)) ⟨us ++ ws, upd_same, by rw [List.length_append, List.length_append, hn, e3], (sB.trans (s1.trans (same_upd hb))).free hr, fun T tr =>
      ((e5 T tr).same (hs_mono ((s1.trans (same_upd hb)).trans (same_upd hr)))).app ((hw T (tr.same sB)).same (hs_mono ((same_upd hb).trans (same_upd hr))))⟩
end
/-! ### what kind of error -/
/-- a reading that tells what kind the error in slot i is -/
def EvB (K : Frag) (cl : Str → Addr) (i : Nat) (x : Str) (te : TE) (b : Bool) : Prop := ∀ (σ : L2.St) (H : Hp) (v : V), σ[i]? = some (some v) → Er K cl H v x → ∀ Q : VK, Q (.bl b) H → te σ H Q
def EvBs (K : Frag) (cl : Str → Addr) (i : Nat) (x : Str) (ta : TA) (bs : List Bool) : Prop := ∀ (σ : L2.St) (H : Hp) (v : V), σ[i]? = some (some v) → Er K cl H v x → ∀ Q : List V → Hp → Prop, Q (bs.map V.bl) H → ta σ H Q
section
variable {K : Frag} {cl : Str → Addr} {i : Nat} {x : Str}
theorem eb_isi {cv : V} {uv : Value} {b : Bool} (kc : ClsV cv uv) (xc : ExcC K (cl x)) (k : PySem.W.kitOne K (.ref (cl x)) uv = some b) : EvB K cl i x (tCB (rIsX K) (tCons (tVar i) (tCons (tC cv) tNil))) b := fun σ H v h0 he Q q => by
  obtain ⟨a, fs, rfl, h1⟩ := he
  exact ⟨_, h0, a, cl x, fs, cv, uv, b, rfl, kc, h1, xc, k, q⟩
theorem ebs_nil : EvBs K cl i x tNil [] := fun σ H v h0 he Q q => q
theorem ebs_cons {te : TE} {ta : TA} {b : Bool} {bs : List Bool} (h : EvB K cl i x te b) (k : EvBs K cl i x ta bs) : EvBs K cl i x (tCons te ta) (b :: bs) := fun σ H v h0 he Q q => h σ H v h0 he _ (k σ H v h0 he _ q)
/-- a list of such: new, or one that stands in slot j and a new one -/
def EvBL (K : Frag) (cl : Str → Addr) (i j : Nat) (x : Str) (te : TE) (pre : Option (List Bool)) (bs : List Bool) : Prop := ∀ (σ : L2.St) (H : Hp) (v : V), σ[i]? = some (some v) → Er K cl H v x → (∀ ys, pre = some ys → ∃ p, σ[j]? = some (some (.ref p)) ∧ H p = some (.lst (ys.map V.bl))) →
  ∀ Q : VK, (∀ p H', Same H H' → H p = none → H' p = some (.lst (bs.map V.bl)) → Q (.ref p) H') → te σ H Q
theorem bl_new {j : Nat} {ta : TA} {bs : List Bool} (h : EvBs K cl i x ta bs) (hl : bs.length ≤ 1000) {pre : Option (List Bool)} : EvBL K cl i j x (tLst ta) pre bs := fun σ H v h0 he _ Q q =>
  h σ H v h0 he _ ⟨Evl.sz_of (by rw [List.length_map]; omega), fun p hp => q p _ (same_upd hp) hp upd_same⟩
theorem bl_cat {j : Nat} {ta : TA} {ys bs : List Bool} (h : EvBs K cl i x ta bs) (hl : ys.length + bs.length ≤ 1000) : EvBL K cl i j x (tOp rCat (tVar j) (tLst ta)) (some ys) (ys ++ bs) := fun σ H v h0 he hp Q q => by
  obtain ⟨p, e1, e2⟩ := hp ys rfl
  refine ⟨_, e1, h σ H v h0 he _ ⟨Evl.sz_of (by rw [List.length_map]; omega), fun b hb => ?_⟩⟩
  refine ⟨p, b, ys.map V.bl, bs.map V.bl, rfl, rfl, ?_, upd_same, Evl.sz_of (by rw [List.length_map, List.length_map]; omega), fun r hr => ?_⟩
  · rw [upd_ne (ne_of_none e2 hb)]
    exact e2
  · refine q r _ ((same_upd hb).trans (same_upd hr)) ((same_upd hb).free hr) ?_
    rw [List.map_append]
    exact upd_same
end
end Oe

set_option Elab.async false
set_option linter.all false
set_option maxRecDepth 100000
namespace Oe
open PySem PySem.Spec PyProof.Rows L2 Pb
open PySem.W (Frag kitOne)
/-! ### which class is which, told at once -/
def pairsB (K : Frag) (o : Addr) (l : List Addr) : Bool := (l.all (fun a => l.all fun b => kitOne K (.ref a) (.ref b) == some (a == b)) && l.all fun a => kitOne K (.ref a) (.ref o) == some true) && decide l.Nodup
theorem inj_nodup {α β : Type} {f : α → β} : ∀ {l : List α}, (l.map f).Nodup → ∀ x ∈ l, ∀ y ∈ l, f x = f y → x = y
  | [], _, _, h, _, _, _ => absurd h List.not_mem_nil
  | a :: l, h, x, hx, y, hy, e => by
    rw [List.map_cons, List.nodup_cons] at h
    rcases List.mem_cons.mp hx with q1 | q1 <;> rcases List.mem_cons.mp hy with q2 | q2
    · rw [q1, q2]
    · have q : f y ∈ l.map f := List.mem_map_of_mem q2
      rw [← e, q1] at q
      exact absurd q h.1
    · have q : f x ∈ l.map f := List.mem_map_of_mem q1
      rw [e, q2] at q
      exact absurd q h.1
    · exact inj_nodup h.2 x q1 y q2 e
section
variable {K : Frag} {o : Addr} {cl : Str → Addr} {xs : List Str}
theorem kt_of (h : pairsB K o (xs.map cl) = true) : ∀ x ∈ xs, ∀ c ∈ xs, kitOne K (.ref (cl x)) (.ref (cl c)) = some (decide (x = c)) := by
  unfold pairsB at h
  rw [Bool.and_eq_true, Bool.and_eq_true] at h
  obtain ⟨⟨h1, _⟩, h3⟩ := h
  have nd := of_decide_eq_true h3
  intro x hx c hc
  have e := List.all_eq_true.mp (List.all_eq_true.mp h1 _ (List.mem_map_of_mem (f := cl) hx)) _ (List.mem_map_of_mem (f := cl) hc)
  have e' := eq_of_beq e
  rw [e']
  congr 1
  by_cases q : x = c
  · subst q
    simp
  · rw [decide_eq_false q]
    have : cl x ≠ cl c := fun z => q (inj_nodup nd x hx c hc z)
    simpa using this
theorem kb_of (h : pairsB K o (xs.map cl) = true) : ∀ x ∈ xs, kitOne K (.ref (cl x)) (.ref o) = some true := by
  unfold pairsB at h
  rw [Bool.and_eq_true, Bool.and_eq_true] at h
  obtain ⟨⟨_, h2⟩, _⟩ := h
  intro x hx
  exact eq_of_beq (List.all_eq_true.mp h2 _ (List.mem_map_of_mem (f := cl) hx))
end
end Oe

set_option Elab.async false
set_option linter.all false
set_option maxRecDepth 100000
namespace L01
open PySem PySem.Spec PyProof.Rows L2 Pb Oe
open PySem.W (Frag findIn)
def topS (i : Nat) : Stmt := PySem.Challenge.pw_payorder_k01_limits_and_exceptions.main.body.getD i (.Pass ⟨0, 0, 0, 0⟩)
def CLS : List Str := (["NoDemand", "NoOffer", "NotOrderable", "NoIndex", "NotCovered", "NoVertex", "NoPosition", "NoAmount", "TooMany", "NoMoment", "Failed", "Blocked", "BadText", "NoDemands", "NoOffers", "NoOrder", "NoChoice", "NoIntervals", "NoBalls", "NoPositions", "LastDemand", "BadTable", "BadPrices", "BadPenalties", "NothingToUndo", "NoOperations"] : List Str)
section
variable {P : Program} {w : World} {K : PySem.W.Frag} {mg : Str → Option Value} {base : Heap}
def q_fields : List PyData → Option PyData := runF 2 1
  (sSeq (sOwn 1 (lLst (aCons (eVar 0) (aCons (eVar 0) (aCons (eVar 0) (aCons (eVar 0) aNil))))))
  (sSeq (sOwn 1 (lCat (lOwn 1) (lLst (aCons (eVar 0) (aCons (eVar 0) (aCons (eVar 0) (aCons (eVar 0) aNil)))))))
  (sSeq (sOwn 1 (lCat (lOwn 1) (lLst (aCons (eVar 0) (aCons (eVar 0) (aCons (eVar 0) (aCons (eVar 0) aNil)))))))
  (sRet (eL (lCat (lOwn 1) (lLst (aCons (eVar 0) aNil))))))))
abbrev s__law_fields : Stmt := topS 41
theorem sc__law_fields : FnScope ["_law_one", "_law_some"] ["_law_one"] (defScope s__law_fields) := ⟨rfl, rfl, rfl, by decide +kernel, rfl, by decide +kernel, by decide +kernel⟩
set_option maxHeartbeats 4000000 in
theorem ok__law_fields {f : Addr} {fd : FuncData} {cl : Str → Addr} (F : Fun K "_law_fields" "_law_fields" s__law_fields f fd) (B : Bx mg) (T_NoDemand : EcI P w K mg base "NoDemand" (cl "NoDemand") "demand") (T_NoOffer : EcI P w K mg base "NoOffer" (cl "NoOffer") "offer") (T_NotOrderable : EcI P w K mg base "NotOrderable" (cl "NotOrderable") "ring") (T_NoIndex : EcI P w K mg base "NoIndex" (cl "NoIndex") "index") (T_NotCovered : EcI P w K mg base "NotCovered" (cl "NotCovered") "demand") (T_NoVertex : EcI P w K mg base "NoVertex" (cl "NoVertex") "vertex") (T_NoPosition : EcI P w K mg base "NoPosition" (cl "NoPosition") "position") (T_NoAmount : EcI P w K mg base "NoAmount" (cl "NoAmount") "amount") (T_TooMany : EcI P w K mg base "TooMany" (cl "TooMany") "limit") (T_NoMoment : EcI P w K mg base "NoMoment" (cl "NoMoment") "at") (T_Failed : EcI P w K mg base "Failed" (cl "Failed") "index") (T_Blocked : EcI P w K mg base "Blocked" (cl "Blocked") "ring") (T_BadText : EcI P w K mg base "BadText" (cl "BadText") "line")  :
    FnOk P w K mg base CX0 3 f fd ["_law_one"] (spD K (RF q_fields)) := fn_pure F sc__law_fields (cl := cl) fun cdv A outer s H E hr => by
  have nd := sc__law_fields.nd
  exact ⟨_, (pss_cons (ps_set (i := 1) nd rfl (Or.inl rfl) (pe_lst (pa_cons (pe_xfE (pe_mkE T_NoDemand (hr.mono (by decide)) rfl (pv 0))) (pa_cons (pe_xfE (pe_mkE T_NoOffer (hr.mono (by decide)) rfl (pv 0))) (pa_cons (pe_xfE (pe_mkE T_NotOrderable (hr.mono (by decide)) rfl (pv 0))) (pa_cons (pe_xfE (pe_mkE T_NoIndex (hr.mono (by decide)) rfl (pv 0))) pa_nil))))))
      (pss_cons (ps_set (i := 1) nd rfl (Or.inl rfl) (pe_op op_cat (pv 1) (pe_lst (pa_cons (pe_xfE (pe_mkE T_NotCovered (hr.mono (by decide)) rfl (pv 0))) (pa_cons (pe_xfE (pe_mkE T_NoVertex (hr.mono (by decide)) rfl (pv 0))) (pa_cons (pe_xfE (pe_mkE T_NoPosition (hr.mono (by decide)) rfl (pv 0))) (pa_cons (pe_xfE (pe_mkE T_NoAmount (hr.mono (by decide)) rfl (pv 0))) pa_nil)))))))
      (pss_cons (ps_set (i := 1) nd rfl (Or.inl rfl) (pe_op op_cat (pv 1) (pe_lst (pa_cons (pe_xfE (pe_mkE T_TooMany (hr.mono (by decide)) rfl (pv 0))) (pa_cons (pe_xfE (pe_mkE T_NoMoment (hr.mono (by decide)) rfl (pv 0))) (pa_cons (pe_xfE (pe_mkE T_Failed (hr.mono (by decide)) rfl (pv 0))) (pa_cons (pe_xfE (pe_mkE T_Blocked (hr.mono (by decide)) rfl (pv 0))) pa_nil)))))))
      (pss_one (ps_ret (pe_op op_cat (pv 1) (pe_lst (pa_cons (pe_xfE (pe_mkE T_BadText (hr.mono (by decide)) rfl (pv 0))) pa_nil)))))))),
    (ss_seq (ss_own (i := 1) (xf_lst (xa_cons (xs_newFld (K := K) (C := cl "NoDemand") (f := "demand") (xs_var 0) (ExcC.xf T_NoDemand.xc) T_NoDemand.no) (xa_cons (xs_newFld (K := K) (C := cl "NoOffer") (f := "offer") (xs_var 0) (ExcC.xf T_NoOffer.xc) T_NoOffer.no) (xa_cons (xs_newFld (K := K) (C := cl "NotOrderable") (f := "ring") (xs_var 0) (ExcC.xf T_NotOrderable.xc) T_NotOrderable.no) (xa_cons (xs_newFld (K := K) (C := cl "NoIndex") (f := "index") (xs_var 0) (ExcC.xf T_NoIndex.xc) T_NoIndex.no) xa_nil))))))
      (ss_seq (ss_own (i := 1) (xf_cat (xl_own 1) (EvF.l (xf_lst (xa_cons (xs_newFld (K := K) (C := cl "NotCovered") (f := "demand") (xs_var 0) (ExcC.xf T_NotCovered.xc) T_NotCovered.no) (xa_cons (xs_newFld (K := K) (C := cl "NoVertex") (f := "vertex") (xs_var 0) (ExcC.xf T_NoVertex.xc) T_NoVertex.no) (xa_cons (xs_newFld (K := K) (C := cl "NoPosition") (f := "position") (xs_var 0) (ExcC.xf T_NoPosition.xc) T_NoPosition.no) (xa_cons (xs_newFld (K := K) (C := cl "NoAmount") (f := "amount") (xs_var 0) (ExcC.xf T_NoAmount.xc) T_NoAmount.no) xa_nil))))))))
      (ss_seq (ss_own (i := 1) (xf_cat (xl_own 1) (EvF.l (xf_lst (xa_cons (xs_newFld (K := K) (C := cl "TooMany") (f := "limit") (xs_var 0) (ExcC.xf T_TooMany.xc) T_TooMany.no) (xa_cons (xs_newFld (K := K) (C := cl "NoMoment") (f := "at") (xs_var 0) (ExcC.xf T_NoMoment.xc) T_NoMoment.no) (xa_cons (xs_newFld (K := K) (C := cl "Failed") (f := "index") (xs_var 0) (ExcC.xf T_Failed.xc) T_Failed.no) (xa_cons (xs_newFld (K := K) (C := cl "Blocked") (f := "ring") (xs_var 0) (ExcC.xf T_Blocked.xc) T_Blocked.no) xa_nil))))))))
      (ss_ret (EvF.s (xf_cat (xl_own 1) (EvF.l (xf_lst (xa_cons (xs_newFld (K := K) (C := cl "BadText") (f := "line") (xs_var 0) (ExcC.xf T_BadText.xc) T_BadText.no) xa_nil)))))))))⟩
/-- its argument any value: an error of each class -/
def spAll (K : PySem.W.Frag) (cl : Str → Addr) : Sp := fun vs H Q _ => ∃ v, vs = [v] ∧ ∀ p H', Same H H' → LsE K cl H H' p CLS → Q (.ref p) H'
abbrev s__law_all : Stmt := topS 40
theorem sc__law_all : FnScope ["_law_one", "_law_some"] ["_law_one"] (defScope s__law_all) := ⟨rfl, rfl, rfl, by decide +kernel, rfl, by decide +kernel, by decide +kernel⟩
theorem step_all {B : Hp} {te : TE} {pre : Option (List Str)} {xs : List Str} {cl : Str → Addr} {u : TS} {D : Ends} {σ : L2.St} {H : Hp} {v : V} (h : EvEL K cl te pre xs) (sB : Same B H) (hl : σ.length = 2) (h0 : σ[0]? = some (some v)) (hp : ∀ ys, pre = some ys → ∃ p, σ[1]? = some (some (.ref p)) ∧ LsE K cl B H p ys)
    (k : ∀ (σ' : L2.St) (H' : Hp), σ'.length = 2 → Same B H' → σ'[0]? = some (some v) → (∀ ys, some xs = some ys → ∃ p, σ'[1]? = some (some (.ref p)) ∧ LsE K cl B H' p ys) → u D σ' H') : tSeq (tAsg te (gName 1)) u D σ H :=
  h B σ H v sB h0 hp _ fun p H' s1 e1 => k _ H' (by rw [List.length_set]; exact hl) (sB.trans s1) (by rw [List.getElem?_set_ne (by decide)]; exact h0) fun ys ey => by
    cases ey
    exact ⟨p, by rw [List.getElem?_set_self (by omega)], e1⟩
set_option maxHeartbeats 4000000 in
theorem ok__law_all {f : Addr} {fd : FuncData} {cl : Str → Addr} (F : Fun K "_law_all" "_law_all" s__law_all f fd) (B : Bx mg) (T_NoDemand : EcI P w K mg base "NoDemand" (cl "NoDemand") "demand") (T_NoOffer : EcI P w K mg base "NoOffer" (cl "NoOffer") "offer") (T_NotOrderable : EcI P w K mg base "NotOrderable" (cl "NotOrderable") "ring") (T_NoIndex : EcI P w K mg base "NoIndex" (cl "NoIndex") "index") (T_NotCovered : EcI P w K mg base "NotCovered" (cl "NotCovered") "demand") (T_NoVertex : EcI P w K mg base "NoVertex" (cl "NoVertex") "vertex") (T_NoPosition : EcI P w K mg base "NoPosition" (cl "NoPosition") "position") (T_NoAmount : EcI P w K mg base "NoAmount" (cl "NoAmount") "amount") (T_TooMany : EcI P w K mg base "TooMany" (cl "TooMany") "limit") (T_NoMoment : EcI P w K mg base "NoMoment" (cl "NoMoment") "at") (T_Failed : EcI P w K mg base "Failed" (cl "Failed") "index") (T_Blocked : EcI P w K mg base "Blocked" (cl "Blocked") "ring") (T_BadText : EcI P w K mg base "BadText" (cl "BadText") "line") (T_NoDemands : Ec0 K mg "NoDemands" (cl "NoDemands")) (T_NoOffers : Ec0 K mg "NoOffers" (cl "NoOffers")) (T_NoOrder : Ec0 K mg "NoOrder" (cl "NoOrder")) (T_NoChoice : Ec0 K mg "NoChoice" (cl "NoChoice")) (T_NoIntervals : Ec0 K mg "NoIntervals" (cl "NoIntervals")) (T_NoBalls : Ec0 K mg "NoBalls" (cl "NoBalls")) (T_NoPositions : Ec0 K mg "NoPositions" (cl "NoPositions")) (T_LastDemand : Ec0 K mg "LastDemand" (cl "LastDemand")) (T_BadTable : Ec0 K mg "BadTable" (cl "BadTable")) (T_BadPrices : Ec0 K mg "BadPrices" (cl "BadPrices")) (T_BadPenalties : Ec0 K mg "BadPenalties" (cl "BadPenalties")) (T_NothingToUndo : Ec0 K mg "NothingToUndo" (cl "NothingToUndo")) (T_NoOperations : Ec0 K mg "NoOperations" (cl "NoOperations")) :
    FnOk P w K mg base CX0 3 f fd ["_law_one"] (spAll K cl) := by
  refine F.ok sc__law_all (fun vs H Q E ⟨v, h, _⟩ => by rw [h]; rfl) (fun cdv A outer s H vs Q E hr ⟨v, h, q⟩ => ?_)
  have nd := sc__law_all.nd
  subst h
  refine ⟨_, (pss_cons (ps_set (i := 1) nd rfl (Or.inl rfl) (pe_lst (pa_cons (pe_mkE T_NoDemand (hr.mono (by decide)) rfl (pv 0)) (pa_cons (pe_mkE T_NoOffer (hr.mono (by decide)) rfl (pv 0)) (pa_cons (pe_mkE T_NotOrderable (hr.mono (by decide)) rfl (pv 0)) (pa_cons (pe_mkE T_NoIndex (hr.mono (by decide)) rfl (pv 0)) (pa_cons (pe_mkE T_NotCovered (hr.mono (by decide)) rfl (pv 0)) (pa_cons (pe_mkE T_NoVertex (hr.mono (by decide)) rfl (pv 0)) pa_nil))))))))
      (pss_cons (ps_set (i := 1) nd rfl (Or.inl rfl) (pe_op op_cat (pv 1) (pe_lst (pa_cons (pe_mkE T_NoPosition (hr.mono (by decide)) rfl (pv 0)) (pa_cons (pe_mkE T_NoAmount (hr.mono (by decide)) rfl (pv 0)) (pa_cons (pe_mkE T_TooMany (hr.mono (by decide)) rfl (pv 0)) (pa_cons (pe_mkE T_NoMoment (hr.mono (by decide)) rfl (pv 0)) (pa_cons (pe_mkE T_Failed (hr.mono (by decide)) rfl (pv 0)) (pa_cons (pe_mkE T_Blocked (hr.mono (by decide)) rfl (pv 0)) pa_nil)))))))))
      (pss_cons (ps_set (i := 1) nd rfl (Or.inl rfl) (pe_op op_cat (pv 1) (pe_lst (pa_cons (pe_mkE T_BadText (hr.mono (by decide)) rfl (pv 0)) (pa_cons (pe_mk0 (mgx := "") T_NoDemands rfl) (pa_cons (pe_mk0 (mgx := "") T_NoOffers rfl) (pa_cons (pe_mk0 (mgx := "") T_NoOrder rfl) (pa_cons (pe_mk0 (mgx := "") T_NoChoice rfl) (pa_cons (pe_mk0 (mgx := "") T_NoIntervals rfl) (pa_cons (pe_mk0 (mgx := "") T_NoBalls rfl) pa_nil))))))))))
      (pss_cons (ps_set (i := 1) nd rfl (Or.inl rfl) (pe_op op_cat (pv 1) (pe_lst (pa_cons (pe_mk0 (mgx := "") T_NoPositions rfl) (pa_cons (pe_mk0 (mgx := "") T_LastDemand rfl) (pa_cons (pe_mk0 (mgx := "") T_BadTable rfl) (pa_cons (pe_mk0 (mgx := "") T_BadPrices rfl) (pa_cons (pe_mk0 (mgx := "") T_BadPenalties rfl) (pa_cons (pe_mk0 (mgx := "") T_NothingToUndo rfl) pa_nil)))))))))
      (pss_one (ps_ret (pe_op op_cat (pv 1) (pe_lst (pa_cons (pe_mk0 (mgx := "") T_NoOperations rfl) pa_nil))))))))), ?_⟩
  refine step_all (K := K) (cl := cl) (B := H) (pre := none) (el_new (es_cons (ee_mk (K := K) (cl := cl) (f := "demand") (x := "NoDemand")) (es_cons (ee_mk (K := K) (cl := cl) (f := "offer") (x := "NoOffer")) (es_cons (ee_mk (K := K) (cl := cl) (f := "ring") (x := "NotOrderable")) (es_cons (ee_mk (K := K) (cl := cl) (f := "index") (x := "NoIndex")) (es_cons (ee_mk (K := K) (cl := cl) (f := "demand") (x := "NotCovered")) (es_cons (ee_mk (K := K) (cl := cl) (f := "vertex") (x := "NoVertex")) es_nil)))))) (by decide)) (Same.refl _) rfl rfl (fun _ z => by cases z) fun σ0 H0 l0 s0 a0 p0 => ?_
  refine step_all (K := K) (cl := cl) (B := H) (pre := (some (["NoDemand", "NoOffer", "NotOrderable", "NoIndex", "NotCovered", "NoVertex"] : List Str))) (el_cat (ys := (["NoDemand", "NoOffer", "NotOrderable", "NoIndex", "NotCovered", "NoVertex"] : List Str)) (es_cons (ee_mk (K := K) (cl := cl) (f := "position") (x := "NoPosition")) (es_cons (ee_mk (K := K) (cl := cl) (f := "amount") (x := "NoAmount")) (es_cons (ee_mk (K := K) (cl := cl) (f := "limit") (x := "TooMany")) (es_cons (ee_mk (K := K) (cl := cl) (f := "at") (x := "NoMoment")) (es_cons (ee_mk (K := K) (cl := cl) (f := "index") (x := "Failed")) (es_cons (ee_mk (K := K) (cl := cl) (f := "ring") (x := "Blocked")) es_nil)))))) (by decide)) s0 l0 a0 p0 fun σ1 H1 l1 s1 a1 p1 => ?_
  refine step_all (K := K) (cl := cl) (B := H) (pre := (some (["NoDemand", "NoOffer", "NotOrderable", "NoIndex", "NotCovered", "NoVertex", "NoPosition", "NoAmount", "TooMany", "NoMoment", "Failed", "Blocked"] : List Str))) (el_cat (ys := (["NoDemand", "NoOffer", "NotOrderable", "NoIndex", "NotCovered", "NoVertex", "NoPosition", "NoAmount", "TooMany", "NoMoment", "Failed", "Blocked"] : List Str)) (es_cons (ee_mk (K := K) (cl := cl) (f := "line") (x := "BadText")) (es_cons (ee_mk0 (K := K) (cl := cl) (x := "NoDemands")) (es_cons (ee_mk0 (K := K) (cl := cl) (x := "NoOffers")) (es_cons (ee_mk0 (K := K) (cl := cl) (x := "NoOrder")) (es_cons (ee_mk0 (K := K) (cl := cl) (x := "NoChoice")) (es_cons (ee_mk0 (K := K) (cl := cl) (x := "NoIntervals")) (es_cons (ee_mk0 (K := K) (cl := cl) (x := "NoBalls")) es_nil))))))) (by decide)) s1 l1 a1 p1 fun σ2 H2 l2 s2 a2 p2 => ?_
  refine step_all (K := K) (cl := cl) (B := H) (pre := (some (["NoDemand", "NoOffer", "NotOrderable", "NoIndex", "NotCovered", "NoVertex", "NoPosition", "NoAmount", "TooMany", "NoMoment", "Failed", "Blocked", "BadText", "NoDemands", "NoOffers", "NoOrder", "NoChoice", "NoIntervals", "NoBalls"] : List Str))) (el_cat (ys := (["NoDemand", "NoOffer", "NotOrderable", "NoIndex", "NotCovered", "NoVertex", "NoPosition", "NoAmount", "TooMany", "NoMoment", "Failed", "Blocked", "BadText", "NoDemands", "NoOffers", "NoOrder", "NoChoice", "NoIntervals", "NoBalls"] : List Str)) (es_cons (ee_mk0 (K := K) (cl := cl) (x := "NoPositions")) (es_cons (ee_mk0 (K := K) (cl := cl) (x := "LastDemand")) (es_cons (ee_mk0 (K := K) (cl := cl) (x := "BadTable")) (es_cons (ee_mk0 (K := K) (cl := cl) (x := "BadPrices")) (es_cons (ee_mk0 (K := K) (cl := cl) (x := "BadPenalties")) (es_cons (ee_mk0 (K := K) (cl := cl) (x := "NothingToUndo")) es_nil)))))) (by decide)) s2 l2 a2 p2 fun σ3 H3 l3 s3 a3 p3 => ?_
  exact el_cat (K := K) (cl := cl) (ys := (["NoDemand", "NoOffer", "NotOrderable", "NoIndex", "NotCovered", "NoVertex", "NoPosition", "NoAmount", "TooMany", "NoMoment", "Failed", "Blocked", "BadText", "NoDemands", "NoOffers", "NoOrder", "NoChoice", "NoIntervals", "NoBalls", "NoPositions", "LastDemand", "BadTable", "BadPrices", "BadPenalties", "NothingToUndo"] : List Str)) (es_cons (ee_mk0 (K := K) (cl := cl) (x := "NoOperations")) es_nil) (by decide) H σ3 H3 v s3 a3 p3 _ fun p H' sz e1 => q p H' (s3.trans sz) e1
def flags (x : Str) : List Bool := CLS.map fun c => decide (x = c)
def spFl (K : PySem.W.Frag) (cl : Str → Addr) : Sp := fun vs H Q _ => ∃ v x, vs = [v] ∧ x ∈ CLS ∧ Er K cl H v x ∧ ∀ p H', Same H H' → H p = none → H' p = some (.lst ((flags x).map V.bl)) → Q (.ref p) H'
abbrev s__law_flags : Stmt := topS 39
theorem sc__law_flags : FnScope ["_law_error", "_law_found"] ["_law_error"] (defScope s__law_flags) := ⟨rfl, rfl, rfl, by decide +kernel, rfl, by decide +kernel, by decide +kernel⟩
theorem step_fl {te : TE} {pre : Option (List Bool)} {bs : List Bool} {cl : Str → Addr} {u : TS} {D : Ends} {σ : L2.St} {H : Hp} {v : V} {x : Str} (h : EvBL K cl 0 1 x te pre bs) (hl : σ.length = 2) (h0 : σ[0]? = some (some v)) (he : Er K cl H v x) (hp : ∀ ys, pre = some ys → ∃ p, σ[1]? = some (some (.ref p)) ∧ H p = some (.lst (ys.map V.bl)))
    (k : ∀ (σ' : L2.St) (H' : Hp), σ'.length = 2 → Same H H' → σ'[0]? = some (some v) → Er K cl H' v x → (∀ ys, some bs = some ys → ∃ p, σ'[1]? = some (some (.ref p)) ∧ H' p = some (.lst (ys.map V.bl))) → u D σ' H') : tSeq (tAsg te (gName 1)) u D σ H :=
  h σ H v h0 he hp _ fun p H' s1 _ e1 => k _ H' (by rw [List.length_set]; exact hl) s1 (by rw [List.getElem?_set_ne (by decide)]; exact h0) (he.same s1) fun ys ey => by
    cases ey
    exact ⟨p, by rw [List.getElem?_set_self (by omega)], e1⟩
set_option maxHeartbeats 4000000 in
theorem ok__law_flags {f : Addr} {fd : FuncData} {cl : Str → Addr} (F : Fun K "_law_flags" "_law_flags" s__law_flags f fd) (B : Bx mg) (xc : ∀ x ∈ (["NoDemand", "NoOffer", "NotOrderable", "NoIndex", "NotCovered", "NoVertex", "NoPosition", "NoAmount", "TooMany", "NoMoment", "Failed", "Blocked", "BadText", "NoDemands", "NoOffers", "NoOrder", "NoChoice", "NoIntervals", "NoBalls", "NoPositions", "LastDemand", "BadTable", "BadPrices", "BadPenalties", "NothingToUndo", "NoOperations"] : List Str), ExcC K (cl x)) (kt : ∀ x ∈ (["NoDemand", "NoOffer", "NotOrderable", "NoIndex", "NotCovered", "NoVertex", "NoPosition", "NoAmount", "TooMany", "NoMoment", "Failed", "Blocked", "BadText", "NoDemands", "NoOffers", "NoOrder", "NoChoice", "NoIntervals", "NoBalls", "NoPositions", "LastDemand", "BadTable", "BadPrices", "BadPenalties", "NothingToUndo", "NoOperations"] : List Str), ∀ c ∈ (["NoDemand", "NoOffer", "NotOrderable", "NoIndex", "NotCovered", "NoVertex", "NoPosition", "NoAmount", "TooMany", "NoMoment", "Failed", "Blocked", "BadText", "NoDemands", "NoOffers", "NoOrder", "NoChoice", "NoIntervals", "NoBalls", "NoPositions", "LastDemand", "BadTable", "BadPrices", "BadPenalties", "NothingToUndo", "NoOperations"] : List Str), PySem.W.kitOne K (.ref (cl x)) (.ref (cl c)) = some (decide (x = c))) (gc_NoDemand : mg "NoDemand" = some (.ref (cl "NoDemand"))) (gc_NoOffer : mg "NoOffer" = some (.ref (cl "NoOffer"))) (gc_NotOrderable : mg "NotOrderable" = some (.ref (cl "NotOrderable"))) (gc_NoIndex : mg "NoIndex" = some (.ref (cl "NoIndex"))) (gc_NotCovered : mg "NotCovered" = some (.ref (cl "NotCovered"))) (gc_NoVertex : mg "NoVertex" = some (.ref (cl "NoVertex"))) (gc_NoPosition : mg "NoPosition" = some (.ref (cl "NoPosition"))) (gc_NoAmount : mg "NoAmount" = some (.ref (cl "NoAmount"))) (gc_TooMany : mg "TooMany" = some (.ref (cl "TooMany"))) (gc_NoMoment : mg "NoMoment" = some (.ref (cl "NoMoment"))) (gc_Failed : mg "Failed" = some (.ref (cl "Failed"))) (gc_Blocked : mg "Blocked" = some (.ref (cl "Blocked"))) (gc_BadText : mg "BadText" = some (.ref (cl "BadText"))) (gc_NoDemands : mg "NoDemands" = some (.ref (cl "NoDemands"))) (gc_NoOffers : mg "NoOffers" = some (.ref (cl "NoOffers"))) (gc_NoOrder : mg "NoOrder" = some (.ref (cl "NoOrder"))) (gc_NoChoice : mg "NoChoice" = some (.ref (cl "NoChoice"))) (gc_NoIntervals : mg "NoIntervals" = some (.ref (cl "NoIntervals"))) (gc_NoBalls : mg "NoBalls" = some (.ref (cl "NoBalls"))) (gc_NoPositions : mg "NoPositions" = some (.ref (cl "NoPositions"))) (gc_LastDemand : mg "LastDemand" = some (.ref (cl "LastDemand"))) (gc_BadTable : mg "BadTable" = some (.ref (cl "BadTable"))) (gc_BadPrices : mg "BadPrices" = some (.ref (cl "BadPrices"))) (gc_BadPenalties : mg "BadPenalties" = some (.ref (cl "BadPenalties"))) (gc_NothingToUndo : mg "NothingToUndo" = some (.ref (cl "NothingToUndo"))) (gc_NoOperations : mg "NoOperations" = some (.ref (cl "NoOperations"))) :
    FnOk P w K mg base CX0 1 f fd ["_law_error"] (spFl K cl) := by
  refine F.ok sc__law_flags (fun vs H Q E ⟨v, x, h, _⟩ => by rw [h]; rfl) (fun cdv A outer s H vs Q E hr ⟨v, x, h, hx, he, q⟩ => ?_)
  have nd := sc__law_flags.nd
  subst h
  refine ⟨_, (pss_cons (ps_set (i := 1) nd rfl (Or.inl rfl) (pe_lst (pa_cons (pe_callB (crK (K := K) rIsX rfl call_isX) rfl B.isinstance bt_isinstance (pa_cons (pv 0) (pa_cons (pe_glob (v := .ref (cl "NoDemand")) rfl gc_NoDemand rfl) pa_nil))) (pa_cons (pe_callB (crK (K := K) rIsX rfl call_isX) rfl B.isinstance bt_isinstance (pa_cons (pv 0) (pa_cons (pe_glob (v := .ref (cl "NoOffer")) rfl gc_NoOffer rfl) pa_nil))) (pa_cons (pe_callB (crK (K := K) rIsX rfl call_isX) rfl B.isinstance bt_isinstance (pa_cons (pv 0) (pa_cons (pe_glob (v := .ref (cl "NotOrderable")) rfl gc_NotOrderable rfl) pa_nil))) pa_nil)))))
      (pss_cons (ps_set (i := 1) nd rfl (Or.inl rfl) (pe_op op_cat (pv 1) (pe_lst (pa_cons (pe_callB (crK (K := K) rIsX rfl call_isX) rfl B.isinstance bt_isinstance (pa_cons (pv 0) (pa_cons (pe_glob (v := .ref (cl "NoIndex")) rfl gc_NoIndex rfl) pa_nil))) (pa_cons (pe_callB (crK (K := K) rIsX rfl call_isX) rfl B.isinstance bt_isinstance (pa_cons (pv 0) (pa_cons (pe_glob (v := .ref (cl "NotCovered")) rfl gc_NotCovered rfl) pa_nil))) (pa_cons (pe_callB (crK (K := K) rIsX rfl call_isX) rfl B.isinstance bt_isinstance (pa_cons (pv 0) (pa_cons (pe_glob (v := .ref (cl "NoVertex")) rfl gc_NoVertex rfl) pa_nil))) pa_nil))))))
      (pss_cons (ps_set (i := 1) nd rfl (Or.inl rfl) (pe_op op_cat (pv 1) (pe_lst (pa_cons (pe_callB (crK (K := K) rIsX rfl call_isX) rfl B.isinstance bt_isinstance (pa_cons (pv 0) (pa_cons (pe_glob (v := .ref (cl "NoPosition")) rfl gc_NoPosition rfl) pa_nil))) (pa_cons (pe_callB (crK (K := K) rIsX rfl call_isX) rfl B.isinstance bt_isinstance (pa_cons (pv 0) (pa_cons (pe_glob (v := .ref (cl "NoAmount")) rfl gc_NoAmount rfl) pa_nil))) (pa_cons (pe_callB (crK (K := K) rIsX rfl call_isX) rfl B.isinstance bt_isinstance (pa_cons (pv 0) (pa_cons (pe_glob (v := .ref (cl "TooMany")) rfl gc_TooMany rfl) pa_nil))) pa_nil))))))
      (pss_cons (ps_set (i := 1) nd rfl (Or.inl rfl) (pe_op op_cat (pv 1) (pe_lst (pa_cons (pe_callB (crK (K := K) rIsX rfl call_isX) rfl B.isinstance bt_isinstance (pa_cons (pv 0) (pa_cons (pe_glob (v := .ref (cl "NoMoment")) rfl gc_NoMoment rfl) pa_nil))) (pa_cons (pe_callB (crK (K := K) rIsX rfl call_isX) rfl B.isinstance bt_isinstance (pa_cons (pv 0) (pa_cons (pe_glob (v := .ref (cl "Failed")) rfl gc_Failed rfl) pa_nil))) (pa_cons (pe_callB (crK (K := K) rIsX rfl call_isX) rfl B.isinstance bt_isinstance (pa_cons (pv 0) (pa_cons (pe_glob (v := .ref (cl "Blocked")) rfl gc_Blocked rfl) pa_nil))) pa_nil))))))
      (pss_cons (ps_set (i := 1) nd rfl (Or.inl rfl) (pe_op op_cat (pv 1) (pe_lst (pa_cons (pe_callB (crK (K := K) rIsX rfl call_isX) rfl B.isinstance bt_isinstance (pa_cons (pv 0) (pa_cons (pe_glob (v := .ref (cl "BadText")) rfl gc_BadText rfl) pa_nil))) (pa_cons (pe_callB (crK (K := K) rIsX rfl call_isX) rfl B.isinstance bt_isinstance (pa_cons (pv 0) (pa_cons (pe_glob (v := .ref (cl "NoDemands")) rfl gc_NoDemands rfl) pa_nil))) (pa_cons (pe_callB (crK (K := K) rIsX rfl call_isX) rfl B.isinstance bt_isinstance (pa_cons (pv 0) (pa_cons (pe_glob (v := .ref (cl "NoOffers")) rfl gc_NoOffers rfl) pa_nil))) pa_nil))))))
      (pss_cons (ps_set (i := 1) nd rfl (Or.inl rfl) (pe_op op_cat (pv 1) (pe_lst (pa_cons (pe_callB (crK (K := K) rIsX rfl call_isX) rfl B.isinstance bt_isinstance (pa_cons (pv 0) (pa_cons (pe_glob (v := .ref (cl "NoOrder")) rfl gc_NoOrder rfl) pa_nil))) (pa_cons (pe_callB (crK (K := K) rIsX rfl call_isX) rfl B.isinstance bt_isinstance (pa_cons (pv 0) (pa_cons (pe_glob (v := .ref (cl "NoChoice")) rfl gc_NoChoice rfl) pa_nil))) (pa_cons (pe_callB (crK (K := K) rIsX rfl call_isX) rfl B.isinstance bt_isinstance (pa_cons (pv 0) (pa_cons (pe_glob (v := .ref (cl "NoIntervals")) rfl gc_NoIntervals rfl) pa_nil))) pa_nil))))))
      (pss_cons (ps_set (i := 1) nd rfl (Or.inl rfl) (pe_op op_cat (pv 1) (pe_lst (pa_cons (pe_callB (crK (K := K) rIsX rfl call_isX) rfl B.isinstance bt_isinstance (pa_cons (pv 0) (pa_cons (pe_glob (v := .ref (cl "NoBalls")) rfl gc_NoBalls rfl) pa_nil))) (pa_cons (pe_callB (crK (K := K) rIsX rfl call_isX) rfl B.isinstance bt_isinstance (pa_cons (pv 0) (pa_cons (pe_glob (v := .ref (cl "NoPositions")) rfl gc_NoPositions rfl) pa_nil))) (pa_cons (pe_callB (crK (K := K) rIsX rfl call_isX) rfl B.isinstance bt_isinstance (pa_cons (pv 0) (pa_cons (pe_glob (v := .ref (cl "LastDemand")) rfl gc_LastDemand rfl) pa_nil))) pa_nil))))))
      (pss_cons (ps_set (i := 1) nd rfl (Or.inl rfl) (pe_op op_cat (pv 1) (pe_lst (pa_cons (pe_callB (crK (K := K) rIsX rfl call_isX) rfl B.isinstance bt_isinstance (pa_cons (pv 0) (pa_cons (pe_glob (v := .ref (cl "BadTable")) rfl gc_BadTable rfl) pa_nil))) (pa_cons (pe_callB (crK (K := K) rIsX rfl call_isX) rfl B.isinstance bt_isinstance (pa_cons (pv 0) (pa_cons (pe_glob (v := .ref (cl "BadPrices")) rfl gc_BadPrices rfl) pa_nil))) (pa_cons (pe_callB (crK (K := K) rIsX rfl call_isX) rfl B.isinstance bt_isinstance (pa_cons (pv 0) (pa_cons (pe_glob (v := .ref (cl "BadPenalties")) rfl gc_BadPenalties rfl) pa_nil))) pa_nil))))))
      (pss_one (ps_ret (pe_op op_cat (pv 1) (pe_lst (pa_cons (pe_callB (crK (K := K) rIsX rfl call_isX) rfl B.isinstance bt_isinstance (pa_cons (pv 0) (pa_cons (pe_glob (v := .ref (cl "NothingToUndo")) rfl gc_NothingToUndo rfl) pa_nil))) (pa_cons (pe_callB (crK (K := K) rIsX rfl call_isX) rfl B.isinstance bt_isinstance (pa_cons (pv 0) (pa_cons (pe_glob (v := .ref (cl "NoOperations")) rfl gc_NoOperations rfl) pa_nil))) pa_nil)))))))))))))), ?_⟩
  refine step_fl (K := K) (cl := cl) (pre := none) (bl_new (ebs_cons (eb_isi (ClsV.own _) (xc x hx) (kt x hx "NoDemand" (by decide))) (ebs_cons (eb_isi (ClsV.own _) (xc x hx) (kt x hx "NoOffer" (by decide))) (ebs_cons (eb_isi (ClsV.own _) (xc x hx) (kt x hx "NotOrderable" (by decide))) ebs_nil))) (by simp)) rfl rfl he (fun _ z => by cases z) fun σ0 H0 l0 s0 a0 r0 p0 => ?_
  refine step_fl (K := K) (cl := cl) (pre := (some [decide (x = "NoDemand"), decide (x = "NoOffer"), decide (x = "NotOrderable")])) (bl_cat (ys := [decide (x = "NoDemand"), decide (x = "NoOffer"), decide (x = "NotOrderable")]) (ebs_cons (eb_isi (ClsV.own _) (xc x hx) (kt x hx "NoIndex" (by decide))) (ebs_cons (eb_isi (ClsV.own _) (xc x hx) (kt x hx "NotCovered" (by decide))) (ebs_cons (eb_isi (ClsV.own _) (xc x hx) (kt x hx "NoVertex" (by decide))) ebs_nil))) (by simp)) l0 a0 r0 p0 fun σ1 H1 l1 s1 a1 r1 p1 => ?_
  refine step_fl (K := K) (cl := cl) (pre := (some [decide (x = "NoDemand"), decide (x = "NoOffer"), decide (x = "NotOrderable"), decide (x = "NoIndex"), decide (x = "NotCovered"), decide (x = "NoVertex")])) (bl_cat (ys := [decide (x = "NoDemand"), decide (x = "NoOffer"), decide (x = "NotOrderable"), decide (x = "NoIndex"), decide (x = "NotCovered"), decide (x = "NoVertex")]) (ebs_cons (eb_isi (ClsV.own _) (xc x hx) (kt x hx "NoPosition" (by decide))) (ebs_cons (eb_isi (ClsV.own _) (xc x hx) (kt x hx "NoAmount" (by decide))) (ebs_cons (eb_isi (ClsV.own _) (xc x hx) (kt x hx "TooMany" (by decide))) ebs_nil))) (by simp)) l1 a1 r1 p1 fun σ2 H2 l2 s2 a2 r2 p2 => ?_
  refine step_fl (K := K) (cl := cl) (pre := (some [decide (x = "NoDemand"), decide (x = "NoOffer"), decide (x = "NotOrderable"), decide (x = "NoIndex"), decide (x = "NotCovered"), decide (x = "NoVertex"), decide (x = "NoPosition"), decide (x = "NoAmount"), decide (x = "TooMany")])) (bl_cat (ys := [decide (x = "NoDemand"), decide (x = "NoOffer"), decide (x = "NotOrderable"), decide (x = "NoIndex"), decide (x = "NotCovered"), decide (x = "NoVertex"), decide (x = "NoPosition"), decide (x = "NoAmount"), decide (x = "TooMany")]) (ebs_cons (eb_isi (ClsV.own _) (xc x hx) (kt x hx "NoMoment" (by decide))) (ebs_cons (eb_isi (ClsV.own _) (xc x hx) (kt x hx "Failed" (by decide))) (ebs_cons (eb_isi (ClsV.own _) (xc x hx) (kt x hx "Blocked" (by decide))) ebs_nil))) (by simp)) l2 a2 r2 p2 fun σ3 H3 l3 s3 a3 r3 p3 => ?_
  refine step_fl (K := K) (cl := cl) (pre := (some [decide (x = "NoDemand"), decide (x = "NoOffer"), decide (x = "NotOrderable"), decide (x = "NoIndex"), decide (x = "NotCovered"), decide (x = "NoVertex"), decide (x = "NoPosition"), decide (x = "NoAmount"), decide (x = "TooMany"), decide (x = "NoMoment"), decide (x = "Failed"), decide (x = "Blocked")])) (bl_cat (ys := [decide (x = "NoDemand"), decide (x = "NoOffer"), decide (x = "NotOrderable"), decide (x = "NoIndex"), decide (x = "NotCovered"), decide (x = "NoVertex"), decide (x = "NoPosition"), decide (x = "NoAmount"), decide (x = "TooMany"), decide (x = "NoMoment"), decide (x = "Failed"), decide (x = "Blocked")]) (ebs_cons (eb_isi (ClsV.own _) (xc x hx) (kt x hx "BadText" (by decide))) (ebs_cons (eb_isi (ClsV.own _) (xc x hx) (kt x hx "NoDemands" (by decide))) (ebs_cons (eb_isi (ClsV.own _) (xc x hx) (kt x hx "NoOffers" (by decide))) ebs_nil))) (by simp)) l3 a3 r3 p3 fun σ4 H4 l4 s4 a4 r4 p4 => ?_
  refine step_fl (K := K) (cl := cl) (pre := (some [decide (x = "NoDemand"), decide (x = "NoOffer"), decide (x = "NotOrderable"), decide (x = "NoIndex"), decide (x = "NotCovered"), decide (x = "NoVertex"), decide (x = "NoPosition"), decide (x = "NoAmount"), decide (x = "TooMany"), decide (x = "NoMoment"), decide (x = "Failed"), decide (x = "Blocked"), decide (x = "BadText"), decide (x = "NoDemands"), decide (x = "NoOffers")])) (bl_cat (ys := [decide (x = "NoDemand"), decide (x = "NoOffer"), decide (x = "NotOrderable"), decide (x = "NoIndex"), decide (x = "NotCovered"), decide (x = "NoVertex"), decide (x = "NoPosition"), decide (x = "NoAmount"), decide (x = "TooMany"), decide (x = "NoMoment"), decide (x = "Failed"), decide (x = "Blocked"), decide (x = "BadText"), decide (x = "NoDemands"), decide (x = "NoOffers")]) (ebs_cons (eb_isi (ClsV.own _) (xc x hx) (kt x hx "NoOrder" (by decide))) (ebs_cons (eb_isi (ClsV.own _) (xc x hx) (kt x hx "NoChoice" (by decide))) (ebs_cons (eb_isi (ClsV.own _) (xc x hx) (kt x hx "NoIntervals" (by decide))) ebs_nil))) (by simp)) l4 a4 r4 p4 fun σ5 H5 l5 s5 a5 r5 p5 => ?_
  refine step_fl (K := K) (cl := cl) (pre := (some [decide (x = "NoDemand"), decide (x = "NoOffer"), decide (x = "NotOrderable"), decide (x = "NoIndex"), decide (x = "NotCovered"), decide (x = "NoVertex"), decide (x = "NoPosition"), decide (x = "NoAmount"), decide (x = "TooMany"), decide (x = "NoMoment"), decide (x = "Failed"), decide (x = "Blocked"), decide (x = "BadText"), decide (x = "NoDemands"), decide (x = "NoOffers"), decide (x = "NoOrder"), decide (x = "NoChoice"), decide (x = "NoIntervals")])) (bl_cat (ys := [decide (x = "NoDemand"), decide (x = "NoOffer"), decide (x = "NotOrderable"), decide (x = "NoIndex"), decide (x = "NotCovered"), decide (x = "NoVertex"), decide (x = "NoPosition"), decide (x = "NoAmount"), decide (x = "TooMany"), decide (x = "NoMoment"), decide (x = "Failed"), decide (x = "Blocked"), decide (x = "BadText"), decide (x = "NoDemands"), decide (x = "NoOffers"), decide (x = "NoOrder"), decide (x = "NoChoice"), decide (x = "NoIntervals")]) (ebs_cons (eb_isi (ClsV.own _) (xc x hx) (kt x hx "NoBalls" (by decide))) (ebs_cons (eb_isi (ClsV.own _) (xc x hx) (kt x hx "NoPositions" (by decide))) (ebs_cons (eb_isi (ClsV.own _) (xc x hx) (kt x hx "LastDemand" (by decide))) ebs_nil))) (by simp)) l5 a5 r5 p5 fun σ6 H6 l6 s6 a6 r6 p6 => ?_
  refine step_fl (K := K) (cl := cl) (pre := (some [decide (x = "NoDemand"), decide (x = "NoOffer"), decide (x = "NotOrderable"), decide (x = "NoIndex"), decide (x = "NotCovered"), decide (x = "NoVertex"), decide (x = "NoPosition"), decide (x = "NoAmount"), decide (x = "TooMany"), decide (x = "NoMoment"), decide (x = "Failed"), decide (x = "Blocked"), decide (x = "BadText"), decide (x = "NoDemands"), decide (x = "NoOffers"), decide (x = "NoOrder"), decide (x = "NoChoice"), decide (x = "NoIntervals"), decide (x = "NoBalls"), decide (x = "NoPositions"), decide (x = "LastDemand")])) (bl_cat (ys := [decide (x = "NoDemand"), decide (x = "NoOffer"), decide (x = "NotOrderable"), decide (x = "NoIndex"), decide (x = "NotCovered"), decide (x = "NoVertex"), decide (x = "NoPosition"), decide (x = "NoAmount"), decide (x = "TooMany"), decide (x = "NoMoment"), decide (x = "Failed"), decide (x = "Blocked"), decide (x = "BadText"), decide (x = "NoDemands"), decide (x = "NoOffers"), decide (x = "NoOrder"), decide (x = "NoChoice"), decide (x = "NoIntervals"), decide (x = "NoBalls"), decide (x = "NoPositions"), decide (x = "LastDemand")]) (ebs_cons (eb_isi (ClsV.own _) (xc x hx) (kt x hx "BadTable" (by decide))) (ebs_cons (eb_isi (ClsV.own _) (xc x hx) (kt x hx "BadPrices" (by decide))) (ebs_cons (eb_isi (ClsV.own _) (xc x hx) (kt x hx "BadPenalties" (by decide))) ebs_nil))) (by simp)) l6 a6 r6 p6 fun σ7 H7 l7 s7 a7 r7 p7 => ?_
  exact bl_cat (K := K) (cl := cl) (ys := [decide (x = "NoDemand"), decide (x = "NoOffer"), decide (x = "NotOrderable"), decide (x = "NoIndex"), decide (x = "NotCovered"), decide (x = "NoVertex"), decide (x = "NoPosition"), decide (x = "NoAmount"), decide (x = "TooMany"), decide (x = "NoMoment"), decide (x = "Failed"), decide (x = "Blocked"), decide (x = "BadText"), decide (x = "NoDemands"), decide (x = "NoOffers"), decide (x = "NoOrder"), decide (x = "NoChoice"), decide (x = "NoIntervals"), decide (x = "NoBalls"), decide (x = "NoPositions"), decide (x = "LastDemand"), decide (x = "BadTable"), decide (x = "BadPrices"), decide (x = "BadPenalties")]) (ebs_cons (eb_isi (ClsV.own _) (xc x hx) (kt x hx "NothingToUndo" (by decide))) (ebs_cons (eb_isi (ClsV.own _) (xc x hx) (kt x hx "NoOperations" (by decide))) ebs_nil)) (by simp) σ7 H7 v a7 r7 p7 _ fun p H' sz f1 e1 => q p H' ((((((((s0.trans s1).trans s2).trans s3).trans s4).trans s5).trans s6).trans s7).trans sz) ((((((((s0.trans s1).trans s2).trans s3).trans s4).trans s5).trans s6).trans s7).free f1) e1
end
end L01

set_option Elab.async false
set_option linter.all false
set_option maxRecDepth 100000
namespace L01
open PySem PySem.Spec PyProof.Rows L2 Pb Oe
def e_errs : Rho → Option Res := fun ρ => match ρ[4]? with
  | some (Sl.val _) => if ρ.length = 8 then some (.nx ((ρ.set 5 .no).set 6 .no)) else none
  | _ => none
def sameL (i : Nat) : List Bool := (List.range 26).map fun (k : Nat) => decide ((k : Int) = (i : Int))
def sameB (i : Nat) : List PyData := (sameL i).map PyData.bool
def cmpW : Rho → Option PyData := eL (lLc [7] (iR (eInt 26)) (gN 7) bYes (eOp fEq (eVar 7) (eVar 5)))
theorem cmp_at {ρ : Rho} {i : Nat} (h5 : ρ[5]? = some (.val (.int (i : Int)))) (hl : ρ.length = 8) : cmpW ρ = some (.list (sameB i)) := by
  have key := lLc_map (vs := [7]) (it := iR (eInt 26)) (τ := gN 7) (φ := eOp fEq (eVar 7) (eVar 5)) (ρ := ρ) (es := rngD 0 26) (fun e => match e with | .int k => .bool (decide (k = (i : Int))) | _ => .none) (iR_of rfl (by decide)) (by decide) fun e he => by
    obtain ⟨k, hk, rfl⟩ : ∃ k : Nat, k < 26 ∧ e = .int (k : Int) := by
      unfold rngD at he
      obtain ⟨k, hk, rfl⟩ := List.mem_map.mp he
      exact ⟨k, by simpa using hk, by simp⟩
    refine ⟨_, rfl, ?_⟩
    match ρ, hl, h5 with
    | [a0, a1, a2, a3, a4, a5, a6, a7], _, h5 =>
      cases h5
      rfl
  unfold cmpW
  rw [show (sameB i : List PyData) = (rngD 0 26).map (fun e => match e with | .int k => .bool (decide (k = (i : Int))) | _ => .none) from by
    unfold sameB sameL rngD
    rw [List.map_map, List.map_map]
    exact List.map_congr_left fun k _ => by simp]
  exact eL_of key
theorem fl_all : ∀ i, i < 26 → (CLS[i]?).map flags = some (sameL i) := by decide +kernel
theorem ne_all : ∀ i, i < 26 → (okE (.list (sameB i)) && okE (.list (sameB i))) = true ∧ PyData.eqv (.list (sameB i)) (.list (sameB i)) = true := by decide +kernel
theorem flags_at (i : Nat) (h : i < 26) : ∃ x, CLS[i]? = some x ∧ x ∈ CLS ∧ flags x = sameL i := by
  obtain ⟨x, h1, h2⟩ := Option.map_eq_some_iff.mp (fl_all i h)
  exact ⟨x, h1, List.mem_of_getElem? h1, h2⟩
theorem simNo {K : PySem.W.Frag} {S : List Addr} {H0 : Hp} {G : Hp → Prop} {T ow : List Addr} {ρ : Rho} {σ : L2.St} {H : Hp} (h : SimO K S H0 G T ow ρ σ H) {i : Nat} : SimO K S H0 G T ow (ρ.set i .no) σ H := by
  by_cases hi : i < σ.length
  · have := h.setN (i := i) (o := σ[i])
    rwa [List.set_getElem_self] at this
  · have e : ρ.set i .no = ρ := List.set_eq_of_length_le (by rw [← h.len]; omega)
    rw [e]
    exact h
theorem da_bools {K : PySem.W.Frag} {H : Hp} : ∀ (bs : List Bool), DaAll K H (bs.map V.bl) (bs.map PyData.bool)
  | [] => .nil
  | b :: bs => .cons (.bl b) (da_bools bs)
section
variable {K : PySem.W.Frag} {cl cl' : Str → Addr} {E : XK}
theorem st_errs {fl lc i1 i2 : TE} {r : R2} {u1 u2 : TS} (hfl : fl = tCall (spFl K cl) [] E0 (tCons (tVar 6) tNil)) (hlc : EvS K lc cmpW) (hr : OpS K r fNeD) (h1 : ∀ x ∈ CLS, EvB K cl 6 x i1 true) (h2 : ∀ x ∈ CLS, EvB K cl 6 x i2 true) :
    StP K cl' E (tFor (iEnum K (tCons (tCall (spAll K cl) [] E0 (tCons (tVar 4) tNil)) tNil)) (gTup K 2 (gCons (gName 5) (gCons (gName 6) gNil))) (tSeq (tIfS (tTest (tOp r fl lc)) u1 tNext) (tIfS (tOr (tNot (tB i1)) (tNot (tB i2))) u2 tNext))) e_errs := fun S H0 G ρ σ H r0 ⟨T, ow, sm⟩ he D q => by
  subst hfl
  unfold e_errs at he
  split at he
  · rename_i d h4
    split at he
    case isFalse => cases he
    rename_i hlen
    cases he
    obtain ⟨o, ho, hv⟩ := sm.slot 4 _ h4
    obtain ⟨v, ev, hd⟩ := hv
    subst ev
    refine ⟨v, ho, v, rfl, fun p H1 s1 hls => ?_⟩
    obtain ⟨us, hp, hn, hf, hus⟩ := hls
    refine ⟨p, us, rfl, SqL.of hp, ?_⟩
    have sm1 := sm.mono s1
    have hus' := hus T sm.tr
    have hp' : hs T H1 p = some (.lst us) := hs_at (sm.tr.out hf) hp
    have hl26 : us.length = 26 := hn
    have mo' : ∀ X Y, Same X Y → (G X ∧ X p = some (HO.lst us) ∧ Ers K cl X us CLS) → (G Y ∧ Y p = some (HO.lst us) ∧ Ers K cl Y us CLS) := fun X Y s h => ⟨sm.mo _ _ s h.1, s _ _ h.2.1, h.2.2.same s⟩
    have sm2 := simNo (i := 6) (simNo (i := 5) (sm1.weak (G' := fun X => G X ∧ X p = some (HO.lst us) ∧ Ers K cl X us CLS) mo' ⟨sm1.fr, hp', hus'⟩))
    refine for_it (walk_enum (K := K) (a := p) (xs := us)) (fun i σ' H' => Sim K S H0 (fun X => G X ∧ X p = some (HO.lst us) ∧ Ers K cl X us CLS) ((ρ.set 5 .no).set 6 .no) σ' H') ⟨T, ow, sm2⟩ ?_ ?_ ?_
    · rintro i σ' H' _ ⟨T', ow', sm'⟩
      exact SqL.of (hs_sub _ _ sm'.fr.2.1)
    · rintro i x σ' H2 H3 hlt ⟨T', ow', sm'⟩ ⟨t, x1, x2, rfl, ht, rfl, e1, e2⟩
      cases e1
      rw [hl26] at hlt
      obtain ⟨c, k1, k2, k3⟩ := flags_at i hlt
      obtain ⟨c', k4, k5⟩ := sm'.fr.2.2.get e2
      rw [k1] at k4
      cases k4
      have sm3 := ((sm'.mono (same_upd (o := HO.tup [.int (i : Int), x2]) ht)).setV (i := 5) (.int (i : Int))).setN (i := 6) (o := some x2)
      have g6 : ((σ'.set 5 (some (.int (i : Int)))).set 6 (some x2))[6]? = some (some x2) := by
        rw [List.getElem?_set_self]
        rw [List.length_set, sm'.len, List.length_set, List.length_set, hlen]
        decide
      have g5 : ((((ρ.set 5 .no).set 6 .no).set 5 (.val (.int (i : Int)))).set 6 .no)[5]? = some (.val (.int (i : Int))) := by
        rw [List.getElem?_set_ne (by decide), List.getElem?_set_self]
        rw [List.length_set, List.length_set, hlen]
        decide
      refine ⟨t, _, rfl, SqT.of upd_same, rfl, _, _, rfl, _, _, rfl, rfl, ?_⟩
      have er : Er K cl (hs T' (upd H2 t (.tup [.int (i : Int), x2]))) x2 c := k5.same (hs_mono (same_upd ht))
      refine ⟨x2, g6, x2, c, rfl, k2, er.same hs_sub, fun pf Ha sa hpf hpa => ?_⟩
      have sm4 := sm3.mono sa
      refine hlc _ _ _ T' ow' _ _ Ha _ sm4 (cmp_at g5 (by rw [List.length_set, List.length_set, List.length_set, List.length_set, hlen])) _ fun y Hb sb hy => ?_
      have dfl : Da K (hs T' Hb) (.ref pf) (.list (sameB i)) := .lst (SqL.of (hs_at ((sm3.tr).out hpf) (sb _ _ hpa))) (by rw [k3]; exact da_bools _)
      have hne : fNeD (.list (sameB i)) (.list (sameB i)) = some (.bool false) := by
        obtain ⟨n1, n2⟩ := ne_all i hlt
        unfold fNeD
        rw [if_pos n1, n2]
        rfl
      refine hr T' Hb _ _ _ _ _ (sm4.mono sb).tr (.inl dfl) (.inl hy) hne _ fun z Hc sc hz => ?_
      cases hz
      refine ⟨false, rfl, ?_⟩
      have sm5 := (sm4.mono sb).mono sc
      have er5 := ((er.same (hs_mono (sa.trans (sb.trans sc)))).same hs_sub)
      refine h1 c k2 _ Hc x2 g6 er5 _ ⟨true, rfl, ?_⟩
      refine h2 c k2 _ Hc x2 g6 er5 _ ⟨true, rfl, ?_⟩
      have fin := simNo (i := 6) (simNo (i := 5) sm5)
      have eq : (((((ρ.set 5 .no).set 6 .no).set 5 (.val (.int (i : Int)))).set 6 .no).set 5 .no).set 6 .no = (ρ.set 5 .no).set 6 .no := by
        match ρ, hlen with
        | [a0, a1, a2, a3, a4, a5, a6, a7], _ => rfl
      rw [eq] at fin
      exact ⟨T', ow', fin⟩
    · rintro σ' H' ⟨T', ow', sm'⟩
      exact q σ' H' ⟨T', ow', sm'.weak sm.mo sm'.fr.1⟩
  · cases he
end
end L01

set_option Elab.async false
set_option linter.all false
set_option maxRecDepth 100000
namespace L01
open PySem PySem.Spec PyProof.Rows L2 Pb
section
variable {P : Program} {w : World} {K : PySem.W.Frag} {mg : Str → Option Value} {base : Heap}
def w_law (d : Addr) : Rho → Int → (Res → Int → Prop) → Prop :=
  (twSeq (twP (sSet (gN 2) (eL (lLst (aCons (eInt 10) (aCons (eInt 10) (aCons (eInt 1000000000000) (aCons (eInt 6) (aCons (eInt 60) (aCons (eInt 20) (aCons (eInt 100) aNil)))))))))))
  (twSeq (twP (sIf (bTest (eOp fNe (eCb fReprS (aCons (eVar 2) aNil)) (eCb fReprS (aCons (eL (lLst (aCons (eInt 10) (aCons (eInt 10) (aCons (eOp fPow (eInt 10) (eInt 12)) (aCons (eInt 6) (aCons (eInt 60) (aCons (eInt 20) (aCons (eInt 100) aNil))))))))) aNil)))) (sRet (eBl false)) sNil))
  (twSeq (twFor (iR (eInt 4)) (gN 3) (twSeq (twSet (gN 4) (wDraw d 1 WOdd wNil))
  (twSeq (twP (sIf (bTest (eOp fNe (eCb fReprS (aCons (eCb q_fields (aCons (eVar 4) aNil)) aNil)) (eCb fReprS (aCons (eL (lRep (lLst (aCons (eVar 4) aNil)) (eInt 13))) aNil)))) (sRet (eBl false)) sNil))
  (twP e_errs))))
  (twP (sRet (eBl true))))))
abbrev s_law : Stmt := topS 42
theorem sc_law : FnScope ["_law_script", "_law_deck_here", "_law_limits", "_law_turn", "_law_one", "_law_index", "_law_error", "_law_k"] ["_law_script"] (defScope s_law) := ⟨rfl, rfl, rfl, by decide +kernel, rfl, by decide +kernel, by decide +kernel⟩
set_option maxHeartbeats 4000000 in
theorem ok_law {f : Addr} {fd : FuncData} {cl : Str → Addr} (F : Fun K "law" "law" s_law f fd) (B : Bx mg) (hb : ∃ mm, base.Ns sysModules mm) (c__law_deck : Cl P w K mg base 1 "_law_deck" ["_law_script"] (spDeck K)) (g_MAX_DEMANDS : ∃ t, mg "MAX_DEMANDS" = some (.int 10 t)) (g_MAX_OFFERS : ∃ t, mg "MAX_OFFERS" = some (.int 10 t)) (g_MAX_AMOUNT : ∃ t, mg "MAX_AMOUNT" = some (.int 1000000000000 t)) (g_MAX_BLOCKS : ∃ t, mg "MAX_BLOCKS" = some (.int 6 t)) (g_MAX_OPERATIONS : ∃ t, mg "MAX_OPERATIONS" = some (.int 60 t)) (g_MAX_BATCH : ∃ t, mg "MAX_BATCH" = some (.int 20 t)) (g_LOG_SIZE : ∃ t, mg "LOG_SIZE" = some (.int 100 t)) (c__law_odd : Cl P w K mg base 2 "_law_odd" ["_law_deck_here"] (spW K WOdd)) (xc : ∀ x ∈ (["NoDemand", "NoOffer", "NotOrderable", "NoIndex", "NotCovered", "NoVertex", "NoPosition", "NoAmount", "TooMany", "NoMoment", "Failed", "Blocked", "BadText", "NoDemands", "NoOffers", "NoOrder", "NoChoice", "NoIntervals", "NoBalls", "NoPositions", "LastDemand", "BadTable", "BadPrices", "BadPenalties", "NothingToUndo", "NoOperations"] : List Str), ExcC K (cl x)) (kb : ∀ x ∈ (["NoDemand", "NoOffer", "NotOrderable", "NoIndex", "NotCovered", "NoVertex", "NoPosition", "NoAmount", "TooMany", "NoMoment", "Failed", "Blocked", "BadText", "NoDemands", "NoOffers", "NoOrder", "NoChoice", "NoIntervals", "NoBalls", "NoPositions", "LastDemand", "BadTable", "BadPrices", "BadPenalties", "NothingToUndo", "NoOperations"] : List Str), PySem.W.kitOne K (.ref (cl x)) (.ref (cl "OrderError")) = some true) (kv : ∀ x ∈ (["NoDemand", "NoOffer", "NotOrderable", "NoIndex", "NotCovered", "NoVertex", "NoPosition", "NoAmount", "TooMany", "NoMoment", "Failed", "Blocked", "BadText", "NoDemands", "NoOffers", "NoOrder", "NoChoice", "NoIntervals", "NoBalls", "NoPositions", "LastDemand", "BadTable", "BadPrices", "BadPenalties", "NothingToUndo", "NoOperations"] : List Str), PySem.W.kitOne K (.ref (cl x)) (.type "ValueError") = some true) (gc_OrderError : mg "OrderError" = some (.ref (cl "OrderError"))) (c__law_all : Cl P w K mg base 3 "_law_all" ["_law_one"] (spAll K cl)) (c__law_flags : Cl P w K mg base 1 "_law_flags" ["_law_error"] (spFl K cl)) (c__law_fields : Cl P w K mg base 3 "_law_fields" ["_law_one"] (spD K (RF q_fields)))
    (hP : ∀ d, w_law d (rhoL 8 d) 0 fun r _ => r = .rt (.bool true)) : RunG P w K mg base 4 f fd ["_law_script"] (spLaw K) := fn_law F sc_law (by decide) (fun cdv A fr t H hg hr => by
  have nd := sc_law.nd
  exact ⟨_, (pss_cons (ps_set (i := 1) nd rfl (Or.inl rfl) (pe_k c__law_deck hr (by decide) rfl (pa_cons (pv 0) pa_nil)))
      (pss_cons (ps_set (i := 2) nd rfl (Or.inl rfl) (pe_lst (pa_cons (pe_gc2 rfl g_MAX_DEMANDS) (pa_cons (pe_gc2 rfl g_MAX_OFFERS) (pa_cons (pe_gc2 rfl g_MAX_AMOUNT) (pa_cons (pe_gc2 rfl g_MAX_BLOCKS) (pa_cons (pe_gc2 rfl g_MAX_OPERATIONS) (pa_cons (pe_gc2 rfl g_MAX_BATCH) (pa_cons (pe_gc2 rfl g_LOG_SIZE) pa_nil)))))))))
      (pss_cons (ps_if (pt_cmpR op_ne (pe_callB (crK (K := K) rReprS rfl (call_reprS hg hr.units hb)) rfl B.repr bt_repr (pa_cons (pv 2) pa_nil)) (pe_callB (crK (K := K) rReprS rfl (call_reprS hg hr.units hb)) rfl B.repr bt_repr (pa_cons (pe_lst (pa_cons pe_int (pa_cons pe_int (pa_cons (pe_op op_pow pe_int pe_int) (pa_cons pe_int (pa_cons pe_int (pa_cons pe_int (pa_cons pe_int pa_nil)))))))) pa_nil)) (nomark _)) (pss_one (ps_ret pe_bl)) pss_nil)
      (pss_cons (ps_for PassesOwn.never rfl (pi_range1 rfl B.range (pa_cons pe_int pa_nil)) (pg_name (i := 3) nd rfl (Or.inl rfl)) (pss_cons (ps_set (i := 4) nd rfl (Or.inl rfl) (pe_k c__law_odd hr (by decide) rfl (pa_cons (pv 1) pa_nil)))
      (pss_cons (ps_if (pt_cmpR op_ne (pe_callB (crK (K := K) rReprS rfl (call_reprS hg hr.units hb)) rfl B.repr bt_repr (pa_cons (pe_k c__law_fields hr (by decide) rfl (pa_cons (pv 4) pa_nil)) pa_nil)) (pe_callB (crK (K := K) rReprS rfl (call_reprS hg hr.units hb)) rfl B.repr bt_repr (pa_cons (pe_op op_rep (pe_lst (pa_cons (pv 4) pa_nil)) pe_int) pa_nil)) (nomark _)) (pss_one (ps_ret pe_bl)) pss_nil)
      (pss_one (ps_for PassesOwn.never rfl (piK (K := K) (fun K => iEnum K _) rfl (pi_enum rfl B.enumerate (pa_cons (pe_k c__law_all hr (by decide) rfl (pa_cons (pv 4) pa_nil)) pa_nil))) (pg_tupK (K := K) (n := 2) rfl rfl (pgs_cons (pg_name (i := 5) nd rfl (Or.inr rfl)) (pgs_cons (pg_name (i := 6) nd rfl (Or.inl rfl)) pgs_nil))) (pss_cons (ps_if (pt_cmpR (opK (K := K) rNeD rfl (op_neD hr.units)) (pe_k c__law_flags hr (by decide) rfl (pa_cons (pv 6) pa_nil)) (pe_lc (own := [("_law_k", 7)]) rfl nd (pi_range1 rfl B.range (pa_cons pe_int pa_nil)) (blkOk_by (own := [("_law_k", 7)]) (N := ["_law_script", "_law_deck_here", "_law_limits", "_law_turn", "_law_one", "_law_index", "_law_error", "_law_k"]) (sc := defScope s_law) (by decide +kernel)) (fun _ _ _ _ _ => (pg_name (i := 7) nd rfl (Or.inl rfl))) (fun _ _ _ _ _ => pts_nil) (fun _ _ _ _ _ => (pe_cmpR op_eq (pv 7) (pv 5) (nomark _)))) (nomark _)) (pss_one (ps_ret pe_bl)) pss_nil) (pss_one (ps_if (PW.pt (pw_or (pt_not (pt_val (pe_callB (crK (K := K) Oe.rIsX rfl Oe.call_isX) rfl B.isinstance bt_isinstance (pa_cons (pv 6) (pa_cons (pe_glob (v := .ref (cl "OrderError")) rfl gc_OrderError rfl) pa_nil))))) (pw_or1 (pt_not (pt_val (pe_callB (crK (K := K) Oe.rIsX rfl Oe.call_isX) rfl B.isinstance bt_isinstance (pa_cons (pv 6) (pa_cons (pe_ty rfl B.valueError bt_ValueError) pa_nil)))))))) (pss_one (ps_ret pe_bl)) pss_nil))))))))
      (pss_one (ps_ret pe_bl)))))), fun d =>
    (sw_seq (StP.w (cl := fun _ => 0) (E := E0) (ss_set (EvF.s (xf_lst (xa_cons (xs_int 10) (xa_cons (xs_int 10) (xa_cons (xs_int 1000000000000) (xa_cons (xs_int 6) (xa_cons (xs_int 60) (xa_cons (xs_int 20) (xa_cons (xs_int 100) xa_nil))))))))) (tg_name 2)))
      (sw_seq (StP.w (cl := fun _ => 0) (E := E0) (ss_if (tt_test (EvS.t (xs_op os_ne (EvS.t (xs_cb cs_reprS (xt_cons (EvS.t (xs_var 2)) xt_nil))) (EvS.t (xs_cb cs_reprS (xt_cons (EvS.t (EvF.s (xf_lst (xa_cons (xs_int 10) (xa_cons (xs_int 10) (xa_cons (xs_op os_pow (EvS.t (xs_int 10)) (EvS.t (xs_int 12))) (xa_cons (xs_int 6) (xa_cons (xs_int 60) (xa_cons (xs_int 20) (xa_cons (xs_int 100) xa_nil)))))))))) xt_nil)))))) (ss_ret (xs_bl false)) ss_nil))
      (sw_seq (sw_for (wi_rng (EvS.t (xs_int 4))) (tg_name 3) (sw_seq (sw_set (xw_draw (W := WOdd) (i := 1) wa_nil) (tg_name 4))
      (sw_seq (StP.w (cl := fun _ => 0) (E := E0) (ss_if (tt_test (EvS.t (xs_op os_ne (EvS.t (xs_cb cs_reprS (xt_cons (EvS.t (xs_call (g := q_fields) (xa_cons (xs_var 4) xa_nil))) xt_nil))) (EvS.t (xs_cb cs_reprS (xt_cons (EvS.t (EvF.s (xf_rep (EvF.l (xf_lst (xa_cons (xs_var 4) xa_nil))) (EvS.t (xs_int 13))))) xt_nil)))))) (ss_ret (xs_bl false)) ss_nil))
      (StP.w (cl := fun _ => 0) (E := E0) (st_errs (cl := cl) rfl (EvF.s (xf_lc (vs := [7]) (wi_rng (EvS.t (xs_int 26))) (tg_name 7) tt_yes (xs_op os_eq (EvS.t (xs_var 7)) (EvS.t (xs_var 5))))) os_neD (fun x hx => Oe.eb_isi (ClsV.own _) (xc x hx) (kb x hx)) (fun x hx => Oe.eb_isi (ClsV.ty "ValueError") (xc x hx) (kv x hx)))))))
      (StP.w (cl := fun _ => 0) (E := E0) (ss_ret (xs_bl true))))))⟩) hP
end
end L01

set_option Elab.async false
set_option linter.all false
set_option maxRecDepth 100000
namespace L01
open PySem PySem.Spec PyProof.Rows L2 Pb
theorem odd_gs : ∀ e ∈ oddL, gsB (.list [e, e, e, e, e, e, e, e, e, e, e, e, e]) = true := by decide +kernel
theorem q_fields_of (e : PyData) : q_fields [e] = some (.list [e, e, e, e, e, e, e, e, e, e, e, e, e]) := by rfl
theorem lim_gs : gsB (.list [.int 10, .int 10, .int 1000000000000, .int 6, .int 60, .int 20, .int 100]) = true := by decide +kernel
theorem rs {d : PyData} (h : gsB d = true) : fReprS [d] = some (.str d.shown) := by
  show (if gsB d = true then some (PyData.str d.shown) else none) = _
  rw [if_pos h]
theorem law_pure (d : Addr) : w_law d (rhoL 8 d) 0 fun r _ => r = .rt (.bool true) := by
  have f0 : fReprS [.list [.int 10, .int 10, .int 1000000000000, .int 6, .int 60, .int 20, .int 100]] = some (.str (PyData.list [.int 10, .int 10, .int 1000000000000, .int 6, .int 60, .int 20, .int 100]).shown) := rs lim_gs
  refine ⟨_, rfl, ?_⟩
  refine ⟨_, (sIf_f (bTest_of (eOp_of (eCb_of (aCons_of rfl rfl) f0) (eCb_of (aCons_of rfl rfl) f0) (ne_same _)))).trans rfl, ?_⟩
  refine ⟨rngD 0 4, iR_of rfl (by decide), forW_ind (fun es ρ n => ∃ s3 s4 s5 s6 s7 : Sl, ρ = [.no, .deck d, .val (.list [.int 10, .int 10, .int 1000000000000, .int 6, .int 60, .int 20, .int 100]), s3, s4, s5, s6, s7] ∧ n + es.length ≤ 4) ?_ ?_ _ _ _ ⟨_, _, _, _, _, rfl, by rw [rngD_len]; omega⟩⟩
  · rintro ρ n ⟨s3, s4, s5, s6, s7, rfl, hn⟩
    exact ⟨_, rfl, rfl⟩
  · rintro t es ρ n ⟨s3, s4, s5, s6, s7, rfl, hn⟩ Q ih
    rw [List.length_cons] at hn
    refine ⟨_, rfl, ?_⟩
    refine ⟨rfl, rfl, by omega, fun e n' he hn' => ⟨_, rfl, ?_⟩⟩
    have f1 : fReprS [.list [e, e, e, e, e, e, e, e, e, e, e, e, e]] = some (.str (PyData.list [e, e, e, e, e, e, e, e, e, e, e, e, e]).shown) := rs (odd_gs e he)
    refine ⟨_, (sIf_f (bTest_of (eOp_of (eCb_of (aCons_of (eCb_of (aCons_of rfl rfl) (q_fields_of e)) rfl) f1) (eCb_of (aCons_of rfl rfl) f1) (ne_same _)))).trans rfl, ?_⟩
    refine ⟨_, rfl, ih _ _ ⟨_, _, _, _, _, rfl, by omega⟩⟩
end L01

set_option Elab.async false
set_option linter.all false
set_option maxRecDepth 100000
namespace L01
open PySem PySem.Spec PyProof.Rows L2 Pb
section
variable {P : Program} {w : World} {K : PySem.W.Frag} {mg : Str → Option Value} {base : Heap}
abbrev sDeck : Stmt := topS 36
theorem scDeck : FnScope ["_law_script", "_law_cells", "_law_cell"] ["_law_script"] (defScope sDeck) := ⟨rfl, rfl, rfl, by decide +kernel, rfl, by decide +kernel, by decide +kernel⟩
set_option maxHeartbeats 1000000 in
theorem ok_deck {f : Addr} {fd : FuncData} (F : Fun K "_law_deck" "_law_deck" sDeck f fd) (B : Bn mg) : FnOk P w K mg base CX0 1 f fd ["_law_script"] (spDeck K) := by
  refine F.ok scDeck (fun vs H Q E h => ?_) (fun cdv A outer s H vs Q E hr h => ?_)
  · obtain ⟨a, ns, rfl, _⟩ := h
    rfl
  · obtain ⟨a, ns, rfl, hS, hl, q⟩ := h
    have nd := scDeck.nd
    refine ⟨_, (pss_cons (ps_setLc (i := 1) (own := [("_law_cell", 2)]) (g := gName 2) rfl nd rfl rfl (sw_true rfl rfl rfl (by decide +kernel)) (pi_list (pv 0)) (blkOk_by (own := [("_law_cell", 2)]) (N := ["_law_script", "_law_cells", "_law_cell"]) (sc := defScope sDeck) (by decide +kernel)) (fun _ _ _ _ _ => (pg_name (i := 2) nd rfl (Or.inl rfl))) (fun _ _ _ _ _ => pts_nil) (fun _ _ _ _ _ => (pe_callB call_abs rfl B.abs bt_abs (pa_cons (pv 2) pa_nil))))
      (pss_one (ps_ret (pe_lst (pa_cons (pe_lc (own := [("_law_cell", 2)]) (g := gName 2) rfl nd (pi_list (pv 1)) (blkOk_by (own := [("_law_cell", 2)]) (N := ["_law_script", "_law_cells", "_law_cell"]) (sc := defScope sDeck) (by decide +kernel)) (fun _ _ _ _ _ => (pg_name (i := 2) nd rfl (Or.inl rfl))) (fun _ _ _ _ _ => pts_one (pt_cmpR op_ge (pv 2) (pe_op op_pow pe_int pe_int) (nomark _))) (fun _ _ _ _ _ => (pv 2))) (pa_cons (pe_op op_cat (pv 1) (pe_lst (pa_cons (pe_op op_add (pe_callB call_len_seq rfl B.len bt_len (pa_cons (pv 1) pa_nil)) pe_int) pa_nil))) (pa_cons pe_int pa_nil))))))), ?_⟩
    refine Evl.q_asgL (Evl.el_lcL (fun _ => true) (fun i => .int (if ns.getD i 0 < 0 then -(ns.getD i 0) else ns.getD i 0)) (Evl.ev_var rfl) hS (by rw [List.length_map]; omega) (fun x => rfl)
      (fun i x H1 _ _ H2 _ Q q => q H2 (Evl.Ex.refl _)) (fun i x H1 _ hx _ H2 e2 Q q => ?_)) (fun c0 H1 hp e1 h1 => ?_)
    · rw [ints_at hx]
      exact ⟨_, rfl, _, rfl, q H2 (Evl.Ex.refl _)⟩
    · rw [given_ints] at h1
      generalize hcs : ((List.range (ns.map V.int).length).filter (fun _ => true)).map (fun i => if ns.getD i 0 < 0 then -(ns.getD i 0) else ns.getD i 0) = cs at h1
      have cl : cs.length ≤ 63 := by
        rw [← hcs, List.length_map]
        refine Nat.le_trans (List.length_filter_le _ _) ?_
        rw [List.length_range, List.length_map]
        exact hl
      dsimp only [tRet, tLst, tCons]
      refine Evl.el_lcL (K := K) (a := c0) (xs := cs.map V.int) (fun i => decide ((10 : Int) ^ 18 ≤ cs.getD i 0)) (fun i => .int (cs.getD i 0)) (Evl.ev_var rfl) (SqL.of h1) (by rw [List.length_map]; omega) (fun x => by rfl)
        (fun i x H2 _ hx H3 e3 Q q => ?_) (fun i x H2 _ hx _ H3 e3 Q q => ?_) H1 (Evl.Ex.refl _) _ (fun b H2 hb e2 h2 => ?_)
      · rw [ints_at hx]
        exact ⟨_, rfl, 10, 18, rfl, rfl, ⟨by decide, by decide, by decide⟩, _, _, rfl, rfl, _, rfl, q H3 (Evl.Ex.refl _)⟩
      · rw [ints_at hx]
        exact ⟨_, rfl, q H3 (Evl.Ex.refl _)⟩
      · rw [given_ints] at h2
        have h12 := e2 _ _ h1
        refine ⟨.ref c0, rfl, .ref c0, rfl, c0, _, rfl, .inl (SqL.of h12), _, 7, rfl, rfl, sz (n := 1) (by decide), fun p np => ?_⟩
        have h13 := same_upd (o := .lst [V.int (((cs.map V.int).length : Int) + 7)]) np _ _ h12
        refine ⟨c0, p, _, _, rfl, rfl, h13, upd_same, ?_, fun c nc => ?_⟩
        · rw [List.length_map]
          exact Nat.le_of_lt (small1000 (by simp; omega))
        · refine ⟨sz (n := 3) (by decide), fun d ndd => ?_⟩
          have s1 : Same H H1 := e1
          have s2 : Same H1 H2 := e2
          have s3 : Same H2 (upd H2 p (.lst [V.int (((cs.map V.int).length : Int) + 7)])) := same_upd np
          generalize upd H2 p (.lst [V.int (((cs.map V.int).length : Int) + 7)]) = H3 at *
          have s4 : Same H3 (upd H3 c (.lst ((cs.map V.int) ++ [V.int (((cs.map V.int).length : Int) + 7)]))) := same_upd nc
          have hc4 : (upd H3 c (.lst ((cs.map V.int) ++ [V.int (((cs.map V.int).length : Int) + 7)]))) c = some (.lst ((cs ++ [((cs.map V.int).length : Int) + 7]).map V.int)) := by
            rw [upd_same, List.map_append]
            rfl
          have hb4 := s4 _ _ (s3 _ _ h2)
          have nbc : b ≠ c := fun z => by
            rw [z] at h2
            rw [s3 _ _ h2] at nc
            cases nc
          show Q (.ref d) (upd (upd H3 c (.lst ((cs.map V.int) ++ [V.int (((cs.map V.int).length : Int) + 7)]))) d (.lst [.ref b, .ref c, .int 0]))
          generalize upd H3 c (.lst ((cs.map V.int) ++ [V.int (((cs.map V.int).length : Int) + 7)])) = H4 at *
          have s14 : Same H H4 := s1.trans (s2.trans (s3.trans s4))
          have hd0 : H d = none := s14.free ndd
          have hb0 : H b = none := s1.free hb
          refine q d b c _ ⟨fun z => ?_, fun z => ?_, nbc, Int.le_refl 0, upd_same, ⟨(((List.range (cs.map V.int).length).filter fun i => decide ((10 : Int) ^ 18 ≤ cs.getD i 0)).map fun i => cs.getD i 0), ?_⟩, cs ++ [((cs.map V.int).length : Int) + 7], ?_, ?_, ?_⟩ hd0 hb0 ?_
          · rw [z, hb4] at ndd
            cases ndd
          · rw [z, hc4] at ndd
            cases ndd
          · rw [upd_ne (fun z => by rw [z, ndd] at hb4; cases hb4)]
            exact hb4
          · rw [upd_ne (fun z => by rw [z, ndd] at hc4; cases hc4)]
            exact hc4
          · simp
          · simp
            omega
          · intro x o hx
            rw [msk_ne (fun z => by rw [z, hd0] at hx; cases hx) (fun z => by rw [z, hb0] at hx; cases hx), upd_ne (fun z => by rw [z, hd0] at hx; cases hx)]
            exact s14 _ _ hx
abbrev sNext : Stmt := topS 37
theorem scNext : FnScope ["_law_deck_here", "_law_many", "_law_rest", "_law_cell", "_law_mixed"] ["_law_deck_here", "_law_many"] (defScope sNext) := ⟨rfl, rfl, rfl, by decide +kernel, rfl, by decide +kernel, by decide +kernel⟩
set_option maxHeartbeats 1000000 in
theorem ok_next {f : Addr} {fd : FuncData} (F : Fun K "_law_next" "_law_next" sNext f fd) (B : Bn mg) : FnOk P w K mg base CX0 1 f fd ["_law_deck_here", "_law_many"] spNext := by
  refine F.ok scNext (fun vs H Q E h => ?_) (fun cdv A outer s H vs Q E hr h => ?_)
  · obtain ⟨d, b, c, n, m, rfl, _⟩ := h
    rfl
  · obtain ⟨d, b, c, n, m, rfl, hD, hn, m0, m1, q⟩ := h
    have nd := scNext.nd
    refine ⟨_, (pss_cons (ps_while PassesOwn.never (pt_cmpR (op_ne0 hr.units) (pe_ix ix_list (pv 0) pe_int (fun _ _ => rfl)) (pe_lst pa_nil) (nomark _)) (pss_cons (ps_set (i := 2) nd rfl (Or.inl rfl) (pe_ix ix_list (pe_ix ix_list (pv 0) pe_int (fun _ _ => rfl)) pe_int (fun _ _ => rfl)))
      (pss_cons (ps_if (pt_cmpR op_gt (pv 2) pe_int (nomark _)) (pss_cons (ps_asg (pe_op op_fdiv (pv 2) (pv 1)) (pg_sub (pe_ix ix_list (pv 0) pe_int (fun _ _ => rfl)) pe_int set_list))
      (pss_one (ps_ret (pe_op op_mod (pv 2) (pv 1))))) pss_nil)
      (pss_one (ps_expr (pe_bm PySem.F.plainAttrs_list PySem.F.slot_list_pop PySem.F.type_list_pop mt_popAt (pe_ix ix_list (pv 0) pe_int (fun _ _ => rfl)) (pa_cons pe_int pa_nil)))))))
      (pss_cons (ps_asg (pe_op op_add (pe_ix ix_list (pv 0) pe_int (fun _ _ => rfl)) pe_int) (pg_sub (pv 0) pe_int set_list))
      (pss_cons (ps_set (i := 3) nd rfl (Or.inl rfl) (pe_op op_mod (pe_ix ix_list (pe_ix ix_list (pv 0) pe_int (fun _ _ => rfl)) (pe_op op_mod (pe_ix ix_list (pv 0) pe_int (fun _ _ => rfl)) (pe_callB call_len_seq rfl B.len bt_len (pa_cons (pe_ix ix_list (pv 0) pe_int (fun _ _ => rfl)) pa_nil))) (fun _ _ => rfl)) pe_int))
      (pss_cons (ps_set (i := 4) nd rfl (Or.inl rfl) (pe_op op_add (pe_op op_add (pe_op op_mul (pv 3) (pe_op op_add pe_int (pe_op op_mul pe_int (pe_ix ix_list (pv 0) pe_int (fun _ _ => rfl))))) (pe_op op_mul (pe_op op_mul pe_int (pe_ix ix_list (pv 0) pe_int (fun _ _ => rfl))) (pe_ix ix_list (pv 0) pe_int (fun _ _ => rfl)))) pe_int))
      (pss_cons (ps_set (i := 4) nd rfl (Or.inl rfl) (pe_op op_mod (pv 4) pe_int))
      (pss_one (ps_ret (pe_op op_mod (pe_op op_fdiv (pe_op op_mod (pe_op op_mul (pv 4) (pv 4)) pe_int) pe_int) (pv 1))))))))), ?_⟩
    obtain ⟨bs, eb⟩ := hD.at_b
    refine ⟨fun k σ H1 => ∃ (bs : List Int) (y2 : Option V), σ = [some (.ref d), some (.int m), y2, none, none] ∧ bs.length = k ∧ H1 b = some (.lst (bs.map V.int)) ∧ Dk d b c n H1 ∧ Same (msk d b H) (msk d b H1),
      ⟨bs.length, bs, none, rfl, rfl, eb, hD, Same.refl _⟩, fun k σ H1 hW => ?_⟩
    obtain ⟨bs, y2, rfl, rfl, eb, hD, sm⟩ := hW
    refine ⟨.ref d, rfl, d, _, 0, .ref b, rfl, rfl, SqL.of hD.at_d, atI_nat (j := 0) rfl, Nat.zero_le _, fun p hp => ?_⟩
    have sp : Same H1 (upd H1 p (.lst [])) := same_upd hp
    have hD2 := hD.same sp
    have eb2 := sp _ _ eb
    have sm2 : Same (msk d b H) (msk d b (upd H1 p (.lst []))) := sm.trans (msk_same sp)
    refine ⟨b, p, bs.map V.int, rfl, rfl, SqL.of eb2, SqL.of upd_same, _, rfl, ?_⟩
    generalize upd H1 p (.lst []) = H2 at hD2 eb2 sm2 ⊢
    cases bs with
    | cons x r =>
      refine iteT ⟨fun σ' H' => ∃ (y2 : Option V), σ' = [some (.ref d), some (.int m), y2, none, none] ∧ H' b = some (.lst (r.map V.int)) ∧ Dk d b c n H' ∧ Same (msk d b H) (msk d b H'),
        fun σ' H' hN => ?_, ?_⟩
      · obtain ⟨y, e1, e2, e3, e4⟩ := hN
        exact ⟨r.length, Nat.lt_succ_self _, r, y, e1, rfl, e2, e3, e4⟩
      · refine ⟨.ref d, rfl, d, _, 0, .ref b, rfl, rfl, SqL.of hD2.at_d, atI_nat (j := 0) rfl, b, _, 0, .int x, rfl, rfl, SqL.of eb2, atI_nat (j := 0) rfl, ?_⟩
        refine ⟨.int x, rfl, x, 0, rfl, rfl, _, rfl, ite2 (fun e => ?_) (fun e => ?_)⟩
        · have x0 : 0 < x := of_decide_eq_true e
          refine ⟨.int x, rfl, .int m, rfl, x, m, rfl, rfl, ⟨m0, m1⟩, .ref d, rfl, d, _, 0, .ref b, rfl, rfl, SqL.of hD2.at_d, atI_nat (j := 0) rfl, b, _, 0, 0, rfl, rfl, eb2, Evl.ixN_nat (j := 0) (by simp), ?_⟩
          refine ⟨.int x, rfl, .int m, rfl, x, m, rfl, rfl, m0, ?_⟩
          refine q _ n _ (Int.emod_nonneg _ (by omega)) (Int.emod_lt_of_pos _ m0) ⟨?_, by omega, ?_⟩
          · obtain ⟨x1, x2, x3, x4, x5, _, cs, x7, x8⟩ := hD2
            refine ⟨x1, x2, x3, x4, ?_, ⟨(x / m) :: r, ?_⟩, cs, ?_, x8⟩
            · rw [upd_ne x1]
              exact x5
            · exact upd_same
            · rw [upd_ne x3.symm]
              exact x7
          · rw [msk_b]
            exact sm2
        · refine ⟨.ref d, rfl, d, _, 0, .ref b, rfl, rfl, SqL.of hD2.at_d, atI_nat (j := 0) rfl, .inl ⟨rfl, _, SqL.of eb2⟩, b, _, 0, 0, .int x, rfl, rfl, eb2, by decide, by decide, seqIndex_nat (j := 0) (by simp), rfl, some (.int x), rfl, ?_, ?_, ?_⟩
          · exact upd_same
          · obtain ⟨x1, x2, x3, x4, x5, _, cs, x7, x8⟩ := hD2
            refine ⟨x1, x2, x3, x4, ?_, ⟨r, ?_⟩, cs, ?_, x8⟩
            · rw [upd_ne x1]
              exact x5
            · exact upd_same
            · rw [upd_ne x3.symm]
              exact x7
          · rw [msk_b]
            exact sm2
    | nil =>
      refine iteF ?_
      -- deck[2] = deck[2] + 1
      refine ⟨.ref d, rfl, d, _, 2, .int n, rfl, rfl, SqL.of hD2.at_d, atI_nat (j := 2) rfl, n, 1, rfl, rfl, .ref d, rfl, d, _, 2, 2, rfl, rfl, hD2.at_d, rfl, ?_⟩
      have hD3 : Dk d b c (n + 1) (upd H2 d (.lst [.ref b, .ref c, .int (n + 1)])) := by
        obtain ⟨x1, x2, x3, x4, x5, ⟨bs, x6⟩, cs, x7, x8⟩ := hD2
        refine ⟨x1, x2, x3, by omega, upd_same, ⟨bs, ?_⟩, cs, ?_, x8⟩
        · rw [upd_ne x1.symm]
          exact x6
        · rw [upd_ne x2.symm]
          exact x7
      have sm3 : Same (msk d b H) (msk d b (upd H2 d (.lst [.ref b, .ref c, .int (n + 1)]))) := by
        rw [msk_d]
        exact sm2
      show tSeq _ _ _ _ (upd H2 d (.lst [.ref b, .ref c, .int (n + 1)]))
      generalize upd H2 d (.lst [.ref b, .ref c, .int (n + 1)]) = H3 at hD3 sm3 ⊢
      have n0 := hD2.n0
      obtain ⟨cs, ec, c0, c1⟩ := hD3.at_c
      have cl : 0 < (cs.map V.int).length := by
        rw [List.length_map]
        exact List.length_pos_iff.mpr c0
      have hL : 0 < ((cs.map V.int).length : Int) := by omega
      have r0 := Int.emod_nonneg (n + 1) (show ((cs.map V.int).length : Int) ≠ 0 by omega)
      have r1 := Int.emod_lt_of_pos (n + 1) hL
      obtain ⟨j, ej⟩ : ∃ j : Nat, (n + 1) % ((cs.map V.int).length : Int) = (j : Int) := ⟨_, (Int.toNat_of_nonneg r0).symm⟩
      have hj : j < cs.length := by
        rw [ej, List.length_map] at r1
        omega
      have gj : (cs.map V.int)[j]? = some (.int cs[j]) := by
        rw [List.getElem?_map, List.getElem?_eq_getElem hj]
        rfl
      refine ⟨.ref d, rfl, d, _, 1, .ref c, rfl, rfl, SqL.of hD3.at_d, atI_nat (j := 1) rfl, .ref d, rfl, d, _, 2, .int (n + 1), rfl, rfl, SqL.of hD3.at_d, atI_nat (j := 2) rfl, .ref d, rfl, d, _, 1, .ref c, rfl, rfl, SqL.of hD3.at_d, atI_nat (j := 1) rfl,
        c, _, rfl, .inl (SqL.of ec), n + 1, _, rfl, rfl, hL, c, _, _, .int cs[j], rfl, rfl, SqL.of ec, ?_, cs[j], 2147483647, rfl, rfl, (by show (0 : Int) < 2147483647; decide), ?_⟩
      · rw [ej]
        exact atI_nat gj
      · have k0 := Int.emod_nonneg cs[j] (show (2147483647 : Int) ≠ 0 by decide)
        have k1 := Int.emod_lt_of_pos cs[j] (show (0 : Int) < 2147483647 by decide)
        show tSeq _ _ _ [some (.ref d), some (.int m), y2, some (.int (cs[j] % 2147483647)), none] _
        generalize cs[j] % 2147483647 = x at k0 k1 ⊢
        refine ⟨.int x, rfl, .ref d, rfl, d, _, 2, .int (n + 1), rfl, rfl, SqL.of hD3.at_d, atI_nat (j := 2) rfl, 69621, n + 1, rfl, rfl, .inl ⟨by decide, by decide⟩, 48271, _, rfl, rfl, x, _, rfl, rfl, .inl ⟨by omega, by omega⟩, ?_⟩
        refine ⟨.ref d, rfl, d, _, 2, .int (n + 1), rfl, rfl, SqL.of hD3.at_d, atI_nat (j := 2) rfl, 40014, n + 1, rfl, rfl, .inl ⟨by decide, by decide⟩, .ref d, rfl, d, _, 2, .int (n + 1), rfl, rfl, SqL.of hD3.at_d, atI_nat (j := 2) rfl, _, n + 1, rfl, rfl, .inr ⟨by omega, by omega⟩, _, _, rfl, rfl, _, 79, rfl, rfl, ?_⟩
        refine ⟨_, rfl, _, 2147483629, rfl, rfl, (by show (0 : Int) < 2147483629; decide), ?_⟩
        have g0 := Int.emod_nonneg (x * (48271 + 69621 * (n + 1)) + 40014 * (n + 1) * (n + 1) + 79) (show (2147483629 : Int) ≠ 0 by decide)
        have g1 := Int.emod_lt_of_pos (x * (48271 + 69621 * (n + 1)) + 40014 * (n + 1) * (n + 1) + 79) (show (0 : Int) < 2147483629 by decide)
        refine ⟨_, rfl, _, rfl, _, _, rfl, rfl, .inl ⟨Int.lt_of_lt_of_le (by decide) g0, Int.lt_trans g1 (by decide)⟩, _, 2147483587, rfl, rfl, (by show (0 : Int) < 2147483587; decide), _, 16, rfl, rfl, ⟨by decide, by decide⟩, .int m, rfl, _, m, rfl, rfl, m0, ?_⟩
        exact q _ (n + 1) _ (Int.emod_nonneg _ (by omega)) (Int.emod_lt_of_pos _ m0) ⟨hD3, Int.le_refl _, sm3⟩
abbrev sOdd : Stmt := topS 38
theorem scOdd : FnScope ["_law_deck_here", "_law_some"] ["_law_deck_here"] (defScope sOdd) := ⟨rfl, rfl, rfl, by decide +kernel, rfl, by decide +kernel, by decide +kernel⟩
set_option maxHeartbeats 2000000 in
theorem ok_odd {f : Addr} {fd : FuncData} (F : Fun K "_law_odd" "_law_odd" sOdd f fd) (B : Bn mg) (c_law_next : Cl P w K mg base 1 "_law_next" ["_law_deck_here", "_law_many"] spNext) : FnOk P w K mg base CX0 2 f fd ["_law_deck_here"] (spOdd K) := by
  refine F.ok scOdd (fun vs H Q E h => ?_) (fun cdv A outer s H vs Q E hr h => ?_)
  · obtain ⟨S, d, b, c, n, rfl, _⟩ := h
    rfl
  · obtain ⟨S, d, b, c, n, rfl, hC, hn, q⟩ := h
    have hD := hC.dk
    have nd := scOdd.nd
    refine ⟨_, (pss_cons (ps_set (i := 1) nd rfl (Or.inl rfl) (pe_lst (pa_cons pe_non (pa_cons pe_bl (pa_cons pe_bl (pa_cons pe_int (pa_cons pe_int (pa_cons (pe_un un_neg pe_int) (pa_cons pe_int (pa_cons pe_int (pa_cons pe_int (pa_cons (pe_op op_pow pe_int pe_int) (pa_cons (pe_op op_add (pe_op op_pow pe_int pe_int) pe_int) (pa_cons (pe_op op_pow pe_int pe_int) (pa_cons pe_str (pa_cons pe_str (pa_cons pe_str (pa_cons (pe_tup pa_nil) (pa_cons (pe_tup (pa_cons pe_int pa_nil)) pa_nil)))))))))))))))))))
      (pss_one (ps_ret (pe_ix ix_list (pe_op op_cat (pv 1) (pe_lst (pa_cons (pe_tup (pa_cons pe_int (pa_cons pe_int pa_nil))) (pa_cons (pe_lst pa_nil) (pa_cons pe_dnewK (pa_cons (pe_lst (pa_cons pe_int pa_nil)) (pa_cons (pe_tup (pa_cons pe_bl pa_nil)) (pa_cons (pe_tup (pa_cons (pe_tup pa_nil) pa_nil)) pa_nil)))))))) (pe_k c_law_next hr (by decide) rfl (pa_cons (pv 0) (pa_cons pe_int pa_nil))) (fun _ _ => rfl))))), ?_⟩
    have pw : ∀ j : Int, 0 ≤ j → j ≤ 100 → CPow 10 j := fun j h0 h1 => ⟨h0, by omega, by decide⟩
    refine q_asgP (fun v H' => ∃ t1 t2 l3, v = .ref l3 ∧ Nw S d b c H' t1 (.tup []) ∧ Nw S d b c H' t2 (.tup [V.int 0]) ∧ Nw S d b c H' l3 (.lst (oddA t1 t2)) ∧ Dr d b c n H n H' ∧ Same H H') (fun Q' q' => ?_) ?_
    · refine ⟨1, rfl, 10, 12, rfl, rfl, pw 12 (by decide) (by decide), 10, 12, rfl, rfl, pw 12 (by decide) (by decide), _, 1, rfl, rfl, 10, 59, rfl, rfl, pw 59 (by decide) (by decide), Nat.zero_le _, fun t1 h1 => ⟨Pb.sz (n := 1) (by decide), fun t2 h2 => ⟨Pb.sz (n := 17) (by decide), fun l3 h3 => ?_⟩⟩⟩
      have r0 := Dr.refl hD
      have r1 := r0.new (o := .tup []) h1
      have r2 := r1.new (o := .tup [V.int 0]) h2
      have s3 := same_upd (o := .lst (oddA t1 t2)) h3
      have w1 : Nw S d b c _ t1 (.tup []) := Nw.new (o := .tup []) hC h1
      have w2 : Nw S d b c _ t2 (.tup [V.int 0]) := Nw.new (o := .tup [V.int 0]) (hC.same (same_upd h1)) h2
      exact q' (.ref l3) _ ⟨t1, t2, l3, rfl, (w1.mono (same_upd h2)).mono s3, w2.mono s3, Nw.new ((hC.same (same_upd h1)).same (same_upd h2)) h3, r2.new h3, ((same_upd h1).trans (same_upd h2)).trans s3⟩
    · rintro v H3 ⟨t1, t2, l3, rfl, w1, w2, w3, r3, s03⟩
      refine ⟨.ref l3, rfl, ?_⟩
      refine (show Ew (tLst _) _ _ (fun v H' => ∃ t4 l5 d6 l7 t8 t9 t10 l11, v = .ref l11 ∧ Nw S d b c H' t4 (.tup [V.int 0, V.int 1]) ∧ Nw S d b c H' l5 (.lst []) ∧ Nw S d b c H' d6 (.dK []) ∧ Nw S d b c H' l7 (.lst [V.int 0]) ∧ Nw S d b c H' t8 (.tup [V.bl true]) ∧ Nw S d b c H' t9 (.tup []) ∧ Nw S d b c H' t10 (.tup [V.ref t9]) ∧
        Nw S d b c H' l11 (.lst [V.ref t4, V.ref l5, V.ref d6, V.ref l7, V.ref t8, V.ref t10]) ∧ Same H3 H') from fun Q' q' => ?_) _ (fun v H4 hv => ?_)
      · refine ⟨Pb.sz (n := 2) (by decide), fun t4 h4 => ⟨Nat.zero_le _, fun l5 h5 d6 h6 => ⟨Pb.sz (n := 1) (by decide), fun l7 h7 => ⟨Pb.sz (n := 1) (by decide), fun t8 h8 => ⟨Nat.zero_le _, fun t9 h9 => ⟨Pb.sz (n := 1) (by decide), fun t10 h10 => ⟨Pb.sz (n := 6) (by decide), fun l11 h11 => ?_⟩⟩⟩⟩⟩⟩⟩
        have D3 := hC.same s03
        have D4 := D3.same (same_upd (o := .tup [V.int 0, V.int 1]) h4)
        have D5 := D4.same (same_upd (o := .lst []) h5)
        have D6 := D5.same (same_upd (o := .dK []) h6)
        have D7 := D6.same (same_upd (o := .lst [V.int 0]) h7)
        have D8 := D7.same (same_upd (o := .tup [V.bl true]) h8)
        have D9 := D8.same (same_upd (o := .tup []) h9)
        have D10 := D9.same (same_upd (o := .tup [V.ref t9]) h10)
        have s11 := same_upd (o := .lst [V.ref t4, V.ref l5, V.ref d6, V.ref l7, V.ref t8, V.ref t10]) h11
        have s10 := Same.trans (same_upd (o := .tup [V.ref t9]) h10) s11
        have s9 := Same.trans (same_upd (o := .tup []) h9) s10
        have s8 := Same.trans (same_upd (o := .tup [V.bl true]) h8) s9
        have s7 := Same.trans (same_upd (o := .lst [V.int 0]) h7) s8
        have s6 := Same.trans (same_upd (o := .dK []) h6) s7
        have s5 := Same.trans (same_upd (o := .lst []) h5) s6
        have s4 := Same.trans (same_upd (o := .tup [V.int 0, V.int 1]) h4) s5
        exact q' (.ref l11) _ ⟨t4, l5, d6, l7, t8, t9, t10, l11, rfl, (Nw.new D3 h4).mono s5, (Nw.new D4 h5).mono s6, (Nw.new D5 h6).mono s7, (Nw.new D6 h7).mono s8, (Nw.new D7 h8).mono s9, (Nw.new D8 h9).mono s10, (Nw.new D9 h10).mono s11, Nw.new D10 h11, s4⟩
      · obtain ⟨t4, l5, d6, l7, t8, t9, t10, l11, rfl, w4, w5, w6, w7, w8, w9, w10, w11, s34⟩ := hv
        refine ⟨l3, l11, _, _, rfl, rfl, (w3.mono s34).at_p, w11.at_p, Pb.sz (n := 23) (by decide), fun l12 h12 => ?_⟩
        have dr12 := (r3.more s34).new (o := .lst (oddA t1 t2 ++ [V.ref t4, V.ref l5, V.ref d6, V.ref l7, V.ref t8, V.ref t10])) h12
        have sw := same_upd (o := .lst (oddA t1 t2 ++ [V.ref t4, V.ref l5, V.ref d6, V.ref l7, V.ref t8, V.ref t10])) h12
        have w12 : Nw S d b c _ l12 (.lst (oddA t1 t2 ++ [V.ref t4, V.ref l5, V.ref d6, V.ref l7, V.ref t8, V.ref t10])) := Nw.new (hC.same (s03.trans s34)) h12
        have all : DaAll K (hs S (upd H4 l12 (.lst (oddA t1 t2 ++ [V.ref t4, V.ref l5, V.ref d6, V.ref l7, V.ref t8, V.ref t10])))) (oddA t1 t2 ++ [V.ref t4, V.ref l5, V.ref d6, V.ref l7, V.ref t8, V.ref t10]) oddL :=
          .cons .non (.cons (.bl _) (.cons (.bl _) (.cons (.int _) (.cons (.int _) (.cons (.int _) (.cons (.int _) (.cons (.int _) (.cons (.int _) (.cons (.int _) (.cons (.int _) (.cons (.int _) (.cons (.str _) (.cons (.str _) (.cons (.str _)
            (.cons (.tup ((w1.mono s34).mono sw).tup .nil) (.cons (.tup ((w2.mono s34).mono sw).tup (.cons (.int _) .nil)) (.cons (.tup (w4.mono sw).tup (.cons (.int _) (.cons (.int _) .nil))) (.cons (.lst (w5.mono sw).lst .nil) (.cons (w6.mono sw).emp
              (.cons (.lst (w7.mono sw).lst (.cons (.int _) .nil)) (.cons (.tup (w8.mono sw).tup (.cons (.bl _) .nil)) (.cons (.tup (w10.mono sw).tup (.cons (.tup (w9.mono sw).tup .nil) .nil)) .nil))))))))))))))))))))))
        have s05 := (s03.trans s34).trans sw
        generalize upd H4 l12 (.lst (oddA t1 t2 ++ [V.ref t4, V.ref l5, V.ref d6, V.ref l7, V.ref t8, V.ref t10])) = H5 at *
        generalize oddA t1 t2 ++ [V.ref t4, V.ref l5, V.ref d6, V.ref l7, V.ref t8, V.ref t10] = xs at *
        refine ⟨.ref d, rfl, d, b, c, n, 23, rfl, dr12.dk, by omega, by decide, by decide, fun v n' H6 v0 v1 dr6 => ?_⟩
        obtain ⟨j, rfl⟩ : ∃ j : Nat, v = (j : Int) := ⟨v.toNat, by omega⟩
        have xl : xs.length = 23 := DaAll.len all
        have hj : j < xs.length := by omega
        obtain ⟨e, he, hxe⟩ := DaAll.get all (List.getElem?_eq_getElem hj)
        exact ⟨l12, xs, _, xs[j], rfl, rfl, SqL.of (dr6.at w12.off w12.at_p), atI_nat (List.getElem?_eq_getElem hj), q _ e n' H6 (List.mem_of_getElem? he) (dr12.step dr6) (hxe.mono ((Ck.same hC s05).sm dr6))⟩
abbrev sINoDemand : Stmt := inS (topS 2)
theorem scINoDemand : FnScope ["self", "demand"] ["self", "demand"] (defScope sINoDemand) := ⟨rfl, rfl, rfl, by decide +kernel, rfl, by decide +kernel, by decide +kernel⟩
theorem ok_initNoDemand {f C : Addr} {fd : FuncData} (F : Fun K "__init__" "NoDemand.__init__" sINoDemand f fd) (T : OexC K C) (no : PySem.W.findIn K (.ref C) "demand" = some none) : FnOk P w K mg base CX0 1 f fd ["self", "demand"] (spInit C "demand") := by
  refine F.ok scINoDemand (fun vs H Q E h => ?_) (fun cdv A outer s H vs Q E hr h => ?_)
  · obtain ⟨a, y, rfl, _⟩ := h
    rfl
  · obtain ⟨a, y, rfl, ha, q⟩ := h
    exact ⟨_, pss_one (ps_ost (pv 0) (pv 1)), y, rfl, .ref a, rfl, a, C, rfl, T, no, .inl ⟨ha, q⟩⟩
abbrev sINoOffer : Stmt := inS (topS 4)
theorem scINoOffer : FnScope ["self", "offer"] ["self", "offer"] (defScope sINoOffer) := ⟨rfl, rfl, rfl, by decide +kernel, rfl, by decide +kernel, by decide +kernel⟩
theorem ok_initNoOffer {f C : Addr} {fd : FuncData} (F : Fun K "__init__" "NoOffer.__init__" sINoOffer f fd) (T : OexC K C) (no : PySem.W.findIn K (.ref C) "offer" = some none) : FnOk P w K mg base CX0 1 f fd ["self", "offer"] (spInit C "offer") := by
  refine F.ok scINoOffer (fun vs H Q E h => ?_) (fun cdv A outer s H vs Q E hr h => ?_)
  · obtain ⟨a, y, rfl, _⟩ := h
    rfl
  · obtain ⟨a, y, rfl, ha, q⟩ := h
    exact ⟨_, pss_one (ps_ost (pv 0) (pv 1)), y, rfl, .ref a, rfl, a, C, rfl, T, no, .inl ⟨ha, q⟩⟩
abbrev sINotOrderable : Stmt := inS (topS 7)
theorem scINotOrderable : FnScope ["self", "ring"] ["self", "ring"] (defScope sINotOrderable) := ⟨rfl, rfl, rfl, by decide +kernel, rfl, by decide +kernel, by decide +kernel⟩
theorem ok_initNotOrderable {f C : Addr} {fd : FuncData} (F : Fun K "__init__" "NotOrderable.__init__" sINotOrderable f fd) (T : OexC K C) (no : PySem.W.findIn K (.ref C) "ring" = some none) : FnOk P w K mg base CX0 1 f fd ["self", "ring"] (spInit C "ring") := by
  refine F.ok scINotOrderable (fun vs H Q E h => ?_) (fun cdv A outer s H vs Q E hr h => ?_)
  · obtain ⟨a, y, rfl, _⟩ := h
    rfl
  · obtain ⟨a, y, rfl, ha, q⟩ := h
    exact ⟨_, pss_one (ps_ost (pv 0) (pv 1)), y, rfl, .ref a, rfl, a, C, rfl, T, no, .inl ⟨ha, q⟩⟩
abbrev sINoIndex : Stmt := inS (topS 8)
theorem scINoIndex : FnScope ["self", "index"] ["self", "index"] (defScope sINoIndex) := ⟨rfl, rfl, rfl, by decide +kernel, rfl, by decide +kernel, by decide +kernel⟩
theorem ok_initNoIndex {f C : Addr} {fd : FuncData} (F : Fun K "__init__" "NoIndex.__init__" sINoIndex f fd) (T : OexC K C) (no : PySem.W.findIn K (.ref C) "index" = some none) : FnOk P w K mg base CX0 1 f fd ["self", "index"] (spInit C "index") := by
  refine F.ok scINoIndex (fun vs H Q E h => ?_) (fun cdv A outer s H vs Q E hr h => ?_)
  · obtain ⟨a, y, rfl, _⟩ := h
    rfl
  · obtain ⟨a, y, rfl, ha, q⟩ := h
    exact ⟨_, pss_one (ps_ost (pv 0) (pv 1)), y, rfl, .ref a, rfl, a, C, rfl, T, no, .inl ⟨ha, q⟩⟩
abbrev sINotCovered : Stmt := inS (topS 10)
theorem scINotCovered : FnScope ["self", "demand"] ["self", "demand"] (defScope sINotCovered) := ⟨rfl, rfl, rfl, by decide +kernel, rfl, by decide +kernel, by decide +kernel⟩
theorem ok_initNotCovered {f C : Addr} {fd : FuncData} (F : Fun K "__init__" "NotCovered.__init__" sINotCovered f fd) (T : OexC K C) (no : PySem.W.findIn K (.ref C) "demand" = some none) : FnOk P w K mg base CX0 1 f fd ["self", "demand"] (spInit C "demand") := by
  refine F.ok scINotCovered (fun vs H Q E h => ?_) (fun cdv A outer s H vs Q E hr h => ?_)
  · obtain ⟨a, y, rfl, _⟩ := h
    rfl
  · obtain ⟨a, y, rfl, ha, q⟩ := h
    exact ⟨_, pss_one (ps_ost (pv 0) (pv 1)), y, rfl, .ref a, rfl, a, C, rfl, T, no, .inl ⟨ha, q⟩⟩
abbrev sINoVertex : Stmt := inS (topS 12)
theorem scINoVertex : FnScope ["self", "vertex"] ["self", "vertex"] (defScope sINoVertex) := ⟨rfl, rfl, rfl, by decide +kernel, rfl, by decide +kernel, by decide +kernel⟩
theorem ok_initNoVertex {f C : Addr} {fd : FuncData} (F : Fun K "__init__" "NoVertex.__init__" sINoVertex f fd) (T : OexC K C) (no : PySem.W.findIn K (.ref C) "vertex" = some none) : FnOk P w K mg base CX0 1 f fd ["self", "vertex"] (spInit C "vertex") := by
  refine F.ok scINoVertex (fun vs H Q E h => ?_) (fun cdv A outer s H vs Q E hr h => ?_)
  · obtain ⟨a, y, rfl, _⟩ := h
    rfl
  · obtain ⟨a, y, rfl, ha, q⟩ := h
    exact ⟨_, pss_one (ps_ost (pv 0) (pv 1)), y, rfl, .ref a, rfl, a, C, rfl, T, no, .inl ⟨ha, q⟩⟩
abbrev sINoPosition : Stmt := inS (topS 14)
theorem scINoPosition : FnScope ["self", "position"] ["self", "position"] (defScope sINoPosition) := ⟨rfl, rfl, rfl, by decide +kernel, rfl, by decide +kernel, by decide +kernel⟩
theorem ok_initNoPosition {f C : Addr} {fd : FuncData} (F : Fun K "__init__" "NoPosition.__init__" sINoPosition f fd) (T : OexC K C) (no : PySem.W.findIn K (.ref C) "position" = some none) : FnOk P w K mg base CX0 1 f fd ["self", "position"] (spInit C "position") := by
  refine F.ok scINoPosition (fun vs H Q E h => ?_) (fun cdv A outer s H vs Q E hr h => ?_)
  · obtain ⟨a, y, rfl, _⟩ := h
    rfl
  · obtain ⟨a, y, rfl, ha, q⟩ := h
    exact ⟨_, pss_one (ps_ost (pv 0) (pv 1)), y, rfl, .ref a, rfl, a, C, rfl, T, no, .inl ⟨ha, q⟩⟩
abbrev sINoAmount : Stmt := inS (topS 16)
theorem scINoAmount : FnScope ["self", "amount"] ["self", "amount"] (defScope sINoAmount) := ⟨rfl, rfl, rfl, by decide +kernel, rfl, by decide +kernel, by decide +kernel⟩
theorem ok_initNoAmount {f C : Addr} {fd : FuncData} (F : Fun K "__init__" "NoAmount.__init__" sINoAmount f fd) (T : OexC K C) (no : PySem.W.findIn K (.ref C) "amount" = some none) : FnOk P w K mg base CX0 1 f fd ["self", "amount"] (spInit C "amount") := by
  refine F.ok scINoAmount (fun vs H Q E h => ?_) (fun cdv A outer s H vs Q E hr h => ?_)
  · obtain ⟨a, y, rfl, _⟩ := h
    rfl
  · obtain ⟨a, y, rfl, ha, q⟩ := h
    exact ⟨_, pss_one (ps_ost (pv 0) (pv 1)), y, rfl, .ref a, rfl, a, C, rfl, T, no, .inl ⟨ha, q⟩⟩
abbrev sITooMany : Stmt := inS (topS 17)
theorem scITooMany : FnScope ["self", "limit"] ["self", "limit"] (defScope sITooMany) := ⟨rfl, rfl, rfl, by decide +kernel, rfl, by decide +kernel, by decide +kernel⟩
theorem ok_initTooMany {f C : Addr} {fd : FuncData} (F : Fun K "__init__" "TooMany.__init__" sITooMany f fd) (T : OexC K C) (no : PySem.W.findIn K (.ref C) "limit" = some none) : FnOk P w K mg base CX0 1 f fd ["self", "limit"] (spInit C "limit") := by
  refine F.ok scITooMany (fun vs H Q E h => ?_) (fun cdv A outer s H vs Q E hr h => ?_)
  · obtain ⟨a, y, rfl, _⟩ := h
    rfl
  · obtain ⟨a, y, rfl, ha, q⟩ := h
    exact ⟨_, pss_one (ps_ost (pv 0) (pv 1)), y, rfl, .ref a, rfl, a, C, rfl, T, no, .inl ⟨ha, q⟩⟩
abbrev sINoMoment : Stmt := inS (topS 23)
theorem scINoMoment : FnScope ["self", "at"] ["self", "at"] (defScope sINoMoment) := ⟨rfl, rfl, rfl, by decide +kernel, rfl, by decide +kernel, by decide +kernel⟩
theorem ok_initNoMoment {f C : Addr} {fd : FuncData} (F : Fun K "__init__" "NoMoment.__init__" sINoMoment f fd) (T : OexC K C) (no : PySem.W.findIn K (.ref C) "at" = some none) : FnOk P w K mg base CX0 1 f fd ["self", "at"] (spInit C "at") := by
  refine F.ok scINoMoment (fun vs H Q E h => ?_) (fun cdv A outer s H vs Q E hr h => ?_)
  · obtain ⟨a, y, rfl, _⟩ := h
    rfl
  · obtain ⟨a, y, rfl, ha, q⟩ := h
    exact ⟨_, pss_one (ps_ost (pv 0) (pv 1)), y, rfl, .ref a, rfl, a, C, rfl, T, no, .inl ⟨ha, q⟩⟩
abbrev sIFailed : Stmt := inS (topS 25)
theorem scIFailed : FnScope ["self", "index"] ["self", "index"] (defScope sIFailed) := ⟨rfl, rfl, rfl, by decide +kernel, rfl, by decide +kernel, by decide +kernel⟩
theorem ok_initFailed {f C : Addr} {fd : FuncData} (F : Fun K "__init__" "Failed.__init__" sIFailed f fd) (T : OexC K C) (no : PySem.W.findIn K (.ref C) "index" = some none) : FnOk P w K mg base CX0 1 f fd ["self", "index"] (spInit C "index") := by
  refine F.ok scIFailed (fun vs H Q E h => ?_) (fun cdv A outer s H vs Q E hr h => ?_)
  · obtain ⟨a, y, rfl, _⟩ := h
    rfl
  · obtain ⟨a, y, rfl, ha, q⟩ := h
    exact ⟨_, pss_one (ps_ost (pv 0) (pv 1)), y, rfl, .ref a, rfl, a, C, rfl, T, no, .inl ⟨ha, q⟩⟩
abbrev sIBlocked : Stmt := inS (topS 26)
theorem scIBlocked : FnScope ["self", "ring"] ["self", "ring"] (defScope sIBlocked) := ⟨rfl, rfl, rfl, by decide +kernel, rfl, by decide +kernel, by decide +kernel⟩
theorem ok_initBlocked {f C : Addr} {fd : FuncData} (F : Fun K "__init__" "Blocked.__init__" sIBlocked f fd) (T : OexC K C) (no : PySem.W.findIn K (.ref C) "ring" = some none) : FnOk P w K mg base CX0 1 f fd ["self", "ring"] (spInit C "ring") := by
  refine F.ok scIBlocked (fun vs H Q E h => ?_) (fun cdv A outer s H vs Q E hr h => ?_)
  · obtain ⟨a, y, rfl, _⟩ := h
    rfl
  · obtain ⟨a, y, rfl, ha, q⟩ := h
    exact ⟨_, pss_one (ps_ost (pv 0) (pv 1)), y, rfl, .ref a, rfl, a, C, rfl, T, no, .inl ⟨ha, q⟩⟩
abbrev sIBadText : Stmt := inS (topS 27)
theorem scIBadText : FnScope ["self", "line"] ["self", "line"] (defScope sIBadText) := ⟨rfl, rfl, rfl, by decide +kernel, rfl, by decide +kernel, by decide +kernel⟩
theorem ok_initBadText {f C : Addr} {fd : FuncData} (F : Fun K "__init__" "BadText.__init__" sIBadText f fd) (T : OexC K C) (no : PySem.W.findIn K (.ref C) "line" = some none) : FnOk P w K mg base CX0 1 f fd ["self", "line"] (spInit C "line") := by
  refine F.ok scIBadText (fun vs H Q E h => ?_) (fun cdv A outer s H vs Q E hr h => ?_)
  · obtain ⟨a, y, rfl, _⟩ := h
    rfl
  · obtain ⟨a, y, rfl, ha, q⟩ := h
    exact ⟨_, pss_one (ps_ost (pv 0) (pv 1)), y, rfl, .ref a, rfl, a, C, rfl, T, no, .inl ⟨ha, q⟩⟩
end
end L01

set_option Elab.async false
set_option linter.all false
set_option maxRecDepth 100000
namespace L01
open PySem PySem.Spec PyProof.Rows L2 Pb
set_option maxHeartbeats 4000000 in
theorem all_mk {P : Program} {w : World} {K : PySem.W.Frag} {mg : Str → Option Value} {fa qa qb qc qd qe qf qg qh qi qj qk ql qm qn qo qp qq qr qs qt qu qv qw qx qy qz oo : Addr} {h : Heap} (X : K.In h) (G : h.Ns mainGlobals mg) (hfa : mg "law" = some (.ref fa)) (B : Bx mg)
    (g_LOG_SIZE : ∃ t, mg "LOG_SIZE" = some (.int 100 t))
    (g_MAX_AMOUNT : ∃ t, mg "MAX_AMOUNT" = some (.int 1000000000000 t))
    (g_MAX_BATCH : ∃ t, mg "MAX_BATCH" = some (.int 20 t))
    (g_MAX_BLOCKS : ∃ t, mg "MAX_BLOCKS" = some (.int 6 t))
    (g_MAX_DEMANDS : ∃ t, mg "MAX_DEMANDS" = some (.int 10 t))
    (g_MAX_OFFERS : ∃ t, mg "MAX_OFFERS" = some (.int 10 t))
    (g_MAX_OPERATIONS : ∃ t, mg "MAX_OPERATIONS" = some (.int 60 t))
    (goo : mg "OrderError" = some (.ref oo))
    (oohs : PySem.W.subIn K (.ref oo) (.type "BaseException") = some true)
    (oohd : PySem.W.hasDictIn K oo = true)
    (oott : PySem.W.typeIn K (.ref oo) = some (.type "type"))
    (gqa : mg "NoDemand" = some (.ref qa))
    (qahg : PySem.W.findIn K (.ref qa) "__getattribute__" = some (some (.builtin "BaseException.__getattribute__")))
    (qahk : PySem.W.findIn K (.ref qa) "__getattr__" = some none)
    (qahs : PySem.W.subIn K (.ref qa) (.type "BaseException") = some true)
    (qahd : PySem.W.hasDictIn K qa = true)
    (qaha : PySem.W.findIn K (.ref qa) "__class__" = some (some (.builtin "object.__class__")))
    (qahm : PySem.W.mroIn K qa (.type "object") = some true)
    (qatt : PySem.W.typeIn K (.ref qa) = some (.type "type"))
    (qakk : PySem.W.keepIn K (.ref qa) = true)
    (qaii : PySem.W.isClsIn K qa = true)
    (qasv : PySem.W.subIn K (.ref qa) (.type "ValueError") = some true)
    (qaco : PySem.W.subIn K (.ref qa) (.ref oo) = some true)
    (qaox : ∃ nm q N bs bm sn sub ab col dd k0 k1 k2 k3 k5, K.lookup qa = some (excClassObj nm q qa N bs bm true sn sub ab col dd k0 k1 k2 k3 k5 "ValueError.__new__") ∧ PySem.HandSPX.refsVE bm = true)
    (qasa : PySem.W.findIn K (.ref qa) "__setattr__" = some (some (.builtin "object.__setattr__")))
    (qano : PySem.W.findIn K (.ref qa) "demand" = some none)
    (qadi : Di K qa "NoDemand.__init__" sINoDemand)
    (gqb : mg "NoDemands" = some (.ref qb))
    (qbhg : PySem.W.findIn K (.ref qb) "__getattribute__" = some (some (.builtin "BaseException.__getattribute__")))
    (qbhk : PySem.W.findIn K (.ref qb) "__getattr__" = some none)
    (qbhs : PySem.W.subIn K (.ref qb) (.type "BaseException") = some true)
    (qbhd : PySem.W.hasDictIn K qb = true)
    (qbha : PySem.W.findIn K (.ref qb) "__class__" = some (some (.builtin "object.__class__")))
    (qbhm : PySem.W.mroIn K qb (.type "object") = some true)
    (qbtt : PySem.W.typeIn K (.ref qb) = some (.type "type"))
    (qbkk : PySem.W.keepIn K (.ref qb) = true)
    (qbii : PySem.W.isClsIn K qb = true)
    (qbsv : PySem.W.subIn K (.ref qb) (.type "ValueError") = some true)
    (qbco : PySem.W.subIn K (.ref qb) (.ref oo) = some true)
    (qbcx : PySem.W.excIn K qb veT "ValueError.__new__" = true)
    (gqc : mg "NoOffer" = some (.ref qc))
    (qchg : PySem.W.findIn K (.ref qc) "__getattribute__" = some (some (.builtin "BaseException.__getattribute__")))
    (qchk : PySem.W.findIn K (.ref qc) "__getattr__" = some none)
    (qchs : PySem.W.subIn K (.ref qc) (.type "BaseException") = some true)
    (qchd : PySem.W.hasDictIn K qc = true)
    (qcha : PySem.W.findIn K (.ref qc) "__class__" = some (some (.builtin "object.__class__")))
    (qchm : PySem.W.mroIn K qc (.type "object") = some true)
    (qctt : PySem.W.typeIn K (.ref qc) = some (.type "type"))
    (qckk : PySem.W.keepIn K (.ref qc) = true)
    (qcii : PySem.W.isClsIn K qc = true)
    (qcsv : PySem.W.subIn K (.ref qc) (.type "ValueError") = some true)
    (qcco : PySem.W.subIn K (.ref qc) (.ref oo) = some true)
    (qcox : ∃ nm q N bs bm sn sub ab col dd k0 k1 k2 k3 k5, K.lookup qc = some (excClassObj nm q qc N bs bm true sn sub ab col dd k0 k1 k2 k3 k5 "ValueError.__new__") ∧ PySem.HandSPX.refsVE bm = true)
    (qcsa : PySem.W.findIn K (.ref qc) "__setattr__" = some (some (.builtin "object.__setattr__")))
    (qcno : PySem.W.findIn K (.ref qc) "offer" = some none)
    (qcdi : Di K qc "NoOffer.__init__" sINoOffer)
    (gqd : mg "NoOffers" = some (.ref qd))
    (qdhg : PySem.W.findIn K (.ref qd) "__getattribute__" = some (some (.builtin "BaseException.__getattribute__")))
    (qdhk : PySem.W.findIn K (.ref qd) "__getattr__" = some none)
    (qdhs : PySem.W.subIn K (.ref qd) (.type "BaseException") = some true)
    (qdhd : PySem.W.hasDictIn K qd = true)
    (qdha : PySem.W.findIn K (.ref qd) "__class__" = some (some (.builtin "object.__class__")))
    (qdhm : PySem.W.mroIn K qd (.type "object") = some true)
    (qdtt : PySem.W.typeIn K (.ref qd) = some (.type "type"))
    (qdkk : PySem.W.keepIn K (.ref qd) = true)
    (qdii : PySem.W.isClsIn K qd = true)
    (qdsv : PySem.W.subIn K (.ref qd) (.type "ValueError") = some true)
    (qdco : PySem.W.subIn K (.ref qd) (.ref oo) = some true)
    (qdcx : PySem.W.excIn K qd veT "ValueError.__new__" = true)
    (gqe : mg "NoOrder" = some (.ref qe))
    (qehg : PySem.W.findIn K (.ref qe) "__getattribute__" = some (some (.builtin "BaseException.__getattribute__")))
    (qehk : PySem.W.findIn K (.ref qe) "__getattr__" = some none)
    (qehs : PySem.W.subIn K (.ref qe) (.type "BaseException") = some true)
    (qehd : PySem.W.hasDictIn K qe = true)
    (qeha : PySem.W.findIn K (.ref qe) "__class__" = some (some (.builtin "object.__class__")))
    (qehm : PySem.W.mroIn K qe (.type "object") = some true)
    (qett : PySem.W.typeIn K (.ref qe) = some (.type "type"))
    (qekk : PySem.W.keepIn K (.ref qe) = true)
    (qeii : PySem.W.isClsIn K qe = true)
    (qesv : PySem.W.subIn K (.ref qe) (.type "ValueError") = some true)
    (qeco : PySem.W.subIn K (.ref qe) (.ref oo) = some true)
    (qecx : PySem.W.excIn K qe veT "ValueError.__new__" = true)
    (gqf : mg "NotOrderable" = some (.ref qf))
    (qfhg : PySem.W.findIn K (.ref qf) "__getattribute__" = some (some (.builtin "BaseException.__getattribute__")))
    (qfhk : PySem.W.findIn K (.ref qf) "__getattr__" = some none)
    (qfhs : PySem.W.subIn K (.ref qf) (.type "BaseException") = some true)
    (qfhd : PySem.W.hasDictIn K qf = true)
    (qfha : PySem.W.findIn K (.ref qf) "__class__" = some (some (.builtin "object.__class__")))
    (qfhm : PySem.W.mroIn K qf (.type "object") = some true)
    (qftt : PySem.W.typeIn K (.ref qf) = some (.type "type"))
    (qfkk : PySem.W.keepIn K (.ref qf) = true)
    (qfii : PySem.W.isClsIn K qf = true)
    (qfsv : PySem.W.subIn K (.ref qf) (.type "ValueError") = some true)
    (qfco : PySem.W.subIn K (.ref qf) (.ref oo) = some true)
    (qfox : ∃ nm q N bs bm sn sub ab col dd k0 k1 k2 k3 k5, K.lookup qf = some (excClassObj nm q qf N bs bm true sn sub ab col dd k0 k1 k2 k3 k5 "ValueError.__new__") ∧ PySem.HandSPX.refsVE bm = true)
    (qfsa : PySem.W.findIn K (.ref qf) "__setattr__" = some (some (.builtin "object.__setattr__")))
    (qfno : PySem.W.findIn K (.ref qf) "ring" = some none)
    (qfdi : Di K qf "NotOrderable.__init__" sINotOrderable)
    (gqg : mg "NoIndex" = some (.ref qg))
    (qghg : PySem.W.findIn K (.ref qg) "__getattribute__" = some (some (.builtin "BaseException.__getattribute__")))
    (qghk : PySem.W.findIn K (.ref qg) "__getattr__" = some none)
    (qghs : PySem.W.subIn K (.ref qg) (.type "BaseException") = some true)
    (qghd : PySem.W.hasDictIn K qg = true)
    (qgha : PySem.W.findIn K (.ref qg) "__class__" = some (some (.builtin "object.__class__")))
    (qghm : PySem.W.mroIn K qg (.type "object") = some true)
    (qgtt : PySem.W.typeIn K (.ref qg) = some (.type "type"))
    (qgkk : PySem.W.keepIn K (.ref qg) = true)
    (qgii : PySem.W.isClsIn K qg = true)
    (qgsv : PySem.W.subIn K (.ref qg) (.type "ValueError") = some true)
    (qgco : PySem.W.subIn K (.ref qg) (.ref oo) = some true)
    (qgox : ∃ nm q N bs bm sn sub ab col dd k0 k1 k2 k3 k5, K.lookup qg = some (excClassObj nm q qg N bs bm true sn sub ab col dd k0 k1 k2 k3 k5 "ValueError.__new__") ∧ PySem.HandSPX.refsVE bm = true)
    (qgsa : PySem.W.findIn K (.ref qg) "__setattr__" = some (some (.builtin "object.__setattr__")))
    (qgno : PySem.W.findIn K (.ref qg) "index" = some none)
    (qgdi : Di K qg "NoIndex.__init__" sINoIndex)
    (gqh : mg "NoChoice" = some (.ref qh))
    (qhhg : PySem.W.findIn K (.ref qh) "__getattribute__" = some (some (.builtin "BaseException.__getattribute__")))
    (qhhk : PySem.W.findIn K (.ref qh) "__getattr__" = some none)
    (qhhs : PySem.W.subIn K (.ref qh) (.type "BaseException") = some true)
    (qhhd : PySem.W.hasDictIn K qh = true)
    (qhha : PySem.W.findIn K (.ref qh) "__class__" = some (some (.builtin "object.__class__")))
    (qhhm : PySem.W.mroIn K qh (.type "object") = some true)
    (qhtt : PySem.W.typeIn K (.ref qh) = some (.type "type"))
    (qhkk : PySem.W.keepIn K (.ref qh) = true)
    (qhii : PySem.W.isClsIn K qh = true)
    (qhsv : PySem.W.subIn K (.ref qh) (.type "ValueError") = some true)
    (qhco : PySem.W.subIn K (.ref qh) (.ref oo) = some true)
    (qhcx : PySem.W.excIn K qh veT "ValueError.__new__" = true)
    (gqi : mg "NotCovered" = some (.ref qi))
    (qihg : PySem.W.findIn K (.ref qi) "__getattribute__" = some (some (.builtin "BaseException.__getattribute__")))
    (qihk : PySem.W.findIn K (.ref qi) "__getattr__" = some none)
    (qihs : PySem.W.subIn K (.ref qi) (.type "BaseException") = some true)
    (qihd : PySem.W.hasDictIn K qi = true)
    (qiha : PySem.W.findIn K (.ref qi) "__class__" = some (some (.builtin "object.__class__")))
    (qihm : PySem.W.mroIn K qi (.type "object") = some true)
    (qitt : PySem.W.typeIn K (.ref qi) = some (.type "type"))
    (qikk : PySem.W.keepIn K (.ref qi) = true)
    (qiii : PySem.W.isClsIn K qi = true)
    (qisv : PySem.W.subIn K (.ref qi) (.type "ValueError") = some true)
    (qico : PySem.W.subIn K (.ref qi) (.ref oo) = some true)
    (qiox : ∃ nm q N bs bm sn sub ab col dd k0 k1 k2 k3 k5, K.lookup qi = some (excClassObj nm q qi N bs bm true sn sub ab col dd k0 k1 k2 k3 k5 "ValueError.__new__") ∧ PySem.HandSPX.refsVE bm = true)
    (qisa : PySem.W.findIn K (.ref qi) "__setattr__" = some (some (.builtin "object.__setattr__")))
    (qino : PySem.W.findIn K (.ref qi) "demand" = some none)
    (qidi : Di K qi "NotCovered.__init__" sINotCovered)
    (gqj : mg "NoIntervals" = some (.ref qj))
    (qjhg : PySem.W.findIn K (.ref qj) "__getattribute__" = some (some (.builtin "BaseException.__getattribute__")))
    (qjhk : PySem.W.findIn K (.ref qj) "__getattr__" = some none)
    (qjhs : PySem.W.subIn K (.ref qj) (.type "BaseException") = some true)
    (qjhd : PySem.W.hasDictIn K qj = true)
    (qjha : PySem.W.findIn K (.ref qj) "__class__" = some (some (.builtin "object.__class__")))
    (qjhm : PySem.W.mroIn K qj (.type "object") = some true)
    (qjtt : PySem.W.typeIn K (.ref qj) = some (.type "type"))
    (qjkk : PySem.W.keepIn K (.ref qj) = true)
    (qjii : PySem.W.isClsIn K qj = true)
    (qjsv : PySem.W.subIn K (.ref qj) (.type "ValueError") = some true)
    (qjco : PySem.W.subIn K (.ref qj) (.ref oo) = some true)
    (qjcx : PySem.W.excIn K qj veT "ValueError.__new__" = true)
    (gqk : mg "NoVertex" = some (.ref qk))
    (qkhg : PySem.W.findIn K (.ref qk) "__getattribute__" = some (some (.builtin "BaseException.__getattribute__")))
    (qkhk : PySem.W.findIn K (.ref qk) "__getattr__" = some none)
    (qkhs : PySem.W.subIn K (.ref qk) (.type "BaseException") = some true)
    (qkhd : PySem.W.hasDictIn K qk = true)
    (qkha : PySem.W.findIn K (.ref qk) "__class__" = some (some (.builtin "object.__class__")))
    (qkhm : PySem.W.mroIn K qk (.type "object") = some true)
    (qktt : PySem.W.typeIn K (.ref qk) = some (.type "type"))
    (qkkk : PySem.W.keepIn K (.ref qk) = true)
    (qkii : PySem.W.isClsIn K qk = true)
    (qksv : PySem.W.subIn K (.ref qk) (.type "ValueError") = some true)
    (qkco : PySem.W.subIn K (.ref qk) (.ref oo) = some true)
    (qkox : ∃ nm q N bs bm sn sub ab col dd k0 k1 k2 k3 k5, K.lookup qk = some (excClassObj nm q qk N bs bm true sn sub ab col dd k0 k1 k2 k3 k5 "ValueError.__new__") ∧ PySem.HandSPX.refsVE bm = true)
    (qksa : PySem.W.findIn K (.ref qk) "__setattr__" = some (some (.builtin "object.__setattr__")))
    (qkno : PySem.W.findIn K (.ref qk) "vertex" = some none)
    (qkdi : Di K qk "NoVertex.__init__" sINoVertex)
    (gql : mg "NoBalls" = some (.ref ql))
    (qlhg : PySem.W.findIn K (.ref ql) "__getattribute__" = some (some (.builtin "BaseException.__getattribute__")))
    (qlhk : PySem.W.findIn K (.ref ql) "__getattr__" = some none)
    (qlhs : PySem.W.subIn K (.ref ql) (.type "BaseException") = some true)
    (qlhd : PySem.W.hasDictIn K ql = true)
    (qlha : PySem.W.findIn K (.ref ql) "__class__" = some (some (.builtin "object.__class__")))
    (qlhm : PySem.W.mroIn K ql (.type "object") = some true)
    (qltt : PySem.W.typeIn K (.ref ql) = some (.type "type"))
    (qlkk : PySem.W.keepIn K (.ref ql) = true)
    (qlii : PySem.W.isClsIn K ql = true)
    (qlsv : PySem.W.subIn K (.ref ql) (.type "ValueError") = some true)
    (qlco : PySem.W.subIn K (.ref ql) (.ref oo) = some true)
    (qlcx : PySem.W.excIn K ql veT "ValueError.__new__" = true)
    (gqm : mg "NoPosition" = some (.ref qm))
    (qmhg : PySem.W.findIn K (.ref qm) "__getattribute__" = some (some (.builtin "BaseException.__getattribute__")))
    (qmhk : PySem.W.findIn K (.ref qm) "__getattr__" = some none)
    (qmhs : PySem.W.subIn K (.ref qm) (.type "BaseException") = some true)
    (qmhd : PySem.W.hasDictIn K qm = true)
    (qmha : PySem.W.findIn K (.ref qm) "__class__" = some (some (.builtin "object.__class__")))
    (qmhm : PySem.W.mroIn K qm (.type "object") = some true)
    (qmtt : PySem.W.typeIn K (.ref qm) = some (.type "type"))
    (qmkk : PySem.W.keepIn K (.ref qm) = true)
    (qmii : PySem.W.isClsIn K qm = true)
    (qmsv : PySem.W.subIn K (.ref qm) (.type "ValueError") = some true)
    (qmco : PySem.W.subIn K (.ref qm) (.ref oo) = some true)
    (qmox : ∃ nm q N bs bm sn sub ab col dd k0 k1 k2 k3 k5, K.lookup qm = some (excClassObj nm q qm N bs bm true sn sub ab col dd k0 k1 k2 k3 k5 "ValueError.__new__") ∧ PySem.HandSPX.refsVE bm = true)
    (qmsa : PySem.W.findIn K (.ref qm) "__setattr__" = some (some (.builtin "object.__setattr__")))
    (qmno : PySem.W.findIn K (.ref qm) "position" = some none)
    (qmdi : Di K qm "NoPosition.__init__" sINoPosition)
    (gqn : mg "NoPositions" = some (.ref qn))
    (qnhg : PySem.W.findIn K (.ref qn) "__getattribute__" = some (some (.builtin "BaseException.__getattribute__")))
    (qnhk : PySem.W.findIn K (.ref qn) "__getattr__" = some none)
    (qnhs : PySem.W.subIn K (.ref qn) (.type "BaseException") = some true)
    (qnhd : PySem.W.hasDictIn K qn = true)
    (qnha : PySem.W.findIn K (.ref qn) "__class__" = some (some (.builtin "object.__class__")))
    (qnhm : PySem.W.mroIn K qn (.type "object") = some true)
    (qntt : PySem.W.typeIn K (.ref qn) = some (.type "type"))
    (qnkk : PySem.W.keepIn K (.ref qn) = true)
    (qnii : PySem.W.isClsIn K qn = true)
    (qnsv : PySem.W.subIn K (.ref qn) (.type "ValueError") = some true)
    (qnco : PySem.W.subIn K (.ref qn) (.ref oo) = some true)
    (qncx : PySem.W.excIn K qn veT "ValueError.__new__" = true)
    (gqo : mg "NoAmount" = some (.ref qo))
    (qohg : PySem.W.findIn K (.ref qo) "__getattribute__" = some (some (.builtin "BaseException.__getattribute__")))
    (qohk : PySem.W.findIn K (.ref qo) "__getattr__" = some none)
    (qohs : PySem.W.subIn K (.ref qo) (.type "BaseException") = some true)
    (qohd : PySem.W.hasDictIn K qo = true)
    (qoha : PySem.W.findIn K (.ref qo) "__class__" = some (some (.builtin "object.__class__")))
    (qohm : PySem.W.mroIn K qo (.type "object") = some true)
    (qott : PySem.W.typeIn K (.ref qo) = some (.type "type"))
    (qokk : PySem.W.keepIn K (.ref qo) = true)
    (qoii : PySem.W.isClsIn K qo = true)
    (qosv : PySem.W.subIn K (.ref qo) (.type "ValueError") = some true)
    (qoco : PySem.W.subIn K (.ref qo) (.ref oo) = some true)
    (qoox : ∃ nm q N bs bm sn sub ab col dd k0 k1 k2 k3 k5, K.lookup qo = some (excClassObj nm q qo N bs bm true sn sub ab col dd k0 k1 k2 k3 k5 "ValueError.__new__") ∧ PySem.HandSPX.refsVE bm = true)
    (qosa : PySem.W.findIn K (.ref qo) "__setattr__" = some (some (.builtin "object.__setattr__")))
    (qono : PySem.W.findIn K (.ref qo) "amount" = some none)
    (qodi : Di K qo "NoAmount.__init__" sINoAmount)
    (gqp : mg "TooMany" = some (.ref qp))
    (qphg : PySem.W.findIn K (.ref qp) "__getattribute__" = some (some (.builtin "BaseException.__getattribute__")))
    (qphk : PySem.W.findIn K (.ref qp) "__getattr__" = some none)
    (qphs : PySem.W.subIn K (.ref qp) (.type "BaseException") = some true)
    (qphd : PySem.W.hasDictIn K qp = true)
    (qpha : PySem.W.findIn K (.ref qp) "__class__" = some (some (.builtin "object.__class__")))
    (qphm : PySem.W.mroIn K qp (.type "object") = some true)
    (qptt : PySem.W.typeIn K (.ref qp) = some (.type "type"))
    (qpkk : PySem.W.keepIn K (.ref qp) = true)
    (qpii : PySem.W.isClsIn K qp = true)
    (qpsv : PySem.W.subIn K (.ref qp) (.type "ValueError") = some true)
    (qpco : PySem.W.subIn K (.ref qp) (.ref oo) = some true)
    (qpox : ∃ nm q N bs bm sn sub ab col dd k0 k1 k2 k3 k5, K.lookup qp = some (excClassObj nm q qp N bs bm true sn sub ab col dd k0 k1 k2 k3 k5 "ValueError.__new__") ∧ PySem.HandSPX.refsVE bm = true)
    (qpsa : PySem.W.findIn K (.ref qp) "__setattr__" = some (some (.builtin "object.__setattr__")))
    (qpno : PySem.W.findIn K (.ref qp) "limit" = some none)
    (qpdi : Di K qp "TooMany.__init__" sITooMany)
    (gqq : mg "LastDemand" = some (.ref qq))
    (qqhg : PySem.W.findIn K (.ref qq) "__getattribute__" = some (some (.builtin "BaseException.__getattribute__")))
    (qqhk : PySem.W.findIn K (.ref qq) "__getattr__" = some none)
    (qqhs : PySem.W.subIn K (.ref qq) (.type "BaseException") = some true)
    (qqhd : PySem.W.hasDictIn K qq = true)
    (qqha : PySem.W.findIn K (.ref qq) "__class__" = some (some (.builtin "object.__class__")))
    (qqhm : PySem.W.mroIn K qq (.type "object") = some true)
    (qqtt : PySem.W.typeIn K (.ref qq) = some (.type "type"))
    (qqkk : PySem.W.keepIn K (.ref qq) = true)
    (qqii : PySem.W.isClsIn K qq = true)
    (qqsv : PySem.W.subIn K (.ref qq) (.type "ValueError") = some true)
    (qqco : PySem.W.subIn K (.ref qq) (.ref oo) = some true)
    (qqcx : PySem.W.excIn K qq veT "ValueError.__new__" = true)
    (gqr : mg "BadTable" = some (.ref qr))
    (qrhg : PySem.W.findIn K (.ref qr) "__getattribute__" = some (some (.builtin "BaseException.__getattribute__")))
    (qrhk : PySem.W.findIn K (.ref qr) "__getattr__" = some none)
    (qrhs : PySem.W.subIn K (.ref qr) (.type "BaseException") = some true)
    (qrhd : PySem.W.hasDictIn K qr = true)
    (qrha : PySem.W.findIn K (.ref qr) "__class__" = some (some (.builtin "object.__class__")))
    (qrhm : PySem.W.mroIn K qr (.type "object") = some true)
    (qrtt : PySem.W.typeIn K (.ref qr) = some (.type "type"))
    (qrkk : PySem.W.keepIn K (.ref qr) = true)
    (qrii : PySem.W.isClsIn K qr = true)
    (qrsv : PySem.W.subIn K (.ref qr) (.type "ValueError") = some true)
    (qrco : PySem.W.subIn K (.ref qr) (.ref oo) = some true)
    (qrcx : PySem.W.excIn K qr veT "ValueError.__new__" = true)
    (gqs : mg "BadPrices" = some (.ref qs))
    (qshg : PySem.W.findIn K (.ref qs) "__getattribute__" = some (some (.builtin "BaseException.__getattribute__")))
    (qshk : PySem.W.findIn K (.ref qs) "__getattr__" = some none)
    (qshs : PySem.W.subIn K (.ref qs) (.type "BaseException") = some true)
    (qshd : PySem.W.hasDictIn K qs = true)
    (qsha : PySem.W.findIn K (.ref qs) "__class__" = some (some (.builtin "object.__class__")))
    (qshm : PySem.W.mroIn K qs (.type "object") = some true)
    (qstt : PySem.W.typeIn K (.ref qs) = some (.type "type"))
    (qskk : PySem.W.keepIn K (.ref qs) = true)
    (qsii : PySem.W.isClsIn K qs = true)
    (qssv : PySem.W.subIn K (.ref qs) (.type "ValueError") = some true)
    (qsco : PySem.W.subIn K (.ref qs) (.ref oo) = some true)
    (qscx : PySem.W.excIn K qs veT "ValueError.__new__" = true)
    (gqt : mg "BadPenalties" = some (.ref qt))
    (qthg : PySem.W.findIn K (.ref qt) "__getattribute__" = some (some (.builtin "BaseException.__getattribute__")))
    (qthk : PySem.W.findIn K (.ref qt) "__getattr__" = some none)
    (qths : PySem.W.subIn K (.ref qt) (.type "BaseException") = some true)
    (qthd : PySem.W.hasDictIn K qt = true)
    (qtha : PySem.W.findIn K (.ref qt) "__class__" = some (some (.builtin "object.__class__")))
    (qthm : PySem.W.mroIn K qt (.type "object") = some true)
    (qttt : PySem.W.typeIn K (.ref qt) = some (.type "type"))
    (qtkk : PySem.W.keepIn K (.ref qt) = true)
    (qtii : PySem.W.isClsIn K qt = true)
    (qtsv : PySem.W.subIn K (.ref qt) (.type "ValueError") = some true)
    (qtco : PySem.W.subIn K (.ref qt) (.ref oo) = some true)
    (qtcx : PySem.W.excIn K qt veT "ValueError.__new__" = true)
    (gqu : mg "NothingToUndo" = some (.ref qu))
    (quhg : PySem.W.findIn K (.ref qu) "__getattribute__" = some (some (.builtin "BaseException.__getattribute__")))
    (quhk : PySem.W.findIn K (.ref qu) "__getattr__" = some none)
    (quhs : PySem.W.subIn K (.ref qu) (.type "BaseException") = some true)
    (quhd : PySem.W.hasDictIn K qu = true)
    (quha : PySem.W.findIn K (.ref qu) "__class__" = some (some (.builtin "object.__class__")))
    (quhm : PySem.W.mroIn K qu (.type "object") = some true)
    (qutt : PySem.W.typeIn K (.ref qu) = some (.type "type"))
    (qukk : PySem.W.keepIn K (.ref qu) = true)
    (quii : PySem.W.isClsIn K qu = true)
    (qusv : PySem.W.subIn K (.ref qu) (.type "ValueError") = some true)
    (quco : PySem.W.subIn K (.ref qu) (.ref oo) = some true)
    (qucx : PySem.W.excIn K qu veT "ValueError.__new__" = true)
    (gqv : mg "NoMoment" = some (.ref qv))
    (qvhg : PySem.W.findIn K (.ref qv) "__getattribute__" = some (some (.builtin "BaseException.__getattribute__")))
    (qvhk : PySem.W.findIn K (.ref qv) "__getattr__" = some none)
    (qvhs : PySem.W.subIn K (.ref qv) (.type "BaseException") = some true)
    (qvhd : PySem.W.hasDictIn K qv = true)
    (qvha : PySem.W.findIn K (.ref qv) "__class__" = some (some (.builtin "object.__class__")))
    (qvhm : PySem.W.mroIn K qv (.type "object") = some true)
    (qvtt : PySem.W.typeIn K (.ref qv) = some (.type "type"))
    (qvkk : PySem.W.keepIn K (.ref qv) = true)
    (qvii : PySem.W.isClsIn K qv = true)
    (qvsv : PySem.W.subIn K (.ref qv) (.type "ValueError") = some true)
    (qvco : PySem.W.subIn K (.ref qv) (.ref oo) = some true)
    (qvox : ∃ nm q N bs bm sn sub ab col dd k0 k1 k2 k3 k5, K.lookup qv = some (excClassObj nm q qv N bs bm true sn sub ab col dd k0 k1 k2 k3 k5 "ValueError.__new__") ∧ PySem.HandSPX.refsVE bm = true)
    (qvsa : PySem.W.findIn K (.ref qv) "__setattr__" = some (some (.builtin "object.__setattr__")))
    (qvno : PySem.W.findIn K (.ref qv) "at" = some none)
    (qvdi : Di K qv "NoMoment.__init__" sINoMoment)
    (gqw : mg "NoOperations" = some (.ref qw))
    (qwhg : PySem.W.findIn K (.ref qw) "__getattribute__" = some (some (.builtin "BaseException.__getattribute__")))
    (qwhk : PySem.W.findIn K (.ref qw) "__getattr__" = some none)
    (qwhs : PySem.W.subIn K (.ref qw) (.type "BaseException") = some true)
    (qwhd : PySem.W.hasDictIn K qw = true)
    (qwha : PySem.W.findIn K (.ref qw) "__class__" = some (some (.builtin "object.__class__")))
    (qwhm : PySem.W.mroIn K qw (.type "object") = some true)
    (qwtt : PySem.W.typeIn K (.ref qw) = some (.type "type"))
    (qwkk : PySem.W.keepIn K (.ref qw) = true)
    (qwii : PySem.W.isClsIn K qw = true)
    (qwsv : PySem.W.subIn K (.ref qw) (.type "ValueError") = some true)
    (qwco : PySem.W.subIn K (.ref qw) (.ref oo) = some true)
    (qwcx : PySem.W.excIn K qw veT "ValueError.__new__" = true)
    (gqx : mg "Failed" = some (.ref qx))
    (qxhg : PySem.W.findIn K (.ref qx) "__getattribute__" = some (some (.builtin "BaseException.__getattribute__")))
    (qxhk : PySem.W.findIn K (.ref qx) "__getattr__" = some none)
    (qxhs : PySem.W.subIn K (.ref qx) (.type "BaseException") = some true)
    (qxhd : PySem.W.hasDictIn K qx = true)
    (qxha : PySem.W.findIn K (.ref qx) "__class__" = some (some (.builtin "object.__class__")))
    (qxhm : PySem.W.mroIn K qx (.type "object") = some true)
    (qxtt : PySem.W.typeIn K (.ref qx) = some (.type "type"))
    (qxkk : PySem.W.keepIn K (.ref qx) = true)
    (qxii : PySem.W.isClsIn K qx = true)
    (qxsv : PySem.W.subIn K (.ref qx) (.type "ValueError") = some true)
    (qxco : PySem.W.subIn K (.ref qx) (.ref oo) = some true)
    (qxox : ∃ nm q N bs bm sn sub ab col dd k0 k1 k2 k3 k5, K.lookup qx = some (excClassObj nm q qx N bs bm true sn sub ab col dd k0 k1 k2 k3 k5 "ValueError.__new__") ∧ PySem.HandSPX.refsVE bm = true)
    (qxsa : PySem.W.findIn K (.ref qx) "__setattr__" = some (some (.builtin "object.__setattr__")))
    (qxno : PySem.W.findIn K (.ref qx) "index" = some none)
    (qxdi : Di K qx "Failed.__init__" sIFailed)
    (gqy : mg "Blocked" = some (.ref qy))
    (qyhg : PySem.W.findIn K (.ref qy) "__getattribute__" = some (some (.builtin "BaseException.__getattribute__")))
    (qyhk : PySem.W.findIn K (.ref qy) "__getattr__" = some none)
    (qyhs : PySem.W.subIn K (.ref qy) (.type "BaseException") = some true)
    (qyhd : PySem.W.hasDictIn K qy = true)
    (qyha : PySem.W.findIn K (.ref qy) "__class__" = some (some (.builtin "object.__class__")))
    (qyhm : PySem.W.mroIn K qy (.type "object") = some true)
    (qytt : PySem.W.typeIn K (.ref qy) = some (.type "type"))
    (qykk : PySem.W.keepIn K (.ref qy) = true)
    (qyii : PySem.W.isClsIn K qy = true)
    (qysv : PySem.W.subIn K (.ref qy) (.type "ValueError") = some true)
    (qyco : PySem.W.subIn K (.ref qy) (.ref oo) = some true)
    (qyox : ∃ nm q N bs bm sn sub ab col dd k0 k1 k2 k3 k5, K.lookup qy = some (excClassObj nm q qy N bs bm true sn sub ab col dd k0 k1 k2 k3 k5 "ValueError.__new__") ∧ PySem.HandSPX.refsVE bm = true)
    (qysa : PySem.W.findIn K (.ref qy) "__setattr__" = some (some (.builtin "object.__setattr__")))
    (qyno : PySem.W.findIn K (.ref qy) "ring" = some none)
    (qydi : Di K qy "Blocked.__init__" sIBlocked)
    (gqz : mg "BadText" = some (.ref qz))
    (qzhg : PySem.W.findIn K (.ref qz) "__getattribute__" = some (some (.builtin "BaseException.__getattribute__")))
    (qzhk : PySem.W.findIn K (.ref qz) "__getattr__" = some none)
    (qzhs : PySem.W.subIn K (.ref qz) (.type "BaseException") = some true)
    (qzhd : PySem.W.hasDictIn K qz = true)
    (qzha : PySem.W.findIn K (.ref qz) "__class__" = some (some (.builtin "object.__class__")))
    (qzhm : PySem.W.mroIn K qz (.type "object") = some true)
    (qztt : PySem.W.typeIn K (.ref qz) = some (.type "type"))
    (qzkk : PySem.W.keepIn K (.ref qz) = true)
    (qzii : PySem.W.isClsIn K qz = true)
    (qzsv : PySem.W.subIn K (.ref qz) (.type "ValueError") = some true)
    (qzco : PySem.W.subIn K (.ref qz) (.ref oo) = some true)
    (qzox : ∃ nm q N bs bm sn sub ab col dd k0 k1 k2 k3 k5, K.lookup qz = some (excClassObj nm q qz N bs bm true sn sub ab col dd k0 k1 k2 k3 k5 "ValueError.__new__") ∧ PySem.HandSPX.refsVE bm = true)
    (qzsa : PySem.W.findIn K (.ref qz) "__setattr__" = some (some (.builtin "object.__setattr__")))
    (qzno : PySem.W.findIn K (.ref qz) "line" = some none)
    (qzdi : Di K qz "BadText.__init__" sIBadText)
    (zhn : PySem.W.specialIn K (.builtin "object.__class__") "__get__" = some (some (.builtin "getset_descriptor.__get__")))
    (zht : PySem.W.takesIn K (.builtin "object.__class__") = some true)
    (pp : Oe.pairsB K oo [qa, qc, qf, qg, qi, qk, qm, qo, qp, qv, qx, qy, qz, qb, qd, qe, qh, qj, ql, qn, qq, qr, qs, qt, qu, qw] = true)
    (D0 : Df K mg "_law_deck" sDeck)
    (D1 : Df K mg "_law_next" sNext)
    (D2 : Df K mg "_law_odd" sOdd)
    (D3 : Df K mg "_law_all" s__law_all)
    (D4 : Df K mg "_law_flags" s__law_flags)
    (D5 : Df K mg "_law_fields" s__law_fields)
    (D6 : Df K mg "law" s_law)
    : ∃ fd : FuncData, (∀ (s : Shared) (v : Value), BindsTo s fd ⟨[v], []⟩ [("_law_script", v)]) ∧ ∀ base : Heap, K.In base → base.Ns mainGlobals mg → (∃ mm, base.Ns sysModules mm) → RunG P w K mg base 4 fa fd ["_law_script"] (spLaw K) := by
  obtain ⟨f0, fd0, F0, m0⟩ := D0
  have b0 := F0.binds (ps := ["_law_script"]) fun _ _ _ _ _ _ us hl => match us, hl with | [_], _ => rfl
  obtain ⟨f1, fd1, F1, m1⟩ := D1
  have b1 := F1.binds (ps := ["_law_deck_here", "_law_many"]) fun _ _ _ _ _ _ us hl => match us, hl with | [_, _], _ => rfl
  obtain ⟨f2, fd2, F2, m2⟩ := D2
  have b2 := F2.binds (ps := ["_law_deck_here"]) fun _ _ _ _ _ _ us hl => match us, hl with | [_], _ => rfl
  obtain ⟨f3, fd3, F3, m3⟩ := D3
  have b3 := F3.binds (ps := ["_law_one"]) fun _ _ _ _ _ _ us hl => match us, hl with | [_], _ => rfl
  obtain ⟨f4, fd4, F4, m4⟩ := D4
  have b4 := F4.binds (ps := ["_law_error"]) fun _ _ _ _ _ _ us hl => match us, hl with | [_], _ => rfl
  obtain ⟨f5, fd5, F5, m5⟩ := D5
  have b5 := F5.binds (ps := ["_law_one"]) fun _ _ _ _ _ _ us hl => match us, hl with | [_], _ => rfl
  obtain ⟨f6, fd6, F6, m6⟩ := D6
  have e := hfa.symm.trans m6
  cases e
  refine ⟨fd6, fun s v => ?_, fun base _ _ hb => ?_⟩
  · obtain ⟨oc, od, kV, doc, pm, an, cdv, ct, osl, rfl, lk, hcd⟩ := F6.ex
    exact .of_eq rfl
  · have qaxc : ExcC K qa := ⟨qahg, qahk, qahs, qahd, qaha, zhn, zht, qahm⟩
    have qaem := PySem.W.exm_ref oohs oohd oott qaco
    have qao : OexC K qa := ⟨qaox, qasa, qahs, qatt, qakk⟩
    obtain ⟨qafi, qafd, qai1, qai2, qai3⟩ := qadi
    have qat : EcI P w K mg base "NoDemand" qa "demand" := ⟨qao, gqa, qano, qaxc, qafi, qafd, "demand", qai1, qai2, ok_initNoDemand qai3 qao qano, qai3.binds fun _ _ _ _ _ _ us hl => match us, hl with | [_, _], _ => rfl⟩
    have qbxc : ExcC K qb := ⟨qbhg, qbhk, qbhs, qbhd, qbha, zhn, zht, qbhm⟩
    have qbem := PySem.W.exm_ref oohs oohd oott qbco
    have qbt : Ec0 K mg "NoDemands" qb := ⟨gqb, qbcx, qbkk, qbhs, qbtt⟩
    have qcxc : ExcC K qc := ⟨qchg, qchk, qchs, qchd, qcha, zhn, zht, qchm⟩
    have qcem := PySem.W.exm_ref oohs oohd oott qcco
    have qco : OexC K qc := ⟨qcox, qcsa, qchs, qctt, qckk⟩
    obtain ⟨qcfi, qcfd, qci1, qci2, qci3⟩ := qcdi
    have qct : EcI P w K mg base "NoOffer" qc "offer" := ⟨qco, gqc, qcno, qcxc, qcfi, qcfd, "offer", qci1, qci2, ok_initNoOffer qci3 qco qcno, qci3.binds fun _ _ _ _ _ _ us hl => match us, hl with | [_, _], _ => rfl⟩
    have qdxc : ExcC K qd := ⟨qdhg, qdhk, qdhs, qdhd, qdha, zhn, zht, qdhm⟩
    have qdem := PySem.W.exm_ref oohs oohd oott qdco
    have qdt : Ec0 K mg "NoOffers" qd := ⟨gqd, qdcx, qdkk, qdhs, qdtt⟩
    have qexc : ExcC K qe := ⟨qehg, qehk, qehs, qehd, qeha, zhn, zht, qehm⟩
    have qeem := PySem.W.exm_ref oohs oohd oott qeco
    have qet : Ec0 K mg "NoOrder" qe := ⟨gqe, qecx, qekk, qehs, qett⟩
    have qfxc : ExcC K qf := ⟨qfhg, qfhk, qfhs, qfhd, qfha, zhn, zht, qfhm⟩
    have qfem := PySem.W.exm_ref oohs oohd oott qfco
    have qfo : OexC K qf := ⟨qfox, qfsa, qfhs, qftt, qfkk⟩
    obtain ⟨qffi, qffd, qfi1, qfi2, qfi3⟩ := qfdi
    have qft : EcI P w K mg base "NotOrderable" qf "ring" := ⟨qfo, gqf, qfno, qfxc, qffi, qffd, "ring", qfi1, qfi2, ok_initNotOrderable qfi3 qfo qfno, qfi3.binds fun _ _ _ _ _ _ us hl => match us, hl with | [_, _], _ => rfl⟩
    have qgxc : ExcC K qg := ⟨qghg, qghk, qghs, qghd, qgha, zhn, zht, qghm⟩
    have qgem := PySem.W.exm_ref oohs oohd oott qgco
    have qgo : OexC K qg := ⟨qgox, qgsa, qghs, qgtt, qgkk⟩
    obtain ⟨qgfi, qgfd, qgi1, qgi2, qgi3⟩ := qgdi
    have qgt : EcI P w K mg base "NoIndex" qg "index" := ⟨qgo, gqg, qgno, qgxc, qgfi, qgfd, "index", qgi1, qgi2, ok_initNoIndex qgi3 qgo qgno, qgi3.binds fun _ _ _ _ _ _ us hl => match us, hl with | [_, _], _ => rfl⟩
    have qhxc : ExcC K qh := ⟨qhhg, qhhk, qhhs, qhhd, qhha, zhn, zht, qhhm⟩
    have qhem := PySem.W.exm_ref oohs oohd oott qhco
    have qht : Ec0 K mg "NoChoice" qh := ⟨gqh, qhcx, qhkk, qhhs, qhtt⟩
    have qixc : ExcC K qi := ⟨qihg, qihk, qihs, qihd, qiha, zhn, zht, qihm⟩
    have qiem := PySem.W.exm_ref oohs oohd oott qico
    have qio : OexC K qi := ⟨qiox, qisa, qihs, qitt, qikk⟩
    obtain ⟨qifi, qifd, qii1, qii2, qii3⟩ := qidi
    have qit : EcI P w K mg base "NotCovered" qi "demand" := ⟨qio, gqi, qino, qixc, qifi, qifd, "demand", qii1, qii2, ok_initNotCovered qii3 qio qino, qii3.binds fun _ _ _ _ _ _ us hl => match us, hl with | [_, _], _ => rfl⟩
    have qjxc : ExcC K qj := ⟨qjhg, qjhk, qjhs, qjhd, qjha, zhn, zht, qjhm⟩
    have qjem := PySem.W.exm_ref oohs oohd oott qjco
    have qjt : Ec0 K mg "NoIntervals" qj := ⟨gqj, qjcx, qjkk, qjhs, qjtt⟩
    have qkxc : ExcC K qk := ⟨qkhg, qkhk, qkhs, qkhd, qkha, zhn, zht, qkhm⟩
    have qkem := PySem.W.exm_ref oohs oohd oott qkco
    have qko : OexC K qk := ⟨qkox, qksa, qkhs, qktt, qkkk⟩
    obtain ⟨qkfi, qkfd, qki1, qki2, qki3⟩ := qkdi
    have qkt : EcI P w K mg base "NoVertex" qk "vertex" := ⟨qko, gqk, qkno, qkxc, qkfi, qkfd, "vertex", qki1, qki2, ok_initNoVertex qki3 qko qkno, qki3.binds fun _ _ _ _ _ _ us hl => match us, hl with | [_, _], _ => rfl⟩
    have qlxc : ExcC K ql := ⟨qlhg, qlhk, qlhs, qlhd, qlha, zhn, zht, qlhm⟩
    have qlem := PySem.W.exm_ref oohs oohd oott qlco
    have qlt : Ec0 K mg "NoBalls" ql := ⟨gql, qlcx, qlkk, qlhs, qltt⟩
    have qmxc : ExcC K qm := ⟨qmhg, qmhk, qmhs, qmhd, qmha, zhn, zht, qmhm⟩
    have qmem := PySem.W.exm_ref oohs oohd oott qmco
    have qmo : OexC K qm := ⟨qmox, qmsa, qmhs, qmtt, qmkk⟩
    obtain ⟨qmfi, qmfd, qmi1, qmi2, qmi3⟩ := qmdi
    have qmt : EcI P w K mg base "NoPosition" qm "position" := ⟨qmo, gqm, qmno, qmxc, qmfi, qmfd, "position", qmi1, qmi2, ok_initNoPosition qmi3 qmo qmno, qmi3.binds fun _ _ _ _ _ _ us hl => match us, hl with | [_, _], _ => rfl⟩
    have qnxc : ExcC K qn := ⟨qnhg, qnhk, qnhs, qnhd, qnha, zhn, zht, qnhm⟩
    have qnem := PySem.W.exm_ref oohs oohd oott qnco
    have qnt : Ec0 K mg "NoPositions" qn := ⟨gqn, qncx, qnkk, qnhs, qntt⟩
    have qoxc : ExcC K qo := ⟨qohg, qohk, qohs, qohd, qoha, zhn, zht, qohm⟩
    have qoem := PySem.W.exm_ref oohs oohd oott qoco
    have qoo : OexC K qo := ⟨qoox, qosa, qohs, qott, qokk⟩
    obtain ⟨qofi, qofd, qoi1, qoi2, qoi3⟩ := qodi
    have qot : EcI P w K mg base "NoAmount" qo "amount" := ⟨qoo, gqo, qono, qoxc, qofi, qofd, "amount", qoi1, qoi2, ok_initNoAmount qoi3 qoo qono, qoi3.binds fun _ _ _ _ _ _ us hl => match us, hl with | [_, _], _ => rfl⟩
    have qpxc : ExcC K qp := ⟨qphg, qphk, qphs, qphd, qpha, zhn, zht, qphm⟩
    have qpem := PySem.W.exm_ref oohs oohd oott qpco
    have qpo : OexC K qp := ⟨qpox, qpsa, qphs, qptt, qpkk⟩
    obtain ⟨qpfi, qpfd, qpi1, qpi2, qpi3⟩ := qpdi
    have qpt : EcI P w K mg base "TooMany" qp "limit" := ⟨qpo, gqp, qpno, qpxc, qpfi, qpfd, "limit", qpi1, qpi2, ok_initTooMany qpi3 qpo qpno, qpi3.binds fun _ _ _ _ _ _ us hl => match us, hl with | [_, _], _ => rfl⟩
    have qqxc : ExcC K qq := ⟨qqhg, qqhk, qqhs, qqhd, qqha, zhn, zht, qqhm⟩
    have qqem := PySem.W.exm_ref oohs oohd oott qqco
    have qqt : Ec0 K mg "LastDemand" qq := ⟨gqq, qqcx, qqkk, qqhs, qqtt⟩
    have qrxc : ExcC K qr := ⟨qrhg, qrhk, qrhs, qrhd, qrha, zhn, zht, qrhm⟩
    have qrem := PySem.W.exm_ref oohs oohd oott qrco
    have qrt : Ec0 K mg "BadTable" qr := ⟨gqr, qrcx, qrkk, qrhs, qrtt⟩
    have qsxc : ExcC K qs := ⟨qshg, qshk, qshs, qshd, qsha, zhn, zht, qshm⟩
    have qsem := PySem.W.exm_ref oohs oohd oott qsco
    have qst : Ec0 K mg "BadPrices" qs := ⟨gqs, qscx, qskk, qshs, qstt⟩
    have qtxc : ExcC K qt := ⟨qthg, qthk, qths, qthd, qtha, zhn, zht, qthm⟩
    have qtem := PySem.W.exm_ref oohs oohd oott qtco
    have qtt : Ec0 K mg "BadPenalties" qt := ⟨gqt, qtcx, qtkk, qths, qttt⟩
    have quxc : ExcC K qu := ⟨quhg, quhk, quhs, quhd, quha, zhn, zht, quhm⟩
    have quem := PySem.W.exm_ref oohs oohd oott quco
    have qut : Ec0 K mg "NothingToUndo" qu := ⟨gqu, qucx, qukk, quhs, qutt⟩
    have qvxc : ExcC K qv := ⟨qvhg, qvhk, qvhs, qvhd, qvha, zhn, zht, qvhm⟩
    have qvem := PySem.W.exm_ref oohs oohd oott qvco
    have qvo : OexC K qv := ⟨qvox, qvsa, qvhs, qvtt, qvkk⟩
    obtain ⟨qvfi, qvfd, qvi1, qvi2, qvi3⟩ := qvdi
    have qvt : EcI P w K mg base "NoMoment" qv "at" := ⟨qvo, gqv, qvno, qvxc, qvfi, qvfd, "at", qvi1, qvi2, ok_initNoMoment qvi3 qvo qvno, qvi3.binds fun _ _ _ _ _ _ us hl => match us, hl with | [_, _], _ => rfl⟩
    have qwxc : ExcC K qw := ⟨qwhg, qwhk, qwhs, qwhd, qwha, zhn, zht, qwhm⟩
    have qwem := PySem.W.exm_ref oohs oohd oott qwco
    have qwt : Ec0 K mg "NoOperations" qw := ⟨gqw, qwcx, qwkk, qwhs, qwtt⟩
    have qxxc : ExcC K qx := ⟨qxhg, qxhk, qxhs, qxhd, qxha, zhn, zht, qxhm⟩
    have qxem := PySem.W.exm_ref oohs oohd oott qxco
    have qxo : OexC K qx := ⟨qxox, qxsa, qxhs, qxtt, qxkk⟩
    obtain ⟨qxfi, qxfd, qxi1, qxi2, qxi3⟩ := qxdi
    have qxt : EcI P w K mg base "Failed" qx "index" := ⟨qxo, gqx, qxno, qxxc, qxfi, qxfd, "index", qxi1, qxi2, ok_initFailed qxi3 qxo qxno, qxi3.binds fun _ _ _ _ _ _ us hl => match us, hl with | [_, _], _ => rfl⟩
    have qyxc : ExcC K qy := ⟨qyhg, qyhk, qyhs, qyhd, qyha, zhn, zht, qyhm⟩
    have qyem := PySem.W.exm_ref oohs oohd oott qyco
    have qyo : OexC K qy := ⟨qyox, qysa, qyhs, qytt, qykk⟩
    obtain ⟨qyfi, qyfd, qyi1, qyi2, qyi3⟩ := qydi
    have qyt : EcI P w K mg base "Blocked" qy "ring" := ⟨qyo, gqy, qyno, qyxc, qyfi, qyfd, "ring", qyi1, qyi2, ok_initBlocked qyi3 qyo qyno, qyi3.binds fun _ _ _ _ _ _ us hl => match us, hl with | [_, _], _ => rfl⟩
    have qzxc : ExcC K qz := ⟨qzhg, qzhk, qzhs, qzhd, qzha, zhn, zht, qzhm⟩
    have qzem := PySem.W.exm_ref oohs oohd oott qzco
    have qzo : OexC K qz := ⟨qzox, qzsa, qzhs, qztt, qzkk⟩
    obtain ⟨qzfi, qzfd, qzi1, qzi2, qzi3⟩ := qzdi
    have qzt : EcI P w K mg base "BadText" qz "line" := ⟨qzo, gqz, qzno, qzxc, qzfi, qzfd, "line", qzi1, qzi2, ok_initBadText qzi3 qzo qzno, qzi3.binds fun _ _ _ _ _ _ us hl => match us, hl with | [_, _], _ => rfl⟩
    let cl : Str → Addr := fun x => if x = "NoDemand" then qa else if x = "NoDemands" then qb else if x = "NoOffer" then qc else if x = "NoOffers" then qd else if x = "NoOrder" then qe else if x = "NotOrderable" then qf else if x = "NoIndex" then qg else if x = "NoChoice" then qh else if x = "NotCovered" then qi else if x = "NoIntervals" then qj else if x = "NoVertex" then qk else if x = "NoBalls" then ql else if x = "NoPosition" then qm else if x = "NoPositions" then qn else if x = "NoAmount" then qo else if x = "TooMany" then qp else if x = "LastDemand" then qq else if x = "BadTable" then qr else if x = "BadPrices" then qs else if x = "BadPenalties" then qt else if x = "NothingToUndo" then qu else if x = "NoMoment" then qv else if x = "NoOperations" then qw else if x = "Failed" then qx else if x = "Blocked" then qy else if x = "BadText" then qz else if x = "OrderError" then oo else 0
    have cl_qa : cl "NoDemand" = qa := by
      show (if ("NoDemand" : Str) = "NoDemand" then qa else if ("NoDemand" : Str) = "NoDemands" then qb else if ("NoDemand" : Str) = "NoOffer" then qc else if ("NoDemand" : Str) = "NoOffers" then qd else if ("NoDemand" : Str) = "NoOrder" then qe else if ("NoDemand" : Str) = "NotOrderable" then qf else if ("NoDemand" : Str) = "NoIndex" then qg else if ("NoDemand" : Str) = "NoChoice" then qh else if ("NoDemand" : Str) = "NotCovered" then qi else if ("NoDemand" : Str) = "NoIntervals" then qj else if ("NoDemand" : Str) = "NoVertex" then qk else if ("NoDemand" : Str) = "NoBalls" then ql else if ("NoDemand" : Str) = "NoPosition" then qm else if ("NoDemand" : Str) = "NoPositions" then qn else if ("NoDemand" : Str) = "NoAmount" then qo else if ("NoDemand" : Str) = "TooMany" then qp else if ("NoDemand" : Str) = "LastDemand" then qq else if ("NoDemand" : Str) = "BadTable" then qr else if ("NoDemand" : Str) = "BadPrices" then qs else if ("NoDemand" : Str) = "BadPenalties" then qt else if ("NoDemand" : Str) = "NothingToUndo" then qu else if ("NoDemand" : Str) = "NoMoment" then qv else if ("NoDemand" : Str) = "NoOperations" then qw else if ("NoDemand" : Str) = "Failed" then qx else if ("NoDemand" : Str) = "Blocked" then qy else if ("NoDemand" : Str) = "BadText" then qz else if ("NoDemand" : Str) = "OrderError" then oo else 0) = qa
      rw [if_pos rfl]
    have cl_qb : cl "NoDemands" = qb := by
      show (if ("NoDemands" : Str) = "NoDemand" then qa else if ("NoDemands" : Str) = "NoDemands" then qb else if ("NoDemands" : Str) = "NoOffer" then qc else if ("NoDemands" : Str) = "NoOffers" then qd else if ("NoDemands" : Str) = "NoOrder" then qe else if ("NoDemands" : Str) = "NotOrderable" then qf else if ("NoDemands" : Str) = "NoIndex" then qg else if ("NoDemands" : Str) = "NoChoice" then qh else if ("NoDemands" : Str) = "NotCovered" then qi else if ("NoDemands" : Str) = "NoIntervals" then qj else if ("NoDemands" : Str) = "NoVertex" then qk else if ("NoDemands" : Str) = "NoBalls" then ql else if ("NoDemands" : Str) = "NoPosition" then qm else if ("NoDemands" : Str) = "NoPositions" then qn else if ("NoDemands" : Str) = "NoAmount" then qo else if ("NoDemands" : Str) = "TooMany" then qp else if ("NoDemands" : Str) = "LastDemand" then qq else if ("NoDemands" : Str) = "BadTable" then qr else if ("NoDemands" : Str) = "BadPrices" then qs else if ("NoDemands" : Str) = "BadPenalties" then qt else if ("NoDemands" : Str) = "NothingToUndo" then qu else if ("NoDemands" : Str) = "NoMoment" then qv else if ("NoDemands" : Str) = "NoOperations" then qw else if ("NoDemands" : Str) = "Failed" then qx else if ("NoDemands" : Str) = "Blocked" then qy else if ("NoDemands" : Str) = "BadText" then qz else if ("NoDemands" : Str) = "OrderError" then oo else 0) = qb
      rw [if_neg (by decide +kernel), if_pos rfl]
    have cl_qc : cl "NoOffer" = qc := by
      show (if ("NoOffer" : Str) = "NoDemand" then qa else if ("NoOffer" : Str) = "NoDemands" then qb else if ("NoOffer" : Str) = "NoOffer" then qc else if ("NoOffer" : Str) = "NoOffers" then qd else if ("NoOffer" : Str) = "NoOrder" then qe else if ("NoOffer" : Str) = "NotOrderable" then qf else if ("NoOffer" : Str) = "NoIndex" then qg else if ("NoOffer" : Str) = "NoChoice" then qh else if ("NoOffer" : Str) = "NotCovered" then qi else if ("NoOffer" : Str) = "NoIntervals" then qj else if ("NoOffer" : Str) = "NoVertex" then qk else if ("NoOffer" : Str) = "NoBalls" then ql else if ("NoOffer" : Str) = "NoPosition" then qm else if ("NoOffer" : Str) = "NoPositions" then qn else if ("NoOffer" : Str) = "NoAmount" then qo else if ("NoOffer" : Str) = "TooMany" then qp else if ("NoOffer" : Str) = "LastDemand" then qq else if ("NoOffer" : Str) = "BadTable" then qr else if ("NoOffer" : Str) = "BadPrices" then qs else if ("NoOffer" : Str) = "BadPenalties" then qt else if ("NoOffer" : Str) = "NothingToUndo" then qu else if ("NoOffer" : Str) = "NoMoment" then qv else if ("NoOffer" : Str) = "NoOperations" then qw else if ("NoOffer" : Str) = "Failed" then qx else if ("NoOffer" : Str) = "Blocked" then qy else if ("NoOffer" : Str) = "BadText" then qz else if ("NoOffer" : Str) = "OrderError" then oo else 0) = qc
      rw [if_neg (by decide +kernel), if_neg (by decide +kernel), if_pos rfl]
    have cl_qd : cl "NoOffers" = qd := by
      show (if ("NoOffers" : Str) = "NoDemand" then qa else if ("NoOffers" : Str) = "NoDemands" then qb else if ("NoOffers" : Str) = "NoOffer" then qc else if ("NoOffers" : Str) = "NoOffers" then qd else if ("NoOffers" : Str) = "NoOrder" then qe else if ("NoOffers" : Str) = "NotOrderable" then qf else if ("NoOffers" : Str) = "NoIndex" then qg else if ("NoOffers" : Str) = "NoChoice" then qh else if ("NoOffers" : Str) = "NotCovered" then qi else if ("NoOffers" : Str) = "NoIntervals" then qj else if ("NoOffers" : Str) = "NoVertex" then qk else if ("NoOffers" : Str) = "NoBalls" then ql else if ("NoOffers" : Str) = "NoPosition" then qm else if ("NoOffers" : Str) = "NoPositions" then qn else if ("NoOffers" : Str) = "NoAmount" then qo else if ("NoOffers" : Str) = "TooMany" then qp else if ("NoOffers" : Str) = "LastDemand" then qq else if ("NoOffers" : Str) = "BadTable" then qr else if ("NoOffers" : Str) = "BadPrices" then qs else if ("NoOffers" : Str) = "BadPenalties" then qt else if ("NoOffers" : Str) = "NothingToUndo" then qu else if ("NoOffers" : Str) = "NoMoment" then qv else if ("NoOffers" : Str) = "NoOperations" then qw else if ("NoOffers" : Str) = "Failed" then qx else if ("NoOffers" : Str) = "Blocked" then qy else if ("NoOffers" : Str) = "BadText" then qz else if ("NoOffers" : Str) = "OrderError" then oo else 0) = qd
      rw [if_neg (by decide +kernel), if_neg (by decide +kernel), if_neg (by decide +kernel), if_pos rfl]
    have cl_qe : cl "NoOrder" = qe := by
      show (if ("NoOrder" : Str) = "NoDemand" then qa else if ("NoOrder" : Str) = "NoDemands" then qb else if ("NoOrder" : Str) = "NoOffer" then qc else if ("NoOrder" : Str) = "NoOffers" then qd else if ("NoOrder" : Str) = "NoOrder" then qe else if ("NoOrder" : Str) = "NotOrderable" then qf else if ("NoOrder" : Str) = "NoIndex" then qg else if ("NoOrder" : Str) = "NoChoice" then qh else if ("NoOrder" : Str) = "NotCovered" then qi else if ("NoOrder" : Str) = "NoIntervals" then qj else if ("NoOrder" : Str) = "NoVertex" then qk else if ("NoOrder" : Str) = "NoBalls" then ql else if ("NoOrder" : Str) = "NoPosition" then qm else if ("NoOrder" : Str) = "NoPositions" then qn else if ("NoOrder" : Str) = "NoAmount" then qo else if ("NoOrder" : Str) = "TooMany" then qp else if ("NoOrder" : Str) = "LastDemand" then qq else if ("NoOrder" : Str) = "BadTable" then qr else if ("NoOrder" : Str) = "BadPrices" then qs else if ("NoOrder" : Str) = "BadPenalties" then qt else if ("NoOrder" : Str) = "NothingToUndo" then qu else if ("NoOrder" : Str) = "NoMoment" then qv else if ("NoOrder" : Str) = "NoOperations" then qw else if ("NoOrder" : Str) = "Failed" then qx else if ("NoOrder" : Str) = "Blocked" then qy else if ("NoOrder" : Str) = "BadText" then qz else if ("NoOrder" : Str) = "OrderError" then oo else 0) = qe
      rw [if_neg (by decide +kernel), if_neg (by decide +kernel), if_neg (by decide +kernel), if_neg (by decide +kernel), if_pos rfl]
    have cl_qf : cl "NotOrderable" = qf := by
      show (if ("NotOrderable" : Str) = "NoDemand" then qa else if ("NotOrderable" : Str) = "NoDemands" then qb else if ("NotOrderable" : Str) = "NoOffer" then qc else if ("NotOrderable" : Str) = "NoOffers" then qd else if ("NotOrderable" : Str) = "NoOrder" then qe else if ("NotOrderable" : Str) = "NotOrderable" then qf else if ("NotOrderable" : Str) = "NoIndex" then qg else if ("NotOrderable" : Str) = "NoChoice" then qh else if ("NotOrderable" : Str) = "NotCovered" then qi else if ("NotOrderable" : Str) = "NoIntervals" then qj else if ("NotOrderable" : Str) = "NoVertex" then qk else if ("NotOrderable" : Str) = "NoBalls" then ql else if ("NotOrderable" : Str) = "NoPosition" then qm else if ("NotOrderable" : Str) = "NoPositions" then qn else if ("NotOrderable" : Str) = "NoAmount" then qo else if ("NotOrderable" : Str) = "TooMany" then qp else if ("NotOrderable" : Str) = "LastDemand" then qq else if ("NotOrderable" : Str) = "BadTable" then qr else if ("NotOrderable" : Str) = "BadPrices" then qs else if ("NotOrderable" : Str) = "BadPenalties" then qt else if ("NotOrderable" : Str) = "NothingToUndo" then qu else if ("NotOrderable" : Str) = "NoMoment" then qv else if ("NotOrderable" : Str) = "NoOperations" then qw else if ("NotOrderable" : Str) = "Failed" then qx else if ("NotOrderable" : Str) = "Blocked" then qy else if ("NotOrderable" : Str) = "BadText" then qz else if ("NotOrderable" : Str) = "OrderError" then oo else 0) = qf
      rw [if_neg (by decide +kernel), if_neg (by decide +kernel), if_neg (by decide +kernel), if_neg (by decide +kernel), if_neg (by decide +kernel), if_pos rfl]
    have cl_qg : cl "NoIndex" = qg := by
      show (if ("NoIndex" : Str) = "NoDemand" then qa else if ("NoIndex" : Str) = "NoDemands" then qb else if ("NoIndex" : Str) = "NoOffer" then qc else if ("NoIndex" : Str) = "NoOffers" then qd else if ("NoIndex" : Str) = "NoOrder" then qe else if ("NoIndex" : Str) = "NotOrderable" then qf else if ("NoIndex" : Str) = "NoIndex" then qg else if ("NoIndex" : Str) = "NoChoice" then qh else if ("NoIndex" : Str) = "NotCovered" then qi else if ("NoIndex" : Str) = "NoIntervals" then qj else if ("NoIndex" : Str) = "NoVertex" then qk else if ("NoIndex" : Str) = "NoBalls" then ql else if ("NoIndex" : Str) = "NoPosition" then qm else if ("NoIndex" : Str) = "NoPositions" then qn else if ("NoIndex" : Str) = "NoAmount" then qo else if ("NoIndex" : Str) = "TooMany" then qp else if ("NoIndex" : Str) = "LastDemand" then qq else if ("NoIndex" : Str) = "BadTable" then qr else if ("NoIndex" : Str) = "BadPrices" then qs else if ("NoIndex" : Str) = "BadPenalties" then qt else if ("NoIndex" : Str) = "NothingToUndo" then qu else if ("NoIndex" : Str) = "NoMoment" then qv else if ("NoIndex" : Str) = "NoOperations" then qw else if ("NoIndex" : Str) = "Failed" then qx else if ("NoIndex" : Str) = "Blocked" then qy else if ("NoIndex" : Str) = "BadText" then qz else if ("NoIndex" : Str) = "OrderError" then oo else 0) = qg
      rw [if_neg (by decide +kernel), if_neg (by decide +kernel), if_neg (by decide +kernel), if_neg (by decide +kernel), if_neg (by decide +kernel), if_neg (by decide +kernel), if_pos rfl]
    have cl_qh : cl "NoChoice" = qh := by
      show (if ("NoChoice" : Str) = "NoDemand" then qa else if ("NoChoice" : Str) = "NoDemands" then qb else if ("NoChoice" : Str) = "NoOffer" then qc else if ("NoChoice" : Str) = "NoOffers" then qd else if ("NoChoice" : Str) = "NoOrder" then qe else if ("NoChoice" : Str) = "NotOrderable" then qf else if ("NoChoice" : Str) = "NoIndex" then qg else if ("NoChoice" : Str) = "NoChoice" then qh else if ("NoChoice" : Str) = "NotCovered" then qi else if ("NoChoice" : Str) = "NoIntervals" then qj else if ("NoChoice" : Str) = "NoVertex" then qk else if ("NoChoice" : Str) = "NoBalls" then ql else if ("NoChoice" : Str) = "NoPosition" then qm else if ("NoChoice" : Str) = "NoPositions" then qn else if ("NoChoice" : Str) = "NoAmount" then qo else if ("NoChoice" : Str) = "TooMany" then qp else if ("NoChoice" : Str) = "LastDemand" then qq else if ("NoChoice" : Str) = "BadTable" then qr else if ("NoChoice" : Str) = "BadPrices" then qs else if ("NoChoice" : Str) = "BadPenalties" then qt else if ("NoChoice" : Str) = "NothingToUndo" then qu else if ("NoChoice" : Str) = "NoMoment" then qv else if ("NoChoice" : Str) = "NoOperations" then qw else if ("NoChoice" : Str) = "Failed" then qx else if ("NoChoice" : Str) = "Blocked" then qy else if ("NoChoice" : Str) = "BadText" then qz else if ("NoChoice" : Str) = "OrderError" then oo else 0) = qh
      rw [if_neg (by decide +kernel), if_neg (by decide +kernel), if_neg (by decide +kernel), if_neg (by decide +kernel), if_neg (by decide +kernel), if_neg (by decide +kernel), if_neg (by decide +kernel), if_pos rfl]
    have cl_qi : cl "NotCovered" = qi := by
      show (if ("NotCovered" : Str) = "NoDemand" then qa else if ("NotCovered" : Str) = "NoDemands" then qb else if ("NotCovered" : Str) = "NoOffer" then qc else if ("NotCovered" : Str) = "NoOffers" then qd else if ("NotCovered" : Str) = "NoOrder" then qe else if ("NotCovered" : Str) = "NotOrderable" then qf else if ("NotCovered" : Str) = "NoIndex" then qg else if ("NotCovered" : Str) = "NoChoice" then qh else if ("NotCovered" : Str) = "NotCovered" then qi else if ("NotCovered" : Str) = "NoIntervals" then qj else if ("NotCovered" : Str) = "NoVertex" then qk else if ("NotCovered" : Str) = "NoBalls" then ql else if ("NotCovered" : Str) = "NoPosition" then qm else if ("NotCovered" : Str) = "NoPositions" then qn else if ("NotCovered" : Str) = "NoAmount" then qo else if ("NotCovered" : Str) = "TooMany" then qp else if ("NotCovered" : Str) = "LastDemand" then qq else if ("NotCovered" : Str) = "BadTable" then qr else if ("NotCovered" : Str) = "BadPrices" then qs else if ("NotCovered" : Str) = "BadPenalties" then qt else if ("NotCovered" : Str) = "NothingToUndo" then qu else if ("NotCovered" : Str) = "NoMoment" then qv else if ("NotCovered" : Str) = "NoOperations" then qw else if ("NotCovered" : Str) = "Failed" then qx else if ("NotCovered" : Str) = "Blocked" then qy else if ("NotCovered" : Str) = "BadText" then qz else if ("NotCovered" : Str) = "OrderError" then oo else 0) = qi
      rw [if_neg (by decide +kernel), if_neg (by decide +kernel), if_neg (by decide +kernel), if_neg (by decide +kernel), if_neg (by decide +kernel), if_neg (by decide +kernel), if_neg (by decide +kernel), if_neg (by decide +kernel), if_pos rfl]
    have cl_qj : cl "NoIntervals" = qj := by
      show (if ("NoIntervals" : Str) = "NoDemand" then qa else if ("NoIntervals" : Str) = "NoDemands" then qb else if ("NoIntervals" : Str) = "NoOffer" then qc else if ("NoIntervals" : Str) = "NoOffers" then qd else if ("NoIntervals" : Str) = "NoOrder" then qe else if ("NoIntervals" : Str) = "NotOrderable" then qf else if ("NoIntervals" : Str) = "NoIndex" then qg else if ("NoIntervals" : Str) = "NoChoice" then qh else if ("NoIntervals" : Str) = "NotCovered" then qi else if ("NoIntervals" : Str) = "NoIntervals" then qj else if ("NoIntervals" : Str) = "NoVertex" then qk else if ("NoIntervals" : Str) = "NoBalls" then ql else if ("NoIntervals" : Str) = "NoPosition" then qm else if ("NoIntervals" : Str) = "NoPositions" then qn else if ("NoIntervals" : Str) = "NoAmount" then qo else if ("NoIntervals" : Str) = "TooMany" then qp else if ("NoIntervals" : Str) = "LastDemand" then qq else if ("NoIntervals" : Str) = "BadTable" then qr else if ("NoIntervals" : Str) = "BadPrices" then qs else if ("NoIntervals" : Str) = "BadPenalties" then qt else if ("NoIntervals" : Str) = "NothingToUndo" then qu else if ("NoIntervals" : Str) = "NoMoment" then qv else if ("NoIntervals" : Str) = "NoOperations" then qw else if ("NoIntervals" : Str) = "Failed" then qx else if ("NoIntervals" : Str) = "Blocked" then qy else if ("NoIntervals" : Str) = "BadText" then qz else if ("NoIntervals" : Str) = "OrderError" then oo else 0) = qj
      rw [if_neg (by decide +kernel), if_neg (by decide +kernel), if_neg (by decide +kernel), if_neg (by decide +kernel), if_neg (by decide +kernel), if_neg (by decide +kernel), if_neg (by decide +kernel), if_neg (by decide +kernel), if_neg (by decide +kernel), if_pos rfl]
    have cl_qk : cl "NoVertex" = qk := by
      show (if ("NoVertex" : Str) = "NoDemand" then qa else if ("NoVertex" : Str) = "NoDemands" then qb else if ("NoVertex" : Str) = "NoOffer" then qc else if ("NoVertex" : Str) = "NoOffers" then qd else if ("NoVertex" : Str) = "NoOrder" then qe else if ("NoVertex" : Str) = "NotOrderable" then qf else if ("NoVertex" : Str) = "NoIndex" then qg else if ("NoVertex" : Str) = "NoChoice" then qh else if ("NoVertex" : Str) = "NotCovered" then qi else if ("NoVertex" : Str) = "NoIntervals" then qj else if ("NoVertex" : Str) = "NoVertex" then qk else if ("NoVertex" : Str) = "NoBalls" then ql else if ("NoVertex" : Str) = "NoPosition" then qm else if ("NoVertex" : Str) = "NoPositions" then qn else if ("NoVertex" : Str) = "NoAmount" then qo else if ("NoVertex" : Str) = "TooMany" then qp else if ("NoVertex" : Str) = "LastDemand" then qq else if ("NoVertex" : Str) = "BadTable" then qr else if ("NoVertex" : Str) = "BadPrices" then qs else if ("NoVertex" : Str) = "BadPenalties" then qt else if ("NoVertex" : Str) = "NothingToUndo" then qu else if ("NoVertex" : Str) = "NoMoment" then qv else if ("NoVertex" : Str) = "NoOperations" then qw else if ("NoVertex" : Str) = "Failed" then qx else if ("NoVertex" : Str) = "Blocked" then qy else if ("NoVertex" : Str) = "BadText" then qz else if ("NoVertex" : Str) = "OrderError" then oo else 0) = qk
      rw [if_neg (by decide +kernel), if_neg (by decide +kernel), if_neg (by decide +kernel), if_neg (by decide +kernel), if_neg (by decide +kernel), if_neg (by decide +kernel), if_neg (by decide +kernel), if_neg (by decide +kernel), if_neg (by decide +kernel), if_neg (by decide +kernel), if_pos rfl]
    have cl_ql : cl "NoBalls" = ql := by
      show (if ("NoBalls" : Str) = "NoDemand" then qa else if ("NoBalls" : Str) = "NoDemands" then qb else if ("NoBalls" : Str) = "NoOffer" then qc else if ("NoBalls" : Str) = "NoOffers" then qd else if ("NoBalls" : Str) = "NoOrder" then qe else if ("NoBalls" : Str) = "NotOrderable" then qf else if ("NoBalls" : Str) = "NoIndex" then qg else if ("NoBalls" : Str) = "NoChoice" then qh else if ("NoBalls" : Str) = "NotCovered" then qi else if ("NoBalls" : Str) = "NoIntervals" then qj else if ("NoBalls" : Str) = "NoVertex" then qk else if ("NoBalls" : Str) = "NoBalls" then ql else if ("NoBalls" : Str) = "NoPosition" then qm else if ("NoBalls" : Str) = "NoPositions" then qn else if ("NoBalls" : Str) = "NoAmount" then qo else if ("NoBalls" : Str) = "TooMany" then qp else if ("NoBalls" : Str) = "LastDemand" then qq else if ("NoBalls" : Str) = "BadTable" then qr else if ("NoBalls" : Str) = "BadPrices" then qs else if ("NoBalls" : Str) = "BadPenalties" then qt else if ("NoBalls" : Str) = "NothingToUndo" then qu else if ("NoBalls" : Str) = "NoMoment" then qv else if ("NoBalls" : Str) = "NoOperations" then qw else if ("NoBalls" : Str) = "Failed" then qx else if ("NoBalls" : Str) = "Blocked" then qy else if ("NoBalls" : Str) = "BadText" then qz else if ("NoBalls" : Str) = "OrderError" then oo else 0) = ql
      rw [if_neg (by decide +kernel), if_neg (by decide +kernel), if_neg (by decide +kernel), if_neg (by decide +kernel), if_neg (by decide +kernel), if_neg (by decide +kernel), if_neg (by decide +kernel), if_neg (by decide +kernel), if_neg (by decide +kernel), if_neg (by decide +kernel), if_neg (by decide +kernel), if_pos rfl]
    have cl_qm : cl "NoPosition" = qm := by
      show (if ("NoPosition" : Str) = "NoDemand" then qa else if ("NoPosition" : Str) = "NoDemands" then qb else if ("NoPosition" : Str) = "NoOffer" then qc else if ("NoPosition" : Str) = "NoOffers" then qd else if ("NoPosition" : Str) = "NoOrder" then qe else if ("NoPosition" : Str) = "NotOrderable" then qf else if ("NoPosition" : Str) = "NoIndex" then qg else if ("NoPosition" : Str) = "NoChoice" then qh else if ("NoPosition" : Str) = "NotCovered" then qi else if ("NoPosition" : Str) = "NoIntervals" then qj else if ("NoPosition" : Str) = "NoVertex" then qk else if ("NoPosition" : Str) = "NoBalls" then ql else if ("NoPosition" : Str) = "NoPosition" then qm else if ("NoPosition" : Str) = "NoPositions" then qn else if ("NoPosition" : Str) = "NoAmount" then qo else if ("NoPosition" : Str) = "TooMany" then qp else if ("NoPosition" : Str) = "LastDemand" then qq else if ("NoPosition" : Str) = "BadTable" then qr else if ("NoPosition" : Str) = "BadPrices" then qs else if ("NoPosition" : Str) = "BadPenalties" then qt else if ("NoPosition" : Str) = "NothingToUndo" then qu else if ("NoPosition" : Str) = "NoMoment" then qv else if ("NoPosition" : Str) = "NoOperations" then qw else if ("NoPosition" : Str) = "Failed" then qx else if ("NoPosition" : Str) = "Blocked" then qy else if ("NoPosition" : Str) = "BadText" then qz else if ("NoPosition" : Str) = "OrderError" then oo else 0) = qm
      rw [if_neg (by decide +kernel), if_neg (by decide +kernel), if_neg (by decide +kernel), if_neg (by decide +kernel), if_neg (by decide +kernel), if_neg (by decide +kernel), if_neg (by decide +kernel), if_neg (by decide +kernel), if_neg (by decide +kernel), if_neg (by decide +kernel), if_neg (by decide +kernel), if_neg (by decide +kernel), if_pos rfl]
    have cl_qn : cl "NoPositions" = qn := by
      show (if ("NoPositions" : Str) = "NoDemand" then qa else if ("NoPositions" : Str) = "NoDemands" then qb else if ("NoPositions" : Str) = "NoOffer" then qc else if ("NoPositions" : Str) = "NoOffers" then qd else if ("NoPositions" : Str) = "NoOrder" then qe else if ("NoPositions" : Str) = "NotOrderable" then qf else if ("NoPositions" : Str) = "NoIndex" then qg else if ("NoPositions" : Str) = "NoChoice" then qh else if ("NoPositions" : Str) = "NotCovered" then qi else if ("NoPositions" : Str) = "NoIntervals" then qj else if ("NoPositions" : Str) = "NoVertex" then qk else if ("NoPositions" : Str) = "NoBalls" then ql else if ("NoPositions" : Str) = "NoPosition" then qm else if ("NoPositions" : Str) = "NoPositions" then qn else if ("NoPositions" : Str) = "NoAmount" then qo else if ("NoPositions" : Str) = "TooMany" then qp else if ("NoPositions" : Str) = "LastDemand" then qq else if ("NoPositions" : Str) = "BadTable" then qr else if ("NoPositions" : Str) = "BadPrices" then qs else if ("NoPositions" : Str) = "BadPenalties" then qt else if ("NoPositions" : Str) = "NothingToUndo" then qu else if ("NoPositions" : Str) = "NoMoment" then qv else if ("NoPositions" : Str) = "NoOperations" then qw else if ("NoPositions" : Str) = "Failed" then qx else if ("NoPositions" : Str) = "Blocked" then qy else if ("NoPositions" : Str) = "BadText" then qz else if ("NoPositions" : Str) = "OrderError" then oo else 0) = qn
      rw [if_neg (by decide +kernel), if_neg (by decide +kernel), if_neg (by decide +kernel), if_neg (by decide +kernel), if_neg (by decide +kernel), if_neg (by decide +kernel), if_neg (by decide +kernel), if_neg (by decide +kernel), if_neg (by decide +kernel), if_neg (by decide +kernel), if_neg (by decide +kernel), if_neg (by decide +kernel), if_neg (by decide +kernel), if_pos rfl]
    have cl_qo : cl "NoAmount" = qo := by
      show (if ("NoAmount" : Str) = "NoDemand" then qa else if ("NoAmount" : Str) = "NoDemands" then qb else if ("NoAmount" : Str) = "NoOffer" then qc else if ("NoAmount" : Str) = "NoOffers" then qd else if ("NoAmount" : Str) = "NoOrder" then qe else if ("NoAmount" : Str) = "NotOrderable" then qf else if ("NoAmount" : Str) = "NoIndex" then qg else if ("NoAmount" : Str) = "NoChoice" then qh else if ("NoAmount" : Str) = "NotCovered" then qi else if ("NoAmount" : Str) = "NoIntervals" then qj else if ("NoAmount" : Str) = "NoVertex" then qk else if ("NoAmount" : Str) = "NoBalls" then ql else if ("NoAmount" : Str) = "NoPosition" then qm else if ("NoAmount" : Str) = "NoPositions" then qn else if ("NoAmount" : Str) = "NoAmount" then qo else if ("NoAmount" : Str) = "TooMany" then qp else if ("NoAmount" : Str) = "LastDemand" then qq else if ("NoAmount" : Str) = "BadTable" then qr else if ("NoAmount" : Str) = "BadPrices" then qs else if ("NoAmount" : Str) = "BadPenalties" then qt else if ("NoAmount" : Str) = "NothingToUndo" then qu else if ("NoAmount" : Str) = "NoMoment" then qv else if ("NoAmount" : Str) = "NoOperations" then qw else if ("NoAmount" : Str) = "Failed" then qx else if ("NoAmount" : Str) = "Blocked" then qy else if ("NoAmount" : Str) = "BadText" then qz else if ("NoAmount" : Str) = "OrderError" then oo else 0) = qo
      rw [if_neg (by decide +kernel), if_neg (by decide +kernel), if_neg (by decide +kernel), if_neg (by decide +kernel), if_neg (by decide +kernel), if_neg (by decide +kernel), if_neg (by decide +kernel), if_neg (by decide +kernel), if_neg (by decide +kernel), if_neg (by decide +kernel), if_neg (by decide +kernel), if_neg (by decide +kernel), if_neg (by decide +kernel), if_neg (by decide +kernel), if_pos rfl]
    have cl_qp : cl "TooMany" = qp := by
      show (if ("TooMany" : Str) = "NoDemand" then qa else if ("TooMany" : Str) = "NoDemands" then qb else if ("TooMany" : Str) = "NoOffer" then qc else if ("TooMany" : Str) = "NoOffers" then qd else if ("TooMany" : Str) = "NoOrder" then qe else if ("TooMany" : Str) = "NotOrderable" then qf else if ("TooMany" : Str) = "NoIndex" then qg else if ("TooMany" : Str) = "NoChoice" then qh else if ("TooMany" : Str) = "NotCovered" then qi else if ("TooMany" : Str) = "NoIntervals" then qj else if ("TooMany" : Str) = "NoVertex" then qk else if ("TooMany" : Str) = "NoBalls" then ql else if ("TooMany" : Str) = "NoPosition" then qm else if ("TooMany" : Str) = "NoPositions" then qn else if ("TooMany" : Str) = "NoAmount" then qo else if ("TooMany" : Str) = "TooMany" then qp else if ("TooMany" : Str) = "LastDemand" then qq else if ("TooMany" : Str) = "BadTable" then qr else if ("TooMany" : Str) = "BadPrices" then qs else if ("TooMany" : Str) = "BadPenalties" then qt else if ("TooMany" : Str) = "NothingToUndo" then qu else if ("TooMany" : Str) = "NoMoment" then qv else if ("TooMany" : Str) = "NoOperations" then qw else if ("TooMany" : Str) = "Failed" then qx else if ("TooMany" : Str) = "Blocked" then qy else if ("TooMany" : Str) = "BadText" then qz else if ("TooMany" : Str) = "OrderError" then oo else 0) = qp
      rw [if_neg (by decide +kernel), if_neg (by decide +kernel), if_neg (by decide +kernel), if_neg (by decide +kernel), if_neg (by decide +kernel), if_neg (by decide +kernel), if_neg (by decide +kernel), if_neg (by decide +kernel), if_neg (by decide +kernel), if_neg (by decide +kernel), if_neg (by decide +kernel), if_neg (by decide +kernel), if_neg (by decide +kernel), if_neg (by decide +kernel), if_neg (by decide +kernel), if_pos rfl]
    have cl_qq : cl "LastDemand" = qq := by
      show (if ("LastDemand" : Str) = "NoDemand" then qa else if ("LastDemand" : Str) = "NoDemands" then qb else if ("LastDemand" : Str) = "NoOffer" then qc else if ("LastDemand" : Str) = "NoOffers" then qd else if ("LastDemand" : Str) = "NoOrder" then qe else if ("LastDemand" : Str) = "NotOrderable" then qf else if ("LastDemand" : Str) = "NoIndex" then qg else if ("LastDemand" : Str) = "NoChoice" then qh else if ("LastDemand" : Str) = "NotCovered" then qi else if ("LastDemand" : Str) = "NoIntervals" then qj else if ("LastDemand" : Str) = "NoVertex" then qk else if ("LastDemand" : Str) = "NoBalls" then ql else if ("LastDemand" : Str) = "NoPosition" then qm else if ("LastDemand" : Str) = "NoPositions" then qn else if ("LastDemand" : Str) = "NoAmount" then qo else if ("LastDemand" : Str) = "TooMany" then qp else if ("LastDemand" : Str) = "LastDemand" then qq else if ("LastDemand" : Str) = "BadTable" then qr else if ("LastDemand" : Str) = "BadPrices" then qs else if ("LastDemand" : Str) = "BadPenalties" then qt else if ("LastDemand" : Str) = "NothingToUndo" then qu else if ("LastDemand" : Str) = "NoMoment" then qv else if ("LastDemand" : Str) = "NoOperations" then qw else if ("LastDemand" : Str) = "Failed" then qx else if ("LastDemand" : Str) = "Blocked" then qy else if ("LastDemand" : Str) = "BadText" then qz else if ("LastDemand" : Str) = "OrderError" then oo else 0) = qq
      rw [if_neg (by decide +kernel), if_neg (by decide +kernel), if_neg (by decide +kernel), if_neg (by decide +kernel), if_neg (by decide +kernel), if_neg (by decide +kernel), if_neg (by decide +kernel), if_neg (by decide +kernel), if_neg (by decide +kernel), if_neg (by decide +kernel), if_neg (by decide +kernel), if_neg (by decide +kernel), if_neg (by decide +kernel), if_neg (by decide +kernel), if_neg (by decide +kernel), if_neg (by decide +kernel), if_pos rfl]
    have cl_qr : cl "BadTable" = qr := by
      show (if ("BadTable" : Str) = "NoDemand" then qa else if ("BadTable" : Str) = "NoDemands" then qb else if ("BadTable" : Str) = "NoOffer" then qc else if ("BadTable" : Str) = "NoOffers" then qd else if ("BadTable" : Str) = "NoOrder" then qe else if ("BadTable" : Str) = "NotOrderable" then qf else if ("BadTable" : Str) = "NoIndex" then qg else if ("BadTable" : Str) = "NoChoice" then qh else if ("BadTable" : Str) = "NotCovered" then qi else if ("BadTable" : Str) = "NoIntervals" then qj else if ("BadTable" : Str) = "NoVertex" then qk else if ("BadTable" : Str) = "NoBalls" then ql else if ("BadTable" : Str) = "NoPosition" then qm else if ("BadTable" : Str) = "NoPositions" then qn else if ("BadTable" : Str) = "NoAmount" then qo else if ("BadTable" : Str) = "TooMany" then qp else if ("BadTable" : Str) = "LastDemand" then qq else if ("BadTable" : Str) = "BadTable" then qr else if ("BadTable" : Str) = "BadPrices" then qs else if ("BadTable" : Str) = "BadPenalties" then qt else if ("BadTable" : Str) = "NothingToUndo" then qu else if ("BadTable" : Str) = "NoMoment" then qv else if ("BadTable" : Str) = "NoOperations" then qw else if ("BadTable" : Str) = "Failed" then qx else if ("BadTable" : Str) = "Blocked" then qy else if ("BadTable" : Str) = "BadText" then qz else if ("BadTable" : Str) = "OrderError" then oo else 0) = qr
      rw [if_neg (by decide +kernel), if_neg (by decide +kernel), if_neg (by decide +kernel), if_neg (by decide +kernel), if_neg (by decide +kernel), if_neg (by decide +kernel), if_neg (by decide +kernel), if_neg (by decide +kernel), if_neg (by decide +kernel), if_neg (by decide +kernel), if_neg (by decide +kernel), if_neg (by decide +kernel), if_neg (by decide +kernel), if_neg (by decide +kernel), if_neg (by decide +kernel), if_neg (by decide +kernel), if_neg (by decide +kernel), if_pos rfl]
    have cl_qs : cl "BadPrices" = qs := by
      show (if ("BadPrices" : Str) = "NoDemand" then qa else if ("BadPrices" : Str) = "NoDemands" then qb else if ("BadPrices" : Str) = "NoOffer" then qc else if ("BadPrices" : Str) = "NoOffers" then qd else if ("BadPrices" : Str) = "NoOrder" then qe else if ("BadPrices" : Str) = "NotOrderable" then qf else if ("BadPrices" : Str) = "NoIndex" then qg else if ("BadPrices" : Str) = "NoChoice" then qh else if ("BadPrices" : Str) = "NotCovered" then qi else if ("BadPrices" : Str) = "NoIntervals" then qj else if ("BadPrices" : Str) = "NoVertex" then qk else if ("BadPrices" : Str) = "NoBalls" then ql else if ("BadPrices" : Str) = "NoPosition" then qm else if ("BadPrices" : Str) = "NoPositions" then qn else if ("BadPrices" : Str) = "NoAmount" then qo else if ("BadPrices" : Str) = "TooMany" then qp else if ("BadPrices" : Str) = "LastDemand" then qq else if ("BadPrices" : Str) = "BadTable" then qr else if ("BadPrices" : Str) = "BadPrices" then qs else if ("BadPrices" : Str) = "BadPenalties" then qt else if ("BadPrices" : Str) = "NothingToUndo" then qu else if ("BadPrices" : Str) = "NoMoment" then qv else if ("BadPrices" : Str) = "NoOperations" then qw else if ("BadPrices" : Str) = "Failed" then qx else if ("BadPrices" : Str) = "Blocked" then qy else if ("BadPrices" : Str) = "BadText" then qz else if ("BadPrices" : Str) = "OrderError" then oo else 0) = qs
      rw [if_neg (by decide +kernel), if_neg (by decide +kernel), if_neg (by decide +kernel), if_neg (by decide +kernel), if_neg (by decide +kernel), if_neg (by decide +kernel), if_neg (by decide +kernel), if_neg (by decide +kernel), if_neg (by decide +kernel), if_neg (by decide +kernel), if_neg (by decide +kernel), if_neg (by decide +kernel), if_neg (by decide +kernel), if_neg (by decide +kernel), if_neg (by decide +kernel), if_neg (by decide +kernel), if_neg (by decide +kernel), if_neg (by decide +kernel), if_pos rfl]
    have cl_qt : cl "BadPenalties" = qt := by
      show (if ("BadPenalties" : Str) = "NoDemand" then qa else if ("BadPenalties" : Str) = "NoDemands" then qb else if ("BadPenalties" : Str) = "NoOffer" then qc else if ("BadPenalties" : Str) = "NoOffers" then qd else if ("BadPenalties" : Str) = "NoOrder" then qe else if ("BadPenalties" : Str) = "NotOrderable" then qf else if ("BadPenalties" : Str) = "NoIndex" then qg else if ("BadPenalties" : Str) = "NoChoice" then qh else if ("BadPenalties" : Str) = "NotCovered" then qi else if ("BadPenalties" : Str) = "NoIntervals" then qj else if ("BadPenalties" : Str) = "NoVertex" then qk else if ("BadPenalties" : Str) = "NoBalls" then ql else if ("BadPenalties" : Str) = "NoPosition" then qm else if ("BadPenalties" : Str) = "NoPositions" then qn else if ("BadPenalties" : Str) = "NoAmount" then qo else if ("BadPenalties" : Str) = "TooMany" then qp else if ("BadPenalties" : Str) = "LastDemand" then qq else if ("BadPenalties" : Str) = "BadTable" then qr else if ("BadPenalties" : Str) = "BadPrices" then qs else if ("BadPenalties" : Str) = "BadPenalties" then qt else if ("BadPenalties" : Str) = "NothingToUndo" then qu else if ("BadPenalties" : Str) = "NoMoment" then qv else if ("BadPenalties" : Str) = "NoOperations" then qw else if ("BadPenalties" : Str) = "Failed" then qx else if ("BadPenalties" : Str) = "Blocked" then qy else if ("BadPenalties" : Str) = "BadText" then qz else if ("BadPenalties" : Str) = "OrderError" then oo else 0) = qt
      rw [if_neg (by decide +kernel), if_neg (by decide +kernel), if_neg (by decide +kernel), if_neg (by decide +kernel), if_neg (by decide +kernel), if_neg (by decide +kernel), if_neg (by decide +kernel), if_neg (by decide +kernel), if_neg (by decide +kernel), if_neg (by decide +kernel), if_neg (by decide +kernel), if_neg (by decide +kernel), if_neg (by decide +kernel), if_neg (by decide +kernel), if_neg (by decide +kernel), if_neg (by decide +kernel), if_neg (by decide +kernel), if_neg (by decide +kernel), if_neg (by decide +kernel), if_pos rfl]
    have cl_qu : cl "NothingToUndo" = qu := by
      show (if ("NothingToUndo" : Str) = "NoDemand" then qa else if ("NothingToUndo" : Str) = "NoDemands" then qb else if ("NothingToUndo" : Str) = "NoOffer" then qc else if ("NothingToUndo" : Str) = "NoOffers" then qd else if ("NothingToUndo" : Str) = "NoOrder" then qe else if ("NothingToUndo" : Str) = "NotOrderable" then qf else if ("NothingToUndo" : Str) = "NoIndex" then qg else if ("NothingToUndo" : Str) = "NoChoice" then qh else if ("NothingToUndo" : Str) = "NotCovered" then qi else if ("NothingToUndo" : Str) = "NoIntervals" then qj else if ("NothingToUndo" : Str) = "NoVertex" then qk else if ("NothingToUndo" : Str) = "NoBalls" then ql else if ("NothingToUndo" : Str) = "NoPosition" then qm else if ("NothingToUndo" : Str) = "NoPositions" then qn else if ("NothingToUndo" : Str) = "NoAmount" then qo else if ("NothingToUndo" : Str) = "TooMany" then qp else if ("NothingToUndo" : Str) = "LastDemand" then qq else if ("NothingToUndo" : Str) = "BadTable" then qr else if ("NothingToUndo" : Str) = "BadPrices" then qs else if ("NothingToUndo" : Str) = "BadPenalties" then qt else if ("NothingToUndo" : Str) = "NothingToUndo" then qu else if ("NothingToUndo" : Str) = "NoMoment" then qv else if ("NothingToUndo" : Str) = "NoOperations" then qw else if ("NothingToUndo" : Str) = "Failed" then qx else if ("NothingToUndo" : Str) = "Blocked" then qy else if ("NothingToUndo" : Str) = "BadText" then qz else if ("NothingToUndo" : Str) = "OrderError" then oo else 0) = qu
      rw [if_neg (by decide +kernel), if_neg (by decide +kernel), if_neg (by decide +kernel), if_neg (by decide +kernel), if_neg (by decide +kernel), if_neg (by decide +kernel), if_neg (by decide +kernel), if_neg (by decide +kernel), if_neg (by decide +kernel), if_neg (by decide +kernel), if_neg (by decide +kernel), if_neg (by decide +kernel), if_neg (by decide +kernel), if_neg (by decide +kernel), if_neg (by decide +kernel), if_neg (by decide +kernel), if_neg (by decide +kernel), if_neg (by decide +kernel), if_neg (by decide +kernel), if_neg (by decide +kernel), if_pos rfl]
    have cl_qv : cl "NoMoment" = qv := by
      show (if ("NoMoment" : Str) = "NoDemand" then qa else if ("NoMoment" : Str) = "NoDemands" then qb else if ("NoMoment" : Str) = "NoOffer" then qc else if ("NoMoment" : Str) = "NoOffers" then qd else if ("NoMoment" : Str) = "NoOrder" then qe else if ("NoMoment" : Str) = "NotOrderable" then qf else if ("NoMoment" : Str) = "NoIndex" then qg else if ("NoMoment" : Str) = "NoChoice" then qh else if ("NoMoment" : Str) = "NotCovered" then qi else if ("NoMoment" : Str) = "NoIntervals" then qj else if ("NoMoment" : Str) = "NoVertex" then qk else if ("NoMoment" : Str) = "NoBalls" then ql else if ("NoMoment" : Str) = "NoPosition" then qm else if ("NoMoment" : Str) = "NoPositions" then qn else if ("NoMoment" : Str) = "NoAmount" then qo else if ("NoMoment" : Str) = "TooMany" then qp else if ("NoMoment" : Str) = "LastDemand" then qq else if ("NoMoment" : Str) = "BadTable" then qr else if ("NoMoment" : Str) = "BadPrices" then qs else if ("NoMoment" : Str) = "BadPenalties" then qt else if ("NoMoment" : Str) = "NothingToUndo" then qu else if ("NoMoment" : Str) = "NoMoment" then qv else if ("NoMoment" : Str) = "NoOperations" then qw else if ("NoMoment" : Str) = "Failed" then qx else if ("NoMoment" : Str) = "Blocked" then qy else if ("NoMoment" : Str) = "BadText" then qz else if ("NoMoment" : Str) = "OrderError" then oo else 0) = qv
      rw [if_neg (by decide +kernel), if_neg (by decide +kernel), if_neg (by decide +kernel), if_neg (by decide +kernel), if_neg (by decide +kernel), if_neg (by decide +kernel), if_neg (by decide +kernel), if_neg (by decide +kernel), if_neg (by decide +kernel), if_neg (by decide +kernel), if_neg (by decide +kernel), if_neg (by decide +kernel), if_neg (by decide +kernel), if_neg (by decide +kernel), if_neg (by decide +kernel), if_neg (by decide +kernel), if_neg (by decide +kernel), if_neg (by decide +kernel), if_neg (by decide +kernel), if_neg (by decide +kernel), if_neg (by decide +kernel), if_pos rfl]
    have cl_qw : cl "NoOperations" = qw := by
      show (if ("NoOperations" : Str) = "NoDemand" then qa else if ("NoOperations" : Str) = "NoDemands" then qb else if ("NoOperations" : Str) = "NoOffer" then qc else if ("NoOperations" : Str) = "NoOffers" then qd else if ("NoOperations" : Str) = "NoOrder" then qe else if ("NoOperations" : Str) = "NotOrderable" then qf else if ("NoOperations" : Str) = "NoIndex" then qg else if ("NoOperations" : Str) = "NoChoice" then qh else if ("NoOperations" : Str) = "NotCovered" then qi else if ("NoOperations" : Str) = "NoIntervals" then qj else if ("NoOperations" : Str) = "NoVertex" then qk else if ("NoOperations" : Str) = "NoBalls" then ql else if ("NoOperations" : Str) = "NoPosition" then qm else if ("NoOperations" : Str) = "NoPositions" then qn else if ("NoOperations" : Str) = "NoAmount" then qo else if ("NoOperations" : Str) = "TooMany" then qp else if ("NoOperations" : Str) = "LastDemand" then qq else if ("NoOperations" : Str) = "BadTable" then qr else if ("NoOperations" : Str) = "BadPrices" then qs else if ("NoOperations" : Str) = "BadPenalties" then qt else if ("NoOperations" : Str) = "NothingToUndo" then qu else if ("NoOperations" : Str) = "NoMoment" then qv else if ("NoOperations" : Str) = "NoOperations" then qw else if ("NoOperations" : Str) = "Failed" then qx else if ("NoOperations" : Str) = "Blocked" then qy else if ("NoOperations" : Str) = "BadText" then qz else if ("NoOperations" : Str) = "OrderError" then oo else 0) = qw
      rw [if_neg (by decide +kernel), if_neg (by decide +kernel), if_neg (by decide +kernel), if_neg (by decide +kernel), if_neg (by decide +kernel), if_neg (by decide +kernel), if_neg (by decide +kernel), if_neg (by decide +kernel), if_neg (by decide +kernel), if_neg (by decide +kernel), if_neg (by decide +kernel), if_neg (by decide +kernel), if_neg (by decide +kernel), if_neg (by decide +kernel), if_neg (by decide +kernel), if_neg (by decide +kernel), if_neg (by decide +kernel), if_neg (by decide +kernel), if_neg (by decide +kernel), if_neg (by decide +kernel), if_neg (by decide +kernel), if_neg (by decide +kernel), if_pos rfl]
    have cl_qx : cl "Failed" = qx := by
      show (if ("Failed" : Str) = "NoDemand" then qa else if ("Failed" : Str) = "NoDemands" then qb else if ("Failed" : Str) = "NoOffer" then qc else if ("Failed" : Str) = "NoOffers" then qd else if ("Failed" : Str) = "NoOrder" then qe else if ("Failed" : Str) = "NotOrderable" then qf else if ("Failed" : Str) = "NoIndex" then qg else if ("Failed" : Str) = "NoChoice" then qh else if ("Failed" : Str) = "NotCovered" then qi else if ("Failed" : Str) = "NoIntervals" then qj else if ("Failed" : Str) = "NoVertex" then qk else if ("Failed" : Str) = "NoBalls" then ql else if ("Failed" : Str) = "NoPosition" then qm else if ("Failed" : Str) = "NoPositions" then qn else if ("Failed" : Str) = "NoAmount" then qo else if ("Failed" : Str) = "TooMany" then qp else if ("Failed" : Str) = "LastDemand" then qq else if ("Failed" : Str) = "BadTable" then qr else if ("Failed" : Str) = "BadPrices" then qs else if ("Failed" : Str) = "BadPenalties" then qt else if ("Failed" : Str) = "NothingToUndo" then qu else if ("Failed" : Str) = "NoMoment" then qv else if ("Failed" : Str) = "NoOperations" then qw else if ("Failed" : Str) = "Failed" then qx else if ("Failed" : Str) = "Blocked" then qy else if ("Failed" : Str) = "BadText" then qz else if ("Failed" : Str) = "OrderError" then oo else 0) = qx
      rw [if_neg (by decide +kernel), if_neg (by decide +kernel), if_neg (by decide +kernel), if_neg (by decide +kernel), if_neg (by decide +kernel), if_neg (by decide +kernel), if_neg (by decide +kernel), if_neg (by decide +kernel), if_neg (by decide +kernel), if_neg (by decide +kernel), if_neg (by decide +kernel), if_neg (by decide +kernel), if_neg (by decide +kernel), if_neg (by decide +kernel), if_neg (by decide +kernel), if_neg (by decide +kernel), if_neg (by decide +kernel), if_neg (by decide +kernel), if_neg (by decide +kernel), if_neg (by decide +kernel), if_neg (by decide +kernel), if_neg (by decide +kernel), if_neg (by decide +kernel), if_pos rfl]
    have cl_qy : cl "Blocked" = qy := by
      show (if ("Blocked" : Str) = "NoDemand" then qa else if ("Blocked" : Str) = "NoDemands" then qb else if ("Blocked" : Str) = "NoOffer" then qc else if ("Blocked" : Str) = "NoOffers" then qd else if ("Blocked" : Str) = "NoOrder" then qe else if ("Blocked" : Str) = "NotOrderable" then qf else if ("Blocked" : Str) = "NoIndex" then qg else if ("Blocked" : Str) = "NoChoice" then qh else if ("Blocked" : Str) = "NotCovered" then qi else if ("Blocked" : Str) = "NoIntervals" then qj else if ("Blocked" : Str) = "NoVertex" then qk else if ("Blocked" : Str) = "NoBalls" then ql else if ("Blocked" : Str) = "NoPosition" then qm else if ("Blocked" : Str) = "NoPositions" then qn else if ("Blocked" : Str) = "NoAmount" then qo else if ("Blocked" : Str) = "TooMany" then qp else if ("Blocked" : Str) = "LastDemand" then qq else if ("Blocked" : Str) = "BadTable" then qr else if ("Blocked" : Str) = "BadPrices" then qs else if ("Blocked" : Str) = "BadPenalties" then qt else if ("Blocked" : Str) = "NothingToUndo" then qu else if ("Blocked" : Str) = "NoMoment" then qv else if ("Blocked" : Str) = "NoOperations" then qw else if ("Blocked" : Str) = "Failed" then qx else if ("Blocked" : Str) = "Blocked" then qy else if ("Blocked" : Str) = "BadText" then qz else if ("Blocked" : Str) = "OrderError" then oo else 0) = qy
      rw [if_neg (by decide +kernel), if_neg (by decide +kernel), if_neg (by decide +kernel), if_neg (by decide +kernel), if_neg (by decide +kernel), if_neg (by decide +kernel), if_neg (by decide +kernel), if_neg (by decide +kernel), if_neg (by decide +kernel), if_neg (by decide +kernel), if_neg (by decide +kernel), if_neg (by decide +kernel), if_neg (by decide +kernel), if_neg (by decide +kernel), if_neg (by decide +kernel), if_neg (by decide +kernel), if_neg (by decide +kernel), if_neg (by decide +kernel), if_neg (by decide +kernel), if_neg (by decide +kernel), if_neg (by decide +kernel), if_neg (by decide +kernel), if_neg (by decide +kernel), if_neg (by decide +kernel), if_pos rfl]
    have cl_qz : cl "BadText" = qz := by
      show (if ("BadText" : Str) = "NoDemand" then qa else if ("BadText" : Str) = "NoDemands" then qb else if ("BadText" : Str) = "NoOffer" then qc else if ("BadText" : Str) = "NoOffers" then qd else if ("BadText" : Str) = "NoOrder" then qe else if ("BadText" : Str) = "NotOrderable" then qf else if ("BadText" : Str) = "NoIndex" then qg else if ("BadText" : Str) = "NoChoice" then qh else if ("BadText" : Str) = "NotCovered" then qi else if ("BadText" : Str) = "NoIntervals" then qj else if ("BadText" : Str) = "NoVertex" then qk else if ("BadText" : Str) = "NoBalls" then ql else if ("BadText" : Str) = "NoPosition" then qm else if ("BadText" : Str) = "NoPositions" then qn else if ("BadText" : Str) = "NoAmount" then qo else if ("BadText" : Str) = "TooMany" then qp else if ("BadText" : Str) = "LastDemand" then qq else if ("BadText" : Str) = "BadTable" then qr else if ("BadText" : Str) = "BadPrices" then qs else if ("BadText" : Str) = "BadPenalties" then qt else if ("BadText" : Str) = "NothingToUndo" then qu else if ("BadText" : Str) = "NoMoment" then qv else if ("BadText" : Str) = "NoOperations" then qw else if ("BadText" : Str) = "Failed" then qx else if ("BadText" : Str) = "Blocked" then qy else if ("BadText" : Str) = "BadText" then qz else if ("BadText" : Str) = "OrderError" then oo else 0) = qz
      rw [if_neg (by decide +kernel), if_neg (by decide +kernel), if_neg (by decide +kernel), if_neg (by decide +kernel), if_neg (by decide +kernel), if_neg (by decide +kernel), if_neg (by decide +kernel), if_neg (by decide +kernel), if_neg (by decide +kernel), if_neg (by decide +kernel), if_neg (by decide +kernel), if_neg (by decide +kernel), if_neg (by decide +kernel), if_neg (by decide +kernel), if_neg (by decide +kernel), if_neg (by decide +kernel), if_neg (by decide +kernel), if_neg (by decide +kernel), if_neg (by decide +kernel), if_neg (by decide +kernel), if_neg (by decide +kernel), if_neg (by decide +kernel), if_neg (by decide +kernel), if_neg (by decide +kernel), if_neg (by decide +kernel), if_pos rfl]
    have cl_oo : cl "OrderError" = oo := by
      show (if ("OrderError" : Str) = "NoDemand" then qa else if ("OrderError" : Str) = "NoDemands" then qb else if ("OrderError" : Str) = "NoOffer" then qc else if ("OrderError" : Str) = "NoOffers" then qd else if ("OrderError" : Str) = "NoOrder" then qe else if ("OrderError" : Str) = "NotOrderable" then qf else if ("OrderError" : Str) = "NoIndex" then qg else if ("OrderError" : Str) = "NoChoice" then qh else if ("OrderError" : Str) = "NotCovered" then qi else if ("OrderError" : Str) = "NoIntervals" then qj else if ("OrderError" : Str) = "NoVertex" then qk else if ("OrderError" : Str) = "NoBalls" then ql else if ("OrderError" : Str) = "NoPosition" then qm else if ("OrderError" : Str) = "NoPositions" then qn else if ("OrderError" : Str) = "NoAmount" then qo else if ("OrderError" : Str) = "TooMany" then qp else if ("OrderError" : Str) = "LastDemand" then qq else if ("OrderError" : Str) = "BadTable" then qr else if ("OrderError" : Str) = "BadPrices" then qs else if ("OrderError" : Str) = "BadPenalties" then qt else if ("OrderError" : Str) = "NothingToUndo" then qu else if ("OrderError" : Str) = "NoMoment" then qv else if ("OrderError" : Str) = "NoOperations" then qw else if ("OrderError" : Str) = "Failed" then qx else if ("OrderError" : Str) = "Blocked" then qy else if ("OrderError" : Str) = "BadText" then qz else if ("OrderError" : Str) = "OrderError" then oo else 0) = oo
      rw [if_neg (by decide +kernel), if_neg (by decide +kernel), if_neg (by decide +kernel), if_neg (by decide +kernel), if_neg (by decide +kernel), if_neg (by decide +kernel), if_neg (by decide +kernel), if_neg (by decide +kernel), if_neg (by decide +kernel), if_neg (by decide +kernel), if_neg (by decide +kernel), if_neg (by decide +kernel), if_neg (by decide +kernel), if_neg (by decide +kernel), if_neg (by decide +kernel), if_neg (by decide +kernel), if_neg (by decide +kernel), if_neg (by decide +kernel), if_neg (by decide +kernel), if_neg (by decide +kernel), if_neg (by decide +kernel), if_neg (by decide +kernel), if_neg (by decide +kernel), if_neg (by decide +kernel), if_neg (by decide +kernel), if_neg (by decide +kernel), if_pos rfl]
    have T_NoDemand : EcI P w K mg base "NoDemand" (cl "NoDemand") "demand" := by rw [cl_qa]; exact qat
    have gc_NoDemand : mg "NoDemand" = some (.ref (cl "NoDemand")) := by rw [cl_qa]; exact gqa
    have T_NoDemands : Ec0 K mg "NoDemands" (cl "NoDemands") := by rw [cl_qb]; exact qbt
    have gc_NoDemands : mg "NoDemands" = some (.ref (cl "NoDemands")) := by rw [cl_qb]; exact gqb
    have T_NoOffer : EcI P w K mg base "NoOffer" (cl "NoOffer") "offer" := by rw [cl_qc]; exact qct
    have gc_NoOffer : mg "NoOffer" = some (.ref (cl "NoOffer")) := by rw [cl_qc]; exact gqc
    have T_NoOffers : Ec0 K mg "NoOffers" (cl "NoOffers") := by rw [cl_qd]; exact qdt
    have gc_NoOffers : mg "NoOffers" = some (.ref (cl "NoOffers")) := by rw [cl_qd]; exact gqd
    have T_NoOrder : Ec0 K mg "NoOrder" (cl "NoOrder") := by rw [cl_qe]; exact qet
    have gc_NoOrder : mg "NoOrder" = some (.ref (cl "NoOrder")) := by rw [cl_qe]; exact gqe
    have T_NotOrderable : EcI P w K mg base "NotOrderable" (cl "NotOrderable") "ring" := by rw [cl_qf]; exact qft
    have gc_NotOrderable : mg "NotOrderable" = some (.ref (cl "NotOrderable")) := by rw [cl_qf]; exact gqf
    have T_NoIndex : EcI P w K mg base "NoIndex" (cl "NoIndex") "index" := by rw [cl_qg]; exact qgt
    have gc_NoIndex : mg "NoIndex" = some (.ref (cl "NoIndex")) := by rw [cl_qg]; exact gqg
    have T_NoChoice : Ec0 K mg "NoChoice" (cl "NoChoice") := by rw [cl_qh]; exact qht
    have gc_NoChoice : mg "NoChoice" = some (.ref (cl "NoChoice")) := by rw [cl_qh]; exact gqh
    have T_NotCovered : EcI P w K mg base "NotCovered" (cl "NotCovered") "demand" := by rw [cl_qi]; exact qit
    have gc_NotCovered : mg "NotCovered" = some (.ref (cl "NotCovered")) := by rw [cl_qi]; exact gqi
    have T_NoIntervals : Ec0 K mg "NoIntervals" (cl "NoIntervals") := by rw [cl_qj]; exact qjt
    have gc_NoIntervals : mg "NoIntervals" = some (.ref (cl "NoIntervals")) := by rw [cl_qj]; exact gqj
    have T_NoVertex : EcI P w K mg base "NoVertex" (cl "NoVertex") "vertex" := by rw [cl_qk]; exact qkt
    have gc_NoVertex : mg "NoVertex" = some (.ref (cl "NoVertex")) := by rw [cl_qk]; exact gqk
    have T_NoBalls : Ec0 K mg "NoBalls" (cl "NoBalls") := by rw [cl_ql]; exact qlt
    have gc_NoBalls : mg "NoBalls" = some (.ref (cl "NoBalls")) := by rw [cl_ql]; exact gql
    have T_NoPosition : EcI P w K mg base "NoPosition" (cl "NoPosition") "position" := by rw [cl_qm]; exact qmt
    have gc_NoPosition : mg "NoPosition" = some (.ref (cl "NoPosition")) := by rw [cl_qm]; exact gqm
    have T_NoPositions : Ec0 K mg "NoPositions" (cl "NoPositions") := by rw [cl_qn]; exact qnt
    have gc_NoPositions : mg "NoPositions" = some (.ref (cl "NoPositions")) := by rw [cl_qn]; exact gqn
    have T_NoAmount : EcI P w K mg base "NoAmount" (cl "NoAmount") "amount" := by rw [cl_qo]; exact qot
    have gc_NoAmount : mg "NoAmount" = some (.ref (cl "NoAmount")) := by rw [cl_qo]; exact gqo
    have T_TooMany : EcI P w K mg base "TooMany" (cl "TooMany") "limit" := by rw [cl_qp]; exact qpt
    have gc_TooMany : mg "TooMany" = some (.ref (cl "TooMany")) := by rw [cl_qp]; exact gqp
    have T_LastDemand : Ec0 K mg "LastDemand" (cl "LastDemand") := by rw [cl_qq]; exact qqt
    have gc_LastDemand : mg "LastDemand" = some (.ref (cl "LastDemand")) := by rw [cl_qq]; exact gqq
    have T_BadTable : Ec0 K mg "BadTable" (cl "BadTable") := by rw [cl_qr]; exact qrt
    have gc_BadTable : mg "BadTable" = some (.ref (cl "BadTable")) := by rw [cl_qr]; exact gqr
    have T_BadPrices : Ec0 K mg "BadPrices" (cl "BadPrices") := by rw [cl_qs]; exact qst
    have gc_BadPrices : mg "BadPrices" = some (.ref (cl "BadPrices")) := by rw [cl_qs]; exact gqs
    have T_BadPenalties : Ec0 K mg "BadPenalties" (cl "BadPenalties") := by rw [cl_qt]; exact qtt
    have gc_BadPenalties : mg "BadPenalties" = some (.ref (cl "BadPenalties")) := by rw [cl_qt]; exact gqt
    have T_NothingToUndo : Ec0 K mg "NothingToUndo" (cl "NothingToUndo") := by rw [cl_qu]; exact qut
    have gc_NothingToUndo : mg "NothingToUndo" = some (.ref (cl "NothingToUndo")) := by rw [cl_qu]; exact gqu
    have T_NoMoment : EcI P w K mg base "NoMoment" (cl "NoMoment") "at" := by rw [cl_qv]; exact qvt
    have gc_NoMoment : mg "NoMoment" = some (.ref (cl "NoMoment")) := by rw [cl_qv]; exact gqv
    have T_NoOperations : Ec0 K mg "NoOperations" (cl "NoOperations") := by rw [cl_qw]; exact qwt
    have gc_NoOperations : mg "NoOperations" = some (.ref (cl "NoOperations")) := by rw [cl_qw]; exact gqw
    have T_Failed : EcI P w K mg base "Failed" (cl "Failed") "index" := by rw [cl_qx]; exact qxt
    have gc_Failed : mg "Failed" = some (.ref (cl "Failed")) := by rw [cl_qx]; exact gqx
    have T_Blocked : EcI P w K mg base "Blocked" (cl "Blocked") "ring" := by rw [cl_qy]; exact qyt
    have gc_Blocked : mg "Blocked" = some (.ref (cl "Blocked")) := by rw [cl_qy]; exact gqy
    have T_BadText : EcI P w K mg base "BadText" (cl "BadText") "line" := by rw [cl_qz]; exact qzt
    have gc_BadText : mg "BadText" = some (.ref (cl "BadText")) := by rw [cl_qz]; exact gqz
    have xc__law_flags : ∀ x ∈ (["NoDemand", "NoOffer", "NotOrderable", "NoIndex", "NotCovered", "NoVertex", "NoPosition", "NoAmount", "TooMany", "NoMoment", "Failed", "Blocked", "BadText", "NoDemands", "NoOffers", "NoOrder", "NoChoice", "NoIntervals", "NoBalls", "NoPositions", "LastDemand", "BadTable", "BadPrices", "BadPenalties", "NothingToUndo", "NoOperations"] : List Str), ExcC K (cl x) := by
          intro x hx; simp only [List.mem_cons, List.not_mem_nil, or_false] at hx; rcases hx with rfl | rfl | rfl | rfl | rfl | rfl | rfl | rfl | rfl | rfl | rfl | rfl | rfl | rfl | rfl | rfl | rfl | rfl | rfl | rfl | rfl | rfl | rfl | rfl | rfl | rfl
          · rw [cl_qa]; exact qaxc
          · rw [cl_qc]; exact qcxc
          · rw [cl_qf]; exact qfxc
          · rw [cl_qg]; exact qgxc
          · rw [cl_qi]; exact qixc
          · rw [cl_qk]; exact qkxc
          · rw [cl_qm]; exact qmxc
          · rw [cl_qo]; exact qoxc
          · rw [cl_qp]; exact qpxc
          · rw [cl_qv]; exact qvxc
          · rw [cl_qx]; exact qxxc
          · rw [cl_qy]; exact qyxc
          · rw [cl_qz]; exact qzxc
          · rw [cl_qb]; exact qbxc
          · rw [cl_qd]; exact qdxc
          · rw [cl_qe]; exact qexc
          · rw [cl_qh]; exact qhxc
          · rw [cl_qj]; exact qjxc
          · rw [cl_ql]; exact qlxc
          · rw [cl_qn]; exact qnxc
          · rw [cl_qq]; exact qqxc
          · rw [cl_qr]; exact qrxc
          · rw [cl_qs]; exact qsxc
          · rw [cl_qt]; exact qtxc
          · rw [cl_qu]; exact quxc
          · rw [cl_qw]; exact qwxc
    have hl : CLS.map cl = [qa, qc, qf, qg, qi, qk, qm, qo, qp, qv, qx, qy, qz, qb, qd, qe, qh, qj, ql, qn, qq, qr, qs, qt, qu, qw] := by
          show [cl "NoDemand", cl "NoOffer", cl "NotOrderable", cl "NoIndex", cl "NotCovered", cl "NoVertex", cl "NoPosition", cl "NoAmount", cl "TooMany", cl "NoMoment", cl "Failed", cl "Blocked", cl "BadText", cl "NoDemands", cl "NoOffers", cl "NoOrder", cl "NoChoice", cl "NoIntervals", cl "NoBalls", cl "NoPositions", cl "LastDemand", cl "BadTable", cl "BadPrices", cl "BadPenalties", cl "NothingToUndo", cl "NoOperations"] = _
          rw [cl_qa, cl_qc, cl_qf, cl_qg, cl_qi, cl_qk, cl_qm, cl_qo, cl_qp, cl_qv, cl_qx, cl_qy, cl_qz, cl_qb, cl_qd, cl_qe, cl_qh, cl_qj, cl_ql, cl_qn, cl_qq, cl_qr, cl_qs, cl_qt, cl_qu, cl_qw]
    have pp2 : Oe.pairsB K oo (CLS.map cl) = true := by rw [hl]; exact pp
    have kt__law_flags := Oe.kt_of pp2
    have kb_law : ∀ x ∈ CLS, PySem.W.kitOne K (.ref (cl x)) (.ref (cl "OrderError")) = some true := by rw [cl_oo]; exact Oe.kb_of pp2
    have gc_OrderError : mg "OrderError" = some (.ref (cl "OrderError")) := by rw [cl_oo]; exact goo
    have xc_law : ∀ x ∈ (["NoDemand", "NoOffer", "NotOrderable", "NoIndex", "NotCovered", "NoVertex", "NoPosition", "NoAmount", "TooMany", "NoMoment", "Failed", "Blocked", "BadText", "NoDemands", "NoOffers", "NoOrder", "NoChoice", "NoIntervals", "NoBalls", "NoPositions", "LastDemand", "BadTable", "BadPrices", "BadPenalties", "NothingToUndo", "NoOperations"] : List Str), ExcC K (cl x) := by
          intro x hx; simp only [List.mem_cons, List.not_mem_nil, or_false] at hx; rcases hx with rfl | rfl | rfl | rfl | rfl | rfl | rfl | rfl | rfl | rfl | rfl | rfl | rfl | rfl | rfl | rfl | rfl | rfl | rfl | rfl | rfl | rfl | rfl | rfl | rfl | rfl
          · rw [cl_qa]; exact qaxc
          · rw [cl_qc]; exact qcxc
          · rw [cl_qf]; exact qfxc
          · rw [cl_qg]; exact qgxc
          · rw [cl_qi]; exact qixc
          · rw [cl_qk]; exact qkxc
          · rw [cl_qm]; exact qmxc
          · rw [cl_qo]; exact qoxc
          · rw [cl_qp]; exact qpxc
          · rw [cl_qv]; exact qvxc
          · rw [cl_qx]; exact qxxc
          · rw [cl_qy]; exact qyxc
          · rw [cl_qz]; exact qzxc
          · rw [cl_qb]; exact qbxc
          · rw [cl_qd]; exact qdxc
          · rw [cl_qe]; exact qexc
          · rw [cl_qh]; exact qhxc
          · rw [cl_qj]; exact qjxc
          · rw [cl_ql]; exact qlxc
          · rw [cl_qn]; exact qnxc
          · rw [cl_qq]; exact qqxc
          · rw [cl_qr]; exact qrxc
          · rw [cl_qs]; exact qsxc
          · rw [cl_qt]; exact qtxc
          · rw [cl_qu]; exact quxc
          · rw [cl_qw]; exact qwxc
    have kv_law : ∀ x ∈ (["NoDemand", "NoOffer", "NotOrderable", "NoIndex", "NotCovered", "NoVertex", "NoPosition", "NoAmount", "TooMany", "NoMoment", "Failed", "Blocked", "BadText", "NoDemands", "NoOffers", "NoOrder", "NoChoice", "NoIntervals", "NoBalls", "NoPositions", "LastDemand", "BadTable", "BadPrices", "BadPenalties", "NothingToUndo", "NoOperations"] : List Str), PySem.W.kitOne K (.ref (cl x)) (.type "ValueError") = some true := by
          intro x hx; simp only [List.mem_cons, List.not_mem_nil, or_false] at hx; rcases hx with rfl | rfl | rfl | rfl | rfl | rfl | rfl | rfl | rfl | rfl | rfl | rfl | rfl | rfl | rfl | rfl | rfl | rfl | rfl | rfl | rfl | rfl | rfl | rfl | rfl | rfl
          · rw [cl_qa]; exact kit_tyv meta_VE qasv
          · rw [cl_qc]; exact kit_tyv meta_VE qcsv
          · rw [cl_qf]; exact kit_tyv meta_VE qfsv
          · rw [cl_qg]; exact kit_tyv meta_VE qgsv
          · rw [cl_qi]; exact kit_tyv meta_VE qisv
          · rw [cl_qk]; exact kit_tyv meta_VE qksv
          · rw [cl_qm]; exact kit_tyv meta_VE qmsv
          · rw [cl_qo]; exact kit_tyv meta_VE qosv
          · rw [cl_qp]; exact kit_tyv meta_VE qpsv
          · rw [cl_qv]; exact kit_tyv meta_VE qvsv
          · rw [cl_qx]; exact kit_tyv meta_VE qxsv
          · rw [cl_qy]; exact kit_tyv meta_VE qysv
          · rw [cl_qz]; exact kit_tyv meta_VE qzsv
          · rw [cl_qb]; exact kit_tyv meta_VE qbsv
          · rw [cl_qd]; exact kit_tyv meta_VE qdsv
          · rw [cl_qe]; exact kit_tyv meta_VE qesv
          · rw [cl_qh]; exact kit_tyv meta_VE qhsv
          · rw [cl_qj]; exact kit_tyv meta_VE qjsv
          · rw [cl_ql]; exact kit_tyv meta_VE qlsv
          · rw [cl_qn]; exact kit_tyv meta_VE qnsv
          · rw [cl_qq]; exact kit_tyv meta_VE qqsv
          · rw [cl_qr]; exact kit_tyv meta_VE qrsv
          · rw [cl_qs]; exact kit_tyv meta_VE qssv
          · rw [cl_qt]; exact kit_tyv meta_VE qtsv
          · rw [cl_qu]; exact kit_tyv meta_VE qusv
          · rw [cl_qw]; exact kit_tyv meta_VE qwsv
    have cDeck := cl_mk (P := P) (w := w) (K := K) (mg := mg) (base := base) F0 m0 b0 (ok_deck F0 B.toBn)
    have cNext := cl_mk (P := P) (w := w) (K := K) (mg := mg) (base := base) F1 m1 b1 (ok_next F1 B.toBn)
    have cNextW := cNext.weaker (w_next (K := K))
    have cOdd := cl_mk (P := P) (w := w) (K := K) (mg := mg) (base := base) F2 m2 b2 (ok_odd F2 B.toBn cNext)
    have cOddW := cOdd.weaker w_odd
    have k__law_all := cl_mk (P := P) (w := w) (K := K) (mg := mg) (base := base) F3 m3 b3 (ok__law_all (cl := cl) F3 B T_NoDemand T_NoOffer T_NotOrderable T_NoIndex T_NotCovered T_NoVertex T_NoPosition T_NoAmount T_TooMany T_NoMoment T_Failed T_Blocked T_BadText T_NoDemands T_NoOffers T_NoOrder T_NoChoice T_NoIntervals T_NoBalls T_NoPositions T_LastDemand T_BadTable T_BadPrices T_BadPenalties T_NothingToUndo T_NoOperations)
    have k__law_flags := cl_mk (P := P) (w := w) (K := K) (mg := mg) (base := base) F4 m4 b4 (ok__law_flags (cl := cl) F4 B xc__law_flags kt__law_flags gc_NoDemand gc_NoOffer gc_NotOrderable gc_NoIndex gc_NotCovered gc_NoVertex gc_NoPosition gc_NoAmount gc_TooMany gc_NoMoment gc_Failed gc_Blocked gc_BadText gc_NoDemands gc_NoOffers gc_NoOrder gc_NoChoice gc_NoIntervals gc_NoBalls gc_NoPositions gc_LastDemand gc_BadTable gc_BadPrices gc_BadPenalties gc_NothingToUndo gc_NoOperations)
    have k__law_fields := cl_mk (P := P) (w := w) (K := K) (mg := mg) (base := base) F5 m5 b5 (ok__law_fields (cl := cl) F5 B T_NoDemand T_NoOffer T_NotOrderable T_NoIndex T_NotCovered T_NoVertex T_NoPosition T_NoAmount T_TooMany T_NoMoment T_Failed T_Blocked T_BadText)
    exact ok_law F6 B hb cDeck g_MAX_DEMANDS g_MAX_OFFERS g_MAX_AMOUNT g_MAX_BLOCKS g_MAX_OPERATIONS g_MAX_BATCH g_LOG_SIZE cOddW xc_law kb_law kv_law gc_OrderError k__law_all k__law_flags k__law_fields law_pure
end L01

set_option Elab.async false
set_option linter.all false
open PySem PySem.W PyProof.Rows
set_option maxRecDepth 100000 in
set_option maxHeartbeats 0 in
theorem PySem.Challenge.cw_payorder_k01_limits_and_exceptions_holds : PySem.Challenge.rw_payorder_k01_limits_and_exceptions.Holds := by
  w_on; o_law; k_head; (case hw => w_witness2)
  k_fill
  refine Pb.walk_S (l := PySem.Challenge.rw_payorder_k01_limits_and_exceptions) (n := 63) (k := 4) (x := "_law_script") (sp := fun w => Pb.spLaw _) (by decide +kernel) rfl (by decide) rfl ⟨rfl, by decide, by decide⟩ (fun w h Y => PySem.W.kIn_of Y) ?F (fun _ _ a ns hl _ hS => ⟨a, ns, rfl, hS, hl, fun _ => rfl⟩)
  case F =>
    intro w mg fa h KX G hmg
    have B0 : Pb.Bn mg := by
      refine' ⟨PySem.W.mg_none_of KX G ?z0, PySem.W.mg_none_of KX G ?z1, PySem.W.mg_none_of KX G ?z2, PySem.W.mg_none_of KX G ?z3, PySem.W.mg_none_of KX G ?z4, PySem.W.mg_none_of KX G ?z5, PySem.W.mg_none_of KX G ?z6, PySem.W.mg_none_of KX G ?z7, PySem.W.mg_none_of KX G ?z8, PySem.W.mg_none_of KX G ?z9, PySem.W.mg_none_of KX G ?z10, PySem.W.mg_none_of KX G ?z11, PySem.W.mg_none_of KX G ?z12, PySem.W.mg_none_of KX G ?z13, PySem.W.mg_none_of KX G ?z14⟩
      (case z0 => k_is)
      (case z1 => k_is)
      (case z2 => k_is)
      (case z3 => k_is)
      (case z4 => k_is)
      (case z5 => k_is)
      (case z6 => k_is)
      (case z7 => k_is)
      (case z8 => k_is)
      (case z9 => k_is)
      (case z10 => k_is)
      (case z11 => k_is)
      (case z12 => k_is)
      (case z13 => k_is)
      (case z14 => k_is)
    have B : Pb.Bx mg := by
      refine' ⟨B0, PySem.W.mg_none_of KX G ?zz0, PySem.W.mg_none_of KX G ?zz1, PySem.W.mg_none_of KX G ?zz2, PySem.W.mg_none_of KX G ?zz3, PySem.W.mg_none_of KX G ?zz4, PySem.W.mg_none_of KX G ?zz5, PySem.W.mg_none_of KX G ?zz6⟩
      (case zz0 => k_is)
      (case zz1 => k_is)
      (case zz2 => k_is)
      (case zz3 => k_is)
      (case zz4 => k_is)
      (case zz5 => k_is)
      (case zz6 => k_is)
    have cst0 : ∃ t, mg "LOG_SIZE" = some (.int 100 t) := by
      refine' Pb.ct_mk KX G ?cta ?cte
      (case cta => k_is)
      (case cte => exact ⟨_, rfl⟩)
    have cst1 : ∃ t, mg "MAX_AMOUNT" = some (.int 1000000000000 t) := by
      refine' Pb.ct_mk KX G ?cta ?cte
      (case cta => k_is)
      (case cte => exact ⟨_, rfl⟩)
    have cst2 : ∃ t, mg "MAX_BATCH" = some (.int 20 t) := by
      refine' Pb.ct_mk KX G ?cta ?cte
      (case cta => k_is)
      (case cte => exact ⟨_, rfl⟩)
    have cst3 : ∃ t, mg "MAX_BLOCKS" = some (.int 6 t) := by
      refine' Pb.ct_mk KX G ?cta ?cte
      (case cta => k_is)
      (case cte => exact ⟨_, rfl⟩)
    have cst4 : ∃ t, mg "MAX_DEMANDS" = some (.int 10 t) := by
      refine' Pb.ct_mk KX G ?cta ?cte
      (case cta => k_is)
      (case cte => exact ⟨_, rfl⟩)
    have cst5 : ∃ t, mg "MAX_OFFERS" = some (.int 10 t) := by
      refine' Pb.ct_mk KX G ?cta ?cte
      (case cta => k_is)
      (case cte => exact ⟨_, rfl⟩)
    have cst6 : ∃ t, mg "MAX_OPERATIONS" = some (.int 60 t) := by
      refine' Pb.ct_mk KX G ?cta ?cte
      (case cta => k_is)
      (case cte => exact ⟨_, rfl⟩)
    refine' L01.all_mk KX G hmg B cst0 cst1 cst2 cst3 cst4 cst5 cst6 (PySem.W.mg_of KX G ?x0) ?x1 ?x2 ?x3 (PySem.W.mg_of KX G ?x4) ?x5 ?x6 ?x7 ?x8 ?x9 ?x10 ?x11 ?x12 ?x13 ?x14 ?x15 (Pb.oex_cls ?x16l ?x16r) ?x17 ?x18 (Pb.di_mk ?x19a ?x19t ?x19l ?x19c ?x19k) (PySem.W.mg_of KX G ?x20) ?x21 ?x22 ?x23 ?x24 ?x25 ?x26 ?x27 ?x28 ?x29 ?x30 ?x31 ?x32 (PySem.W.mg_of KX G ?x33) ?x34 ?x35 ?x36 ?x37 ?x38 ?x39 ?x40 ?x41 ?x42 ?x43 ?x44 (Pb.oex_cls ?x45l ?x45r) ?x46 ?x47 (Pb.di_mk ?x48a ?x48t ?x48l ?x48c ?x48k) (PySem.W.mg_of KX G ?x49) ?x50 ?x51 ?x52 ?x53 ?x54 ?x55 ?x56 ?x57 ?x58 ?x59 ?x60 ?x61 (PySem.W.mg_of KX G ?x62) ?x63 ?x64 ?x65 ?x66 ?x67 ?x68 ?x69 ?x70 ?x71 ?x72 ?x73 ?x74 (PySem.W.mg_of KX G ?x75) ?x76 ?x77 ?x78 ?x79 ?x80 ?x81 ?x82 ?x83 ?x84 ?x85 ?x86 (Pb.oex_cls ?x87l ?x87r) ?x88 ?x89 (Pb.di_mk ?x90a ?x90t ?x90l ?x90c ?x90k) (PySem.W.mg_of KX G ?x91) ?x92 ?x93 ?x94 ?x95 ?x96 ?x97 ?x98 ?x99 ?x100 ?x101 ?x102 (Pb.oex_cls ?x103l ?x103r) ?x104 ?x105 (Pb.di_mk ?x106a ?x106t ?x106l ?x106c ?x106k) (PySem.W.mg_of KX G ?x107) ?x108 ?x109 ?x110 ?x111 ?x112 ?x113 ?x114 ?x115 ?x116 ?x117 ?x118 ?x119 (PySem.W.mg_of KX G ?x120) ?x121 ?x122 ?x123 ?x124 ?x125 ?x126 ?x127 ?x128 ?x129 ?x130 ?x131 (Pb.oex_cls ?x132l ?x132r) ?x133 ?x134 (Pb.di_mk ?x135a ?x135t ?x135l ?x135c ?x135k) (PySem.W.mg_of KX G ?x136) ?x137 ?x138 ?x139 ?x140 ?x141 ?x142 ?x143 ?x144 ?x145 ?x146 ?x147 ?x148 (PySem.W.mg_of KX G ?x149) ?x150 ?x151 ?x152 ?x153 ?x154 ?x155 ?x156 ?x157 ?x158 ?x159 ?x160 (Pb.oex_cls ?x161l ?x161r) ?x162 ?x163 (Pb.di_mk ?x164a ?x164t ?x164l ?x164c ?x164k) (PySem.W.mg_of KX G ?x165) ?x166 ?x167 ?x168 ?x169 ?x170 ?x171 ?x172 ?x173 ?x174 ?x175 ?x176 ?x177 (PySem.W.mg_of KX G ?x178) ?x179 ?x180 ?x181 ?x182 ?x183 ?x184 ?x185 ?x186 ?x187 ?x188 ?x189 (Pb.oex_cls ?x190l ?x190r) ?x191 ?x192 (Pb.di_mk ?x193a ?x193t ?x193l ?x193c ?x193k) (PySem.W.mg_of KX G ?x194) ?x195 ?x196 ?x197 ?x198 ?x199 ?x200 ?x201 ?x202 ?x203 ?x204 ?x205 ?x206 (PySem.W.mg_of KX G ?x207) ?x208 ?x209 ?x210 ?x211 ?x212 ?x213 ?x214 ?x215 ?x216 ?x217 ?x218 (Pb.oex_cls ?x219l ?x219r) ?x220 ?x221 (Pb.di_mk ?x222a ?x222t ?x222l ?x222c ?x222k) (PySem.W.mg_of KX G ?x223) ?x224 ?x225 ?x226 ?x227 ?x228 ?x229 ?x230 ?x231 ?x232 ?x233 ?x234 (Pb.oex_cls ?x235l ?x235r) ?x236 ?x237 (Pb.di_mk ?x238a ?x238t ?x238l ?x238c ?x238k) (PySem.W.mg_of KX G ?x239) ?x240 ?x241 ?x242 ?x243 ?x244 ?x245 ?x246 ?x247 ?x248 ?x249 ?x250 ?x251 (PySem.W.mg_of KX G ?x252) ?x253 ?x254 ?x255 ?x256 ?x257 ?x258 ?x259 ?x260 ?x261 ?x262 ?x263 ?x264 (PySem.W.mg_of KX G ?x265) ?x266 ?x267 ?x268 ?x269 ?x270 ?x271 ?x272 ?x273 ?x274 ?x275 ?x276 ?x277 (PySem.W.mg_of KX G ?x278) ?x279 ?x280 ?x281 ?x282 ?x283 ?x284 ?x285 ?x286 ?x287 ?x288 ?x289 ?x290 (PySem.W.mg_of KX G ?x291) ?x292 ?x293 ?x294 ?x295 ?x296 ?x297 ?x298 ?x299 ?x300 ?x301 ?x302 ?x303 (PySem.W.mg_of KX G ?x304) ?x305 ?x306 ?x307 ?x308 ?x309 ?x310 ?x311 ?x312 ?x313 ?x314 ?x315 (Pb.oex_cls ?x316l ?x316r) ?x317 ?x318 (Pb.di_mk ?x319a ?x319t ?x319l ?x319c ?x319k) (PySem.W.mg_of KX G ?x320) ?x321 ?x322 ?x323 ?x324 ?x325 ?x326 ?x327 ?x328 ?x329 ?x330 ?x331 ?x332 (PySem.W.mg_of KX G ?x333) ?x334 ?x335 ?x336 ?x337 ?x338 ?x339 ?x340 ?x341 ?x342 ?x343 ?x344 (Pb.oex_cls ?x345l ?x345r) ?x346 ?x347 (Pb.di_mk ?x348a ?x348t ?x348l ?x348c ?x348k) (PySem.W.mg_of KX G ?x349) ?x350 ?x351 ?x352 ?x353 ?x354 ?x355 ?x356 ?x357 ?x358 ?x359 ?x360 (Pb.oex_cls ?x361l ?x361r) ?x362 ?x363 (Pb.di_mk ?x364a ?x364t ?x364l ?x364c ?x364k) (PySem.W.mg_of KX G ?x365) ?x366 ?x367 ?x368 ?x369 ?x370 ?x371 ?x372 ?x373 ?x374 ?x375 ?x376 (Pb.oex_cls ?x377l ?x377r) ?x378 ?x379 (Pb.di_mk ?x380a ?x380t ?x380l ?x380c ?x380k) ?x381 ?x382 ?x383 (Pb.df_mk KX G ?a0 ?l0 ?c0 ?k0) (Pb.df_mk KX G ?a1 ?l1 ?c1 ?k1) (Pb.df_mk KX G ?a2 ?l2 ?c2 ?k2) (Pb.df_mk KX G ?a3 ?l3 ?c3 ?k3) (Pb.df_mk KX G ?a4 ?l4 ?c4 ?k4) (Pb.df_mk KX G ?a5 ?l5 ?c5 ?k5) (Pb.df_mk KX G ?a6 ?l6 ?c6 ?k6)
    (case x0 => k_is)
    (case x1 => k_is)
    (case x2 => k_is)
    (case x3 => k_is)
    (case x4 => k_is)
    (case x5 => k_is)
    (case x6 => k_is)
    (case x7 => k_is)
    (case x8 => k_is)
    (case x9 => k_is)
    (case x10 => k_is)
    (case x11 => k_is)
    (case x12 => k_is)
    (case x13 => k_is)
    (case x14 => k_is)
    (case x15 => k_is)
    (case x16l => k_is)
    (case x16r => decide +kernel)
    (case x17 => k_is)
    (case x18 => k_is)
    (case x19a => k_is)
    (case x19t => k_is)
    (case x19l => k_is)
    (case x19c => k_is)
    (case x19k => k_is)
    (case x20 => k_is)
    (case x21 => k_is)
    (case x22 => k_is)
    (case x23 => k_is)
    (case x24 => k_is)
    (case x25 => k_is)
    (case x26 => k_is)
    (case x27 => k_is)
    (case x28 => k_is)
    (case x29 => k_is)
    (case x30 => k_is)
    (case x31 => k_is)
    (case x32 => k_exc)
    (case x33 => k_is)
    (case x34 => k_is)
    (case x35 => k_is)
    (case x36 => k_is)
    (case x37 => k_is)
    (case x38 => k_is)
    (case x39 => k_is)
    (case x40 => k_is)
    (case x41 => k_is)
    (case x42 => k_is)
    (case x43 => k_is)
    (case x44 => k_is)
    (case x45l => k_is)
    (case x45r => decide +kernel)
    (case x46 => k_is)
    (case x47 => k_is)
    (case x48a => k_is)
    (case x48t => k_is)
    (case x48l => k_is)
    (case x48c => k_is)
    (case x48k => k_is)
    (case x49 => k_is)
    (case x50 => k_is)
    (case x51 => k_is)
    (case x52 => k_is)
    (case x53 => k_is)
    (case x54 => k_is)
    (case x55 => k_is)
    (case x56 => k_is)
    (case x57 => k_is)
    (case x58 => k_is)
    (case x59 => k_is)
    (case x60 => k_is)
    (case x61 => k_exc)
    (case x62 => k_is)
    (case x63 => k_is)
    (case x64 => k_is)
    (case x65 => k_is)
    (case x66 => k_is)
    (case x67 => k_is)
    (case x68 => k_is)
    (case x69 => k_is)
    (case x70 => k_is)
    (case x71 => k_is)
    (case x72 => k_is)
    (case x73 => k_is)
    (case x74 => k_exc)
    (case x75 => k_is)
    (case x76 => k_is)
    (case x77 => k_is)
    (case x78 => k_is)
    (case x79 => k_is)
    (case x80 => k_is)
    (case x81 => k_is)
    (case x82 => k_is)
    (case x83 => k_is)
    (case x84 => k_is)
    (case x85 => k_is)
    (case x86 => k_is)
    (case x87l => k_is)
    (case x87r => decide +kernel)
    (case x88 => k_is)
    (case x89 => k_is)
    (case x90a => k_is)
    (case x90t => k_is)
    (case x90l => k_is)
    (case x90c => k_is)
    (case x90k => k_is)
    (case x91 => k_is)
    (case x92 => k_is)
    (case x93 => k_is)
    (case x94 => k_is)
    (case x95 => k_is)
    (case x96 => k_is)
    (case x97 => k_is)
    (case x98 => k_is)
    (case x99 => k_is)
    (case x100 => k_is)
    (case x101 => k_is)
    (case x102 => k_is)
    (case x103l => k_is)
    (case x103r => decide +kernel)
    (case x104 => k_is)
    (case x105 => k_is)
    (case x106a => k_is)
    (case x106t => k_is)
    (case x106l => k_is)
    (case x106c => k_is)
    (case x106k => k_is)
    (case x107 => k_is)
    (case x108 => k_is)
    (case x109 => k_is)
    (case x110 => k_is)
    (case x111 => k_is)
    (case x112 => k_is)
    (case x113 => k_is)
    (case x114 => k_is)
    (case x115 => k_is)
    (case x116 => k_is)
    (case x117 => k_is)
    (case x118 => k_is)
    (case x119 => k_exc)
    (case x120 => k_is)
    (case x121 => k_is)
    (case x122 => k_is)
    (case x123 => k_is)
    (case x124 => k_is)
    (case x125 => k_is)
    (case x126 => k_is)
    (case x127 => k_is)
    (case x128 => k_is)
    (case x129 => k_is)
    (case x130 => k_is)
    (case x131 => k_is)
    (case x132l => k_is)
    (case x132r => decide +kernel)
    (case x133 => k_is)
    (case x134 => k_is)
    (case x135a => k_is)
    (case x135t => k_is)
    (case x135l => k_is)
    (case x135c => k_is)
    (case x135k => k_is)
    (case x136 => k_is)
    (case x137 => k_is)
    (case x138 => k_is)
    (case x139 => k_is)
    (case x140 => k_is)
    (case x141 => k_is)
    (case x142 => k_is)
    (case x143 => k_is)
    (case x144 => k_is)
    (case x145 => k_is)
    (case x146 => k_is)
    (case x147 => k_is)
    (case x148 => k_exc)
    (case x149 => k_is)
    (case x150 => k_is)
    (case x151 => k_is)
    (case x152 => k_is)
    (case x153 => k_is)
    (case x154 => k_is)
    (case x155 => k_is)
    (case x156 => k_is)
    (case x157 => k_is)
    (case x158 => k_is)
    (case x159 => k_is)
    (case x160 => k_is)
    (case x161l => k_is)
    (case x161r => decide +kernel)
    (case x162 => k_is)
    (case x163 => k_is)
    (case x164a => k_is)
    (case x164t => k_is)
    (case x164l => k_is)
    (case x164c => k_is)
    (case x164k => k_is)
    (case x165 => k_is)
    (case x166 => k_is)
    (case x167 => k_is)
    (case x168 => k_is)
    (case x169 => k_is)
    (case x170 => k_is)
    (case x171 => k_is)
    (case x172 => k_is)
    (case x173 => k_is)
    (case x174 => k_is)
    (case x175 => k_is)
    (case x176 => k_is)
    (case x177 => k_exc)
    (case x178 => k_is)
    (case x179 => k_is)
    (case x180 => k_is)
    (case x181 => k_is)
    (case x182 => k_is)
    (case x183 => k_is)
    (case x184 => k_is)
    (case x185 => k_is)
    (case x186 => k_is)
    (case x187 => k_is)
    (case x188 => k_is)
    (case x189 => k_is)
    (case x190l => k_is)
    (case x190r => decide +kernel)
    (case x191 => k_is)
    (case x192 => k_is)
    (case x193a => k_is)
    (case x193t => k_is)
    (case x193l => k_is)
    (case x193c => k_is)
    (case x193k => k_is)
    (case x194 => k_is)
    (case x195 => k_is)
    (case x196 => k_is)
    (case x197 => k_is)
    (case x198 => k_is)
    (case x199 => k_is)
    (case x200 => k_is)
    (case x201 => k_is)
    (case x202 => k_is)
    (case x203 => k_is)
    (case x204 => k_is)
    (case x205 => k_is)
    (case x206 => k_exc)
    (case x207 => k_is)
    (case x208 => k_is)
    (case x209 => k_is)
    (case x210 => k_is)
    (case x211 => k_is)
    (case x212 => k_is)
    (case x213 => k_is)
    (case x214 => k_is)
    (case x215 => k_is)
    (case x216 => k_is)
    (case x217 => k_is)
    (case x218 => k_is)
    (case x219l => k_is)
    (case x219r => decide +kernel)
    (case x220 => k_is)
    (case x221 => k_is)
    (case x222a => k_is)
    (case x222t => k_is)
    (case x222l => k_is)
    (case x222c => k_is)
    (case x222k => k_is)
    (case x223 => k_is)
    (case x224 => k_is)
    (case x225 => k_is)
    (case x226 => k_is)
    (case x227 => k_is)
    (case x228 => k_is)
    (case x229 => k_is)
    (case x230 => k_is)
    (case x231 => k_is)
    (case x232 => k_is)
    (case x233 => k_is)
    (case x234 => k_is)
    (case x235l => k_is)
    (case x235r => decide +kernel)
    (case x236 => k_is)
    (case x237 => k_is)
    (case x238a => k_is)
    (case x238t => k_is)
    (case x238l => k_is)
    (case x238c => k_is)
    (case x238k => k_is)
    (case x239 => k_is)
    (case x240 => k_is)
    (case x241 => k_is)
    (case x242 => k_is)
    (case x243 => k_is)
    (case x244 => k_is)
    (case x245 => k_is)
    (case x246 => k_is)
    (case x247 => k_is)
    (case x248 => k_is)
    (case x249 => k_is)
    (case x250 => k_is)
    (case x251 => k_exc)
    (case x252 => k_is)
    (case x253 => k_is)
    (case x254 => k_is)
    (case x255 => k_is)
    (case x256 => k_is)
    (case x257 => k_is)
    (case x258 => k_is)
    (case x259 => k_is)
    (case x260 => k_is)
    (case x261 => k_is)
    (case x262 => k_is)
    (case x263 => k_is)
    (case x264 => k_exc)
    (case x265 => k_is)
    (case x266 => k_is)
    (case x267 => k_is)
    (case x268 => k_is)
    (case x269 => k_is)
    (case x270 => k_is)
    (case x271 => k_is)
    (case x272 => k_is)
    (case x273 => k_is)
    (case x274 => k_is)
    (case x275 => k_is)
    (case x276 => k_is)
    (case x277 => k_exc)
    (case x278 => k_is)
    (case x279 => k_is)
    (case x280 => k_is)
    (case x281 => k_is)
    (case x282 => k_is)
    (case x283 => k_is)
    (case x284 => k_is)
    (case x285 => k_is)
    (case x286 => k_is)
    (case x287 => k_is)
    (case x288 => k_is)
    (case x289 => k_is)
    (case x290 => k_exc)
    (case x291 => k_is)
    (case x292 => k_is)
    (case x293 => k_is)
    (case x294 => k_is)
    (case x295 => k_is)
    (case x296 => k_is)
    (case x297 => k_is)
    (case x298 => k_is)
    (case x299 => k_is)
    (case x300 => k_is)
    (case x301 => k_is)
    (case x302 => k_is)
    (case x303 => k_exc)
    (case x304 => k_is)
    (case x305 => k_is)
    (case x306 => k_is)
    (case x307 => k_is)
    (case x308 => k_is)
    (case x309 => k_is)
    (case x310 => k_is)
    (case x311 => k_is)
    (case x312 => k_is)
    (case x313 => k_is)
    (case x314 => k_is)
    (case x315 => k_is)
    (case x316l => k_is)
    (case x316r => decide +kernel)
    (case x317 => k_is)
    (case x318 => k_is)
    (case x319a => k_is)
    (case x319t => k_is)
    (case x319l => k_is)
    (case x319c => k_is)
    (case x319k => k_is)
    (case x320 => k_is)
    (case x321 => k_is)
    (case x322 => k_is)
    (case x323 => k_is)
    (case x324 => k_is)
    (case x325 => k_is)
    (case x326 => k_is)
    (case x327 => k_is)
    (case x328 => k_is)
    (case x329 => k_is)
    (case x330 => k_is)
    (case x331 => k_is)
    (case x332 => k_exc)
    (case x333 => k_is)
    (case x334 => k_is)
    (case x335 => k_is)
    (case x336 => k_is)
    (case x337 => k_is)
    (case x338 => k_is)
    (case x339 => k_is)
    (case x340 => k_is)
    (case x341 => k_is)
    (case x342 => k_is)
    (case x343 => k_is)
    (case x344 => k_is)
    (case x345l => k_is)
    (case x345r => decide +kernel)
    (case x346 => k_is)
    (case x347 => k_is)
    (case x348a => k_is)
    (case x348t => k_is)
    (case x348l => k_is)
    (case x348c => k_is)
    (case x348k => k_is)
    (case x349 => k_is)
    (case x350 => k_is)
    (case x351 => k_is)
    (case x352 => k_is)
    (case x353 => k_is)
    (case x354 => k_is)
    (case x355 => k_is)
    (case x356 => k_is)
    (case x357 => k_is)
    (case x358 => k_is)
    (case x359 => k_is)
    (case x360 => k_is)
    (case x361l => k_is)
    (case x361r => decide +kernel)
    (case x362 => k_is)
    (case x363 => k_is)
    (case x364a => k_is)
    (case x364t => k_is)
    (case x364l => k_is)
    (case x364c => k_is)
    (case x364k => k_is)
    (case x365 => k_is)
    (case x366 => k_is)
    (case x367 => k_is)
    (case x368 => k_is)
    (case x369 => k_is)
    (case x370 => k_is)
    (case x371 => k_is)
    (case x372 => k_is)
    (case x373 => k_is)
    (case x374 => k_is)
    (case x375 => k_is)
    (case x376 => k_is)
    (case x377l => k_is)
    (case x377r => decide +kernel)
    (case x378 => k_is)
    (case x379 => k_is)
    (case x380a => k_is)
    (case x380t => k_is)
    (case x380l => k_is)
    (case x380c => k_is)
    (case x380k => k_is)
    (case x381 => k_is)
    (case x382 => k_is)
    (case x383 => kernel_rfl)
    (case a0 => k_is); (case l0 => k_is); (case c0 => k_is); (case k0 => k_is)
    (case a1 => k_is); (case l1 => k_is); (case c1 => k_is); (case k1 => k_is)
    (case a2 => k_is); (case l2 => k_is); (case c2 => k_is); (case k2 => k_is)
    (case a3 => k_is); (case l3 => k_is); (case c3 => k_is); (case k3 => k_is)
    (case a4 => k_is); (case l4 => k_is); (case c4 => k_is); (case k4 => k_is)
    (case a5 => k_is); (case l5 => k_is); (case c5 => k_is); (case k5 => k_is)
    (case a6 => k_is); (case l6 => k_is); (case c6 => k_is); (case k6 => k_is)
