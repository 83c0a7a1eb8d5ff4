import PyProof.Rows.All
import Wide.All
import OpenK.AllK
import Wide.FinOn
import HandS.ForMost
import HandS.Evl
import HandS.IsInst
import HandS.TupAny
import HandS.TupMul
import HandS.Conv
import HandS.EndBits
import HandS.SetFor
import HandS.Style
import HandS.Strs
import PyProof.NeKinds
import PyProof.ReprLen
import PyProof.ReprRoads
import HandS.SortInts
import PyProof.TupleOfSeq
import KE.KRevSl
import HandS.ExcValue
import KE.GoesMore
import PyProof.EnumMake
import HandS.Small
import HandS.ExcIs
import HandS.ExcInit
import HandS.Walk
import HandS.WordsExc
import HandS.ExcField
import HandS.HotCalls
import HandS.Zip
import HandS.Rev
import HandS.WideBits
import HandS.Wide
import KE.SortData
import KE.SortKeyHeap
import HandS.CallLocal
import KE.KTupSum
import PySem.Challenge.RW_payorder_k21_payments_along_orders
set_option Elab.async false
set_option linter.all false
set_option maxRecDepth 100000
/-! Pb: what all laws of the program share. -/
namespace Pb
open PySem PySem.Spec PyProof.Rows L2

/-- the built-in names that are still the built-in ones -/
structure Bn (mg : Str → Option Value) : Prop where
  isinstance : mg "isinstance" = none
  len : mg "len" = none
  abs : mg "abs" = none
  range : mg "range" = none
  tuple : mg "tuple" = none
  list : mg "list" = none
  int : mg "int" = none
  bool : mg "bool" = none
  str : mg "str" = none
  dict : mg "dict" = none
  sorted : mg "sorted" = none
  set : mg "set" = none
  repr : mg "repr" = none
  all : mg "all" = none
  enumerate : mg "enumerate" = none

theorem bt_int : bootBuiltins "int" = some (.type "int") := by decide +kernel
theorem bt_bool : bootBuiltins "bool" = some (.type "bool") := by decide +kernel
theorem bt_str : bootBuiltins "str" = some (.type "str") := by decide +kernel
theorem bt_list : bootBuiltins "list" = some (.type "list") := by decide +kernel
theorem bt_tuple : bootBuiltins "tuple" = some (.type "tuple") := by decide +kernel
theorem bt_dict : bootBuiltins "dict" = some (.type "dict") := by decide +kernel
theorem bt_set : bootBuiltins "set" = some (.type "set") := by decide +kernel
theorem bt_isinstance : bootBuiltins "isinstance" = some (.builtin "isinstance") := by decide +kernel
theorem bt_len : bootBuiltins "len" = some (.builtin "len") := by decide +kernel
theorem bt_abs : bootBuiltins "abs" = some (.builtin "abs") := by decide +kernel
theorem bt_sorted : bootBuiltins "sorted" = some (.builtin "sorted") := by decide +kernel
theorem bt_repr : bootBuiltins "repr" = some (.builtin "repr") := by decide +kernel
theorem bt_all : bootBuiltins "all" = some (.builtin "all") := by decide +kernel
section
variable {X : Cx}
theorem pe_ty {x : Str} {pos : Pos} {T : String} (hg : Gl X x) (hm : X.mg x = none) (hv : bootBuiltins x = some (.type T)) (hn : x ≠ "__name__" := by decide) (hd : (x == ("__debug__" : Str)) = false := by decide) :
    PE X (.Name x pos) (tC (.ty T)) := pe_bltn hg hm hv rfl hn hd
theorem pe_gc2 {x : Str} {pos : Pos} {i : Int} (hg : Gl X x) (hm : ∃ t, X.mg x = some (.int i t)) (hd : (x == ("__debug__" : Str)) = false := by decide) : PE X (.Name x pos) (tC (.int i)) := by
  obtain ⟨t, h⟩ := hm
  exact pe_glob hg h ⟨_, rfl⟩ hd
end

section
variable {X : Cx} {K : PySem.W.Frag}
theorem ix_tupK (h : X.K = K) : IxR X (rIxT K) := h ▸ ix_tup
theorem ix_listK (h : X.K = K) : IxR X (rIxL K) := h ▸ ix_list
theorem call_isiK0 (h : X.K = K) : CallR X (.builtin "isinstance") (rIsi K) := h ▸ call_isi
theorem call_len_seqK (h : X.K = K) : CallR X (.builtin "len") (Evl.rLenS K) := h ▸ call_len_seq
end
/-- a def of the text, its promise and all that a caller asks -/
structure Cl (P : Program) (w : World) (K : PySem.W.Frag) (mg : Str → Option Value) (base : Heap) (k : Nat) (x : Str) (ps : List Str) (sp : Sp) : Prop where
  ex : ∃ (f : Addr) (fd : FuncData), FnOk P w K mg base CX0 k f fd ps sp ∧ mg x = some (.ref f) ∧ PySem.W.keepIn K (.ref f) = true ∧ Binds K fd ps []
section
variable {X : Cx} {j k : Nat} {x : Str} {ps : List Str} {sp : Sp} {e : Expr} {es : List Expr} {t : TA} {p pos : Pos}
theorem pe_k (c : Cl X.prog X.w X.K X.mg X.base k x ps sp) (hr : Room j X.A) (hk : k ≤ j) (hg : Gl X x) (ha : PA X (e :: es) t)
    (hdb : (x == ("__debug__" : Str)) = false := by decide) (he : starEach (e :: es) X.env = (false, eval e X.env) :: starEach es X.env := by rfl) (hpl : (backTo pos (starEach es X.env)).any (·.1) = false := by rfl) :
    PE X (.Call (.Name x p) (e :: es) [] pos) (tCall sp [] E0 t) := by
  obtain ⟨f, fd, F, hm, kp, b⟩ := c.ex
  exact pe_call F (hr.mono hk) hg hm kp b .nil pass0 ha hdb he hpl
end

/-! ### a list against [], a tuple against () -/
def rNe0 (K : PySem.W.Frag) : R2 := fun x y H Q => ∃ a b xs, x = .ref a ∧ y = .ref b ∧ SqL K H a xs ∧ SqL K H b [] ∧ Q (.bl (!xs.isEmpty)) H
def rEq0 (K : PySem.W.Frag) : R2 := fun x y H Q => ∃ a b xs, x = .ref a ∧ y = .ref b ∧ SqL K H a xs ∧ SqL K H b [] ∧ Q (.bl xs.isEmpty) H
def rNe0T (K : PySem.W.Frag) : R2 := fun x y H Q => ∃ a b xs, x = .ref a ∧ y = .ref b ∧ SqT K H a xs ∧ SqT K H b [] ∧ Q (.bl (!xs.isEmpty)) H
def rEq0T (K : PySem.W.Frag) : R2 := fun x y H Q => ∃ a b xs, x = .ref a ∧ y = .ref b ∧ SqT K H a xs ∧ SqT K H b [] ∧ Q (.bl xs.isEmpty) H
section
variable {X : Cx}
theorem op_ne0 (hu : X.A.units + 64 < cLine) : OpR X (compareOp .NotEq) (rNe0 X.K) := by
  intro pins s σ H x y v u Q I rx ry h
  obtain ⟨a, b, xs, rfl, rfl, h1, h2, q⟩ := h
  cases rx
  cases ry
  obtain ⟨its, rv, hl, _⟩ := I.list h1
  obtain ⟨its2, rv2, hl2, _⟩ := I.list h2
  cases rv2
  have hu' : X.A.units < cLine := by omega
  cases rv with
  | nil => exact SeqAt.RcNeAt.lists (e := fun _ => true) hl.isList hl2.isList rfl hu' (fun j h1 _ => absurd h1 (Nat.not_lt_zero _)) _ _ _ _ ⟨.bl _, H, I, rfl, q⟩
  | cons r1 r2 => exact SeqAt.RcNeAt.lists_lengths hl.isList hl2.isList (by simp) hu' _ _ _ _ ⟨.bl _, H, I, rfl, q⟩
theorem op_eq0 (hu : X.A.units + 64 < cLine) : OpR X (compareOp .Eq) (rEq0 X.K) := by
  intro pins s σ H x y v u Q I rx ry h
  obtain ⟨a, b, xs, rfl, rfl, h1, h2, q⟩ := h
  cases rx
  cases ry
  obtain ⟨its, rv, hl, _⟩ := I.list h1
  obtain ⟨its2, rv2, hl2, _⟩ := I.list h2
  cases rv2
  have hu' : X.A.units < cLine := by omega
  cases rv with
  | nil => exact SeqAt.RcAt.lists (e := fun _ => true) hl.isList hl2.isList rfl hu' (fun j h1 _ => absurd h1 (Nat.not_lt_zero _)) _ _ _ _ ⟨.bl _, H, I, rfl, q⟩
  | cons r1 r2 => exact SeqAt.RcAt.lists_lengths hl.isList hl2.isList (by simp) hu' _ _ _ _ ⟨.bl _, H, I, rfl, q⟩
theorem op_ne0T (hu : X.A.units + 64 < cLine) : OpR X (compareOp .NotEq) (rNe0T X.K) := by
  intro pins s σ H x y v u Q I rx ry h
  obtain ⟨a, b, xs, rfl, rfl, h1, h2, q⟩ := h
  cases rx
  cases ry
  obtain ⟨its, rv, hl, _⟩ := I.tuple h1
  obtain ⟨its2, rv2, hl2, _⟩ := I.tuple h2
  cases rv2
  have hu' : X.A.units < cLine := by omega
  refine SeqAt.RcNeAt.tuples (e := fun _ => true) hl hl2 hu' (fun j _ h2 => absurd h2 (Nat.not_lt_zero _)) _ _ _ _ ⟨.bl _, H, I, ?_, q⟩
  cases rv with
  | nil => rfl
  | cons r1 r2 => rfl
theorem op_eq0T (hu : X.A.units + 64 < cLine) : OpR X (compareOp .Eq) (rEq0T X.K) := by
  intro pins s σ H x y v u Q I rx ry h
  obtain ⟨a, b, xs, rfl, rfl, h1, h2, q⟩ := h
  cases rx
  cases ry
  obtain ⟨its, rv, hl, _⟩ := I.tuple h1
  obtain ⟨its2, rv2, hl2, _⟩ := I.tuple h2
  cases rv2
  have hu' : X.A.units < cLine := by omega
  refine SeqAt.RcAt.tuples (e := fun _ => true) hl hl2 hu' (fun j _ h2 => absurd h2 (Nat.not_lt_zero _)) _ _ _ _ ⟨.bl _, H, I, ?_, q⟩
  cases rv with
  | nil => rfl
  | cons r1 r2 => rfl
end

/-! ### heaps -/
theorem sz {n : Nat} (h : n ≤ 1000) : n ≤ sizeLine := Nat.le_of_lt (small1000 h)
theorem same_upd {H : Hp} {p : Addr} {o : HO} (h : H p = none) : Same H (upd H p o) := fun b x e => by
  rw [upd_ne (ne_of_none e h)]
  exact e
theorem Same.tq {K : PySem.W.Frag} {H H' : Hp} {a : Addr} {xs : List V} (e : Same H H') (h : SqT K H a xs) : SqT K H' a xs := by
  rcases h with (h | ⟨o, h⟩) | h
  · exact .inl (.inl (e _ _ h))
  · exact .inl (.inr ⟨o, e _ _ h⟩)
  · exact .inr h
theorem seqIndex_nat {n j : Nat} (h : j < n) : seqIndex? (j : Int) n = some j := by
  unfold seqIndex?
  simp
  omega
/-- the heap without the deck's two changing lists -/
def msk (d b : Addr) (H : Hp) : Hp := fun a => if a = d ∨ a = b then none else H a
theorem msk_ne {d b a : Addr} {H : Hp} (h1 : a ≠ d) (h2 : a ≠ b) : msk d b H a = H a := by
  unfold msk
  rw [if_neg (fun z => z.elim h1 h2)]
theorem msk_some {d b a : Addr} {H : Hp} {o : HO} (h : msk d b H a = some o) : a ≠ d ∧ a ≠ b ∧ H a = some o := by
  unfold msk at h
  split at h
  · cases h
  · rename_i q
    exact ⟨fun z => q (.inl z), fun z => q (.inr z), h⟩
theorem msk_sub {d b : Addr} {H : Hp} : Same (msk d b H) H := fun _ _ e => (msk_some e).2.2
theorem msk_none {d b a : Addr} {H : Hp} (h : H a = none) : msk d b H a = none := by
  unfold msk
  split
  · rfl
  · exact h
theorem msk_new {d b p : Addr} {H : Hp} {o : HO} (h1 : p ≠ d) (h2 : p ≠ b) : msk d b (upd H p o) = upd (msk d b H) p o := by
  funext a
  by_cases e : a = p
  · subst e
    rw [msk_ne h1 h2, upd_same, upd_same]
  · rw [upd_ne e]
    unfold msk
    rw [upd_ne e]
theorem msk_d {d b : Addr} {H : Hp} {o : HO} : msk d b (upd H d o) = msk d b H := by
  funext a
  unfold msk
  split
  · rfl
  · rename_i q
    rw [upd_ne fun z => q (.inl z)]
theorem msk_b {d b : Addr} {H : Hp} {o : HO} : msk d b (upd H b o) = msk d b H := by
  funext a
  unfold msk
  split
  · rfl
  · rename_i q
    rw [upd_ne fun z => q (.inr z)]
theorem msk_same {d b : Addr} {H H' : Hp} (h : Same H H') : Same (msk d b H) (msk d b H') := fun a o e => by
  obtain ⟨h1, h2, h3⟩ := msk_some e
  rw [msk_ne h1 h2]
  exact h _ _ h3

/-- the deck: its list at d, the large cells at b, all cells at c, n mixed draws so far -/
structure Dk (d b c : Addr) (n : Int) (H : Hp) : Prop where
  db : d ≠ b
  dc : d ≠ c
  bc : b ≠ c
  n0 : 0 ≤ n
  at_d : H d = some (.lst [.ref b, .ref c, .int n])
  at_b : ∃ bs : List Int, H b = some (.lst (bs.map V.int))
  at_c : ∃ cs : List Int, H c = some (.lst (cs.map V.int)) ∧ cs ≠ [] ∧ cs.length ≤ 1000
theorem Dk.same {d b c : Addr} {n : Int} {H H' : Hp} (h : Dk d b c n H) (s : Same H H') : Dk d b c n H' := by
  obtain ⟨x1, x2, x3, x4, x5, ⟨bs, x6⟩, cs, x7, x8⟩ := h
  exact ⟨x1, x2, x3, x4, s _ _ x5, ⟨bs, s _ _ x6⟩, cs, s _ _ x7, x8⟩
/-- what a draw leaves -/
structure Dr (d b c : Addr) (n : Int) (H : Hp) (n' : Int) (H' : Hp) : Prop where
  dk : Dk d b c n' H'
  le : n' ≤ n
  sm : Same (msk d b H) (msk d b H')
/-- _law_next(deck, many): some number below many -/
def spNext : Sp := fun vs H Q _ => ∃ (d b c : Addr) (n m : Int), vs = [.ref d, .int m] ∧ Dk d b c n H ∧ n < 2 ^ 60 ∧ 0 < m ∧ m < 1073741824 ∧
  ∀ (v n' : Int) (H' : Hp), 0 ≤ v → v < m → Dr d b c (n + 1) H n' H' → Q (.int v) H'
end Pb

set_option Elab.async false
set_option linter.all false
set_option maxRecDepth 100000
namespace Pb
open PySem PySem.Spec PyProof.Rows L2
/-! ### data with small leaves, and how long its text is at most -/
mutual
def okD : PyData → Bool
  | .none => true
  | .bool _ => true
  | .int i => decide (i.natAbs < 10 ^ 80)
  | .str x => decide (x.length ≤ 100) && x.cps.toList.all fun c => decide (c < 16 ^ 8)
  | .list xs => decide (xs.length ≤ 60) && okAll xs
  | .tuple xs => decide (xs.length ≤ 60) && okAll xs
  | .dict kvs => kvs.isEmpty
def okAll : List PyData → Bool
  | [] => true
  | x :: xs => okD x && okAll xs
end
mutual
def wt : PyData → Nat
  | .none => 4
  | .bool _ => 5
  | .int _ => 81
  | .str _ => 2000
  | .list xs => wtAll xs + 3
  | .tuple xs => wtAll xs + 3
  | .dict _ => 3
def wtAll : List PyData → Nat
  | [] => 0
  | x :: xs => wt x + 2 + wtAll xs
end
theorem log_of_80 {n : Nat} (h : n < 10 ^ 80) : n.log2 < 1920 := by
  have h1 : n < 2 ^ 1920 := Nat.lt_of_lt_of_le h (by decide +kernel)
  by_cases e : n = 0
  · subst e
    decide
  · exact (Nat.log2_lt e).mpr h1
mutual
theorem show_len : ∀ d : PyData, okD d = true → d.shown.length ≤ wt d ∧ d.showable = true
  | .none, _ => ⟨by decide, rfl⟩
  | .bool b, _ => ⟨by cases b <;> decide, rfl⟩
  | .int i, h => by
    have h1 : i.natAbs < 10 ^ 80 := by
      simp only [okD, decide_eq_true_eq] at h
      exact h
    have e := int_text_length_le10 (k := 80) (by decide) h1
    refine ⟨?_, ?_⟩
    · show (Str.ofString (toString i)).length ≤ 81
      rw [PySem.ofString_length]
      exact e
    · simp only [PyData.showable, decide_eq_true_eq]
      exact log_of_80 h1
  | .str x, h => by
    simp only [okD, Bool.and_eq_true, decide_eq_true_eq, List.all_eq_true] at h
    refine ⟨?_, rfl⟩
    have e := StrLaws.reprText_len x h.2
    show (reprText x).length ≤ 2000
    omega
  | .list xs, h => by
    obtain ⟨h1, h2⟩ := show_all xs (by simp only [okD, Bool.and_eq_true] at h; exact h.2)
    have h3 := listText_len_le (PyData.shownAll xs)
    have h4 := PyData.shownAll_length xs
    refine ⟨?_, ?_⟩
    · simp only [PyData.shown, wt]
      omega
    · simpa only [PyData.showable] using h2
  | .tuple xs, h => by
    obtain ⟨h1, h2⟩ := show_all xs (by simp only [okD, Bool.and_eq_true] at h; exact h.2)
    have h3 := tupleText_len_le (PyData.shownAll xs)
    have h4 := PyData.shownAll_length xs
    refine ⟨?_, ?_⟩
    · simp only [PyData.shown, wt]
      omega
    · simpa only [PyData.showable] using h2
  | .dict kvs, h => by
    cases kvs with
    | nil => exact ⟨by decide, rfl⟩
    | cons a r =>
      simp only [okD, List.isEmpty_cons] at h
      cases h
theorem show_all : ∀ xs : List PyData, okAll xs = true → ((PyData.shownAll xs).map (·.length)).sum + 2 * xs.length ≤ wtAll xs ∧ PyData.showableAll xs = true
  | [], _ => ⟨Nat.le_refl _, rfl⟩
  | x :: xs, h => by
    simp only [okAll, Bool.and_eq_true] at h
    obtain ⟨h1, h2⟩ := show_len x h.1
    obtain ⟨h3, h4⟩ := show_all xs h.2
    refine ⟨?_, ?_⟩
    · simp only [PyData.shownAll, List.map_cons, List.sum_cons, List.length_cons, wtAll]
      omega
    · simp only [PyData.showableAll, h2, h4, Bool.and_self]
end
theorem okAll_iff : ∀ {xs : List PyData}, okAll xs = true ↔ ∀ x ∈ xs, okD x = true
  | [] => ⟨fun _ _ h => absurd h List.not_mem_nil, fun _ => rfl⟩
  | x :: xs => by
    simp only [okAll, Bool.and_eq_true, List.mem_cons, okAll_iff (xs := xs)]
    exact ⟨fun h y hy => hy.elim (fun e => e ▸ h.1) (h.2 y), fun h => ⟨h x (.inl rfl), fun y hy => h y (.inr hy)⟩⟩
theorem wtAll_le {n : Nat} : ∀ {xs : List PyData}, (∀ x ∈ xs, wt x ≤ n) → wtAll xs ≤ (n + 2) * xs.length
  | [], _ => Nat.zero_le _
  | x :: xs, h => by
    have h1 := wtAll_le (xs := xs) fun y hy => h y (List.mem_cons_of_mem _ hy)
    have h2 := h x List.mem_cons_self
    simp only [wtAll, List.length_cons]
    rw [Nat.mul_succ]
    omega
theorem depthAll_le {n : Nat} : ∀ {xs : List PyData}, (∀ x ∈ xs, x.depth ≤ n) → PyData.depthAll xs ≤ n
  | [], _ => Nat.zero_le _
  | x :: xs, h => by
    have h1 := depthAll_le (xs := xs) fun y hy => h y (List.mem_cons_of_mem _ hy)
    have h2 := h x List.mem_cons_self
    simp only [PyData.depthAll]
    omega

mutual
/-- no list in it -/
def nl : PyData → Bool
  | .list _ => false
  | .tuple xs => nlAll xs
  | _ => true
def nlAll : List PyData → Bool
  | [] => true
  | x :: xs => nl x && nlAll xs
end
/-! ### data in the heap -/
mutual
inductive Da (K : PySem.W.Frag) (H : Hp) : V → PyData → Prop
  | non : Da K H .non .none
  | bl (b : Bool) : Da K H (.bl b) (.bool b)
  | int (i : Int) : Da K H (.int i) (.int i)
  | str (x : Str) : Da K H (.str x) (.str x)
  | lst {a : Addr} {xs : List V} {ds : List PyData} : SqL K H a xs → DaAll K H xs ds → Da K H (.ref a) (.list ds)
  | tup {a : Addr} {xs : List V} {ds : List PyData} : SqT K H a xs → DaAll K H xs ds → Da K H (.ref a) (.tuple ds)
  | emp {a : Addr} : H a = some (.dK []) → Da K H (.ref a) (.dict [])
inductive DaAll (K : PySem.W.Frag) (H : Hp) : List V → List PyData → Prop
  | nil : DaAll K H [] []
  | cons {v : V} {vs : List V} {d : PyData} {ds : List PyData} : Da K H v d → DaAll K H vs ds → DaAll K H (v :: vs) (d :: ds)
end
section
variable {K : PySem.W.Frag} {H H' : Hp}
mutual
theorem Da.same (s : Same H H') : ∀ (d : PyData) (v : V), Da K H v d → Da K H' v d
  | .none, _, h => by
    cases h
    exact .non
  | .bool b, _, h => by
    cases h
    exact .bl b
  | .int i, _, h => by
    cases h
    exact .int i
  | .str x, _, h => by
    cases h
    exact .str x
  | .list ds, _, h => by
    cases h with
    | lst h1 h2 => exact .lst (s.seq h1) (DaAll.same s ds _ h2)
  | .tuple ds, _, h => by
    cases h with
    | tup h1 h2 => exact .tup (Same.tq s h1) (DaAll.same s ds _ h2)
  | .dict _, _, h => by
    cases h with
    | emp h1 => exact .emp (s _ _ h1)
theorem DaAll.same (s : Same H H') : ∀ (ds : List PyData) (vs : List V), DaAll K H vs ds → DaAll K H' vs ds
  | [], _, h => by
    cases h
    exact .nil
  | d :: ds, _, h => by
    cases h with
    | cons h1 h2 => exact .cons (Da.same s d _ h1) (DaAll.same s ds _ h2)
end
theorem Da.mono {v : V} {d : PyData} (h : Da K H v d) (s : Same H H') : Da K H' v d := Da.same s d v h
theorem DaAll.mono {vs : List V} {ds : List PyData} (h : DaAll K H vs ds) (s : Same H H') : DaAll K H' vs ds := DaAll.same s ds vs h
theorem DaAll.len : ∀ {vs : List V} {ds : List PyData}, DaAll K H vs ds → vs.length = ds.length
  | [], _, h => by
    cases h
    rfl
  | v :: vs, _, h => by
    cases h with
    | cons h1 h2 =>
      rw [List.length_cons, List.length_cons, DaAll.len h2]
theorem DaAll.get : ∀ {vs : List V} {ds : List PyData} {i : Nat} {v : V}, DaAll K H vs ds → vs[i]? = some v → ∃ d, ds[i]? = some d ∧ Da K H v d
  | [], _, _, _, h, e => by simp at e
  | x :: vs, _, i, v, h, e => by
    cases h with
    | cons h1 h2 =>
      cases i with
      | zero =>
        simp at e
        subst e
        exact ⟨_, rfl, h1⟩
      | succ i => exact DaAll.get (i := i) h2 (by simpa using e)
theorem DaAll.of_get : ∀ {vs : List V} {ds : List PyData}, vs.length = ds.length → (∀ (i : Nat) (v : V) (d : PyData), vs[i]? = some v → ds[i]? = some d → Da K H v d) → DaAll K H vs ds
  | [], [], _, _ => .nil
  | [], _ :: _, h, _ => by simp at h
  | _ :: _, [], h, _ => by simp at h
  | v :: vs, d :: ds, h, f => .cons (f 0 v d rfl rfl) (DaAll.of_get (by simpa using h) fun i x y h1 h2 => f (i + 1) x y (by simpa using h1) (by simpa using h2))
theorem DaAll.append : ∀ {vs ws : List V} {ds es : List PyData}, DaAll K H vs ds → DaAll K H ws es → DaAll K H (vs ++ ws) (ds ++ es)
  | [], _, _, _, h, k => by
    cases h
    exact k
  | _ :: _, _, _, _, h, k => by
    cases h with
    | cons h1 h2 => exact .cons h1 (DaAll.append h2 k)
theorem DaAll.ints : ∀ ns : List Int, DaAll K H (ns.map V.int) (ns.map PyData.int)
  | [] => .nil
  | n :: ns => .cons (.int n) (DaAll.ints ns)
theorem DaAll.drop : ∀ (n : Nat) {vs : List V} {ds : List PyData}, DaAll K H vs ds → DaAll K H (vs.drop n) (ds.drop n)
  | 0, _, _, h => h
  | n + 1, [], _, h => by
    cases h
    exact .nil
  | n + 1, _ :: _, _, h => by
    cases h with
    | cons h1 h2 => exact DaAll.drop n h2
theorem DaAll.take : ∀ (n : Nat) {vs : List V} {ds : List PyData}, DaAll K H vs ds → DaAll K H (vs.take n) (ds.take n)
  | 0, _, _, _ => .nil
  | n + 1, [], _, h => by
    cases h
    exact .nil
  | n + 1, _ :: _, _, h => by
    cases h with
    | cons h1 h2 => exact .cons h1 (DaAll.take n h2)
theorem DaAll.rev : ∀ {vs : List V} {ds : List PyData}, DaAll K H vs ds → DaAll K H vs.reverse ds.reverse
  | [], _, h => by
    cases h
    exact .nil
  | _ :: _, _, h => by
    cases h with
    | cons h1 h2 =>
      rw [List.reverse_cons, List.reverse_cons]
      exact (DaAll.rev h2).append (.cons h1 .nil)
end

/-! ### isinstance -/
def tyN : PyData → String
  | .none => "NoneType"
  | .bool _ => "bool"
  | .int _ => "int"
  | .str _ => "str"
  | .list _ => "list"
  | .tuple _ => "tuple"
  | .dict _ => "dict"
theorem Da.ty {K : PySem.W.Frag} {H : Hp} : ∀ {v : V} {d : PyData}, Da K H v d → TyX K H v (.type (tyN d))
  | _, _, .non => .base .non
  | _, _, .bl b => .base (.bl b)
  | _, _, .int i => .base (.int i)
  | _, _, .str x => .base (.str x)
  | _, _, .lst h _ => by
    rcases h with (h | ⟨o, h⟩) | h
    · exact .base (.lst h)
    · exact .base (.frz h)
    · obtain ⟨o, its, n, ho, hc, _⟩ := h
      exact .kList ho hc
  | _, _, .tup h _ => by
    rcases h with (h | ⟨o, h⟩) | h
    · exact .base (.tup h)
    · exact .fTuple h
    · obtain ⟨o, its, n, ho, hc, _⟩ := h
      exact .kTuple ho hc
  | _, _, .emp h => .base (.dK h)
/-- whether isinstance(d, T) is true -/
def isN (T a : String) : Bool := a == T || (T == "int" && a == "bool")
def isI (T : String) (d : PyData) : Bool := isN T (tyN d)
theorem kit_isN : ∀ a ∈ ["NoneType", "bool", "int", "str", "list", "tuple", "dict"], ∀ T ∈ ["int", "bool", "tuple", "list", "dict", "str"], kitB a T = some (isN T a) := by decide +kernel
theorem kit_isI (T : String) (d : PyData) (hT : T ∈ ["int", "bool", "tuple", "list", "dict", "str"]) : kitB (tyN d) T = some (isI T d) :=
  kit_isN (tyN d) (by cases d <;> simp [tyN]) T hT
section
variable {K : PySem.W.Frag} {σ : L2.St} {H : Hp} {ta : TE} {x : V} {d : PyData}
theorem isi_of {T : String} {Q : VK} (h : Da K H x d) (q : Q (.bl (isI T d)) H) (hT : T ∈ ["int", "bool", "tuple", "list", "dict", "str"] := by decide) : rIsi K [x, .ty T] H Q :=
  ⟨x, .ty T, _, _, _, rfl, .ty T, h.ty, kit_ty (kit_isI T d hT), q⟩
theorem ev_isi {T : String} (ha : Evl.Ev ta σ H x) (h : Da K H x d) (hT : T ∈ ["int", "bool", "tuple", "list", "dict", "str"] := by decide) :
    Evl.Ev (tCB (rIsi K) (tCons ta (tCons (tC (.ty T)) tNil))) σ H (.bl (isI T d)) := fun H1 e Q q =>
  ha H1 e _ fun H2 e2 => isi_of (h.mono (Same.trans e e2)) (q H2 e2) hT
end

/-! ### repr -/
section
variable {X : Cx} {pins : List (Addr × Obj)} {σ : L2.St} {H : Hp} {s : Shared}
theorem noSys (I : Inv X pins σ H s) {a : Addr} (h : H a = some (.dK [])) : (a == sysModules) = false := (I.hok a _ h).2.1
mutual
theorem Da.reads (I : Inv X pins σ H s) : ∀ (d : PyData) (v : V) (u : Value), Da X.K H v d → RelV v u → ∃ as, Reads s.heap u d as ∧ (nl d = true → sysModules ∉ as)
  | .none, _, _, h, r => by
    cases h
    cases r
    exact ⟨_, Reads.none, fun _ => List.not_mem_nil⟩
  | .bool b, _, _, h, r => by
    cases h
    cases r
    exact ⟨_, Reads.bool b, fun _ => List.not_mem_nil⟩
  | .int i, _, _, h, r => by
    cases h
    obtain ⟨t, rfl⟩ := r
    exact ⟨_, Reads.int i t, fun _ => List.not_mem_nil⟩
  | .str x, _, _, h, r => by
    cases h
    obtain ⟨t, rfl⟩ := r
    exact ⟨_, Reads.str x t, fun _ => List.not_mem_nil⟩
  | .list ds, _, _, h, r => by
    cases h with
    | lst hs ha =>
      cases r
      obtain ⟨its, rv, ⟨o, n, ho, hc, _, hd⟩, _⟩ := I.list hs
      obtain ⟨as, hr, _⟩ := Da.readsAll I ds _ its ha rv
      exact ⟨_, Reads.list ho hc hd hr, fun z => nomatch z⟩
  | .tuple ds, _, _, h, r => by
    cases h with
    | tup hs ha =>
      cases r
      obtain ⟨its, rv, ⟨o, ho, hc, n, hd⟩, _⟩ := I.tuple hs
      obtain ⟨as, hr, hn⟩ := Da.readsAll I ds _ its ha rv
      exact ⟨_, Reads.tuple ho hc hd hr, hn⟩
  | .dict kvs, _, _, h, r => by
    cases h with
    | emp h1 =>
      cases r
      have ns := noSys I h1
      obtain ⟨_, _, vs, k, o, es, ep, e1, e2, e3, _, e4, _⟩ := I.hok _ _ h1
      cases k
      have e5 : es.toList = [] := by
        generalize es.toList = l at e4
        cases e4
        rfl
      refine ⟨_, Reads.dict (kvs := []) (as := []) (bs := []) e1 e2.1 e3 (by rw [e5]; exact .nil) (by rw [e5]; exact .nil), fun _ z => ?_⟩
      rcases List.mem_cons.mp z with z | z
      · rw [← z] at ns
        simp at ns
      · exact absurd z List.not_mem_nil
theorem Da.readsAll (I : Inv X pins σ H s) : ∀ (ds : List PyData) (vs : List V) (us : List Value), DaAll X.K H vs ds → Vals vs us → ∃ as, ReadsAll s.heap us ds as ∧ (nlAll ds = true → sysModules ∉ as)
  | [], _, _, h, r => by
    cases h
    cases r
    exact ⟨_, ReadsAll.nil, fun _ => List.not_mem_nil⟩
  | d :: ds, _, _, h, r => by
    cases h with
    | cons h1 h2 =>
      cases r with
      | cons r1 r2 =>
        obtain ⟨as, q1, n1⟩ := Da.reads I d _ _ h1 r1
        obtain ⟨bs, q2, n2⟩ := Da.readsAll I ds _ _ h2 r2
        refine ⟨_, ReadsAll.cons q1 q2, fun z => ?_⟩
        simp only [nlAll, Bool.and_eq_true] at z
        intro m
        rcases List.mem_append.mp m with m | m
        · exact n1 z.1 m
        · exact n2 z.2 m
end
/-- repr of data, where nothing is being shown -/
def rReprD (K : PySem.W.Frag) : List V → Hp → VK → Prop := fun xs H Q => ∃ (x : V) (d : PyData), xs = [x] ∧ Da K H x d ∧ okD d = true ∧ wt d ≤ 1000000 ∧ d.depth ≤ 20 ∧ (d.hasDict = true → nl d = true) ∧ Q (.str d.shown) H
theorem call_reprD (hg : X.A.guards = some []) (hu : X.A.units + 64 < cLine) : CallR X (.builtin "repr") (rReprD X.K) := by
  intro pins s σ H vs us Q I r h
  obtain ⟨x, d, rfl, hx, ok, hw, hd, hn, q⟩ := h
  obtain ⟨u, rfl, r1⟩ : ∃ u, us = [u] ∧ RelV x u := by
    cases r with
    | cons r1 r2 =>
      cases r2
      exact ⟨_, rfl, r1⟩
  obtain ⟨as, rd, ns⟩ := Da.reads I d x u hx r1
  obtain ⟨sl, sh⟩ := show_len d ok
  cases hx with
  | non =>
    cases r1
    exact P.repr_of_none ⟨.str _, H, I.tok _, ⟨_, rfl⟩, q⟩
  | bl b =>
    cases r1
    exact P.repr_of_bool ⟨.str _, H, I.tok _, ⟨_, rfl⟩, q⟩
  | int i =>
    obtain ⟨t, rfl⟩ := r1
    exact P.repr_of_int (by simpa only [PyData.showable, decide_eq_true_eq] using sh) ⟨.str _, H, I.tok _, ⟨_, rfl⟩, q⟩
  | str z =>
    obtain ⟨t, rfl⟩ := r1
    exact P.repr_of_str ⟨.str _, H, I.tok _, ⟨_, rfl⟩, q⟩ (Nat.le_trans sl (Nat.le_trans hw (by decide)))
  | lst h1 h2 =>
    cases r1
    exact repr_of_reads' rd sh (fun z => ns (hn z)) hg (by omega) (fun _ _ e => e) (fun h' u tk hk => ⟨.str _, H, I.kept (t' := tk) hk, ⟨_, rfl⟩, q⟩) (Nat.le_trans sl (Nat.le_trans hw (by decide)))
  | tup h1 h2 =>
    cases r1
    exact repr_of_reads' rd sh (fun z => ns (hn z)) hg (by omega) (fun _ _ e => e) (fun h' u tk hk => ⟨.str _, H, I.kept (t' := tk) hk, ⟨_, rfl⟩, q⟩) (Nat.le_trans sl (Nat.le_trans hw (by decide)))
  | emp h1 =>
    cases r1
    exact repr_of_reads' rd sh (fun z => ns (hn z)) hg (by omega) (fun _ _ e => e) (fun h' u tk hk => ⟨.str _, H, I.kept (t' := tk) hk, ⟨_, rfl⟩, q⟩) (Nat.le_trans sl (Nat.le_trans hw (by decide)))
end
end Pb

set_option Elab.async false
set_option linter.all false
set_option maxRecDepth 100000
namespace Pb
open PySem PySem.Spec PyProof.Rows L2
section
variable {X : Cx}
/-- set(t), a tuple of ints -/
def rSetI (K : PySem.W.Frag) (w : World) : List V → Hp → VK → Prop := fun xs H Q => ∃ (l : Addr) (ns : List Int), xs = [.ref l] ∧ SqT K H l (ns.map V.int) ∧ ns.length ≤ 1000 ∧
  ∀ (p : Addr) (c : Nat), c ≤ ns.length → H p = none → Q (.ref p) (upd H p (SetO w p (fun j => decide (j ∈ ns)) c))
theorem cr_setI (hc : X.calm = true) : CallR X (.type "set") (rSetI X.K X.w) := by
  intro pins s σ H xs us Q I r h
  obtain ⟨l, ns, rfl, hx, hl, q⟩ := h
  rw [Vals.ref1 r]
  obtain ⟨its, rv, pt, hz⟩ := I.tuple hx
  have hi : IntsAre its.toArray.toList ns := ints_of_vals rv
  refine call_set_tupI ns (I.ok.hd hc) (show s.heap.IsTuple l its.toArray from pt) hi (by unfold scanBound; omega) fun h' tk c R1 hcn k => ?_
  exact ⟨.ref _, upd H s.heap.objs.size (SetO X.w s.heap.objs.size (fun j => decide (j ∈ ns)) c), I.laid (t' := tk) k (Nat.le_refl _) (setO_new R1), rfl, q _ c hcn (I.hok.fresh (Nat.le_refl _))⟩
/-- sorted(t), a tuple of ints -/
def rSortT (K : PySem.W.Frag) : List V → Hp → VK → Prop := fun vs H Q => ∃ (a : Addr) (ns : List Int), vs = [V.ref a] ∧ SqT K H a (ns.map V.int) ∧
  ∀ (ns' : List Int) (p : Addr), ns'.Perm ns → ns'.Pairwise (· ≤ ·) → H p = none → Q (.ref p) (upd H p (.lst (ns'.map V.int)))
theorem cr_sortT : CallR X (.builtin "sorted") (rSortT X.K) := by
  intro pins s σ H vs us Q I r h
  obtain ⟨a, ns, rfl, hs, q⟩ := h
  obtain ⟨its, rv, ⟨o, ho, hcl, n, hd⟩, hz⟩ := I.tuple hs
  rw [Vals.ref1 r]
  have hi := rv.ints
  have hzl : its.length ≤ sizeLine := by
    rw [← rv.length]
    exact hz
  refine Calls.call_function_entry kind_sorted plain_sorted entry_sorted (args_sorted1 _) ?_
  unfold Builtin.«sorted»
  refine wpAny_bind (m := checkCount "sorted" 1 1 _) (wpAny_pure ?_)
  refine wpAny_bind (wpAny_collect_seq a (T := "tuple") (.inr rfl) ho hcl hd (fun h' k => ?_) (by rw [List.size_toArray]; exact hzl))
  rw [show its.toArray.toList = its by simp]
  refine wpAny_bind (wpAny_newList ?_ hzl)
  have hoL : (h'.push (seqObj "list" its.toArray 0)).get? h'.objs.size = some (seqObj "list" its.toArray 0) := Heap.get?_push_size _ rfl
  refine wpAny_bind (wpAny_holding (wpAny_call_entry (s := { s with heap := h'.push (seqObj "list" its.toArray 0) }) slot_list_sort ⟨_, hoL, rfl⟩ entry_list_sort
    (SrtO.list_sort_ord (s := { s with heap := h'.push (seqObj "list" its.toArray 0) }) SrtO.swo_int hoL hzl (fun h2 => SrtO.ints_sortable hi h2) fun out h1 h2 => ⟨_, rfl, ?_⟩) (args_list_sort _)))
  refine wpAny_pure ⟨_, rfl, ?_⟩
  obtain ⟨k1, k2, k3⟩ := SrtO.ints_out hi h1 h2
  obtain ⟨ep, he'⟩ := PyProof.Rows.sortedHeap_at (vs := its) (out := out.toArray) hoL
  have hlen : ((out.map SrtO.iv).map V.int).length ≤ sizeLine := by
    rw [List.length_map, k2.length_eq]
    rw [List.length_map] at hz
    exact hz
  have hnew : s.heap.get? h'.objs.size = none := by
    cases e : s.heap.get? h'.objs.size with
    | none => rfl
    | some u => exact absurd (Heap.lt_size (k _ _ e)) (Nat.lt_irrefl _)
  have hn : H h'.objs.size = none := I.hok.gone hnew
  exact ⟨.ref _, upd H h'.objs.size (.lst ((out.map SrtO.iv).map V.int)), I.laidN (t' := s.toks) (fun b u e => by
    have e1 := k b u e
    rw [PyProof.Rows.sortedHeap_old (Nat.ne_of_lt (Heap.lt_size e1)) (by rw [size_push']; exact Nat.lt_succ_of_lt (Heap.lt_size e1))]
    exact Heap.get?_push_of_some _ e1) hnew hn ⟨hlen, out, ep, vals_of_ints k1, he'⟩, rfl, q _ _ k2 k3 hn⟩
end
/-! ### t[::-1] -/
section
variable {prog : Program} {w : World} {A : Around} {E : Value → Shared → Prop} {s : Shared}
theorem places_rev (n : Nat) : Builtin.Slice.slicePlaces ((n : Int) - 1) (-1) (-1) = n := by
  unfold Builtin.Slice.slicePlaces
  rw [if_neg (by decide)]
  by_cases h : (n : Int) - 1 > -1
  · rw [if_pos h]
    show (((n : Int) - 1 - -1 - 1) / (- -1) + 1).toNat = n
    rw [show (- -1 : Int) = 1 by decide, Int.ediv_one]
    omega
  · rw [if_neg h]
    show 0 = n
    omega
theorem pick_rev (xs : Array Value) : ((List.range xs.size).filterMap fun (k : Nat) => xs[((xs.size : Int) - 1 + (k : Int) * (-1)).toNat]?).toArray = xs.toList.reverse.toArray := by
  congr 1
  refine List.ext_getElem? fun i => ?_
  have e : ∀ (l : List Nat), (∀ k ∈ l, k < xs.size) → l.filterMap (fun (k : Nat) => xs[((xs.size : Int) - 1 + (k : Int) * (-1)).toNat]?) = l.map fun k => xs.toList.reverse.getD k .none := by
    intro l
    induction l with
    | nil => intro _; rfl
    | cons a r ih =>
      intro h
      have ha := h a List.mem_cons_self
      have e1 : ((xs.size : Int) - 1 + (a : Int) * (-1)).toNat = xs.size - 1 - a := by omega
      have e2 : xs.toList.reverse[a]? = xs[xs.size - 1 - a]? := by
        rw [List.getElem?_reverse (by rw [Array.length_toList]; exact ha), Array.length_toList, Array.getElem?_toList]
      have e3 : xs[xs.size - 1 - a]? = some (xs[xs.size - 1 - a]'(by omega)) := Array.getElem?_eq_getElem (by omega)
      rw [List.filterMap_cons, e1, e3, List.map_cons, List.getD_eq_getElem?_getD, e2, e3, ih fun k hk => h k (List.mem_cons_of_mem _ hk)]
      rfl
  rw [e _ fun k hk => List.mem_range.mp hk, List.getElem?_map]
  by_cases h : i < xs.size
  · rw [List.getElem?_range h]
    show some (xs.toList.reverse.getD i .none) = _
    have : i < xs.toList.reverse.length := by simpa using h
    rw [List.getD_eq_getElem?_getD, List.getElem?_eq_getElem this]
    rfl
  · rw [List.getElem?_eq_none (by simpa using h), List.getElem?_eq_none (by simpa using h)]
    rfl
theorem getItem_tuple_rev {t sl : Addr} {items : Array Value} {tk : Tok} {Q : Value → Shared → Prop} (ht : IsTup s.heap t items) (hs : s.heap.IsSliceOf sl .none .none (.int (-1) tk))
    (h : Q (.ref s.heap.objs.size) { s with heap := s.heap.push { cls := .type "tuple", data := .seq items.toList.reverse.toArray } }) (hsz : items.size ≤ sizeLine) : wpAny (model prog w) A (getItem (.ref t) (.ref sl)) Q E s := by
  have hz : sizeOk (.seq items.toList.reverse.toArray) := by
    show items.toList.reverse.toArray.size ≤ sizeLine
    simpa using hsz
  obtain ⟨os, hos, hcs, hds⟩ := id hs
  have hTs : s.TypeIs (.ref sl) "slice" := ⟨os, hos, hcs⟩
  unfold getItem
  try with_reducible refine wpAny_holding ?_
  first | refine wpAny_bind (wpAny_pure ?_) | skip
  refine wpAny_bind (wpAny_sequenceKey ht.typeIs (by decide) ?_)
  refine wpAny_bind (wpAny_callSpecial?_slot (name := Str.ofString "__getitem__") ht.typeIs PyProof.Rows.slot_tuple_getitem
    (wpAny_call_entry PyProof.Rows.slot_tuple_getitem ht.typeIs PyProof.Rows.entry_tuple_getitem ?_ (PyProof.Rows.args_tuple_getitem _ _)))
  show wpAny _ _ (Builtin.Tuple.tupleItemsOf (.ref t) >>= _) _ _ s
  refine wpAny_bind (PyProof.Rows.tupleItemsOf_ ht ?_)
  refine wpAny_bind (wpAny_typeOf hTs ?_)
  rw [if_pos (by decide)]
  have step : wpAny (model prog w) A.in1 (Builtin.Slice.sliceApplied (.ref sl) (pure (items.size : Int))) (fun r s' => r = ((items.size : Int) - 1, -1, items.size) ∧ s' = s) E s := by
    unfold Builtin.Slice.sliceApplied Builtin.Slice.sliceFields
    refine wpAny_bind (wpAny_bind (wpAny_field hos hds (x := .none) rfl (wpAny_bind (wpAny_field hos hds (x := .none) rfl (wpAny_bind (wpAny_field hos hds (x := .int (-1) tk) rfl (wpAny_pure ?_)))))))
    refine wpAny_bind (PyProof.Rows.slicePart_int ?_)
    show wpAny _ _ (if ((-1 : Int) == 0) = true then _ else _) _ _ s
    rw [if_neg (by decide)]
    refine wpAny_bind (PyProof.Rows.slicePart_none (wpAny_bind (PyProof.Rows.slicePart_none (wpAny_bind (wpAny_pure ?_)))))
    show wpAny _ _ (pure ((items.size : Int) - 1, (-1 : Int), Builtin.Slice.slicePlaces ((items.size : Int) - 1) (-1) (-1))) _ _ s
    rw [places_rev]
    exact wpAny_pure ⟨rfl, rfl⟩
  refine wpAny_bind (wpAny_mono step (fun r s' hr => ?_) fun _ _ e => e)
  obtain ⟨rfl, rfl⟩ := hr
  show wpAny _ _ (if (((items.size : Int) - 1) == 0 && (-1 : Int) == 1 && items.size == items.size) = true then _ else _) _ _ _
  rw [if_neg (by simp), pick_rev]
  first
    | exact wpAny_bind (m := Builtin.Tuple.tupleExact _) (wpAny_newObj_type (wpAny_pure ⟨_, rfl, wpAny_pure h⟩) hz)
    | exact wpAny_bind (m := Builtin.Tuple.tupleExact _) (wpAny_newObj_type (wpAny_bind (wpAny_pure (wpAny_pure ⟨_, rfl, wpAny_pure h⟩))) hz)
    | exact wpAny_bind (wpAny_bind (m := Builtin.Tuple.tupleExact _) (wpAny_newObj_type (wpAny_pure (wpAny_pure ⟨_, rfl, wpAny_pure h⟩)) hz))
    | exact wpAny_bind (wpAny_bind (m := Builtin.Tuple.tupleExact _) (wpAny_newObj_type (wpAny_pure ⟨_, rfl, wpAny_pure h⟩) hz))
end
section
variable {X : Cx}
def tRevT (K : PySem.W.Frag) (te : TE) : TE := fun σ H Q => te σ H fun x H1 => ∃ a xs, x = .ref a ∧ SqT K H1 a xs ∧ ∀ p, H1 p = none → Q (.ref p) (upd H1 p (.tup xs.reverse))
theorem pe_revT {e : Expr} {te : TE} {k : Nat} {p1 p2 p3 pos : Pos} (he : PE X e te) : PE X (.Subscript e (.Slice none none (some (.UnaryOp .USub (.Constant (.int 1) k p1) p2)) p3) pos) (tRevT X.K te) := by
  refine ⟨fun pins s σ H Q I h => ?_⟩
  refine Subscript_ (thn (he.run pins s σ H _ I h) fun v s1 ⟨x, H1, I1, r1, q1⟩ => ?_)
  obtain ⟨a, xs, ex, hx, q⟩ := q1
  subst ex
  cases r1
  have hst : PO X (some (.UnaryOp .USub (.Constant (.int 1) k p1) p2)) (tPart (tUn (rU fun i => .int (-i)) (tC (.int 1)))) := po_some (pe_un un_neg pe_int)
  refine wpAny_Slice (thn (po_none.run pins s1 σ H1 (fun o H2 => o = none ∧ H2 = H1) I1 ⟨rfl, rfl⟩) fun vl s2 ⟨l, H2, I2, pl, el, e2⟩ => ?_)
  subst el e2
  refine thn (po_none.run pins s2 σ H2 (fun o H3 => o = none ∧ H3 = H2) I2 ⟨rfl, rfl⟩) fun vu s3 ⟨u, H3, I3, pu, eu, e3⟩ => ?_
  subst eu e3
  refine thn (hst.run pins s3 σ H3 (fun o H4 => o = some (-1) ∧ H4 = H3) I3 ⟨1, rfl, -1, rfl, rfl, rfl⟩) fun vs s4 ⟨o, H4, I4, ps, eo, e4⟩ => ?_
  subst eo e4
  cases pl
  cases pu
  cases ps with
  | int i tk =>
    have I5 : Inv X pins σ H4 { s4 with heap := s4.heap.push { cls := .type "slice", data := .fields #[.none, .none, .int (-1) tk] } } := I4.kept (t' := s4.toks) fun b ob q => Heap.get?_push_of_some _ q
    obtain ⟨its, r, ht, hz⟩ := I5.tuple hx
    have hlen := r.length
    show wpAny (model X.prog X.w) X.A (subscriptTail e (.Slice none none (some (.UnaryOp .USub (.Constant (.int 1) k p1) p2)) p3) (.ref a) (.ref s4.heap.objs.size)) (EP X pins σ Q) X.xe { s4 with heap := s4.heap.push { cls := .type "slice", data := .fields #[.none, .none, .int (-1) tk] } }
    refine tail_any (ops := [.ref a, .ref s4.heap.objs.size]) ht.typeIs (PyProof.Rows.slot_tuple_getitem.lookup) ?_ (by with_unfolding_all rfl)
    refine getItem_tuple_rev ht (Heap.IsSliceOf.new _ .none .none _) ?_ (by rw [List.size_toArray]; omega)
    refine ⟨.ref _, _, I5.laid (t' := s4.toks) (o := .tup xs.reverse) (fun b ob q => Heap.get?_push_of_some _ q) (Nat.le_refl _) ?_, rfl, q _ (I5.hok.fresh (Nat.le_refl _))⟩
    exact ⟨by rw [List.length_reverse]; exact hz, _, r.reverse, IsTup.new _ _⟩
end
end Pb

set_option Elab.async false
set_option linter.all false
set_option maxRecDepth 100000
namespace Pb
open PySem PySem.Spec PyProof.Rows L2
open PySem.AutoSeq1 (wpAny_loadPart')
/-! ### enumerate(t), t a tuple -/
theorem enum_new_tup (l : Addr) (items : Array Value) (n : Nat) (dd : Option Addr) (sl : Array (Option Value)) :
    Meets (Builtin.«enumerate.__new__» ⟨[.type "enumerate", .ref l], []⟩) (fun _ R s => s.heap.get? l = some { cls := .type "tuple", dict := dd, data := .seq items n, slots := sl } ∧
      R (.ok (.ret (.ref (s.heap.push { cls := .type "tuple_iterator", data := .fields #[.ref l, .int 0 0] }).objs.size)))
        { s with heap := (s.heap.push { cls := .type "tuple_iterator", data := .fields #[.ref l, .int 0 0] }).push { cls := .type "enumerate", data := .fields #[.none, .bool false, .ref s.heap.objs.size, rawInt 0, .none, .none] } }) :=
  .of_wp fun prog w A R s h => by
    obtain ⟨hp, g, d, tk, os⟩ := s
    obtain ⟨hl, h⟩ := h
    have hsub := sub_enumerate
    have hL : Heap.IsTuple (Shared.heap ⟨hp, g, d, tk, os⟩) l items := ⟨_, hl, rfl, n, rfl⟩
    wp_walk using wpAny_loadPart' hl
    refine wpAny_stack_any fun st => wpAny_pure ?_
    split
    · rename_i c _ _ _ _ _
      cases (c == Value.type "enumerate")
      · wp_walk using wpAny_loadPart' hl, wpAny_pyIter_tuple hL
        exact ⟨_, rfl, h⟩
      · wp_walk using wpAny_loadPart' hl, wpAny_pyIter_tuple hL
        exact ⟨_, rfl, h⟩
    · wp_walk using wpAny_loadPart' hl, wpAny_pyIter_tuple hL
      exact ⟨_, rfl, h⟩
section
variable {prog : Program} {w : World} {A : Around} {E : Value → Shared → Prop} {s : Shared}
theorem call_enum_tup {l : Addr} {items : Array Value} {Q : Value → Shared → Prop} (hL : s.heap.IsTuple l items)
    (h : ∀ h', IsEnum h' (s.heap.objs.size + 1) s.heap.objs.size 0 .none → h'.IsTupleIter s.heap.objs.size l 0 → h'.objs.size = s.heap.objs.size + 2 → (∀ b o, s.heap.get? b = some o → h'.get? b = some o) → Q (.ref (s.heap.objs.size + 1)) { s with heap := h' }) :
    wpAny (model prog w) A (call (.type "enumerate") [.ref l]) Q E s := by
  obtain ⟨⟨c, dct, dt, sl⟩, hl, hc, n, hd⟩ := hL
  simp only at hc hd
  subst hc hd
  refine callType_new F.called_enumerate (by decide) (F.typeCall_enumerate_1 _) (F.newCall_enumerate_1 _) (fun obj => F.args_object_init_2 obj _) F.entry_enumerate_new (enum_new_tup l items n dct sl) ⟨hl, ?_⟩
  have z1 : (s.heap.push { cls := .type "tuple_iterator", data := .fields #[.ref l, .int 0 0] }).objs.size = s.heap.objs.size + 1 := Heap.size_push ..
  have en : IsEnum ((s.heap.push { cls := .type "tuple_iterator", data := .fields #[.ref l, .int 0 0] }).push { cls := .type "enumerate", data := .fields #[.none, .bool false, .ref s.heap.objs.size, rawInt 0, .none, .none] }) (s.heap.objs.size + 1) s.heap.objs.size 0 .none := z1 ▸ Heap.get?_push_size (s.heap.push { cls := .type "tuple_iterator", data := .fields #[.ref l, .int 0 0] }) (o := { cls := .type "enumerate", data := .fields #[.none, .bool false, .ref s.heap.objs.size, rawInt 0, .none, .none] }) rfl
  show _ ∧ _
  rw [z1]
  exact ⟨⟨_, en, rfl⟩, h _ en ⟨_, Heap.get?_push_of_some _ (Heap.get?_push_size _ rfl), rfl, rfl⟩ ((Heap.size_push ..).trans (by rw [z1])) fun b o x => Heap.get?_push_of_some _ (Heap.get?_push_of_some _ x)⟩
end
section
variable {prog : Program} {w : World} {A : Around} {E : Value → Shared → Prop} {s : Shared}
theorem wpAny_pyNext_enum_tendD {e it t : Addr} {i : Nat} {items : Array Value} {old : Value} {Q : Option Value → Shared → Prop} (hh : A.in1.handled = none) (he : IsEnum s.heap e it i old) (hit : s.heap.IsTupleIter it t i) (ht : s.heap.IsTuple t items) (hx : items.size ≤ i) (hne : t ≠ it)
    (hQ : ∀ h', Heap.ExtBut it s.heap h' → Q none { s with heap := h' }) : wpAny (model prog w) A (pyNext (.ref e)) Q E s :=
  wpAny_pyNext_enum_endD (D := (⟨fun _ _ st => let ⟨o, ho, _⟩ := st.1; ⟨o, ho⟩, fun _ _ _ st hk => ⟨st.1.at fun o e => hk it (by simp) o e, st.2.at fun o e => hk t (by simp) o e⟩, fun j s Q E hj => absurd hj (Nat.not_lt_zero _), fun s Q E st hE => wpAny_nextOf_tuple_end hh st.1 st.2 (by simp; omega) hE⟩ : Draws prog w A.in1 it [it, t] 0 (fun _ _ => True) (fun _ h => h.IsTupleIter it t i ∧ h.IsTuple t items))) he ⟨hit, ht⟩ hQ
end
/-- the tuple at a, each item in a new pair with its number -/
def IteT (K : PySem.W.Frag) (a : Addr) : It :=
  ⟨fun i H => ∃ (xs : List V) (x : V), SqT K H a xs ∧ xs[i]? = some x, fun i H v H' => ∃ T x, v = .ref T ∧ H T = none ∧ H' = upd H T (.tup [.int (i : Nat), x]) ∧ ∀ xs, SqT K H a xs → xs[i]? = some x, fun i H => ∃ xs : List V, SqT K H a xs ∧ xs.length ≤ i⟩
theorem turn_enumT {P : Program} {w : World} {K : PySem.W.Frag} {elts : List Expr} {kk : Nat} {tpos : Pos} (a e it : Addr) (hae : a ≠ e) (hai : a ≠ it) :
    Turn P w K (.Tuple elts kk tpos) (IteT K a) [e, it] e (fun i h => (∃ old, IsEnum h e it ((i : Nat) : Int) old) ∧ h.IsTupleIter it a i ∧ e ≠ it) where
  mem := by simp
  obj := fun i h ⟨⟨_, he⟩, ⟨o, ho, hc, hd⟩, _⟩ b hb => by
    rcases (show b = e ∨ b = it by simpa using hb) with rfl | rfl
    · exact ⟨_, he, fun v q => nomatch q⟩
    · exact ⟨o, ho, fun v q => by rw [hd] at q; cases q⟩
  keep := fun i h h' ⟨⟨old, he⟩, hi, hne⟩ k => ⟨⟨old, k e (by simp) _ he⟩, hi.at fun o q => k it (by simp) o q, hne⟩
  item := by
    intro X hP hw hK hc i pins s σ H E I hf ⟨⟨old, he⟩, hit, hne⟩ ⟨xs, x, hq, hx⟩
    subst hP hw hK
    obtain ⟨its, rv, p, hz⟩ := I.tuple hq
    obtain ⟨u, hu, ru⟩ := rv.get hx
    have hil : i < its.toArray.size := by simpa using (List.getElem?_eq_some_iff.1 hu).1
    have eL : e < s.heap.objs.size := Heap.lt_size he
    have iL : it < s.heap.objs.size := let ⟨_, q, _⟩ := hit; Heap.lt_size q
    refine wpAny_pyNext_enum_itemD (Draws.tuple (A := X.A.in1) (I.ok.hd hc) it a hai its.toArray) he ⟨hit, p⟩ hil hne (by simp; exact ⟨hne, Ne.symm hae⟩) fun y h' tk hy ho st' hT hsz hk => ?_
    obtain rfl : y = u := by
      have e1 : its[i]? = some y := by simpa using hy
      rw [hu] at e1; exact (Option.some.inj e1).symm
    refine ⟨_, rfl, wpAny_letOwnedTupleGo_enum (s := { s with heap := h', toks := tk + 1 }) ho fun h2 he' sb => ?_⟩
    have hT2 : h2.get? s.heap.objs.size = some { cls := .type "tuple", data := .seq #[.int i tk, y] } := (sb.2 _ (Nat.ne_of_gt eL)).trans hT
    have new : ObjOk X.prog X.w (upd H s.heap.objs.size (.tup [.int (i : Nat), x])) h2 s.heap.objs.size (.tup [.int (i : Nat), x]) :=
      ⟨by show 2 ≤ sizeLine; decide, [.int i tk, y], .cons ⟨_, rfl⟩ (.cons ru .nil), ⟨_, hT2, rfl, _, rfl⟩⟩
    have I1 : Inv X pins σ (upd H s.heap.objs.size (.tup [.int (i : Nat), x])) { s with heap := h2, toks := tk + 1 } :=
      I.turnedNew (ch := [e, it]) (fun b ob hb q => (sb.2 b (fun z => hb (by simp [z]))).trans (hk b ob (fun z => hb (by simp [z])) (fun z => hb (by simp [z])) q)) hf (Nat.le_refl _) new
    refine ⟨.ref s.heap.objs.size, _, I1, rfl, ⟨_, x, rfl, I.hok.fresh (Nat.le_refl _), rfl, fun ys hy => by rw [I.tuple_inj hy hq]; exact hx⟩, ⟨⟨y, ?_⟩, st'.1.at fun o q => (sb.2 it (Ne.symm hne)).trans q, hne⟩, fun b hb => ?_⟩
    · rw [show ((i + 1 : Nat) : Int) = (i : Int) + 1 by omega]; exact he'
    · rw [upd_ne (Nat.ne_of_lt ?_)]
      · exact (hf b hb).1
      · rcases (show b = e ∨ b = it by simpa using hb) with rfl | rfl <;> assumption
  done := by
    intro X hP hw hK hc i pins s σ H E I hf ⟨⟨old, he⟩, hit, hne⟩ ⟨xs, hq, hx⟩
    subst hP hw hK
    obtain ⟨its, rv, p, hz⟩ := I.tuple hq
    obtain ⟨f0, f1, f2, f3, f4, f5⟩ := hf it (by simp)
    have hl := rv.length
    exact wpAny_pyNext_enum_tendD (I.ok.hd hc) he hit p (by simp; omega) hai fun h' eb => ⟨rfl, I.turned (t' := s.toks) (fun b o hb q => eb b o hb q) f0 f1 f3 f4 f5⟩
  self := fun A i s Q E ⟨⟨_, he⟩, _⟩ h => wpAny_pyIter_enum he h
def iEnumT (K : PySem.W.Frag) (ta : TA) : TI := fun σ H R => ta σ H fun vs H1 => ∃ a xs, vs = [.ref a] ∧ SqT K H1 a xs ∧ R (IteT K a) H1
theorem pi_enumT {X : Cx} {e : Expr} {ta : TA} {p pos tpos : Pos} {elts : List Expr} {kk : Nat} (hg : Gl X "enumerate") (hm : X.mg "enumerate" = none) (ha : PA X [e] ta) (hs : starEach [e] X.env = [(false, eval e X.env)] := by rfl) :
    PI X (.Tuple elts kk tpos) (.Call (.Name "enumerate" p) [e] [] pos) (iEnumT X.K ta) := by
  refine ⟨fun pins s σ H R I h => ?_⟩
  refine Call_ (ld_blt I hg hm boot_enumerate (PyProof.Rows.callWith_type1 (thn (ha.run pos pins s σ H _ I h) fun us s1 ⟨vs, H1, I1, r1, a, xs, ex, hq, q⟩ => ?_) hs rfl))
  subst ex
  obtain _ | ⟨r, rr⟩ := r1
  cases rr
  cases r
  obtain ⟨its, rv, p', hz⟩ := I1.tuple hq
  have aL : a < s1.heap.objs.size := let ⟨_, q, _⟩ := p'; Heap.lt_size q
  refine call_enum_tup p' fun h' he hit hsz hk => wpAny_pyIter_enum he ?_
  refine ⟨s1.heap.objs.size + 1, [s1.heap.objs.size + 1, s1.heap.objs.size], _, _, H1, rfl, I1.kept (t' := s1.toks) hk, turn_enumT a (s1.heap.objs.size + 1) s1.heap.objs.size (Nat.ne_of_lt (Nat.lt_succ_of_lt aL)) (Nat.ne_of_lt aL), ⟨⟨.none, he⟩, hit, Nat.succ_ne_self _⟩, fun b hb => ?_, q⟩
  have hle : s1.heap.objs.size ≤ b := by
    rcases (show b = s1.heap.objs.size + 1 ∨ b = s1.heap.objs.size by simpa using hb) with rfl | rfl
    · exact Nat.le_add_right _ _
    · exact Nat.le_refl _
  exact I1.fpOk hle (I1.hok.fresh hle)
end Pb

set_option Elab.async false
set_option linter.all false
set_option maxRecDepth 100000
namespace Pb
open PySem PySem.Spec PyProof.Rows L2
/-! ### own exceptions: made without arguments; isinstance with a tuple of classes -/
section
variable {X : Cx}
theorem pmk_own0 {C : Addr} {bmB : List Value} {B newId initId : String} {x : Str} {p pos : Pos} (F : ExcBaseFacts B newId initId bmB) (q : PySem.W.excIn X.K C bmB newId = true) (gC : X.mg x = some (.ref C))
    (kC : PySem.W.keepIn X.K (.ref C) = true) (r : Raises X (.ref C)) (hg : Gl X x) (hdb : (x == ("__debug__" : Str)) = false := by decide) :
    PMk X (.Call (.Name x p) [] [] pos) (fun _ H Q => Q (.ref C) none H) := fun pins s σ H Q I h => by
  refine wpAny_Call_Name_kw (ld_glob I hg gC (PySem.W.callWith_K0 I.kIn kC ?_) hdb)
  obtain ⟨bm, N, nm, qn, bs, hdct, sn, sub, ab, col, dd, k0, k1, k2, k3, k5, mN, hC, hN, hni, T⟩ := exc_obj I.kIn q
  exact wpAny_call_exc_subT F T hC hN hni (fun h' e hm => mk_of I hm r h (I.hok.gone hm.new)) (Nat.zero_le _)
end
/-- isinstance(e, (c1, c2, ..)), e the exception that the suite holds -/
def rIsET (K : PySem.W.Frag) (D a : Addr) : List V → Hp → VK → Prop := fun xs H Q => ∃ (tp : Addr) (cs : List V) (us : List Value) (b : Bool), xs = [.ref a, .ref tp] ∧ H tp = some (.tup cs) ∧ Paired ClsV cs us ∧ PySem.W.kitAny K (.ref D) us = some b ∧ Q (.bl b) H
theorem call_isET {X : Cx} {a D : Addr} {oe : Obj} {pn : List (Addr × Obj)} (C : ExcC X.K D) (hz : Zc (.ref D) none oe) (hf : ∃ vs, oe.data = .fields vs) : CallR (X.suite a ((a, oe) :: pn)) (.builtin "isinstance") (rIsET X.K D a) := by
  intro pins s σ H xs us Q I r ⟨tp, cs, ws, b, ex, hT, k, e, q⟩
  subst ex
  obtain ⟨u1, u2, rfl, r1, r2⟩ := vals2 r
  cases (show u2 = Value.ref tp from r2)
  cases (show u1 = Value.ref a from r1)
  obtain ⟨hget, _⟩ := I.pin (a, oe) (List.mem_append.mpr (.inl List.mem_cons_self))
  obtain ⟨vs, hv⟩ := hf
  obtain ⟨oc, od, oda, osl⟩ := oe
  obtain ⟨rfl, rfl⟩ : oc = .ref D ∧ od = none := hz
  obtain rfl : oda = .fields vs := hv
  obtain ⟨_, its, rv, o, h1, h2, n, h3⟩ := (show ObjOk X.prog X.w H s.heap tp (.tup cs) from I.hok tp _ hT)
  obtain rfl := ClsV.all k rv
  obtain ⟨oc', od', dt, sl⟩ := o
  obtain rfl : oc' = .type "tuple" := h2
  obtain rfl : dt = _ := h3
  exact PySem.W.kia_tup (H := fun h => PySem.W.InstAt h a _ D none) (PySem.W.handS_kitx_exc C.hg C.hk C.hs C.hd C.ha C.hn C.ht C.hm) I.kIn ⟨hget, rfl, rfl, trivial⟩ h1 e (fun z => nomatch z) fun tk => ⟨.bl b, H, I.kept (t' := tk) fun _ _ z => z, rfl, q⟩
end Pb

set_option Elab.async false
set_option linter.all false
set_option maxRecDepth 100000
namespace Pb
/-! from P2 -/
section
open PySem PySem.Spec PyProof.Rows L2
/-- _law_deck(script): a deck whose three lists are new -/
def spDeck (K : PySem.W.Frag) : Sp := fun vs H Q _ => ∃ (a : Addr) (ns : List Int), vs = [.ref a] ∧ SqL K H a (ns.map V.int) ∧ ns.length ≤ 63 ∧
  ∀ (d b c : Addr) (H' : Hp), Dk d b c 0 H' → H d = none → H b = none → Same H (msk d b H') → Q (.ref d) H'
theorem given_ints (n : Nat) (f : Nat → Bool) (g : Nat → Int) : Evl.given n f (fun i => .int (g i)) = (((List.range n).filter f).map g).map V.int := by
  unfold Evl.given
  rw [List.map_map]
  rfl
theorem ints_at {ns : List Int} {i : Nat} {x : V} (h : (ns.map V.int)[i]? = some x) : x = .int (ns.getD i 0) := by
  rw [List.getElem?_map] at h
  cases e : ns[i]? with
  | none =>
    rw [e] at h
    cases h
  | some y =>
    rw [e] at h
    rw [List.getD_eq_getElem?_getD, e]
    exact (Option.some.inj h).symm
end
/-! from P5 -/
section
open PySem PySem.Spec PyProof.Rows L2
/-- a def that changes nothing and hands back a value -/
def spV (R : List V → Hp → V → Prop) : Sp := fun vs H Q _ => ∃ z, R vs H z ∧ Evl.RetV z H Q
theorem spV_of {R : List V → Hp → V → Prop} {vs : List V} {H : Hp} {z : V} (h : ∀ H1, Evl.Ex H H1 → R vs H1 z) : Evl.SpV (spV R) vs H z := fun H1 e Q q E => ⟨z, h H1 e, q⟩
section
variable {K : PySem.W.Frag} {σ : L2.St} {H : Hp} {ta tb tc : TE} {x y v : V} {r r' : R2}
theorem ev_chain {p q : Bool} (ha : Evl.Ev ta σ H x) (hb : Evl.Ev tb σ H y) (hr : Evl.RV r x y H (.bl p)) (hc : p = true → Evl.Ev tc σ H v) (hr' : p = true → Evl.RV r' y v H (.bl q)) :
    Evl.Ev (tChain r r' ta tb tc) σ H (.bl (p && q)) := fun H1 e Q k =>
  ha H1 e _ fun H2 e2 => hb H2 (e.trans e2) _ fun H3 e3 => hr H3 ((e.trans e2).trans e3) _ fun H4 e4 => ⟨p, rfl, by
    have e14 := ((e.trans e2).trans e3).trans e4
    cases p with
    | true => exact iteT (hc rfl H4 e14 _ fun H5 e5 => hr' rfl H5 (e14.trans e5) Q fun H6 e6 => k H6 ((((e2.trans e3).trans e4).trans e5).trans e6))
    | false => exact iteF (k H4 ((e2.trans e3).trans e4))⟩
theorem ev_len' {xs : List V} {p : Addr} (ha : Evl.Ev ta σ H (.ref p)) (h : SqL K H p xs ∨ SqT K H p xs) : Evl.Ev (tCB (Evl.rLenS K) (tCons ta tNil)) σ H (.int (xs.length : Int)) := fun H1 e Q q =>
  ha H1 e _ fun H2 e2 => ⟨p, xs, rfl, h.elim (fun h => .inl (Evl.ex_l (e.trans e2) h)) (fun h => .inr (Evl.ex_t (e.trans e2) h)), q H2 e2⟩
theorem rv_le {i j : Int} : Evl.RV (rI0 fun i j => .bl (decide (i ≤ j))) (.int i) (.int j) H (.bl (decide (i ≤ j))) := Evl.rv_I0
theorem rv_lt {i j : Int} : Evl.RV (rI0 fun i j => .bl (decide (i < j))) (.int i) (.int j) H (.bl (decide (i < j))) := Evl.rv_I0
end
/-! ### integers, ascending tuples, tables -/
def isInt (d : PyData) : Bool := isI "int" d && !isI "bool" d
theorem isInt_iff {d : PyData} : isInt d = true ↔ ∃ i, d = .int i := by
  cases d <;> simp [isInt, isI, isN, tyN]
def numBelow : PyData → Int → Bool
  | .int i, c => decide (0 ≤ i) && decide (i < c)
  | _, _ => false
def ascFrom : Int → Int → List PyData → Bool
  | _, _, [] => true
  | l, c, .int i :: r => decide (0 ≤ i) && decide (i < c) && decide (l < i) && ascFrom i c r
  | _, _, _ :: _ => false
def asc : PyData → Int → Bool
  | .tuple ds, c => ascFrom (-1) c ds
  | _, _ => false
def tab2 : PyData → PyData → Bool
  | .int n, .tuple os => decide (1 ≤ n) && decide (n ≤ 10) && decide (os.length ≤ 10) && os.all fun o => asc o n
  | _, _ => false
def isTab : PyData → Bool
  | .tuple [a, b] => tab2 a b
  | _ => false
section
variable (K : PySem.W.Frag)
def rInteger : List V → Hp → V → Prop := fun vs H z => ∃ x d, vs = [x] ∧ Da K H x d ∧ z = .bl (isInt d)
def rNumBelow : List V → Hp → V → Prop := fun vs H z => ∃ x d c, vs = [x, .int c] ∧ Da K H x d ∧ z = .bl (numBelow d c)
def rAsc : List V → Hp → V → Prop := fun vs H z => ∃ x d c, vs = [x, .int c] ∧ Da K H x d ∧ okD d = true ∧ z = .bl (asc d c)
def rTab : List V → Hp → V → Prop := fun vs H z => ∃ x d, vs = [x] ∧ Da K H x d ∧ okD d = true ∧ z = .bl (isTab d)
end
/-- _law_same of two truth values -/
def rSameB : List V → Hp → V → Prop := fun vs _ z => ∃ a b, vs = [.bl a, .bl b] ∧ z = .bl (a == b)
end
/-! from P6 -/
section
open PySem PySem.Spec PyProof.Rows L2
section
variable {K : PySem.W.Frag} {σ : L2.St} {H : Hp} {t : TT} {te : TE}
/-- [e for x in t if c], t a tuple -/
theorem el_lcT {a : Addr} {xs : List V} {tl : TE} {j : Nat} {vs : List Nat} (f : Nat → Bool) (v : Nat → V) (h : Evl.Ev tl σ H (.ref a)) (hx : SqT K H a xs) (hz : xs.length ≤ 40000) (hw : ∀ x, wipe ((wipe σ vs).set j (some x)) vs = wipe σ vs)
    (ht : ∀ (i : Nat) (x : V) H1, Evl.Ex H H1 → xs[i]? = some x → Evl.EvT t ((wipe σ vs).set j (some x)) H1 (f i)) (he : ∀ (i : Nat) (x : V) H1, Evl.Ex H H1 → xs[i]? = some x → f i = true → Evl.Ev te ((wipe σ vs).set j (some x)) H1 (v i)) :
    Evl.EvL (tLc (iTup K tl) (gName j) t te vs) σ H (Evl.given xs.length f v) := fun H0 e Q q => h H0 e _ fun H1 e1 =>
  ⟨a, rfl, ⟨xs, Evl.ex_t (e.trans e1) hx⟩, fun D hD =>
    lc_tup (xs := xs) (Evl.Cw H1 f v D) ⟨hD, Evl.Ex.new hD, upd_same⟩ (fun i H' _ p => Evl.ex_t ((e.trans e1).trans p.2.1) hx)
      (fun i x H' hi p => ⟨hw x, Evl.cw_turn p (by have := (List.getElem?_eq_some_iff.mp hi).1; omega) (ht i x H1 (e.trans e1) hi) fun hf => he i x H1 (e.trans e1) hi hf⟩)
      (fun H' p => q D H' (Evl.fresh_back e1 p.1) (e1.trans p.2.1) p.2.2)⟩
/-- all([..]) of a new list of truth values -/
theorem ev_allN {bs : List Bool} {xs : List V} {ta : TE} (ha : Evl.EvL ta σ H xs) (hx : xs = bs.map V.bl) : Evl.Ev (tCB (rAll K) (tCons ta tNil)) σ H (.bl (bs.all id)) := fun H1 e Q q =>
  ha H1 e _ fun p H2 _ e2 h2 => ⟨p, bs, rfl, SqL.of (hx ▸ h2), q H2 e2⟩
end
theorem given_all (n : Nat) (v : Nat → V) : Evl.given n (fun _ => true) v = (List.range n).map v := by
  unfold Evl.given
  rw [List.filter_eq_self.mpr (fun _ _ => rfl)]
theorem range_getD {α β : Type} (f : α → β) (d : α) : ∀ (l : List α), (List.range l.length).map (fun i => f (l.getD i d)) = l.map f
  | [] => rfl
  | x :: l => by
    rw [List.length_cons, List.range_succ_eq_map, List.map_cons, List.map_map, List.map_cons, ← range_getD f d l]
    rfl
theorem isTab_tup {ds : List PyData} (h : ds.length ≠ 2) : isTab (.tuple ds) = false := by
  match ds, h with
  | [], _ => rfl
  | [_], _ => rfl
  | [_, _], h => exact absurd rfl h
  | _ :: _ :: _ :: _, _ => rfl
theorem isTab_int {a b : PyData} (h : isInt a = false) : isTab (.tuple [a, b]) = false := by
  cases a <;> first | rfl | (rw [isInt_iff.mpr ⟨_, rfl⟩] at h; cases h)
theorem isTab_tt {n : Int} {b : PyData} (h : isI "tuple" b = false) : isTab (.tuple [.int n, b]) = false := by
  cases b <;> first | rfl | (simp [isI, isN, tyN] at h)
theorem isI_tuple {d : PyData} (h : isI "tuple" d = true) : ∃ ds, d = .tuple ds := by
  cases d <;> first | exact ⟨_, rfl⟩ | (simp [isI, isN, tyN] at h)
theorem okD_len {ds : List PyData} (h : okD (.tuple ds) = true) : ds.length ≤ 60 ∧ okAll ds = true := by
  simp only [okD, Bool.and_eq_true, decide_eq_true_eq] at h
  exact h
end
/-! from P7 -/
section
open PySem PySem.Spec PyProof.Rows L2
/-! ### ascending, and sorted without repeats -/
theorem ascFrom_ints (c : Int) : ∀ (ns : List Int) (l : Int), ascFrom l c (ns.map PyData.int) = true ↔ (∀ i ∈ ns, 0 ≤ i ∧ i < c) ∧ (∀ i ∈ ns, l < i) ∧ ns.Pairwise (· < ·)
  | [], l => ⟨fun _ => ⟨fun _ h => absurd h List.not_mem_nil, fun _ h => absurd h List.not_mem_nil, .nil⟩, fun _ => rfl⟩
  | n :: ns, l => by
    simp only [List.map_cons, ascFrom, Bool.and_eq_true, decide_eq_true_eq, ascFrom_ints c ns n, List.mem_cons, List.pairwise_cons]
    constructor
    · rintro ⟨⟨⟨h0, h1⟩, h2⟩, h3, h4, h5⟩
      refine ⟨?_, ?_, h4, h5⟩
      · rintro i (rfl | hi)
        · exact ⟨h0, h1⟩
        · exact h3 i hi
      · rintro i (rfl | hi)
        · exact h2
        · have := h4 i hi
          omega
    · rintro ⟨h1, h2, h4, h5⟩
      exact ⟨⟨h1 n (.inl rfl), h2 n (.inl rfl)⟩, fun i hi => h1 i (.inr hi), h4, h5⟩
theorem asc_ints {c : Int} {ns : List Int} : asc (.tuple (ns.map PyData.int)) c = true ↔ (∀ i ∈ ns, 0 ≤ i ∧ i < c) ∧ ns.Pairwise (· < ·) := by
  show ascFrom (-1) c (ns.map PyData.int) = true ↔ _
  rw [ascFrom_ints]
  exact ⟨fun h => ⟨h.1, h.2.2⟩, fun h => ⟨h.1, fun i hi => by have := h.1 i hi; omega, h.2⟩⟩
theorem ascFrom_int {c : Int} : ∀ {ds : List PyData} {l : Int}, ascFrom l c ds = true → ∀ d ∈ ds, isInt d = true
  | [], _, _, _, h => absurd h List.not_mem_nil
  | d :: ds, l, e, x, h => by
    cases d with
    | int i =>
      simp only [ascFrom, Bool.and_eq_true] at e
      rcases List.mem_cons.mp h with rfl | h
      · exact isInt_iff.mpr ⟨_, rfl⟩
      · exact ascFrom_int e.2 x h
    | none => cases e
    | bool _ => cases e
    | str _ => cases e
    | list _ => cases e
    | tuple _ => cases e
    | dict _ => cases e
theorem all_ints : ∀ {ds : List PyData}, (∀ d ∈ ds, isInt d = true) → ∃ ns : List Int, ds = ns.map PyData.int
  | [], _ => ⟨[], rfl⟩
  | d :: ds, h => by
    obtain ⟨n, rfl⟩ := isInt_iff.mp (h d List.mem_cons_self)
    obtain ⟨ns, rfl⟩ := all_ints fun x hx => h x (List.mem_cons_of_mem _ hx)
    exact ⟨n :: ns, rfl⟩
theorem strict_eq {a b : List Int} (ha : a.Pairwise (· < ·)) (hb : b.Pairwise (· < ·)) (h : ∀ k, k ∈ a ↔ k ∈ b) : a = b := by
  have na : a.Nodup := ha.imp fun h e => by omega
  have nb : b.Nodup := hb.imp fun h e => by omega
  exact List.Perm.eq_of_pairwise (le := (· ≤ ·)) (fun x y _ _ h1 h2 => Int.le_antisymm h1 h2) (ha.imp fun h => Int.le_of_lt h) (hb.imp fun h => Int.le_of_lt h) ((List.perm_ext_iff_of_nodup na nb).mpr h)
theorem dpInts {K : PySem.W.Frag} {H : Hp} : ∀ ns : List Int, DpAll K H (ns.map V.int) (ns.map PyData.int)
  | [] => .nil
  | n :: ns => .cons (.int n) (dpInts ns)
theorem canLay_ints : ∀ ns : List Int, PyData.canLayAll0 (ns.map PyData.int) = true
  | [] => rfl
  | n :: ns => by simp only [List.map_cons, PyData.canLayAll0, PyData.canLay0, canLay_ints ns, Bool.and_self]
theorem depth_ints : ∀ ns : List Int, PyData.depthAll (ns.map PyData.int) = 0
  | [] => rfl
  | n :: ns => by simp only [List.map_cons, PyData.depthAll, PyData.depth, depth_ints ns, Nat.max_self]
theorem shaped_ints (ns : List Int) : SeqAt.shaped (.list (ns.map PyData.int)) = true := by
  simp only [SeqAt.shaped, PyData.canLay0, canLay_ints, PyData.depth, depth_ints, Bool.true_and]
  decide
theorem eqv_ints : ∀ ns ms : List Int, PyData.eqvAll (ns.map PyData.int) (ms.map PyData.int) = decide (ns = ms)
  | [], [] => rfl
  | [], _ :: _ => rfl
  | _ :: _, [] => rfl
  | n :: ns, m :: ms => by
    simp only [List.map_cons, PyData.eqvAll, PyData.eqv, eqv_ints ns ms, List.cons.injEq]
    by_cases h1 : n = m <;> by_cases h2 : ns = ms <;> simp [h1, h2]
theorem DaAll.toInts {K : PySem.W.Frag} {H : Hp} : ∀ {vs : List V} {ns : List Int}, DaAll K H vs (ns.map PyData.int) → vs = ns.map V.int
  | [], [], _ => rfl
  | [], _ :: _, h => nomatch h
  | _ :: _, [], h => nomatch h
  | v :: vs, n :: ns, h => by
    cases h with
    | cons h1 h2 =>
      cases h1
      rw [List.map_cons, DaAll.toInts h2]
theorem given_empty {n : Nat} {f : Nat → Bool} {v : Nat → V} : (Evl.given n f v).isEmpty = true ↔ ∀ i < n, f i = false := by
  unfold Evl.given
  rw [List.isEmpty_iff, List.map_eq_nil_iff, List.filter_eq_nil_iff]
  simp
theorem isTab_all {n : Int} {os : List PyData} (h1 : (decide (1 ≤ n) && decide (n ≤ 10)) = true) (h2 : os.length ≤ 10) : isTab (.tuple [.int n, .tuple os]) = os.all fun o => asc o n := by
  simp only [isTab, tab2, h1, decide_eq_true h2, Bool.true_and]
section
variable {K : PySem.W.Frag} {σ : L2.St} {H : Hp} {ta : TE}
/-- [..] != [] of a new list -/
theorem et_neN {xs : List V} (ha : Evl.EvL ta σ H xs) : Evl.EvT (tTest (tOp (rNe0 K) ta (tLst tNil))) σ H (!xs.isEmpty) := fun H1 e Q q =>
  ha H1 e _ fun p H2 _ e2 hp => ⟨Nat.zero_le _, fun l hl => ⟨p, l, xs, rfl, rfl, SqL.of (same_upd hl _ _ hp), SqL.of upd_same, _, rfl, q _ (e2.trans (Evl.Ex.new hl))⟩⟩
end
end
/-! from P8 -/
section
open PySem PySem.Spec PyProof.Rows L2
/-! ### draws, one after another -/
section
variable {d b c D p a : Addr} {n m n' n1 n2 k : Int} {H H' H1 H2 : Hp} {o : HO}
theorem Dk.off (h : Dk d b c n H) (hD : H D = none) : D ≠ d ∧ D ≠ b ∧ D ≠ c := by
  obtain ⟨bs, hb⟩ := h.at_b
  obtain ⟨cs, hc, _⟩ := h.at_c
  refine ⟨fun z => ?_, fun z => ?_, fun z => ?_⟩
  · rw [z, h.at_d] at hD
    cases hD
  · rw [z, hb] at hD
    cases hD
  · rw [z, hc] at hD
    cases hD
theorem Dk.put (h : Dk d b c n H) (h1 : D ≠ d ∧ D ≠ b ∧ D ≠ c) : Dk d b c n (upd H D o) := by
  obtain ⟨x1, x2, x3, x4, x5, ⟨bs, x6⟩, cs, x7, x8⟩ := h
  refine ⟨x1, x2, x3, x4, ?_, ⟨bs, ?_⟩, cs, ?_, x8⟩
  · rw [upd_ne h1.1.symm]
    exact x5
  · rw [upd_ne h1.2.1.symm]
    exact x6
  · rw [upd_ne h1.2.2.symm]
    exact x7
theorem Dr.refl (h : Dk d b c n H) : Dr d b c n H n H := ⟨h, Int.le_refl _, Same.refl _⟩
theorem Dr.step (h1 : Dr d b c m H n1 H1) (h2 : Dr d b c (n1 + k) H1 n2 H2) : Dr d b c (m + k) H n2 H2 := ⟨h2.dk, by have := h1.le; have := h2.le; omega, h1.sm.trans h2.sm⟩
theorem Dr.new (h : Dr d b c m H n' H') (hp : H' p = none) : Dr d b c m H n' (upd H' p o) := ⟨h.dk.same (same_upd hp), h.le, h.sm.trans (msk_same (same_upd hp))⟩
theorem Dr.more (h : Dr d b c m H n' H') (s : Same H' H1) : Dr d b c m H n' H1 := ⟨h.dk.same s, h.le, h.sm.trans (msk_same s)⟩
theorem Dr.put (h : Dr d b c m H n' H') (h0 : Dk d b c n H) (hD : H D = none) : Dr d b c m H n' (upd H' D o) := by
  have x := h0.off hD
  refine ⟨h.dk.put x, h.le, fun a u e => ?_⟩
  have ne : a ≠ D := fun z => by
    rw [z, msk_none hD] at e
    cases e
  rw [msk_new x.1 x.2.1, upd_ne ne]
  exact h.sm a u e
theorem Dr.at (h : Dr d b c m H n' H') (x : a ≠ d ∧ a ≠ b ∧ a ≠ c) (e : H a = some o) : H' a = some o := by
  have q := h.sm a o (by rw [msk_ne x.1 x.2.1]; exact e)
  exact (msk_some q).2.2
theorem Dr.wide (h : Dr d b c m H n' H') (hm : m ≤ k) : Dr d b c k H n' H' := ⟨h.dk, Int.le_trans h.le hm, h.sm⟩
theorem Same.mskL {K : PySem.W.Frag} {xs : List V} (h : SqL K (msk d b H) a xs) : SqL K H a xs := Same.seq msk_sub h
theorem Same.mskT {K : PySem.W.Frag} {xs : List V} (h : SqT K (msk d b H) a xs) : SqT K H a xs := Same.tq msk_sub h
theorem at_msk (x : a ≠ d ∧ a ≠ b ∧ a ≠ c) (e : H a = some o) : msk d b H a = some o := by
  rw [msk_ne x.1 x.2.1]
  exact e
end
/-- _law_part(deck, items, share): some of the ints, in their order, as a new tuple -/
def spPart (K : PySem.W.Frag) : Sp := fun vs H Q _ => ∃ (d b c a : Addr) (n sh : Int) (ns : List Int), vs = [.ref d, .ref a, .int sh] ∧ Dk d b c n H ∧ n < 2 ^ 50 ∧ ns.length ≤ 1000 ∧
  (SqL K (msk d b H) a (ns.map V.int) ∨ SqT K (msk d b H) a (ns.map V.int)) ∧
  ∀ (p : Addr) (ms : List Int) (n' : Int) (H' : Hp), ms.Sublist ns → Dr d b c (n + ns.length) H n' H' → SqT K (msk d b H') p (ms.map V.int) → Q (.ref p) H'
def upto (n : Nat) : List Int := (List.range n).map fun i => ((i : Nat) : Int)
/-- _law_shuffled(deck, count): an order of the numbers below count, as a new tuple -/
def spShuf (K : PySem.W.Frag) : Sp := fun vs H Q _ => ∃ (d b c : Addr) (n : Int) (m : Nat), vs = [.ref d, .int m] ∧ Dk d b c n H ∧ n < 2 ^ 50 ∧ m ≤ 1000 ∧
  ∀ (p : Addr) (os : List Int) (n' : Int) (H' : Hp), os.Perm (upto m) → Dr d b c (n + m) H n' H' → SqT K (msk d b H') p (os.map V.int) → Q (.ref p) H'
/-- _law_one(deck, some): one of the items of a list -/
def spOne (K : PySem.W.Frag) : Sp := fun vs H Q _ => ∃ (d b c a : Addr) (n : Int) (xs : List V), vs = [.ref d, .ref a] ∧ Dk d b c n H ∧ n < 2 ^ 50 ∧ xs ≠ [] ∧ xs.length ≤ 1000 ∧ SqL K (msk d b H) a xs ∧
  ∀ (x : V) (n' : Int) (H' : Hp), x ∈ xs → Dr d b c (n + 1) H n' H' → Q x H'
theorem rgV_ints (m : Nat) : rgV 0 (m : Int) = (upto m).map V.int := by
  unfold rgV upto
  rw [List.map_map]
  congr 1
  · funext i
    show V.int (0 + (i : Int)) = V.int (i : Int)
    rw [Int.zero_add]
theorem ints_len (m : Nat) : (upto m).length = m := by
  unfold upto
  rw [List.length_map, List.length_range]
theorem mem_ints {m : Nat} {i : Int} : i ∈ upto m ↔ 0 ≤ i ∧ i < m := by
  unfold upto
  rw [List.mem_map]
  constructor
  · rintro ⟨j, hj, rfl⟩
    have := List.mem_range.mp hj
    omega
  · rintro ⟨h1, h2⟩
    exact ⟨i.toNat, List.mem_range.mpr (by omega), by omega⟩
theorem ints_strict (m : Nat) : (upto m).Pairwise (· < ·) := by
  unfold upto
  rw [List.pairwise_map]
  exact List.pairwise_lt_range.imp fun h => by omega
end
/-! from P9 -/
section
theorem perm_erase {α : Type} : ∀ (l : List α) (j : Nat) (h : j < l.length), (l[j] :: l.eraseIdx j).Perm l
  | x :: l, 0, _ => List.Perm.refl _
  | x :: l, j + 1, h => by
    have ih := perm_erase l j (by simpa using h)
    exact (List.Perm.swap x _ _).trans (ih.cons x)
theorem map_erase {α β : Type} (f : α → β) : ∀ (l : List α) (j : Nat), (l.map f).eraseIdx j = (l.eraseIdx j).map f
  | [], _ => rfl
  | x :: l, 0 => rfl
  | x :: l, j + 1 => by
    rw [List.map_cons, List.eraseIdx_cons_succ, List.eraseIdx_cons_succ, List.map_cons, map_erase f l j]
end
/-! from P10 -/
section
open PySem PySem.Spec PyProof.Rows L2
theorem pe_bmK {X : Cx} {K : PySem.W.Frag} {e : Expr} {T : String} {r : V → List V → Hp → VK → Prop} {to : TE} {t : TA} (hK : X.K = K) (h : PE X e (tBM X.K T r to t)) : PE X e (tBM K T r to t) := hK ▸ h
/-! ### heaps without some addresses -/
def hs (S : List Addr) (H : Hp) : Hp := fun a => if a ∈ S then none else H a
section
variable {S : List Addr} {H H' : Hp} {a p d b : Addr} {o : HO}
theorem hs_out (h : a ∉ S) : hs S H a = H a := by
  unfold hs
  rw [if_neg h]
theorem hs_some (h : hs S H a = some o) : a ∉ S ∧ H a = some o := by
  unfold hs at h
  split at h
  · cases h
  · rename_i q
    exact ⟨q, h⟩
theorem hs_sub : Same (hs S H) H := fun _ _ e => (hs_some e).2
theorem hs_mono (s : Same H H') : Same (hs S H) (hs S H') := fun a o e => by
  obtain ⟨h1, h2⟩ := hs_some e
  rw [hs_out h1]
  exact s _ _ h2
theorem hs_put (h : a ∈ S) : hs S (upd H a o) = hs S H := by
  funext x
  unfold hs
  split
  · rfl
  · rename_i q
    rw [upd_ne fun z => q (by rw [z]; exact h)]
theorem hs_new (h : p ∉ S) : hs S (upd H p o) = upd (hs S H) p o := by
  funext x
  by_cases e : x = p
  · subst e
    rw [hs_out h, upd_same, upd_same]
  · rw [upd_ne e]
    unfold hs
    rw [upd_ne e]
theorem hs_msk (s : Same (msk d b H) (msk d b H')) (h1 : d ∈ S) (h2 : b ∈ S) : Same (hs S H) (hs S H') := fun a o e => by
  obtain ⟨x1, x2⟩ := hs_some e
  have q := s a o (by rw [msk_ne (fun z => x1 (by rw [z]; exact h1)) (fun z => x1 (by rw [z]; exact h2))]; exact x2)
  rw [hs_out x1]
  exact (msk_some q).2.2
theorem hs_to_msk (h1 : d ∈ S) (h2 : b ∈ S) : Same (hs S H) (msk d b H) := fun a o e => by
  obtain ⟨x1, x2⟩ := hs_some e
  rw [msk_ne (fun z => x1 (by rw [z]; exact h1)) (fun z => x1 (by rw [z]; exact h2))]
  exact x2
theorem hs_at (h : a ∉ S) (e : H a = some o) : hs S H a = some o := by
  rw [hs_out h]
  exact e
theorem msk_to_hs {T : List Addr} (h : ∀ x ∈ S, x ∈ T) : Same (hs T H) (hs S H) := fun a o e => by
  obtain ⟨x1, x2⟩ := hs_some e
  rw [hs_out fun z => x1 (h a z)]
  exact x2
end
/-! ### offers and tables as data -/
def offD (o : List Int) : PyData := .tuple (o.map PyData.int)
def tabD (n : Int) (os : List (List Int)) : PyData := .tuple [.int n, .tuple (os.map offD)]
def OffOk (n : Int) (o : List Int) : Prop := (∀ i ∈ o, 0 ≤ i ∧ i < n) ∧ o.Pairwise (· < ·)
theorem nodup_len : ∀ {l r : List Int}, l.Nodup → (∀ i ∈ l, i ∈ r) → l.length ≤ r.length
  | [], _, _, _ => Nat.zero_le _
  | x :: l, r, nd, h => by
    have hx := h x List.mem_cons_self
    obtain ⟨n1, n2⟩ := List.nodup_cons.mp nd
    have ih := nodup_len (r := r.erase x) n2 fun i hi => (List.mem_erase_of_ne (fun e : i = x => n1 (by rw [← e]; exact hi))).mpr (h i (List.mem_cons_of_mem _ hi))
    rw [List.length_erase_of_mem hx] at ih
    have := List.length_pos_of_mem hx
    rw [List.length_cons]
    omega
theorem OffOk.len {m : Nat} {o : List Int} (h : OffOk m o) : o.length ≤ m := by
  have q := nodup_len (l := o) (r := upto m) (h.2.imp fun h e => by omega) fun i hi => mem_ints.mpr (h.1 i hi)
  rw [ints_len] at q
  exact q
theorem off_sub {m : Nat} {o : List Int} (h : o.Sublist (upto m)) : OffOk m o := ⟨fun i hi => mem_ints.mp (h.subset hi), (ints_strict m).sublist h⟩
theorem strict_of_le {o : List Int} (h : o.Pairwise (· ≤ ·)) (nd : o.Nodup) : o.Pairwise (· < ·) := by
  have := List.Pairwise.and h nd
  exact this.imp fun ⟨h1, h2⟩ => by omega
/-- a sorted arrangement of some of an order's numbers -/
theorem off_sorted {m : Nat} {ord ms o : List Int} (hp : ord.Perm (upto m)) (hs : ms.Sublist ord) (ho : o.Perm ms) (hl : o.Pairwise (· ≤ ·)) : OffOk m o := by
  have nd : ord.Nodup := hp.nodup_iff.mpr ((ints_strict m).imp fun h e => by omega)
  refine ⟨fun i hi => mem_ints.mp (hp.mem_iff.mp (hs.subset (ho.mem_iff.mp hi))), strict_of_le hl (ho.nodup_iff.mpr (nd.sublist hs))⟩
theorem cut_ints (ns : List Int) (lo hi : Option Int) : ∃ ms : List Int, cutV (ns.map V.int) lo hi = ms.map V.int ∧ ms.Sublist ns :=
  ⟨(ns.drop (HT.sIx (ns.map V.int).length 0 lo)).take (HT.sIx (ns.map V.int).length (ns.map V.int).length hi - HT.sIx (ns.map V.int).length 0 lo), by
    unfold cutV
    rw [List.map_take, List.map_drop], (List.take_sublist _ _).trans (List.drop_sublist _ _)⟩
theorem DaAll.mem {K : PySem.W.Frag} {H : Hp} {vs : List V} {ds : List PyData} {x : V} (h : DaAll K H vs ds) (hx : x ∈ vs) : ∃ e ∈ ds, Da K H x e := by
  obtain ⟨i, hi⟩ := List.getElem?_of_mem hx
  obtain ⟨e, he, hd⟩ := DaAll.get h hi
  exact ⟨e, List.mem_of_getElem? he, hd⟩
/-! ### what an expression may give -/
def Ew (te : TE) (σ : L2.St) (H : Hp) (P : V → Hp → Prop) : Prop := ∀ Q : VK, (∀ v H', P v H' → Q v H') → te σ H Q
/-- found.append(e), found in slot i at fo -/
theorem s_appP {K : PySem.W.Frag} {te : TE} {σ : L2.St} {H : Hp} {D : Ends} {i : Nat} {fo : Addr} {refs : List V} (P : V → Hp → Prop) (hi : σ[i]? = some (some (.ref fo))) (ef : H fo = some (.lst refs)) (h : Ew te σ H P)
    (k : ∀ v H', P v H' → ∃ xs, H' fo = some (.lst xs) ∧ xs.length < sizeLine ∧ D.nx σ (upd H' fo (.lst (xs ++ [v])))) : tDrop (tBM K "list" rAppend (tVar i) (tCons te tNil)) D σ H :=
  ⟨.ref fo, hi, .inl ⟨rfl, _, SqL.of ef⟩, h _ fun v H' hP => by
    obtain ⟨xs, h1, h2, h3⟩ := k v H' hP
    exact ⟨fo, xs, v, rfl, rfl, h1, h2, h3⟩⟩
/-- what stands between two turns: found holds offers -/
structure Fnd (K : PySem.W.Frag) (d b c fo : Addr) (m : Nat) (N : Int) (H1 : Hp) (i : Nat) (H' : Hp) : Prop where
  ex : ∃ (refs : List V) (os : List (List Int)) (n' : Int), H' fo = some (.lst refs) ∧ DaAll K (hs [d, b, fo] H') refs (os.map offD) ∧ os.length = i ∧ (∀ o ∈ os, OffOk m o) ∧ Dr d b c N H1 n' H'
theorem Fnd.len {K : PySem.W.Frag} {d b c fo : Addr} {m : Nat} {N : Int} {H1 : Hp} {i : Nat} {H' : Hp} {refs : List V} {os : List (List Int)} (h : DaAll K (hs [d, b, fo] H') refs (os.map offD)) (hl : os.length = i) : refs.length = i := by
  rw [DaAll.len h, List.length_map, hl]
/-- one more offer -/
theorem Fnd.add {K : PySem.W.Frag} {d b c fo : Addr} {m : Nat} {N N' n : Int} {H1 H2 H' : Hp} {i : Nat} {v : V} {o : List Int} {refs : List V} {os : List (List Int)} (hD1 : Dk d b c n H1) (hfo : H1 fo = none) (hda : DaAll K (hs [d, b, fo] H2) refs (os.map offD)) (hl : os.length = i)
    (hok : ∀ o ∈ os, OffOk m o) (hsm : Same (hs [d, b, fo] H2) (hs [d, b, fo] H')) (n' : Int) (dr : Dr d b c N H1 n' H') (hN : N ≤ N') (ho : OffOk m o) (hv : Da K (hs [d, b, fo] H') v (offD o)) : Fnd K d b c fo m N' H1 (i + 1) (upd H' fo (.lst (refs ++ [v]))) := by
  refine ⟨refs ++ [v], os ++ [o], n', upd_same, ?_, by rw [List.length_append, hl]; rfl, fun x hx => ?_, (dr.put hD1 hfo).wide hN⟩
  · rw [hs_put (by simp), List.map_append]
    exact (hda.mono hsm).append (.cons hv .nil)
  · rcases List.mem_append.mp hx with hx | hx
    · exact hok x hx
    · have e : x = o := by simpa using hx
      rw [e]
      exact ho
/-- tuple(sorted(t)) -/
theorem srt {K : PySem.W.Frag} {Q : VK} {H : Hp} {a : Addr} {m : Nat} {ord ms : List Int} (hp : ord.Perm (upto m)) (hs : ms.Sublist ord) (h : SqT K H a (ms.map V.int))
    (k : ∀ (l : Addr) (o : List Int) (H' : Hp), Same H H' → H l = none → H' l = some (.tup (o.map V.int)) → OffOk m o → Q (.ref l) H') :
    rSortT K [V.ref a] H fun x H1 => ∃ p ys, [x] = [V.ref p] ∧ ((SqL K H1 p ys ∧ ∀ l, H1 l = none → Q (.ref l) (upd H1 l (.tup ys))) ∨ (SqT K H1 p ys ∧ Q (.ref p) H1)) :=
  ⟨a, ms, rfl, h, fun o p ho hl hp' => ⟨p, o.map V.int, rfl, .inl ⟨SqL.of upd_same, fun l hl2 => k l o _ ((same_upd hp').trans (same_upd hl2)) ((same_upd hp').free hl2) upd_same (off_sorted hp hs ho hl)⟩⟩⟩
theorem da_off {K : PySem.W.Frag} {H : Hp} {l : Addr} {o : List Int} (h : SqT K H l (o.map V.int)) : Da K H (.ref l) (offD o) := .tup h (DaAll.ints o)
/-- a table's makers: (deck, demands, offers) -/
def spMk (K : PySem.W.Frag) : Sp := fun vs H Q _ => ∃ (d b c : Addr) (n : Int) (m k : Nat), vs = [.ref d, .int m, .int k] ∧ Dk d b c n H ∧ n < 2 ^ 40 ∧ 1 ≤ m ∧ m ≤ 10 ∧ k ≤ 10 ∧
  ∀ (v : V) (os : List (List Int)) (n' : Int) (H' : Hp), Dr d b c (n + 1000) H n' H' → os.length = k → (∀ o ∈ os, OffOk m o) → Da K (msk d b H') v (tabD m os) → Q v H'
/-- return (demands, tuple(found)) -/
theorem mk_end {K : PySem.W.Frag} {d b c fo : Addr} {N n n' : Int} {H H' : Hp} {m : Nat} {refs : List V} {os : List (List Int)} {Q : VK} (dr : Dr d b c N H n' H') (hf : H' fo = some (.lst refs)) (hd : DaAll K (msk d b H') refs (os.map offD))
    (q : ∀ (v : V) (H2 : Hp), Dr d b c N H n' H2 → Da K (msk d b H2) v (tabD m os) → Q v H2) :
    ∃ p ys, [V.ref fo] = [.ref p] ∧ ((SqL K H' p ys ∧ ∀ l, H' l = none → [V.int m, V.ref l].length ≤ sizeLine ∧ ∀ t, upd H' l (.tup ys) t = none → Q (.ref t) (upd (upd H' l (.tup ys)) t (.tup [V.int m, V.ref l]))) ∨ (SqT K H' p ys ∧ [V.int m, V.ref p].length ≤ sizeLine ∧ ∀ t, H' t = none → Q (.ref t) (upd H' t (.tup [V.int m, V.ref p])))) := by
  refine ⟨fo, refs, rfl, .inl ⟨SqL.of hf, fun l hl => ⟨sz (n := 2) (by decide), fun t ht => ?_⟩⟩⟩
  have d1 := dr.new (o := .tup refs) hl
  have d2 := d1.new (o := .tup [V.int m, V.ref l]) ht
  have o1 := dr.dk.off hl
  have o2 := d1.dk.off ht
  have s1 : Same (msk d b H') (msk d b (upd H' l (.tup refs))) := msk_same (same_upd hl)
  have s2 : Same (msk d b (upd H' l (.tup refs))) (msk d b (upd (upd H' l (.tup refs)) t (.tup [V.int m, V.ref l]))) := msk_same (same_upd ht)
  refine q _ _ d2 (.tup (SqT.of (at_msk o2 upd_same)) (.cons (.int _) (.cons (.tup (SqT.of (s2 _ _ (at_msk o1 upd_same))) (hd.mono (s1.trans s2))) .nil)))
end
/-! from P11 -/
section
open PySem PySem.Spec PyProof.Rows L2
theorem sqT_hs {K : PySem.W.Frag} {d b fo p : Addr} {H : Hp} {xs refs : List V} (hp : SqT K (msk d b H) p xs) (ef : H fo = some (.lst refs)) : SqT K (hs [d, b, fo] H) p xs := by
  rcases hp with (hp | ⟨ob, hp⟩) | hp
  · obtain ⟨z1, z2, z3⟩ := msk_some hp
    have pf : p ≠ fo := fun z => by
      rw [z, ef] at z3
      cases z3
    exact .inl (.inl (hs_at (by simp [z1, z2, pf]) z3))
  · obtain ⟨z1, z2, z3⟩ := msk_some hp
    have pf : p ≠ fo := fun z => by
      rw [z, ef] at z3
      cases z3
    exact .inl (.inr ⟨ob, hs_at (by simp [z1, z2, pf]) z3⟩)
  · exact .inr hp
end
/-! from P12 -/
section
open PySem PySem.Spec PyProof.Rows L2
theorem Dr.free {d b c D : Addr} {m n' : Int} {H H' : Hp} (h : Dr d b c m H n' H') (hD : H' D = none) : H D = none := by
  cases e : H D with
  | none => rfl
  | some o =>
    have x := h.dk.off hD
    rw [h.at x e] at hD
    cases hD
theorem sz2 : 2 ≤ sizeLine := Pb.sz (by decide)
theorem cut_whole {xs : List V} {lo hi : Option Int} (h : HT.sIx xs.length 0 lo = 0 ∧ HT.sIx xs.length xs.length hi = xs.length) : cutV xs lo hi = xs := by
  unfold cutV
  rw [h.1, h.2]
  simp
theorem slA_msk {K : PySem.W.Frag} {d b c a : Addr} {n : Int} {H : Hp} {xs : List V} {lo hi : Option Int} {Q : VK} (hD : Dk d b c n H) (h : SqT K (msk d b H) a xs) (k : ∀ (p : Addr) (H' : Hp), Same H H' → SqT K (msk d b H') p (cutV xs lo hi) → Q (.ref p) H') : rSlA K (.ref a) lo hi H Q := by
  refine ⟨a, xs, rfl, Same.mskT h, fun w => k a H (Same.refl _) ?_, fun _ p hp => k p _ (same_upd hp) (SqT.of (at_msk (hD.off hp) upd_same))⟩
  rw [cut_whole w]
  exact h
theorem cut_from {ns : List Int} {sz : Nat} (h : sz ≤ ns.length) : cutV (ns.map V.int) (some (sz : Int)) none = (ns.drop sz).map V.int := by
  unfold cutV
  rw [HT.sIx_nat, HT.sIx_none, List.length_map, Nat.min_eq_left h, ← List.map_drop, ← List.map_take]
  congr 1
  exact List.take_of_length_le (by rw [List.length_drop]; omega)
/-- two neighbours among the first ones and some of the others, sorted -/
theorem off_around {m : Nat} {ord ms o : List Int} {i j sz : Nat} (hp : ord.Perm (upto m)) (hsz : sz ≤ ord.length) (h3 : 3 ≤ sz) (hi : i < sz) (hj : j = (i + 1) % sz) (hjl : j < ord.length) (hil : i < ord.length) (hs : ms.Sublist (ord.drop sz)) (ho : o.Perm ([ord[i], ord[j]] ++ ms)) (hl : o.Pairwise (· ≤ ·)) : OffOk m o := by
  have nd : ord.Nodup := hp.nodup_iff.mpr ((ints_strict m).imp fun h e => by omega)
  have jlt : j < sz := by
    rw [hj]
    exact Nat.mod_lt _ (by omega)
  have ij : i ≠ j := by
    rw [hj]
    by_cases e : i + 1 < sz
    · rw [Nat.mod_eq_of_lt e]
      omega
    · have : i + 1 = sz := by omega
      rw [this, Nat.mod_self]
      omega
  have nd2 : (ord.take sz ++ ord.drop sz).Nodup := by
    rw [List.take_append_drop]
    exact nd
  obtain ⟨_, _, disj⟩ := List.nodup_append.mp nd2
  have mt : ∀ (x : Nat) (hx : x < ord.length), x < sz → ord[x] ∈ ord.take sz := fun x hx hs => by
    have : (ord.take sz)[x]'(by rw [List.length_take]; omega) = ord[x] := List.getElem_take
    rw [← this]
    exact List.getElem_mem _
  have ndm : ms.Nodup := nd.sublist (hs.trans (List.drop_sublist _ _))
  have nms : ∀ (x : Nat) (hx : x < ord.length), x < sz → ord[x] ∉ ms := fun x hx hxs hm => disj _ (mt x hx hxs) _ (hs.subset hm) rfl
  have nda : ([ord[i], ord[j]] ++ ms).Nodup := by
    rw [List.cons_append, List.singleton_append, List.nodup_cons, List.nodup_cons, List.mem_cons]
    refine ⟨fun z => z.elim (fun z => ij ((List.getElem_inj nd).mp z)) (nms i hil hi), nms j hjl jlt, ndm⟩
  refine ⟨fun x hx => mem_ints.mp (hp.mem_iff.mp ?_), strict_of_le hl (ho.nodup_iff.mpr nda)⟩
  rcases List.mem_append.mp (ho.mem_iff.mp hx) with z | z
  · rcases List.mem_cons.mp z with z | z
    · rw [z]
      exact List.getElem_mem _
    · have e : x = ord[j] := by simpa using z
      rw [e]
      exact List.getElem_mem _
  · exact (hs.trans (List.drop_sublist _ _)).subset z
theorem DaAll.erase {K : PySem.W.Frag} {H : Hp} : ∀ {vs : List V} {ds : List PyData} (j : Nat), DaAll K H vs ds → DaAll K H (vs.eraseIdx j) (ds.eraseIdx j)
  | [], _, _, h => by
    cases h
    exact .nil
  | _ :: _, _, 0, h => by
    cases h with
    | cons h1 h2 => exact h2
  | _ :: _, _, j + 1, h => by
    cases h with
    | cons h1 h2 => exact .cons h1 (DaAll.erase j h2)
end
/-! from P13 -/
section
open PySem PySem.Spec PyProof.Rows L2
/-- _law_table(deck, demands, offers): a table -/
def spTable (K : PySem.W.Frag) : Sp := fun vs H Q _ => ∃ (d b c : Addr) (n : Int) (m k : Nat), vs = [.ref d, .int m, .int k] ∧ Dk d b c n H ∧ n < 2 ^ 39 ∧ 1 ≤ m ∧ m ≤ 10 ∧ k ≤ 10 ∧
  ∀ (v : V) (m' : Nat) (os : List (List Int)) (n' : Int) (H' : Hp), Dr d b c (n + 1003) H n' H' → 1 ≤ m' → m' ≤ m → os.length ≤ k → (∀ o ∈ os, OffOk m' o) → Da K (msk d b H') v (tabD m' os) → Q v H'
/-- the values of _law_odd -/
def oddL : List PyData := [.none, .bool true, .bool false, .int 0, .int 1, .int (-1), .int 2, .int 8, .int 16, .int (10 ^ 12), .int (10 ^ 12 + 1), .int (10 ^ 59), .str "", .str "0", .str "order", .tuple [], .tuple [.int 0],
  .tuple [.int 0, .int 1], .list [], .dict [], .list [.int 0], .tuple [.bool true], .tuple [.tuple []]]
def oddB (e : PyData) : Bool := okD e && decide (wt e ≤ 2100) && decide (e.depth ≤ 2) && (!e.hasDict || nl e)
theorem odd_all : oddL.all oddB = true := by decide +kernel
theorem odd_ok {e : PyData} (h : e ∈ oddL) : okD e = true ∧ wt e ≤ 2100 ∧ e.depth ≤ 2 ∧ (e.hasDict = true → nl e = true) := by
  have q := List.all_eq_true.mp odd_all e h
  simp only [oddB, Bool.and_eq_true, decide_eq_true_eq, Bool.or_eq_true, Bool.not_eq_true'] at q
  exact ⟨q.1.1.1, q.1.1.2, q.1.2, fun z => q.2.elim (fun y => by rw [z] at y; cases y) id⟩
/-- the deck, and addresses S (the deck's two lists among them) that are tracked and left out of all data -/
structure Ck (S : List Addr) (d b c : Addr) (n : Int) (H : Hp) : Prop where
  dk : Dk d b c n H
  hd : d ∈ S
  hb : b ∈ S
  tr : ∀ s ∈ S, ∃ o, H s = some o
theorem Ck.same {S : List Addr} {d b c : Addr} {n : Int} {H H' : Hp} (h : Ck S d b c n H) (s : Same H H') : Ck S d b c n H' := ⟨h.dk.same s, h.hd, h.hb, fun x hx => (h.tr x hx).elim fun o e => ⟨o, s _ _ e⟩⟩
theorem Ck.out {S : List Addr} {d b c p : Addr} {n : Int} {H : Hp} (h : Ck S d b c n H) (hp : H p = none) : p ∉ S := fun z => by
  obtain ⟨o, e⟩ := h.tr p z
  rw [hp] at e
  cases e
theorem Ck.dr {S : List Addr} {d b c : Addr} {n m n' : Int} {H H' : Hp} (h : Ck S d b c n H) (dr : Dr d b c m H n' H') : Ck S d b c n' H' := ⟨dr.dk, h.hd, h.hb, fun x hx => by
  by_cases e1 : x = d
  · rw [e1]
    exact ⟨_, dr.dk.at_d⟩
  · by_cases e2 : x = b
    · rw [e2]
      exact dr.dk.at_b.elim fun bs e => ⟨_, e⟩
    · obtain ⟨o, e⟩ := h.tr x hx
      exact ⟨o, (msk_some (dr.sm x o (by rw [msk_ne e1 e2]; exact e))).2.2⟩⟩
theorem Ck.sm {S : List Addr} {d b c : Addr} {n m n' : Int} {H H' : Hp} (h : Ck S d b c n H) (dr : Dr d b c m H n' H') : Same (hs S H) (hs S H') := hs_msk dr.sm h.hd h.hb
theorem Ck.two {d b c : Addr} {n : Int} {H : Hp} (h : Dk d b c n H) : Ck [d, b] d b c n H := ⟨h, by simp, by simp, fun s hs => by
  rcases List.mem_cons.mp hs with rfl | hs
  · exact ⟨_, h.at_d⟩
  · have e : s = b := by simpa using hs
    rw [e]
    exact h.at_b.elim fun bs e => ⟨_, e⟩⟩
theorem msk_hs {d b : Addr} {H : Hp} : msk d b H = hs [d, b] H := by
  funext a
  unfold msk hs
  simp
def spOdd (K : PySem.W.Frag) : Sp := fun vs H Q _ => ∃ (S : List Addr) (d b c : Addr) (n : Int), vs = [.ref d] ∧ Ck S d b c n H ∧ n < 2 ^ 50 ∧
  ∀ (v : V) (e : PyData) (n' : Int) (H' : Hp), e ∈ oddL → Dr d b c (n + 1) H n' H' → Da K (hs S H') v e → Q v H'
def oddA (t1 t2 : Addr) : List V := [V.non, V.bl true, V.bl false, V.int 0, V.int 1, V.int (-1), V.int 2, V.int 8, V.int 16, V.int (10 ^ Int.toNat 12), V.int (10 ^ Int.toNat 12 + 1), V.int (10 ^ Int.toNat 59), V.str "", V.str "0", V.str "order", V.ref t1, V.ref t2]
theorem q_asgP {te : TE} {σ : L2.St} {H : Hp} {D : Ends} {tz : TS} {i : Nat} (P : V → Hp → Prop) (h : Ew te σ H P) (k : ∀ v H', P v H' → tz D (σ.set i (some v)) H') : tSeq (tAsg te (gName i)) tz D σ H := h _ k
/-- o stands at p, apart from the deck and from S -/
structure Nw (S : List Addr) (d b c : Addr) (H : Hp) (p : Addr) (o : HO) : Prop where
  at_p : H p = some o
  off : p ≠ d ∧ p ≠ b ∧ p ≠ c
  out : p ∉ S
section
variable {K : PySem.W.Frag} {S : List Addr} {d b c p : Addr} {n : Int} {H H' : Hp} {o : HO} {xs : List V}
theorem Nw.new (h : Ck S d b c n H) (hp : H p = none) : Nw S d b c (upd H p o) p o := ⟨upd_same, h.dk.off hp, h.out hp⟩
theorem Nw.mono (h : Nw S d b c H p o) (s : Same H H') : Nw S d b c H' p o := ⟨s _ _ h.at_p, h.off, h.out⟩
theorem Nw.tup (h : Nw S d b c H p (.tup xs)) : SqT K (hs S H) p xs := SqT.of (hs_at h.out h.at_p)
theorem Nw.lst (h : Nw S d b c H p (.lst xs)) : SqL K (hs S H) p xs := SqL.of (hs_at h.out h.at_p)
theorem Nw.emp (h : Nw S d b c H p (.dK [])) : Da K (hs S H) (.ref p) (.dict []) := .emp (hs_at h.out h.at_p)
end
end
/-! from P14 -/
section
open PySem PySem.Spec PyProof.Rows L2
/-! ### plain data: small ints and tuples -/
mutual
def pl : PyData → Bool
  | .int i => decide (i.natAbs ≤ 100)
  | .tuple xs => decide (xs.length ≤ 12) && plAll xs
  | _ => false
def plAll : List PyData → Bool
  | [] => true
  | x :: xs => pl x && plAll xs
end
theorem plAll_iff : ∀ {xs : List PyData}, plAll xs = true ↔ ∀ x ∈ xs, pl x = true
  | [] => ⟨fun _ _ h => absurd h List.not_mem_nil, fun _ => rfl⟩
  | x :: xs => by
    simp only [plAll, Bool.and_eq_true, List.mem_cons, plAll_iff (xs := xs)]
    exact ⟨fun h y hy => hy.elim (fun e => e ▸ h.1) (h.2 y), fun h => ⟨h x (.inl rfl), fun y hy => h y (.inr hy)⟩⟩
mutual
theorem pl_ok : ∀ e : PyData, pl e = true → okD e = true ∧ e.hasDict = false ∧ nl e = true
  | .int i, h => by
    have h1 : i.natAbs ≤ 100 := by simpa only [pl, decide_eq_true_eq] using h
    refine ⟨?_, rfl, rfl⟩
    simp only [okD, decide_eq_true_eq]
    exact Nat.lt_of_le_of_lt h1 (by decide +kernel)
  | .tuple xs, h => by
    simp only [pl, Bool.and_eq_true, decide_eq_true_eq] at h
    obtain ⟨h1, h2, h3⟩ := pl_all xs h.2
    refine ⟨?_, ?_, ?_⟩
    · simp only [okD, h1, Bool.and_true, decide_eq_true_eq]
      omega
    · simpa only [PyData.hasDict] using h2
    · simpa only [nl] using h3
  | .none, h => by cases h
  | .bool _, h => by cases h
  | .str _, h => by cases h
  | .list _, h => by cases h
  | .dict _, h => by cases h
theorem pl_all : ∀ xs : List PyData, plAll xs = true → okAll xs = true ∧ PyData.hasDictAll xs = false ∧ nlAll xs = true
  | [], _ => ⟨rfl, rfl, rfl⟩
  | x :: xs, h => by
    simp only [plAll, Bool.and_eq_true] at h
    obtain ⟨h1, h2, h3⟩ := pl_ok x h.1
    obtain ⟨h4, h5, h6⟩ := pl_all xs h.2
    exact ⟨by simp only [okAll, h1, h4, Bool.and_self], by simp only [PyData.hasDictAll, h2, h5, Bool.or_self], by simp only [nlAll, h3, h6, Bool.and_self]⟩
end
theorem wtAll_append : ∀ xs ys : List PyData, wtAll (xs ++ ys) = wtAll xs + wtAll ys
  | [], ys => by simp [wtAll]
  | x :: xs, ys => by
    rw [List.cons_append]
    simp only [wtAll, wtAll_append xs ys]
    omega
theorem wtAll_sub {ys xs : List PyData} (h : ys.Sublist xs) : wtAll ys ≤ wtAll xs := by
  induction h with
  | slnil => exact Nat.le_refl _
  | cons a _ ih =>
    simp only [wtAll]
    omega
  | cons_cons a _ ih =>
    simp only [wtAll]
    omega
theorem wtAll_rev : ∀ xs : List PyData, wtAll xs.reverse = wtAll xs
  | [] => rfl
  | x :: xs => by
    rw [List.reverse_cons, wtAll_append, wtAll_rev xs]
    simp only [wtAll]
    omega
theorem mem_depth : ∀ {xs : List PyData} {x : PyData}, x ∈ xs → x.depth ≤ PyData.depthAll xs
  | [], _, h => absurd h List.not_mem_nil
  | y :: ys, x, h => by
    simp only [PyData.depthAll]
    rcases List.mem_cons.mp h with rfl | h
    · omega
    · have := mem_depth h
      omega
theorem hasDictAll_append : ∀ xs ys : List PyData, PyData.hasDictAll (xs ++ ys) = (PyData.hasDictAll xs || PyData.hasDictAll ys)
  | [], ys => by simp [PyData.hasDictAll]
  | x :: xs, ys => by
    rw [List.cons_append]
    simp only [PyData.hasDictAll, hasDictAll_append xs ys, Bool.or_assoc]
theorem nlAll_append : ∀ xs ys : List PyData, nlAll (xs ++ ys) = (nlAll xs && nlAll ys)
  | [], ys => by simp [nlAll]
  | x :: xs, ys => by
    rw [List.cons_append]
    simp only [nlAll, nlAll_append xs ys, Bool.and_assoc]
/-- what _law_bent makes of e -/
structure Bnt (e e' : PyData) : Prop where
  ok : okD e' = true
  w : wt e' ≤ 2 * wt e + 2200
  dp : e'.depth ≤ e.depth + 2
  nd : e'.hasDict = true → nl e' = true
theorem bnt_odd {e e' : PyData} (h : e' ∈ oddL) : Bnt e e' := by
  obtain ⟨h1, h2, h3, h4⟩ := odd_ok h
  exact ⟨h1, by omega, by omega, h4⟩
theorem bnt_seq {xs ys : List PyData} (hx : plAll xs = true) (hs : ∀ y ∈ ys, y ∈ xs) (hl : ys.length ≤ 60) (hw : wtAll ys ≤ 2 * wtAll xs) : Bnt (.tuple xs) (.tuple ys) ∧ Bnt (.tuple xs) (.list ys) := by
  have py : plAll ys = true := plAll_iff.mpr fun y hy => plAll_iff.mp hx y (hs y hy)
  obtain ⟨h1, h2, h3⟩ := pl_all ys py
  have hd : PyData.depthAll ys ≤ PyData.depthAll xs := depthAll_le fun y hy => mem_depth (hs y hy)
  refine ⟨⟨?_, ?_, ?_, fun z => ?_⟩, ⟨?_, ?_, ?_, fun z => ?_⟩⟩
  · simp only [okD, h1, Bool.and_true, decide_eq_true_eq]
    exact hl
  · simp only [wt]
    omega
  · simp only [PyData.depth]
    omega
  · simpa only [nl] using h3
  · simp only [okD, h1, Bool.and_true, decide_eq_true_eq]
    exact hl
  · simp only [wt]
    omega
  · simp only [PyData.depth]
    omega
  · simp only [PyData.hasDict, h2] at z
    cases z
theorem bnt_mid {a r : List PyData} {x y : PyData} (hp : plAll (a ++ x :: r) = true) (hl : (a ++ x :: r).length ≤ 12) (h : Bnt x y) : Bnt (.tuple (a ++ x :: r)) (.tuple (a ++ y :: r)) := by
  have hp' := plAll_iff.mp hp
  have pa : plAll a = true := plAll_iff.mpr fun z hz => hp' z (List.mem_append_left _ hz)
  have pr : plAll r = true := plAll_iff.mpr fun z hz => hp' z (List.mem_append_right _ (List.mem_cons_of_mem _ hz))
  obtain ⟨a1, a2, a3⟩ := pl_all a pa
  obtain ⟨r1, r2, r3⟩ := pl_all r pr
  have okA : okAll (a ++ y :: r) = true := okAll_iff.mpr fun z hz => by
    rcases List.mem_append.mp hz with hz | hz
    · exact okAll_iff.mp a1 z hz
    · rcases List.mem_cons.mp hz with rfl | hz
      · exact h.ok
      · exact okAll_iff.mp r1 z hz
  refine ⟨?_, ?_, ?_, fun z => ?_⟩
  · simp only [okD, okA, Bool.and_true, decide_eq_true_eq]
    rw [List.length_append, List.length_cons] at hl ⊢
    omega
  · have := h.w
    simp only [wt, wtAll_append, wtAll]
    omega
  · simp only [PyData.depth]
    have hx := mem_depth (xs := a ++ x :: r) (x := x) (List.mem_append_right _ List.mem_cons_self)
    have q : PyData.depthAll (a ++ y :: r) ≤ PyData.depthAll (a ++ x :: r) + 2 := depthAll_le fun z hz => by
      rcases List.mem_append.mp hz with hz | hz
      · have := mem_depth (xs := a ++ x :: r) (x := z) (List.mem_append_left _ hz)
        omega
      · rcases List.mem_cons.mp hz with rfl | hz
        · have := h.dp
          omega
        · have := mem_depth (xs := a ++ x :: r) (x := z) (List.mem_append_right _ (List.mem_cons_of_mem _ hz))
          omega
    omega
  · simp only [PyData.hasDict, hasDictAll_append, PyData.hasDictAll, a2, r2, Bool.false_or, Bool.or_false] at z
    simp only [nl, nlAll_append, nlAll, a3, r3, h.nd z, Bool.and_self]
theorem str_small : ∀ k : Fin 201, okD (.str (Str.ofString (toString ((k.val : Int) - 100)))) = true := by decide +kernel
theorem bnt_int {i : Int} (h : i.natAbs ≤ 100) : Bnt (.int i) (.int (i + 1)) ∧ Bnt (.int i) (.int (i - 1)) ∧ Bnt (.int i) (.str (Str.ofString (toString i))) ∧ (∀ b, Bnt (.int i) (.bool b)) ∧ Bnt (.int i) (.int 0) := by
  have big : (102 : Nat) < 10 ^ 80 := by decide +kernel
  refine ⟨⟨?_, by simp [wt], by simp [PyData.depth], fun z => by cases z⟩, ⟨?_, by simp [wt], by simp [PyData.depth], fun z => by cases z⟩, ⟨?_, by simp [wt], by simp [PyData.depth], fun z => by cases z⟩, fun b => ⟨rfl, by simp [wt], by simp [PyData.depth], fun z => by cases z⟩, ⟨rfl, by simp [wt], by simp [PyData.depth], fun z => by cases z⟩⟩
  · simp only [okD, decide_eq_true_eq]
    omega
  · simp only [okD, decide_eq_true_eq]
    omega
  · have q := str_small ⟨(i + 100).toNat, by omega⟩
    have e : (((i + 100).toNat : Nat) : Int) - 100 = i := by omega
    rw [e] at q
    exact q
/-! ### cuts of any list -/
def cutG {α : Type} (xs : List α) (lo hi : Option Int) : List α := (xs.drop (HT.sIx xs.length 0 lo)).take (HT.sIx xs.length xs.length hi - HT.sIx xs.length 0 lo)
theorem cutG_sub {α : Type} (xs : List α) (lo hi : Option Int) : (cutG xs lo hi).Sublist xs := (List.take_sublist _ _).trans (List.drop_sublist _ _)
theorem DaAll.cut {K : PySem.W.Frag} {H : Hp} {vs : List V} {ds : List PyData} (h : DaAll K H vs ds) (lo hi : Option Int) : DaAll K H (cutV vs lo hi) (cutG ds lo hi) := by
  unfold cutV cutG
  rw [DaAll.len h]
  exact (h.drop _).take _
theorem cutG_take {α : Type} {xs : List α} {j : Nat} (h : j ≤ xs.length) : cutG xs none (some (j : Int)) = xs.take j := by
  unfold cutG
  rw [HT.sIx_nat, HT.sIx_none, Nat.min_eq_left h, List.drop_zero, Nat.sub_zero]
theorem cutG_drop {α : Type} {xs : List α} {j : Nat} (h : j ≤ xs.length) : cutG xs (some (j : Int)) none = xs.drop j := by
  unfold cutG
  rw [HT.sIx_nat, HT.sIx_none, Nat.min_eq_left h]
  exact List.take_of_length_le (by rw [List.length_drop]; omega)
theorem catA_hs {K : PySem.W.Frag} {S : List Addr} {d b c a a2 : Addr} {n : Int} {H : Hp} {xs ys : List V} {Q : VK} (hC : Ck S d b c n H) (h : SqT K (hs S H) a xs) (h2 : SqT K (hs S H) a2 ys) (hl : xs.length + ys.length ≤ 1000)
    (k : ∀ (p : Addr) (H' : Hp), Same H H' → SqT K (hs S H') p (xs ++ ys) → Q (.ref p) H') : rCatA K (.ref a) (.ref a2) H Q := by
  refine ⟨a, a2, xs, ys, rfl, rfl, Same.tq hs_sub h, Same.tq hs_sub h2, Pb.sz hl, fun e => ?_, fun _ e => ?_, fun _ _ p hp => k p _ (same_upd hp) (SqT.of (hs_at (hC.out hp) upd_same))⟩
  · refine k a2 H (Same.refl _) ?_
    rw [e]
    exact h2
  · refine k a H (Same.refl _) ?_
    rw [e, List.append_nil]
    exact h
theorem slA_hs {K : PySem.W.Frag} {S : List Addr} {d b c a : Addr} {n : Int} {H : Hp} {xs : List V} {lo hi : Option Int} {Q : VK} (hC : Ck S d b c n H) (h : SqT K (hs S H) a xs) (k : ∀ (p : Addr) (H' : Hp), Same H H' → SqT K (hs S H') p (cutV xs lo hi) → Q (.ref p) H') : rSlA K (.ref a) lo hi H Q := by
  refine ⟨a, xs, rfl, Same.tq hs_sub h, fun w => k a H (Same.refl _) ?_, fun _ p hp => k p _ (same_upd hp) (SqT.of (hs_at (hC.out hp) upd_same))⟩
  rw [cut_whole w]
  exact h
/-- _law_bent(deck, thing, deep), deep below δ -/
def spBent (K : PySem.W.Frag) (δ : Nat) : Sp := fun vs H Q _ => ∃ (S : List Addr) (d b c : Addr) (n : Int) (x : V) (e : PyData) (deep : Nat), vs = [.ref d, x, .int deep] ∧ Ck S d b c n H ∧ n + 10 * deep < 2 ^ 40 ∧ deep < δ ∧ δ ≤ 10 ∧ pl e = true ∧ Da K (hs S H) x e ∧
  ∀ (v : V) (e' : PyData) (n' : Int) (H' : Hp), Bnt e e' → Dr d b c (n + 4 * deep + 4) H n' H' → Da K (hs S H') v e' → Q v H'
end
/-! from P15 -/
section
open PySem PySem.Spec PyProof.Rows L2
/-- [..][_law_next(deck, N)] of a list that stands at l -/
theorem pick {K : PySem.W.Frag} {S : List Addr} {d b c l : Addr} {n' N0 : Int} {N : Int} {H H' : Hp} {xs : List V} {ds : List PyData} {R : PyData → Prop} {Q : VK} (all : DaAll K (hs S H') xs ds) (good : ∀ y ∈ ds, R y) (hd : d ∈ S) (hb : b ∈ S) (dr : Dr d b c N0 H n' H') (w : Nw S d b c H' l (.lst xs))
    (hn : n' < 2 ^ 60) (h0 : 0 < N) (h1 : N < 1073741824) (hl : N = ds.length) (q : ∀ v e n2 H2, R e → Dr d b c (N0 + 1) H n2 H2 → Da K (hs S H2) v e → Q v H2) :
    spNext [.ref d, .int N] H' (fun y H2 => rIxL K (.ref l) y H2 Q) E0 := by
  refine ⟨d, b, c, n', N, rfl, dr.dk, hn, h0, h1, fun v n2 H2 v0 v1 dr2 => ?_⟩
  obtain ⟨j, rfl⟩ : ∃ j : Nat, v = (j : Int) := ⟨v.toNat, by omega⟩
  have xl := DaAll.len all
  have hj : j < xs.length := by omega
  obtain ⟨e, he, hxe⟩ := DaAll.get all (List.getElem?_eq_getElem hj)
  exact ⟨l, xs, _, xs[j], rfl, rfl, SqL.of (dr2.at w.off w.at_p), atI_nat (List.getElem?_eq_getElem hj), q _ e n2 H2 (good e (List.mem_of_getElem? he)) (dr.step dr2) (hxe.mono (hs_msk dr2.sm hd hb))⟩
end
/-! from P16 -/
section
open PySem PySem.Spec PyProof.Rows L2
/-! ### the law's own call: nothing is being shown there -/
section
variable {P : Program} {w : World} {K : PySem.W.Frag} {mg : Str → Option Value} {base : Heap}
/-- what FnOk says, of a call where nothing is being shown -/
def RunG (P : Program) (w : World) (K : PySem.W.Frag) (mg : Str → Option Value) (base : Heap) (k : Nat) (f : Addr) (fd : FuncData) (ps : List Str) (sp : Sp) : Prop :=
  ∀ (A : Around) (fr : List Env) (t : Shared) (H : Hp) (ar : Args) (us : List Value) (vs : List V) (Q : VK), A.guards = some [] → Room k A → Env0 P w K mg base A fr t H → BindsTo t fd ar (ps.zip us) → Vals vs us → sp vs H Q E0 →
    codeAny (model P w) A (.call (.ref f) ar) (CR CX0 fr P w H t Q E0) t
theorem runG_of {x qual : Str} {st : Stmt} {f : Addr} {fd : FuncData} {N ps : List Str} {k : Nat} {sp : Sp} (F : Fun K x qual st f fd) (S : FnScope N ps (defScope st)) (len : ∀ vs H Q E, sp vs H Q E → vs.length = ps.length)
    (body : ∀ (cdv : Value) (A : Around) (fr : List Env) (t : Shared) (H : Hp) (vs : List V) (Q : VK), (A.deeper (envOfC qual (defScope st) t.heap.objs.size f cdv)).guards = some [] → Room k (A.deeper (envOfC qual (defScope st) t.heap.objs.size f cdv)) → sp vs H Q E0 →
      ∃ r, PSs (cxOf CX0 P w K mg base N qual (defScope st) f cdv A fr t H E0).nox (defBody st) r ∧ r { nx := fun _ H' => Q .non H', rt := Q } (start N vs) H) : RunG P w K mg base (k + 1) f fd ps sp := by
  obtain ⟨oc, od, kV, doc, pm, an, cdv, ct, osl, rfl, lk, hcd⟩ := F.ex
  intro A fr t H ar us vs Q hg hr e0 hb rv hsp
  have hlen := len _ _ _ _ hsp
  have hK : K.In t.heap := e0.mod.kin.keeps fun b o e => (e0.bs b o e).1
  have hlim : t.heap.NoLimit := e0.mod.nolimit.keeps fun b o e => (e0.bs b o e).1
  have kinds : ∀ y ∈ ps.zip us, (defScope st).names.lookup y.1 = some .local ∨ ((defScope st).names.lookup y.1 = some .cell ∧ ((cellsFrom (t.heap.objs.size + 1) (defScope st).names []).lookup y.1).isSome = true) := fun ⟨nm, u⟩ hy =>
    (S.par nm (List.of_mem_zip hy).1).elim .inl fun z => .inr ⟨z, PySem.W.cellsFrom_some _ _ _ (.inl z)⟩
  refine codeAny_call_function hr.depth (hK _ _ lk) rfl S.co S.gen rfl (PySem.W.codeRec_of hK hcd) (hb _ _ _ _ ?_)
  refine wpAny_newFunctionEnv_cells S.kind kinds fun env he t1 nf => ?_
  subst he
  refine ⟨hlim.keeps nf.toInCall.keep, codeAny_func ?_⟩
  obtain ⟨r, hr1, hr2⟩ := body cdv A fr t H vs Q (by rw [← hg]; rfl) (hr.deeper _) hsp
  have I0 : Inv (cxOf CX0 P w K mg base N qual (defScope st) f cdv A fr t H E0) [] (start N vs) H t1 := inv_start S hr.hd e0 hlen rv nf
  refine wpAny_mono (hr1.nox.run [] t1 (start N vs) H _ I0 hr2) (fun fl t2 h2 => ?_) fun _ _ z => z
  cases fl with
  | ret u =>
    obtain ⟨v, σ', H', J, rv', q⟩ := h2
    exact ⟨v, H', J.os, J.bare, J.base, J.hok, rv', q⟩
  | next =>
    obtain ⟨σ', H', J, q⟩ := h2
    exact ⟨.non, H', J.os, J.bare, J.base, J.hok, rfl, q⟩
  | brk => exact h2.elim fun _ z => z.elim fun _ y => y.2.elim
  | cont => exact h2.elim fun _ z => z.elim fun _ y => y.2.elim
end
/-- the law's call, from its promise where nothing is being shown -/
theorem law_runG {P : Program} {w : World} {K : PySem.W.Frag} {mg mb : Str → Option Value} {k : Nat} {fa a : Addr} {fd : FuncData} {x : Str} {sp : Sp} {t : Shared} {us : List Value} {ns : List Int}
    (hK : K.In t.heap) (gl : t.heap.Ns mainGlobals mg) (bl : t.heap.Ns builtinsNs mb) (bb : ∀ y : Str, y ≠ "__name__" → mb y = bootBuiltins y) (lim : t.heap.NoLimit) (gn : t.gens = #[])
    (hobj : t.heap.get? a = some { cls := .type "list", data := .seq us.toArray }) (hi : IntsAre us ns) (hz : ns.length ≤ sizeLine) (hr : Room k callerA)
    (F : ∀ base : Heap, K.In base → base.Ns mainGlobals mg → RunG P w K mg base k fa fd [x] sp) (hbind : ∀ (s : Shared) (u : Value), BindsTo s fd ⟨[u], []⟩ [(x, u)])
    (hsp : ∀ H : Hp, Only H → SqL K H a (ns.map V.int) → sp [.ref a] H (fun v _ => v = .bl true) E0) :
    codeAny (model P w) callerA (.call (.ref fa) ⟨[.ref a], []⟩) (fun r t' => r = .ok (.ret (.bool true)) ∧ OldK t.heap t'.heap ∧ t'.os = t.os ∧ AllBare t'.gens) t := by
  have rv := vals_ints hi
  have hlen := hi.length
  have main : ∀ H : Hp, Only H → SqL K H a (ns.map V.int) → HOk P w H t.heap → (∀ b, H b ≠ none → b = a) → (H a ≠ none → K.lookup a = none) →
      codeAny (model P w) callerA (.call (.ref fa) ⟨[.ref a], []⟩) (fun r t' => r = .ok (.ret (.bool true)) ∧ OldK t.heap t'.heap ∧ t'.os = t.os ∧ AllBare t'.gens) t := by
    intro H hO hS hok onlyA notK
    have keepB : ∀ {b : Addr} {ob : Obj}, t.heap.get? b = some ob → H b = none → (hidT t.heap H).get? b = some ob := fun e z => hidT_get e z
    have dictOut : ∀ {b : Addr} {ob : Obj} {es : Array DictEntry} {ep : Nat}, t.heap.get? b = some ob → ob.data = .dict es ep → H b = none := fun {b ob es ep} e dd => by
      cases z : H b with
      | none => rfl
      | some u =>
        obtain rfl : b = a := onlyA b (by rw [z]; simp)
        rw [hobj] at e
        cases e
        cases (show Data.seq us.toArray _ = Data.dict es ep from dd)
    have nsB : ∀ {b : Addr} {m : Str → Option Value}, t.heap.Ns b m → (hidT t.heap H).Ns b m := fun {b m} ⟨ob, es, ep, e, dd, rest⟩ => ⟨ob, es, ep, keepB e (dictOut e dd), dd, rest⟩
    have kB : K.In (hidT t.heap H) := fun b ob e => keepB (hK b ob e) (by
      cases z : H b with
      | none => rfl
      | some u =>
        obtain rfl : b = a := onlyA b (by rw [z]; simp)
        rw [notK (by rw [z]; simp)] at e
        cases e)
    have modB : Mod K mg (hidT t.heap H) := ⟨kB, nsB gl, ⟨mb, nsB bl, bb⟩, lim.elim fun mc z => ⟨mc, nsB z.1, z.2⟩⟩
    have env : Env0 P w K mg (hidT t.heap H) callerA [] t H := ⟨rfl, modB, fun b ob e => of_hidT e, Nat.le_of_eq (hidT_size _ _), trivial, fun b hb => absurd (show b ∈ ([] : List Addr) from hb) List.not_mem_nil, hok, .of_eq gn⟩
    refine codeAny_mono (F _ kB (nsB gl) callerA [] t H ⟨[.ref a], []⟩ [.ref a] [.ref a] _ rfl hr env (hbind t (.ref a)) (.cons rfl .nil) (hsp H hO hS)) fun r t' res => ?_
    cases r with
    | error e => exact res.elim
    | ok fl =>
      cases fl with
      | ret u =>
        obtain ⟨v, H', hos, hbare, un, hok', rel, veq⟩ := res
        obtain rfl : v = .bl true := veq
        obtain rfl : u = Value.bool true := rel
        refine ⟨rfl, OldK.of_keep fun b ob e => ?_, hos, hbare⟩
        cases z : H b with
        | none => exact un.keep b ob e z (fun y => absurd (show b ∈ ([] : List Addr) from y) List.not_mem_nil) List.not_mem_nil
        | some u =>
          rcases hO b with y | ⟨o1, xs, y⟩
          · rw [z] at y
            cases y
          · have e1 := (hok b _ y).1
            have e2 := (hok' b _ (un.frzs b o1 _ y)).1
            rw [e] at e1
            cases e1
            exact e2
      | next => exact res.elim
      | brk => exact res.elim
      | cont => exact res.elim
  cases hk : K.lookup a with
  | some ob =>
    have e := hK a ob hk
    rw [hobj] at e
    cases e
    exact main (fun _ => none) (fun _ => .inl rfl) (.inr ⟨_, us.toArray, _, hk, rfl, rfl, rfl, by rw [List.size_toArray, hlen]; exact hz, by simpa using rv⟩) (fun b u z => nomatch (show (none : Option HO) = some u from z)) (fun b z => absurd rfl z) fun z => absurd rfl z
  | none =>
    refine main (fun b => if b = a then some (.frz { cls := .type "list", data := .seq us.toArray } (.lst (ns.map V.int))) else none) (fun b => ?_) (.inl (.inr ⟨_, if_pos rfl⟩)) (fun b u z => ?_) (fun b z => Decidable.byContradiction fun nb => z (if_neg nb)) fun _ => hk
    · by_cases hb : b = a
      · exact .inr ⟨_, _, if_pos hb⟩
      · exact .inl (if_neg hb)
    · by_cases hb : b = a
      · cases (if_pos hb).symm.trans z
        subst hb
        exact ⟨hobj, by rw [List.length_map]; exact hz, us, _, rv, hobj⟩
      · cases (if_neg hb).symm.trans z
theorem walk_G {l : PySem.W.OpenLaw} {n k : Nat} {q : Program} {loose : List Str} {XP : (Str → Option Value) → Heap → Prop} {YP : World → Heap → Prop} {d : DefRec} {K : Params → PySem.W.Frag} {sp : World → Sp} {x : Str}
    (hn : l.most = some n) (hn2 : n ≤ sizeLine) (hdf : d.params.defaults = []) (hr : Room k callerA) (hY : ∀ (w : World) (h : Heap), YP w h → (K w.params).In h)
    (F : ∀ (w : World) (mg : Str → Option Value) (fa : Addr) (h : Heap), (K w.params).In h → h.Ns mainGlobals mg → mg d.name = some (.ref fa) →
      ∃ fd : FuncData, (∀ (s : Shared) (u : Value), BindsTo s fd ⟨[u], []⟩ [(x, u)]) ∧ ∀ base : Heap, (K w.params).In base → base.Ns mainGlobals mg → RunG l.prog w (K w.params) mg base k fa fd [x] (sp w))
    (hsp : ∀ (w : World) (H : Hp) (a : Addr) (ns : List Int), ns.length ≤ n → Only H → SqL (K w.params) H a (ns.map V.int) → sp w [.ref a] H (fun v _ => v = .bl true) E0) :
    PySem.W.WalkO q loose XP YP l.row.toRowW d [] (fun f vs => PySem.call f vs) := by
  refine Att.attach_call hn hdf fun w t0 t mg mb fa ob pm cd doc a us ns G Y _ _ _ hmg hobj hi hlen hg => ?_
  have hK := hY w _ Y
  obtain ⟨fd, hb, hF⟩ := F w mg fa _ hK G.T.g hmg
  exact law_runG hK G.T.g G.T.b G.T.builtins G.T.nolimit hg hobj hi (Nat.le_trans hlen hn2) hr hF hb fun H hO hS => hsp w H a ns hlen hO hS
end
/-! from P17 -/
section
open PySem PySem.Spec PyProof.Rows L2
/-! ### expressions that make data, the deck apart -/
section
variable (K : PySem.W.Frag) (S : List Addr) (d b c : Addr)
def EvE (te : TE) (σ : L2.St) (H : Hp) (e : PyData) : Prop := ∀ H1, Same H H1 → (∃ n, Ck S d b c n H1) → ∀ Q : VK, (∀ v H2, Same H1 H2 → Da K (hs S H2) v e → Q v H2) → te σ H1 Q
def EvEA (ta : TA) (σ : L2.St) (H : Hp) (es : List PyData) : Prop := ∀ H1, Same H H1 → (∃ n, Ck S d b c n H1) → ∀ Q : List V → Hp → Prop, (∀ vs H2, Same H1 H2 → DaAll K (hs S H2) vs es → Q vs H2) → ta σ H1 Q
/-- a new list -/
def EvLs (te : TE) (σ : L2.St) (H : Hp) (es : List PyData) : Prop := ∀ H1, Same H H1 → (∃ n, Ck S d b c n H1) → ∀ Q : VK, (∀ l vs H2, Same H1 H2 → Nw S d b c H2 l (.lst vs) → DaAll K (hs S H2) vs es → Q (.ref l) H2) → te σ H1 Q
end
section
variable {K : PySem.W.Frag} {S : List Addr} {d b c : Addr} {σ : L2.St} {H : Hp} {ta tb te : TE} {tr : TA} {e : PyData} {es fs : List PyData}
theorem ee_c {v : V} (h : ∀ H', Da K H' v e) : EvE K S d b c (tC v) σ H e := fun H1 _ _ Q q => q v H1 (Same.refl _) (h _)
theorem ee_int {i : Int} : EvE K S d b c (tC (.int i)) σ H (.int i) := ee_c fun _ => .int i
theorem ee_bl {x : Bool} : EvE K S d b c (tC (.bl x)) σ H (.bool x) := ee_c fun _ => .bl x
theorem ee_var {i : Nat} {v : V} (hv : σ[i]? = some (some v)) (h : Da K (hs S H) v e) : EvE K S d b c (tVar i) σ H e := fun H1 s _ Q q => ⟨v, hv, q v H1 (Same.refl _) (h.mono (hs_mono s))⟩
theorem ea_nil' : EvEA K S d b c tNil σ H [] := fun H1 _ _ Q q => q [] H1 (Same.refl _) .nil
theorem ea_cons' (h : EvE K S d b c te σ H e) (hr : EvEA K S d b c tr σ H es) : EvEA K S d b c (tCons te tr) σ H (e :: es) := fun H1 s dk Q q =>
  h H1 s dk _ fun v H2 s2 hv => hr H2 (s.trans s2) (dk.elim fun n z => ⟨n, z.same s2⟩) _ fun vs H3 s3 hvs => q (v :: vs) H3 (s2.trans s3) (.cons (hv.mono (hs_mono s3)) hvs)
theorem ee_tup (h : EvEA K S d b c tr σ H es) (hl : es.length ≤ 1000) : EvE K S d b c (tTup tr) σ H (.tuple es) := fun H1 s dk Q q =>
  h H1 s dk _ fun vs H2 s2 hvs => ⟨sz (by rw [DaAll.len hvs]; exact hl), fun p hp => by
    obtain ⟨n, z⟩ := dk
    exact q _ _ (s2.trans (same_upd hp)) (.tup (SqT.of (hs_at ((z.same s2).out hp) upd_same)) (hvs.mono (hs_mono (same_upd hp))))⟩
theorem el_lst' (h : EvEA K S d b c tr σ H es) (hl : es.length ≤ 1000) : EvLs K S d b c (tLst tr) σ H es := fun H1 s dk Q q =>
  h H1 s dk _ fun vs H2 s2 hvs => ⟨sz (by rw [DaAll.len hvs]; exact hl), fun p hp => by
    obtain ⟨n, z⟩ := dk
    exact q p vs _ (s2.trans (same_upd hp)) (Nw.new (z.same s2) hp) (hvs.mono (hs_mono (same_upd hp)))⟩
theorem ee_lst (h : EvEA K S d b c tr σ H es) (hl : es.length ≤ 1000) : EvE K S d b c (tLst tr) σ H (.list es) := fun H1 s dk Q q =>
  el_lst' h hl H1 s dk Q fun l vs H2 s2 w hvs => q _ H2 s2 (.lst w.lst hvs)
theorem ee_listof (h : EvE K S d b c te σ H (.tuple es)) : EvE K S d b c (tCB (fun xs H Q => ∃ p ys, xs = [.ref p] ∧ (SqL K H p ys ∨ SqT K H p ys) ∧ ∀ l, H l = none → Q (.ref l) (upd H l (.lst ys))) (tCons te tNil)) σ H (.list es) := fun H1 s dk Q q =>
  h H1 s dk _ fun v H2 s2 hv => by
    cases hv with
    | @tup a xs _ hq ha =>
      obtain ⟨n, z⟩ := dk
      exact ⟨a, xs, rfl, .inr (Same.tq hs_sub hq), fun l hl => q _ _ (s2.trans (same_upd hl)) (.lst (SqL.of (hs_at ((z.same s2).out hl) upd_same)) (ha.mono (hs_mono (same_upd hl))))⟩
theorem ee_cat (h1 : EvE K S d b c ta σ H (.tuple es)) (h2 : EvE K S d b c tb σ H (.tuple fs)) (hl : es.length + fs.length ≤ 1000) : EvE K S d b c (tOp (rCatA K) ta tb) σ H (.tuple (es ++ fs)) := fun H1 s dk Q q =>
  h1 H1 s dk _ fun v H2 s2 hv => h2 H2 (s.trans s2) (dk.elim fun n z => ⟨n, z.same s2⟩) _ fun u H3 s3 hu => by
    obtain ⟨n, z⟩ := dk
    have hv3 := hv.mono (hs_mono (S := S) s3)
    cases hv3 with
    | @tup a xs _ hq ha =>
      cases hu with
      | @tup a2 ys _ hq2 ha2 =>
        refine catA_hs ((z.same s2).same s3) hq hq2 (by rw [DaAll.len ha, DaAll.len ha2]; exact hl) fun p H4 s4 hp => ?_
        exact q _ _ ((s2.trans s3).trans s4) (.tup hp ((ha.mono (hs_mono s4)).append (ha2.mono (hs_mono s4))))
theorem DaAll.rep {H : Hp} {vs : List V} (h : DaAll K H vs es) : ∀ m : Nat, DaAll K H (List.replicate m vs).flatten (List.replicate m es).flatten
  | 0 => .nil
  | m + 1 => by
    rw [List.replicate_succ, List.replicate_succ, List.flatten_cons, List.flatten_cons]
    exact h.append (DaAll.rep h m)
theorem ee_rep {k : Int} (h : EvE K S d b c ta σ H (.tuple es)) (h0 : es ≠ []) (h2 : 2 ≤ k) (h3 : k ≤ 1000) (hl : es.length ≤ 1000) : EvE K S d b c (tOp (rRepT K) ta (tC (.int k))) σ H (.tuple (List.replicate k.toNat es).flatten) := fun H1 s dk Q q =>
  h H1 s dk _ fun v H2 s2 hv => by
    obtain ⟨n, z⟩ := dk
    cases hv with
    | @tup a xs _ hq ha =>
      have hlen := DaAll.len ha
      refine ⟨a, k, xs, rfl, rfl, Same.tq hs_sub hq, fun e => h0 ?_, h2, h3, by omega, fun p hp => q _ _ (s2.trans (same_upd hp)) (.tup (SqT.of (hs_at ((z.same s2).out hp) upd_same)) ((ha.mono (hs_mono (same_upd hp))).rep _))⟩
      rw [e] at hlen
      exact List.eq_nil_of_length_eq_zero hlen.symm
theorem ee_upto {k : Int} (h : EvE K S d b c te σ H (.tuple es)) : EvE K S d b c (tSl (rSlA K) te tNoPart (tPart (tC (.int k)))) σ H (.tuple (cutG es none (some k))) := fun H1 s dk Q q =>
  h H1 s dk _ fun v H2 s2 hv => by
    obtain ⟨n, z⟩ := dk
    cases hv with
    | @tup a xs _ hq ha =>
      refine ⟨k, rfl, slA_hs (z.same s2) hq fun p H3 s3 hp => ?_⟩
      exact q _ _ (s2.trans s3) (.tup hp ((ha.mono (hs_mono s3)).cut _ _))
end
/-! ### good values -/
structure Gd (e : PyData) : Prop where
  ok : okD e = true
  w : wt e ≤ 1000000
  dp : e.depth ≤ 12
  nd : e.hasDict = true → nl e = true
/-- good items -/
structure GdL (L : List PyData) : Prop where
  ok : okAll L = true
  len : L.length ≤ 60
  w : wtAll L ≤ 100000
  dp : PyData.depthAll L ≤ 8
  nd : PyData.hasDictAll L = false
theorem gd_three {L : List PyData} {m : Int} (h : GdL L) (hm : m.natAbs ≤ 100) : Gd (.tuple [.int m, .tuple L]) ∧ Gd (.tuple [.int m, .list L]) ∧ Gd (.list [.int m, .tuple L]) := by
  have h1 : decide (m.natAbs < 10 ^ 80) = true := decide_eq_true (Nat.lt_of_le_of_lt hm (by decide +kernel))
  have h2 : decide (L.length ≤ 60) = true := decide_eq_true h.len
  have w := h.w
  have dp := h.dp
  have nd := h.nd
  refine ⟨⟨?_, ?_, ?_, fun z => ?_⟩, ⟨?_, ?_, ?_, fun z => ?_⟩, ⟨?_, ?_, ?_, fun z => ?_⟩⟩
  · simp only [okD, okAll, h.ok, h1, h2, Bool.and_self, Bool.and_true]
    exact decide_eq_true (by simp)
  · simp only [wt, wtAll]
    omega
  · simp only [PyData.depth, PyData.depthAll]
    omega
  · simp [PyData.hasDict, PyData.hasDictAll, nd] at z
  · simp only [okD, okAll, h.ok, h1, h2, Bool.and_self, Bool.and_true]
    exact decide_eq_true (by simp)
  · simp only [wt, wtAll]
    omega
  · simp only [PyData.depth, PyData.depthAll]
    omega
  · simp [PyData.hasDict, PyData.hasDictAll, nd] at z
  · simp only [okD, okAll, h.ok, h1, h2, Bool.and_self, Bool.and_true]
    exact decide_eq_true (by simp)
  · simp only [wt, wtAll]
    omega
  · simp only [PyData.depth, PyData.depthAll]
    omega
  · simp [PyData.hasDict, PyData.hasDictAll, nd] at z
theorem gd_odd {e : PyData} (h : e ∈ oddL) : Gd e := by
  obtain ⟨h1, h2, h3, h4⟩ := odd_ok h
  exact ⟨h1, by omega, by omega, h4⟩
/-! ### tables are plain -/
theorem pl_off {m : Nat} {o : List Int} (hm : m ≤ 10) (h : OffOk m o) : pl (offD o) = true ∧ wt (offD o) ≤ 999 ∧ (offD o).depth ≤ 1 := by
  have hl := h.len
  have all : plAll (o.map PyData.int) = true := plAll_iff.mpr fun x hx => by
    obtain ⟨i, hi, rfl⟩ := List.mem_map.mp hx
    have := h.1 i hi
    simp only [pl, decide_eq_true_eq]
    omega
  refine ⟨?_, ?_, ?_⟩
  · simp only [offD, pl, all, Bool.and_true, decide_eq_true_eq, List.length_map]
    omega
  · simp only [offD, wt]
    have := wtAll_le (n := 81) (xs := o.map PyData.int) fun x hx => by
      obtain ⟨i, hi, rfl⟩ := List.mem_map.mp hx
      exact Nat.le_refl _
    rw [List.length_map] at this
    omega
  · simp only [offD, PyData.depth, depth_ints]
    omega
theorem osD {m : Nat} {os : List (List Int)} (hm : m ≤ 10) (hl : os.length ≤ 10) (h : ∀ o ∈ os, OffOk m o) : plAll (os.map offD) = true ∧ wtAll (os.map offD) ≤ 10010 ∧ PyData.depthAll (os.map offD) ≤ 1 := by
  have f : ∀ x ∈ os.map offD, pl x = true ∧ wt x ≤ 999 ∧ x.depth ≤ 1 := fun x hx => by
    obtain ⟨o, ho, rfl⟩ := List.mem_map.mp hx
    exact pl_off hm (h o ho)
  refine ⟨plAll_iff.mpr fun x hx => (f x hx).1, ?_, depthAll_le fun x hx => (f x hx).2.2⟩
  have := wtAll_le (n := 999) (xs := os.map offD) fun x hx => (f x hx).2.1
  rw [List.length_map] at this
  omega
theorem gdl_pl {L : List PyData} (h : plAll L = true) (hl : L.length ≤ 60) (hw : wtAll L ≤ 100000) (hd : PyData.depthAll L ≤ 8) : GdL L := ⟨(pl_all L h).1, hl, hw, hd, (pl_all L h).2.1⟩
theorem pl_tab {m : Nat} {os : List (List Int)} (hm : m ≤ 10) (hl : os.length ≤ 10) (h : ∀ o ∈ os, OffOk m o) : pl (tabD m os) = true ∧ wt (tabD m os) ≤ 20000 ∧ (tabD m os).depth ≤ 4 := by
  obtain ⟨h1, h2, h3⟩ := osD hm hl h
  refine ⟨?_, ?_, ?_⟩
  · simp only [tabD, pl, plAll, h1, Bool.and_true, Bool.and_eq_true, decide_eq_true_eq, List.length_map, List.length_cons, List.length_nil]
    omega
  · simp only [tabD, wt, wtAll]
    omega
  · simp only [tabD, PyData.depth, PyData.depthAll]
    omega
theorem gd_bent {e e' : PyData} (h : Bnt e e') (hw : wt e ≤ 20000) (hd : e.depth ≤ 4) : Gd e' := ⟨h.ok, by have := h.w; omega, by have := h.dp; omega, h.nd⟩
end
/-! from P18 -/
section
open PySem PySem.Spec PyProof.Rows L2
/-- the law: True -/
def spLaw (K : PySem.W.Frag) : Sp := fun vs H Q _ => ∃ (a : Addr) (ns : List Int), vs = [.ref a] ∧ SqL K H a (ns.map V.int) ∧ ns.length ≤ 63 ∧ ∀ H', Q (.bl true) H'
theorem q_asgE {K : PySem.W.Frag} {S : List Addr} {d b c : Addr} {te : TE} {σ : L2.St} {H : Hp} {D : Ends} {tz : TS} {i : Nat} {es : List PyData} (h : EvLs K S d b c te σ H es) (dk : ∃ n, Ck S d b c n H)
    (k : ∀ l vs H2, Same H H2 → Nw S d b c H2 l (.lst vs) → DaAll K (hs S H2) vs es → tz D (σ.set i (some (.ref l))) H2) : tSeq (tAsg te (gName i)) tz D σ H := h H (Same.refl _) dk _ k
end
/-! from P19 -/
section
open PySem PySem.Spec PyProof.Rows L2
/-- the def x of the text, as the top has left it -/
def Df (K : PySem.W.Frag) (mg : Str → Option Value) (x : Str) (st : Stmt) : Prop := ∃ (f : Addr) (fd : FuncData), Fun K x x st f fd ∧ mg x = some (.ref f)
theorem df_mk {K : PySem.W.Frag} {h : Heap} {mg : Str → Option Value} {x : Str} {st : Stmt} {f : Addr} {od an : Option Addr} {sl : Array (Option Value)} {oc kV dc pm cd ct : Value} (X : K.In h) (G : h.Ns mainGlobals mg) (a : PySem.W.nsIn K mainGlobals x = some (some (.ref f)))
    (l : K.lookup f = some ⟨oc, od, .func (PySem.W.fnOf x x (defArgs st) (defBody st) (defScope st) .none kV dc pm an cd ct), sl⟩) (c : PySem.W.codeIn K cd x = true) (k : PySem.W.keepIn K (.ref f) = true) : Df K mg x st := ⟨f, _, fun_mk (st := st) l c k, PySem.W.mg_of X G a⟩
theorem ct_mk {K : PySem.W.Frag} {h : Heap} {mg : Str → Option Value} {x : Str} {v : Value} {i : Int} (X : K.In h) (G : h.Ns mainGlobals mg) (a : PySem.W.nsIn K mainGlobals x = some (some v)) (e : ∃ t, v = .int i t) : ∃ t, mg x = some (.int i t) := e.elim fun t z => ⟨t, z ▸ PySem.W.mg_of X G a⟩
theorem cl_mk {P : Program} {w : World} {K : PySem.W.Frag} {mg : Str → Option Value} {base : Heap} {x : Str} {st : Stmt} {f : Addr} {fd : FuncData} {ps : List Str} {sp : Sp} {k : Nat} (F : Fun K x x st f fd) (g : mg x = some (.ref f)) (b : Binds K fd ps []) (ok : FnOk P w K mg base CX0 k f fd ps sp) : Cl P w K mg base k x ps sp := ⟨f, fd, ok, g, F.kp, b⟩
end
end Pb

set_option Elab.async false
set_option linter.all false
set_option maxRecDepth 100000
namespace Pb
open PySem PySem.Spec PyProof.Rows L2
/-! ### what _law_same needs -/
/-- o[i], o a list or a tuple -/
def rIxA (K : PySem.W.Frag) : R2 := fun x y H Q => ∃ p xs i v, x = .ref p ∧ y = .int i ∧ (SqL K H p xs ∨ SqT K H p xs) ∧ atI xs i = some v ∧ Q v H
theorem ix_any {X : Cx} : IxR X (rIxA X.K) := fun va sl pins s σ H x y v u Q I rx ry ⟨p, xs, i, z, e1, e2, h, ha, q⟩ hs =>
  h.elim (fun h => ix_list va sl pins s σ H x y v u Q I rx ry ⟨p, xs, i, z, e1, e2, h, ha, q⟩ hs) (fun h => ix_tup va sl pins s σ H x y v u Q I rx ry ⟨p, xs, i, z, e1, e2, h, ha, q⟩ hs)
theorem ix_anyK {X : Cx} {K : PySem.W.Frag} (h : X.K = K) : IxR X (rIxA K) := h ▸ ix_any
section
variable {K : PySem.W.Frag} {σ : L2.St} {H : Hp} {ta tb : TE} {x : V} {d : PyData}
theorem Same.sq {H' : Hp} {a : Addr} {xs : List V} (s : Same H H') (h : SqL K H a xs ∨ SqT K H a xs) : SqL K H' a xs ∨ SqT K H' a xs := h.imp (Evl.ex_l s) (Evl.ex_t s)
theorem rv_ixA {p : Addr} {xs : List V} {i : Int} {v : V} (h : SqL K H p xs ∨ SqT K H p xs) (ha : atI xs i = some v) : Evl.RV (rIxA K) (.ref p) (.int i) H v := fun H1 e _ q =>
  ⟨p, xs, i, v, rfl, rfl, Same.sq e h, ha, q H1 (Evl.Ex.refl H1)⟩
theorem ev_isi2 {T U : String} (ha : Evl.Ev ta σ H x) (h : Da K H x d) (hT : T ∈ ["int", "bool", "tuple", "list", "dict", "str"] := by decide) (hU : U ∈ ["int", "bool", "tuple", "list", "dict", "str"] := by decide) :
    Evl.Ev (tCB (rIsiT K) (tCons ta (tCons (tTup (tCons (tC (.ty T)) (tCons (tC (.ty U)) tNil))) tNil))) σ H (.bl (isI T d || isI U d)) := fun H1 e Q q =>
  ha H1 e _ fun H2 e2 => ⟨Pb.sz (n := 2) (by decide), fun p hp => by
    have s3 : Same H2 (upd H2 p (.tup [.ty T, .ty U])) := same_upd hp
    refine ⟨x, p, [.ty T, .ty U], .type (tyN d), [.type T, .type U], isI T d || isI U d, rfl, upd_same, .cons (.ty _) (.cons (.ty _) .nil), (h.mono (Same.trans (Same.trans e e2) s3)).ty, ?_, q _ (e2.trans s3)⟩
    refine kitAny_cons (b := isI T d) (kit_ty (kit_isI T d hT)) (fun z => ?_) (fun z => by rw [z]; rfl)
    refine kitAny_cons (b := isI U d) (kit_ty (kit_isI U d hU)) (fun y => ?_) (fun y => by rw [y, Bool.or_true])
    rw [z, y]
    rfl⟩
theorem ev_isN (ha : Evl.Ev ta σ H x) : Evl.Ev (tOp (fun x y H Q => y = .non ∧ Q (.bl (decide (x = .non))) H) ta (tC .non)) σ H (.bl (decide (x = .non))) := fun H1 e Q q =>
  ha H1 e _ fun H2 e2 => ⟨rfl, q H2 e2⟩
/-- a new list against [] -/
theorem ev_eq0 {xs : List V} (ha : Evl.EvL ta σ H xs) : Evl.Ev (tOp (rEq0 K) ta (tLst tNil)) σ H (.bl xs.isEmpty) :=
  Evl.ev_opLL ha (Evl.el_lst Evl.ea_nil (by simp)) fun p q H1 h1 h2 _ H2 e _ k => ⟨p, q, xs, rfl, rfl, SqL.of (e _ _ h1), SqL.of (e _ _ h2), k H2 (Evl.Ex.refl _)⟩
end
/-- what two equal data give: True -/
def rSame (K : PySem.W.Frag) (δ : Nat) : List V → Hp → V → Prop := fun vs H z => ∃ x y e, vs = [x, y] ∧ Da K H x e ∧ Da K H y e ∧ e.depth < δ ∧ okD e = true ∧ e.hasDict = false ∧ z = .bl true
/-- a list or a tuple in the heap -/
theorem Da.seq {K : PySem.W.Frag} {H : Hp} {x : V} {e : PyData} (h : Da K H x e) (hs : (isI "tuple" e || isI "list" e) = true) : ∃ a xs es, x = .ref a ∧ (SqL K H a xs ∨ SqT K H a xs) ∧ DaAll K H xs es ∧ (e = .list es ∨ e = .tuple es) := by
  cases h with
  | lst h1 h2 => exact ⟨_, _, _, rfl, .inl h1, h2, .inl rfl⟩
  | tup h1 h2 => exact ⟨_, _, _, rfl, .inr h1, h2, .inr rfl⟩
  | non => simp [isI, isN, tyN] at hs
  | bl => simp [isI, isN, tyN] at hs
  | int => simp [isI, isN, tyN] at hs
  | str => simp [isI, isN, tyN] at hs
  | emp => simp [isI, isN, tyN] at hs
theorem seq_parts {e : PyData} {es : List PyData} {δ : Nat} (h : e = .list es ∨ e = .tuple es) (hd : e.depth < δ + 1) (hok : okD e = true) (hnd : e.hasDict = false) : es.length ≤ 60 ∧ ∀ x ∈ es, x.depth < δ ∧ okD x = true ∧ x.hasDict = false := by
  have key : es.length ≤ 60 ∧ okAll es = true ∧ PyData.depthAll es < δ ∧ PyData.hasDictAll es = false := by
    rcases h with rfl | rfl <;> simp only [okD, Bool.and_eq_true, decide_eq_true_eq, PyData.depth, PyData.hasDict] at hok hd hnd <;> exact ⟨hok.1, hok.2, by omega, hnd⟩
  refine ⟨key.1, fun x hx => ⟨?_, okAll_iff.mp key.2.1 x hx, ?_⟩⟩
  · have := mem_depth hx
    have := key.2.2.1
    omega
  · have z := key.2.2.2
    clear h hd hok hnd key
    induction es with
    | nil => exact absurd hx List.not_mem_nil
    | cons y es ih =>
      simp only [PyData.hasDictAll, Bool.or_eq_false_iff] at z
      rcases List.mem_cons.mp hx with rfl | hx
      · exact z.1
      · exact ih hx z.2
end Pb

set_option Elab.async false
set_option linter.all false
set_option maxRecDepth 100000
namespace Pb
open PySem PySem.Spec PyProof.Rows L2
/-! ### readings that give data, apart from the addresses S -/
/-- the addresses S are in use -/
def Tr (S : List Addr) (H : Hp) : Prop := ∀ s ∈ S, ∃ o, H s = some o
theorem Tr.same {S : List Addr} {H H' : Hp} (h : Tr S H) (s : Same H H') : Tr S H' := fun x hx => (h x hx).elim fun o e => ⟨o, s _ _ e⟩
theorem Tr.out {S : List Addr} {H : Hp} {p : Addr} (h : Tr S H) (hp : H p = none) : p ∉ S := fun z => by
  obtain ⟨o, e⟩ := h p z
  rw [hp] at e
  cases e
theorem Ck.tr' {S : List Addr} {d b c : Addr} {n : Int} {H : Hp} (h : Ck S d b c n H) : Tr S H := h.tr
def rTupOf (K : PySem.W.Frag) : List V → Hp → VK → Prop := fun xs H Q => ∃ p ys, xs = [.ref p] ∧ ((SqL K H p ys ∧ ∀ l, H l = none → Q (.ref l) (upd H l (.tup ys))) ∨ (SqT K H p ys ∧ Q (.ref p) H))
section
variable (K : PySem.W.Frag) (S : List Addr)
def EvD (te : TE) (σ : L2.St) (H : Hp) (e : PyData) : Prop := ∀ H1, Same H H1 → Tr S H1 → ∀ Q : VK, (∀ v H2, Same H1 H2 → Da K (hs S H2) v e → Q v H2) → te σ H1 Q
def EvDA (ta : TA) (σ : L2.St) (H : Hp) (es : List PyData) : Prop := ∀ H1, Same H H1 → Tr S H1 → ∀ Q : List V → Hp → Prop, (∀ vs H2, Same H1 H2 → DaAll K (hs S H2) vs es → Q vs H2) → ta σ H1 Q
/-- data in, data out -/
def spD (R : List PyData → PyData → Prop) : Sp := fun vs H Q _ => ∃ S ds e, Tr S H ∧ DaAll K (hs S H) vs ds ∧ R ds e ∧ ∀ v H', Same H H' → Da K (hs S H') v e → Q v H'
end
section
variable {K : PySem.W.Frag} {S : List Addr} {σ : L2.St} {H H' : Hp} {te tb : TE} {ta : TA} {v : V} {e : PyData} {es : List PyData}
theorem EvD.mono (h : EvD K S te σ H e) (s : Same H H') : EvD K S te σ H' e := fun H1 s1 tr Q q => h H1 (s.trans s1) tr Q q
theorem evd_ev (h : Evl.Ev te σ H v) (hd : Da K (hs S H) v e) : EvD K S te σ H e := fun H1 s1 _ Q q => h H1 s1 Q fun H2 s2 => q v H2 s2 (hd.mono (hs_mono (Same.trans s1 s2)))
theorem evd_var {i : Nat} (h : σ[i]? = some (some v)) (hd : Da K (hs S H) v e) : EvD K S (tVar i) σ H e := evd_ev (Evl.ev_var h) hd
theorem evd_int {i : Int} : EvD K S (tC (.int i)) σ H (.int i) := evd_ev Evl.ev_c (.int i)
theorem evd_bl {x : Bool} : EvD K S (tC (.bl x)) σ H (.bool x) := evd_ev Evl.ev_c (.bl x)
theorem evd_str {x : Str} : EvD K S (tC (.str x)) σ H (.str x) := evd_ev Evl.ev_c (.str x)
theorem eda_nil : EvDA K S tNil σ H [] := fun H1 _ _ Q q => q [] H1 (Same.refl _) .nil
theorem eda_cons {tr : TA} (h : EvD K S te σ H e) (hr : EvDA K S tr σ H es) : EvDA K S (tCons te tr) σ H (e :: es) := fun H1 s tr1 Q q =>
  h H1 s tr1 _ fun v H2 s2 hv => hr H2 (s.trans s2) (tr1.same s2) _ fun vs H3 s3 hvs => q (v :: vs) H3 (s2.trans s3) (.cons (hv.mono (hs_mono s3)) hvs)
theorem evd_tup (h : EvDA K S ta σ H es) (hl : es.length ≤ 1000) : EvD K S (tTup ta) σ H (.tuple es) := fun H1 s tr Q q =>
  h H1 s tr _ fun vs H2 s2 hvs => ⟨Pb.sz (by rw [DaAll.len hvs]; exact hl), fun p hp => q (.ref p) _ (s2.trans (same_upd hp)) (.tup (SqT.of (hs_at ((tr.same s2).out hp) upd_same)) (hvs.mono (hs_mono (same_upd hp))))⟩
theorem evd_lst (h : EvDA K S ta σ H es) (hl : es.length ≤ 1000) : EvD K S (tLst ta) σ H (.list es) := fun H1 s tr Q q =>
  h H1 s tr _ fun vs H2 s2 hvs => ⟨Pb.sz (by rw [DaAll.len hvs]; exact hl), fun p hp => q (.ref p) _ (s2.trans (same_upd hp)) (.lst (SqL.of (hs_at ((tr.same s2).out hp) upd_same)) (hvs.mono (hs_mono (same_upd hp))))⟩
theorem sqT_of_hs {a : Addr} {xs : List V} (h : SqT K (hs S H) a xs) : SqT K H a xs := Evl.ex_t (hs_sub (S := S)) h
theorem sqL_hs {a : Addr} {xs : List V} (h : SqL K (hs S H) a xs) : SqL K H a xs := Evl.ex_l (hs_sub (S := S)) h
theorem evd_tupof (h : EvD K S te σ H (.list es)) : EvD K S (tCB (rTupOf K) (tCons te tNil)) σ H (.tuple es) := fun H1 s tr Q q =>
  h H1 s tr _ fun v H2 s2 hv => by
    cases hv with
    | @lst a xs _ hs' hd => exact ⟨a, xs, rfl, .inl ⟨sqL_hs hs', fun p hp => q (.ref p) _ (s2.trans (same_upd hp)) (.tup (SqT.of (hs_at ((tr.same s2).out hp) upd_same)) (hd.mono (hs_mono (same_upd hp))))⟩⟩
theorem eu_tupof {xs : List V} (h : Evl.EvL te σ H xs) : Evl.EvU (tCB (rTupOf K) (tCons te tNil)) σ H xs := fun H1 s Q q =>
  h H1 s _ fun p H2 hp s2 h2 => ⟨p, xs, rfl, .inl ⟨SqL.of h2, fun l hl => q l _ (Evl.fresh_back s2 hl) (s2.trans (Evl.Ex.new hl)) upd_same⟩⟩
theorem evd_call {R : List PyData → PyData → Prop} {E : XK} (h : EvDA K S ta σ H es) (hR : R es e) : EvD K S (tCall (spD K R) [] E ta) σ H e := fun H1 s tr Q q =>
  h H1 s tr _ fun vs H2 s2 hvs => by
    show spD K R (vs ++ []) H2 Q E
    rw [List.append_nil]
    exact ⟨S, es, e, tr.same s2, hvs, hR, fun v H3 s3 hv => q v H3 (s2.trans s3) hv⟩
theorem ev_evd_int {i : Int} (tr : Tr S H) (h : EvD K S te σ H (.int i)) : Evl.Ev te σ H (.int i) := fun H1 s Q q => h H1 s (tr.same s) _ fun v H2 s2 hv => by
  cases hv
  exact q H2 s2
theorem ev_evd_bl {b : Bool} (tr : Tr S H) (h : EvD K S te σ H (.bool b)) : Evl.Ev te σ H (.bl b) := fun H1 s Q q => h H1 s (tr.same s) _ fun v H2 s2 hv => by
  cases hv
  exact q H2 s2
/-- statements -/
theorem q_asgD {D : Ends} {tz : TS} {i : Nat} (tr : Tr S H) (h : EvD K S te σ H e) (k : ∀ v H1, Same H H1 → Da K (hs S H1) v e → tz D (σ.set i (some v)) H1) : tSeq (tAsg te (gName i)) tz D σ H := h H (Same.refl _) tr _ k
theorem s_retD {D : Ends} (tr : Tr S H) (h : EvD K S te σ H e) (k : ∀ v H1, Same H H1 → Da K (hs S H1) v e → D.rt v H1) : tRet te D σ H := h H (Same.refl _) tr _ k
end
/-! ### enumerate of a tuple in a comprehension -/
theorem pg_tupK {X : Cx} {K : PySem.W.Frag} {pos : Pos} {es : List Expr} {k : Nat} {t : TGs} {n : Nat} (hK : X.K = K) (hc : X.calm = true) (h : PGs X es t)
    (hn : (assignEach es X.env).length = n := by rfl) (hst : (assignEach es X.env).findIdx? (·.1) = none := by rfl) : PG X (.Tuple es k pos) (gTup K n t) := hK ▸ pg_tup hc h hn hst
theorem op_in_seqK {X : Cx} {K : PySem.W.Frag} (h : X.K = K) : OpR X (compareOp .In) (rIn K false) := h ▸ op_in_seq
theorem walk_enumT {K : PySem.W.Frag} {a : Addr} {xs : List V} : Walk (IteT K a) xs.length (fun H => SqT K H a xs) (YPair (fun i => some (.int (i : Nat))) (fun i => xs[i]?)) :=
  ⟨fun i _ hi q => ⟨xs, xs[i], q, by simp [hi]⟩, fun _ q => ⟨xs, q, Nat.le_refl _⟩, fun i H v H' _ q ⟨T, x, h1, h2, h3, h4⟩ => ⟨T, .int (i : Nat), x, h1, h2, h3, rfl, h4 xs q⟩⟩
section
variable {K : PySem.W.Frag} {σ : L2.St} {H : Hp} {t : TT} {te : TE}
theorem el_lcE {a : Addr} {xs : List V} {ta : TA} {j1 j2 : Nat} {vs : List Nat} (f : Nat → Bool) (v : Nat → V) (h : Evl.EvA ta σ H [.ref a]) (hx : SqT K H a xs) (hz : xs.length ≤ 40000) (hw : ∀ x y, wipe (((wipe σ vs).set j1 (some x)).set j2 (some y)) vs = wipe σ vs)
    (ht : ∀ (i : Nat) (x : V) H1, Evl.Ex H H1 → xs[i]? = some x → Evl.EvT t (((wipe σ vs).set j1 (some (.int (i : Int)))).set j2 (some x)) H1 (f i)) (he : ∀ (i : Nat) (x : V) H1, Evl.Ex H H1 → xs[i]? = some x → f i = true → Evl.Ev te (((wipe σ vs).set j1 (some (.int (i : Int)))).set j2 (some x)) H1 (v i)) :
    Evl.EvL (tLc (iEnumT K ta) (gTup K 2 (gCons (gName j1) (gCons (gName j2) gNil))) t te vs) σ H (Evl.given xs.length f v) := fun H0 e Q q => h H0 e _ fun H1 e1 =>
  ⟨a, xs, rfl, Evl.ex_t (e.trans e1) hx, fun D hD => lc_it (walk_enumT (K := K) (a := a) (xs := xs)) (Evl.Cw H1 f v D) ⟨hD, Evl.Ex.new hD, upd_same⟩ (fun i H' _ p => Evl.ex_t ((e.trans e1).trans p.2.1) hx)
    (fun i x H' H'' hi p ⟨T, x1, x2, ex, hT, eH, e1', e2'⟩ => by
      subst ex eH
      cases e1'
      have sT : Same H' (upd H' T (.tup [.int (i : Nat), x2])) := same_upd hT
      refine ⟨T, _, rfl, SqT.of upd_same, rfl, .int (i : Nat), [x2], rfl, x2, [], rfl, rfl, hw _ _, ?_⟩
      have p' : Evl.Cw H1 f v D i (upd H' T (.tup [.int (i : Nat), x2])) := ⟨p.1, p.2.1.trans sT, sT _ _ p.2.2⟩
      exact Evl.cw_turn p' (by omega) (ht i x2 H1 (e.trans e1) e2') (fun hf => he i x2 H1 (e.trans e1) e2' hf))
    (fun H' p => q D H' (Evl.fresh_back e1 p.1) (e1.trans p.2.1) p.2.2)⟩
end
/-! ### comprehensions whose items are new data -/
theorem hs_cons_sub {D : Addr} {S : List Addr} {H : Hp} : Same (hs (D :: S) H) (hs S H) := fun a o e => by
  obtain ⟨h1, h2⟩ := hs_some e
  rw [hs_out (fun z => h1 (List.mem_cons_of_mem _ z))]
  exact h2
/-- D is new -/
theorem hs_cons_new {D : Addr} {S : List Addr} {H : Hp} {o : HO} (h : H D = none) : Same (hs S H) (hs (D :: S) (upd H D o)) := fun a u e => by
  obtain ⟨h1, h2⟩ := hs_some e
  have ne : a ≠ D := fun z => by
    rw [z, h] at h2
    cases h2
  rw [hs_out (by simp [ne, h1]), upd_ne ne]
  exact h2
section
variable {K : PySem.W.Frag} {S : List Addr} {σ : L2.St} {H : Hp} {te : TE} {ta : TA}
/-- [e for x in range(n)] -/
theorem evd_lcR {j : Nat} {vs : List Nat} {n : Nat} (f : Nat → PyData) (h : Evl.EvA ta σ H [.int (n : Int)]) (hn : n ≤ 900) (hw : ∀ x, wipe ((wipe σ vs).set j (some x)) vs = wipe σ vs)
    (he : ∀ (i : Nat) (D : Addr) H1, i < n → Same (hs S H) (hs (D :: S) H1) → EvD K (D :: S) te ((wipe σ vs).set j (some (.int (i : Int)))) H1 (f i)) :
    EvD K S (tLc (iRng1 ta) (gName j) tYes te vs) σ H (.list ((List.range n).map f)) := fun H0 s0 tr0 Q q => h H0 s0 _ fun H1 s1 =>
  ⟨n, rfl, by omega, by omega, fun D hD => lc_range (lo := 0) (n := ((n : Nat) : Int).toNat)
    (fun i H' => ∃ ds, H' D = some (.lst ds) ∧ DaAll K (hs (D :: S) H') ds ((List.range i).map f) ∧ Same (hs S H1) (hs (D :: S) H') ∧ (∀ a o, a ≠ D → H1 a = some o → H' a = some o))
    ⟨[], upd_same, .nil, hs_cons_new hD, fun a o hne e => by rw [upd_ne hne]; exact e⟩
    (fun i H' hi ⟨ds, e1, e2, e3, e4⟩ => by
      have hi' : i < n := by omega
      have e0 : (0 : Int) + (i : Int) = (i : Int) := Int.zero_add _
      show wipe ((wipe σ vs).set j (some (.int ((0 : Int) + (i : Int))))) vs = wipe σ vs ∧ tYes ((wipe σ vs).set j (some (.int ((0 : Int) + (i : Int))))) H' _
      rw [e0]
      refine ⟨hw _, ?_⟩
      dsimp only [tYes]
      refine iteT ?_
      have tr : Tr (D :: S) H' := fun x hx => by
        by_cases z : x = D
        · rw [z]
          exact ⟨_, e1⟩
        · have hx' : x ∈ S := by
            rcases List.mem_cons.mp hx with y | y
            · exact absurd y z
            · exact y
          obtain ⟨o, eo⟩ := tr0 x hx'
          exact ⟨o, e4 x o z (s1 _ _ eo)⟩
      refine he i D H' hi' (Same.trans (hs_mono (Same.trans s0 s1)) e3) H' (Same.refl _) tr _ fun v H2 s2 hv => ?_
      have el := DaAll.len e2
      simp only [List.length_map, List.length_range] at el
      refine ⟨ds, s2 _ _ e1, small1000 (by omega), ds ++ [v], upd_same, ?_, ?_, ?_⟩
      · rw [hs_put List.mem_cons_self, List.range_succ, List.map_append]
        exact (e2.mono (hs_mono s2)).append (.cons hv .nil)
      · rw [hs_put List.mem_cons_self]
        exact Same.trans e3 (hs_mono s2)
      · intro a o hne e
        rw [upd_ne hne]
        exact s2 _ _ (e4 a o hne e))
    (fun H' ⟨ds, e1, e2, e3, e4⟩ => by
      have s2 : Same H1 H' := fun a o e => e4 a o (fun z => by rw [z, hD] at e; cases e) e
      refine q (.ref D) H' (Same.trans s1 s2) (.lst (SqL.of (hs_at ((tr0.same s1).out hD) e1)) ?_)
      have z := e2.mono hs_cons_sub
      rwa [Int.toNat_natCast] at z)⟩
end
end Pb

set_option Elab.async false
set_option linter.all false
set_option maxRecDepth 100000
namespace Pb
open PySem PySem.Spec PyProof.Rows L2
/-! ### tables -/
/-- the offers that cover j -/
def cov (os : List (List Int)) (j : Int) : List Int := ((List.range os.length).filter fun k => decide (j ∈ os.getD k [])).map fun (k : Nat) => (k : Int)
/-- covering_offers -/
def rCov : List PyData → PyData → Prop := fun ds e => ∃ n os j, ds = [tabD n os, .int j] ∧ 0 ≤ j ∧ j < n ∧ os.length ≤ 100 ∧ e = offD (cov os j)
/-- a table in the heap -/
theorem tab_in {K : PySem.W.Frag} {H : Hp} {v : V} {n : Int} {os : List (List Int)} (h : Da K H v (tabD n os)) : ∃ t a rs, v = .ref t ∧ SqT K H t [.int n, .ref a] ∧ SqT K H a rs ∧ DaAll K H rs (os.map offD) := by
  unfold tabD at h
  cases h with
  | tup h1 h2 =>
    cases h2 with
    | cons h3 h4 =>
      cases h4 with
      | cons h5 h6 =>
        cases h6
        cases h3
        cases h5 with
        | tup h7 h8 => exact ⟨_, _, _, rfl, h1, h7, h8⟩
theorem off_in {K : PySem.W.Frag} {H : Hp} {v : V} {o : List Int} (h : Da K H v (offD o)) : ∃ a, v = .ref a ∧ SqT K H a (o.map V.int) := by
  unfold offD at h
  cases h with
  | @tup a xs _ h1 h2 =>
    have : xs = o.map V.int := by
      clear h1
      induction o generalizing xs with
      | nil =>
        cases h2
        rfl
      | cons i o ih =>
        cases h2 with
        | cons h3 h4 =>
          cases h3
          rw [ih h4]
          rfl
    subst this
    exact ⟨_, rfl, h1⟩
theorem all_flat (o : List Int) : (o.map V.int).all flatV = true := by
  induction o with
  | nil => rfl
  | cons i o ih => exact ih
theorem inV_ints (j : Int) (o : List Int) : inV (.int j) (o.map V.int) = decide (j ∈ o) := by
  induction o with
  | nil => rfl
  | cons i o ih =>
    have e : inV (.int j) ((i :: o).map V.int) = (eqV (.int i) (.int j) || inV (.int j) (o.map V.int)) := rfl
    rw [e, ih]
    have e2 : eqV (.int i) (.int j) = decide (i = j) := rfl
    rw [e2]
    by_cases h : i = j
    · simp [h]
    · have h' : ¬ j = i := fun z => h z.symm
      simp [h, h']
theorem getD_map_off {os : List (List Int)} {i : Nat} {d : PyData} (h : (os.map offD)[i]? = some d) : d = offD (os.getD i []) := by
  rw [List.getElem?_map] at h
  cases e : os[i]? with
  | none =>
    rw [e] at h
    cases h
  | some o =>
    rw [e] at h
    rw [List.getD_eq_getElem?_getD, e]
    exact (Option.some.inj h).symm
theorem da_offA {K : PySem.W.Frag} {H : Hp} {p : Addr} {o : List Int} (h : SqT K H p (o.map V.int)) : Da K H (.ref p) (offD o) := .tup h (DaAll.ints o)
end Pb

set_option Elab.async false
set_option linter.all false
set_option maxRecDepth 100000
namespace Pb
open PySem PySem.Spec PyProof.Rows L2
/-! ### own exception classes that nothing is written in -/
abbrev veT : List Value := [.type "ValueError", .type "Exception", .type "BaseException", .type "object"]
structure Ec0 (K : PySem.W.Frag) (mg : Str → Option Value) (x : Str) (C : Addr) : Prop where
  g : mg x = some (.ref C)
  x : PySem.W.excIn K C veT "ValueError.__new__" = true
  k : PySem.W.keepIn K (.ref C) = true
  b : PySem.W.subIn K (.ref C) (.type "BaseException") = some true
  t : PySem.W.typeIn K (.ref C) = some (.type "type")
theorem pmk_ec0 {X : Cx} {x : Str} {C : Addr} {p pos : Pos} (T : Ec0 X.K X.mg x C) (hg : Gl X x) (hdb : (x == ("__debug__" : Str)) = false := by decide) : PMk X (.Call (.Name x p) [] [] pos) (fun _ H Q => Q (.ref C) none H) :=
  pmk_own0 PySem.F.excBase_ValueError T.x T.g T.k (raises_own T.b T.t) hg hdb
/-- transposed -/
def trn (n : Nat) (os : List (List Int)) : List (List Int) := (List.range n).map fun j => cov os (j : Nat)
/-- transpose: NoOffers (at C) without offers -/
def spTrans (K : PySem.W.Frag) (C : Addr) : Sp := fun vs H Q E => ∃ (S : List Addr) (n : Nat) (os : List (List Int)), Tr S H ∧ DaAll K (hs S H) vs [tabD n os] ∧ n ≤ 100 ∧ os.length ≤ 100 ∧
  (os = [] → ∀ H', Same H H' → E (.ref C) none H') ∧ (os ≠ [] → ∀ v H', Same H H' → Da K (hs S H') v (tabD os.length (trn n os)) → Q v H')
end Pb

set_option Elab.async false
set_option linter.all false
set_option maxRecDepth 100000
namespace Pb
open PySem PySem.Spec PyProof.Rows L2
/-! ### the caught error's class asked for -/
def rIsEG (K : PySem.W.Frag) (a : Addr) (cls : Value) (d : Option Addr) : List V → Hp → VK → Prop := fun xs H Q => ∃ D C b, cls = .ref D ∧ d = none ∧ ExcC K D ∧ xs = [.ref a, .ref C] ∧ PySem.W.kitOne K (.ref D) (.ref C) = some b ∧ Q (.bl b) H
def rIsETG (K : PySem.W.Frag) (a : Addr) (cls : Value) (d : Option Addr) : List V → Hp → VK → Prop := fun xs H Q => ∃ (D tp : Addr) (cs : List V) (us : List Value) (b : Bool), cls = .ref D ∧ d = none ∧ ExcC K D ∧ xs = [.ref a, .ref tp] ∧ H tp = some (.tup cs) ∧ Paired ClsV cs us ∧ PySem.W.kitAny K (.ref D) us = some b ∧ Q (.bl b) H
section
variable {X : Cx} {a : Addr} {oe : Obj} {cls : Value} {d : Option Addr} {pn : List (Addr × Obj)}
theorem call_isEG (hz : Zc cls d oe) (hf : ∃ vs, oe.data = .fields vs) : CallR (X.suite a ((a, oe) :: pn)) (.builtin "isinstance") (rIsEG X.K a cls d) := by
  intro pins s σ H xs us Q I r ⟨D, C, b, e1, e2, xc, ex, e, q⟩
  subst e1 e2
  exact call_isE xc hz hf pins s σ H xs us Q I r ⟨.ref C, .ref C, b, ex, fun u h => h, e, q⟩
theorem call_isETG (hz : Zc cls d oe) (hf : ∃ vs, oe.data = .fields vs) : CallR (X.suite a ((a, oe) :: pn)) (.builtin "isinstance") (rIsETG X.K a cls d) := by
  intro pins s σ H xs us Q I r ⟨D, tp, cs, ws, b, e1, e2, xc, ex, hT, k, e, q⟩
  subst e1 e2
  exact call_isET xc hz hf pins s σ H xs us Q I r ⟨tp, cs, ws, b, ex, hT, k, e, q⟩
end
/-- what _law_told of the transposed tables gives -/
def toldT (n : Nat) (os : List (List Int)) : PyData := if os = [] then .str "none" else tabD os.length (trn n os)
def rTold : List PyData → PyData → Prop := fun ds e => ∃ (n : Nat) (os : List (List Int)), ds = [tabD n os] ∧ n ≤ 100 ∧ os.length ≤ 100 ∧ e = toldT n os
structure EcT (K : PySem.W.Frag) (mg : Str → Option Value) (O C C2 C3 : Addr) : Prop where
  gO : mg "OrderError" = some (.ref O)
  T : Ec0 K mg "NoOffers" C
  xc : ExcC K C
  em : PySem.W.exmOne K (.ref C) (.ref O) = some true
  g2 : mg "NoOffer" = some (.ref C2)
  g3 : mg "NoDemands" = some (.ref C3)
  k1 : PySem.W.kitOne K (.ref C) (.ref C) = some true
  k2 : PySem.W.kitAny K (.ref C) [.ref C2, .ref C3] = some false
/-- a def of the text that may raise -/
structure ClX (P : Program) (w : World) (K : PySem.W.Frag) (mg : Str → Option Value) (base : Heap) (k : Nat) (x : Str) (ps : List Str) (sp : Sp) : Prop where
  ex : ∃ (f : Addr) (fd : FuncData), FnOk P w K mg base (L2.CX P w) k f fd ps sp ∧ mg x = some (.ref f) ∧ PySem.W.keepIn K (.ref f) = true ∧ Binds K fd ps []
section
variable {X : Cx} {j k : Nat} {x : Str} {ps : List Str} {sp : Sp} {e : Expr} {es : List Expr} {t : TA} {p pos : Pos} {W : WX}
theorem pe_kx (c : ClX X.prog X.w X.K X.mg X.base k x ps sp) (hr : Room j X.A) (hk : k ≤ j) (tk : Takes X W) (hg : Gl X x) (ha : PA X (e :: es) t)
    (hdb : (x == ("__debug__" : Str)) = false := by decide) (he : starEach (e :: es) X.env = (false, eval e X.env) :: starEach es X.env := by rfl) (hpl : (backTo pos (starEach es X.env)).any (·.1) = false := by rfl) :
    PE X (.Call (.Name x p) (e :: es) [] pos) (tCallS sp (WE W) t) := by
  obtain ⟨f, fd, F, hm, kp, b⟩ := c.ex
  exact pe_callS F (hr.mono hk) hg hm kp b (fun σ => passAt tk σ) ha hdb he hpl
end
end Pb

set_option Elab.async false
set_option linter.all false
set_option maxRecDepth 100000
namespace Pb
open PySem PySem.Spec PyProof.Rows L2
/-! ### a list that grows in a loop -/
structure Gro (K : PySem.W.Frag) (S : List Addr) (fo : Addr) (H1 : Hp) (es : List PyData) (H' : Hp) : Prop where
  at_fo : ∃ ds, H' fo = some (.lst ds) ∧ DaAll K (hs (fo :: S) H') ds es
  old : ∀ a o, a ≠ fo → H1 a = some o → H' a = some o
  tr : Tr (fo :: S) H'
section
variable {K : PySem.W.Frag} {S : List Addr} {fo : Addr} {H H1 H' : Hp} {es : List PyData} {e : PyData} {te ta : TE} {σ : L2.St} {D : Ends} {i : Nat}
/-- the list just made -/
theorem Gro.new (tr : Tr S H) (hf : H fo = none) : Gro K S fo (upd H fo (.lst [])) [] (upd H fo (.lst [])) := ⟨⟨[], upd_same, .nil⟩, fun _ _ _ e => e, fun x hx => by
  rcases List.mem_cons.mp hx with rfl | hx
  · exact ⟨_, upd_same⟩
  · exact tr.same (same_upd hf) x hx⟩
theorem Gro.more {H2 : Hp} (g : Gro K S fo H1 es H') (s : Same H' H2) : Gro K S fo H1 es H2 := by
  obtain ⟨⟨ds, e1, e2⟩, old, tr⟩ := g
  exact ⟨⟨ds, s _ _ e1, e2.mono (hs_mono s)⟩, fun a o n e => s _ _ (old a o n e), tr.same s⟩
theorem Gro.sm (g : Gro K S fo H1 es H') : Same (hs (fo :: S) H1) (hs (fo :: S) H') := fun a o e => by
  obtain ⟨h1, h2⟩ := hs_some e
  exact hs_at h1 (g.old a o (fun z => h1 (by simp [z])) h2)
theorem s_appD (hi : σ[i]? = some (some (.ref fo))) (g : Gro K S fo H1 es H') (hl : es.length < 900) (h : EvD K (fo :: S) te σ H' e) (k : ∀ H2, Gro K S fo H1 (es ++ [e]) H2 → D.nx σ H2) : tDrop (tBM K "list" rAppend (tVar i) (tCons te tNil)) D σ H' := by
  obtain ⟨⟨ds, e1, e2⟩, old, tr⟩ := g
  refine s_appP (i := i) (fun v H2 => Same H' H2 ∧ Da K (hs (fo :: S) H2) v e) hi e1 (fun Q' q' => h H' (Same.refl _) tr _ fun v H2 s2 hv => q' v H2 ⟨s2, hv⟩) ?_
  rintro v H2 ⟨s2, hv⟩
  have ll := DaAll.len e2
  refine ⟨ds, s2 _ _ e1, small1000 (by omega), k _ ⟨⟨ds ++ [v], upd_same, ?_⟩, fun a o n e => ?_, fun x hx => ?_⟩⟩
  · rw [hs_put List.mem_cons_self]
    exact (e2.mono (hs_mono s2)).append (.cons hv .nil)
  · rw [upd_ne n]
    exact s2 _ _ (old a o n e)
  · by_cases z : x = fo
    · rw [z]
      exact ⟨_, upd_same⟩
    · rw [upd_ne z]
      exact tr.same s2 x hx
/-- it is data, at last -/
theorem Gro.da (g : Gro K S fo H1 es H') (hf : fo ∉ S) : Da K (hs S H') (.ref fo) (.list es) := by
  obtain ⟨⟨ds, e1, e2⟩, old, tr⟩ := g
  exact .lst (SqL.of (hs_at hf e1)) (e2.mono hs_cons_sub)
theorem Gro.trS (g : Gro K S fo H1 es H') : Tr S H' := fun x hx => g.tr x (List.mem_cons_of_mem _ hx)
/-- all that stood before the list was made still stands -/
theorem Gro.same (g : Gro K S fo (upd H fo (.lst [])) es H') (hf : H fo = none) : Same H H' := fun a o e => by
  have ne : a ≠ fo := fun z => by
    rw [z, hf] at e
    cases e
  exact g.old a o ne (by rw [upd_ne ne]; exact e)
theorem ev_eq0T {a : Addr} {xs : List V} (ha : Evl.Ev ta σ H (.ref a)) (hx : SqT K H a xs) : Evl.Ev (tOp (rEq0T K) ta (tTup tNil)) σ H (.bl xs.isEmpty) :=
  Evl.ev_opU ha (Evl.eu_tup Evl.ea_nil (by simp)) fun p H1 h1 e1 H2 e _ k => ⟨a, p, xs, rfl, rfl, Evl.ex_t (e1.trans e) hx, SqT.of (e _ _ h1), k H2 (Evl.Ex.refl _)⟩
end
end Pb

set_option Elab.async false
set_option linter.all false
set_option maxRecDepth 100000
namespace Pb
open PySem PySem.Spec PyProof.Rows L2
/-! ### transposed twice -/
theorem mem_cov {os : List (List Int)} {j x : Int} : x ∈ cov os j ↔ ∃ k : Nat, k < os.length ∧ x = (k : Int) ∧ j ∈ os.getD k [] := by
  unfold cov
  simp only [List.mem_map, List.mem_filter, List.mem_range, decide_eq_true_eq]
  constructor
  · rintro ⟨k, ⟨h1, h2⟩, rfl⟩
    exact ⟨k, h1, rfl, h2⟩
  · rintro ⟨k, h1, rfl, h2⟩
    exact ⟨k, ⟨h1, h2⟩, rfl⟩
theorem cov_asc (os : List (List Int)) (j : Int) : (cov os j).Pairwise (· < ·) := by
  unfold cov
  rw [List.pairwise_map]
  exact (List.Pairwise.filter _ List.pairwise_lt_range).imp fun h => by omega
theorem cov_ok (os : List (List Int)) (j : Int) : OffOk os.length (cov os j) := ⟨fun x hx => by
  obtain ⟨k, h1, rfl, _⟩ := mem_cov.mp hx
  omega, cov_asc os j⟩
theorem trn_ok {n : Nat} {os : List (List Int)} : ∀ o ∈ trn n os, OffOk os.length o := fun o ho => by
  unfold trn at ho
  obtain ⟨j, _, rfl⟩ := List.mem_map.mp ho
  exact cov_ok os _
theorem trn_len {n : Nat} {os : List (List Int)} : (trn n os).length = n := by
  unfold trn
  simp
theorem trn_get {n k : Nat} {os : List (List Int)} (h : k < n) : (trn n os).getD k [] = cov os (k : Nat) := by
  unfold trn
  rw [List.getD_eq_getElem?_getD, List.getElem?_map, List.getElem?_range h]
  rfl
theorem trn_trn {m : Nat} {os : List (List Int)} (h : ∀ o ∈ os, OffOk m o) : trn os.length (trn m os) = os := by
  refine List.ext_getElem (by rw [trn_len]) fun i h1 h2 => ?_
  have e1 : (trn os.length (trn m os))[i] = cov (trn m os) (i : Nat) := by
    have z := trn_get (os := trn m os) h2
    rw [List.getD_eq_getElem?_getD, List.getElem?_eq_getElem h1] at z
    exact z
  rw [e1]
  have ok := h _ (List.getElem_mem h2)
  refine strict_eq (cov_asc _ _) ok.2 fun x => ?_
  rw [mem_cov, trn_len]
  have eg : os.getD i [] = os[i] := by
    rw [List.getD_eq_getElem?_getD, List.getElem?_eq_getElem h2]
    rfl
  constructor
  · rintro ⟨k, hk, rfl, hm⟩
    rw [trn_get hk] at hm
    obtain ⟨k2, _, e2, h3⟩ := mem_cov.mp hm
    obtain rfl : i = k2 := by omega
    rw [eg] at h3
    exact h3
  · intro hx
    obtain ⟨b1, b2⟩ := ok.1 x hx
    refine ⟨x.toNat, by omega, by omega, ?_⟩
    rw [trn_get (by omega)]
    refine mem_cov.mpr ⟨i, h2, rfl, ?_⟩
    rw [eg]
    have : ((x.toNat : Nat) : Int) = x := by omega
    rw [this]
    exact hx
/-! ### a text or a tuple against a text -/
def rNeS (K : PySem.W.Frag) : R2 := fun x y H Q => ∃ t, y = .str t ∧ ((∃ a xs, x = .ref a ∧ SqT K H a xs ∧ Q (.bl true) H) ∨ ∃ u, x = .str u ∧ Q (.bl (!decide (V.str u = V.str t))) H)
theorem op_neS {X : Cx} (hu : X.A.units + 64 < cLine) : OpR X (compareOp .NotEq) (rNeS X.K) := by
  intro pins s σ H x y v u Q I rx ry ⟨t, ey, h⟩
  rcases h with ⟨a, xs, ex, hs, q⟩ | ⟨z, ex, q⟩
  · subst ex ey
    obtain ⟨tk, rfl⟩ := ry
    cases rx
    obtain ⟨its, rv, hl, _⟩ := I.tuple hs
    exact SeqAt.RcNeAt.tuple_str t tk hl (by omega) _ _ _ _ ⟨.bl _, H, I, rfl, q⟩
  · subst ex ey
    exact op_ne pins s σ H _ _ v u Q I rx ry ⟨rfl, q⟩
def isTxt (t : Str) : PyData → Bool
  | .str u => decide (V.str u = V.str t)
  | _ => false
section
variable {K : PySem.W.Frag} {S : List Addr} {σ : L2.St} {H : Hp} {te : TE} {ta : TA} {e : PyData} {v : V} {δ : Nat}
theorem ev_neS {t : Str} (h : Evl.Ev te σ H v) (hd : Da K (hs S H) v e) (ht : (∃ es, e = .tuple es) ∨ ∃ u, e = .str u) : Evl.Ev (tOp (rNeS K) te (tC (.str t))) σ H (.bl (!isTxt t e)) := fun H1 s Q q =>
  h H1 s _ fun H2 s2 => by
    rcases ht with ⟨es, rfl⟩ | ⟨u, rfl⟩
    · have hd2 := hd.mono (hs_mono (S := S) (Same.trans s s2))
      cases hd2 with
      | tup h1 h2 => exact ⟨t, rfl, .inl ⟨_, _, rfl, sqT_of_hs h1, q H2 s2⟩⟩
    · cases hd
      exact ⟨t, rfl, .inr ⟨u, rfl, q H2 s2⟩⟩
theorem ev_same {E : XK} (tr : Tr S H) (h : EvDA K S ta σ H [e, e]) (hd : e.depth < δ) (ok : okD e = true) (nd : e.hasDict = false) : Evl.Ev (tCall (spV (rSame K δ)) [] E ta) σ H (.bl true) := fun H1 s Q q =>
  h H1 s (tr.same s) _ fun vs H2 s2 hvs => by
    show spV (rSame K δ) (vs ++ []) H2 Q E
    rw [List.append_nil]
    cases hvs with
    | cons h1 h2 =>
      cases h2 with
      | cons h3 h4 =>
        cases h4
        exact ⟨.bl true, ⟨_, _, e, rfl, h1.mono hs_sub, h3.mono hs_sub, hd, ok, nd, rfl⟩, fun H3 e3 => q H3 (Same.trans s2 e3)⟩
theorem ev_reprV {i : Nat} (hσ : σ[i]? = some (some v)) (hd : Da K (hs S H) v e) (g : Gd e) : Evl.Ev (tCB (rReprD K) (tCons (tVar i) tNil)) σ H (.str e.shown) := fun H1 s Q q =>
  ⟨v, hσ, v, e, rfl, (hd.mono hs_sub).mono s, g.ok, g.w, by have := g.dp; omega, g.nd, q H1 (Evl.Ex.refl _)⟩
end
/-- a table's data is good -/
theorem gd_tab {m : Nat} {os : List (List Int)} (hm : m ≤ 10) (hl : os.length ≤ 10) (h : ∀ o ∈ os, OffOk m o) : Gd (tabD m os) ∧ (tabD m os).depth ≤ 3 ∧ (tabD m os).hasDict = false := by
  obtain ⟨o1, o2, o3⟩ := osD hm hl h
  have gos : GdL (os.map offD) := gdl_pl o1 (by simp; omega) (by omega) (by omega)
  have p := pl_tab hm hl h
  refine ⟨(gd_three gos (by omega)).1, ?_, (pl_ok _ p.1).2.1⟩
  simp only [tabD, PyData.depth, PyData.depthAll]
  omega
end Pb

set_option Elab.async false
set_option linter.all false
set_option maxRecDepth 100000
namespace Pb
open PySem PySem.Spec PyProof.Rows L2
/-! ### the facts of a law's classes -/
section
variable {K : PySem.W.Frag} {C D O : Addr} {b : Bool}
theorem kit_ref (ne : (Value.ref C == Value.ref D) = false) (i : PySem.W.isClsIn K D = true) (t : PySem.W.typeIn K (.ref D) = some (.type "type")) (s : PySem.W.subIn K (.ref C) (.ref D) = some b) : PySem.W.kitOne K (.ref C) (.ref D) = some b := by
  have i' : (PySem.W.clsIn K D).isSome = true := i
  have e2 : ((PySem.W.clsIn K D).isSome && PySem.W.typeIn K (.ref D) == some (.type "type")) = true := by rw [i', t] <;> rfl
  show (if (Value.ref C == Value.ref D) = true then some true else PySem.W.kitCls K (.ref C) (.ref D)) = some b
  rw [if_neg (by rw [ne]; decide)]
  show (if ((PySem.W.clsIn K D).isSome && PySem.W.typeIn K (.ref D) == some (.type "type")) = true then PySem.W.subIn K (.ref C) (.ref D) else none) = some b
  rw [if_pos e2]
  exact s
theorem kit_self : PySem.W.kitOne K (.ref C) (.ref C) = some true := by
  show (if (Value.ref C == Value.ref C) = true then some true else PySem.W.kitCls K (.ref C) (.ref C)) = some true
  rw [if_pos (by simp)]
theorem kit_two {D2 : Addr} (h1 : PySem.W.kitOne K (.ref C) (.ref D) = some false) (h2 : PySem.W.kitOne K (.ref C) (.ref D2) = some false) : PySem.W.kitAny K (.ref C) [.ref D, .ref D2] = some false :=
  kitAny_cons h1 (fun _ => kitAny_cons h2 (fun _ => kitAny_nil) (fun z => by cases z)) (fun z => by cases z)
end
theorem clx_mk {P : Program} {w : World} {K : PySem.W.Frag} {mg : Str → Option Value} {base : Heap} {x : Str} {st : Stmt} {f : Addr} {fd : FuncData} {ps : List Str} {sp : Sp} {k : Nat} (F : Fun K x x st f fd) (g : mg x = some (.ref f)) (b : Binds K fd ps []) (ok : FnOk P w K mg base (L2.CX P w) k f fd ps sp) : ClX P w K mg base k x ps sp := ⟨f, fd, ok, g, F.kp, b⟩
end Pb

set_option Elab.async false
set_option linter.all false
set_option maxRecDepth 100000
namespace Pb
open PySem PySem.Spec PyProof.Rows L2
open L2H (RoomH PinOk cxH inv_startH)
open PySem.W (Frag findIn subIn specialIn takesIn hasDictIn mroIn InstAt KitX clsIn)
/-! ### a caught error of an own class, with or without a dict: its class, its fields, handed on to a def -/
section
variable {prog : Program} {w : World} {A : Around} {E : Value → Shared → Prop} {s : Shared} {K : Frag} {x D : Addr} {ox : Obj} {od : Option Obj}
theorem find_cls (C : ExcC K D) : PySem.W.findObj K D od "__class__" = some (.bind (.builtin "getset_descriptor.__get__") (.builtin "object.__class__")) := by
  obtain ⟨cd, hc, _⟩ := PySem.W.any_some C.hd
  simp [PySem.W.findObj, hc, C.ha, C.hn, C.ht]
theorem ask_class {Q : Option Value → Shared → Prop} (C : ExcC K D) (X : K.In s.heap) (I : InstAt s.heap x ox D od) (h : Q (some (.ref D)) { s with toks := s.toks + 1 }) : wpAny (model prog w) A (getAttr? (.ref x) "__class__") Q E s := by
  obtain ⟨hp, g, d, t, os⟩ := s
  have a0 := I.type (M := model prog w)
  have a1 := PySem.W.looks_findIn (M := model prog w) X C.hg
  have a2 := PySem.W.looks_findIn (M := model prog w) X C.hk
  have a3 := PySem.W.looks_find (M := model prog w) X I (find_cls C)
  have z2 : (Value.builtin "BaseException.__getattribute__" == Value.builtin "object.__getattribute__") = false := by decide +kernel
  have z1 : (onTheHeap (Value.ref D) && Value.builtin "BaseException.__getattribute__" == Value.builtin "object.__getattribute__") = false := by
    rw [z2]
    rfl
  unfold getAttr? getAttrBy? getAttrBy
  refine wpAny_bind (wpAny_mkText (wpAny_bind (wpAny_attempt (wpAny_holding (wpAny_bind (a0.at (wpAny_bind (a1.at ?_))))))))
  show wpAny _ _ (if (onTheHeap (Value.ref D) && Value.builtin "BaseException.__getattribute__" == Value.builtin "object.__getattribute__") = true then _ else _) _ _ _
  rw [z1, if_neg Bool.false_ne_true]
  unfold getAttrByItsOwn hookBefore
  refine wpAny_bind ?_
  rw [if_pos (show onTheHeap (Value.ref D) = true from rfl)]
  refine a2.at (wpAny_bind (wpAny_attempt (wpAny_holding ?_)))
  unfold callGetattribute
  rw [show (false && onTheHeap (Value.builtin "BaseException.__getattribute__")) = false from rfl, if_neg Bool.false_ne_true]
  unfold boundAndCalled
  rw [PySem.F.excAttr_ValueError.ga.bind (.ref x)]
  refine wpAny_bind (wpAny_pure ?_)
  show wpAny _ _ (call (.builtin "BaseException.__getattribute__") [.ref x, .str "__class__" t]) _ _ _
  refine wpAny_call (codeAny_call_builtin PySem.F.excAttr_ValueError.ga.plain PySem.F.entry_bexc_ga ?_)
  refine @PySem.W.check_slot (model prog w) _ _ ⟨hp, g, d, t + 1, os⟩ "BaseException.__getattribute__" "BaseException" "__getattribute__" (.ref x) [.str "__class__" t] [] _ (by decide +kernel) (by decide +kernel) (a0.andThen (PySem.W.looks_subIn X C.hs)) (PySem.F.args_bexc_ga (.ref x) (.str "__class__" t)) ?_
  unfold Builtin.«object.__getattribute__»
  refine wpAny_bind (wpAny_of_eq (a := ((Value.ref x : Value), [Value.str "__class__" t])) (by first | rfl | (simp only [slotArgs]; rfl)) (wpAny_bind (wpAny_pure (wpAny_bind (a0.at (wpAny_bind (a3.at ?_)))))))
  show wpAny _ _ (holding [Value.builtin "object.__class__"] (call (.builtin "getset_descriptor.__get__") [.builtin "object.__class__", .ref x, .ref D]) >>= ret) _ _ _
  refine wpAny_bind (wpAny_holding (wpAny_call (PySem.W.class_get (s := ⟨hp, g, d, t + 1, os⟩) (ox := ox) (od := od) X I C.hm (wpAny_pure ?_))))
  show wpAny _ _ (handedOut (.ref D)) _ _ _
  rw [PySem.W.handedOut_of (v := .ref D) rfl]
  first
    | exact wpAny_pure (wpAny_pure h)
    | exact wpAny_pure h
    | exact wpAny_pure (wpAny_bind (wpAny_pure (wpAny_pure h)))
theorem kit_err (C : ExcC K D) : KitX K (.ref x) (.ref D) (fun h => InstAt h x ox D od) where
  ty := fun _ _ _ I => I.type
  it := fun M h X _ => by
    obtain ⟨cd, hc, _⟩ := PySem.W.any_some C.hd
    unfold clsIn at hc
    split at hc
    · rename_i lk
      intro A' Q' E' s' kp q
      unfold isType loadHead
      exact wpAny_bind (wpAny_loadPart (kp _ _ (X _ _ lk)) (wpAny_pure q))
    · cases hc
  ne := (PySem.W.handS_kitx_exc (x := x) (ox := ox) C.hg C.hk C.hs C.hd C.ha C.hn C.ht C.hm).ne
  ca := fun X I k => ask_class C X I k
end
/-- its dict, where it has one, is an exception's dict -/
def XdAt (H : Hp) (d : Option Addr) (fs : List (Str × V)) : Prop := match d with
  | none => fs = []
  | some dd => H dd = some (.xd fs)
def rIsP (K : Frag) (a : Addr) (cls : Value) (d : Option Addr) : List V → Hp → VK → Prop := fun xs H Q => ∃ (D C : Addr) (b : Bool) (fs : List (Str × V)), cls = .ref D ∧ ExcC K D ∧ XdAt H d fs ∧ xs = [.ref a, .ref C] ∧ PySem.W.kitOne K (.ref D) (.ref C) = some b ∧ Q (.bl b) H
section
variable {X : Cx} {a : Addr} {oe : Obj} {cls : Value} {d : Option Addr} {pins : List (Addr × Obj)} {σ : L2.St} {H : Hp} {s : Shared}
theorem pin_inst {D : Addr} {fs : List (Str × V)} (hp : (a, oe) ∈ X.pn) (hz : Zc (.ref D) d oe) (hf : ∃ vs, oe.data = .fields vs) (I : Inv X pins σ H s) (hx : XdAt H d fs) : ∃ od, InstAt s.heap a oe D od := by
  obtain ⟨ga, _⟩ := I.pin (a, oe) (List.mem_append_left _ hp)
  obtain ⟨vs, hd⟩ := hf
  cases d with
  | none => exact ⟨none, ga, hz.1, by unfold PySem.W.notCls; rw [hd] <;> rfl, by rw [hz.2]; trivial⟩
  | some dd =>
    obtain ⟨mA, hns, _⟩ := (show ObjOk X.prog X.w H s.heap dd (.xd fs) from I.hok dd _ hx)
    obtain ⟨od, ho, _⟩ := lookIn_ns hns
    exact ⟨some od, ga, hz.1, by unfold PySem.W.notCls; rw [hd] <;> rfl, by rw [hz.2]; exact ho⟩
theorem call_isP (hp : (a, oe) ∈ X.pn) (hz : Zc cls d oe) (hf : ∃ vs, oe.data = .fields vs) : CallR X (.builtin "isinstance") (rIsP X.K a cls d) := by
  intro pins s σ H xs us Q I r ⟨D, C, b, fs, ec, xc, hx, ex, e, q⟩
  subst ec ex
  obtain ⟨u1, u2, rfl, r1, r2⟩ := vals2 r
  obtain rfl : u1 = Value.ref a := r1
  obtain rfl : u2 = Value.ref C := r2
  obtain ⟨od, J⟩ := pin_inst hp hz hf I hx
  exact PySem.W.kia_one (H := fun h => InstAt h a oe D od) (kit_err xc) I.kIn J e (fun z => nomatch z) fun tk => ⟨.bl b, H, I.kept (t' := tk) fun _ _ z => z, rfl, q⟩
/-- err.n -/
theorem pe_xfP {C : Addr} {e : Expr} {te : TE} {pos : Pos} {n : Str} (hp : (a, oe) ∈ X.pn) (T : XfC X.K C) (hno : findIn X.K (.ref C) n = some none) (hz : Zc cls d oe) (hf : ∃ vs, oe.data = .fields vs) (he : PE X e te)
    (hb : attributeBase e n X.env (eval e X.env) = eval e X.env := by rfl) : PE X (.Attribute e n pos) (tXf a cls d C n te) := by
  refine ⟨fun pins s σ H Q I h => attr_of hb (thn (he.run pins s σ H _ I h) fun u s1 ⟨x, H1, I1, rx, ex, ec, dd, fs, v, ed, ea, l, q⟩ => ?_)⟩
  subst ex ec ed
  obtain rfl : u = Value.ref a := rx
  obtain ⟨ga, _⟩ := I1.pin (a, oe) (List.mem_append_left _ hp)
  obtain ⟨vs, hd⟩ := hf
  obtain ⟨mA, hns, hr⟩ := (show ObjOk X.prog X.w H1 s1.heap dd (.xd fs) from I1.hok dd _ ea)
  obtain ⟨od, ho, hl⟩ := lookIn_ns hns
  obtain ⟨u, hu, ru⟩ := RelO.some_of (v := v) (o := mA n) (by rw [← l]; exact hr n)
  exact HandSPX.exc_get (x := a) (ox := oe) (od := some od) I1.kIn ⟨ga, hz.1, by unfold PySem.W.notCls; rw [hd] <;> rfl, by rw [hz.2]; exact ho⟩ T.ga T.gg T.exC (PySem.W.findObj_own T.hdC hno rfl (by rw [hl, hu])) (handed_of ru) ⟨v, H1, I1.tok _, ru, q⟩
end
/-! ### a def that the caught error is handed to -/
abbrev SpE := Addr → Value → Option Addr → Sp
structure FnE (P : Program) (w : World) (K : Frag) (mg : Str → Option Value) (base : Heap) (k : Nat) (f : Addr) (fd : FuncData) (ps : List Str) (sp : SpE) : Prop where
  len : ∀ a cls d vs H Q E, sp a cls d vs H Q E → vs.length = ps.length
  run : ∀ (A : Around) (outer : List Env) (s : Shared) (H : Hp) (args : Args) (us : List Value) (vs : List V) (Q : VK) (E : XK) (p : Addr × Obj) (cls : Value) (d : Option Addr), RoomH k A → Zc cls d p.2 → (∃ fl, p.2.data = .fields fl) → PinOk outer H s p → Env0 P w K mg base A outer s H →
    BindsTo s fd args (ps.zip us) → Vals vs us → sp p.1 cls d vs H Q E → codeAny (model P w) A (.call (.ref f) args) (CR CX0 outer P w H s Q E) s
theorem Fun.okE {P : Program} {w : World} {K : Frag} {mg : Str → Option Value} {base : Heap} {x qual : Str} {st : Stmt} {f : Addr} {fd : FuncData} {N ps : List Str} {k : Nat} {sp : SpE} (F : Fun K x qual st f fd) (S : FnScope N ps (defScope st)) (len : ∀ a cls d vs H Q E, sp a cls d vs H Q E → vs.length = ps.length)
    (hbody : ∀ (cdv : Value) (A : Around) (outer : List Env) (s : Shared) (H : Hp) (vs : List V) (Q : VK) (E : XK) (p : Addr × Obj) (cls : Value) (d : Option Addr), Zc cls d p.2 → (∃ fl, p.2.data = .fields fl) → RoomH k (A.deeper (envOfC qual (defScope st) s.heap.objs.size f cdv)) → sp p.1 cls d vs H Q E →
      ∃ t, PSs (cxH CX0 P w K mg base N qual (defScope st) f cdv A outer s H E p).nox (defBody st) t ∧ t { nx := fun _ H' => Q .non H', rt := Q } (L2.start N vs) H) : FnE P w K mg base (k + 1) f fd ps sp := by
  obtain ⟨oc, od, kV, doc, pm, an, cdv, ct, osl, rfl, lk, hcd⟩ := F.ex
  refine ⟨len, fun A outer s H args us vs Q E p cls d hr hz hfl hpin e0 hb r hsp => ?_⟩
  have hl := len _ _ _ _ _ _ _ hsp
  have kx : K.In s.heap := e0.mod.kin.keeps fun b o e => (e0.bs b o e).1
  refine codeAny_call_function hr.depth (kx _ _ lk) rfl S.co S.gen rfl (PySem.W.codeRec_of kx hcd) (hb _ _ _ _ (wpAny_newFunctionEnv_cells S.kind (fun ⟨n, v⟩ hy => ?_) fun env he s1 x => ?_))
  · rcases S.par n (List.of_mem_zip hy).1 with y | y
    · exact .inl y
    · exact .inr ⟨y, PySem.W.cellsFrom_some _ _ _ (.inl y)⟩
  · subst he
    refine ⟨(e0.mod.nolimit.keeps fun b o e => (e0.bs b o e).1).keeps x.toInCall.keep, codeAny_func ?_⟩
    obtain ⟨t, ht, hq⟩ := hbody cdv A outer s H vs Q E p cls d hz hfl (hr.deeper _) hsp
    have I : Inv (cxH CX0 P w K mg base N qual (defScope st) f cdv A outer s H E p) [] (L2.start N vs) H s1 := inv_startH S hpin e0 hl r x
    refine wpAny_mono (ht.nox.run [] s1 (L2.start N vs) H _ I hq) (fun fl s' z => ?_) fun e s' z => z
    cases fl with
    | ret u =>
      obtain ⟨v, σ', H', J, rv, q⟩ := z
      exact ⟨v, H', J.os, J.bare, J.base, J.hok, rv, q⟩
    | next =>
      obtain ⟨σ', H', J, q⟩ := z
      exact ⟨.non, H', J.os, J.bare, J.base, J.hok, rfl, q⟩
    | brk =>
      obtain ⟨_, _, _, q⟩ := z
      exact q.elim
    | cont =>
      obtain ⟨_, _, _, q⟩ := z
      exact q.elim
structure ClE (P : Program) (w : World) (K : Frag) (mg : Str → Option Value) (base : Heap) (k : Nat) (x : Str) (ps : List Str) (sp : SpE) : Prop where
  ex : ∃ (f : Addr) (fd : FuncData), FnE P w K mg base k f fd ps sp ∧ mg x = some (.ref f) ∧ PySem.W.keepIn K (.ref f) = true ∧ Binds K fd ps []
/-- f(err, ..) in the suite that holds err -/
def tCallE (sp : SpE) (a : Addr) (cls : Value) (d : Option Addr) (t : TA) : TE := fun σ H Q => t σ H fun vs H1 => sp a cls d vs H1 Q E0
section
variable {X : Cx} {a : Addr} {oe : Obj} {cls : Value} {d : Option Addr} {k : Nat} {x : Str} {ps : List Str} {sp : SpE} {e : Expr} {es : List Expr} {t : TA} {p pos : Pos}
theorem pe_kE (c : ClE X.prog X.w X.K X.mg X.base k x ps sp) (hr : RoomH k X.A) (hp : (a, oe) ∈ X.pn) (hz : Zc cls d oe) (hf : ∃ vs, oe.data = .fields vs) (hg : Gl X x) (ha : PA X (e :: es) t)
    (hdb : (x == ("__debug__" : Str)) = false := by decide) (he : starEach (e :: es) X.env = (false, eval e X.env) :: starEach es X.env := by rfl) (hpl : (backTo pos (starEach es X.env)).any (·.1) = false := by rfl) :
    PE X (.Call (.Name x p) (e :: es) [] pos) (tCallE sp a cls d t) := by
  obtain ⟨f, fd, F, hm, kp, hb⟩ := c.ex
  refine ⟨fun pins s σ H Q I h => wpAny_Call_Name_kw (ld_glob I hg hm (PySem.W.callWith_K (h₀ := X.base) I.ok.mod.kin kp (thn (ha.run pos pins s σ H _ I h) fun us s1 ⟨vs, H1, I1, r, q⟩ => ⟨I1.kIn, ?_⟩) he hpl) hdb)⟩
  show wpAny _ _ (call (.ref f) us) _ _ _
  have hl : us.length = ps.length := by
    rw [← r.length]
    exact F.len _ _ _ _ _ _ _ q
  have b := hb s1 us I1.kIn (by rw [List.append_nil]; exact hl)
  rw [List.append_nil] at b
  have y := I1.pin (a, oe) (List.mem_append_left _ hp)
  refine wpAny_call (codeAny_mono (F.run X.A X.stack s1 H1 ⟨us, []⟩ us vs Q E0 (a, oe) cls d hr hz hf ⟨y.1, y.2.1, fun m => (List.mem_cons.mp (I1.stkSub a m)).elim y.2.2.1 y.2.2.2.1, y.2.2.2.2⟩ I1.env0 b r q) fun r s' z => ?_)
  cases r with
  | error e => exact z.elim
  | ok fl =>
    cases fl with
    | ret u => exact I1.after z
    | next => exact z.elim
    | brk => exact z.elim
    | cont => exact z.elim
end
end Pb

set_option Elab.async false
set_option linter.all false
set_option maxRecDepth 100000
namespace Pb
open PySem PySem.Spec PyProof.Rows L2
/-! ### own exception classes with def __init__(self, v): self.f = v -/
def inS (st : Stmt) : Stmt := match st with
  | .ClassDef _ _ _ body _ _ _ _ _ _ _ => body.getD 0 (.Pass ⟨0, 0, 0, 0⟩)
  | _ => .Pass ⟨0, 0, 0, 0⟩
def spInit (C : Addr) (f : Str) : Sp := fun vs H Q _ => ∃ a y, vs = [.ref a, y] ∧ H a = some (exo a C none) ∧ ∀ dx, H dx = none → dx ≠ a → Q .non (upd (upd H dx (exd dx [(f, y)])) a (exo a C (some dx)))
structure EcI (P : Program) (w : World) (K : PySem.W.Frag) (mg : Str → Option Value) (base : Heap) (x : Str) (C : Addr) (f : Str) : Prop where
  T : OexC K C
  g : mg x = some (.ref C)
  no : PySem.W.findIn K (.ref C) f = some none
  xc : ExcC K C
  ini : ∃ (fI : Addr) (fd : FuncData) (v : Str), PySem.W.findIn K (.ref C) "__init__" = some (some (.ref fI)) ∧ PySem.W.typeIn K (.ref fI) = some (.type "function") ∧ FnOk P w K mg base CX0 1 fI fd ["self", v] (spInit C f) ∧ Binds K fd ["self", v] []
theorem ExcC.xf {K : PySem.W.Frag} {C : Addr} (h : ExcC K C) : XfC K C := ⟨h.hg, h.hk, h.hs, h.hd⟩
/-- a reading closed under weaker wishes -/
def tCl (te : TE) : TE := fun σ H Q => ∃ P : VK, te σ H P ∧ ∀ y H1, P y H1 → Q y H1
theorem pe_cl {X : Cx} {e : Expr} {te : TE} (he : PE X e te) : PE X e (tCl te) := ⟨fun pins s σ H Q I ⟨P, h, k⟩ => thn (he.run pins s σ H P I h) fun u s1 ⟨x, H1, I1, r, q⟩ => ⟨x, H1, I1, r, k x H1 q⟩⟩
theorem hp_init {H : Hp} {a d : Addr} {C : Addr} {f : Str} {y : V} (ha : H a = none) (hda : d ≠ a) : upd (del (upd (upd (upd H a (exo a C none)) d (exd d [(f, y)])) a (exo a C (some d))) a) d (.xd [(f, y)]) = upd H d (.xd [(f, y)]) := by
  funext b
  by_cases h1 : b = d
  · rw [h1, upd_same, upd_same]
  · rw [upd_ne h1, upd_ne h1]
    by_cases h2 : b = a
    · rw [h2, del_same, ha]
    · rw [del_ne h2, upd_ne h2, upd_ne h1, upd_ne h2]
theorem pmk_eci {X : Cx} {x f : Str} {C : Addr} {e : Expr} {te : TE} {p pos : Pos} (T : EcI X.prog X.w X.K X.mg X.base x C f) (hr : Room 2 X.A) (hg : Gl X x) (he : PE X e te) (hdb : (x == ("__debug__" : Str)) = false := by decide) (hs : starEach [e] X.env = (false, eval e X.env) :: starEach [] X.env := by rfl) :
    PMk X (.Call (.Name x p) [e] [] pos) (fun σ H Q => te σ H fun y H1 => ∀ d, H1 d = none → Q (.ref C) (some d) (upd H1 d (.xd [(f, y)]))) := by
  obtain ⟨fI, fd, v, iC, tI, F1, hb⟩ := T.ini
  have mk := pmk_oex (X := X) (p := p) (pos := pos) (x := x) (es := []) T.T iC tI F1 hr hb (dvs := []) .nil pass0 hg T.g (pa_cons (pe_cl he) pa_nil (hs := hs)) hdb hs rfl
  intro pins s σ H Q I h
  refine mk pins s σ H Q I ⟨_, h, fun y H1 q => ⟨by simp, fun a ha => ⟨a, y, rfl, upd_same, fun d hd hda => ⟨rfl, d, [(f, y)], upd_same, ?_, ?_, ?_⟩⟩⟩⟩
  · rw [upd_ne hda, upd_same]
  · rw [upd_ne hda] at hd
    exact hd
  · rw [hp_init ha hda]
    rw [upd_ne hda] at hd
    exact q d hd
end Pb

set_option Elab.async false
set_option linter.all false
set_option maxRecDepth 100000
namespace Pb
open PySem PySem.Spec PyProof.Rows L2
/-! ### data in; data or an error out -/
inductive Out where
  | ret (e : PyData)
  | exc (x : Str)
  | excF (x f : Str) (e : PyData)
section
variable (K : PySem.W.Frag) (cl : Str → Addr)
/-- what an outcome asks of the two wishes -/
def OutOk (S : List Addr) (H : Hp) (Q : VK) (E : XK) : Out → Prop
  | .ret e => ∀ v H', Same H H' → Da K (hs S H') v e → Q v H'
  | .exc x => ∀ H', Same H H' → E (.ref (cl x)) none H'
  | .excF x f e => ∀ v d H', Same H H' → H' d = some (.xd [(f, v)]) → Da K (hs S H') v e → E (.ref (cl x)) (some d) H'
def spX (R : List PyData → Out → Prop) : Sp := fun vs H Q E => ∃ S ds o, Tr S H ∧ DaAll K (hs S H) vs ds ∧ R ds o ∧ OutOk K cl S H Q E o
end
section
variable {K : PySem.W.Frag} {cl : Str → Addr} {S : List Addr} {H H1 : Hp} {Q : VK} {E : XK} {x f : Str} {e : PyData} {y : V}
/-- raise x(y) -/
theorem out_excF (tr : Tr S H) (k : OutOk K cl S H Q E (.excF x f e)) (s : Same H H1) (hy : Da K (hs S H1) y e) : ∀ d, H1 d = none → E (.ref (cl x)) (some d) (upd H1 d (.xd [(f, y)])) := fun d hd =>
  k y d _ (Same.trans s (same_upd hd)) upd_same (hy.mono (hs_mono (same_upd hd)))
theorem da_two {v : List V} {a b : PyData} (h : DaAll K H v [a, b]) : ∃ x y, v = [x, y] ∧ Da K H x a ∧ Da K H y b := by
  cases h with
  | cons h1 h2 =>
    cases h2 with
    | cons h3 h4 =>
      cases h4
      exact ⟨_, _, rfl, h1, h3⟩
end
theorem num_true {d : PyData} {n : Int} (h : numBelow d n = true) : ∃ i, d = .int i ∧ 0 ≤ i ∧ i < n := by
  cases d with
  | int i =>
    simp only [numBelow, Bool.and_eq_true, decide_eq_true_eq] at h
    exact ⟨i, rfl, h.1, h.2⟩
  | none => simp [numBelow] at h
  | bool _ => simp [numBelow] at h
  | str _ => simp [numBelow] at h
  | list _ => simp [numBelow] at h
  | tuple _ => simp [numBelow] at h
  | dict _ => simp [numBelow] at h
def intOf : PyData → Int
  | .int i => i
  | _ => 0
/-- covering_offers -/
def covO (n : Int) (os : List (List Int)) (d : PyData) : Out := if numBelow d n = true then .ret (offD (cov os (intOf d))) else .excF "NoDemand" "demand" d
def rCovX : List PyData → Out → Prop := fun ds o => ∃ n os d, ds = [tabD n os, d] ∧ os.length ≤ 100 ∧ o = covO n os d
end Pb

set_option Elab.async false
set_option linter.all false
set_option maxRecDepth 100000
namespace Pb
open PySem PySem.Spec PyProof.Rows L2
section
variable {K : PySem.W.Frag} {S : List Addr} {σ : L2.St} {H : Hp} {te ta tb : TE} {es fs : List PyData}
/-- t + u, tuples -/
theorem evd_cat (h1 : EvD K S ta σ H (.tuple es)) (h2 : EvD K S tb σ H (.tuple fs)) (hl : es.length + fs.length ≤ 1000) : EvD K S (tOp (rCatA K) ta tb) σ H (.tuple (es ++ fs)) := fun H1 s tr Q q =>
  h1 H1 s tr _ fun v H2 s2 hv => h2 H2 (s.trans s2) (tr.same s2) _ fun u H3 s3 hu => by
    have hv3 := hv.mono (hs_mono (S := S) s3)
    have tr3 := (tr.same s2).same s3
    cases hv3 with
    | @tup a xs _ hq ha =>
      cases hu with
      | @tup a2 ys _ hq2 ha2 =>
        refine ⟨a, a2, xs, ys, rfl, rfl, sqT_of_hs hq, sqT_of_hs hq2, Pb.sz (by rw [DaAll.len ha, DaAll.len ha2]; exact hl), fun e => ?_, fun _ e => ?_, fun _ _ p hp => ?_⟩
        · subst e
          cases ha
          exact q _ _ (s2.trans s3) (.tup hq2 ha2)
        · subst e
          cases ha2
          rw [List.append_nil] at q
          exact q _ _ (s2.trans s3) (.tup hq ha)
        · exact q _ _ ((s2.trans s3).trans (same_upd hp)) (.tup (SqT.of (hs_at (tr3.out hp) upd_same)) ((ha.append ha2).mono (hs_mono (same_upd hp))))
/-- t[lo:hi], t a tuple -/
theorem evd_sl {tl th : TO} {lo hi : Option Int} (h : EvD K S te σ H (.tuple es)) (h1 : ∀ H', Same H H' → Evl.EvO tl σ H' lo) (h2 : ∀ H', Same H H' → Evl.EvO th σ H' hi) : EvD K S (tSl (rSlA K) te tl th) σ H (.tuple (cutG es lo hi)) := fun H1 s tr Q q =>
  h H1 s tr _ fun v H2 s2 hv => h1 H2 (s.trans s2) H2 (Evl.Ex.refl _) _ fun H3 s3 => h2 H3 ((s.trans s2).trans s3) H3 (Evl.Ex.refl _) _ fun H4 s4 => by
    have s34 := Same.trans s3 s4
    have hv4 := hv.mono (hs_mono (S := S) s34)
    have tr4 := (tr.same s2).same s34
    cases hv4 with
    | @tup a xs _ hq ha =>
      refine ⟨a, xs, rfl, sqT_of_hs hq, fun w => q _ _ (s2.trans s34) (.tup ?_ (ha.cut lo hi)), fun _ p hp => ?_⟩
      · rw [cut_whole w]
        exact hq
      · exact q _ _ ((s2.trans s34).trans (same_upd hp)) (.tup (SqT.of (hs_at (tr4.out hp) upd_same)) ((ha.cut lo hi).mono (hs_mono (same_upd hp))))
/-- [e for x in t], t a tuple -/
theorem evd_lcT {a : Addr} {xs : List V} {tl : TE} {j : Nat} {vs : List Nat} (f : Nat → PyData) (h : Evl.Ev tl σ H (.ref a)) (hx : SqT K (hs S H) a xs) (hn : xs.length ≤ 900) (hw : ∀ x, wipe ((wipe σ vs).set j (some x)) vs = wipe σ vs)
    (he : ∀ (i : Nat) (x : V) (D : Addr) H1, xs[i]? = some x → Same (hs S H) (hs (D :: S) H1) → EvD K (D :: S) te ((wipe σ vs).set j (some x)) H1 (f i)) :
    EvD K S (tLc (iTup K tl) (gName j) tYes te vs) σ H (.list ((List.range xs.length).map f)) := fun H0 s0 tr0 Q q => h H0 s0 _ fun H1 s1 =>
  ⟨a, rfl, ⟨xs, sqT_of_hs (S := S) (Evl.ex_t (hs_mono (Same.trans s0 s1)) hx)⟩, fun D hD => lc_tup (K := K) (a := a) (xs := xs)
    (fun i H' => ∃ ds, H' D = some (.lst ds) ∧ DaAll K (hs (D :: S) H') ds ((List.range i).map f) ∧ Same (hs S H1) (hs (D :: S) H') ∧ (∀ a o, a ≠ D → H1 a = some o → H' a = some o))
    ⟨[], upd_same, .nil, hs_cons_new hD, fun a o hne e => by rw [upd_ne hne]; exact e⟩
    (fun i H' _ ⟨ds, e1, e2, e3, e4⟩ => sqT_of_hs (S := D :: S) (Evl.ex_t (Same.trans (hs_mono (Same.trans s0 s1)) e3) hx))
    (fun i x H' hi ⟨ds, e1, e2, e3, e4⟩ => by
      have hi' := (List.getElem?_eq_some_iff.mp hi).1
      refine ⟨hw _, ?_⟩
      dsimp only [tYes]
      refine iteT ?_
      have tr : Tr (D :: S) H' := fun y hy => by
        by_cases z : y = D
        · rw [z]
          exact ⟨_, e1⟩
        · have hy' : y ∈ S := by
            rcases List.mem_cons.mp hy with t | t
            · exact absurd t z
            · exact t
          obtain ⟨o, eo⟩ := tr0 y hy'
          exact ⟨o, e4 y o z (s1 _ _ eo)⟩
      refine he i x D H' hi (Same.trans (hs_mono (Same.trans s0 s1)) e3) H' (Same.refl _) tr _ fun v H2 s2 hv => ?_
      have el := DaAll.len e2
      simp only [List.length_map, List.length_range] at el
      refine ⟨ds, s2 _ _ e1, small1000 (by omega), ds ++ [v], upd_same, ?_, ?_, ?_⟩
      · rw [hs_put List.mem_cons_self, List.range_succ, List.map_append]
        exact (e2.mono (hs_mono s2)).append (.cons hv .nil)
      · rw [hs_put List.mem_cons_self]
        exact Same.trans e3 (hs_mono s2)
      · intro a o hne e
        rw [upd_ne hne]
        exact s2 _ _ (e4 a o hne e))
    (fun H' ⟨ds, e1, e2, e3, e4⟩ => by
      have s2 : Same H1 H' := fun a o e => e4 a o (fun z => by rw [z, hD] at e; cases e) e
      exact q (.ref D) H' (Same.trans s1 s2) (.lst (SqL.of (hs_at ((tr0.same s1).out hD) e1)) (e2.mono hs_cons_sub)))⟩
end
/-! ### the changed tables -/
/-- the places of those of ms that are in o -/
def ren (ms o : List Int) : List Int := ((List.range ms.length).filter fun i => decide (ms.getD i 0 ∈ o)).map fun (i : Nat) => (i : Int)
def rRen : List PyData → PyData → Prop := fun ds e => ∃ o ms, ds = [offD o, offD ms] ∧ ms.length ≤ 1000 ∧ e = offD (ren ms o)
theorem asc_true {d : PyData} {n : Int} (h : asc d n = true) : ∃ ms : List Int, d = offD ms ∧ OffOk n ms := by
  cases d with
  | tuple ds =>
    obtain ⟨ms, rfl⟩ := all_ints (ascFrom_int (show ascFrom (-1) n ds = true from h))
    exact ⟨ms, rfl, asc_ints.mp h⟩
  | none => cases h
  | bool _ => cases h
  | int _ => cases h
  | str _ => cases h
  | list _ => cases h
  | dict _ => cases h
def intsOf : PyData → List Int
  | .tuple ds => ds.map intOf
  | _ => []
theorem intsOf_off (ms : List Int) : intsOf (offD ms) = ms := by
  show (ms.map PyData.int).map intOf = ms
  rw [List.map_map]
  exact List.map_id ms
/-- restrict_demands, add_offer, remove_offer -/
def resO (n : Int) (os : List (List Int)) (d : PyData) : Out := if asc d n = true ∧ intsOf d ≠ [] then .ret (tabD (intsOf d).length (os.map (ren (intsOf d)))) else .exc "NoDemands"
def addO (n : Int) (os : List (List Int)) (d : PyData) : Out := if asc d n = true then (if os.length ≥ 10 then .excF "TooMany" "limit" (.int 10) else .ret (tabD n (os ++ [intsOf d]))) else .exc "NoDemands"
def remO (n : Int) (os : List (List Int)) (d : PyData) : Out := if numBelow d os.length = true then .ret (tabD n (os.take (intOf d).toNat ++ os.drop ((intOf d).toNat + 1))) else .excF "NoOffer" "offer" d
def rResX : List PyData → Out → Prop := fun ds o => ∃ n os d, ds = [tabD n os, d] ∧ os.length ≤ 100 ∧ okD d = true ∧ o = resO n os d
def rAddX : List PyData → Out → Prop := fun ds o => ∃ n os d, ds = [tabD n os, d] ∧ os.length ≤ 100 ∧ okD d = true ∧ o = addO n os d
def rRemX : List PyData → Out → Prop := fun ds o => ∃ n os d, ds = [tabD n os, d] ∧ os.length ≤ 100 ∧ okD d = true ∧ o = remO n os d
end Pb

set_option Elab.async false
set_option linter.all false
set_option maxRecDepth 100000
namespace Pb
open PySem PySem.Spec PyProof.Rows L2
/-! ### xs.count(True), xs of truth values -/
def rCntB (K : PySem.W.Frag) : V → List V → Hp → VK → Prop := fun x xs H Q => ∃ (p : Addr) (bs : List Bool), x = .ref p ∧ xs = [.bl true] ∧ SqL K H p (bs.map V.bl) ∧ Q (.int (bs.count true : Nat)) H
theorem vals_bl : ∀ {bs : List Bool} {us : List Value}, Vals (bs.map V.bl) us → us = bs.map Value.bool
  | [], _, .nil => rfl
  | b :: bs, _, .cons r t => by
    have e : _ = Value.bool b := r
    rw [e, vals_bl t]
    rfl
theorem flat_bl : ∀ bs : List Bool, (bs.map V.bl).all flatV = true
  | [] => rfl
  | _ :: bs => flat_bl bs
theorem count_bl : ∀ bs : List Bool, (bs.map Value.bool).countP (eqU (.bl true)) = bs.count true
  | [] => rfl
  | b :: bs => by
    rw [List.map_cons, List.countP_cons, List.count_cons, count_bl bs]
    cases b <;> rfl
theorem mt_bcount {X : Cx} : MtR X "list.count" (rCntB X.K) := by
  intro pins s σ H x xs v us Q I rx rxs ⟨p, bs, e1, e2, hs, q⟩
  subst e1 e2
  cases rx
  obtain ⟨u, rfl, ru⟩ := rxs.one
  obtain rfl : u = Value.bool true := ru
  obtain ⟨its, rv, ⟨⟨cls, dd, data, sl⟩, n, ho, hc, hdn, hd⟩, hlen⟩ := I.list hs
  simp only at hc hd
  subst hc hd
  refine call_meets PySem.F.slot_list_count ⟨_, ho, rfl⟩ PySem.F.entry_list_count (PySem.F.args_list_count_2 _ _) (SeqAt.list_countAt p its.toArray n dd sl (.bool true) (eqU (.bl true))) ⟨ho, fun y hy => mem_eqAt (x := .bl true) rfl rfl rv (flat_bl bs) y (by simpa using hy), ?_⟩
  have ec : its.toArray.toList.countP (eqU (.bl true)) = bs.count true := by
    rw [vals_bl rv]
    exact count_bl bs
  refine ⟨.int (bs.count true : Nat), H, I.tok _, ⟨s.toks, ?_⟩, q⟩
  rw [← ec]
theorem mt_bcountK {X : Cx} {K : PySem.W.Frag} (h : X.K = K) : MtR X "list.count" (rCntB K) := h ▸ mt_bcount
end Pb

set_option Elab.async false
set_option linter.all false
set_option maxRecDepth 100000
namespace Pb
open PySem PySem.Spec PyProof.Rows L2
/-! ### what a refusal is told as -/
theorem pe_cls {X : Cx} {x : Str} {C : Addr} {pos : Pos} (hg : Gl X x) (hm : X.mg x = some (.ref C)) (hd : (x == ("__debug__" : Str)) = false := by decide) : PE X (.Name x pos) (tC (.ref C)) := pe_glob hg hm rfl hd
abbrev rzX : List Str := ["NoDemand", "NoDemands", "NoOffer", "TooMany"]
abbrev rzC : List Str := ["NoDemand", "NoDemands", "NoOffer", "TooMany", "NoOffers"]
structure Ec3 (K : PySem.W.Frag) (mg : Str → Option Value) (cl : Str → Addr) : Prop where
  g : ∀ x ∈ rzC, mg x = some (.ref (cl x))
  xc : ∀ x ∈ rzX, ExcC K (cl x)
  kt : ∀ x ∈ rzX, ∀ c ∈ rzC, PySem.W.kitOne K (.ref (cl x)) (.ref (cl c)) = some (decide (x = c))
  f1 : PySem.W.findIn K (.ref (cl "NoDemand")) "demand" = some none
  f2 : PySem.W.findIn K (.ref (cl "NoOffer")) "offer" = some none
  f3 : PySem.W.findIn K (.ref (cl "TooMany")) "limit" = some none
/-- the error that an outcome lets out -/
def ErrIs (K : PySem.W.Frag) (cl : Str → Addr) (S : List Addr) (H : Hp) (cls : Value) (d : Option Addr) : Out → Prop
  | .ret _ => False
  | .exc x => x = "NoDemands" ∧ cls = .ref (cl x) ∧ d = none
  | .excF x f e => (x, f) ∈ [(("NoDemand" : Str), ("demand" : Str)), ("NoOffer", "offer"), ("TooMany", "limit")] ∧ cls = .ref (cl x) ∧ ∃ dd v, d = some dd ∧ H dd = some (.xd [(f, v)]) ∧ Da K (hs S H) v e
theorem fld_of {x f : Str} (h : (x, f) ∈ [(("NoDemand" : Str), ("demand" : Str)), ("NoOffer", "offer"), ("TooMany", "limit")]) : (x = "NoDemand" ∧ f = "demand") ∨ (x = "NoOffer" ∧ f = "offer") ∨ (x = "TooMany" ∧ f = "limit") := by
  simpa only [List.mem_cons, Prod.mk.injEq, List.not_mem_nil, or_false] using h
def refD : Out → PyData
  | .ret e => e
  | .exc _ => .list [.str "demands"]
  | .excF x _ e => .list [.str (if x = "NoDemand" then "demand" else if x = "NoOffer" then "offer" else "many"), e]
def spRef (K : PySem.W.Frag) (cl : Str → Addr) : SpE := fun a cls d vs H Q _ => ∃ S o, Tr S H ∧ vs = [.ref a] ∧ ErrIs K cl S H cls d o ∧ ∀ r H', Same H H' → Da K (hs S H') r (refD o) → Q r H'
section
variable {K : PySem.W.Frag} {mg : Str → Option Value} {cl : Str → Addr} {S : List Addr} {H : Hp} {cls : Value} {d : Option Addr} {o : Out} {σ : L2.St} {a : Addr}
/-- its class's name, its fields -/
theorem ErrIs.kind (h : ErrIs K cl S H cls d o) : ∃ x ∈ rzX, ∃ fs, cls = .ref (cl x) ∧ XdAt H d fs ∧ ((o = .exc x ∧ x = "NoDemands") ∨ ∃ f e v, o = .excF x f e ∧ (x, f) ∈ [(("NoDemand" : Str), ("demand" : Str)), ("NoOffer", "offer"), ("TooMany", "limit")] ∧ fs = [(f, v)] ∧ Da K (hs S H) v e ∧ ∃ dd, d = some dd) := by
  cases o with
  | ret e => exact h.elim
  | exc x =>
    obtain ⟨rfl, h2, rfl⟩ := h
    exact ⟨_, by decide, [], h2, rfl, .inl ⟨rfl, rfl⟩⟩
  | excF x f e =>
    obtain ⟨h1, h2, dd, v, rfl, h3, h4⟩ := h
    refine ⟨x, ?_, [(f, v)], h2, h3, .inr ⟨f, e, v, rfl, h1, rfl, h4, dd, rfl⟩⟩
    simp only [List.mem_cons, Prod.mk.injEq, List.not_mem_nil, or_false] at h1
    rcases h1 with ⟨rfl, _⟩ | ⟨rfl, _⟩ | ⟨rfl, _⟩ <;> decide
theorem XdAt.same {H' : Hp} {fs : List (Str × V)} (h : XdAt H d fs) (s : Same H H') : XdAt H' d fs := by
  cases d with
  | none => exact h
  | some dd => exact s _ _ h
theorem ev_isP (T : Ec3 K mg cl) {x c : Str} {fs : List (Str × V)} (hx : x ∈ rzX) (hc : c ∈ rzC) (e : cls = .ref (cl x)) (hd : XdAt H d fs) {ta : TE} (ha : Evl.Ev ta σ H (.ref a)) : Evl.Ev (tCB (rIsP K a cls d) (tCons ta (tCons (tC (.ref (cl c))) tNil))) σ H (.bl (decide (x = c))) := fun H1 s Q q =>
  ha H1 s _ fun H2 s2 => ⟨cl x, cl c, _, fs, e, T.xc x hx, (hd.same s).same s2, rfl, T.kt x hx c hc, q H2 s2⟩
end
end Pb

set_option Elab.async false
set_option linter.all false
set_option maxRecDepth 100000
namespace Pb
open PySem PySem.Spec PyProof.Rows L2
theorem room_h {k : Nat} {A : Around} (r : Room k A) (h : Option Value) : L2H.RoomH k (A.mark h) := ⟨r.dp, r.un⟩
theorem way_of {a b : Int} (h : decide (V.int a = V.int b) = true) : a = b := by
  have z := of_decide_eq_true h
  exact V.int.inj z
theorem way_not {a b : Int} (h : ¬ decide (V.int a = V.int b) = true) : a ≠ b := fun z => h (decide_eq_true (by rw [z]))
def outO (way : Nat) (n : Int) (os : List (List Int)) (d : PyData) : Out := match way with
  | 0 => covO n os d
  | 1 => resO n os d
  | 2 => addO n os d
  | _ => remO n os d
/-- its error is one of those that are told -/
def OutIn : Out → Prop
  | .ret _ => True
  | .exc x => x = "NoDemands"
  | .excF x f _ => (x, f) ∈ [(("NoDemand" : Str), ("demand" : Str)), ("NoOffer", "offer"), ("TooMany", "limit")]
theorem out_in (way : Nat) (n : Int) (os : List (List Int)) (d : PyData) : OutIn (outO way n os d) := by
  unfold outO
  split
  · unfold covO
    split <;> simp [OutIn]
  · unfold resO
    split <;> simp [OutIn]
  · unfold addO
    split
    · split <;> simp [OutIn]
    · simp [OutIn]
  · unfold remO
    split <;> simp [OutIn]
def rTold3 : List PyData → PyData → Prop := fun ds e => ∃ (way : Nat) (n : Int) (os : List (List Int)) (d : PyData), ds = [.int way, tabD n os, d] ∧ way < 4 ∧ os.length ≤ 100 ∧ okD d = true ∧ e = refD (outO way n os d)
theorem da_three {K : PySem.W.Frag} {H : Hp} {v : List V} {a b c : PyData} (h : DaAll K H v [a, b, c]) : ∃ x y z, v = [x, y, z] ∧ Da K H x a ∧ Da K H y b ∧ Da K H z c := by
  cases h with
  | cons h1 h2 =>
    obtain ⟨y, z, rfl, h3, h4⟩ := da_two h2
    exact ⟨_, y, z, rfl, h1, h3, h4⟩
end Pb

set_option Elab.async false
set_option linter.all false
set_option maxRecDepth 100000
namespace Pb
open PySem PySem.Spec PyProof.Rows L2
/-- _law_is_some(count, thing) -/
def rSomeV (K : PySem.W.Frag) : List V → Hp → V → Prop := fun vs H z => ∃ x d c, vs = [.int c, x] ∧ Da K H x d ∧ okD d = true ∧ z = .bl (asc d c)
end Pb

set_option Elab.async false
set_option linter.all false
set_option maxRecDepth 100000
namespace Pb
open PySem PySem.Spec PyProof.Rows L2
theorem pi_tupK {X : Cx} {K : PySem.W.Frag} {tg l : Expr} {tl : TE} (h : X.K = K) (hl : PE X l tl) : PI X tg l (iTup K tl) := h ▸ pi_tup hl
def rDue3 : List PyData → PyData → Prop := fun ds e => ∃ (way : Nat) (n : Int) (os : List (List Int)) (d : PyData), ds = [.int way, tabD n os, d] ∧ way < 4 ∧ os.length ≤ 10 ∧ (∃ m : Nat, n = m ∧ m ≤ 10) ∧ (∀ o ∈ os, OffOk n o) ∧ okD d = true ∧ e = refD (outO way n os d)
theorem evd_u {K : PySem.W.Frag} {S : List Addr} {te : TE} {σ : L2.St} {H : Hp} {xs : List V} {es : List PyData} (h : Evl.EvU te σ H xs) (hd : DaAll K (hs S H) xs es) : EvD K S te σ H (.tuple es) := fun H1 s tr Q q =>
  h H1 s Q fun p H2 hp s2 hp2 => q (.ref p) H2 s2 (.tup (SqT.of (hs_at (tr.out hp) hp2)) (hd.mono (hs_mono (Same.trans s s2))))
theorem drop_one {α : Type} (d : α) : ∀ (l : List α) (j : Nat), j < l.length → ((List.range l.length).filter fun k => !(k == j)).map (fun k => l.getD k d) = l.take j ++ l.drop (j + 1)
  | [], j, h => absurd h (Nat.not_lt_zero _)
  | x :: l, 0, _ => by
    rw [List.length_cons, List.range_succ_eq_map, List.filter_cons, if_neg (by decide), List.filter_map, List.map_map, List.filter_eq_self.mpr (fun k _ => by simp)]
    have e := range_getD (id : α → α) d l
    rw [List.map_id] at e
    exact e
  | x :: l, j + 1, h => by
    have ih := drop_one d l j (by simpa using h)
    rw [List.length_cons, List.range_succ_eq_map, List.filter_cons, if_pos (by simp), List.filter_map, List.map_cons, List.map_map]
    have e : ((fun k => !(k == j + 1)) ∘ Nat.succ) = fun k => !(k == j) := by
      funext k
      simp
    rw [e, List.take_succ_cons, List.cons_append, List.drop_succ_cons, ← ih]
    rfl
theorem given_ne (l : List V) (i : Int) (j : Nat) (hi : i = (j : Nat)) (hj : j < l.length) : Evl.given l.length (fun k => !decide (V.int (k : Int) = V.int i)) (fun k => l.getD k .non) = l.take j ++ l.drop (j + 1) := by
  rw [← drop_one V.non l j hj]
  unfold Evl.given
  congr 2
  funext k
  subst hi
  by_cases e : k = j
  · simp [e]
  · have e2 : ¬ ((k : Int) = (j : Int)) := by omega
    simp [e, e2]
end Pb

set_option Elab.async false
set_option linter.all false
set_option maxRecDepth 100000
namespace Pb
open PySem PySem.Spec PyProof.Rows L2
/-- how many are smaller -/
def cntLt (ms : List Int) (x : Int) : Nat := (ms.filter fun m => decide (m < x)).length
theorem cnt_cons (m : Int) (ms : List Int) (x : Int) : cntLt (m :: ms) x = (if m < x then 1 else 0) + cntLt ms x := by
  unfold cntLt
  rw [List.filter_cons]
  by_cases h : m < x
  · simp [h]
    omega
  · simp [h]
theorem cnt_le {x y : Int} (h : x < y) : ∀ ms, cntLt ms x ≤ cntLt ms y
  | [] => Nat.le_refl _
  | m :: ms => by
    have := cnt_le h ms
    rw [cnt_cons, cnt_cons]
    split <;> split <;> omega
theorem cnt_lt {x y : Int} (h : x < y) : ∀ ms, x ∈ ms → cntLt ms x < cntLt ms y
  | [], hx => absurd hx List.not_mem_nil
  | m :: ms, hx => by
    rw [cnt_cons, cnt_cons]
    rcases List.mem_cons.mp hx with rfl | hx
    · have := cnt_le h ms
      rw [if_neg (by omega), if_pos h]
      omega
    · have := cnt_lt h ms hx
      split <;> split <;> omega
theorem cnt_zero {x : Int} : ∀ ms : List Int, (∀ m ∈ ms, x ≤ m) → cntLt ms x = 0
  | [], _ => rfl
  | m :: ms, h => by
    rw [cnt_cons, cnt_zero ms fun k hk => h k (List.mem_cons_of_mem _ hk), if_neg (by have := h m List.mem_cons_self; omega)]
theorem cnt_at : ∀ (ms : List Int) (i : Nat), ms.Pairwise (· < ·) → i < ms.length → cntLt ms (ms.getD i 0) = i
  | [], i, _, h => absurd h (Nat.not_lt_zero _)
  | m :: ms, 0, hp, _ => by
    show cntLt (m :: ms) m = 0
    refine cnt_zero _ fun k hk => ?_
    rcases List.mem_cons.mp hk with rfl | hk
    · exact Int.le_refl _
    · have := (List.pairwise_cons.mp hp).1 k hk
      omega
  | m :: ms, i + 1, hp, h => by
    have hl : i < ms.length := by simpa using h
    show cntLt (m :: ms) (ms.getD i 0) = i + 1
    have hm : ms.getD i 0 ∈ ms := by
      rw [List.getD_eq_getElem?_getD, List.getElem?_eq_getElem hl]
      exact List.getElem_mem _
    rw [cnt_cons, cnt_at ms i (List.pairwise_cons.mp hp).2 hl, if_pos ((List.pairwise_cons.mp hp).1 _ hm)]
    omega
theorem mem_ren {ms o : List Int} {x : Int} : x ∈ ren ms o ↔ ∃ i : Nat, i < ms.length ∧ x = (i : Int) ∧ ms.getD i 0 ∈ o := by
  unfold ren
  simp only [List.mem_map, List.mem_filter, List.mem_range, decide_eq_true_eq]
  constructor
  · rintro ⟨k, ⟨h1, h2⟩, rfl⟩
    exact ⟨k, h1, rfl, h2⟩
  · rintro ⟨k, h1, rfl, h2⟩
    exact ⟨k, ⟨h1, h2⟩, rfl⟩
theorem ren_asc (ms o : List Int) : (ren ms o).Pairwise (· < ·) := by
  unfold ren
  rw [List.pairwise_map]
  exact (List.Pairwise.filter _ List.pairwise_lt_range).imp fun h => by omega
theorem getD_mem {l : List Int} {i : Nat} (h : i < l.length) : l.getD i 0 ∈ l := by
  rw [List.getD_eq_getElem?_getD, List.getElem?_eq_getElem h]
  exact List.getElem_mem _
theorem asc_at {l : List Int} (hp : l.Pairwise (· < ·)) {i j : Nat} (hij : i < j) (hj : j < l.length) : l.getD i 0 < l.getD j 0 := by
  rw [List.getD_eq_getElem?_getD, List.getElem?_eq_getElem (by omega), List.getD_eq_getElem?_getD, List.getElem?_eq_getElem hj]
  exact List.pairwise_iff_getElem.mp hp i j (by omega) hj hij
theorem ren_cnt {ms o : List Int} (hm : ms.Pairwise (· < ·)) (ho : o.Pairwise (· < ·)) : ((List.range o.length).filter fun k => decide (o.getD k 0 ∈ ms)).map (fun k => ((cntLt ms (o.getD k 0) : Nat) : Int)) = ren ms o := by
  refine strict_eq ?_ (ren_asc ms o) fun x => ?_
  · rw [List.pairwise_map]
    refine List.Pairwise.imp_of_mem (fun {a b} ha hb hab => ?_) (List.Pairwise.filter _ List.pairwise_lt_range)
    simp only [List.mem_filter, List.mem_range, decide_eq_true_eq] at ha hb
    have := cnt_lt (asc_at ho hab hb.1) ms ha.2
    omega
  · rw [mem_ren]
    simp only [List.mem_map, List.mem_filter, List.mem_range, decide_eq_true_eq]
    constructor
    · rintro ⟨k, ⟨h1, h2⟩, rfl⟩
      obtain ⟨i, hi⟩ := List.getElem?_of_mem h2
      have hl := (List.getElem?_eq_some_iff.mp hi).1
      have e : ms.getD i 0 = o.getD k 0 := by
        rw [List.getD_eq_getElem?_getD, hi]
        rfl
      refine ⟨i, hl, ?_, ?_⟩
      · rw [← e, cnt_at ms i hm hl]
      · rw [e]
        exact getD_mem h1
    · rintro ⟨i, h1, rfl, h2⟩
      obtain ⟨k, hk⟩ := List.getElem?_of_mem h2
      have hl := (List.getElem?_eq_some_iff.mp hk).1
      have e : o.getD k 0 = ms.getD i 0 := by
        rw [List.getD_eq_getElem?_getD, hk]
        rfl
      refine ⟨k, ⟨hl, ?_⟩, ?_⟩
      · rw [e]
        exact getD_mem h1
      · rw [e, cnt_at ms i hm h1]
theorem len_filter (p : Int → Bool) : ∀ l : List Int, ((List.range l.length).filter fun k => p (l.getD k 0)).length = (l.filter p).length
  | [] => rfl
  | x :: l => by
    have ih := len_filter p l
    rw [List.length_cons, List.range_succ_eq_map, List.filter_cons, List.filter_cons, List.filter_map]
    have e : ((fun k => p ((x :: l).getD k 0)) ∘ Nat.succ) = fun k => p (l.getD k 0) := rfl
    rw [e]
    show (if p x = true then _ else _ : List Nat).length = _
    by_cases h : p x = true
    · rw [if_pos h, if_pos h, List.length_cons, List.length_cons, List.length_map, ih]
    · rw [if_neg h, if_neg h, List.length_map, ih]
theorem given_cnt (ms : List Int) (x : Int) (v : Nat → V) : (Evl.given (ms.map V.int).length (fun k => decide (ms.getD k 0 < x)) v).length = cntLt ms x := by
  unfold Evl.given cntLt
  rw [List.length_map, List.length_map]
  exact len_filter (fun m => decide (m < x)) ms
end Pb

set_option Elab.async false
set_option linter.all false
set_option maxRecDepth 100000
namespace Pb
open PySem PySem.Spec PyProof.Rows L2
/-! ### a tuple of a length -/
def isTupOf : PyData → Int → Bool
  | .tuple ds, n => decide ((ds.length : Int) = n)
  | _, _ => false
def rTupN (K : PySem.W.Frag) : List V → Hp → V → Prop := fun vs H z => ∃ x d c, vs = [x, .int c] ∧ Da K H x d ∧ z = .bl (isTupOf d c)
theorem isTupOf_two {d : PyData} (h : isTupOf d 2 = true) : ∃ a b, d = .tuple [a, b] := by
  cases d with
  | tuple ds =>
    simp only [isTupOf, decide_eq_true_eq] at h
    match ds, h with
    | [x, y], _ => exact ⟨x, y, rfl⟩
  | none => simp [isTupOf] at h
  | bool _ => simp [isTupOf] at h
  | int _ => simp [isTupOf] at h
  | str _ => simp [isTupOf] at h
  | list _ => simp [isTupOf] at h
  | dict _ => simp [isTupOf] at h
theorem isTab_not {d : PyData} (h : isTupOf d 2 = false) : isTab d = false := by
  cases d with
  | tuple ds => exact isTab_tup fun z => by simp [isTupOf, z] at h
  | _ => rfl
end Pb

set_option Elab.async false
set_option linter.all false
set_option maxRecDepth 100000
namespace Pb
open PySem PySem.Spec PyProof.Rows L2
/-! ### a def's slots by data: what a slot holds, and what stands in the heap -/
inductive Sl where
  | no
  | val (d : PyData)
  | own (es : List PyData)
  | deck (d : Addr)
  | exn (a : Addr) (d : Option Addr) (fs : List (Str × PyData))
abbrev Rho := List Sl
/-- a caught error's dict -/
def XdO (K : PySem.W.Frag) (X : Hp) : Option Addr → List (Str × PyData) → Prop
  | none, [] => True
  | some dd, [(f, e)] => ∃ v, X dd = some (.xd [(f, v)]) ∧ Da K X v e
  | _, _ => False
theorem XdO.mono {K : PySem.W.Frag} {X Y : Hp} {d : Option Addr} {fs : List (Str × PyData)} (h : XdO K X d fs) (s : Same X Y) : XdO K Y d fs := by
  match d, fs, h with
  | none, [], _ => trivial
  | some dd, [(f, e)], ⟨v, h1, h2⟩ => exact ⟨v, s _ _ h1, h2.mono s⟩
def SlOk (K : PySem.W.Frag) (T ow : List Addr) (H : Hp) (o : Option V) : Sl → Prop
  | .no => True
  | .val d => ∃ v, o = some v ∧ Da K (hs T H) v d
  | .own es => ∃ fo vs, o = some (.ref fo) ∧ fo ∈ ow ∧ H fo = some (.lst vs) ∧ DaAll K (hs T H) vs es
  | .deck d => o = some (.ref d)
  | .exn a d fs => o = some (.ref a) ∧ XdO K (hs T H) d fs
structure SimO (K : PySem.W.Frag) (S : List Addr) (H0 : Hp) (G : Hp → Prop) (T ow : List Addr) (ρ : Rho) (σ : L2.St) (H : Hp) : Prop where
  len : σ.length = ρ.length
  slot : ∀ (i : Nat) (s : Sl), ρ[i]? = some s → ∃ o, σ[i]? = some o ∧ SlOk K T ow H o s
  inj : ∀ (i j : Nat) (es es' : List PyData), i ≠ j → ρ[i]? = some (.own es) → ρ[j]? = some (.own es') → σ[i]? ≠ σ[j]?
  old : Same H0 H
  new : ∀ a ∈ ow, H0 a = none
  sub : ∀ a ∈ S, a ∈ T
  owT : ∀ a ∈ ow, a ∈ T
  tr : Tr T H
  trS : Tr S H0
  mo : ∀ H H', Same H H' → G H → G H'
  fr : G (hs T H)
  lsT : ∀ a ∈ T, a ∈ S ∨ ∃ xs, H a = some (.lst xs)
def Sim (K : PySem.W.Frag) (S : List Addr) (H0 : Hp) (G : Hp → Prop) (ρ : Rho) (σ : L2.St) (H : Hp) : Prop := ∃ T ow, SimO K S H0 G T ow ρ σ H
theorem SlOk.move {K : PySem.W.Frag} {T T' ow ow' : List Addr} {H H' : Hp} {o : Option V} {s : Sl} (h : SlOk K T ow H o s) (sm : Same (hs T H) (hs T' H')) (kp : ∀ fo vs, o = some (.ref fo) → fo ∈ ow → H fo = some (.lst vs) → fo ∈ ow' ∧ H' fo = some (.lst vs)) : SlOk K T' ow' H' o s := by
  cases s with
  | no => trivial
  | deck d => exact h
  | exn a d fs => exact ⟨h.1, h.2.mono sm⟩
  | val d =>
    obtain ⟨v, e, hd⟩ := h
    exact ⟨v, e, hd.mono sm⟩
  | own es =>
    obtain ⟨fo, vs, e, h1, h2, h3⟩ := h
    obtain ⟨k1, k2⟩ := kp fo vs e h1 h2
    exact ⟨fo, vs, e, k1, k2, h3.mono sm⟩
section
variable {K : PySem.W.Frag} {S : List Addr} {H0 : Hp} {G : Hp → Prop} {T ow : List Addr} {ρ : Rho} {σ : L2.St} {H H' : Hp}
theorem SimO.mono (h : SimO K S H0 G T ow ρ σ H) (s : Same H H') : SimO K S H0 G T ow ρ σ H' :=
  { len := h.len, inj := h.inj, new := h.new, sub := h.sub, owT := h.owT, trS := h.trS, mo := h.mo,
    slot := fun i sl e => by
      obtain ⟨o, ho, hs'⟩ := h.slot i sl e
      exact ⟨o, ho, hs'.move (hs_mono s) fun fo vs _ k1 k2 => ⟨k1, s _ _ k2⟩⟩
    old := h.old.trans s
    tr := h.tr.same s
    lsT := fun a ha => (h.lsT a ha).imp id fun ⟨xs, e⟩ => ⟨xs, s _ _ e⟩
    fr := h.mo _ _ (hs_mono s) h.fr }
theorem SimO.sim (h : SimO K S H0 G T ow ρ σ H) : Sim K S H0 G ρ σ H := ⟨T, ow, h⟩
theorem SimO.weak {G' : Hp → Prop} (h : SimO K S H0 G T ow ρ σ H) (mo : ∀ H H', Same H H' → G' H → G' H') (hg : G' (hs T H)) : SimO K S H0 G' T ow ρ σ H :=
  { len := h.len, slot := h.slot, inj := h.inj, old := h.old, new := h.new, sub := h.sub, owT := h.owT, tr := h.tr, trS := h.trS, mo := mo, fr := hg, lsT := h.lsT }
/-- one slot set to what is no list of its own -/
theorem SimO.put (h : SimO K S H0 G T ow ρ σ H) {i : Nat} {o : Option V} {s : Sl} (hs' : SlOk K T ow H o s) (hn : ∀ es, s ≠ .own es) : SimO K S H0 G T ow (ρ.set i s) (σ.set i o) H :=
  { old := h.old, new := h.new, sub := h.sub, owT := h.owT, tr := h.tr, trS := h.trS, mo := h.mo, fr := h.fr, lsT := h.lsT,
    len := by rw [List.length_set, List.length_set, h.len]
    slot := fun j sl e => by
      by_cases hj : i = j
      · subst hj
        rw [List.getElem?_set] at e
        simp only [if_true] at e
        split at e
        · rename_i hl
          cases e
          refine ⟨o, ?_, hs'⟩
          rw [List.getElem?_set_self (by rw [h.len]; exact hl)]
        · cases e
      · rw [List.getElem?_set_ne hj] at e ⊢
        exact h.slot j sl e
    inj := fun a b es es' hab e1 e2 => by
      have ha : i ≠ a := fun z => by
        subst z
        rw [List.getElem?_set] at e1
        simp only [if_true] at e1
        split at e1
        · exact hn es (Option.some.inj e1)
        · cases e1
      have hb : i ≠ b := fun z => by
        subst z
        rw [List.getElem?_set] at e2
        simp only [if_true] at e2
        split at e2
        · exact hn es' (Option.some.inj e2)
        · cases e2
      rw [List.getElem?_set_ne ha] at e1 ⊢
      rw [List.getElem?_set_ne hb] at e2 ⊢
      exact h.inj a b es es' hab e1 e2 }
theorem SimO.setV (h : SimO K S H0 G T ow ρ σ H) {i : Nat} {v : V} {d : PyData} (hd : Da K (hs T H) v d) : SimO K S H0 G T ow (ρ.set i (.val d)) (σ.set i (some v)) H := h.put ⟨v, rfl, hd⟩ (fun _ z => by cases z)
theorem SimO.setN (h : SimO K S H0 G T ow ρ σ H) {i : Nat} {o : Option V} : SimO K S H0 G T ow (ρ.set i .no) (σ.set i o) H := h.put trivial (fun _ z => by cases z)
def wipeR (ρ : Rho) : List Nat → Rho
  | [] => ρ
  | v :: vs => (wipeR ρ vs).set v .no
theorem SimO.wipe (h : SimO K S H0 G T ow ρ σ H) : ∀ vs, SimO K S H0 G T ow (wipeR ρ vs) (L2.wipe σ vs) H
  | [] => h
  | v :: vs => (SimO.wipe h vs).setN
/-- one more hidden address -/
theorem SimO.hide (h : SimO K S H0 G T ow ρ σ H) {D : Addr} (hD : H D = none) {vs : List V} : SimO K S H0 G (D :: T) ow ρ σ (upd H D (.lst vs)) :=
  { len := h.len, inj := h.inj, new := h.new, trS := h.trS, mo := h.mo,
    sub := fun a ha => List.mem_cons_of_mem _ (h.sub a ha)
    owT := fun a ha => List.mem_cons_of_mem _ (h.owT a ha)
    old := h.old.trans (same_upd hD)
    slot := fun i sl e => by
      obtain ⟨o, ho, hs'⟩ := h.slot i sl e
      exact ⟨o, ho, hs'.move (hs_cons_new hD) fun fo vs _ k1 k2 => ⟨k1, same_upd hD _ _ k2⟩⟩
    tr := fun x hx => by
      rcases List.mem_cons.mp hx with rfl | hx
      · exact ⟨_, upd_same⟩
      · exact h.tr.same (same_upd hD) x hx
    lsT := fun x hx => by
      rcases List.mem_cons.mp hx with rfl | hx
      · exact .inr ⟨_, upd_same⟩
      · exact (h.lsT x hx).imp id fun ⟨xs, e⟩ => ⟨xs, same_upd hD _ _ e⟩
    fr := h.mo _ _ (hs_cons_new hD) h.fr }
/-- a new list in a slot -/
theorem SimO.setO (h : SimO K S H0 G T ow ρ σ H) {i : Nat} {p : Addr} {vs : List V} {es : List PyData} (hp : H p = none) (s : Same H H') (hp' : H' p = some (.lst vs)) (hd : DaAll K (hs (p :: T) H') vs es) :
    SimO K S H0 G (p :: T) (p :: ow) (ρ.set i (.own es)) (σ.set i (some (.ref p))) H' := by
  have sm : Same (hs T H) (hs (p :: T) H') := fun a o e => by
    obtain ⟨h1, h2⟩ := hs_some e
    have ne : a ≠ p := fun z => by
      rw [z, hp] at h2
      cases h2
    rw [hs_out (by simp [ne, h1])]
    exact s _ _ h2
  have kp : ∀ {o : Option V} (fo : Addr) (vs : List V), o = some (.ref fo) → fo ∈ ow → H fo = some (.lst vs) → fo ∈ p :: ow ∧ H' fo = some (.lst vs) := fun fo vs _ k1 k2 => ⟨List.mem_cons_of_mem _ k1, s _ _ k2⟩
  have pno : ∀ (j : Nat) (es' : List PyData), ρ[j]? = some (.own es') → σ[j]? ≠ some (some (.ref p)) := fun j es' e z => by
    obtain ⟨o, ho, fo, ws, e1, _, e3, _⟩ := h.slot j _ e
    rw [ho] at z
    cases z
    cases e1
    rw [hp] at e3
    cases e3
  refine { len := by rw [List.length_set, List.length_set, h.len], old := h.old.trans s, trS := h.trS, mo := h.mo, fr := h.mo _ _ sm h.fr, sub := fun a ha => List.mem_cons_of_mem _ (h.sub a ha), owT := ?owT, new := ?new, tr := ?tr, slot := ?slot, inj := ?inj, lsT := ?lsT }
  case lsT =>
    intro x hx
    rcases List.mem_cons.mp hx with rfl | hx
    · exact .inr ⟨_, hp'⟩
    · exact (h.lsT x hx).imp id fun ⟨xs, e⟩ => ⟨xs, s _ _ e⟩
  case owT =>
    intro a ha
    rcases List.mem_cons.mp ha with rfl | ha
    · exact List.mem_cons_self
    · exact List.mem_cons_of_mem _ (h.owT a ha)
  case new =>
    intro a ha
    rcases List.mem_cons.mp ha with rfl | ha
    · exact h.old.free hp
    · exact h.new a ha
  case tr =>
    intro x hx
    rcases List.mem_cons.mp hx with rfl | hx
    · exact ⟨_, hp'⟩
    · exact h.tr.same s x hx
  case slot =>
    intro j sl e
    by_cases hj : i = j
    · subst hj
      rw [List.getElem?_set] at e
      simp only [if_true] at e
      split at e
      · rename_i hl
        cases e
        refine ⟨some (.ref p), by rw [List.getElem?_set_self (by rw [h.len]; exact hl)], p, vs, rfl, List.mem_cons_self, hp', hd⟩
      · cases e
    · rw [List.getElem?_set_ne hj] at e ⊢
      obtain ⟨o, ho, hs'⟩ := h.slot j sl e
      exact ⟨o, ho, hs'.move sm kp⟩
  case inj =>
    intro a b es1 es2 hab e1 e2
    by_cases ha : i = a
    · subst ha
      rw [List.getElem?_set_ne hab] at e2 ⊢
      intro z
      have hl : i < ρ.length := by
        rw [List.getElem?_set] at e1
        simp only [if_true] at e1
        split at e1
        · assumption
        · cases e1
      rw [List.getElem?_set_self (by rw [h.len]; exact hl)] at z
      exact pno b es2 e2 z.symm
    · rw [List.getElem?_set_ne ha] at e1 ⊢
      by_cases hb : i = b
      · subst hb
        have hl : i < ρ.length := by
          rw [List.getElem?_set] at e2
          simp only [if_true] at e2
          split at e2
          · assumption
          · cases e2
        rw [List.getElem?_set_self (by rw [h.len]; exact hl)]
        exact pno a es1 e1
      · rw [List.getElem?_set_ne hb] at e2 ⊢
        exact h.inj a b es1 es2 hab e1 e2
/-- the list of a slot changed -/
theorem SimO.chg (h : SimO K S H0 G T ow ρ σ H) {i : Nat} {fo : Addr} {es es' : List PyData} {vs' : List V} (he : ρ[i]? = some (.own es)) (hσ : σ[i]? = some (some (.ref fo))) (hd : DaAll K (hs T H) vs' es') :
    SimO K S H0 G T ow (ρ.set i (.own es')) σ (upd H fo (.lst vs')) := by
  obtain ⟨o, ho, fo', ws, e1, e2, e3, e4⟩ := h.slot i _ he
  rw [hσ] at ho
  cases ho
  cases e1
  have hl : i < ρ.length := (List.getElem?_eq_some_iff.mp he).1
  have hT : fo ∈ T := h.owT fo e2
  have hsE : ∀ {o : HO}, hs T (upd H fo o) = hs T H := fun {o} => hs_put hT
  refine { len := by rw [List.length_set, h.len], new := h.new, sub := h.sub, owT := h.owT, trS := h.trS, mo := h.mo, lsT := ?lsT, old := ?old, tr := ?tr, slot := ?slot, inj := ?inj, fr := by rw [hsE]; exact h.fr }
  case lsT =>
    intro x hx
    by_cases z : x = fo
    · rw [z]
      exact .inr ⟨_, upd_same⟩
    · exact (h.lsT x hx).imp id fun ⟨xs, e⟩ => ⟨xs, by rw [upd_ne z]; exact e⟩
  case old =>
    intro a o e
    have ne : a ≠ fo := fun z => by
      rw [z, h.new fo e2] at e
      cases e
    rw [upd_ne ne]
    exact h.old _ _ e
  case tr =>
    intro x hx
    by_cases z : x = fo
    · rw [z]
      exact ⟨_, upd_same⟩
    · rw [upd_ne z]
      exact h.tr x hx
  case slot =>
    intro j sl e
    by_cases hj : i = j
    · subst hj
      rw [List.getElem?_set_self hl] at e
      cases e
      exact ⟨_, hσ, fo, vs', rfl, e2, upd_same, by rw [hsE]; exact hd⟩
    · rw [List.getElem?_set_ne hj] at e
      obtain ⟨o, ho, hs'⟩ := h.slot j sl e
      refine ⟨o, ho, ?_⟩
      cases sl with
      | no => trivial
      | deck d => exact hs'
      | exn a d fs => exact ⟨hs'.1, by rw [hsE]; exact hs'.2⟩
      | val d =>
        obtain ⟨v, ev, hv⟩ := hs'
        exact ⟨v, ev, by rw [hsE]; exact hv⟩
      | own fs =>
        obtain ⟨fo2, ws2, q1, q2, q3, q4⟩ := hs'
        have ne : fo2 ≠ fo := fun z => by
          refine h.inj j i _ _ (fun z => hj z.symm) e he ?_
          rw [ho, hσ, q1, z]
        exact ⟨fo2, ws2, q1, q2, by rw [upd_ne ne]; exact q3, by rw [hsE]; exact q4⟩
  case inj =>
    intro a b es1 es2 hab e1' e2'
    have un : ∀ (c : Nat) (es3 : List PyData), (ρ.set i (.own es'))[c]? = some (.own es3) → ∃ es4, ρ[c]? = some (.own es4) := fun c es3 e => by
      by_cases hc : i = c
      · subst hc
        exact ⟨_, he⟩
      · rw [List.getElem?_set_ne hc] at e
        exact ⟨_, e⟩
    obtain ⟨_, g1⟩ := un a _ e1'
    obtain ⟨_, g2⟩ := un b _ e2'
    exact h.inj a b _ _ hab g1 g2
/-- a list of its own from here on not changed any more -/
theorem SimO.freeze (h : SimO K S H0 G T ow ρ σ H) {i : Nat} {es : List PyData} (he : ρ[i]? = some (.own es)) : ∃ T' ow', SimO K S H0 G T' ow' (ρ.set i (.val (.list es))) σ H := by
  obtain ⟨o, ho, fo, ws, e1, e2, e3, e4⟩ := h.slot i _ he
  subst e1
  have hl : i < ρ.length := (List.getElem?_eq_some_iff.mp he).1
  have sm : Same (hs T H) (hs (T.filter (· ≠ fo)) H) := msk_to_hs fun x hx => (List.mem_filter.mp hx).1
  have fT : fo ∉ T.filter (· ≠ fo) := fun z => by simpa using (List.mem_filter.mp z).2
  refine ⟨T.filter (· ≠ fo), ow.filter (· ≠ fo), { len := by rw [List.length_set, h.len], old := h.old, trS := h.trS, mo := h.mo, fr := h.mo _ _ sm h.fr, new := fun a ha => h.new a (List.mem_filter.mp ha).1, tr := fun x hx => h.tr x (List.mem_filter.mp hx).1, lsT := fun x hx => h.lsT x (List.mem_filter.mp hx).1, sub := ?sub, owT := ?owT, slot := ?slot, inj := ?inj }⟩
  case sub =>
    intro a ha
    refine List.mem_filter.mpr ⟨h.sub a ha, ?_⟩
    have ne : a ≠ fo := fun z => by
      obtain ⟨o, eo⟩ := h.trS a ha
      rw [z, h.new fo e2] at eo
      cases eo
    simpa using ne
  case owT =>
    intro a ha
    obtain ⟨k1, k2⟩ := List.mem_filter.mp ha
    exact List.mem_filter.mpr ⟨h.owT a k1, k2⟩
  case slot =>
    intro j sl e
    by_cases hj : i = j
    · subst hj
      rw [List.getElem?_set_self hl] at e
      cases e
      exact ⟨_, ho, .ref fo, rfl, .lst (SqL.of (hs_at fT e3)) (e4.mono sm)⟩
    · rw [List.getElem?_set_ne hj] at e
      obtain ⟨o', ho', hs'⟩ := h.slot j sl e
      refine ⟨o', ho', ?_⟩
      cases sl with
      | no => trivial
      | deck d => exact hs'
      | exn a d fs => exact ⟨hs'.1, hs'.2.mono sm⟩
      | val d =>
        obtain ⟨v, ev, hv⟩ := hs'
        exact ⟨v, ev, hv.mono sm⟩
      | own fs =>
        obtain ⟨fo2, ws2, q1, q2, q3, q4⟩ := hs'
        have ne : fo2 ≠ fo := fun z => by
          refine h.inj j i _ _ (fun z => hj z.symm) e he ?_
          rw [ho', ho, q1, z]
        exact ⟨fo2, ws2, q1, List.mem_filter.mpr ⟨q2, by simpa using ne⟩, q3, q4.mono sm⟩
  case inj =>
    intro a b es1 es2 hab e1' e2'
    have un : ∀ (c : Nat) (es3 : List PyData), (ρ.set i (.val (.list es)))[c]? = some (.own es3) → ρ[c]? = some (.own es3) := fun c es3 e => by
      by_cases hc : i = c
      · subst hc
        rw [List.getElem?_set_self hl] at e
        cases e
      · rw [List.getElem?_set_ne hc] at e
        exact e
    exact h.inj a b _ _ hab (un a _ e1') (un b _ e2')
end
end Pb

set_option Elab.async false
set_option linter.all false
set_option maxRecDepth 100000
namespace Pb
open PySem PySem.Spec PyProof.Rows L2
/-! ### readings as functions of the slots' data -/
/-- data, or a list of its own that is read -/
def Dv (K : PySem.W.Frag) (T : List Addr) (H : Hp) (v : V) (e : PyData) : Prop := Da K (hs T H) v e ∨ ∃ p xs es, v = .ref p ∧ e = .list es ∧ H p = some (.lst xs) ∧ DaAll K (hs T H) xs es
section
variable {K : PySem.W.Frag} {T : List Addr} {H H' : Hp} {v : V} {e : PyData}
theorem Dv.mono (h : Dv K T H v e) (s : Same H H') : Dv K T H' v e := by
  rcases h with h | ⟨p, xs, es, h1, h2, h3, h4⟩
  · exact .inl (h.mono (hs_mono s))
  · exact .inr ⟨p, xs, es, h1, h2, s _ _ h3, h4.mono (hs_mono s)⟩
theorem Dv.da (h : Dv K T H v e) : Da K H v e := by
  rcases h with h | ⟨p, xs, es, rfl, rfl, h3, h4⟩
  · exact h.mono hs_sub
  · exact .lst (SqL.of h3) (h4.mono hs_sub)
theorem Dv.lst {es : List PyData} (h : Dv K T H v (.list es)) : ∃ p xs, v = .ref p ∧ SqL K H p xs ∧ DaAll K (hs T H) xs es := by
  rcases h with h | ⟨p, xs, es', rfl, e, h3, h4⟩
  · cases h with
    | @lst a xs _ h1 h2 => exact ⟨a, xs, rfl, Same.seq hs_sub h1, h2⟩
  · cases e
    exact ⟨p, xs, rfl, SqL.of h3, h4⟩
theorem Dv.tup {es : List PyData} (h : Dv K T H v (.tuple es)) : ∃ p xs, v = .ref p ∧ SqT K H p xs ∧ DaAll K (hs T H) xs es ∧ Da K (hs T H) v (.tuple es) := by
  rcases h with h | ⟨p, xs, es', rfl, e, h3, h4⟩
  · have h' := h
    cases h with
    | @tup a xs _ h1 h2 => exact ⟨a, xs, rfl, Same.tq hs_sub h1, h2, h'⟩
  · cases e
theorem Dv.int {i : Int} (h : Dv K T H v (.int i)) : v = .int i := by
  rcases h with h | ⟨p, xs, es', rfl, e, h3, h4⟩
  · cases h
    rfl
  · cases e
theorem Dv.bl {b : Bool} (h : Dv K T H v (.bool b)) : v = .bl b := by
  rcases h with h | ⟨p, xs, es', rfl, e, h3, h4⟩
  · cases h
    rfl
  · cases e
theorem Dv.str {x : Str} (h : Dv K T H v (.str x)) : v = .str x := by
  rcases h with h | ⟨p, xs, es', rfl, e, h3, h4⟩
  · cases h
    rfl
  · cases e
theorem Dv.non (h : Dv K T H v .none) : v = .non := by
  rcases h with h | ⟨p, xs, es', rfl, e, h3, h4⟩
  · cases h
    rfl
  · cases e
end
inductive DvAll (K : PySem.W.Frag) (T : List Addr) (H : Hp) : List V → List PyData → Prop
  | nil : DvAll K T H [] []
  | cons {v : V} {vs : List V} {d : PyData} {ds : List PyData} : Dv K T H v d → DvAll K T H vs ds → DvAll K T H (v :: vs) (d :: ds)
theorem DvAll.mono {K : PySem.W.Frag} {T : List Addr} {H H' : Hp} : ∀ {vs : List V} {ds : List PyData}, DvAll K T H vs ds → Same H H' → DvAll K T H' vs ds
  | _, _, .nil, _ => .nil
  | _, _, .cons h1 h2, s => .cons (h1.mono s) (DvAll.mono h2 s)
section
variable (K : PySem.W.Frag)
def EvS (te : TE) (φ : Rho → Option PyData) : Prop := ∀ S H0 G T ow ρ σ H e, SimO K S H0 G T ow ρ σ H → φ ρ = some e → ∀ Q : VK, (∀ v H', Same H H' → Da K (hs T H') v e → Q v H') → te σ H Q
def EvTr (te : TE) (φ : Rho → Option PyData) : Prop := ∀ S H0 G T ow ρ σ H e, SimO K S H0 G T ow ρ σ H → φ ρ = some e → ∀ Q : VK, (∀ v H', Same H H' → Dv K T H' v e → Q v H') → te σ H Q
/-- a new list -/
def EvF (te : TE) (φ : Rho → Option (List PyData)) : Prop := ∀ S H0 G T ow ρ σ H es, SimO K S H0 G T ow ρ σ H → φ ρ = some es → ∀ Q : VK, (∀ p vs H', Same H H' → H p = none → H' p = some (.lst vs) → DaAll K (hs (p :: T) H') vs es → Q (.ref p) H') → te σ H Q
/-- a list whose items are told (new, or of a slot) -/
def EvLi (te : TE) (φ : Rho → Option (List PyData)) : Prop := ∀ S H0 G T ow ρ σ H es, SimO K S H0 G T ow ρ σ H → φ ρ = some es → ∀ Q : VK, (∀ p vs H', Same H H' → H' p = some (.lst vs) → DaAll K (hs T H') vs es → Q (.ref p) H') → te σ H Q
def TeP (tt : TT) (β : Rho → Option Bool) : Prop := ∀ S H0 G T ow ρ σ H b, SimO K S H0 G T ow ρ σ H → β ρ = some b → ∀ Q : Bool → Hp → Prop, (∀ H', Same H H' → Q b H') → tt σ H Q
def EvAS (ta : TA) (φ : Rho → Option (List PyData)) : Prop := ∀ S H0 G T ow ρ σ H es, SimO K S H0 G T ow ρ σ H → φ ρ = some es → ∀ Q : List V → Hp → Prop, (∀ vs H', Same H H' → DaAll K (hs T H') vs es → Q vs H') → ta σ H Q
def EvAT (ta : TA) (φ : Rho → Option (List PyData)) : Prop := ∀ S H0 G T ow ρ σ H es, SimO K S H0 G T ow ρ σ H → φ ρ = some es → ∀ Q : List V → Hp → Prop, (∀ vs H', Same H H' → DvAll K T H' vs es → Q vs H') → ta σ H Q
def EvOI (to : TO) (φ : Rho → Option (Option Int)) : Prop := ∀ S H0 G T ow ρ σ H o, SimO K S H0 G T ow ρ σ H → φ ρ = some o → ∀ Q : Option Int → Hp → Prop, (∀ H', Same H H' → Q o H') → to σ H Q
/-- an operation's, a builtin's reading -/
def OpS (r : R2) (f : PyData → PyData → Option PyData) : Prop := ∀ T H x y d1 d2 e, Tr T H → Dv K T H x d1 → Dv K T H y d2 → f d1 d2 = some e → ∀ Q : VK, (∀ v H', Same H H' → Da K (hs T H') v e → Q v H') → r x y H Q
def UnS (r : V → Hp → VK → Prop) (f : PyData → Option PyData) : Prop := ∀ T H x d e, Tr T H → Dv K T H x d → f d = some e → ∀ Q : VK, (∀ v H', Same H H' → Da K (hs T H') v e → Q v H') → r x H Q
def CbS (r : List V → Hp → VK → Prop) (f : List PyData → Option PyData) : Prop := ∀ T H xs ds e, Tr T H → DvAll K T H xs ds → f ds = some e → ∀ Q : VK, (∀ v H', Same H H' → Da K (hs T H') v e → Q v H') → r xs H Q
/-- a builtin that makes a list -/
def CbF (r : List V → Hp → VK → Prop) (f : List PyData → Option (List PyData)) : Prop := ∀ T H xs ds es, Tr T H → DvAll K T H xs ds → f ds = some es → ∀ Q : VK, (∀ p vs H', Same H H' → H p = none → H' p = some (.lst vs) → DaAll K (hs (p :: T) H') vs es → Q (.ref p) H') → r xs H Q
end
section
variable {K : PySem.W.Frag}
def rv (ρ : Rho) (i : Nat) : Option PyData := match ρ[i]? with
  | some (.val d) => some d
  | _ => none
def ro (ρ : Rho) (i : Nat) : Option (List PyData) := match ρ[i]? with
  | some (.own es) => some es
  | _ => none
/-! the readings' own words -/
def eVar (i : Nat) : Rho → Option PyData := fun ρ => rv ρ i
def lOwn (i : Nat) : Rho → Option (List PyData) := fun ρ => ro ρ i
def eInt (i : Int) : Rho → Option PyData := fun _ => some (.int i)
def eBl (b : Bool) : Rho → Option PyData := fun _ => some (.bool b)
def eStr (x : Str) : Rho → Option PyData := fun _ => some (.str x)
def eNon : Rho → Option PyData := fun _ => some .none
def eL (φ : Rho → Option (List PyData)) : Rho → Option PyData := fun ρ => (φ ρ).map .list
def aNil : Rho → Option (List PyData) := fun _ => some []
def aCons (φ : Rho → Option PyData) (φs : Rho → Option (List PyData)) : Rho → Option (List PyData) := fun ρ => (φ ρ).bind fun x => (φs ρ).map (x :: ·)
def lim (es : List PyData) : Option (List PyData) := if es.length ≤ 100000 then some es else none
def eTup (φs : Rho → Option (List PyData)) : Rho → Option PyData := fun ρ => ((φs ρ).bind lim).map .tuple
def lLst (φs : Rho → Option (List PyData)) : Rho → Option (List PyData) := fun ρ => (φs ρ).bind lim
def eOp (f : PyData → PyData → Option PyData) (φ ψ : Rho → Option PyData) : Rho → Option PyData := fun ρ => (φ ρ).bind fun x => (ψ ρ).bind fun y => f x y
def eUn (f : PyData → Option PyData) (φ : Rho → Option PyData) : Rho → Option PyData := fun ρ => (φ ρ).bind f
def eCb (f : List PyData → Option PyData) (φs : Rho → Option (List PyData)) : Rho → Option PyData := fun ρ => (φs ρ).bind f
def lCb (f : List PyData → Option (List PyData)) (φs : Rho → Option (List PyData)) : Rho → Option (List PyData) := fun ρ => (φs ρ).bind f
def lCat (φ ψ : Rho → Option (List PyData)) : Rho → Option (List PyData) := fun ρ => (φ ρ).bind fun x => (ψ ρ).bind fun y => lim (x ++ y)
def asB : PyData → Option Bool
  | .bool b => some b
  | _ => none
def asI : PyData → Option Int
  | .int i => some i
  | _ => none
def eAnd (φ ψ : Rho → Option PyData) : Rho → Option PyData := fun ρ => ((φ ρ).bind asB).bind fun c => if c then ψ ρ else some (.bool false)
def eOr (φ ψ : Rho → Option PyData) : Rho → Option PyData := fun ρ => ((φ ρ).bind asB).bind fun c => if c then some (.bool true) else ψ ρ
def eNot (φ : Rho → Option PyData) : Rho → Option PyData := fun ρ => ((φ ρ).bind asB).map fun c => .bool (!c)
def bTest (φ : Rho → Option PyData) : Rho → Option Bool := fun ρ => (φ ρ).bind asB
def bYes : Rho → Option Bool := fun _ => some true
def bAnd (β γ : Rho → Option Bool) : Rho → Option Bool := fun ρ => (β ρ).bind fun c => if c then γ ρ else some false
def bOr (β γ : Rho → Option Bool) : Rho → Option Bool := fun ρ => (β ρ).bind fun c => if c then some true else γ ρ
def bNot (β : Rho → Option Bool) : Rho → Option Bool := fun ρ => (β ρ).map (!·)
def eIf (β : Rho → Option Bool) (φ ψ : Rho → Option PyData) : Rho → Option PyData := fun ρ => (β ρ).bind fun c => if c then φ ρ else ψ ρ
def eChain (f g : PyData → PyData → Option PyData) (φ ψ χ : Rho → Option PyData) : Rho → Option PyData := fun ρ => (φ ρ).bind fun x => (ψ ρ).bind fun y => ((f x y).bind asB).bind fun c => if c then (χ ρ).bind fun z => g y z else some (.bool false)
def oNone : Rho → Option (Option Int) := fun _ => some none
def oSome (φ : Rho → Option PyData) : Rho → Option (Option Int) := fun ρ => ((φ ρ).bind asI).map some
theorem rv_some {ρ : Rho} {i : Nat} {d : PyData} (h : rv ρ i = some d) : ρ[i]? = some (.val d) := by
  unfold rv at h
  split at h
  · rename_i e
    cases h
    exact e
  · cases h
theorem ro_some {ρ : Rho} {i : Nat} {d : List PyData} (h : ro ρ i = some d) : ρ[i]? = some (.own d) := by
  unfold ro at h
  split at h
  · rename_i e
    cases h
    exact e
  · cases h
theorem EvS.t {te : TE} {φ : Rho → Option PyData} (h : EvS K te φ) : EvTr K te φ := fun S H0 G T ow ρ σ H e sm he Q q => h S H0 G T ow ρ σ H e sm he Q fun v H' s hd => q v H' s (.inl hd)
theorem EvF.s {te : TE} {φ : Rho → Option (List PyData)} (h : EvF K te φ) : EvS K te (eL φ) := fun S H0 G T ow ρ σ H e sm he Q q => by
  obtain ⟨es, h1, rfl⟩ := Option.map_eq_some_iff.mp he
  exact h S H0 G T ow ρ σ H es sm h1 Q fun p vs H' s hp hp' hd => q (.ref p) H' s (.lst (SqL.of (hs_at (sm.tr.out hp) hp')) (hd.mono hs_cons_sub))
theorem EvF.l {te : TE} {φ : Rho → Option (List PyData)} (h : EvF K te φ) : EvLi K te φ := fun S H0 G T ow ρ σ H es sm he Q q =>
  h S H0 G T ow ρ σ H es sm he Q fun p vs H' s hp hp' hd => q p vs H' s hp' (hd.mono hs_cons_sub)
theorem EvLi.t {te : TE} {φ : Rho → Option (List PyData)} (h : EvLi K te φ) : EvTr K te (eL φ) := fun S H0 G T ow ρ σ H e sm he Q q => by
  obtain ⟨es, h1, rfl⟩ := Option.map_eq_some_iff.mp he
  exact h S H0 G T ow ρ σ H es sm h1 Q fun p vs H' s hp' hd => q (.ref p) H' s (.inr ⟨p, vs, es, rfl, rfl, hp', hd⟩)
/-! names and constants -/
theorem xs_var (i : Nat) : EvS K (tVar i) (eVar i) := fun S H0 G T ow ρ σ H e sm he Q q => by
  obtain ⟨o, ho, v, rfl, hd⟩ := sm.slot i _ (rv_some he)
  exact ⟨v, ho, q v H (Same.refl _) hd⟩
theorem xl_own (i : Nat) : EvLi K (tVar i) (lOwn i) := fun S H0 G T ow ρ σ H es sm he Q q => by
  obtain ⟨o, ho, fo, vs, rfl, _, h2, h3⟩ := sm.slot i _ (ro_some he)
  exact ⟨_, ho, q fo vs H (Same.refl _) h2 h3⟩
theorem xs_int (i : Int) : EvS K (tC (.int i)) (eInt i) := fun S H0 G T ow ρ σ H e sm he Q q => by
  cases he
  exact q _ H (Same.refl _) (.int i)
theorem xs_bl (b : Bool) : EvS K (tC (.bl b)) (eBl b) := fun S H0 G T ow ρ σ H e sm he Q q => by
  cases he
  exact q _ H (Same.refl _) (.bl b)
theorem xs_str (x : Str) : EvS K (tC (.str x)) (eStr x) := fun S H0 G T ow ρ σ H e sm he Q q => by
  cases he
  exact q _ H (Same.refl _) (.str x)
theorem xs_non : EvS K (tC .non) eNon := fun S H0 G T ow ρ σ H e sm he Q q => by
  cases he
  exact q _ H (Same.refl _) .non
/-! arguments -/
theorem xa_nil : EvAS K tNil aNil := fun S H0 G T ow ρ σ H e sm he Q q => by
  cases he
  exact q [] H (Same.refl _) .nil
theorem xa_cons {te : TE} {ta : TA} {φ : Rho → Option PyData} {φs : Rho → Option (List PyData)} (h : EvS K te φ) (hr : EvAS K ta φs) : EvAS K (tCons te ta) (aCons φ φs) := fun S H0 G T ow ρ σ H es sm he Q q => by
  obtain ⟨x, h1, h2⟩ := Option.bind_eq_some_iff.mp he
  obtain ⟨xs, h3, rfl⟩ := Option.map_eq_some_iff.mp h2
  exact h S H0 G T ow ρ σ H x sm h1 _ fun v H1 s1 hv => hr S H0 G T ow ρ σ H1 xs (sm.mono s1) h3 _ fun vs H2 s2 hvs => q (v :: vs) H2 (s1.trans s2) (.cons (hv.mono (hs_mono s2)) hvs)
theorem xt_nil : EvAT K tNil aNil := fun S H0 G T ow ρ σ H e sm he Q q => by
  cases he
  exact q [] H (Same.refl _) .nil
theorem xt_cons {te : TE} {ta : TA} {φ : Rho → Option PyData} {φs : Rho → Option (List PyData)} (h : EvTr K te φ) (hr : EvAT K ta φs) : EvAT K (tCons te ta) (aCons φ φs) := fun S H0 G T ow ρ σ H es sm he Q q => by
  obtain ⟨x, h1, h2⟩ := Option.bind_eq_some_iff.mp he
  obtain ⟨xs, h3, rfl⟩ := Option.map_eq_some_iff.mp h2
  exact h S H0 G T ow ρ σ H x sm h1 _ fun v H1 s1 hv => hr S H0 G T ow ρ σ H1 xs (sm.mono s1) h3 _ fun vs H2 s2 hvs => q (v :: vs) H2 (s1.trans s2) (.cons (hv.mono s2) hvs)
/-! displays -/
theorem lim_some {es fs : List PyData} (h : lim es = some fs) : es.length ≤ 100000 ∧ fs = es := by
  unfold lim at h
  split at h
  · rename_i z
    cases h
    exact ⟨z, rfl⟩
  · cases h
theorem xs_tup {ta : TA} {φs : Rho → Option (List PyData)} (h : EvAS K ta φs) : EvS K (tTup ta) (eTup φs) := fun S H0 G T ow ρ σ H e sm he Q q => by
  obtain ⟨es, h1, rfl⟩ := Option.map_eq_some_iff.mp he
  obtain ⟨xs, h2, h3⟩ := Option.bind_eq_some_iff.mp h1
  obtain ⟨hl, rfl⟩ := lim_some h3
  exact h S H0 G T ow ρ σ H es sm h2 _ fun vs H2 s2 hvs => ⟨Evl.sz_of (by rw [DaAll.len hvs]; exact hl), fun p hp => q (.ref p) _ (s2.trans (same_upd hp)) (.tup (SqT.of (hs_at ((sm.tr.same s2).out hp) upd_same)) (hvs.mono (hs_mono (same_upd hp))))⟩
theorem xf_lst {ta : TA} {φs : Rho → Option (List PyData)} (h : EvAS K ta φs) : EvF K (tLst ta) (lLst φs) := fun S H0 G T ow ρ σ H es sm he Q q => by
  obtain ⟨xs, h2, h3⟩ := Option.bind_eq_some_iff.mp he
  obtain ⟨hl, rfl⟩ := lim_some h3
  exact h S H0 G T ow ρ σ H es sm h2 _ fun vs H2 s2 hvs => ⟨Evl.sz_of (by rw [DaAll.len hvs]; exact hl), fun p hp => q p vs _ (s2.trans (same_upd hp)) (s2.free hp) upd_same (hvs.mono (hs_cons_new hp))⟩
/-! operations -/
theorem xs_op {r : R2} {f : PyData → PyData → Option PyData} {ta tb : TE} {φ ψ : Rho → Option PyData} (hr : OpS K r f) (ha : EvTr K ta φ) (hb : EvTr K tb ψ) : EvS K (tOp r ta tb) (eOp f φ ψ) := fun S H0 G T ow ρ σ H e sm he Q q => by
  obtain ⟨x, h1, h2⟩ := Option.bind_eq_some_iff.mp he
  obtain ⟨y, h3, h4⟩ := Option.bind_eq_some_iff.mp h2
  exact ha S H0 G T ow ρ σ H x sm h1 _ fun v H1 s1 hv => hb S H0 G T ow ρ σ H1 y (sm.mono s1) h3 _ fun u H2 s2 hu => hr T H2 v u x y e (sm.tr.same (s1.trans s2)) (hv.mono s2) hu h4 _ fun z H3 s3 hz => q z H3 ((s1.trans s2).trans s3) hz
theorem xs_un {r : V → Hp → VK → Prop} {f : PyData → Option PyData} {ta : TE} {φ : Rho → Option PyData} (hr : UnS K r f) (ha : EvTr K ta φ) : EvS K (tUn r ta) (eUn f φ) := fun S H0 G T ow ρ σ H e sm he Q q => by
  obtain ⟨x, h1, h2⟩ := Option.bind_eq_some_iff.mp he
  exact ha S H0 G T ow ρ σ H x sm h1 _ fun v H1 s1 hv => hr T H1 v x e (sm.tr.same s1) hv h2 _ fun z H3 s3 hz => q z H3 (s1.trans s3) hz
theorem xs_cb {r : List V → Hp → VK → Prop} {f : List PyData → Option PyData} {ta : TA} {φs : Rho → Option (List PyData)} (hr : CbS K r f) (ha : EvAT K ta φs) : EvS K (tCB r ta) (eCb f φs) := fun S H0 G T ow ρ σ H e sm he Q q => by
  obtain ⟨xs, h1, h2⟩ := Option.bind_eq_some_iff.mp he
  exact ha S H0 G T ow ρ σ H xs sm h1 _ fun vs H1 s1 hv => hr T H1 vs xs e (sm.tr.same s1) hv h2 _ fun z H3 s3 hz => q z H3 (s1.trans s3) hz
theorem xf_cb {r : List V → Hp → VK → Prop} {f : List PyData → Option (List PyData)} {ta : TA} {φs : Rho → Option (List PyData)} (hr : CbF K r f) (ha : EvAT K ta φs) : EvF K (tCB r ta) (lCb f φs) := fun S H0 G T ow ρ σ H e sm he Q q => by
  obtain ⟨xs, h1, h2⟩ := Option.bind_eq_some_iff.mp he
  exact ha S H0 G T ow ρ σ H xs sm h1 _ fun vs H1 s1 hv => hr T H1 vs xs e (sm.tr.same s1) hv h2 _ fun p ws H3 s3 hp hp' hz => q p ws H3 (s1.trans s3) (s1.free hp) hp' hz
/-- list + list -/
theorem xf_cat {ta tb : TE} {φ ψ : Rho → Option (List PyData)} (ha : EvLi K ta φ) (hb : EvLi K tb ψ) : EvF K (tOp rCat ta tb) (lCat φ ψ) := fun S H0 G T ow ρ σ H e sm he Q q => by
  obtain ⟨x, h1, h2⟩ := Option.bind_eq_some_iff.mp he
  obtain ⟨y, h3, h4⟩ := Option.bind_eq_some_iff.mp h2
  obtain ⟨hl, rfl⟩ := lim_some h4
  refine ha S H0 G T ow ρ σ H x sm h1 _ fun a vs H1 s1 ha1 hv => hb S H0 G T ow ρ σ H1 y (sm.mono s1) h3 _ fun b us H2 s2 hb2 hu => ⟨a, b, vs, us, rfl, rfl, s2 _ _ ha1, hb2, ?_, fun p hp => ?_⟩
  · refine Evl.sz_of ?_
    rw [DaAll.len hv, DaAll.len hu, ← List.length_append]
    exact hl
  · exact q p _ _ ((s1.trans s2).trans (same_upd hp)) ((s1.trans s2).free hp) upd_same (((hv.mono (hs_mono s2)).append hu).mono (hs_cons_new hp))
/-! calls of defs -/
def RF (g : List PyData → Option PyData) : List PyData → PyData → Prop := fun ds e => g ds = some e
theorem xs_call {g : List PyData → Option PyData} {ta : TA} {φs : Rho → Option (List PyData)} {E : XK} (ha : EvAS K ta φs) : EvS K (tCall (spD K (RF g)) [] E ta) (eCb g φs) := fun S H0 G T ow ρ σ H e sm he Q q => by
  obtain ⟨xs, h1, h2⟩ := Option.bind_eq_some_iff.mp he
  refine ha S H0 G T ow ρ σ H xs sm h1 _ fun vs H1 s1 hv => ?_
  show spD K (RF g) (vs ++ []) H1 Q E
  rw [List.append_nil]
  exact ⟨T, xs, e, sm.tr.same s1, hv, h2, fun v H2 s2 hd => q v H2 (s1.trans s2) hd⟩
/-! truth values -/
theorem asB_some {d : PyData} {b : Bool} (h : asB d = some b) : d = .bool b := by
  cases d <;> simp [asB] at h
  rw [h]
theorem xs_and {ta tb : TE} {φ ψ : Rho → Option PyData} (ha : EvTr K ta φ) (hb : EvS K tb ψ) : EvS K (tAndV ta tb) (eAnd φ ψ) := fun S H0 G T ow ρ σ H e sm he Q q => by
  obtain ⟨c, h1, h2⟩ := Option.bind_eq_some_iff.mp he
  obtain ⟨x, h3, h4⟩ := Option.bind_eq_some_iff.mp h1
  obtain rfl := asB_some h4
  refine ha S H0 G T ow ρ σ H _ sm h3 _ fun v H1 s1 hv => ⟨c, hv.bl, ?_⟩
  cases c with
  | true => exact hb S H0 G T ow ρ σ H1 e (sm.mono s1) (by simpa using h2) _ fun u H2 s2 hu => q u H2 (s1.trans s2) hu
  | false =>
    have : e = .bool false := by simpa using h2.symm
    subst this
    exact q _ H1 s1 (.bl false)
theorem xs_or {ta tb : TE} {φ ψ : Rho → Option PyData} (ha : EvTr K ta φ) (hb : EvS K tb ψ) : EvS K (tOrV ta tb) (eOr φ ψ) := fun S H0 G T ow ρ σ H e sm he Q q => by
  obtain ⟨c, h1, h2⟩ := Option.bind_eq_some_iff.mp he
  obtain ⟨x, h3, h4⟩ := Option.bind_eq_some_iff.mp h1
  obtain rfl := asB_some h4
  refine ha S H0 G T ow ρ σ H _ sm h3 _ fun v H1 s1 hv => ⟨c, hv.bl, ?_⟩
  cases c with
  | false => exact hb S H0 G T ow ρ σ H1 e (sm.mono s1) (by simpa using h2) _ fun u H2 s2 hu => q u H2 (s1.trans s2) hu
  | true =>
    have : e = .bool true := by simpa using h2.symm
    subst this
    exact q _ H1 s1 (.bl true)
theorem xs_not {ta : TE} {φ : Rho → Option PyData} (ha : EvTr K ta φ) : EvS K (tNotV ta) (eNot φ) := fun S H0 G T ow ρ σ H e sm he Q q => by
  obtain ⟨c, h1, rfl⟩ := Option.map_eq_some_iff.mp he
  obtain ⟨x, h3, h4⟩ := Option.bind_eq_some_iff.mp h1
  obtain rfl := asB_some h4
  exact ha S H0 G T ow ρ σ H _ sm h3 _ fun v H1 s1 hv => ⟨c, hv.bl, q _ H1 s1 (.bl _)⟩
theorem tt_test {ta : TE} {φ : Rho → Option PyData} (ha : EvTr K ta φ) : TeP K (tTest ta) (bTest φ) := fun S H0 G T ow ρ σ H b sm he Q q => by
  obtain ⟨x, h3, h4⟩ := Option.bind_eq_some_iff.mp he
  obtain rfl := asB_some h4
  exact ha S H0 G T ow ρ σ H _ sm h3 _ fun v H1 s1 hv => ⟨b, hv.bl, q H1 s1⟩
theorem tt_B {ta : TE} {φ : Rho → Option PyData} (ha : EvTr K ta φ) : TeP K (tB ta) (bTest φ) := fun S H0 G T ow ρ σ H b sm he Q q => by
  obtain ⟨x, h3, h4⟩ := Option.bind_eq_some_iff.mp he
  obtain rfl := asB_some h4
  exact ha S H0 G T ow ρ σ H _ sm h3 _ fun v H1 s1 hv => ⟨b, hv.bl, q H1 s1⟩
theorem tt_yes : TeP K tYes bYes := fun S H0 G T ow ρ σ H b sm he Q q => by
  cases he
  exact q H (Same.refl _)
theorem tt_and {t u : TT} {β γ : Rho → Option Bool} (ha : TeP K t β) (hb : TeP K u γ) : TeP K (tAnd t u) (bAnd β γ) := fun S H0 G T ow ρ σ H b sm he Q q => by
  obtain ⟨c, h1, h2⟩ := Option.bind_eq_some_iff.mp he
  refine ha S H0 G T ow ρ σ H c sm h1 _ fun H1 s1 => ?_
  cases c with
  | true =>
    show u σ H1 Q
    exact hb S H0 G T ow ρ σ H1 b (sm.mono s1) (by simpa using h2) _ fun H2 s2 => q H2 (s1.trans s2)
  | false =>
    have : b = false := by simpa using h2.symm
    subst this
    exact q H1 s1
theorem tt_or {t u : TT} {β γ : Rho → Option Bool} (ha : TeP K t β) (hb : TeP K u γ) : TeP K (tOr t u) (bOr β γ) := fun S H0 G T ow ρ σ H b sm he Q q => by
  obtain ⟨c, h1, h2⟩ := Option.bind_eq_some_iff.mp he
  refine ha S H0 G T ow ρ σ H c sm h1 _ fun H1 s1 => ?_
  cases c with
  | false =>
    show u σ H1 Q
    exact hb S H0 G T ow ρ σ H1 b (sm.mono s1) (by simpa using h2) _ fun H2 s2 => q H2 (s1.trans s2)
  | true =>
    have : b = true := by simpa using h2.symm
    subst this
    exact q H1 s1
theorem tt_not {t : TT} {β : Rho → Option Bool} (ha : TeP K t β) : TeP K (tNot t) (bNot β) := fun S H0 G T ow ρ σ H b sm he Q q => by
  obtain ⟨c, h1, rfl⟩ := Option.map_eq_some_iff.mp he
  exact ha S H0 G T ow ρ σ H c sm h1 _ fun H1 s1 => q H1 s1
theorem xs_ifE {t : TT} {ta tb : TE} {β : Rho → Option Bool} {φ ψ : Rho → Option PyData} (ht : TeP K t β) (ha : EvS K ta φ) (hb : EvS K tb ψ) : EvS K (tIf t ta tb) (eIf β φ ψ) := fun S H0 G T ow ρ σ H e sm he Q q => by
  obtain ⟨c, h1, h2⟩ := Option.bind_eq_some_iff.mp he
  refine ht S H0 G T ow ρ σ H c sm h1 _ fun H1 s1 => ?_
  cases c with
  | true => exact ha S H0 G T ow ρ σ H1 e (sm.mono s1) (by simpa using h2) _ fun u H2 s2 hu => q u H2 (s1.trans s2) hu
  | false => exact hb S H0 G T ow ρ σ H1 e (sm.mono s1) (by simpa using h2) _ fun u H2 s2 hu => q u H2 (s1.trans s2) hu
/-- a < b < c -/
theorem xs_chain {r r' : R2} {f g : PyData → PyData → Option PyData} {ta tb tc : TE} {φ ψ χ : Rho → Option PyData} (hr : OpS K r f) (hr' : OpS K r' g) (ha : EvTr K ta φ) (hb : EvTr K tb ψ) (hc : EvTr K tc χ) :
    EvS K (tChain r r' ta tb tc) (eChain f g φ ψ χ) := fun S H0 G T ow ρ σ H e sm he Q q => by
  obtain ⟨x, h1, h2⟩ := Option.bind_eq_some_iff.mp he
  obtain ⟨y, h3, h4⟩ := Option.bind_eq_some_iff.mp h2
  obtain ⟨c, h5, h6⟩ := Option.bind_eq_some_iff.mp h4
  obtain ⟨w, h7, h8⟩ := Option.bind_eq_some_iff.mp h5
  obtain rfl := asB_some h8
  refine ha S H0 G T ow ρ σ H x sm h1 _ fun v H1 s1 hv => hb S H0 G T ow ρ σ H1 y (sm.mono s1) h3 _ fun u H2 s2 hu => hr T H2 v u x y _ (sm.tr.same (s1.trans s2)) (hv.mono s2) hu h7 _ fun z H3 s3 hz => ⟨c, ?_, ?_⟩
  · cases hz
    rfl
  · cases c with
    | true =>
      obtain ⟨d, h9, h10⟩ := Option.bind_eq_some_iff.mp (show (χ ρ).bind _ = some e by simpa using h6)
      exact hc S H0 G T ow ρ σ H3 d (sm.mono ((s1.trans s2).trans s3)) h9 _ fun k H4 s4 hk => hr' T H4 u k y d e (sm.tr.same (((s1.trans s2).trans s3).trans s4)) (hu.mono (s3.trans s4)) hk h10 _ fun z' H5 s5 hz' => q z' H5 ((((s1.trans s2).trans s3).trans s4).trans s5) hz'
    | false =>
      have : e = .bool false := by simpa using h6.symm
      subst this
      exact q _ H3 ((s1.trans s2).trans s3) (.bl false)
/-! slices -/
theorem xo_none : EvOI K tNoPart oNone := fun S H0 G T ow ρ σ H o sm he Q q => by
  cases he
  exact q H (Same.refl _)
theorem asI_some {d : PyData} {i : Int} (h : asI d = some i) : d = .int i := by
  cases d <;> simp [asI] at h
  rw [h]
theorem xo_some {te : TE} {φ : Rho → Option PyData} (h : EvTr K te φ) : EvOI K (tPart te) (oSome φ) := fun S H0 G T ow ρ σ H o sm he Q q => by
  obtain ⟨i, h1, rfl⟩ := Option.map_eq_some_iff.mp he
  obtain ⟨x, h3, h4⟩ := Option.bind_eq_some_iff.mp h1
  obtain rfl := asI_some h4
  exact h S H0 G T ow ρ σ H _ sm h3 _ fun v H1 s1 hv => ⟨i, hv.int, q H1 s1⟩
end
end Pb

set_option Elab.async false
set_option linter.all false
set_option maxRecDepth 100000
namespace Pb
open PySem PySem.Spec PyProof.Rows L2
/-! ### targets -/
section
variable (K : PySem.W.Frag)
def TgP (g : TG) (js : List Nat) (τ : PyData → Rho → Option Rho) : Prop := ∀ S H0 G T ow ρ σ H x e ρ', SimO K S H0 G T ow ρ σ H → Da K (hs T H) x e → τ e ρ = some ρ' → ∀ Q : L2.St → Hp → Prop,
  (∀ σ', SimO K S H0 G T ow ρ' σ' H → (∀ vs : List Nat, (∀ j ∈ js, j ∈ vs) → L2.wipe σ' vs = L2.wipe σ vs) → Q σ' H) → g x σ H Q
def TgsP (g : TGs) (js : List Nat) (τ : List PyData → Rho → Option Rho) : Prop := ∀ S H0 G T ow ρ σ H xs es ρ', SimO K S H0 G T ow ρ σ H → DaAll K (hs T H) xs es → τ es ρ = some ρ' → ∀ Q : L2.St → Hp → Prop,
  (∀ σ', SimO K S H0 G T ow ρ' σ' H → (∀ vs : List Nat, (∀ j ∈ js, j ∈ vs) → L2.wipe σ' vs = L2.wipe σ vs) → Q σ' H) → g xs σ H Q
end
def gN (i : Nat) : PyData → Rho → Option Rho := fun e ρ => some (ρ.set i (.val e))
def gT (τ : List PyData → Rho → Option Rho) : PyData → Rho → Option Rho
  | .tuple es, ρ => τ es ρ
  | _, _ => none
def g0 : List PyData → Rho → Option Rho
  | [], ρ => some ρ
  | _, _ => none
def gC (τ : PyData → Rho → Option Rho) (τs : List PyData → Rho → Option Rho) : List PyData → Rho → Option Rho
  | e :: es, ρ => (τ e ρ).bind (τs es)
  | [], _ => none
theorem wipe_set {i : Nat} {o : Option V} : ∀ (σ : L2.St) (vs : List Nat), i ∈ vs → L2.wipe (σ.set i o) vs = L2.wipe σ vs
  | _, [], h => absurd h List.not_mem_nil
  | σ, v :: vs, h => by
    unfold L2.wipe
    by_cases hv : i ∈ vs
    · rw [wipe_set σ vs hv]
    · have e : v = i := by
        rcases List.mem_cons.mp h with z | z
        · exact z.symm
        · exact absurd z hv
      subst e
      have : ∀ (us : List Nat), v ∉ us → L2.wipe (σ.set v o) us = (L2.wipe σ us).set v o := by
        intro us
        induction us with
        | nil => intro _; rfl
        | cons u us ih =>
          intro hu
          unfold L2.wipe
          rw [ih (fun z => hu (List.mem_cons_of_mem _ z)), List.set_comm]
          exact fun z => hu (by rw [z]; exact List.mem_cons_self)
      rw [this vs hv, List.set_set]
theorem wipe_wipe (σ : L2.St) : ∀ (vs us : List Nat), (∀ j ∈ vs, j ∈ us) → L2.wipe (L2.wipe σ vs) us = L2.wipe σ us
  | [], us, _ => rfl
  | v :: vs, us, h => by
    show L2.wipe ((L2.wipe σ vs).set v none) us = _
    rw [wipe_set _ us (h v List.mem_cons_self), wipe_wipe σ vs us fun j hj => h j (List.mem_cons_of_mem _ hj)]
section
variable {K : PySem.W.Frag}
theorem tg_name (i : Nat) : TgP K (gName i) [i] (gN i) := fun S H0 G T ow ρ σ H x e ρ' sm hd he Q q => by
  cases he
  exact q _ (sm.setV hd) fun vs h => wipe_set _ _ (h i List.mem_cons_self)
theorem tgs_nil : TgsP K gNil [] g0 := fun S H0 G T ow ρ σ H xs es ρ' sm hd he Q q => by
  cases es with
  | nil =>
    cases he
    cases hd
    exact ⟨rfl, q σ sm fun _ _ => rfl⟩
  | cons _ _ => cases he
theorem tgs_cons {g : TG} {gs : TGs} {js ks : List Nat} {τ : PyData → Rho → Option Rho} {τs : List PyData → Rho → Option Rho} (h : TgP K g js τ) (hs' : TgsP K gs ks τs) : TgsP K (gCons g gs) (js ++ ks) (gC τ τs) := fun S H0 G T ow ρ σ H xs es ρ' sm hd he Q q => by
  cases es with
  | nil => cases he
  | cons e es =>
    obtain ⟨ρ1, h1, h2⟩ := Option.bind_eq_some_iff.mp he
    cases hd with
    | cons d1 d2 => exact ⟨_, _, rfl, h S H0 G T ow ρ σ H _ e ρ1 sm d1 h1 _ fun σ1 sm1 w1 => hs' S H0 G T ow ρ1 σ1 H _ es ρ' sm1 d2 h2 _ fun σ2 sm2 w2 => q σ2 sm2 fun vs hv => (w2 vs fun j hj => hv j (List.mem_append_right _ hj)).trans (w1 vs fun j hj => hv j (List.mem_append_left _ hj))⟩
theorem tg_tup {gs : TGs} {js : List Nat} {n : Nat} {τs : List PyData → Rho → Option Rho} (h : TgsP K gs js τs) (hn : ∀ es ρ ρ', τs es ρ = some ρ' → es.length = n) : TgP K (gTup K n gs) js (gT τs) := fun S H0 G T ow ρ σ H x e ρ' sm hd he Q q => by
  cases e with
  | tuple es =>
    cases hd with
    | @tup a xs _ h1 h2 => exact ⟨a, xs, rfl, Same.tq hs_sub h1, by rw [DaAll.len h2]; exact hn _ _ _ he, h S H0 G T ow ρ σ H xs es ρ' sm h2 he Q q⟩
  | _ => cases he
theorem g0_len : ∀ es ρ ρ', g0 es ρ = some ρ' → es.length = 0
  | [], _, _, _ => rfl
  | _ :: _, _, _, h => by cases h
theorem gC_len {τ : PyData → Rho → Option Rho} {τs : List PyData → Rho → Option Rho} {n : Nat} (h : ∀ es ρ ρ', τs es ρ = some ρ' → es.length = n) : ∀ es ρ ρ', gC τ τs es ρ = some ρ' → es.length = n + 1
  | [], _, _, z => by cases z
  | e :: es, ρ, ρ', z => by
    obtain ⟨ρ1, h1, h2⟩ := Option.bind_eq_some_iff.mp z
    rw [List.length_cons, h es ρ1 ρ' h2]
end
/-! ### what is walked -/
structure ItOk (K : PySem.W.Frag) (T : List Addr) (H1 : Hp) (J : It) (es : List PyData) : Prop where
  ex : ∃ (F Gw : Hp → Prop) (Yw : Nat → Hp → V → Hp → Prop), (∀ H H', Same H H' → F H → F H') ∧ F (hs T H1) ∧ Walk J es.length Gw Yw ∧ (∀ T' H2, F (hs T' H2) → Gw H2) ∧
    (∀ T' H2 i x H', F (hs T' H2) → Tr T' H2 → i < es.length → Yw i H2 x H' → Same H2 H' ∧ ∃ e, es[i]? = some e ∧ Da K (hs T' H') x e)
section
variable (K : PySem.W.Frag)
def ItP (wi : TI) (φ : Rho → Option (List PyData)) : Prop := ∀ S H0 G T ow ρ σ H es, SimO K S H0 G T ow ρ σ H → φ ρ = some es → ∀ R : It → Hp → Prop, (∀ J H1, Same H H1 → ItOk K T H1 J es → R J H1) → wi σ H R
end
def asL : PyData → Option (List PyData)
  | .list es => some es
  | _ => none
def asT : PyData → Option (List PyData)
  | .tuple es => some es
  | _ => none
def enumD (es : List PyData) : List PyData := es.zipIdx.map fun p => .tuple [.int (p.2 : Int), p.1]
def zipD (es fs : List PyData) : List PyData := (es.zip fs).map fun p => .tuple [p.1, p.2]
def rngD (lo hi : Int) : List PyData := (List.range (hi - lo).toNat).map fun (i : Nat) => .int (lo + (i : Int))
def small (i : Int) : Bool := decide (-(2 ^ 62) ≤ i ∧ i < 2 ^ 62)
def iL (φ : Rho → Option PyData) : Rho → Option (List PyData) := fun ρ => (φ ρ).bind asL
def iT (φ : Rho → Option PyData) : Rho → Option (List PyData) := fun ρ => (φ ρ).bind asT
def iR (φ : Rho → Option PyData) : Rho → Option (List PyData) := fun ρ => ((φ ρ).bind asI).bind fun j => if small j then some (rngD 0 j) else none
def iR2 (φ ψ : Rho → Option PyData) : Rho → Option (List PyData) := fun ρ => ((φ ρ).bind asI).bind fun i => ((ψ ρ).bind asI).bind fun j => if small i && small j then some (rngD i j) else none
def iE (φ : Rho → Option PyData) : Rho → Option (List PyData) := fun ρ => ((φ ρ).bind asL).map enumD
def iET (φ : Rho → Option PyData) : Rho → Option (List PyData) := fun ρ => ((φ ρ).bind asT).map enumD
section
variable {K : PySem.W.Frag}
theorem asL_some {d : PyData} {es : List PyData} (h : asL d = some es) : d = .list es := by
  cases d <;> simp [asL] at h
  rw [h]
theorem asT_some {d : PyData} {es : List PyData} (h : asT d = some es) : d = .tuple es := by
  cases d <;> simp [asT] at h
  rw [h]
theorem rngD_len {lo hi : Int} : (rngD lo hi).length = (hi - lo).toNat := by simp [rngD]
theorem it_range {T : List Addr} {H1 : Hp} {lo hi : Int} : ItOk K T H1 (Itr lo (hi - lo).toNat) (rngD lo hi) := ⟨fun _ => True, fun _ => True, _, fun _ _ _ _ => trivial, trivial, by rw [rngD_len]; exact walk_range, fun _ _ _ => trivial, fun T' H2 i x H' _ _ hi y => by
  obtain ⟨rfl, rfl⟩ := y
  refine ⟨Same.refl _, .int (lo + i), ?_, .int _⟩
  rw [rngD_len] at hi
  simp [rngD, hi]⟩
theorem it_tup {T : List Addr} {H1 : Hp} {a : Addr} {xs : List V} {es : List PyData} (h : SqT K (hs T H1) a xs) (hd : DaAll K (hs T H1) xs es) : ItOk K T H1 (Itt K a) es :=
  ⟨fun H => SqT K H a xs ∧ DaAll K H xs es, _, _, fun H H' s h => ⟨Same.tq s h.1, h.2.mono s⟩, ⟨h, hd⟩, by rw [← DaAll.len hd]; exact walk_tup, fun T' H2 h => Same.tq hs_sub h.1, fun T' H2 i x H' h _ hi y => by
    obtain ⟨rfl, e⟩ := y
    obtain ⟨d, h1, h2⟩ := DaAll.get h.2 e
    exact ⟨Same.refl _, d, h1, h2⟩⟩
theorem it_lst {T : List Addr} {H1 : Hp} {a : Addr} {xs : List V} {es : List PyData} (h : SqL K (hs T H1) a xs) (hd : DaAll K (hs T H1) xs es) : ItOk K T H1 (Itl K a) es :=
  ⟨fun H => SqL K H a xs ∧ DaAll K H xs es, _, _, fun H H' s h => ⟨Same.seq s h.1, h.2.mono s⟩, ⟨h, hd⟩, by rw [← DaAll.len hd]; exact walk_list, fun T' H2 h => Same.seq hs_sub h.1, fun T' H2 i x H' h _ hi y => by
    obtain ⟨rfl, e⟩ := y
    obtain ⟨d, h1, h2⟩ := DaAll.get h.2 e
    exact ⟨Same.refl _, d, h1, h2⟩⟩
theorem enumD_len {es : List PyData} : (enumD es).length = es.length := by simp [enumD]
theorem enumD_get {es : List PyData} {i : Nat} {d : PyData} (h : es[i]? = some d) : (enumD es)[i]? = some (.tuple [.int (i : Int), d]) := by
  simp [enumD, h]
theorem da_pair {T : List Addr} {H2 : Hp} {t : Addr} {x y : V} {d e : PyData} (tr : Tr T H2) (ht : H2 t = none) (h1 : Da K (hs T H2) x d) (h2 : Da K (hs T H2) y e) : Da K (hs T (upd H2 t (.tup [x, y]))) (.ref t) (.tuple [d, e]) :=
  .tup (SqT.of (hs_at (tr.out ht) upd_same)) (.cons (h1.mono (hs_mono (same_upd ht))) (.cons (h2.mono (hs_mono (same_upd ht))) .nil))
theorem it_enum {T : List Addr} {H1 : Hp} {a : Addr} {xs : List V} {es : List PyData} (h : SqL K (hs T H1) a xs) (hd : DaAll K (hs T H1) xs es) : ItOk K T H1 (Ite K a) (enumD es) :=
  ⟨fun H => SqL K H a xs ∧ DaAll K H xs es, _, _, fun H H' s h => ⟨Same.seq s h.1, h.2.mono s⟩, ⟨h, hd⟩, by rw [enumD_len, ← DaAll.len hd]; exact walk_enum, fun T' H2 h => Same.seq hs_sub h.1, fun T' H2 i x H' h tr hi y => by
    obtain ⟨t, x1, x2, rfl, ht, rfl, e1, e2⟩ := y
    cases e1
    obtain ⟨d, h1, h2⟩ := DaAll.get h.2 e2
    exact ⟨same_upd ht, _, enumD_get h1, da_pair tr ht (.int _) h2⟩⟩
theorem it_enumT {T : List Addr} {H1 : Hp} {a : Addr} {xs : List V} {es : List PyData} (h : SqT K (hs T H1) a xs) (hd : DaAll K (hs T H1) xs es) : ItOk K T H1 (IteT K a) (enumD es) :=
  ⟨fun H => SqT K H a xs ∧ DaAll K H xs es, _, _, fun H H' s h => ⟨Same.tq s h.1, h.2.mono s⟩, ⟨h, hd⟩, by rw [enumD_len, ← DaAll.len hd]; exact walk_enumT, fun T' H2 h => Same.tq hs_sub h.1, fun T' H2 i x H' h tr hi y => by
    obtain ⟨t, x1, x2, rfl, ht, rfl, e1, e2⟩ := y
    cases e1
    obtain ⟨d, h1, h2⟩ := DaAll.get h.2 e2
    exact ⟨same_upd ht, _, enumD_get h1, da_pair tr ht (.int _) h2⟩⟩
theorem wi_tup {te : TE} {φ : Rho → Option PyData} (h : EvS K te φ) : ItP K (iTup K te) (iT φ) := fun S H0 G T ow ρ σ H es sm he R q => by
  obtain ⟨x, h1, h2⟩ := Option.bind_eq_some_iff.mp he
  obtain rfl := asT_some h2
  refine h S H0 G T ow ρ σ H _ sm h1 _ fun v H1 s1 hv => ?_
  cases hv with
  | @tup a xs _ k1 k2 => exact ⟨a, rfl, ⟨xs, Same.tq hs_sub k1⟩, q _ H1 s1 (it_tup k1 k2)⟩
theorem wi_lst {te : TE} {φ : Rho → Option PyData} (h : EvS K te φ) : ItP K (iList K te) (iL φ) := fun S H0 G T ow ρ σ H es sm he R q => by
  obtain ⟨x, h1, h2⟩ := Option.bind_eq_some_iff.mp he
  obtain rfl := asL_some h2
  refine h S H0 G T ow ρ σ H _ sm h1 _ fun v H1 s1 hv => ?_
  cases hv with
  | @lst a xs _ k1 k2 => exact ⟨a, rfl, ⟨xs, Same.seq hs_sub k1⟩, q _ H1 s1 (it_lst k1 k2)⟩
theorem small_iff {i : Int} (h : small i = true) : -(2 ^ 62) ≤ i ∧ i < 2 ^ 62 := of_decide_eq_true h
theorem wi_rng {te : TE} {φ : Rho → Option PyData} (h : EvTr K te φ) : ItP K (iRng1 (tCons te tNil)) (iR φ) := fun S H0 G T ow ρ σ H es sm he R q => by
  obtain ⟨j, h1, h2⟩ := Option.bind_eq_some_iff.mp he
  obtain ⟨x, h3, h4⟩ := Option.bind_eq_some_iff.mp h1
  obtain rfl := asI_some h4
  split at h2
  · rename_i hz
    cases h2
    obtain ⟨z1, z2⟩ := small_iff hz
    refine h S H0 G T ow ρ σ H _ sm h3 _ fun v H1 s1 hv => ⟨j, by rw [hv.int], z1, z2, ?_⟩
    have e : (j - 0).toNat = j.toNat := by rw [Int.sub_zero]
    exact q _ H1 s1 (e ▸ it_range)
  · cases h2
theorem wi_rng2 {ta tb : TE} {φ ψ : Rho → Option PyData} (ha : EvTr K ta φ) (hb : EvTr K tb ψ) : ItP K (iRng2 (tCons ta (tCons tb tNil))) (iR2 φ ψ) := fun S H0 G T ow ρ σ H es sm he R q => by
  obtain ⟨i, h1, h2⟩ := Option.bind_eq_some_iff.mp he
  obtain ⟨x, h3, h4⟩ := Option.bind_eq_some_iff.mp h1
  obtain rfl := asI_some h4
  obtain ⟨j, h5, h6⟩ := Option.bind_eq_some_iff.mp h2
  obtain ⟨y, h7, h8⟩ := Option.bind_eq_some_iff.mp h5
  obtain rfl := asI_some h8
  split at h6
  · rename_i hz
    cases h6
    rw [Bool.and_eq_true] at hz
    obtain ⟨z1, z2⟩ := small_iff hz.1
    obtain ⟨z3, z4⟩ := small_iff hz.2
    refine ha S H0 G T ow ρ σ H _ sm h3 _ fun v H1 s1 hv => hb S H0 G T ow ρ σ H1 _ (sm.mono s1) h7 _ fun u H2 s2 hu => ⟨i, j, by rw [hv.int, hu.int], ⟨z1, z2, z3, z4⟩, q _ H2 (s1.trans s2) it_range⟩
  · cases h6
theorem wi_enum {te : TE} {φ : Rho → Option PyData} (h : EvS K te φ) : ItP K (iEnum K (tCons te tNil)) (iE φ) := fun S H0 G T ow ρ σ H es sm he R q => by
  obtain ⟨ds, h0, rfl⟩ := Option.map_eq_some_iff.mp he
  obtain ⟨x, h1, h2⟩ := Option.bind_eq_some_iff.mp h0
  obtain rfl := asL_some h2
  refine h S H0 G T ow ρ σ H _ sm h1 _ fun v H1 s1 hv => ?_
  cases hv with
  | @lst a xs _ k1 k2 => exact ⟨a, xs, rfl, Same.seq hs_sub k1, q _ H1 s1 (it_enum k1 k2)⟩
theorem wi_enumT {te : TE} {φ : Rho → Option PyData} (h : EvS K te φ) : ItP K (iEnumT K (tCons te tNil)) (iET φ) := fun S H0 G T ow ρ σ H es sm he R q => by
  obtain ⟨ds, h0, rfl⟩ := Option.map_eq_some_iff.mp he
  obtain ⟨x, h1, h2⟩ := Option.bind_eq_some_iff.mp h0
  obtain rfl := asT_some h2
  refine h S H0 G T ow ρ σ H _ sm h1 _ fun v H1 s1 hv => ?_
  cases hv with
  | @tup a xs _ k1 k2 => exact ⟨a, xs, rfl, Same.tq hs_sub k1, q _ H1 s1 (it_enumT k1 k2)⟩
end
/-! ### comprehensions -/
def lcR (τ : PyData → Rho → Option Rho) (β : Rho → Option Bool) (φ : Rho → Option PyData) (ρ : Rho) : List PyData → Option (List PyData)
  | [] => some []
  | e :: es => (τ e ρ).bind fun ρ' => (β ρ').bind fun c => if c then (φ ρ').bind fun y => (lcR τ β φ ρ es).map (y :: ·) else lcR τ β φ ρ es
def lLc (vs : List Nat) (it : Rho → Option (List PyData)) (τ : PyData → Rho → Option Rho) (β : Rho → Option Bool) (φ : Rho → Option PyData) : Rho → Option (List PyData) := fun ρ => ((it ρ).bind lim).bind fun es => lcR τ β φ (wipeR ρ vs) es
theorem lcR_drop {τ : PyData → Rho → Option Rho} {β : Rho → Option Bool} {φ : Rho → Option PyData} {ρ : Rho} : ∀ {es ys : List PyData}, lcR τ β φ ρ es = some ys → ys.length ≤ es.length
  | [], _, h => by
    cases h
    exact Nat.le_refl _
  | e :: es, ys, h => by
    obtain ⟨ρ', h1, h2⟩ := Option.bind_eq_some_iff.mp h
    obtain ⟨c, h3, h4⟩ := Option.bind_eq_some_iff.mp h2
    cases c with
    | true =>
      obtain ⟨y, h5, h6⟩ := Option.bind_eq_some_iff.mp (show (φ ρ').bind _ = some ys by simpa using h4)
      obtain ⟨zs, h7, rfl⟩ := Option.map_eq_some_iff.mp h6
      have := lcR_drop h7
      simp only [List.length_cons]
      omega
    | false =>
      have := lcR_drop (show lcR τ β φ ρ es = some ys by simpa using h4)
      simp only [List.length_cons]
      omega
section
variable {K : PySem.W.Frag}
theorem xf_lc {wi : TI} {g : TG} {tt : TT} {te : TE} {vs js : List Nat} {it : Rho → Option (List PyData)} {τ : PyData → Rho → Option Rho} {β : Rho → Option Bool} {φ : Rho → Option PyData} (hi : ItP K wi it) (hg : TgP K g js τ) (ht : TeP K tt β) (he : EvS K te φ) (hj : ∀ j ∈ js, j ∈ vs := by decide) :
    EvF K (tLc wi g tt te vs) (lLc vs it τ β φ) := fun S H0 G T ow ρ σ H ys sm hy Q q => by
  obtain ⟨es', h0, h1⟩ := Option.bind_eq_some_iff.mp hy
  obtain ⟨es, h2, h3⟩ := Option.bind_eq_some_iff.mp h0
  obtain ⟨hl, rfl⟩ := lim_some h3
  refine hi S H0 G T ow ρ σ H _ sm h2 _ fun J H1 s1 ⟨F, Gw, Yw, mo, f0, wk, hG, hY⟩ D hD => ?_
  have smW := (sm.mono s1).wipe vs
  refine lc_it wk (fun i H' => ∃ (acc : List V) (ys1 ys2 : List PyData), H' D = some (.lst acc) ∧ DaAll K (hs (D :: T) H') acc ys1 ∧ ys = ys1 ++ ys2 ∧ ys1.length ≤ i ∧ lcR τ β φ (wipeR ρ vs) (es'.drop i) = some ys2 ∧
      SimO K S H0 (fun X => G X ∧ F X) (D :: T) ow (wipeR ρ vs) (L2.wipe σ vs) H' ∧ (∀ a o, a ≠ D → H1 a = some o → H' a = some o)) ?_ ?_ ?_ ?_
  · refine ⟨[], [], ys, upd_same, .nil, rfl, Nat.le_refl _, by simpa using h1, ?_, fun a o hne e => by rw [upd_ne hne]; exact e⟩
    have hh := smW.hide (D := D) (vs := []) hD
    exact hh.weak (fun H H' s h => ⟨sm.mo _ _ s h.1, mo _ _ s h.2⟩) ⟨hh.fr, mo _ _ (hs_cons_new hD) f0⟩
  · rintro i H' _ ⟨acc, ys1, ys2, _, _, _, _, _, sm', _⟩
    exact hG _ _ sm'.fr.2
  · rintro i x H2 H3 hlt ⟨acc, ys1, ys2, e1, e2, rfl, e3, e4, sm', old⟩ y
    obtain ⟨s3, e, he3, hx⟩ := hY _ H2 i x H3 sm'.fr.2 sm'.tr hlt y
    have dr : es'.drop i = e :: es'.drop (i + 1) := by
      rw [List.drop_eq_getElem_cons hlt]
      congr 1
      rw [List.getElem?_eq_getElem hlt] at he3
      exact Option.some.inj he3
    rw [dr] at e4
    obtain ⟨ρ', k1, k2⟩ := Option.bind_eq_some_iff.mp e4
    obtain ⟨c, k3, k4⟩ := Option.bind_eq_some_iff.mp k2
    have sm3 := sm'.mono s3
    refine hg S H0 _ _ ow _ _ H3 x e ρ' sm3 hx k1 _ fun σ2 sm4 wp => ⟨?_, ?_⟩
    · rw [wp vs hj, wipe_wipe σ vs vs fun _ h => h]
    · refine ht S H0 _ _ ow ρ' σ2 H3 c sm4 k3 _ fun H4 s4 => ?_
      have s24 := s3.trans s4
      cases c with
      | true =>
        rw [if_pos rfl]
        obtain ⟨z, k5, k6⟩ := Option.bind_eq_some_iff.mp (show (φ ρ').bind _ = some ys2 by simpa using k4)
        obtain ⟨zs, k7, rfl⟩ := Option.map_eq_some_iff.mp k6
        refine he S H0 _ _ ow ρ' σ2 H4 z (sm4.mono s4) k5 _ fun v H5 s5 hv => ?_
        have s25 := s24.trans s5
        have sm5 := sm'.mono s25
        have la := DaAll.len e2
        refine ⟨acc, s25 _ _ e1, Evl.sz_lt (by omega), acc ++ [v], ys1 ++ [z], zs, upd_same, ?_, by simp, by simp; omega, k7, ?_, fun a o hne ea => ?_⟩
        · rw [hs_put List.mem_cons_self]
          exact (e2.mono (hs_mono s25)).append (.cons hv .nil)
        · have hDo : D ∉ ow := fun z => by
            obtain ⟨o, eo⟩ := sm.tr D (sm.owT D z)
            rw [s1 _ _ eo] at hD
            cases hD
          exact
            { len := sm5.len, inj := sm5.inj, new := sm5.new, sub := sm5.sub, owT := sm5.owT, trS := sm5.trS, mo := sm5.mo,
              old := fun a o ea => by
                have ne : a ≠ D := fun z => by
                  rw [z] at ea
                  rw [s1 _ _ (sm.old _ _ ea)] at hD
                  cases hD
                rw [upd_ne ne]
                exact sm5.old _ _ ea
              tr := fun a ha => by
                by_cases z : a = D
                · rw [z]
                  exact ⟨_, upd_same⟩
                · rw [upd_ne z]
                  exact sm5.tr a ha
              fr := by
                rw [hs_put List.mem_cons_self]
                exact sm5.fr
              lsT := fun a ha => by
                by_cases z : a = D
                · rw [z]
                  exact .inr ⟨_, upd_same⟩
                · exact (sm5.lsT a ha).imp id fun ⟨xs, e⟩ => ⟨xs, by rw [upd_ne z]; exact e⟩
              slot := fun j sl ej => by
                obtain ⟨o, ho, hs'⟩ := sm5.slot j sl ej
                refine ⟨o, ho, hs'.move (by rw [hs_put List.mem_cons_self]; exact Same.refl _) fun fo ws eo m1 m2 => ⟨m1, ?_⟩⟩
                have ne : fo ≠ D := fun z => by
                  rw [z] at m1
                  exact hDo m1
                rw [upd_ne ne]
                exact m2 }
        · rw [upd_ne hne]
          exact s25 _ _ (old a o hne ea)
      | false =>
        rw [if_neg Bool.false_ne_true]
        refine ⟨acc, ys1, ys2, s24 _ _ e1, e2.mono (hs_mono s24), rfl, by omega, by simpa using k4, sm'.mono s24, fun a o hne ea => s24 _ _ (old a o hne ea)⟩
  · rintro H' ⟨acc, ys1, ys2, e1, e2, rfl, _, e4, sm', old⟩
    rw [List.drop_length] at e4
    cases e4
    rw [List.append_nil] at q
    exact q D acc H' (fun a o ea => old a o (fun z => by rw [z, s1.free hD] at ea; cases ea) (s1 _ _ ea)) (s1.free hD) e1 e2
end
end Pb

set_option Elab.async false
set_option linter.all false
set_option maxRecDepth 100000
namespace Pb
open PySem PySem.Spec PyProof.Rows L2
/-! ### statements -/
inductive Res where
  | nx (ρ : Rho)
  | rt (d : PyData)
  | bk (ρ : Rho)
  | ct (ρ : Rho)
  | ex (o : Out)
section
variable (K : PySem.W.Frag) (cl : Str → Addr)
def EndOk (S : List Addr) (H0 : Hp) (G : Hp → Prop) (D : Ends) (E : XK) : Res → Prop
  | .nx ρ => ∀ σ H, Sim K S H0 G ρ σ H → D.nx σ H
  | .rt d => ∀ v H, Same H0 H → Da K (hs S H) v d → D.rt v H
  | .bk ρ => ∀ σ H, Sim K S H0 G ρ σ H → D.bk σ H
  | .ct ρ => ∀ σ H, Sim K S H0 G ρ σ H → D.ct σ H
  | .ex o => OutOk K cl S H0 (fun _ _ => False) E o
def StP (E : XK) (ts : TS) (ψ : Rho → Option Res) : Prop := ∀ S H0 G ρ σ H r, Sim K S H0 G ρ σ H → ψ ρ = some r → ∀ D : Ends, EndOk K cl S H0 G D E r → ts D σ H
end
def thenR (r : Res) (ψ : Rho → Option Res) : Option Res := match r with
  | .nx ρ => ψ ρ
  | r => some r
def sSeq (ψ χ : Rho → Option Res) : Rho → Option Res := fun ρ => (ψ ρ).bind fun r => thenR r χ
def sNil : Rho → Option Res := fun ρ => some (.nx ρ)
def sNever : Rho → Option Res := fun _ => none
def sIf (β : Rho → Option Bool) (ψ χ : Rho → Option Res) : Rho → Option Res := fun ρ => (β ρ).bind fun c => if c then ψ ρ else χ ρ
def sSet (τ : PyData → Rho → Option Rho) (φ : Rho → Option PyData) : Rho → Option Res := fun ρ => (φ ρ).bind fun e => (τ e ρ).map .nx
def sOwn (i : Nat) (φ : Rho → Option (List PyData)) : Rho → Option Res := fun ρ => (φ ρ).map fun es => .nx (ρ.set i (.own es))
def sRet (φ : Rho → Option PyData) : Rho → Option Res := fun ρ => (φ ρ).map .rt
def sRetN : Rho → Option Res := fun _ => some (.rt .none)
def sBrk : Rho → Option Res := fun ρ => some (.bk ρ)
def sCnt : Rho → Option Res := fun ρ => some (.ct ρ)
def sExp (φ : Rho → Option PyData) : Rho → Option Res := fun ρ => (φ ρ).map fun _ => .nx ρ
def sApp (i : Nat) (φ : Rho → Option PyData) : Rho → Option Res := fun ρ => (ro ρ i).bind fun es => if es.length < 100000 then (φ ρ).map fun e => .nx (ρ.set i (.own (es ++ [e]))) else none
def sFrz (i : Nat) (ψ : Rho → Option Res) : Rho → Option Res := fun ρ => (ro ρ i).bind fun es => ψ (ρ.set i (.val (.list es)))
def sPar (i j : Nat) (φs : Rho → Option (List PyData)) : Rho → Option Res := fun ρ => (φs ρ).bind fun es => match es with
  | [a, b] => some (.nx ((ρ.set i (.val a)).set j (.val b)))
  | _ => none
def forR (b : PyData → Rho → Option Res) : List PyData → Rho → Option Res
  | [], ρ => some (.nx ρ)
  | e :: es, ρ => (b e ρ).bind fun r => match r with
    | .nx ρ' => forR b es ρ'
    | .ct ρ' => forR b es ρ'
    | .bk ρ' => some (.nx ρ')
    | r => some r
def sFor (it : Rho → Option (List PyData)) (τ : PyData → Rho → Option Rho) (ψ : Rho → Option Res) : Rho → Option Res := fun ρ => (it ρ).bind fun es => forR (fun e ρ => (τ e ρ).bind ψ) es ρ
def whR (β : Rho → Option Bool) (ψ : Rho → Option Res) : Nat → Rho → Option Res
  | 0, _ => none
  | n + 1, ρ => (β ρ).bind fun c => if c then (ψ ρ).bind fun r => match r with
    | .nx ρ' => whR β ψ n ρ'
    | .ct ρ' => whR β ψ n ρ'
    | .bk ρ' => some (.nx ρ')
    | r => some r
    else some (.nx ρ)
section
variable {K : PySem.W.Frag} {cl : Str → Addr} {E : XK}
theorem ss_nil : StP K cl E tNext sNil := fun S H0 G ρ σ H r sm he D q => by
  cases he
  exact q σ H sm
theorem ss_seq {t u : TS} {ψ χ : Rho → Option Res} (h : StP K cl E t ψ) (k : StP K cl E u χ) : StP K cl E (tSeq t u) (sSeq ψ χ) := fun S H0 G ρ σ H r sm he D q => by
  obtain ⟨r1, h1, h2⟩ := Option.bind_eq_some_iff.mp he
  refine h S H0 G ρ σ H r1 sm h1 _ ?_
  cases r1 with
  | nx ρ' => exact fun σ' H' sm' => k S H0 G ρ' σ' H' r sm' h2 D q
  | rt d =>
    cases h2
    exact q
  | bk ρ' =>
    cases h2
    exact q
  | ct ρ' =>
    cases h2
    exact q
  | ex o =>
    cases h2
    exact q
theorem ss_cut {t u : TS} {ψ χ : Rho → Option Res} (h : StP K cl E t ψ) (k : StP K cl E u χ) : StP K cl E (Evl.tCut t u) (sSeq ψ χ) := fun S H0 G ρ σ H r sm he D q => by
  obtain ⟨r1, h1, h2⟩ := Option.bind_eq_some_iff.mp he
  cases r1 with
  | nx ρ' => exact ⟨Sim K S H0 G ρ', h S H0 G ρ σ H _ sm h1 _ (fun σ' H' sm' => sm'), fun σ' H' sm' => k S H0 G ρ' σ' H' r sm' h2 D q⟩
  | rt d =>
    cases h2
    exact ⟨fun _ _ => False, h S H0 G ρ σ H _ sm h1 _ q, fun _ _ z => z.elim⟩
  | bk ρ' =>
    cases h2
    exact ⟨fun _ _ => False, h S H0 G ρ σ H _ sm h1 _ q, fun _ _ z => z.elim⟩
  | ct ρ' =>
    cases h2
    exact ⟨fun _ _ => False, h S H0 G ρ σ H _ sm h1 _ q, fun _ _ z => z.elim⟩
  | ex o =>
    cases h2
    exact ⟨fun _ _ => False, h S H0 G ρ σ H _ sm h1 _ q, fun _ _ z => z.elim⟩
theorem ss_if {c : TT} {t u : TS} {β : Rho → Option Bool} {ψ χ : Rho → Option Res} (hc : TeP K c β) (h : StP K cl E t ψ) (k : StP K cl E u χ) : StP K cl E (tIfS c t u) (sIf β ψ χ) := fun S H0 G ρ σ H r ⟨T, ow, sm⟩ he D q => by
  obtain ⟨b, h1, h2⟩ := Option.bind_eq_some_iff.mp he
  refine hc S H0 G T ow ρ σ H b sm h1 _ fun H1 s1 => ?_
  cases b with
  | true => exact h S H0 G ρ σ H1 r (sm.mono s1).sim (by simpa using h2) D q
  | false => exact k S H0 G ρ σ H1 r (sm.mono s1).sim (by simpa using h2) D q
theorem ss_never : StP K cl E tNever sNever := fun S H0 G ρ σ H r sm he D q => by cases he
theorem ss_set {te : TE} {g : TG} {js : List Nat} {φ : Rho → Option PyData} {τ : PyData → Rho → Option Rho} (h : EvS K te φ) (hg : TgP K g js τ) : StP K cl E (tAsg te g) (sSet τ φ) := fun S H0 G ρ σ H r ⟨T, ow, sm⟩ he D q => by
  obtain ⟨e, h1, h2⟩ := Option.bind_eq_some_iff.mp he
  obtain ⟨ρ', h3, rfl⟩ := Option.map_eq_some_iff.mp h2
  exact h S H0 G T ow ρ σ H e sm h1 _ fun v H1 s1 hv => hg S H0 G T ow ρ σ H1 v e ρ' (sm.mono s1) hv h3 _ fun σ' sm' _ => q σ' H1 sm'.sim
theorem ss_own {te : TE} {i : Nat} {φ : Rho → Option (List PyData)} (h : EvF K te φ) : StP K cl E (tAsg te (gName i)) (sOwn i φ) := fun S H0 G ρ σ H r ⟨T, ow, sm⟩ he D q => by
  obtain ⟨es, h1, rfl⟩ := Option.map_eq_some_iff.mp he
  exact h S H0 G T ow ρ σ H es sm h1 _ fun p vs H1 s1 hp hp' hd => q _ H1 (sm.setO hp s1 hp' hd).sim
theorem ss_ret {te : TE} {φ : Rho → Option PyData} (h : EvS K te φ) : StP K cl E (tRet te) (sRet φ) := fun S H0 G ρ σ H r ⟨T, ow, sm⟩ he D q => by
  obtain ⟨e, h1, rfl⟩ := Option.map_eq_some_iff.mp he
  exact h S H0 G T ow ρ σ H e sm h1 _ fun v H1 s1 hv => q v H1 (sm.old.trans s1) (hv.mono (msk_to_hs sm.sub))
theorem ss_retN : StP K cl E tRetN sRetN := fun S H0 G ρ σ H r ⟨T, ow, sm⟩ he D q => by
  cases he
  exact q _ H sm.old .non
theorem ss_brk : StP K cl E tBreak sBrk := fun S H0 G ρ σ H r sm he D q => by
  cases he
  exact q σ H sm
theorem ss_cnt : StP K cl E tCont sCnt := fun S H0 G ρ σ H r sm he D q => by
  cases he
  exact q σ H sm
theorem ss_exp {te : TE} {φ : Rho → Option PyData} (h : EvTr K te φ) : StP K cl E (tDrop te) (sExp φ) := fun S H0 G ρ σ H r ⟨T, ow, sm⟩ he D q => by
  obtain ⟨e, h1, rfl⟩ := Option.map_eq_some_iff.mp he
  exact h S H0 G T ow ρ σ H e sm h1 _ fun v H1 s1 hv => q σ H1 (sm.mono s1).sim
theorem ss_frz {ts : TS} {i : Nat} {ψ : Rho → Option Res} (h : StP K cl E ts ψ) : StP K cl E ts (sFrz i ψ) := fun S H0 G ρ σ H r ⟨T, ow, sm⟩ he D q => by
  obtain ⟨es, h1, h2⟩ := Option.bind_eq_some_iff.mp he
  exact h S H0 G _ σ H r (sm.freeze (ro_some h1)) h2 D q
/-- x.append(e) -/
theorem ss_app {te : TE} {i : Nat} {φ : Rho → Option PyData} (h : EvS K te φ) : StP K cl E (tDrop (tBM K "list" rAppend (tVar i) (tCons te tNil))) (sApp i φ) := fun S H0 G ρ σ H r ⟨T, ow, sm⟩ he D q => by
  obtain ⟨es, h1, h2⟩ := Option.bind_eq_some_iff.mp he
  split at h2
  · rename_i hl
    obtain ⟨e, h3, rfl⟩ := Option.map_eq_some_iff.mp h2
    obtain ⟨o, ho, fo, vs, rfl, _, k2, k3⟩ := sm.slot i _ (ro_some h1)
    refine ⟨.ref fo, ho, .inl ⟨rfl, _, SqL.of k2⟩, h S H0 G T ow ρ σ H e sm h3 _ fun v H1 s1 hv => ⟨fo, vs, v, rfl, rfl, s1 _ _ k2, Evl.sz_lt (by rw [DaAll.len k3]; exact hl), ?_⟩⟩
    exact q σ _ ((sm.mono s1).chg (ro_some h1) ho ((k3.mono (hs_mono s1)).append (.cons hv .nil))).sim
  · cases h2
theorem ss_par {ta : TA} {i j : Nat} {φs : Rho → Option (List PyData)} (h : EvAS K ta φs) : StP K cl E (tPar i j ta) (sPar i j φs) := fun S H0 G ρ σ H r ⟨T, ow, sm⟩ he D q => by
  obtain ⟨es, h1, h2⟩ := Option.bind_eq_some_iff.mp he
  match es, h2 with
  | [a, b], h2 =>
    cases h2
    refine h S H0 G T ow ρ σ H _ sm h1 _ fun vs H1 s1 hv => ?_
    cases hv with
    | cons d1 hv =>
      cases hv with
      | cons d2 hv =>
        cases hv
        exact ⟨_, _, rfl, q _ H1 (((sm.mono s1).setV d1).setV d2).sim⟩
/-- for -/
theorem ss_for {wi : TI} {g : TG} {tb : TS} {js : List Nat} {it : Rho → Option (List PyData)} {τ : PyData → Rho → Option Rho} {ψ : Rho → Option Res} (hi : ItP K wi it) (hg : TgP K g js τ) (hb : StP K cl E tb ψ) : StP K cl E (tFor wi g tb) (sFor it τ ψ) := fun S H0 G ρ σ H r ⟨T, ow, sm⟩ he D q => by
  obtain ⟨es, h1, h2⟩ := Option.bind_eq_some_iff.mp he
  refine hi S H0 G T ow ρ σ H es sm h1 _ fun J H1 s1 ⟨F, Gw, Yw, mo, f0, wk, hG, hY⟩ => ?_
  have wkn : ∀ {ρ' : Rho} {σ' : L2.St} {H' : Hp}, Sim K S H0 (fun X => G X ∧ F X) ρ' σ' H' → Sim K S H0 G ρ' σ' H' := fun ⟨T', ow', sm'⟩ => ⟨T', ow', sm'.weak sm.mo sm'.fr.1⟩
  refine for_it wk (fun i σ' H' => ∃ ρ', Sim K S H0 (fun X => G X ∧ F X) ρ' σ' H' ∧ forR (fun e ρ => (τ e ρ).bind ψ) (es.drop i) ρ' = some r) ?_ ?_ ?_ ?_
  · exact ⟨ρ, ⟨T, ow, (sm.mono s1).weak (fun H H' s h => ⟨sm.mo _ _ s h.1, mo _ _ s h.2⟩) ⟨(sm.mono s1).fr, f0⟩⟩, h2⟩
  · rintro i σ' H' _ ⟨ρ', ⟨T', ow', sm'⟩, _⟩
    exact hG _ _ sm'.fr.2
  · rintro i x σ' H2 H3 hlt ⟨ρ', ⟨T', ow', sm'⟩, e4⟩ y
    obtain ⟨s3, e, he3, hx⟩ := hY _ H2 i x H3 sm'.fr.2 sm'.tr hlt y
    have dr : es.drop i = e :: es.drop (i + 1) := by
      rw [List.drop_eq_getElem_cons hlt]
      congr 1
      rw [List.getElem?_eq_getElem hlt] at he3
      exact Option.some.inj he3
    rw [dr] at e4
    obtain ⟨r1, k1, k2⟩ := Option.bind_eq_some_iff.mp e4
    obtain ⟨ρ2, k3, k4⟩ := Option.bind_eq_some_iff.mp k1
    refine hg S H0 _ _ ow' _ _ H3 x e ρ2 (sm'.mono s3) hx k3 _ fun σ2 sm4 _ => hb S H0 _ ρ2 σ2 H3 r1 sm4.sim k4 _ ?_
    cases r1 with
    | nx ρ3 => exact fun σ5 H5 sm5 => ⟨ρ3, sm5, k2⟩
    | ct ρ3 => exact fun σ5 H5 sm5 => ⟨ρ3, sm5, k2⟩
    | bk ρ3 =>
      cases k2
      exact fun σ5 H5 sm5 => q σ5 H5 (wkn sm5)
    | rt d =>
      cases k2
      exact q
    | ex o =>
      cases k2
      exact q
  · rintro σ' H' ⟨ρ', sm', e4⟩
    rw [List.drop_length] at e4
    cases e4
    exact q σ' H' (wkn sm')
/-- while, with a number of turns that is enough -/
def sWhile (n : Nat) (β : Rho → Option Bool) (ψ : Rho → Option Res) : Rho → Option Res := fun ρ => whR β ψ n ρ
theorem ss_while {c : TT} {tb : TS} {n : Nat} {β : Rho → Option Bool} {ψ : Rho → Option Res} (hc : TeP K c β) (hb : StP K cl E tb ψ) : StP K cl E (tWhile c tb) (sWhile n β ψ) := fun S H0 G ρ σ H r sm he D q => by
  refine ⟨fun m σ' H' => ∃ ρ', Sim K S H0 G ρ' σ' H' ∧ whR β ψ m ρ' = some r, ⟨n, ρ, sm, he⟩, ?_⟩
  rintro m σ' H' ⟨ρ', ⟨T, ow, sm'⟩, h⟩
  cases m with
  | zero => cases h
  | succ m =>
    obtain ⟨b, h1, h2⟩ := Option.bind_eq_some_iff.mp h
    refine hc S H0 G T ow ρ' σ' H' b sm' h1 _ fun H1 s1 => ?_
    cases b with
    | true =>
      rw [if_pos rfl]
      obtain ⟨r1, h3, h4⟩ := Option.bind_eq_some_iff.mp (show (ψ ρ').bind _ = some r by simpa using h2)
      refine ⟨fun σ2 H2 => ∃ ρ2, Sim K S H0 G ρ2 σ2 H2 ∧ whR β ψ m ρ2 = some r, fun σ2 H2 ⟨ρ2, k1, k2⟩ => ⟨m, Nat.lt_succ_self m, ρ2, k1, k2⟩, hb S H0 G ρ' σ' H1 r1 (sm'.mono s1).sim h3 _ ?_⟩
      cases r1 with
      | nx ρ3 => exact fun σ5 H5 sm5 => ⟨ρ3, sm5, h4⟩
      | ct ρ3 => exact fun σ5 H5 sm5 => ⟨ρ3, sm5, h4⟩
      | bk ρ3 =>
        cases h4
        exact q
      | rt d =>
        cases h4
        exact q
      | ex o =>
        cases h4
        exact q
    | false =>
      rw [if_neg Bool.false_ne_true]
      have : r = .nx ρ' := by simpa using h2.symm
      subst this
      exact q σ' H1 (sm'.mono s1).sim
end
/-! ### a def -/
def rho0 (n : Nat) (ds : List PyData) : Rho := ds.map .val ++ List.replicate (n - ds.length) .no
def runF (n np : Nat) (ψ : Rho → Option Res) (ds : List PyData) : Option PyData := if ds.length = np then match ψ (rho0 n ds) with
  | some (.rt e) => some e
  | some (.nx _) => some .none
  | _ => none
  else none
section
variable {K : PySem.W.Frag}
theorem sim_start {S : List Addr} {H : Hp} {N : List Str} {vs : List V} {ds : List PyData} (tr : Tr S H) (h : DaAll K (hs S H) vs ds) : SimO K S H (fun _ => True) S [] (rho0 N.length ds) (start N vs) H := by
  have hl := DaAll.len h
  refine { len := ?_, slot := ?_, inj := ?_, old := Same.refl _, new := fun a ha => absurd ha List.not_mem_nil, sub := fun _ h => h, owT := fun a ha => absurd ha List.not_mem_nil, tr := tr, trS := tr, mo := fun _ _ _ _ => trivial, fr := trivial, lsT := fun a ha => .inl ha }
  · simp [rho0, L2.start, hl]
  · intro i s e
    unfold rho0 at e
    unfold L2.start
    by_cases hi : i < ds.length
    · rw [List.getElem?_append_left (by simpa using hi)] at e
      rw [List.getElem?_append_left (by simpa [hl] using hi)]
      rw [List.getElem?_map] at e ⊢
      obtain ⟨d, hd, rfl⟩ := Option.map_eq_some_iff.mp e
      have hv : vs[i]? = some (vs[i]'(by omega)) := List.getElem?_eq_getElem (by omega)
      obtain ⟨d', h1, h2⟩ := DaAll.get h hv
      rw [hd] at h1
      cases h1
      exact ⟨some _, by rw [hv]; rfl, _, rfl, h2⟩
    · rw [List.getElem?_append_right (by simp; omega)] at e
      rw [List.getElem?_append_right (by simp; omega)]
      rw [List.getElem?_replicate] at e
      split at e
      · rename_i hlt
        cases e
        refine ⟨none, ?_, trivial⟩
        rw [List.getElem?_replicate, if_pos]
        simp [hl] at hlt ⊢
        exact hlt
      · cases e
  · intro i j es es' _ e
    unfold rho0 at e
    by_cases hi : i < ds.length
    · rw [List.getElem?_append_left (by simpa using hi), List.getElem?_map] at e
      obtain ⟨d, hd, z⟩ := Option.map_eq_some_iff.mp e
      cases z
    · rw [List.getElem?_append_right (by simp; omega), List.getElem?_replicate] at e
      split at e
      · cases e
      · cases e
theorem run_start {S : List Addr} {H : Hp} {N : List Str} {vs : List V} {ds : List PyData} {np : Nat} {cl : Str → Addr} {E : XK} {t : TS} {ψ : Rho → Option Res} {e : PyData} {Q : VK} (h : StP K cl E t ψ) (tr : Tr S H) (ha : DaAll K (hs S H) vs ds) (he : runF N.length np ψ ds = some e)
    (q : ∀ v H', Same H H' → Da K (hs S H') v e → Q v H') : t { nx := fun _ H' => Q .non H', rt := Q } (start N vs) H := by
  unfold runF at he
  split at he
  · split at he
    · rename_i hr
      cases he
      exact h S H _ _ _ H _ (sim_start tr ha).sim hr _ q
    · rename_i ρ' hr
      cases he
      exact h S H _ _ _ H _ (sim_start tr ha).sim hr _ (fun σ' H' ⟨T, ow, sm⟩ => q .non H' sm.old .non)
    · cases he
  · cases he
end
section
variable {P : Program} {w : World} {K : PySem.W.Frag} {mg : Str → Option Value} {base : Heap}
theorem fn_pure {x qual : Str} {st : Stmt} {f : Addr} {fd : FuncData} {N ps : List Str} {k : Nat} {ψ : Rho → Option Res} {cl : Str → Addr} (F : Fun K x qual st f fd) (S : FnScope N ps (defScope st))
    (hbody : ∀ (cdv : Value) (A : Around) (outer : List Env) (s : Shared) (H : Hp) (E : XK), Room k (A.deeper (envOfC qual (defScope st) s.heap.objs.size f cdv)) →
      ∃ t, PSs (cxOf CX0 P w K mg base N qual (defScope st) f cdv A outer s H E).nox (defBody st) t ∧ StP K cl E0 t ψ) : FnOk P w K mg base CX0 (k + 1) f fd ps (spD K (RF (runF N.length ps.length ψ))) := by
  refine F.ok S (fun vs H Q E h => ?_) (fun cdv A outer s H vs Q E hr h => ?_)
  · obtain ⟨T, ds, e, _, ha, he, _⟩ := h
    rw [DaAll.len ha]
    unfold RF runF at he
    split at he
    · assumption
    · cases he
  · obtain ⟨T, ds, e, tr, ha, he, q⟩ := h
    obtain ⟨t, h1, h2⟩ := hbody cdv A outer s H E hr
    exact ⟨t, h1, run_start h2 tr ha he q⟩
end
end Pb

set_option Elab.async false
set_option linter.all false
set_option maxRecDepth 100000
namespace Pb
open PySem PySem.Spec PyProof.Rows L2
/-! ### operations on data -/
def fI (g : Int → Int → PyData) : PyData → PyData → Option PyData
  | .int i, .int j => some (g i j)
  | _, _ => none
def fIC (c : Int → Int → Bool) (g : Int → Int → PyData) : PyData → PyData → Option PyData
  | .int i, .int j => if c i j then some (g i j) else none
  | _, _ => none
abbrev fAdd := fI fun i j => .int (i + j)
abbrev fSub := fI fun i j => .int (i - j)
abbrev fLt := fI fun i j => .bool (decide (i < j))
abbrev fLe := fI fun i j => .bool (decide (i ≤ j))
abbrev fGt := fI fun i j => .bool (decide (j < i))
abbrev fGe := fI fun i j => .bool (decide (j ≤ i))
abbrev fBand := fI fun i j => .int (Builtin.bitAnd i j)
abbrev fBor := fI fun i j => .int (Builtin.bitOr i j)
def cMul (i j : Int) : Bool := decide ((-(2 ^ 64) < i ∧ i < 2 ^ 64) ∨ (-(2 ^ 64) < j ∧ j < 2 ^ 64))
def cPow (i j : Int) : Bool := decide (0 ≤ j ∧ j ≤ 1000000 ∧ i.natAbs < 2 ^ 64)
def cDiv (_ j : Int) : Bool := decide (0 < j ∧ j < 1073741824)
def cMod (_ j : Int) : Bool := decide (0 < j)
def cShr (_ j : Int) : Bool := decide (0 ≤ j)
abbrev fMul := fIC cMul fun i j => .int (i * j)
abbrev fPow := fIC cPow fun i j => .int (i ^ j.toNat)
abbrev fShl := fIC cPow fun i j => .int (i * 2 ^ j.toNat)
abbrev fShr := fIC cShr fun i j => .int (i / 2 ^ j.toNat)
abbrev fDiv := fIC cDiv fun i j => .int (i / j)
abbrev fMod := fIC cMod fun i j => .int (i % j)
section
variable {K : PySem.W.Frag}
theorem os_I0 {g : Int → Int → V} {h : Int → Int → PyData} (hd : ∀ i j H, Da K H (g i j) (h i j)) : OpS K (rI0 g) (fI h) := fun T H x y d1 d2 e tr h1 h2 he Q q => by
  unfold fI at he
  split at he
  · rename_i i j
    cases he
    exact ⟨i, j, h1.int, h2.int, q _ H (Same.refl _) (hd i j _)⟩
  · cases he
theorem os_I {C : Int → Int → Prop} {c : Int → Int → Bool} {g : Int → Int → V} {h : Int → Int → PyData} (hc : ∀ i j, c i j = true → C i j) (hd : ∀ i j H, Da K H (g i j) (h i j)) : OpS K (rI C g) (fIC c h) := fun T H x y d1 d2 e tr h1 h2 he Q q => by
  unfold fIC at he
  split at he
  · rename_i i j
    split at he
    · rename_i hz
      cases he
      exact ⟨i, j, h1.int, h2.int, hc i j hz, q _ H (Same.refl _) (hd i j _)⟩
    · cases he
  · cases he
theorem os_add : OpS K (rI0 fun i j => .int (i + j)) fAdd := os_I0 fun _ _ _ => .int _
theorem os_sub : OpS K (rI0 fun i j => .int (i - j)) fSub := os_I0 fun _ _ _ => .int _
theorem os_lt : OpS K (rI0 fun i j => .bl (decide (i < j))) fLt := os_I0 fun _ _ _ => .bl _
theorem os_le : OpS K (rI0 fun i j => .bl (decide (i ≤ j))) fLe := os_I0 fun _ _ _ => .bl _
theorem os_gt : OpS K (rI0 fun i j => .bl (decide (j < i))) fGt := os_I0 fun _ _ _ => .bl _
theorem os_ge : OpS K (rI0 fun i j => .bl (decide (j ≤ i))) fGe := os_I0 fun _ _ _ => .bl _
theorem os_and : OpS K (rI0 fun i j => .int (Builtin.bitAnd i j)) fBand := os_I0 fun _ _ _ => .int _
theorem os_or : OpS K (rI0 fun i j => .int (Builtin.bitOr i j)) fBor := os_I0 fun _ _ _ => .int _
theorem os_mul : OpS K (rI CMul fun i j => .int (i * j)) fMul := os_I (fun i j h => by have := of_decide_eq_true h; exact this) fun _ _ _ => .int _
theorem os_pow : OpS K (rI CPow fun i j => .int (i ^ j.toNat)) fPow := os_I (fun i j h => by have := of_decide_eq_true h; exact this) fun _ _ _ => .int _
theorem os_shl : OpS K (rI CPow fun i j => .int (i * 2 ^ j.toNat)) fShl := os_I (fun i j h => by have := of_decide_eq_true h; exact this) fun _ _ _ => .int _
theorem os_shr : OpS K (rI (fun _ j => 0 ≤ j) fun i j => .int (i / 2 ^ j.toNat)) fShr := os_I (fun i j h => of_decide_eq_true h) fun _ _ _ => .int _
theorem os_fdiv : OpS K (rI CDiv fun i j => .int (i / j)) fDiv := os_I (fun i j h => by have := of_decide_eq_true h; exact this) fun _ _ _ => .int _
theorem os_mod : OpS K (rI (fun _ j => 0 < j) fun i j => .int (i % j)) fMod := os_I (fun i j h => of_decide_eq_true h) fun _ _ _ => .int _
def fNeg : PyData → Option PyData
  | .int i => some (.int (-i))
  | _ => none
theorem us_neg : UnS K (rU fun i => .int (-i)) fNeg := fun T H x d e tr h1 he Q q => by
  unfold fNeg at he
  split at he
  · cases he
    exact ⟨_, h1.int, q _ H (Same.refl _) (.int _)⟩
  · cases he
/-! == of scalars, of data -/
def fEq : PyData → PyData → Option PyData
  | .int i, .int j => some (.bool (decide (i = j)))
  | .bool i, .bool j => some (.bool (decide (i = j)))
  | .str i, .str j => some (.bool (decide (i = j)))
  | .none, .none => some (.bool true)
  | _, _ => none
def fNe : PyData → PyData → Option PyData
  | .int i, .int j => some (.bool (!decide (i = j)))
  | .bool i, .bool j => some (.bool (!decide (i = j)))
  | .str i, .str j => some (.bool (!decide (i = j)))
  | .none, .none => some (.bool false)
  | _, _ => none
theorem dec_eqV {α : Type} [DecidableEq α] (f : α → V) (hf : ∀ a b, f a = f b → a = b) (a b : α) : decide (f a = f b) = decide (a = b) := by
  by_cases h : a = b
  · rw [h, decide_eq_true rfl, decide_eq_true rfl]
  · rw [decide_eq_false h, decide_eq_false fun z => h (hf a b z)]
theorem os_eq : OpS K rEq fEq := fun T H x y d1 d2 e tr h1 h2 he Q q => by
  unfold fEq at he
  split at he
  · cases he
    rw [h1.int, h2.int]
    refine ⟨rfl, ?_⟩
    rw [dec_eqV V.int (fun a b z => by cases z; rfl)]
    exact q _ H (Same.refl _) (.bl _)
  · cases he
    rw [h1.bl, h2.bl]
    refine ⟨rfl, ?_⟩
    rw [dec_eqV V.bl (fun a b z => by cases z; rfl)]
    exact q _ H (Same.refl _) (.bl _)
  · cases he
    rw [h1.str, h2.str]
    refine ⟨rfl, ?_⟩
    rw [dec_eqV V.str (fun a b z => by cases z; rfl)]
    exact q _ H (Same.refl _) (.bl _)
  · cases he
    rw [h1.non, h2.non]
    exact ⟨rfl, q _ H (Same.refl _) (.bl _)⟩
  · cases he
theorem os_ne : OpS K rNe fNe := fun T H x y d1 d2 e tr h1 h2 he Q q => by
  unfold fNe at he
  split at he
  · cases he
    rw [h1.int, h2.int]
    refine ⟨rfl, ?_⟩
    rw [dec_eqV V.int (fun a b z => by cases z; rfl)]
    exact q _ H (Same.refl _) (.bl _)
  · cases he
    rw [h1.bl, h2.bl]
    refine ⟨rfl, ?_⟩
    rw [dec_eqV V.bl (fun a b z => by cases z; rfl)]
    exact q _ H (Same.refl _) (.bl _)
  · cases he
    rw [h1.str, h2.str]
    refine ⟨rfl, ?_⟩
    rw [dec_eqV V.str (fun a b z => by cases z; rfl)]
    exact q _ H (Same.refl _) (.bl _)
  · cases he
    rw [h1.non, h2.non]
    exact ⟨rfl, q _ H (Same.refl _) (.bl _)⟩
  · cases he
mutual
theorem Da.dp' {H : Hp} : ∀ (d : PyData) (v : V), Da K H v d → d.hasDict = false → Dp K H v d
  | .none, _, h, _ => by
    cases h
    exact .non
  | .bool b, _, h, _ => by
    cases h
    exact .bl b
  | .int i, _, h, _ => by
    cases h
    exact .int i
  | .str x, _, h, _ => by
    cases h
    exact .str x
  | .list ds, _, h, hd => by
    cases h with
    | lst h1 h2 => exact .lst h1 (DaAll.dp' ds _ h2 (by simpa only [PyData.hasDict] using hd))
  | .tuple ds, _, h, hd => by
    cases h with
    | tup h1 h2 => exact .tup h1 (DaAll.dp' ds _ h2 (by simpa only [PyData.hasDict] using hd))
  | .dict _, _, _, hd => by simp [PyData.hasDict] at hd
theorem DaAll.dp' {H : Hp} : ∀ (ds : List PyData) (vs : List V), DaAll K H vs ds → PyData.hasDictAll ds = false → DpAll K H vs ds
  | [], _, h, _ => by
    cases h
    exact .nil
  | d :: ds, _, h, hd => by
    simp only [PyData.hasDictAll, Bool.or_eq_false_iff] at hd
    cases h with
    | cons h1 h2 => exact .cons (Da.dp' d _ h1 hd.1) (DaAll.dp' ds _ h2 hd.2)
end
/-- what may be compared -/
def okE (d : PyData) : Bool := SeqAt.shaped d && !d.hasDict
def fEqD (d e : PyData) : Option PyData := if okE d && okE e then some (.bool (PyData.eqv d e)) else none
def fNeD (d e : PyData) : Option PyData := if okE d && okE e then some (.bool (!PyData.eqv d e)) else none
theorem okE_iff {d : PyData} (h : okE d = true) : SeqAt.shaped d = true ∧ d.hasDict = false := by
  simpa [okE] using h
theorem os_eqD : OpS K (rEqD K) fEqD := fun T H x y d1 d2 e tr h1 h2 he Q q => by
  unfold fEqD at he
  split at he
  · rename_i hz
    rw [Bool.and_eq_true] at hz
    obtain ⟨a1, a2⟩ := okE_iff hz.1
    obtain ⟨b1, b2⟩ := okE_iff hz.2
    cases he
    exact ⟨d1, d2, h1.da.dp' _ _ a2, h2.da.dp' _ _ b2, a1, b1, q _ H (Same.refl _) (.bl _)⟩
  · cases he
theorem os_neD : OpS K (rNeD K) fNeD := fun T H x y d1 d2 e tr h1 h2 he Q q => by
  unfold fNeD at he
  split at he
  · rename_i hz
    rw [Bool.and_eq_true] at hz
    obtain ⟨a1, a2⟩ := okE_iff hz.1
    obtain ⟨b1, b2⟩ := okE_iff hz.2
    cases he
    exact ⟨d1, d2, h1.da.dp' _ _ a2, h2.da.dp' _ _ b2, a1, b1, q _ H (Same.refl _) (.bl _)⟩
  · cases he
/-- is None -/
def isNoneD : PyData → Bool
  | .none => true
  | _ => false
def fIsN (d e : PyData) : Option PyData := match e with
  | .none => some (.bool (isNoneD d))
  | _ => none
def fNotN (d e : PyData) : Option PyData := match e with
  | .none => some (.bool (!isNoneD d))
  | _ => none
theorem Da.non_iff {H : Hp} {v : V} {d : PyData} (h : Da K H v d) : decide (v = V.non) = isNoneD d := by
  cases h <;> rfl
theorem os_isN : OpS K (fun x y H Q => y = .non ∧ Q (.bl (decide (x = .non))) H) fIsN := fun T H x y d1 d2 e tr h1 h2 he Q q => by
  unfold fIsN at he
  split at he
  · cases he
    refine ⟨h2.non, ?_⟩
    rw [h1.da.non_iff]
    exact q _ H (Same.refl _) (.bl _)
  · cases he
theorem os_notN : OpS K (fun x y H Q => y = .non ∧ Q (.bl (!decide (x = .non))) H) fNotN := fun T H x y d1 d2 e tr h1 h2 he Q q => by
  unfold fNotN at he
  split at he
  · cases he
    refine ⟨h2.non, ?_⟩
    rw [h1.da.non_iff]
    exact q _ H (Same.refl _) (.bl _)
  · cases he
/-! in -/
def flatD : PyData → Bool
  | .none => true
  | .bool _ => true
  | .int _ => true
  | .str _ => true
  | _ => false
theorem Da.flat {H : Hp} {v : V} {d : PyData} (h : Da K H v d) (hd : flatD d = true) : flatV v = true := by
  cases h <;> first | rfl | cases hd
theorem eqV_eqv {H : Hp} {x y : V} {d e : PyData} (h : Da K H x d) (h' : Da K H y e) (hd : flatD d = true) (he : flatD e = true) : eqV x y = PyData.eqv d e := by
  cases h <;> cases h' <;> first | rfl | (cases hd; done) | (cases he; done) | skip
  all_goals first | rfl | cases hd | cases he
def seqD : PyData → Option (List PyData)
  | .list es => some es
  | .tuple es => some es
  | _ => none
def inL (d : PyData) (es : List PyData) : Bool := es.any fun y => PyData.eqv y d
def fIn (d e : PyData) : Option PyData := (seqD e).bind fun es => if flatD d && es.all flatD then some (.bool (inL d es)) else none
def fNin (d e : PyData) : Option PyData := (seqD e).bind fun es => if flatD d && es.all flatD then some (.bool (!inL d es)) else none
theorem DaAll.flat {H : Hp} : ∀ {vs : List V} {es : List PyData}, DaAll K H vs es → es.all flatD = true → vs.all flatV = true
  | [], _, _, _ => rfl
  | v :: vs, _, h, hf => by
    cases h with
    | cons h1 h2 =>
      simp only [List.all_cons, Bool.and_eq_true] at hf ⊢
      exact ⟨h1.flat hf.1, DaAll.flat h2 hf.2⟩
theorem inV_inL {H : Hp} {x : V} {d : PyData} (hx : Da K H x d) (hd : flatD d = true) : ∀ {vs : List V} {es : List PyData}, DaAll K H vs es → es.all flatD = true → inV x vs = inL d es
  | [], _, h, _ => by
    cases h
    rfl
  | v :: vs, _, h, hf => by
    cases h with
    | cons h1 h2 =>
      simp only [List.all_cons, Bool.and_eq_true] at hf
      have ih := inV_inL hx hd h2 hf.2
      unfold inV inL at ih ⊢
      rw [List.any_cons, List.any_cons, ih, eqV_eqv h1 hx hf.1 hd]
theorem seq_of {T : List Addr} {H : Hp} {y : V} {e : PyData} {es : List PyData} (h : Dv K T H y e) (hs' : seqD e = some es) : ∃ p xs, y = .ref p ∧ (SqL K H p xs ∨ SqT K H p xs) ∧ DaAll K (hs T H) xs es := by
  cases e with
  | list fs =>
    cases hs'
    obtain ⟨p, xs, h1, h2, h3⟩ := h.lst
    exact ⟨p, xs, h1, .inl h2, h3⟩
  | tuple fs =>
    cases hs'
    obtain ⟨p, xs, h1, h2, h3, _⟩ := h.tup
    exact ⟨p, xs, h1, .inr h2, h3⟩
  | _ => cases hs'
theorem os_in : OpS K (rIn K false) fIn := fun T H x y d1 d2 e tr h1 h2 he Q q => by
  obtain ⟨es, k1, k2⟩ := Option.bind_eq_some_iff.mp he
  split at k2
  · rename_i hz
    rw [Bool.and_eq_true] at hz
    cases k2
    obtain ⟨p, xs, rfl, hq, hd⟩ := seq_of h2 k1
    have hd' := hd.mono hs_sub
    refine ⟨p, xs, rfl, hq, h1.da.flat hz.1, hd'.flat hz.2, ?_⟩
    rw [inV_inL h1.da hz.1 hd' hz.2]
    exact q _ H (Same.refl _) (.bl _)
  · cases k2
theorem os_nin : OpS K (rIn K true) fNin := fun T H x y d1 d2 e tr h1 h2 he Q q => by
  obtain ⟨es, k1, k2⟩ := Option.bind_eq_some_iff.mp he
  split at k2
  · rename_i hz
    rw [Bool.and_eq_true] at hz
    cases k2
    obtain ⟨p, xs, rfl, hq, hd⟩ := seq_of h2 k1
    have hd' := hd.mono hs_sub
    refine ⟨p, xs, rfl, hq, h1.da.flat hz.1, hd'.flat hz.2, ?_⟩
    rw [inV_inL h1.da hz.1 hd' hz.2]
    exact q _ H (Same.refl _) (.bl _)
  · cases k2
/-! items, slices, + -/
theorem atI_da {H : Hp} {vs : List V} {es : List PyData} {i : Int} {e : PyData} (h : DaAll K H vs es) (he : atI es i = some e) : ∃ v, atI vs i = some v ∧ Da K H v e := by
  unfold atI at he ⊢
  rw [DaAll.len h]
  cases hj : ixN es.length i with
  | none =>
    rw [hj] at he
    cases he
  | some j =>
    rw [hj] at he
    have he' : es[j]? = some e := he
    have hlt : j < vs.length := by
      rw [DaAll.len h]
      exact (List.getElem?_eq_some_iff.mp he').1
    obtain ⟨d, h1, h2⟩ := DaAll.get h (List.getElem?_eq_getElem hlt)
    rw [he'] at h1
    cases h1
    exact ⟨vs[j], List.getElem?_eq_getElem hlt, h2⟩
def fIxL : PyData → PyData → Option PyData
  | .list es, .int i => atI es i
  | _, _ => none
def fIxT : PyData → PyData → Option PyData
  | .tuple es, .int i => atI es i
  | _, _ => none
theorem os_ixL : OpS K (rIxL K) fIxL := fun T H x y d1 d2 e tr h1 h2 he Q q => by
  unfold fIxL at he
  split at he
  · obtain ⟨p, xs, rfl, hq, hd⟩ := h1.lst
    obtain ⟨v, k1, k2⟩ := atI_da hd he
    exact ⟨p, xs, _, v, rfl, h2.int, hq, k1, q v H (Same.refl _) k2⟩
  · cases he
theorem os_ixT : OpS K (rIxT K) fIxT := fun T H x y d1 d2 e tr h1 h2 he Q q => by
  unfold fIxT at he
  split at he
  · obtain ⟨p, xs, rfl, hq, hd, _⟩ := h1.tup
    obtain ⟨v, k1, k2⟩ := atI_da hd he
    exact ⟨p, xs, _, v, rfl, h2.int, hq, k1, q v H (Same.refl _) k2⟩
  · cases he
def fCat : PyData → PyData → Option PyData
  | .tuple es, .tuple fs => if es.length + fs.length ≤ 100000 then some (.tuple (es ++ fs)) else none
  | _, _ => none
theorem os_cat : OpS K (rCatA K) fCat := fun T H x y d1 d2 e tr h1 h2 he Q q => by
  unfold fCat at he
  split at he
  · rename_i es fs
    split at he
    · rename_i hl
      cases he
      obtain ⟨p, xs, rfl, hq, hd, hD⟩ := h1.tup
      obtain ⟨p', ys, rfl, hq', hd', hD'⟩ := h2.tup
      have l1 := DaAll.len hd
      have l2 := DaAll.len hd'
      refine ⟨p, p', xs, ys, rfl, rfl, hq, hq', Evl.sz_of (by omega), fun z => ?_, fun _ z => ?_, fun _ _ t ht => ?_⟩
      · subst z
        cases es with
        | nil => exact q _ H (Same.refl _) hD'
        | cons _ _ => simp at l1
      · subst z
        cases fs with
        | nil =>
          rw [List.append_nil] at q
          exact q _ H (Same.refl _) hD
        | cons _ _ => simp at l2
      · exact q _ _ (same_upd ht) (.tup (SqT.of (hs_at (tr.out ht) upd_same)) ((hd.append hd').mono (hs_mono (same_upd ht))))
    · cases he
  · cases he
def eSlT (φ : Rho → Option PyData) (lo hi : Rho → Option (Option Int)) : Rho → Option PyData := fun ρ => ((φ ρ).bind asT).bind fun es => (lo ρ).bind fun l => (hi ρ).map fun h => .tuple (cutG es l h)
def lSl (φ : Rho → Option PyData) (lo hi : Rho → Option (Option Int)) : Rho → Option (List PyData) := fun ρ => ((φ ρ).bind asL).bind fun es => (lo ρ).bind fun l => (hi ρ).map fun h => cutG es l h
theorem cutG_whole {α : Type} {xs : List α} {lo hi : Option Int} (h : HT.sIx xs.length 0 lo = 0 ∧ HT.sIx xs.length xs.length hi = xs.length) : cutG xs lo hi = xs := by
  unfold cutG
  rw [h.1, h.2]
  simp
theorem xs_slT {te : TE} {tl th : TO} {φ : Rho → Option PyData} {lo hi : Rho → Option (Option Int)} (h : EvTr K te φ) (hl : EvOI K tl lo) (hh : EvOI K th hi) : EvS K (tSl (rSlA K) te tl th) (eSlT φ lo hi) := fun S H0 G T ow ρ σ H e sm he Q q => by
  obtain ⟨es, h1, h2⟩ := Option.bind_eq_some_iff.mp he
  obtain ⟨x, h3, h4⟩ := Option.bind_eq_some_iff.mp h1
  obtain rfl := asT_some h4
  obtain ⟨l, h5, h6⟩ := Option.bind_eq_some_iff.mp h2
  obtain ⟨u, h7, rfl⟩ := Option.map_eq_some_iff.mp h6
  refine h S H0 G T ow ρ σ H _ sm h3 _ fun v H1 s1 hv => hl S H0 G T ow ρ σ H1 l (sm.mono s1) h5 _ fun H2 s2 => hh S H0 G T ow ρ σ H2 u (sm.mono (s1.trans s2)) h7 _ fun H3 s3 => ?_
  obtain ⟨p, xs, rfl, hq, hd, hD⟩ := (hv.mono (s2.trans s3)).tup
  have ll := DaAll.len hd
  have s13 := (s1.trans s2).trans s3
  refine ⟨p, xs, rfl, hq, fun z => ?_, fun z t ht => ?_⟩
  · rw [ll] at z
    rw [cutG_whole z] at q
    exact q _ H3 s13 hD
  · exact q _ _ (s13.trans (same_upd ht)) (.tup (SqT.of (hs_at ((sm.tr.same s13).out ht) upd_same)) ((hd.cut l u).mono (hs_mono (same_upd ht))))
theorem xf_sl {te : TE} {tl th : TO} {φ : Rho → Option PyData} {lo hi : Rho → Option (Option Int)} (h : EvTr K te φ) (hl : EvOI K tl lo) (hh : EvOI K th hi) : EvF K (tSl (rSlL K) te tl th) (lSl φ lo hi) := fun S H0 G T ow ρ σ H ys sm he Q q => by
  obtain ⟨es, h1, h2⟩ := Option.bind_eq_some_iff.mp he
  obtain ⟨x, h3, h4⟩ := Option.bind_eq_some_iff.mp h1
  obtain rfl := asL_some h4
  obtain ⟨l, h5, h6⟩ := Option.bind_eq_some_iff.mp h2
  obtain ⟨u, h7, rfl⟩ := Option.map_eq_some_iff.mp h6
  refine h S H0 G T ow ρ σ H _ sm h3 _ fun v H1 s1 hv => hl S H0 G T ow ρ σ H1 l (sm.mono s1) h5 _ fun H2 s2 => hh S H0 G T ow ρ σ H2 u (sm.mono (s1.trans s2)) h7 _ fun H3 s3 => ?_
  obtain ⟨p, xs, rfl, hq, hd⟩ := (hv.mono (s2.trans s3)).lst
  have s13 := (s1.trans s2).trans s3
  exact ⟨p, xs, rfl, hq, fun t ht => q t _ _ (s13.trans (same_upd ht)) (s13.free ht) upd_same ((hd.cut l u).mono (hs_cons_new ht))⟩
def eRevT (φ : Rho → Option PyData) : Rho → Option PyData := fun ρ => ((φ ρ).bind asT).map fun es => .tuple es.reverse
theorem xs_revT {te : TE} {φ : Rho → Option PyData} (h : EvTr K te φ) : EvS K (tRevT K te) (eRevT φ) := fun S H0 G T ow ρ σ H e sm he Q q => by
  obtain ⟨es, h1, rfl⟩ := Option.map_eq_some_iff.mp he
  obtain ⟨x, h3, h4⟩ := Option.bind_eq_some_iff.mp h1
  obtain rfl := asT_some h4
  refine h S H0 G T ow ρ σ H _ sm h3 _ fun v H1 s1 hv => ?_
  obtain ⟨p, xs, rfl, hq, hd, _⟩ := hv.tup
  exact ⟨p, xs, rfl, hq, fun t ht => q _ _ (s1.trans (same_upd ht)) (.tup (SqT.of (hs_at ((sm.tr.same s1).out ht) upd_same)) (hd.rev.mono (hs_mono (same_upd ht))))⟩
def lRev (φ : Rho → Option PyData) : Rho → Option (List PyData) := fun ρ => ((φ ρ).bind asL).map List.reverse
theorem xf_rev {te : TE} {φ : Rho → Option PyData} (h : EvTr K te φ) : EvF K (tRevL K te) (lRev φ) := fun S H0 G T ow ρ σ H ys sm he Q q => by
  obtain ⟨es, h1, rfl⟩ := Option.map_eq_some_iff.mp he
  obtain ⟨x, h3, h4⟩ := Option.bind_eq_some_iff.mp h1
  obtain rfl := asL_some h4
  refine h S H0 G T ow ρ σ H _ sm h3 _ fun v H1 s1 hv => ?_
  obtain ⟨p, xs, rfl, hq, hd⟩ := hv.lst
  exact ⟨p, xs, rfl, hq, fun t ht => q t _ _ (s1.trans (same_upd ht)) (s1.free ht) upd_same (hd.rev.mono (hs_cons_new ht))⟩
/-! builtins -/
def fLen : List PyData → Option PyData
  | [d] => (seqD d).map fun es => .int (es.length : Int)
  | _ => none
theorem cs_len : CbS K (fun xs H Q => ∃ p ys, xs = [.ref p] ∧ (SqL K H p ys ∨ SqT K H p ys) ∧ Q (.int ys.length) H) fLen := fun T H xs ds e tr h he Q q => by
  unfold fLen at he
  split at he
  · obtain ⟨es, k1, rfl⟩ := Option.map_eq_some_iff.mp he
    cases h with
    | cons h1 h2 =>
      cases h2
      obtain ⟨p, ys, rfl, hq, hd⟩ := seq_of h1 k1
      refine ⟨p, ys, rfl, hq, ?_⟩
      rw [DaAll.len hd]
      exact q _ H (Same.refl _) (.int _)
  · cases he
def fIsi (T : String) : PyData → Option PyData := fun d => some (.bool (isI T d))
theorem xs_isi {ta : TE} {φ : Rho → Option PyData} {T : String} (h : EvTr K ta φ) (hT : T ∈ ["int", "bool", "tuple", "list", "dict", "str"] := by decide) : EvS K (tCB (rIsi K) (tCons ta (tCons (tC (.ty T)) tNil))) (eUn (fIsi T) φ) := fun S H0 G T' ow ρ σ H e sm he Q q => by
  obtain ⟨x, h1, h2⟩ := Option.bind_eq_some_iff.mp he
  cases h2
  exact h S H0 G T' ow ρ σ H x sm h1 _ fun v H1 s1 hv => isi_of hv.da (q _ H1 s1 (.bl _)) hT
def fTupOf : List PyData → Option PyData
  | [.list es] => some (.tuple es)
  | [.tuple es] => some (.tuple es)
  | _ => none
theorem cs_tupOf : CbS K (fun xs H Q => ∃ p ys, xs = [.ref p] ∧ ((SqL K H p ys ∧ ∀ l, H l = none → Q (.ref l) (upd H l (.tup ys))) ∨ (SqT K H p ys ∧ Q (.ref p) H))) fTupOf := fun T H xs ds e tr h he Q q => by
  unfold fTupOf at he
  split at he
  · cases he
    cases h with
    | cons h1 h2 =>
      cases h2
      obtain ⟨p, ys, rfl, hq, hd⟩ := h1.lst
      exact ⟨p, ys, rfl, .inl ⟨hq, fun l hl => q _ _ (same_upd hl) (.tup (SqT.of (hs_at (tr.out hl) upd_same)) (hd.mono (hs_mono (same_upd hl))))⟩⟩
  · cases he
    cases h with
    | cons h1 h2 =>
      cases h2
      obtain ⟨p, ys, rfl, hq, hd, hD⟩ := h1.tup
      exact ⟨p, ys, rfl, .inr ⟨hq, q _ H (Same.refl _) hD⟩⟩
  · cases he
def fListOf : List PyData → Option (List PyData)
  | [d] => seqD d
  | _ => none
theorem cf_listOf : CbF K (fun xs H Q => ∃ p ys, xs = [.ref p] ∧ (SqL K H p ys ∨ SqT K H p ys) ∧ ∀ l, H l = none → Q (.ref l) (upd H l (.lst ys))) fListOf := fun T H xs ds e tr h he Q q => by
  unfold fListOf at he
  split at he
  · cases h with
    | cons h1 h2 =>
      cases h2
      obtain ⟨p, ys, rfl, hq, hd⟩ := seq_of h1 he
      exact ⟨p, ys, rfl, hq, fun l hl => q l _ _ (same_upd hl) hl upd_same (hd.mono (hs_cons_new hl))⟩
  · cases he
/-- lists of truth values, of intsD -/
def bools : List PyData → Option (List Bool)
  | [] => some []
  | .bool b :: es => (bools es).map (b :: ·)
  | _ => none
def intsD : List PyData → Option (List Int)
  | [] => some []
  | .int b :: es => (intsD es).map (b :: ·)
  | _ => none
theorem bools_v {H : Hp} : ∀ {es : List PyData} {vs : List V} {bs : List Bool}, DaAll K H vs es → bools es = some bs → vs = bs.map V.bl
  | [], _, _, h, e => by
    cases h
    cases e
    rfl
  | .bool b :: es, _, bs, h, e => by
    obtain ⟨cs, h1, rfl⟩ := Option.map_eq_some_iff.mp e
    cases h with
    | cons k1 k2 =>
      cases k1
      rw [bools_v k2 h1]
      rfl
  | .none :: _, _, _, _, e => by cases e
  | .int _ :: _, _, _, _, e => by cases e
  | .str _ :: _, _, _, _, e => by cases e
  | .list _ :: _, _, _, _, e => by cases e
  | .tuple _ :: _, _, _, _, e => by cases e
  | .dict _ :: _, _, _, _, e => by cases e
theorem ints_v {H : Hp} : ∀ {es : List PyData} {vs : List V} {bs : List Int}, DaAll K H vs es → intsD es = some bs → vs = bs.map V.int
  | [], _, _, h, e => by
    cases h
    cases e
    rfl
  | .int b :: es, _, bs, h, e => by
    obtain ⟨cs, h1, rfl⟩ := Option.map_eq_some_iff.mp e
    cases h with
    | cons k1 k2 =>
      cases k1
      rw [ints_v k2 h1]
      rfl
  | .none :: _, _, _, _, e => by cases e
  | .bool _ :: _, _, _, _, e => by cases e
  | .str _ :: _, _, _, _, e => by cases e
  | .list _ :: _, _, _, _, e => by cases e
  | .tuple _ :: _, _, _, _, e => by cases e
  | .dict _ :: _, _, _, _, e => by cases e
theorem bools_map : ∀ bs : List Bool, bools (bs.map .bool) = some bs
  | [] => rfl
  | b :: bs => by
    show (bools (bs.map .bool)).map (b :: ·) = _
    rw [bools_map bs]
    rfl
theorem ints_map : ∀ bs : List Int, intsD (bs.map .int) = some bs
  | [] => rfl
  | b :: bs => by
    show (intsD (bs.map .int)).map (b :: ·) = _
    rw [ints_map bs]
    rfl
def fAll : List PyData → Option PyData
  | [.list es] => (bools es).map fun bs => .bool (bs.all id)
  | _ => none
theorem cs_all : CbS K (rAll K) fAll := fun T H xs ds e tr h he Q q => by
  unfold fAll at he
  split at he
  · obtain ⟨bs, k1, rfl⟩ := Option.map_eq_some_iff.mp he
    cases h with
    | cons h1 h2 =>
      cases h2
      obtain ⟨p, ys, rfl, hq, hd⟩ := h1.lst
      rw [bools_v hd k1] at hq
      exact ⟨p, bs, rfl, hq, q _ H (Same.refl _) (.bl _)⟩
  · cases he
def fSum : List PyData → Option PyData
  | [.list es] => (intsD es).map fun ns => .int ns.sum
  | _ => none
theorem cs_sum : CbS K (rSum K) fSum := fun T H xs ds e tr h he Q q => by
  unfold fSum at he
  split at he
  · obtain ⟨ns, k1, rfl⟩ := Option.map_eq_some_iff.mp he
    cases h with
    | cons h1 h2 =>
      cases h2
      obtain ⟨p, ys, rfl, hq, hd⟩ := h1.lst
      rw [ints_v hd k1] at hq
      exact ⟨p, ns, rfl, hq, q _ H (Same.refl _) (.int _)⟩
  · cases he
def minI : List Int → Option Int
  | [] => none
  | n :: ns => some (ns.foldl min n)
def maxI : List Int → Option Int
  | [] => none
  | n :: ns => some (ns.foldl max n)
theorem foldl_min : ∀ (ns : List Int) (n : Int), (ns.foldl min n = n ∨ ns.foldl min n ∈ ns) ∧ ns.foldl min n ≤ n ∧ ∀ y ∈ ns, ns.foldl min n ≤ y
  | [], n => ⟨.inl rfl, Int.le_refl _, fun y hy => absurd hy List.not_mem_nil⟩
  | m :: ns, n => by
    obtain ⟨h1, h2, h3⟩ := foldl_min ns (min n m)
    simp only [List.foldl_cons]
    refine ⟨?_, by omega, fun y hy => ?_⟩
    · rcases h1 with h1 | h1
      · rw [h1]
        by_cases z : n ≤ m
        · left
          omega
        · right
          rw [show min n m = m by omega]
          exact List.mem_cons_self
      · exact .inr (List.mem_cons_of_mem _ h1)
    · rcases List.mem_cons.mp hy with rfl | hy
      · omega
      · exact h3 y hy
theorem foldl_max : ∀ (ns : List Int) (n : Int), (ns.foldl max n = n ∨ ns.foldl max n ∈ ns) ∧ n ≤ ns.foldl max n ∧ ∀ y ∈ ns, y ≤ ns.foldl max n
  | [], n => ⟨.inl rfl, Int.le_refl _, fun y hy => absurd hy List.not_mem_nil⟩
  | m :: ns, n => by
    obtain ⟨h1, h2, h3⟩ := foldl_max ns (max n m)
    simp only [List.foldl_cons]
    refine ⟨?_, by omega, fun y hy => ?_⟩
    · rcases h1 with h1 | h1
      · rw [h1]
        by_cases z : m ≤ n
        · left
          omega
        · right
          rw [show max n m = m by omega]
          exact List.mem_cons_self
      · exact .inr (List.mem_cons_of_mem _ h1)
    · rcases List.mem_cons.mp hy with rfl | hy
      · omega
      · exact h3 y hy
theorem minI_ok {ns : List Int} {m : Int} (h : minI ns = some m) : 0 < ns.length ∧ m ∈ ns ∧ ∀ y ∈ ns, m ≤ y := by
  cases ns with
  | nil => cases h
  | cons n ns =>
    have hm : ns.foldl min n = m := Option.some.inj h
    obtain ⟨h1, h2, h3⟩ := foldl_min ns n
    rw [hm] at h1 h2 h3
    refine ⟨by simp, ?_, fun y hy => ?_⟩
    · rcases h1 with h1 | h1
      · rw [h1]
        exact List.mem_cons_self
      · exact List.mem_cons_of_mem _ h1
    · rcases List.mem_cons.mp hy with rfl | hy
      · exact h2
      · exact h3 y hy
theorem maxI_ok {ns : List Int} {m : Int} (h : maxI ns = some m) : 0 < ns.length ∧ m ∈ ns ∧ ∀ y ∈ ns, y ≤ m := by
  cases ns with
  | nil => cases h
  | cons n ns =>
    have hm : ns.foldl max n = m := Option.some.inj h
    obtain ⟨h1, h2, h3⟩ := foldl_max ns n
    rw [hm] at h1 h2 h3
    refine ⟨by simp, ?_, fun y hy => ?_⟩
    · rcases h1 with h1 | h1
      · rw [h1]
        exact List.mem_cons_self
      · exact List.mem_cons_of_mem _ h1
    · rcases List.mem_cons.mp hy with rfl | hy
      · exact h2
      · exact h3 y hy
def fMin : List PyData → Option PyData
  | [.list es] => ((intsD es).bind minI).map .int
  | _ => none
def fMax : List PyData → Option PyData
  | [.list es] => ((intsD es).bind maxI).map .int
  | _ => none
theorem cs_min : CbS K (rMin K) fMin := fun T H xs ds e tr h he Q q => by
  unfold fMin at he
  split at he
  · obtain ⟨m, k1, rfl⟩ := Option.map_eq_some_iff.mp he
    obtain ⟨ns, k2, k3⟩ := Option.bind_eq_some_iff.mp k1
    obtain ⟨l1, l2, l3⟩ := minI_ok k3
    cases h with
    | cons h1 h2 =>
      cases h2
      obtain ⟨p, ys, rfl, hq, hd⟩ := h1.lst
      rw [ints_v hd k2] at hq
      refine ⟨p, ns, rfl, hq, l1, fun m' a b => ?_⟩
      have : m' = m := by
        have := l3 m' a
        have := b m l2
        omega
      rw [this]
      exact q _ H (Same.refl _) (.int _)
  · cases he
theorem cs_max : CbS K (rMax K) fMax := fun T H xs ds e tr h he Q q => by
  unfold fMax at he
  split at he
  · obtain ⟨m, k1, rfl⟩ := Option.map_eq_some_iff.mp he
    obtain ⟨ns, k2, k3⟩ := Option.bind_eq_some_iff.mp k1
    obtain ⟨l1, l2, l3⟩ := maxI_ok k3
    cases h with
    | cons h1 h2 =>
      cases h2
      obtain ⟨p, ys, rfl, hq, hd⟩ := h1.lst
      rw [ints_v hd k2] at hq
      refine ⟨p, ns, rfl, hq, l1, fun m' a b => ?_⟩
      have : m' = m := by
        have := l3 m' a
        have := b m l2
        omega
      rw [this]
      exact q _ H (Same.refl _) (.int _)
  · cases he
/-- truth of a value -/
def truD : PyData → Option Bool
  | .none => some false
  | .bool b => some b
  | .int i => some (i != 0)
  | .list es => some (!es.isEmpty)
  | .tuple es => some (!es.isEmpty)
  | _ => none
def bTru (φ : Rho → Option PyData) : Rho → Option Bool := fun ρ => (φ ρ).bind truD
theorem DaAll.emp {H : Hp} {vs : List V} {es : List PyData} (h : DaAll K H vs es) : es.isEmpty = vs.isEmpty := by
  cases h <;> rfl
theorem tt_tru {ta : TE} {φ : Rho → Option PyData} (ha : EvTr K ta φ) : TeP K (fun σ H Q => ta σ H fun x H' => ∃ k, TruV K x H' k ∧ Q k H') (bTru φ) := fun S H0 G T ow ρ σ H b sm he Q q => by
  obtain ⟨x, h3, h4⟩ := Option.bind_eq_some_iff.mp he
  refine ha S H0 G T ow ρ σ H x sm h3 _ fun v H1 s1 hv => ⟨b, ?_, q H1 s1⟩
  cases x with
  | none =>
    cases h4
    rw [hv.non]
    rfl
  | bool c =>
    cases h4
    rw [hv.bl]
    rfl
  | int i =>
    cases h4
    rw [hv.int]
    rfl
  | list es =>
    cases h4
    obtain ⟨p, ys, rfl, hq, hd⟩ := hv.lst
    exact .inl ⟨ys, hq, by rw [DaAll.emp hd]⟩
  | tuple es =>
    cases h4
    obtain ⟨p, ys, rfl, hq, hd, _⟩ := hv.tup
    exact .inr (.inl ⟨ys, hq, by rw [DaAll.emp hd]⟩)
  | str _ => cases h4
  | dict _ => cases h4
end
end Pb

set_option Elab.async false
set_option linter.all false
set_option maxRecDepth 100000
namespace Pb
open PySem PySem.Spec PyProof.Rows L2
/-! ### rules over K, whatever the block -/
section
variable {X : Cx} {K : PySem.W.Frag}
theorem opK {f : Value → Value → Sem Value} (r : PySem.W.Frag → R2) (hK : X.K = K) (h : OpR X f (r X.K)) : OpR X f (r K) := hK ▸ h
theorem ixK (r : PySem.W.Frag → R2) (hK : X.K = K) (h : IxR X (r X.K)) : IxR X (r K) := hK ▸ h
theorem crK {f : Value} (r : PySem.W.Frag → List V → Hp → VK → Prop) (hK : X.K = K) (h : CallR X f (r X.K)) : CallR X f (r K) := hK ▸ h
theorem slK (r : PySem.W.Frag → V → Option Int → Option Int → Hp → VK → Prop) (hK : X.K = K) (h : L2.SlR X (r X.K)) : L2.SlR X (r K) := hK ▸ h
theorem piK {tg it : Expr} (r : PySem.W.Frag → TI) (hK : X.K = K) (h : PI X tg it (r X.K)) : PI X tg it (r K) := hK ▸ h
theorem peK {e : Expr} (r : PySem.W.Frag → TE) (hK : X.K = K) (h : PE X e (r X.K)) : PE X e (r K) := hK ▸ h
theorem ptK {e : Expr} (r : PySem.W.Frag → TT) (hK : X.K = K) (h : PT X e (r X.K)) : PT X e (r K) := hK ▸ h
end
/-- truth -/
def tTruK (K : PySem.W.Frag) (ta : TE) : TT := fun σ H Q => ta σ H fun x H' => ∃ k, TruV K x H' k ∧ Q k H'
theorem pt_truK {X : Cx} {K : PySem.W.Frag} {a : Expr} {ta : TE} (hK : X.K = K) (ha : PE X a ta) (he : ∀ whole, isTrue a X.env whole = (do let v ← whole; standAt a.pos; holding [v] (truthy v)) := by intro _; rfl) : PT X a (tTruK K ta) := by
  subst hK
  exact pt_truth ha he
theorem tt_truK {K : PySem.W.Frag} {ta : TE} {φ : Rho → Option PyData} (ha : EvTr K ta φ) : TeP K (tTruK K ta) (bTru φ) := tt_tru ha
structure Bx (mg : Str → Option Value) : Prop extends Bn mg where
  sum : mg "sum" = none
  min : mg "min" = none
  max : mg "max" = none
  zip : mg "zip" = none
  reversed : mg "reversed" = none
  any : mg "any" = none
  valueError : mg "ValueError" = none
theorem bt_sum : bootBuiltins "sum" = some (.builtin "sum") := by decide +kernel
theorem bt_min : bootBuiltins "min" = some (.builtin "min") := by decide +kernel
theorem bt_any : bootBuiltins "any" = some (.builtin "any") := by decide +kernel
theorem bt_max : bootBuiltins "max" = some (.builtin "max") := by decide +kernel
section
variable {K : PySem.W.Frag}
/-! zip, reversed -/
theorem walk_zipT {a b : Addr} {xs ys : List V} {n : Nat} (hn : n = Nat.min xs.length ys.length) : Walk (RZ.ItzT K a b) n (fun H => SqT K H a xs ∧ SqT K H b ys) (YPair (fun i => xs[i]?) (fun i => ys[i]?)) := by
  subst hn
  refine ⟨fun i _ hi q => ?_, fun _ q => ⟨xs, ys, q.1, q.2, ?_⟩, fun i H v H' _ q y => ?_⟩
  · have hi' : i < xs.length ∧ i < ys.length := by
      have : Nat.min xs.length ys.length ≤ xs.length := Nat.min_le_left _ _
      have : Nat.min xs.length ys.length ≤ ys.length := Nat.min_le_right _ _
      omega
    exact ⟨xs, ys, xs[i]'hi'.1, ys[i]'hi'.2, q.1, q.2, by simp [hi'.1], by simp [hi'.2]⟩
  · show xs.length ≤ min xs.length ys.length ∨ ys.length ≤ min xs.length ys.length
    omega
  · obtain ⟨T, x, z, h1, h2, h3, h4, h5⟩ := y
    exact ⟨T, x, z, h1, h2, h3, h4 xs q.1, h5 ys q.2⟩
theorem zipD_len {es fs : List PyData} : (zipD es fs).length = min es.length fs.length := by simp [zipD]
theorem zipD_get {es fs : List PyData} {i : Nat} {d e : PyData} (h : es[i]? = some d) (h' : fs[i]? = some e) : (zipD es fs)[i]? = some (.tuple [d, e]) := by
  have z : (es.zip fs)[i]? = some (d, e) := List.getElem?_zip_eq_some.mpr ⟨h, h'⟩
  simp [zipD, z]
def iZ (φ ψ : Rho → Option PyData) : Rho → Option (List PyData) := fun ρ => ((φ ρ).bind asL).bind fun es => ((ψ ρ).bind asL).map fun fs => zipD es fs
def iZT (φ ψ : Rho → Option PyData) : Rho → Option (List PyData) := fun ρ => ((φ ρ).bind asT).bind fun es => ((ψ ρ).bind asT).map fun fs => zipD es fs
theorem wi_zip {ta tb : TE} {φ ψ : Rho → Option PyData} (ha : EvS K ta φ) (hb : EvS K tb ψ) : ItP K (RZ.iZipA K (tCons ta (tCons tb tNil))) (iZ φ ψ) := fun S H0 G T ow ρ σ H es sm he R q => by
  obtain ⟨xs, h1, h2⟩ := Option.bind_eq_some_iff.mp he
  obtain ⟨x, h3, h4⟩ := Option.bind_eq_some_iff.mp h1
  obtain rfl := asL_some h4
  obtain ⟨ys, h5, rfl⟩ := Option.map_eq_some_iff.mp h2
  obtain ⟨y, h6, h7⟩ := Option.bind_eq_some_iff.mp h5
  obtain rfl := asL_some h7
  refine ha S H0 G T ow ρ σ H _ sm h3 _ fun v H1 s1 hv => hb S H0 G T ow ρ σ H1 _ (sm.mono s1) h6 _ fun u H2 s2 hu => ?_
  have hv' := hv.mono (hs_mono s2)
  cases hv' with
  | @lst a vs _ k1 k2 =>
    cases hu with
    | @lst b us _ k3 k4 =>
      refine ⟨a, b, vs, us, rfl, .inl ⟨Same.seq hs_sub k1, Same.seq hs_sub k3, q _ H2 (s1.trans s2) ?_⟩⟩
      refine ⟨fun H => (SqL K H a vs ∧ DaAll K H vs xs) ∧ (SqL K H b us ∧ DaAll K H us ys), _, _, fun H H' s h => ⟨⟨Same.seq s h.1.1, h.1.2.mono s⟩, ⟨Same.seq s h.2.1, h.2.2.mono s⟩⟩, ⟨⟨k1, k2⟩, ⟨k3, k4⟩⟩, walk_zip (by rw [zipD_len, DaAll.len k2, DaAll.len k4]), fun T' H2 h => ⟨Same.seq hs_sub h.1.1, Same.seq hs_sub h.2.1⟩, fun T' H2 i x H' h tr hi y => ?_⟩
      obtain ⟨t, x1, x2, rfl, ht, rfl, e1, e2⟩ := y
      obtain ⟨d, d1, d2⟩ := DaAll.get h.1.2 e1
      obtain ⟨d', d3, d4⟩ := DaAll.get h.2.2 e2
      exact ⟨same_upd ht, _, zipD_get d1 d3, da_pair tr ht d2 d4⟩
theorem wi_zipT {ta tb : TE} {φ ψ : Rho → Option PyData} (ha : EvS K ta φ) (hb : EvS K tb ψ) : ItP K (RZ.iZipA K (tCons ta (tCons tb tNil))) (iZT φ ψ) := fun S H0 G T ow ρ σ H es sm he R q => by
  obtain ⟨xs, h1, h2⟩ := Option.bind_eq_some_iff.mp he
  obtain ⟨x, h3, h4⟩ := Option.bind_eq_some_iff.mp h1
  obtain rfl := asT_some h4
  obtain ⟨ys, h5, rfl⟩ := Option.map_eq_some_iff.mp h2
  obtain ⟨y, h6, h7⟩ := Option.bind_eq_some_iff.mp h5
  obtain rfl := asT_some h7
  refine ha S H0 G T ow ρ σ H _ sm h3 _ fun v H1 s1 hv => hb S H0 G T ow ρ σ H1 _ (sm.mono s1) h6 _ fun u H2 s2 hu => ?_
  have hv' := hv.mono (hs_mono s2)
  cases hv' with
  | @tup a vs _ k1 k2 =>
    cases hu with
    | @tup b us _ k3 k4 =>
      refine ⟨a, b, vs, us, rfl, .inr ⟨Same.tq hs_sub k1, Same.tq hs_sub k3, q _ H2 (s1.trans s2) ?_⟩⟩
      refine ⟨fun H => (SqT K H a vs ∧ DaAll K H vs xs) ∧ (SqT K H b us ∧ DaAll K H us ys), _, _, fun H H' s h => ⟨⟨Same.tq s h.1.1, h.1.2.mono s⟩, ⟨Same.tq s h.2.1, h.2.2.mono s⟩⟩, ⟨⟨k1, k2⟩, ⟨k3, k4⟩⟩, walk_zipT (by rw [zipD_len, DaAll.len k2, DaAll.len k4]), fun T' H2 h => ⟨Same.tq hs_sub h.1.1, Same.tq hs_sub h.2.1⟩, fun T' H2 i x H' h tr hi y => ?_⟩
      obtain ⟨t, x1, x2, rfl, ht, rfl, e1, e2⟩ := y
      obtain ⟨d, d1, d2⟩ := DaAll.get h.1.2 e1
      obtain ⟨d', d3, d4⟩ := DaAll.get h.2.2 e2
      exact ⟨same_upd ht, _, zipD_get d1 d3, da_pair tr ht d2 d4⟩
def iRT (φ : Rho → Option PyData) : Rho → Option (List PyData) := fun ρ => ((φ ρ).bind asT).map List.reverse
theorem wi_revT {te : TE} {φ : Rho → Option PyData} (h : EvS K te φ) : ItP K (RT.iRevA K te) (iRT φ) := fun S H0 G T ow ρ σ H es sm he R q => by
  obtain ⟨xs, h1, rfl⟩ := Option.map_eq_some_iff.mp he
  obtain ⟨x, h3, h4⟩ := Option.bind_eq_some_iff.mp h1
  obtain rfl := asT_some h4
  refine h S H0 G T ow ρ σ H _ sm h3 _ fun v H1 s1 hv => ?_
  cases hv with
  | @tup a vs _ k1 k2 =>
    have ll := DaAll.len k2
    refine ⟨a, vs, rfl, .inr ⟨Same.tq hs_sub k1, q _ H1 s1 ?_⟩⟩
    refine ⟨fun H => SqT K H a vs ∧ DaAll K H vs xs, fun H => SqT K H a vs, fun i H x H' => H' = H ∧ vs[vs.length - 1 - i]? = some x, fun H H' s h => ⟨Same.tq s h.1, h.2.mono s⟩, ⟨k1, k2⟩, ?_, fun T' H2 h => Same.tq hs_sub h.1, fun T' H2 i x H' h tr hi y => ?_⟩
    · rw [List.length_reverse, ← ll]
      exact ⟨fun i _ hi q => ⟨hi, vs, vs[vs.length - 1 - i]'(by omega), q, by simp [show vs.length - 1 - i < vs.length by omega]⟩, fun _ _ => Nat.le_refl _, fun _ _ _ _ _ q y => ⟨y.1, y.2 vs q⟩⟩
    · obtain ⟨rfl, e⟩ := y
      obtain ⟨d, d1, d2⟩ := DaAll.get h.2 e
      refine ⟨Same.refl _, d, ?_, d2⟩
      rw [List.length_reverse] at hi
      rw [List.getElem?_reverse hi, ← ll]
      exact d1
/-! ranges as values -/
def lRg (φ : Rho → Option PyData) : Rho → Option (List PyData) := fun ρ => ((φ ρ).bind asI).bind fun j => if decide (0 ≤ j ∧ j ≤ 100000) then some (rngD 0 j) else none
theorem rg_da {H : Hp} {a b : Int} : DaAll K H (rgV a b) (rngD a b) := by
  unfold rgV rngD
  generalize List.range (b - a).toNat = l
  induction l with
  | nil => exact .nil
  | cons x l ih => exact .cons (.int _) ih
theorem xf_rg {te : TE} {φ : Rho → Option PyData} (h : EvTr K te φ) : EvF K (tLstRg (tRg1 te)) (lRg φ) := fun S H0 G T ow ρ σ H ys sm he Q q => by
  obtain ⟨j, h1, h2⟩ := Option.bind_eq_some_iff.mp he
  obtain ⟨x, h3, h4⟩ := Option.bind_eq_some_iff.mp h1
  obtain rfl := asI_some h4
  split at h2
  · rename_i hz
    have hz' := of_decide_eq_true hz
    cases h2
    exact h S H0 G T ow ρ σ H _ sm h3 _ fun v H1 s1 hv => ⟨j, hv.int, RgOk.of_le (by omega) (by omega) (by omega) (by omega), fun p hp => q p _ _ (s1.trans (same_upd hp)) (s1.free hp) upd_same rg_da⟩
  · cases h2
def eTRg (φ : Rho → Option PyData) : Rho → Option PyData := fun ρ => (lRg φ ρ).map .tuple
theorem xs_tupRg {te : TE} {φ : Rho → Option PyData} (h : EvTr K te φ) : EvS K (tTupRg (tRg1 te)) (eTRg φ) := fun S H0 G T ow ρ σ H ys sm he Q q => by
  obtain ⟨es, h0, rfl⟩ := Option.map_eq_some_iff.mp he
  obtain ⟨j, h1, h2⟩ := Option.bind_eq_some_iff.mp h0
  obtain ⟨x, h3, h4⟩ := Option.bind_eq_some_iff.mp h1
  obtain rfl := asI_some h4
  split at h2
  · rename_i hz
    have hz' := of_decide_eq_true hz
    cases h2
    exact h S H0 G T ow ρ σ H _ sm h3 _ fun v H1 s1 hv => ⟨j, hv.int, RgOk.of_le (by omega) (by omega) (by omega) (by omega), fun p hp => q (.ref p) _ (s1.trans (same_upd hp)) (.tup (SqT.of (hs_at ((sm.tr.same s1).out hp) upd_same)) rg_da)⟩
  · cases h2
/-! sorted -/
def sortI (ns : List Int) : List Int := ns.mergeSort fun a b => decide (a ≤ b)
theorem sortI_perm {ns : List Int} : (sortI ns).Perm ns := List.mergeSort_perm ns _
theorem sortI_le {ns : List Int} : (sortI ns).Pairwise (· ≤ ·) := by
  have := List.pairwise_mergeSort (le := fun a b : Int => decide (a ≤ b)) (fun a b c h1 h2 => by simp at h1 h2 ⊢; omega) (fun a b => by simp; omega) ns
  exact this.imp fun h => of_decide_eq_true h
theorem sorted_uniq : ∀ {l r : List Int}, l.Perm r → l.Pairwise (· ≤ ·) → r.Pairwise (· ≤ ·) → l = r := by
  intro l
  induction l with
  | nil =>
    intro r h _ _
    exact h.nil_eq
  | cons x l ih =>
    intro r h h1 h2
    cases r with
    | nil => exact absurd h.length_eq (by simp)
    | cons y r =>
      have hx := (List.pairwise_cons.mp h1)
      have hy := (List.pairwise_cons.mp h2)
      have e : x = y := by
        have m1 : x ∈ y :: r := h.mem_iff.mp List.mem_cons_self
        have m2 : y ∈ x :: l := h.mem_iff.mpr List.mem_cons_self
        have a1 : y ≤ x := by
          rcases List.mem_cons.mp m1 with z | z
          · omega
          · exact hy.1 x z
        have a2 : x ≤ y := by
          rcases List.mem_cons.mp m2 with z | z
          · omega
          · exact hx.1 y z
        omega
      subst e
      rw [ih (List.perm_cons x |>.mp h) hx.2 hy.2]
def fSorted : List PyData → Option (List PyData)
  | [.list es] => (intsD es).map fun ns => (sortI ns).map .int
  | _ => none
theorem cf_sorted : CbF K (rSortedI K) fSorted := fun T H xs ds es tr h he Q q => by
  unfold fSorted at he
  split at he
  · obtain ⟨ns, k1, rfl⟩ := Option.map_eq_some_iff.mp he
    cases h with
    | cons h1 h2 =>
      cases h2
      obtain ⟨p, ys, rfl, hq, hd⟩ := h1.lst
      rw [ints_v hd k1] at hq
      refine ⟨p, ns, rfl, hq, fun ns' p' hp hs' hn => ?_⟩
      have e : ns' = sortI ns := sorted_uniq (hp.trans sortI_perm.symm) hs' sortI_le
      subst e
      exact q p' _ _ (same_upd hn) hn upd_same (DaAll.ints _)
  · cases he
/-! x op= e -/
def sAug (i : Nat) (f : PyData → PyData → Option PyData) (φ : Rho → Option PyData) : Rho → Option Res := fun ρ => (rv ρ i).bind fun x => (φ ρ).bind fun y => (f x y).map fun z => .nx (ρ.set i (.val z))
theorem ss_aug {cl : Str → Addr} {E : XK} {te : TE} {i : Nat} {g : Int → Int → Int} {φ : Rho → Option PyData} (h : EvTr K te φ) : StP K cl E (tAug i te (ipI g)) (sAug i (fI fun a b => .int (g a b)) φ) := fun S H0 G ρ σ H r ⟨T, ow, sm⟩ he D q => by
  obtain ⟨x, h1, h2⟩ := Option.bind_eq_some_iff.mp he
  obtain ⟨y, h3, h4⟩ := Option.bind_eq_some_iff.mp h2
  obtain ⟨z, h5, rfl⟩ := Option.map_eq_some_iff.mp h4
  obtain ⟨o, ho, v, rfl, hd⟩ := sm.slot i _ (rv_some h1)
  refine ⟨v, ho, h S H0 G T ow ρ σ H y sm h3 _ fun u H1 s1 hu => ?_⟩
  unfold fI at h5
  split at h5
  · rename_i a b
    cases h5
    cases hd
    refine ⟨a, b, rfl, hu.int, ?_⟩
    exact q _ H1 ((sm.mono s1).setV (.int _)).sim
  · cases h5
/-- n.bit_length() -/
def fBits : PyData → Option PyData
  | .int i => some (.int (Builtin.Int.intBits i : Nat))
  | _ => none
theorem xs_bits {te : TE} {φ : Rho → Option PyData} (h : EvTr K te φ) : EvS K (L2.tBits te) (eUn fBits φ) := fun S H0 G T ow ρ σ H e sm he Q q => by
  obtain ⟨x, h1, h2⟩ := Option.bind_eq_some_iff.mp he
  refine h S H0 G T ow ρ σ H x sm h1 _ fun v H1 s1 hv => ?_
  unfold fBits at h2
  split at h2
  · cases h2
    exact ⟨_, hv.int, q _ H1 s1 (.int _)⟩
  · cases h2
end
end Pb

set_option Elab.async false
set_option linter.all false
set_option maxRecDepth 100000
namespace Pb
open PySem PySem.Spec PyProof.Rows L2
/-! ### readings that draw: what is wished of every number drawn -/
theorem SimO.base {K : PySem.W.Frag} {S : List Addr} {H0 : Hp} {G : Hp → Prop} {T ow : List Addr} {ρ : Rho} {σ : L2.St} {H : Hp} (h : SimO K S H0 G T ow ρ σ H) (hS : ∀ a ∈ S, ∃ xs, H a = some (.lst xs)) : SimO K [] (fun _ => none) G T ow ρ σ H :=
  { len := h.len, slot := h.slot, inj := h.inj, old := fun _ _ e => (by cases e), new := fun _ _ => rfl, sub := fun _ h => absurd h List.not_mem_nil, owT := h.owT, tr := h.tr, trS := fun _ h => absurd h List.not_mem_nil, mo := h.mo, fr := h.fr, lsT := fun a ha => (h.lsT a ha).elim (fun z => .inr (hS a z)) .inr }
structure SimW (K : PySem.W.Frag) (S : List Addr) (H0 : Hp) (d b c : Addr) (n : Int) (G : Hp → Prop) (T ow : List Addr) (ρ : Rho) (σ : L2.St) (H : Hp) : Prop where
  co : SimO K [] (fun _ => none) G T ow ρ σ H
  ck : Ck T d b c n H
  old : Same (msk d b H0) (msk d b H)
  new : ∀ a ∈ ow, H0 a = none ∧ a ≠ d ∧ a ≠ b ∧ a ≠ c
  sub : ∀ a ∈ S, a ∈ T
  trS : Tr S H0
section
variable {K : PySem.W.Frag} {S : List Addr} {H0 : Hp} {d b c : Addr} {n n' : Int} {G : Hp → Prop} {T ow : List Addr} {ρ : Rho} {σ : L2.St} {H H' : Hp}
theorem SimW.mono (h : SimW K S H0 d b c n G T ow ρ σ H) (s : Same H H') : SimW K S H0 d b c n G T ow ρ σ H' :=
  ⟨h.co.mono s, h.ck.same s, h.old.trans (msk_same s), h.new, h.sub, h.trS⟩
theorem SimW.draw {N : Int} (h : SimW K S H0 d b c n G T ow ρ σ H) (dr : Dr d b c N H n' H') : SimW K S H0 d b c n' G T ow ρ σ H' := by
  have sm := h.ck.sm dr
  refine ⟨?_, h.ck.dr dr, h.old.trans dr.sm, h.new, h.sub, h.trS⟩
  exact
    { len := h.co.len, inj := h.co.inj, old := fun _ _ e => (by cases e), new := fun _ _ => rfl, sub := fun _ h => absurd h List.not_mem_nil, owT := h.co.owT, tr := (h.ck.dr dr).tr, trS := fun _ h => absurd h List.not_mem_nil, mo := h.co.mo, fr := h.co.mo _ _ sm h.co.fr,
      lsT := fun a ha => .inr (by
        by_cases z1 : a = d
        · rw [z1]
          exact ⟨_, dr.dk.at_d⟩
        · by_cases z2 : a = b
          · rw [z2]
            obtain ⟨bs, e⟩ := dr.dk.at_b
            exact ⟨_, e⟩
          · rcases h.co.lsT a ha with y | ⟨xs, e⟩
            · exact absurd y List.not_mem_nil
            · have := dr.sm a _ (by rw [msk_ne z1 z2]; exact e)
              rw [msk_ne z1 z2] at this
              exact ⟨xs, this⟩),
      slot := fun i sl e => by
        obtain ⟨o, ho, hs'⟩ := h.co.slot i sl e
        exact ⟨o, ho, hs'.move sm fun fo vs _ k1 k2 => ⟨k1, dr.at (h.new fo k1).2 k2⟩⟩ }
/-- as a pure statement sees it -/
theorem SimW.pure (h : SimW K S H0 d b c n G T ow ρ σ H) : SimO K (d :: b :: S) (hs ow H) G T ow ρ σ H := by
  have inS : ∀ a ∈ d :: b :: S, a ∉ ow := fun a ha z => by
    obtain ⟨z1, z2, z3, _⟩ := h.new a z
    rcases List.mem_cons.mp ha with rfl | ha
    · exact z2 rfl
    · rcases List.mem_cons.mp ha with rfl | ha
      · exact z3 rfl
      · obtain ⟨o, eo⟩ := h.trS a ha
        rw [z1] at eo
        cases eo
  exact
    { len := h.co.len, slot := h.co.slot, inj := h.co.inj, owT := h.co.owT, tr := h.co.tr, mo := h.co.mo, fr := h.co.fr, old := hs_sub, lsT := fun a ha => (h.co.lsT a ha).elim (fun z => absurd z List.not_mem_nil) .inr
      new := fun a ha => by
        unfold hs
        rw [if_pos ha]
      sub := fun a ha => by
        rcases List.mem_cons.mp ha with rfl | ha
        · exact h.ck.hd
        · rcases List.mem_cons.mp ha with rfl | ha
          · exact h.ck.hb
          · exact h.sub a ha
      trS := fun a ha => by
        have hT : a ∈ T := by
          rcases List.mem_cons.mp ha with rfl | ha
          · exact h.ck.hd
          · rcases List.mem_cons.mp ha with rfl | ha
            · exact h.ck.hb
            · exact h.sub a ha
        obtain ⟨o, eo⟩ := h.co.tr a hT
        exact ⟨o, hs_at (inS a ha) eo⟩ }
theorem SimW.back {T' ow' : List Addr} {ρ' : Rho} {σ' : L2.St} {G' : Hp → Prop} (h : SimW K S H0 d b c n G T ow ρ σ H) (k : SimO K (d :: b :: S) (hs ow H) G' T' ow' ρ' σ' H') : SimW K S H0 d b c n G' T' ow' ρ' σ' H' := by
  have dno : d ∉ ow := fun z => (h.new d z).2.1 rfl
  have bno : b ∉ ow := fun z => (h.new b z).2.2.1 rfl
  have cno : c ∉ ow := fun z => (h.new c z).2.2.2 rfl
  have dk : Dk d b c n (hs ow H) := by
    obtain ⟨e1, e2, e3, e4, e5, ⟨bs, e6⟩, ⟨cs, e7, e8⟩⟩ := h.ck.dk
    exact ⟨e1, e2, e3, e4, hs_at dno e5, ⟨bs, hs_at bno e6⟩, ⟨cs, hs_at cno e7, e8⟩⟩
  have dk' := dk.same k.old
  have hS : ∀ a ∈ d :: b :: S, ∃ xs, H' a = some (.lst xs) := fun a ha => by
    rcases List.mem_cons.mp ha with rfl | ha
    · exact ⟨_, dk'.at_d⟩
    · rcases List.mem_cons.mp ha with rfl | ha
      · obtain ⟨bs, e⟩ := dk'.at_b
        exact ⟨_, e⟩
      · rcases h.co.lsT a (h.sub a ha) with y | ⟨xs, e⟩
        · exact absurd y List.not_mem_nil
        · have : a ∉ ow := fun z => by
            obtain ⟨o, eo⟩ := h.trS a ha
            rw [(h.new a z).1] at eo
            cases eo
          exact ⟨xs, k.old _ _ (hs_at this e)⟩
  refine ⟨k.base hS, ⟨dk', k.sub d (by simp), k.sub b (by simp), k.tr⟩, ?_, ?_, fun a ha => k.sub a (by simp [ha]), h.trS⟩
  · intro a o e
    have e1 := h.old a o e
    obtain ⟨z1, z2, z3⟩ := msk_some e1
    obtain ⟨_, _, y3⟩ := msk_some e
    have : a ∉ ow := fun z => by
      rw [(h.new a z).1] at y3
      cases y3
    rw [msk_ne z1 z2]
    exact k.old _ _ (hs_at this z3)
  · intro a ha
    have ea := k.new a ha
    have ne : ∀ x o, hs ow H x = some o → a ≠ x := fun x o e z => by
      rw [← z, ea] at e
      cases e
    have n1 := ne d _ dk.at_d
    obtain ⟨bs, e6⟩ := dk.at_b
    obtain ⟨cs, e7, _⟩ := dk.at_c
    have n2 := ne b _ e6
    have n3 := ne c _ e7
    refine ⟨?_, n1, n2, n3⟩
    by_cases z : a ∈ ow
    · exact (h.new a z).1
    · rw [hs_out z] at ea
      cases e : H0 a with
      | none => rfl
      | some o =>
        have := h.old a o (by rw [msk_ne n1 n2]; exact e)
        rw [msk_ne n1 n2, ea] at this
        cases this
end
section
variable (K : PySem.W.Frag) (d : Addr)
def EvW (te : TE) (Φ : Rho → Int → (PyData → Int → Prop) → Prop) : Prop := ∀ S H0 b c n G T ow ρ σ H P, SimW K S H0 d b c n G T ow ρ σ H → Φ ρ n P → ∀ Q : VK, (∀ v e n' H', P e n' → Dr d b c n' H n' H' → Da K (hs T H') v e → Q v H') → te σ H Q
def EvAW (ta : TA) (Φ : Rho → Int → (List PyData → Int → Prop) → Prop) : Prop := ∀ S H0 b c n G T ow ρ σ H P, SimW K S H0 d b c n G T ow ρ σ H → Φ ρ n P → ∀ Q : List V → Hp → Prop, (∀ vs es n' H', P es n' → Dr d b c n' H n' H' → DaAll K (hs T H') vs es → Q vs H') → ta σ H Q
/-- a list that is new -/
def EvFW (te : TE) (Φ : Rho → Int → (List PyData → Int → Prop) → Prop) : Prop := ∀ S H0 b c n G T ow ρ σ H P, SimW K S H0 d b c n G T ow ρ σ H → Φ ρ n P → ∀ Q : VK, (∀ p vs es n' H', P es n' → Dr d b c n' H n' H' → H p = none → H' p = some (.lst vs) → DaAll K (hs (p :: T) H') vs es → Q (.ref p) H') → te σ H Q
end
/-! words -/
def wP (φ : Rho → Option PyData) : Rho → Int → (PyData → Int → Prop) → Prop := fun ρ n P => ∃ e, φ ρ = some e ∧ P e n
def wNil : Rho → Int → (List PyData → Int → Prop) → Prop := fun _ n P => P [] n
def wCons (Φ : Rho → Int → (PyData → Int → Prop) → Prop) (Φs : Rho → Int → (List PyData → Int → Prop) → Prop) : Rho → Int → (List PyData → Int → Prop) → Prop := fun ρ n P => Φ ρ n fun x n1 => Φs ρ n1 fun xs n2 => P (x :: xs) n2
def wTup (Φs : Rho → Int → (List PyData → Int → Prop) → Prop) : Rho → Int → (PyData → Int → Prop) → Prop := fun ρ n P => Φs ρ n fun es n1 => ∃ fs, lim es = some fs ∧ P (.tuple fs) n1
def wfLst (Φs : Rho → Int → (List PyData → Int → Prop) → Prop) : Rho → Int → (List PyData → Int → Prop) → Prop := fun ρ n P => Φs ρ n fun es n1 => ∃ fs, lim es = some fs ∧ P fs n1
def wfP (φ : Rho → Option (List PyData)) : Rho → Int → (List PyData → Int → Prop) → Prop := fun ρ n P => ∃ es, φ ρ = some es ∧ P es n
def wL (Φ : Rho → Int → (List PyData → Int → Prop) → Prop) : Rho → Int → (PyData → Int → Prop) → Prop := fun ρ n P => Φ ρ n fun es n1 => P (.list es) n1
def wOp (f : PyData → PyData → Option PyData) (Φ Ψ : Rho → Int → (PyData → Int → Prop) → Prop) : Rho → Int → (PyData → Int → Prop) → Prop := fun ρ n P => Φ ρ n fun x n1 => Ψ ρ n1 fun y n2 => ∃ e, f x y = some e ∧ P e n2
def wCb (f : List PyData → Option PyData) (Φs : Rho → Int → (List PyData → Int → Prop) → Prop) : Rho → Int → (PyData → Int → Prop) → Prop := fun ρ n P => Φs ρ n fun es n1 => ∃ e, f es = some e ∧ P e n1
def wDraw (d : Addr) (i : Nat) (W : Addr → List PyData → Int → (PyData → Int → Prop) → Prop) (Φs : Rho → Int → (List PyData → Int → Prop) → Prop) : Rho → Int → (PyData → Int → Prop) → Prop := fun ρ n P => ρ[i]? = some (.deck d) ∧ Φs ρ n fun es n1 => W d es n1 P
def wfCat (Φ Ψ : Rho → Int → (List PyData → Int → Prop) → Prop) : Rho → Int → (List PyData → Int → Prop) → Prop := fun ρ n P => Φ ρ n fun x n1 => Ψ ρ n1 fun y n2 => ∃ e, lim (x ++ y) = some e ∧ P e n2
/-- a def that draws: its deck first -/
def spW (K : PySem.W.Frag) (W : Addr → List PyData → Int → (PyData → Int → Prop) → Prop) : Sp := fun vs H Q _ => ∃ (S : List Addr) (d b c : Addr) (n : Int) (ws : List V) (ds : List PyData) (P : PyData → Int → Prop), vs = .ref d :: ws ∧ Ck S d b c n H ∧ (∀ a ∈ S, ∃ xs, H a = some (.lst xs)) ∧ DaAll K (hs S H) ws ds ∧ W d ds n P ∧
  ∀ v e n' H', P e n' → Same (msk d b H) (msk d b H') → Dk d b c n' H' → Da K (hs S H') v e → Q v H'
theorem Dr.pure {d b c : Addr} {n : Int} {H H' : Hp} (dk : Dk d b c n H) (s : Same H H') : Dr d b c n H n H' := (Dr.refl dk).more s
theorem Dr.then {d b c : Addr} {n1 n2 : Int} {H H1 H2 : Hp} (h : Dr d b c n1 H n1 H1) (k : Dr d b c n2 H1 n2 H2) : Dr d b c n2 H n2 H2 := ⟨k.dk, Int.le_refl _, h.sm.trans k.sm⟩
section
variable {K : PySem.W.Frag} {d : Addr}
theorem EvS.w {te : TE} {φ : Rho → Option PyData} (h : EvS K te φ) : EvW K d te (wP φ) := fun S H0 b c n G T ow ρ σ H P sm ⟨e, h1, h2⟩ Q q =>
  h _ _ G T ow ρ σ H e sm.co h1 Q fun v H' s hd => q v e n H' h2 (.pure sm.ck.dk s) hd
theorem EvF.w {te : TE} {φ : Rho → Option (List PyData)} (h : EvF K te φ) : EvFW K d te (wfP φ) := fun S H0 b c n G T ow ρ σ H P sm ⟨e, h1, h2⟩ Q q =>
  h _ _ G T ow ρ σ H e sm.co h1 Q fun p vs H' s hp hp' hd => q p vs e n H' h2 (.pure sm.ck.dk s) hp hp' hd
theorem EvFW.s {te : TE} {Φ : Rho → Int → (List PyData → Int → Prop) → Prop} (h : EvFW K d te Φ) : EvW K d te (wL Φ) := fun S H0 b c n G T ow ρ σ H P sm h1 Q q =>
  h S H0 b c n G T ow ρ σ H _ sm h1 Q fun p vs es n' H' hP dr hp hp' hd => q (.ref p) (.list es) n' H' hP dr (.lst (SqL.of (hs_at (sm.co.tr.out hp) hp')) (hd.mono hs_cons_sub))
theorem wa_nil : EvAW K d tNil wNil := fun S H0 b c n G T ow ρ σ H P sm h1 Q q => q [] [] n H h1 (.pure sm.ck.dk (Same.refl _)) .nil
theorem wa_cons {te : TE} {ta : TA} {Φ : Rho → Int → (PyData → Int → Prop) → Prop} {Φs : Rho → Int → (List PyData → Int → Prop) → Prop} (h : EvW K d te Φ) (hr : EvAW K d ta Φs) : EvAW K d (tCons te ta) (wCons Φ Φs) := fun S H0 b c n G T ow ρ σ H P sm h1 Q q =>
  h S H0 b c n G T ow ρ σ H _ sm h1 _ fun v e n1 H1 hP d1 hv => hr S H0 b c n1 G T ow ρ σ H1 _ (sm.draw d1) hP _ fun vs es n2 H2 hP2 d2 hvs => q (v :: vs) (e :: es) n2 H2 hP2 (d1.then d2) (.cons (hv.mono ((sm.draw d1).ck.sm d2)) hvs)
theorem xw_tup {ta : TA} {Φs : Rho → Int → (List PyData → Int → Prop) → Prop} (h : EvAW K d ta Φs) : EvW K d (tTup ta) (wTup Φs) := fun S H0 b c n G T ow ρ σ H P sm h1 Q q =>
  h S H0 b c n G T ow ρ σ H _ sm h1 _ fun vs es n1 H1 ⟨fs, hl, hP⟩ d1 hvs => by
    obtain ⟨hl, rfl⟩ := lim_some hl
    exact ⟨Evl.sz_of (by rw [DaAll.len hvs]; exact hl), fun p hp => q (.ref p) _ n1 _ hP (d1.new hp) (.tup (SqT.of (hs_at ((sm.draw d1).co.tr.out hp) upd_same)) (hvs.mono (hs_mono (same_upd hp))))⟩
theorem xfw_lst {ta : TA} {Φs : Rho → Int → (List PyData → Int → Prop) → Prop} (h : EvAW K d ta Φs) : EvFW K d (tLst ta) (wfLst Φs) := fun S H0 b c n G T ow ρ σ H P sm h1 Q q =>
  h S H0 b c n G T ow ρ σ H _ sm h1 _ fun vs es n1 H1 ⟨fs, hl, hP⟩ d1 hvs => by
    obtain ⟨hl, rfl⟩ := lim_some hl
    exact ⟨Evl.sz_of (by rw [DaAll.len hvs]; exact hl), fun p hp => q p vs _ n1 _ hP (d1.new hp) (d1.free hp) upd_same (hvs.mono (hs_cons_new hp))⟩
theorem xw_op {r : R2} {f : PyData → PyData → Option PyData} {ta tb : TE} {Φ Ψ : Rho → Int → (PyData → Int → Prop) → Prop} (hr : OpS K r f) (ha : EvW K d ta Φ) (hb : EvW K d tb Ψ) : EvW K d (tOp r ta tb) (wOp f Φ Ψ) := fun S H0 b c n G T ow ρ σ H P sm h1 Q q =>
  ha S H0 b c n G T ow ρ σ H _ sm h1 _ fun v x n1 H1 hP d1 hv => hb S H0 b c n1 G T ow ρ σ H1 _ (sm.draw d1) hP _ fun u y n2 H2 ⟨e, he, hP2⟩ d2 hu =>
    hr T H2 v u x y e (sm.draw (d1.then d2)).co.tr (.inl (hv.mono ((sm.draw d1).ck.sm d2))) (.inl hu) he _ fun z H3 s3 hz => q z e n2 H3 hP2 ((d1.then d2).more s3) hz
/-- a list whose items are told: new, or of a slot -/
def EvLW (K : PySem.W.Frag) (d : Addr) (te : TE) (Φ : Rho → Int → (List PyData → Int → Prop) → Prop) : Prop := ∀ S H0 b c n G T ow ρ σ H P, SimW K S H0 d b c n G T ow ρ σ H → Φ ρ n P → ∀ Q : VK, (∀ p vs es n' H', P es n' → Dr d b c n' H n' H' → (p ≠ d ∧ p ≠ b ∧ p ≠ c) → H' p = some (.lst vs) → DaAll K (hs T H') vs es → Q (.ref p) H') → te σ H Q
theorem EvFW.l {te : TE} {Φ : Rho → Int → (List PyData → Int → Prop) → Prop} (h : EvFW K d te Φ) : EvLW K d te Φ := fun S H0 b c n G T ow ρ σ H P sm h1 Q q =>
  h S H0 b c n G T ow ρ σ H _ sm h1 Q fun p vs es n' H' hP dr hp hp' hd => q p vs es n' H' hP dr (sm.ck.dk.off hp) hp' (hd.mono hs_cons_sub)
theorem xlw_own (i : Nat) : EvLW K d (tVar i) (wfP (lOwn i)) := fun S H0 b c n G T ow ρ σ H P sm ⟨es, h1, h2⟩ Q q => by
  obtain ⟨o, ho, fo, vs, rfl, k1, k2, k3⟩ := sm.co.slot i _ (ro_some h1)
  exact ⟨_, ho, q fo vs es n H h2 (.pure sm.ck.dk (Same.refl _)) (sm.new fo k1).2 k2 k3⟩
theorem xfw_cat {ta tb : TE} {Φ Ψ : Rho → Int → (List PyData → Int → Prop) → Prop} (ha : EvLW K d ta Φ) (hb : EvLW K d tb Ψ) : EvFW K d (tOp rCat ta tb) (wfCat Φ Ψ) := fun S H0 b c n G T ow ρ σ H P sm h1 Q q =>
  ha S H0 b c n G T ow ρ σ H _ sm h1 _ fun p vs es n1 H1 hP d1 off hp' hd => hb S H0 b c n1 G T ow ρ σ H1 _ (sm.draw d1) hP _ fun p2 us fs n2 H2 ⟨e, he, hP2⟩ d2 off2 hp2' hd2 => by
    obtain ⟨hl, rfl⟩ := lim_some he
    refine ⟨p, p2, vs, us, rfl, rfl, d2.at off hp', hp2', ?_, fun t ht => ?_⟩
    · refine Evl.sz_of ?_
      rw [DaAll.len hd, DaAll.len hd2, ← List.length_append]
      exact hl
    · have d12 := d1.then d2
      exact q t _ _ n2 _ hP2 (d12.new ht) (d12.free ht) upd_same (((hd.mono ((sm.draw d1).ck.sm d2)).append hd2).mono (hs_cons_new ht))
/-- the first a list of a slot -/
theorem da_dv {T : List Addr} {H : Hp} : ∀ {vs : List V} {es : List PyData}, DaAll K (hs T H) vs es → DvAll K T H vs es
  | [], _, h => by
    cases h
    exact .nil
  | _ :: _, _, h => by
    cases h with
    | cons h1 h2 => exact .cons (.inl h1) (da_dv h2)
theorem xw_cb {r : List V → Hp → VK → Prop} {f : List PyData → Option PyData} {ta : TA} {Φs : Rho → Int → (List PyData → Int → Prop) → Prop} (hr : CbS K r f) (ha : EvAW K d ta Φs) : EvW K d (tCB r ta) (wCb f Φs) := fun S H0 b c n G T ow ρ σ H P sm h1 Q q =>
  ha S H0 b c n G T ow ρ σ H _ sm h1 _ fun vs es n1 H1 ⟨e, he, hP⟩ d1 hvs => hr T H1 vs es e (sm.draw d1).co.tr (da_dv hvs) he _ fun z H3 s3 hz => q z e n1 H3 hP (d1.more s3) hz
theorem xw_call {g : List PyData → Option PyData} {ta : TA} {Φs : Rho → Int → (List PyData → Int → Prop) → Prop} {E : XK} (ha : EvAW K d ta Φs) : EvW K d (tCall (spD K (RF g)) [] E ta) (wCb g Φs) := fun S H0 b c n G T ow ρ σ H P sm h1 Q q =>
  ha S H0 b c n G T ow ρ σ H _ sm h1 _ fun vs es n1 H1 ⟨e, he, hP⟩ d1 hvs => by
    show spD K (RF g) (vs ++ []) H1 Q E
    rw [List.append_nil]
    exact ⟨T, es, e, (sm.draw d1).co.tr, hvs, he, fun v H2 s2 hd => q v e n1 H2 hP (d1.more s2) hd⟩
theorem xw_draw {W : Addr → List PyData → Int → (PyData → Int → Prop) → Prop} {i : Nat} {ta : TA} {Φs : Rho → Int → (List PyData → Int → Prop) → Prop} {E : XK} (ha : EvAW K d ta Φs) : EvW K d (tCall (spW K W) [] E (tCons (tVar i) ta)) (wDraw d i W Φs) := fun S H0 b c n G T ow ρ σ H P sm ⟨h0, h1⟩ Q q => by
  obtain ⟨o, ho, eo⟩ := sm.co.slot i _ h0
  have eo' : o = some (.ref d) := eo
  subst eo'
  refine ⟨.ref d, ho, ha S H0 b c n G T ow ρ σ H _ sm h1 _ fun vs es n1 H1 hP d1 hvs => ?_⟩
  show spW K W ((.ref d :: vs) ++ []) H1 Q E
  rw [List.append_nil]
  exact ⟨T, d, b, c, n1, vs, es, P, rfl, (sm.draw d1).ck, fun a ha => ((sm.draw d1).co.lsT a ha).elim (fun z => absurd z List.not_mem_nil) id, hvs, hP, fun v e n' H' hP' hm hk hd => q v e n' H' hP' (d1.then ⟨hk, Int.le_refl _, hm⟩) hd⟩
/-! statements -/
def SimS (K : PySem.W.Frag) (S : List Addr) (H0 : Hp) (d b c : Addr) (n : Int) (G : Hp → Prop) (ρ : Rho) (σ : L2.St) (H : Hp) : Prop := ∃ T ow, SimW K S H0 d b c n G T ow ρ σ H
end
section
variable (K : PySem.W.Frag) (d : Addr)
def EndW (S : List Addr) (H0 : Hp) (b c : Addr) (G : Hp → Prop) (D : Ends) (n : Int) : Res → Prop
  | .nx ρ => ∀ σ H, SimS K S H0 d b c n G ρ σ H → D.nx σ H
  | .rt e => ∀ v H, Same (msk d b H0) (msk d b H) → Dk d b c n H → Da K (hs S H) v e → D.rt v H
  | .bk ρ => ∀ σ H, SimS K S H0 d b c n G ρ σ H → D.bk σ H
  | .ct ρ => ∀ σ H, SimS K S H0 d b c n G ρ σ H → D.ct σ H
  | .ex _ => False
def StW (ts : TS) (Ψ : Rho → Int → (Res → Int → Prop) → Prop) : Prop := ∀ S H0 b c n G ρ σ H P, SimS K S H0 d b c n G ρ σ H → Ψ ρ n P → ∀ D : Ends, (∀ r n', P r n' → EndW K d S H0 b c G D n' r) → ts D σ H
end
def twP (ψ : Rho → Option Res) : Rho → Int → (Res → Int → Prop) → Prop := fun ρ n P => ∃ r, ψ ρ = some r ∧ P r n
def thenW (r : Res) (n : Int) (Χ : Rho → Int → (Res → Int → Prop) → Prop) (P : Res → Int → Prop) : Prop := match r with
  | .nx ρ => Χ ρ n P
  | r => P r n
def twSeq (Ψ Χ : Rho → Int → (Res → Int → Prop) → Prop) : Rho → Int → (Res → Int → Prop) → Prop := fun ρ n P => Ψ ρ n fun r n1 => thenW r n1 Χ P
def twIf (β : Rho → Option Bool) (Ψ Χ : Rho → Int → (Res → Int → Prop) → Prop) : Rho → Int → (Res → Int → Prop) → Prop := fun ρ n P => ∃ c, β ρ = some c ∧ if c then Ψ ρ n P else Χ ρ n P
def twSet (τ : PyData → Rho → Option Rho) (Φ : Rho → Int → (PyData → Int → Prop) → Prop) : Rho → Int → (Res → Int → Prop) → Prop := fun ρ n P => Φ ρ n fun e n1 => ∃ ρ', τ e ρ = some ρ' ∧ P (.nx ρ') n1
def twOwn (i : Nat) (Φ : Rho → Int → (List PyData → Int → Prop) → Prop) : Rho → Int → (Res → Int → Prop) → Prop := fun ρ n P => Φ ρ n fun es n1 => P (.nx (ρ.set i (.own es))) n1
def twRet (Φ : Rho → Int → (PyData → Int → Prop) → Prop) : Rho → Int → (Res → Int → Prop) → Prop := fun ρ n P => Φ ρ n fun e n1 => P (.rt e) n1
def twPar (i j : Nat) (Φs : Rho → Int → (List PyData → Int → Prop) → Prop) : Rho → Int → (Res → Int → Prop) → Prop := fun ρ n P => Φs ρ n fun es n1 => ∃ a b, es = [a, b] ∧ P (.nx ((ρ.set i (.val a)).set j (.val b))) n1
def forW (B : PyData → Rho → Int → (Res → Int → Prop) → Prop) : List PyData → Rho → Int → (Res → Int → Prop) → Prop
  | [], ρ, n, P => P (.nx ρ) n
  | e :: es, ρ, n, P => B e ρ n fun r n1 => match r with
    | .nx ρ' => forW B es ρ' n1 P
    | .ct ρ' => forW B es ρ' n1 P
    | .bk ρ' => P (.nx ρ') n1
    | r => P r n1
def twFor (it : Rho → Option (List PyData)) (τ : PyData → Rho → Option Rho) (Ψ : Rho → Int → (Res → Int → Prop) → Prop) : Rho → Int → (Res → Int → Prop) → Prop := fun ρ n P => ∃ es, it ρ = some es ∧ forW (fun e ρ n P => ∃ ρ', τ e ρ = some ρ' ∧ Ψ ρ' n P) es ρ n P
/-- over what is itself drawn -/
def twForW (it : Rho → Int → (PyData → Int → Prop) → Prop) (τ : PyData → Rho → Option Rho) (Ψ : Rho → Int → (Res → Int → Prop) → Prop) : Rho → Int → (Res → Int → Prop) → Prop := fun ρ n P => it ρ n fun x n1 => ∃ es, asL x = some es ∧ forW (fun e ρ n P => ∃ ρ', τ e ρ = some ρ' ∧ Ψ ρ' n P) es ρ n1 P
section
variable {K : PySem.W.Frag} {d : Addr}
theorem StP.w {cl : Str → Addr} {E : XK} {ts : TS} {ψ : Rho → Option Res} (h : StP K cl E ts ψ) : StW K d ts (twP ψ) := fun S H0 b c n G ρ σ H P ⟨T, ow, sm⟩ ⟨r, h1, h2⟩ D q => by
  refine h (d :: b :: S) (hs ow H) G ρ σ H r ⟨T, ow, sm.pure⟩ h1 D ?_
  have e := q r n h2
  cases r with
  | nx ρ' => exact fun σ' H' ⟨T', ow', k⟩ => e σ' H' ⟨T', ow', sm.back k⟩
  | bk ρ' => exact fun σ' H' ⟨T', ow', k⟩ => e σ' H' ⟨T', ow', sm.back k⟩
  | ct ρ' => exact fun σ' H' ⟨T', ow', k⟩ => e σ' H' ⟨T', ow', sm.back k⟩
  | ex o => exact e.elim
  | rt x =>
    intro v H' s hv
    have dno : d ∉ ow := fun z => (sm.new d z).2.1 rfl
    have bno : b ∉ ow := fun z => (sm.new b z).2.2.1 rfl
    have cno : c ∉ ow := fun z => (sm.new c z).2.2.2 rfl
    refine e v H' ?_ ?_ (hv.mono (msk_to_hs fun a ha => by simp [ha]))
    · intro a o ea
      have e1 := sm.old a o ea
      obtain ⟨z1, z2, z3⟩ := msk_some e1
      obtain ⟨_, _, y3⟩ := msk_some ea
      have : a ∉ ow := fun z => by
        rw [(sm.new a z).1] at y3
        cases y3
      rw [msk_ne z1 z2]
      exact s _ _ (hs_at this z3)
    · obtain ⟨e1, e2, e3, e4, e5, ⟨bs, e6⟩, ⟨cs, e7, e8⟩⟩ := sm.ck.dk
      exact ⟨e1, e2, e3, e4, s _ _ (hs_at dno e5), ⟨bs, s _ _ (hs_at bno e6)⟩, ⟨cs, s _ _ (hs_at cno e7), e8⟩⟩
theorem sw_seq {t u : TS} {Ψ Χ : Rho → Int → (Res → Int → Prop) → Prop} (h : StW K d t Ψ) (k : StW K d u Χ) : StW K d (tSeq t u) (twSeq Ψ Χ) := fun S H0 b c n G ρ σ H P sm h1 D q => by
  refine h S H0 b c n G ρ σ H _ sm h1 _ fun r n1 hr => ?_
  cases r with
  | nx ρ' => exact fun σ' H' sm' => k S H0 b c n1 G ρ' σ' H' P sm' hr D q
  | rt e => exact q _ _ hr
  | bk ρ' => exact q _ _ hr
  | ct ρ' => exact q _ _ hr
  | ex o => exact q _ _ hr
theorem sw_if {t : TT} {u v : TS} {β : Rho → Option Bool} {Ψ Χ : Rho → Int → (Res → Int → Prop) → Prop} (ht : TeP K t β) (h : StW K d u Ψ) (k : StW K d v Χ) : StW K d (tIfS t u v) (twIf β Ψ Χ) := fun S H0 b c n G ρ σ H P ⟨T, ow, sm⟩ ⟨x, h1, h2⟩ D q => by
  refine ht _ _ G T ow ρ σ H x sm.co h1 _ fun H1 s1 => ?_
  cases x with
  | true => exact h S H0 b c n G ρ σ H1 P ⟨T, ow, sm.mono s1⟩ (by simpa using h2) D q
  | false => exact k S H0 b c n G ρ σ H1 P ⟨T, ow, sm.mono s1⟩ (by simpa using h2) D q
theorem SimW.putV {K : PySem.W.Frag} {S : List Addr} {H0 : Hp} {d b c : Addr} {n : Int} {G : Hp → Prop} {T ow : List Addr} {ρ ρ' : Rho} {σ σ' : L2.St} {H : Hp} (h : SimW K S H0 d b c n G T ow ρ σ H) (k : SimO K [] (fun _ => none) G T ow ρ' σ' H) : SimW K S H0 d b c n G T ow ρ' σ' H := ⟨k, h.ck, h.old, h.new, h.sub, h.trS⟩
theorem sw_set {te : TE} {g : TG} {js : List Nat} {Φ : Rho → Int → (PyData → Int → Prop) → Prop} {τ : PyData → Rho → Option Rho} (h : EvW K d te Φ) (hg : TgP K g js τ) : StW K d (tAsg te g) (twSet τ Φ) := fun S H0 b c n G ρ σ H P ⟨T, ow, sm⟩ h1 D q =>
  h S H0 b c n G T ow ρ σ H _ sm h1 _ fun v e n1 H1 ⟨ρ', h2, h3⟩ d1 hv => hg _ _ G T ow ρ σ H1 v e ρ' (sm.draw d1).co hv h2 _ fun σ' sm' _ => q _ n1 h3 σ' H1 ⟨T, ow, (sm.draw d1).putV sm'⟩
theorem sw_par {ta : TA} {i j : Nat} {Φs : Rho → Int → (List PyData → Int → Prop) → Prop} (h : EvAW K d ta Φs) : StW K d (tPar i j ta) (twPar i j Φs) := fun S H0 b c n G ρ σ H P ⟨T, ow, sm⟩ h1 D q =>
  h S H0 b c n G T ow ρ σ H _ sm h1 _ fun vs es n1 H1 ⟨x, y, e, hP⟩ d1 hv => by
    subst e
    cases hv with
    | cons k1 hv =>
      cases hv with
      | cons k2 hv =>
        cases hv
        exact ⟨_, _, rfl, q _ n1 hP _ H1 ⟨T, ow, (sm.draw d1).putV (((sm.draw d1).co.setV k1).setV k2)⟩⟩
theorem sw_ret {te : TE} {Φ : Rho → Int → (PyData → Int → Prop) → Prop} (h : EvW K d te Φ) : StW K d (tRet te) (twRet Φ) := fun S H0 b c n G ρ σ H P ⟨T, ow, sm⟩ h1 D q =>
  h S H0 b c n G T ow ρ σ H _ sm h1 _ fun v e n1 H1 hP d1 hv => q _ n1 hP v H1 (sm.old.trans d1.sm) d1.dk (hv.mono (msk_to_hs sm.sub))
theorem sw_own {te : TE} {i : Nat} {Φ : Rho → Int → (List PyData → Int → Prop) → Prop} (h : EvFW K d te Φ) : StW K d (tAsg te (gName i)) (twOwn i Φ) := fun S H0 b c n G ρ σ H P ⟨T, ow, sm⟩ h1 D q =>
  h S H0 b c n G T ow ρ σ H _ sm h1 _ fun p vs es n1 H1 hP d1 hp hp' hd => by
    refine q _ n1 hP _ H1 ⟨p :: T, p :: ow, ?_⟩
    have off := sm.ck.dk.off hp
    have smT := sm.ck.sm d1
    have smP : Same (hs T H) (hs (p :: T) H1) := fun a o e => by
      obtain ⟨h1, h2⟩ := hs_some e
      have ne : a ≠ p := fun z => by
        rw [z, hp] at h2
        cases h2
      have := smT a o e
      rw [hs_out h1] at this
      rw [hs_out (by simp [ne, h1])]
      exact this
    have w1 := sm.draw d1
    have pno : ∀ (j : Nat) (es' : List PyData), ρ[j]? = some (.own es') → σ[j]? ≠ some (some (.ref p)) := fun j es' e z => by
      obtain ⟨o, ho, fo, ws, e1, _, e3, _⟩ := sm.co.slot j _ e
      rw [ho] at z
      cases z
      cases e1
      rw [hp] at e3
      cases e3
    have H0p : H0 p = none := by
      cases e : H0 p with
      | none => rfl
      | some o =>
        have := sm.old p o (by rw [msk_ne off.1 off.2.1]; exact e)
        rw [msk_ne off.1 off.2.1, hp] at this
        cases this
    have trP : Tr (p :: T) H1 := fun x hx => by
      rcases List.mem_cons.mp hx with rfl | hx
      · exact ⟨_, hp'⟩
      · exact w1.co.tr x hx
    refine ⟨?_, ⟨d1.dk, List.mem_cons_of_mem _ sm.ck.hd, List.mem_cons_of_mem _ sm.ck.hb, trP⟩, sm.old.trans d1.sm, ?_, fun a ha => List.mem_cons_of_mem _ (sm.sub a ha), sm.trS⟩
    · refine { len := by rw [List.length_set, List.length_set, sm.co.len], old := fun _ _ e => (by cases e), new := fun _ _ => rfl, sub := fun _ h => absurd h List.not_mem_nil, trS := fun _ h => absurd h List.not_mem_nil, mo := sm.co.mo, fr := sm.co.mo _ _ smP sm.co.fr, tr := trP, owT := ?owT, slot := ?slot, inj := ?inj, lsT := ?lsT }
      case lsT =>
        intro x hx
        rcases List.mem_cons.mp hx with rfl | hx
        · exact .inr ⟨_, hp'⟩
        · exact w1.co.lsT x hx
      case owT =>
        intro a ha
        rcases List.mem_cons.mp ha with rfl | ha
        · exact List.mem_cons_self
        · exact List.mem_cons_of_mem _ (sm.co.owT a ha)
      case slot =>
        intro j sl e
        by_cases hj : i = j
        · subst hj
          rw [List.getElem?_set] at e
          simp only [if_true] at e
          split at e
          · rename_i hl
            cases e
            refine ⟨some (.ref p), by rw [List.getElem?_set_self (by rw [sm.co.len]; exact hl)], p, vs, rfl, List.mem_cons_self, hp', hd⟩
          · cases e
        · rw [List.getElem?_set_ne hj] at e ⊢
          obtain ⟨o, ho, hs'⟩ := sm.co.slot j sl e
          exact ⟨o, ho, hs'.move smP fun fo ws _ k1 k2 => ⟨List.mem_cons_of_mem _ k1, d1.at (sm.new fo k1).2 k2⟩⟩
      case inj =>
        intro a b es1 es2 hab e1 e2
        by_cases ha : i = a
        · subst ha
          rw [List.getElem?_set_ne hab] at e2 ⊢
          intro z
          have hl : i < ρ.length := by
            rw [List.getElem?_set] at e1
            simp only [if_true] at e1
            split at e1
            · assumption
            · cases e1
          rw [List.getElem?_set_self (by rw [sm.co.len]; exact hl)] at z
          exact pno b es2 e2 z.symm
        · rw [List.getElem?_set_ne ha] at e1 ⊢
          by_cases hb : i = b
          · subst hb
            have hl : i < ρ.length := by
              rw [List.getElem?_set] at e2
              simp only [if_true] at e2
              split at e2
              · assumption
              · cases e2
            rw [List.getElem?_set_self (by rw [sm.co.len]; exact hl)]
            exact pno a es1 e1
          · rw [List.getElem?_set_ne hb] at e2 ⊢
            exact sm.co.inj a b es1 es2 hab e1 e2
    · intro a ha
      rcases List.mem_cons.mp ha with rfl | ha
      · exact ⟨H0p, off⟩
      · exact sm.new a ha
/-- for -/
theorem SimW.weak {K : PySem.W.Frag} {S : List Addr} {H0 : Hp} {d b c : Addr} {n : Int} {G G' : Hp → Prop} {T ow : List Addr} {ρ : Rho} {σ : L2.St} {H : Hp} (h : SimW K S H0 d b c n G T ow ρ σ H) (mo : ∀ H H', Same H H' → G' H → G' H') (hg : G' (hs T H)) : SimW K S H0 d b c n G' T ow ρ σ H := ⟨h.co.weak mo hg, h.ck, h.old, h.new, h.sub, h.trS⟩
theorem for_core {g : TG} {tb : TS} {js : List Nat} {τ : PyData → Rho → Option Rho} {Ψ : Rho → Int → (Res → Int → Prop) → Prop} (hg : TgP K g js τ) (hb : StW K d tb Ψ) {S : List Addr} {H0 : Hp} {b c : Addr} {n : Int} {G : Hp → Prop} {T ow : List Addr} {ρ : Rho} {σ : L2.St} {H1 : Hp} {P : Res → Int → Prop} {D : Ends} {J : It} {es : List PyData}
    (sm : SimW K S H0 d b c n G T ow ρ σ H1) (it : ItOk K T H1 J es) (h2 : forW (fun e ρ n P => ∃ ρ', τ e ρ = some ρ' ∧ Ψ ρ' n P) es ρ n P) (q : ∀ r n', P r n' → EndW K d S H0 b c G D n' r) :
    ∃ W : Nat → Nat → L2.St → Hp → Prop, (∃ m, W 0 m σ H1) ∧ ∀ i m σ H, W i m σ H → (J.stop i H ∧ D.nx σ H) ∨ (J.go i H ∧ ∃ N : L2.St → Hp → Prop, (∀ σ' H', N σ' H' → ∃ m', m' < m ∧ W (i + 1) m' σ' H') ∧ ∀ x H', J.yld i H x H' → g x σ H' fun σ2 H2 => tb { D with nx := N, ct := N, bk := D.nx } σ2 H2) := by
  obtain ⟨F, Gw, Yw, mo, f0, wk, hG, hY⟩ := it
  have wkn : ∀ {ρ' : Rho} {σ' : L2.St} {H' : Hp} {n' : Int}, SimS K S H0 d b c n' (fun X => G X ∧ F X) ρ' σ' H' → SimS K S H0 d b c n' G ρ' σ' H' := fun ⟨T', ow', sm'⟩ => ⟨T', ow', sm'.weak sm.co.mo sm'.co.fr.1⟩
  refine for_it wk (fun i σ' H' => ∃ ρ' n', SimS K S H0 d b c n' (fun X => G X ∧ F X) ρ' σ' H' ∧ forW (fun e ρ n P => ∃ ρ', τ e ρ = some ρ' ∧ Ψ ρ' n P) (es.drop i) ρ' n' P) ?_ ?_ ?_ ?_
  · exact ⟨ρ, n, ⟨T, ow, sm.weak (fun H H' s h => ⟨sm.co.mo _ _ s h.1, mo _ _ s h.2⟩) ⟨sm.co.fr, f0⟩⟩, h2⟩
  · rintro i σ' H' _ ⟨ρ', n', ⟨T', ow', sm'⟩, _⟩
    exact hG _ _ sm'.co.fr.2
  · rintro i x σ' H2 H3 hlt ⟨ρ', n', ⟨T', ow', sm'⟩, e4⟩ y
    obtain ⟨s3, e, he3, hx⟩ := hY _ H2 i x H3 sm'.co.fr.2 sm'.co.tr hlt y
    have dr : es.drop i = e :: es.drop (i + 1) := by
      rw [List.drop_eq_getElem_cons hlt]
      congr 1
      rw [List.getElem?_eq_getElem hlt] at he3
      exact Option.some.inj he3
    rw [dr] at e4
    obtain ⟨ρ2, k3, k4⟩ := e4
    refine hg _ _ _ _ ow' _ _ H3 x e ρ2 (sm'.mono s3).co hx k3 _ fun σ2 sm4 _ => hb S H0 b c n' _ ρ2 σ2 H3 _ ⟨T', ow', (sm'.mono s3).putV sm4⟩ k4 _ fun r1 n1 k2 => ?_
    cases r1 with
    | nx ρ3 => exact fun σ5 H5 sm5 => ⟨ρ3, n1, sm5, k2⟩
    | ct ρ3 => exact fun σ5 H5 sm5 => ⟨ρ3, n1, sm5, k2⟩
    | bk ρ3 => exact fun σ5 H5 sm5 => q _ _ k2 σ5 H5 (wkn sm5)
    | rt x => exact q _ _ k2
    | ex o => exact q _ _ k2
  · rintro σ' H' ⟨ρ', n', sm', e4⟩
    rw [List.drop_length] at e4
    exact q _ _ e4 σ' H' (wkn sm')
theorem sw_for {wi : TI} {g : TG} {tb : TS} {js : List Nat} {it : Rho → Option (List PyData)} {τ : PyData → Rho → Option Rho} {Ψ : Rho → Int → (Res → Int → Prop) → Prop} (hi : ItP K wi it) (hg : TgP K g js τ) (hb : StW K d tb Ψ) : StW K d (tFor wi g tb) (twFor it τ Ψ) := fun S H0 b c n G ρ σ H P ⟨T, ow, sm⟩ ⟨es, h1, h2⟩ D q =>
  hi _ _ G T ow ρ σ H es sm.co h1 _ fun J H1 s1 ok => for_core hg hb (sm.mono s1) ok h2 q
theorem sw_forL {te : TE} {g : TG} {tb : TS} {js : List Nat} {it : Rho → Int → (PyData → Int → Prop) → Prop} {τ : PyData → Rho → Option Rho} {Ψ : Rho → Int → (Res → Int → Prop) → Prop} (hi : EvW K d te it) (hg : TgP K g js τ) (hb : StW K d tb Ψ) : StW K d (tFor (iList K te) g tb) (twForW it τ Ψ) := fun S H0 b c n G ρ σ H P ⟨T, ow, sm⟩ h1 D q =>
  hi S H0 b c n G T ow ρ σ H _ sm h1 _ fun v e n1 H1 ⟨es, k1, k2⟩ d1 hv => by
    obtain rfl := asL_some k1
    cases hv with
    | @lst a xs _ m1 m2 => exact ⟨a, rfl, ⟨xs, Same.seq hs_sub m1⟩, for_core hg hb (sm.draw d1) (it_lst m1 m2) k2 q⟩
end
end Pb

set_option Elab.async false
set_option linter.all false
set_option maxRecDepth 100000
namespace Pb
open PySem PySem.Spec PyProof.Rows L2
/-! ### repr -/
def gdB (d : PyData) : Bool := okD d && decide (wt d ≤ 1000000) && decide (d.depth ≤ 20) && (!d.hasDict || nl d)
def fRepr : List PyData → Option PyData
  | [d] => if gdB d then some (.str d.shown) else none
  | _ => none
theorem gdB_of {d : PyData} (h : Gd d) : gdB d = true := by
  have h2 := h.dp
  unfold gdB
  rw [h.ok, decide_eq_true h.w, decide_eq_true (show d.depth ≤ 20 by omega)]
  cases hd : d.hasDict with
  | false => rfl
  | true =>
    rw [h.nd hd]
    rfl
theorem fRepr_of {d : PyData} (h : Gd d) : fRepr [d] = some (.str d.shown) := by
  show (if gdB d = true then some (PyData.str d.shown) else none) = _
  rw [if_pos (gdB_of h)]
theorem cs_repr {K : PySem.W.Frag} : CbS K (rReprD K) fRepr := fun T H xs ds e tr h he Q q => by
  unfold fRepr at he
  split at he
  · split at he
    · rename_i d hz
      cases he
      cases h with
      | cons h1 h2 =>
        cases h2
        simp only [gdB, Bool.and_eq_true, decide_eq_true_eq] at hz
        obtain ⟨⟨⟨z1, z2⟩, z3⟩, z4⟩ := hz
        refine ⟨_, d, rfl, h1.da, z1, z2, z3, fun hd => ?_, q _ H (Same.refl _) (.str _)⟩
        rw [hd] at z4
        simpa using z4
    · cases he
  · cases he
/-! ### the law -/
section
variable {P : Program} {w : World} {K : PySem.W.Frag} {mg : Str → Option Value} {base : Heap}
def rhoL (n : Nat) (d : Addr) : Rho := .no :: .deck d :: List.replicate (n - 2) .no
theorem fn_law {x qual : Str} {st : Stmt} {f : Addr} {fd : FuncData} {N : List Str} {k : Nat} {Ψ : Addr → Rho → Int → (Res → Int → Prop) → Prop} (F : Fun K x qual st f fd) (S : FnScope N ["_law_script"] (defScope st)) (hN : 2 ≤ N.length)
    (hbody : ∀ (cdv : Value) (A : Around) (fr : List Env) (t : Shared) (H : Hp), (A.deeper (envOfC qual (defScope st) t.heap.objs.size f cdv)).guards = some [] → Room k (A.deeper (envOfC qual (defScope st) t.heap.objs.size f cdv)) →
      ∃ r, PSs (cxOf CX0 P w K mg base N qual (defScope st) f cdv A fr t H E0).nox (defBody st) (tSeq (tAsg (tCall (spDeck K) [] E0 (tCons (tVar 0) tNil)) (gName 1)) r) ∧ ∀ d, StW K d r (Ψ d))
    (hP : ∀ d, Ψ d (rhoL N.length d) 0 fun r _ => r = .rt (.bool true)) : RunG P w K mg base (k + 1) f fd ["_law_script"] (spLaw K) := by
  refine runG_of F S (fun vs H Q E h => ?_) (fun cdv A fr t H vs Q hg hr h => ?_)
  · obtain ⟨a, ns, rfl, _⟩ := h
    rfl
  · obtain ⟨a, ns, rfl, hS, hl, q⟩ := h
    obtain ⟨r, h1, h2⟩ := hbody cdv A fr t H hg hr
    refine ⟨_, h1, ?_⟩
    refine ⟨.ref a, rfl, a, ns, rfl, hS, hl, fun d b c H1 dk hd hb hs' => ?_⟩
    refine h2 d [] (fun _ => none) b c 0 (fun _ => True) (rhoL N.length d) _ H1 _ ⟨[d, b], [], ?_⟩ (hP d) _ fun r n' hr' => ?_
    · refine ⟨?_, Ck.two dk, fun _ _ e => (by
        have := (msk_some e).2.2
        cases this), fun a ha => absurd ha List.not_mem_nil, fun a ha => absurd ha List.not_mem_nil, fun a ha => absurd ha List.not_mem_nil⟩
      obtain ⟨m, hm⟩ : ∃ m, N.length = m + 2 := ⟨N.length - 2, by omega⟩
      have e1 : start N [V.ref a] = some (.ref a) :: none :: List.replicate m none := by
        unfold L2.start
        rw [hm]
        show [some (V.ref a)] ++ List.replicate (m + 1) none = _
        rw [List.replicate_succ]
        rfl
      have e2 : rhoL N.length d = .no :: .deck d :: List.replicate m .no := by
        unfold rhoL
        rw [hm]
        rfl
      rw [e1, e2]
      refine { len := by simp, slot := ?slot, inj := ?inj, old := fun _ _ e => (by cases e), new := fun _ _ => rfl, sub := fun _ h => absurd h List.not_mem_nil, owT := fun _ h => absurd h List.not_mem_nil, tr := (Ck.two dk).tr, trS := fun _ h => absurd h List.not_mem_nil, mo := fun _ _ _ _ => trivial, fr := trivial, lsT := ?lsT }
      case lsT =>
        intro x hx
        simp only [List.mem_cons, List.not_mem_nil, or_false] at hx
        rcases hx with rfl | rfl
        · exact .inr ⟨_, dk.at_d⟩
        · obtain ⟨bs, e⟩ := dk.at_b
          exact .inr ⟨_, e⟩
      case slot =>
        intro i s e
        match i, e with
        | 0, e =>
          cases e
          exact ⟨_, rfl, trivial⟩
        | 1, e =>
          cases e
          exact ⟨_, rfl, rfl⟩
        | i + 2, e =>
          have e' : (List.replicate m Sl.no)[i]? = some s := e
          rw [List.getElem?_replicate] at e'
          split at e'
          · rename_i hlt
            cases e'
            refine ⟨none, ?_, trivial⟩
            show (List.replicate m (none : Option V))[i]? = some none
            rw [List.getElem?_replicate, if_pos hlt]
          · cases e'
      case inj =>
        intro i j es es' _ e
        match i, e with
        | 0, e => cases e
        | 1, e => cases e
        | i + 2, e =>
          have e' : (List.replicate m Sl.no)[i]? = some (.own es) := e
          rw [List.getElem?_replicate] at e'
          split at e'
          · cases e'
          · cases e'
    · subst hr'
      intro v H' _ _ hv
      cases hv
      exact q H'
end
/-! ### the earlier contracts as transformers -/
theorem fnok_weaker {P : Program} {w : World} {K : PySem.W.Frag} {mg : Str → Option Value} {base : Heap} {cx : CXT} {k : Nat} {f : Addr} {fd : FuncData} {ps : List Str} {sp sp' : Sp} (h : FnOk P w K mg base cx k f fd ps sp) (hs' : ∀ vs H Q E, sp' vs H Q E → sp vs H Q E) : FnOk P w K mg base cx k f fd ps sp' :=
  ⟨fun vs H Q E z => h.len vs H Q E (hs' vs H Q E z), fun A outer s H args us vs Q E hr e0 hb rv hsp => h.run A outer s H args us vs Q E hr e0 hb rv (hs' vs H Q E hsp)⟩
theorem Cl.weaker {P : Program} {w : World} {K : PySem.W.Frag} {mg : Str → Option Value} {base : Heap} {k : Nat} {x : Str} {ps : List Str} {sp sp' : Sp} (h : Cl P w K mg base k x ps sp) (hs' : ∀ vs H Q E, sp' vs H Q E → sp vs H Q E) : Cl P w K mg base k x ps sp' := by
  obtain ⟨f, fd, h1, h2, h3, h4⟩ := h.ex
  exact ⟨f, fd, fnok_weaker h1 hs', h2, h3, h4⟩
def WNext : Addr → List PyData → Int → (PyData → Int → Prop) → Prop := fun _ ds n P => ∃ m : Int, ds = [.int m] ∧ n < 2 ^ 50 ∧ 0 < m ∧ m < 1073741824 ∧ ∀ v n' : Int, 0 ≤ v → v < m → n' ≤ n + 1 → P (.int v) n'
def WOdd : Addr → List PyData → Int → (PyData → Int → Prop) → Prop := fun _ ds n P => ds = [] ∧ n < 2 ^ 50 ∧ ∀ e n', e ∈ oddL → n' ≤ n + 1 → P e n'
def WTable : Addr → List PyData → Int → (PyData → Int → Prop) → Prop := fun _ ds n P => ∃ m k : Nat, ds = [.int m, .int k] ∧ n < 2 ^ 39 ∧ 1 ≤ m ∧ m ≤ 10 ∧ k ≤ 10 ∧ ∀ (m' : Nat) (os : List (List Int)) (n' : Int), 1 ≤ m' → m' ≤ m → os.length ≤ k → (∀ o ∈ os, OffOk m' o) → n' ≤ n + 1003 → P (tabD m' os) n'
def WMk : Addr → List PyData → Int → (PyData → Int → Prop) → Prop := fun _ ds n P => ∃ m k : Nat, ds = [.int m, .int k] ∧ n < 2 ^ 40 ∧ 1 ≤ m ∧ m ≤ 10 ∧ k ≤ 10 ∧ ∀ (os : List (List Int)) (n' : Int), os.length = k → (∀ o ∈ os, OffOk m o) → n' ≤ n + 1000 → P (tabD m os) n'
def WBent (δ : Nat) : Addr → List PyData → Int → (PyData → Int → Prop) → Prop := fun _ ds n P => ∃ (e : PyData) (deep : Nat), ds = [e, .int deep] ∧ n + 10 * deep < 2 ^ 40 ∧ deep < δ ∧ δ ≤ 10 ∧ pl e = true ∧ ∀ e' n', Bnt e e' → n' ≤ n + 4 * deep + 4 → P e' n'
def WPart : Addr → List PyData → Int → (PyData → Int → Prop) → Prop := fun _ ds n P => ∃ (x : PyData) (ns : List Int) (sh : Int), ds = [x, .int sh] ∧ (x = .list (ns.map .int) ∨ x = .tuple (ns.map .int)) ∧ n < 2 ^ 50 ∧ ns.length ≤ 1000 ∧ ∀ (ms : List Int) n', ms.Sublist ns → n' ≤ n + ns.length → P (offD ms) n'
def WShuf : Addr → List PyData → Int → (PyData → Int → Prop) → Prop := fun _ ds n P => ∃ m : Nat, ds = [.int m] ∧ n < 2 ^ 50 ∧ m ≤ 1000 ∧ ∀ (os : List Int) n', os.Perm (upto m) → n' ≤ n + m → P (offD os) n'
section
variable {K : PySem.W.Frag}
theorem da_ints_of {H : Hp} {a : Addr} {ns : List Int} (h : SqT K H a (ns.map V.int)) : Da K H (.ref a) (offD ns) := .tup h (DaAll.ints ns)
theorem one_arg {H : Hp} {ws : List V} {x : PyData} (h : DaAll K H ws [x]) : ∃ v, ws = [v] ∧ Da K H v x := by
  cases h with
  | cons h1 h2 =>
    cases h2
    exact ⟨_, rfl, h1⟩
mutual
theorem Da.apart {S T : List Addr} {H : Hp} (hl : ∀ a ∈ S, ∃ xs, H a = some (.lst xs)) : ∀ (e : PyData) (v : V), Da K (hs T H) v e → nl e = true → Da K (hs S H) v e
  | .none, _, h, _ => by
    cases h
    exact .non
  | .bool b, _, h, _ => by
    cases h
    exact .bl b
  | .int i, _, h, _ => by
    cases h
    exact .int i
  | .str x, _, h, _ => by
    cases h
    exact .str x
  | .list ds, _, _, hn => by simp [nl] at hn
  | .tuple ds, _, h, hn => by
    cases h with
    | @tup a xs _ h1 h2 =>
      refine .tup ?_ (DaAll.apart hl ds _ h2 (by simpa only [nl] using hn))
      rcases h1 with (h1 | ⟨o, h1⟩) | h1
      · refine .inl (.inl (hs_at (fun z => ?_) (hs_some h1).2))
        obtain ⟨xs, e⟩ := hl a z
        rw [(hs_some h1).2] at e
        cases e
      · refine .inl (.inr ⟨o, hs_at (fun z => ?_) (hs_some h1).2⟩)
        obtain ⟨xs, e⟩ := hl a z
        rw [(hs_some h1).2] at e
        cases e
      · exact .inr h1
  | .dict _, _, h, _ => by
    cases h with
    | @emp a h1 =>
      refine .emp (hs_at (fun z => ?_) (hs_some h1).2)
      obtain ⟨xs, e⟩ := hl a z
      rw [(hs_some h1).2] at e
      cases e
theorem DaAll.apart {S T : List Addr} {H : Hp} (hl : ∀ a ∈ S, ∃ xs, H a = some (.lst xs)) : ∀ (es : List PyData) (vs : List V), DaAll K (hs T H) vs es → nlAll es = true → DaAll K (hs S H) vs es
  | [], _, h, _ => by
    cases h
    exact .nil
  | e :: es, _, h, hn => by
    simp only [nlAll, Bool.and_eq_true] at hn
    cases h with
    | cons h1 h2 => exact .cons (Da.apart hl e _ h1 hn.1) (DaAll.apart hl es _ h2 hn.2)
end
theorem nlAll_iff : ∀ {es : List PyData}, nlAll es = true ↔ ∀ e ∈ es, nl e = true
  | [] => ⟨fun _ _ h => absurd h List.not_mem_nil, fun _ => rfl⟩
  | x :: xs => by
    simp only [nlAll, Bool.and_eq_true, List.mem_cons, nlAll_iff (es := xs)]
    exact ⟨fun h y hy => hy.elim (fun e => e ▸ h.1) (h.2 y), fun h => ⟨h x (.inl rfl), fun y hy => h y (.inr hy)⟩⟩
theorem nl_off (o : List Int) : nl (offD o) = true := by
  show nlAll (o.map .int) = true
  refine nlAll_iff.mpr fun e he => ?_
  obtain ⟨i, _, rfl⟩ := List.mem_map.mp he
  rfl
theorem nl_tab (n : Int) (os : List (List Int)) : nl (tabD n os) = true := by
  show (true && (nlAll (os.map offD) && true)) = true
  rw [Bool.true_and, Bool.and_true]
  refine nlAll_iff.mpr fun e he => ?_
  obtain ⟨o, _, rfl⟩ := List.mem_map.mp he
  exact nl_off o
theorem ls_dr {S : List Addr} {d b c : Addr} {n n' N : Int} {H H' : Hp} (ls : ∀ a ∈ S, ∃ xs, H a = some (.lst xs)) (dr : Dr d b c N H n' H') : ∀ a ∈ S, ∃ xs, H' a = some (.lst xs) := fun a ha => by
  by_cases z1 : a = d
  · rw [z1]
    exact ⟨_, dr.dk.at_d⟩
  · by_cases z2 : a = b
    · rw [z2]
      obtain ⟨bs, e⟩ := dr.dk.at_b
      exact ⟨_, e⟩
    · obtain ⟨xs, e⟩ := ls a ha
      have := dr.sm a _ (by rw [msk_ne z1 z2]; exact e)
      rw [msk_ne z1 z2] at this
      exact ⟨xs, this⟩
theorem apart {S : List Addr} {d b c : Addr} {n n' N : Int} {H H' : Hp} {v : V} {e : PyData} (ck : Ck S d b c n H) (ls : ∀ a ∈ S, ∃ xs, H a = some (.lst xs)) (dr : Dr d b c N H n' H') (h : Da K (msk d b H') v e) (hn : nl e = true) : Da K (hs S H') v e := by
  rw [msk_hs] at h
  exact Da.apart (ls_dr (c := c) (n := n) ls dr) e v h hn
theorem w_part : ∀ vs H Q E, spW K WPart vs H Q E → spPart K vs H Q E := by
  rintro vs H Q E ⟨S, d, b, c, n, ws, ds, P, rfl, ck, ls, da, ⟨x, ns, sh, rfl, hx, h1, h2, h3⟩, q⟩
  obtain ⟨u, y, rfl, hu, hy⟩ := da_two da
  cases hy
  have fin : ∀ (p : Addr) (ms : List Int) (n' : Int) (H' : Hp), ms.Sublist ns → Dr d b c (n + ns.length) H n' H' → SqT K (msk d b H') p (ms.map V.int) → Q (.ref p) H' := fun p ms n' H' g1 dr g2 =>
    q _ _ n' H' (h3 ms n' g1 dr.le) dr.sm dr.dk (apart ck ls dr (da_ints_of g2) (nl_off ms))
  rcases hx with rfl | rfl
  · cases hu with
    | @lst a xs _ k1 k2 =>
      obtain rfl := ints_v k2 (ints_map ns)
      exact ⟨d, b, c, a, n, sh, ns, rfl, ck.dk, h1, h2, .inl (Same.seq (hs_to_msk ck.hd ck.hb) k1), fin⟩
  · cases hu with
    | @tup a xs _ k1 k2 =>
      obtain rfl := ints_v k2 (ints_map ns)
      exact ⟨d, b, c, a, n, sh, ns, rfl, ck.dk, h1, h2, .inr (Same.tq (hs_to_msk ck.hd ck.hb) k1), fin⟩
theorem w_next : ∀ vs H Q E, spW K WNext vs H Q E → spNext vs H Q E := by
  rintro vs H Q E ⟨S, d, b, c, n, ws, ds, P, rfl, ck, ls, da, ⟨m, rfl, h1, h2, h3, h4⟩, q⟩
  obtain ⟨v, rfl, hv⟩ := one_arg da
  cases hv
  exact ⟨d, b, c, n, m, rfl, ck.dk, by omega, h2, h3, fun v n' H' g1 g2 dr => q _ _ n' H' (h4 v n' g1 g2 dr.le) dr.sm dr.dk (.int _)⟩
theorem w_odd : ∀ vs H Q E, spW K WOdd vs H Q E → spOdd K vs H Q E := by
  rintro vs H Q E ⟨S, d, b, c, n, ws, ds, P, rfl, ck, ls, da, ⟨rfl, h1, h4⟩, q⟩
  cases da
  exact ⟨S, d, b, c, n, rfl, ck, h1, fun v e n' H' g1 dr hv => q v e n' H' (h4 e n' g1 dr.le) dr.sm dr.dk hv⟩
theorem w_table : ∀ vs H Q E, spW K WTable vs H Q E → spTable K vs H Q E := by
  rintro vs H Q E ⟨S, d, b, c, n, ws, ds, P, rfl, ck, ls, da, ⟨m, k, rfl, h1, h2, h3, h4, h5⟩, q⟩
  obtain ⟨x, y, rfl, hx, hy⟩ := da_two da
  cases hx
  cases hy
  exact ⟨d, b, c, n, m, k, rfl, ck.dk, h1, h2, h3, h4, fun v m' os n' H' dr g1 g2 g3 g4 hv => q v _ n' H' (h5 m' os n' g1 g2 g3 g4 dr.le) dr.sm dr.dk (apart ck ls dr hv (nl_tab _ _))⟩
theorem w_mk : ∀ vs H Q E, spW K WMk vs H Q E → spMk K vs H Q E := by
  rintro vs H Q E ⟨S, d, b, c, n, ws, ds, P, rfl, ck, ls, da, ⟨m, k, rfl, h1, h2, h3, h4, h5⟩, q⟩
  obtain ⟨x, y, rfl, hx, hy⟩ := da_two da
  cases hx
  cases hy
  exact ⟨d, b, c, n, m, k, rfl, ck.dk, h1, h2, h3, h4, fun v os n' H' dr g1 g2 hv => q v _ n' H' (h5 os n' g1 g2 dr.le) dr.sm dr.dk (apart ck ls dr hv (nl_tab _ _))⟩
theorem w_shuf : ∀ vs H Q E, spW K WShuf vs H Q E → spShuf K vs H Q E := by
  rintro vs H Q E ⟨S, d, b, c, n, ws, ds, P, rfl, ck, ls, da, ⟨m, rfl, h1, h2, h3⟩, q⟩
  obtain ⟨v, rfl, hv⟩ := one_arg da
  cases hv
  exact ⟨d, b, c, n, m, rfl, ck.dk, h1, h2, fun p os n' H' g1 dr g2 => q _ _ n' H' (h3 os n' g1 dr.le) dr.sm dr.dk (apart ck ls dr (da_ints_of g2) (nl_off os))⟩
theorem w_bent {δ : Nat} : ∀ vs H Q E, spW K (WBent δ) vs H Q E → spBent K δ vs H Q E := by
  rintro vs H Q E ⟨S, d, b, c, n, ws, ds, P, rfl, ck, ls, da, ⟨e, deep, rfl, h1, h2, h3, h4, h5⟩, q⟩
  obtain ⟨x, y, rfl, hx, hy⟩ := da_two da
  cases hy
  exact ⟨S, d, b, c, n, x, e, deep, rfl, ck, h1, h2, h3, h4, hx, fun v e' n' H' g1 dr hv => q v e' n' H' (h5 e' n' g1 dr.le) dr.sm dr.dk hv⟩
end
end Pb

set_option Elab.async false
set_option linter.all false
set_option maxRecDepth 100000
namespace Pb
open PySem PySem.Spec PyProof.Rows L2
/-! ### calls by a relation, tests that draw, comprehensions that draw -/
def wRel (R : List PyData → PyData → Prop) (Φs : Rho → Int → (List PyData → Int → Prop) → Prop) : Rho → Int → (PyData → Int → Prop) → Prop := fun ρ n P => Φs ρ n fun es n1 => ∃ e, R es e ∧ P e n1
def wbP (β : Rho → Option Bool) : Rho → Int → (Bool → Int → Prop) → Prop := fun ρ n P => ∃ c, β ρ = some c ∧ P c n
def wbT (Φ : Rho → Int → (PyData → Int → Prop) → Prop) : Rho → Int → (Bool → Int → Prop) → Prop := fun ρ n P => Φ ρ n fun x n1 => ∃ c, asB x = some c ∧ P c n1
def wbNot (Β : Rho → Int → (Bool → Int → Prop) → Prop) : Rho → Int → (Bool → Int → Prop) → Prop := fun ρ n P => Β ρ n fun c n1 => P (!c) n1
def wbOr (Β Γ : Rho → Int → (Bool → Int → Prop) → Prop) : Rho → Int → (Bool → Int → Prop) → Prop := fun ρ n P => Β ρ n fun c n1 => if c then P true n1 else Γ ρ n1 P
def wbAnd (Β Γ : Rho → Int → (Bool → Int → Prop) → Prop) : Rho → Int → (Bool → Int → Prop) → Prop := fun ρ n P => Β ρ n fun c n1 => if c then Γ ρ n1 P else P false n1
def twIfW (Β : Rho → Int → (Bool → Int → Prop) → Prop) (Ψ Χ : Rho → Int → (Res → Int → Prop) → Prop) : Rho → Int → (Res → Int → Prop) → Prop := fun ρ n P => Β ρ n fun c n1 => if c then Ψ ρ n1 P else Χ ρ n1 P
def wIf (β : Rho → Option Bool) (Φ Ψ : Rho → Int → (PyData → Int → Prop) → Prop) : Rho → Int → (PyData → Int → Prop) → Prop := fun ρ n P => ∃ c, β ρ = some c ∧ if c then Φ ρ n P else Ψ ρ n P
def wSlT (Φ : Rho → Int → (PyData → Int → Prop) → Prop) (lo hi : Rho → Option (Option Int)) : Rho → Int → (PyData → Int → Prop) → Prop := fun ρ n P => Φ ρ n fun x n1 => ∃ es l h, asT x = some es ∧ lo ρ = some l ∧ hi ρ = some h ∧ P (.tuple (cutG es l h)) n1
section
variable (K : PySem.W.Frag) (d : Addr)
def TeW (tt : TT) (Β : Rho → Int → (Bool → Int → Prop) → Prop) : Prop := ∀ S H0 b c n G T ow ρ σ H P, SimW K S H0 d b c n G T ow ρ σ H → Β ρ n P → ∀ Q : Bool → Hp → Prop, (∀ x n' H', P x n' → Dr d b c n' H n' H' → Q x H') → tt σ H Q
end
section
variable {K : PySem.W.Frag} {d : Addr}
theorem xw_rel {R : List PyData → PyData → Prop} {ta : TA} {Φs : Rho → Int → (List PyData → Int → Prop) → Prop} {E : XK} (ha : EvAW K d ta Φs) : EvW K d (tCall (spD K R) [] E ta) (wRel R Φs) := fun S H0 b c n G T ow ρ σ H P sm h1 Q q =>
  ha S H0 b c n G T ow ρ σ H _ sm h1 _ fun vs es n1 H1 ⟨e, he, hP⟩ d1 hvs => by
    show spD K R (vs ++ []) H1 Q E
    rw [List.append_nil]
    exact ⟨T, es, e, (sm.draw d1).co.tr, hvs, he, fun v H2 s2 hd => q v e n1 H2 hP (d1.more s2) hd⟩
theorem TeP.w {tt : TT} {β : Rho → Option Bool} (h : TeP K tt β) : TeW K d tt (wbP β) := fun S H0 b c n G T ow ρ σ H P sm ⟨x, h1, h2⟩ Q q => h _ _ G T ow ρ σ H x sm.co h1 _ fun H1 s1 => q x n H1 h2 (.pure sm.ck.dk s1)
theorem tw_test {te : TE} {Φ : Rho → Int → (PyData → Int → Prop) → Prop} (h : EvW K d te Φ) : TeW K d (tTest te) (wbT Φ) := fun S H0 b c n G T ow ρ σ H P sm h1 Q q =>
  h S H0 b c n G T ow ρ σ H _ sm h1 _ fun v e n1 H1 ⟨x, k1, k2⟩ d1 hv => by
    obtain rfl := asB_some k1
    cases hv
    exact ⟨x, rfl, q x n1 H1 k2 d1⟩
theorem tw_B {te : TE} {Φ : Rho → Int → (PyData → Int → Prop) → Prop} (h : EvW K d te Φ) : TeW K d (tB te) (wbT Φ) := fun S H0 b c n G T ow ρ σ H P sm h1 Q q =>
  h S H0 b c n G T ow ρ σ H _ sm h1 _ fun v e n1 H1 ⟨x, k1, k2⟩ d1 hv => by
    obtain rfl := asB_some k1
    cases hv
    exact ⟨x, rfl, q x n1 H1 k2 d1⟩
theorem tw_not {tt : TT} {Β : Rho → Int → (Bool → Int → Prop) → Prop} (h : TeW K d tt Β) : TeW K d (tNot tt) (wbNot Β) := fun S H0 b c n G T ow ρ σ H P sm h1 Q q => h S H0 b c n G T ow ρ σ H _ sm h1 _ fun x n1 H1 hP d1 => q _ n1 H1 hP d1
theorem tw_or {t u : TT} {Β Γ : Rho → Int → (Bool → Int → Prop) → Prop} (h : TeW K d t Β) (k : TeW K d u Γ) : TeW K d (tOr t u) (wbOr Β Γ) := fun S H0 b c n G T ow ρ σ H P sm h1 Q q =>
  h S H0 b c n G T ow ρ σ H _ sm h1 _ fun x n1 H1 hP d1 => by
    cases x with
    | true => exact q true n1 H1 (by simpa using hP) d1
    | false => exact k S H0 b c n1 G T ow ρ σ H1 P (sm.draw d1) (by simpa using hP) _ fun y n2 H2 hP2 d2 => q y n2 H2 hP2 (d1.then d2)
theorem tw_and {t u : TT} {Β Γ : Rho → Int → (Bool → Int → Prop) → Prop} (h : TeW K d t Β) (k : TeW K d u Γ) : TeW K d (tAnd t u) (wbAnd Β Γ) := fun S H0 b c n G T ow ρ σ H P sm h1 Q q =>
  h S H0 b c n G T ow ρ σ H _ sm h1 _ fun x n1 H1 hP d1 => by
    cases x with
    | false => exact q false n1 H1 (by simpa using hP) d1
    | true => exact k S H0 b c n1 G T ow ρ σ H1 P (sm.draw d1) (by simpa using hP) _ fun y n2 H2 hP2 d2 => q y n2 H2 hP2 (d1.then d2)
theorem sw_ifW {t : TT} {u v : TS} {Β : Rho → Int → (Bool → Int → Prop) → Prop} {Ψ Χ : Rho → Int → (Res → Int → Prop) → Prop} (ht : TeW K d t Β) (h : StW K d u Ψ) (k : StW K d v Χ) : StW K d (tIfS t u v) (twIfW Β Ψ Χ) := fun S H0 b c n G ρ σ H P ⟨T, ow, sm⟩ h1 D q =>
  ht S H0 b c n G T ow ρ σ H _ sm h1 _ fun x n1 H1 hP d1 => by
    cases x with
    | true => exact h S H0 b c n1 G ρ σ H1 P ⟨T, ow, sm.draw d1⟩ (by simpa using hP) D q
    | false => exact k S H0 b c n1 G ρ σ H1 P ⟨T, ow, sm.draw d1⟩ (by simpa using hP) D q
theorem xw_ifE {t : TT} {ta tb : TE} {β : Rho → Option Bool} {Φ Ψ : Rho → Int → (PyData → Int → Prop) → Prop} (ht : TeP K t β) (ha : EvW K d ta Φ) (hb : EvW K d tb Ψ) : EvW K d (tIf t ta tb) (wIf β Φ Ψ) := fun S H0 b c n G T ow ρ σ H P sm ⟨x, h1, h2⟩ Q q => by
  refine ht _ _ G T ow ρ σ H x sm.co h1 _ fun H1 s1 => ?_
  have d0 : Dr d b c n H n H1 := .pure sm.ck.dk s1
  cases x with
  | true => exact ha S H0 b c n G T ow ρ σ H1 P (sm.mono s1) (by simpa using h2) _ fun u e n2 H2 hP d2 hu => q u e n2 H2 hP (d0.then d2) hu
  | false => exact hb S H0 b c n G T ow ρ σ H1 P (sm.mono s1) (by simpa using h2) _ fun u e n2 H2 hP d2 hu => q u e n2 H2 hP (d0.then d2) hu
theorem xw_slT {te : TE} {tl th : TO} {Φ : Rho → Int → (PyData → Int → Prop) → Prop} {lo hi : Rho → Option (Option Int)} (h : EvW K d te Φ) (hl : EvOI K tl lo) (hh : EvOI K th hi) : EvW K d (tSl (rSlA K) te tl th) (wSlT Φ lo hi) := fun S H0 b c n G T ow ρ σ H P sm h1 Q q =>
  h S H0 b c n G T ow ρ σ H _ sm h1 _ fun v e n1 H1 ⟨es, l, u, k1, k2, k3, k4⟩ d1 hv => by
    obtain rfl := asT_some k1
    have w1 := sm.draw d1
    refine hl _ _ G T ow ρ σ H1 l w1.co k2 _ fun H2 s2 => hh _ _ G T ow ρ σ H2 u (w1.co.mono s2) k3 _ fun H3 s3 => ?_
    have s13 := s2.trans s3
    obtain ⟨p, xs, rfl, hq, hd, hD⟩ := Dv.tup (K := K) (T := T) (.inl (hv.mono (hs_mono s13)))
    have ll := DaAll.len hd
    refine ⟨p, xs, rfl, hq, fun z => ?_, fun z t ht => ?_⟩
    · rw [ll] at z
      rw [cutG_whole z] at k4
      exact q _ _ n1 H3 k4 (d1.more s13) hD
    · exact q _ _ n1 _ k4 ((d1.more s13).new ht) (.tup (SqT.of (hs_at ((w1.mono s13).co.tr.out ht) upd_same)) ((hd.cut l u).mono (hs_mono (same_upd ht))))
/-- [e for x in ..], e drawn, over what is pure -/
def lcW (τ : PyData → Rho → Option Rho) (β : Rho → Option Bool) (Φ : Rho → Int → (PyData → Int → Prop) → Prop) (ρ : Rho) : List PyData → Int → (List PyData → Int → Prop) → Prop
  | [], n, P => P [] n
  | e :: es, n, P => ∃ ρ', τ e ρ = some ρ' ∧ ∃ c, β ρ' = some c ∧ if c then Φ ρ' n fun y n1 => lcW τ β Φ ρ es n1 fun ys n2 => P (y :: ys) n2 else lcW τ β Φ ρ es n P
def wfLc (vs : List Nat) (it : Rho → Option (List PyData)) (τ : PyData → Rho → Option Rho) (β : Rho → Option Bool) (Φ : Rho → Int → (PyData → Int → Prop) → Prop) : Rho → Int → (List PyData → Int → Prop) → Prop := fun ρ n P => ∃ es, (it ρ).bind lim = some es ∧ lcW τ β Φ (wipeR ρ vs) es n P
theorem xfw_lc {wi : TI} {g : TG} {tt : TT} {te : TE} {vs js : List Nat} {it : Rho → Option (List PyData)} {τ : PyData → Rho → Option Rho} {β : Rho → Option Bool} {Φ : Rho → Int → (PyData → Int → Prop) → Prop} (hi : ItP K wi it) (hg : TgP K g js τ) (ht : TeP K tt β) (he : EvW K d te Φ) (hj : ∀ j ∈ js, j ∈ vs := by decide) :
    EvFW K d (tLc wi g tt te vs) (wfLc vs it τ β Φ) := fun S H0 b c n G T ow ρ σ H P sm ⟨es, h0, h1⟩ Q q => by
  obtain ⟨es', h2, h3⟩ := Option.bind_eq_some_iff.mp h0
  obtain ⟨hl, e0⟩ := lim_some h3
  subst e0
  refine hi _ _ G T ow ρ σ H _ sm.co h2 _ fun J H1 s1 ⟨F, Gw, Yw, mo, f0, wk, hG, hY⟩ D hD => ?_
  have sm1 := sm.mono s1
  have offD' := sm1.ck.dk.off hD
  have hD0 : H D = none := s1.free hD
  -- with the new list hidden
  have W0 : SimW K S H0 d b c n (fun X => G X ∧ F X) (D :: T) ow (wipeR ρ vs) (L2.wipe σ vs) (upd H1 D (.lst [])) := by
    have hh := (sm1.co.wipe vs).hide (D := D) (vs := []) hD
    exact ⟨hh.weak (fun H H' s h => ⟨sm.co.mo _ _ s h.1, mo _ _ s h.2⟩) ⟨hh.fr, mo _ _ (hs_cons_new hD) f0⟩, ⟨sm1.ck.dk.same (same_upd hD), List.mem_cons_of_mem _ sm.ck.hd, List.mem_cons_of_mem _ sm.ck.hb, hh.tr⟩, sm1.old.trans (msk_same (same_upd hD)), sm.new, fun a ha => List.mem_cons_of_mem _ (sm.sub a ha), sm.trS⟩
  have hDo : D ∉ ow := fun z => by
    obtain ⟨o, eo⟩ := sm1.co.tr D (sm1.co.owT D z)
    rw [hD] at eo
    cases eo
  refine lc_it wk (fun i H' => ∃ (acc : List V) (ys1 : List PyData) (n1 : Int), H' D = some (.lst acc) ∧ DaAll K (hs (D :: T) H') acc ys1 ∧ ys1.length ≤ i ∧ lcW τ β Φ (wipeR ρ vs) (es.drop i) n1 (fun ys2 n2 => P (ys1 ++ ys2) n2) ∧
      SimW K S H0 d b c n1 (fun X => G X ∧ F X) (D :: T) ow (wipeR ρ vs) (L2.wipe σ vs) H' ∧ (∀ a o, a ≠ D → a ≠ d → a ≠ b → H1 a = some o → H' a = some o)) ?_ ?_ ?_ ?_
  · exact ⟨[], [], n, upd_same, .nil, Nat.le_refl _, by simpa using h1, W0, fun a o hne _ _ e => by rw [upd_ne hne]; exact e⟩
  · rintro i H' _ ⟨acc, ys1, n1, _, _, _, _, sm', _⟩
    exact hG _ _ sm'.co.fr.2
  · rintro i x H2 H3 hlt ⟨acc, ys1, n1, e1, e2, e3, e4, sm', old⟩ y
    obtain ⟨s3, e, he3, hx⟩ := hY _ H2 i x H3 sm'.co.fr.2 sm'.co.tr hlt y
    have dr : es.drop i = e :: es.drop (i + 1) := by
      rw [List.drop_eq_getElem_cons hlt]
      congr 1
      rw [List.getElem?_eq_getElem hlt] at he3
      exact Option.some.inj he3
    rw [dr] at e4
    obtain ⟨ρ', k1, x', k3, k4⟩ := e4
    have sm3 := sm'.mono s3
    refine hg _ _ _ _ ow _ _ H3 x e ρ' sm3.co hx k1 _ fun σ2 sm4 wp => ⟨?_, ?_⟩
    · rw [wp vs hj, wipe_wipe σ vs vs fun _ h => h]
    · refine ht _ _ _ _ ow ρ' σ2 H3 x' sm4 k3 _ fun H4 s4 => ?_
      have s24 := s3.trans s4
      have sm4w : SimW K S H0 d b c n1 (fun X => G X ∧ F X) (D :: T) ow ρ' σ2 H4 := (sm3.putV sm4).mono s4
      cases x' with
      | true =>
        rw [if_pos rfl]
        refine he S H0 b c n1 _ _ ow ρ' σ2 H4 _ sm4w (by simpa using k4) _ fun v z n2 H5 hz d5 hv => ?_
        have d25 : Dr d b c n2 H2 n2 H5 := (Dr.pure sm'.ck.dk s24).then d5
        have sm5 := sm'.draw d25
        have la := DaAll.len e2
        have eD := d25.at offD' e1
        refine ⟨acc, eD, Evl.sz_lt (by omega), acc ++ [v], ys1 ++ [z], n2, upd_same, ?_, by simp; omega, by simpa using hz, ?_, fun a o hne h1' h2' ea => ?_⟩
        · rw [hs_put List.mem_cons_self]
          exact (e2.mono (sm'.ck.sm d25)).append (.cons hv .nil)
        · have dkP : Dk d b c n2 (upd H5 D (.lst (acc ++ [v]))) := sm5.ck.dk.put offD'
          have trP : Tr (D :: T) (upd H5 D (.lst (acc ++ [v]))) := fun a ha => by
            by_cases z : a = D
            · rw [z]
              exact ⟨_, upd_same⟩
            · rw [upd_ne z]
              exact sm5.co.tr a ha
          refine ⟨?_, ⟨dkP, sm5.ck.hd, sm5.ck.hb, trP⟩, ?_, sm5.new, sm5.sub, sm5.trS⟩
          · exact
              { len := sm5.co.len, inj := sm5.co.inj, new := sm5.co.new, sub := sm5.co.sub, owT := sm5.co.owT, trS := sm5.co.trS, mo := sm5.co.mo, old := fun _ _ e => (by cases e), tr := trP,
                fr := by
                  rw [hs_put List.mem_cons_self]
                  exact sm5.co.fr
                lsT := fun a ha => by
                  by_cases z : a = D
                  · rw [z]
                    exact .inr ⟨_, upd_same⟩
                  · exact (sm5.co.lsT a ha).imp id fun ⟨xs, e⟩ => ⟨xs, by rw [upd_ne z]; exact e⟩
                slot := fun j sl ej => by
                  obtain ⟨o, ho, hs'⟩ := sm5.co.slot j sl ej
                  refine ⟨o, ho, hs'.move (by rw [hs_put List.mem_cons_self]; exact Same.refl _) fun fo ws eo m1 m2 => ⟨m1, ?_⟩⟩
                  have ne : fo ≠ D := fun z => by
                    rw [z] at m1
                    exact hDo m1
                  rw [upd_ne ne]
                  exact m2 }
          · intro a o ea
            have := sm5.old a o ea
            obtain ⟨z1, z2, z3⟩ := msk_some this
            have ne : a ≠ D := fun z => by
              have w := sm.old a o ea
              rw [msk_ne z1 z2, z, hD0] at w
              cases w
            rw [msk_ne z1 z2, upd_ne ne]
            exact z3
        · rw [upd_ne hne]
          have := d25.sm a o (by rw [msk_ne h1' h2']; exact old a o hne h1' h2' ea)
          rw [msk_ne h1' h2'] at this
          exact this
      | false =>
        rw [if_neg Bool.false_ne_true]
        exact ⟨acc, ys1, n1, s24 _ _ e1, e2.mono (hs_mono s24), by omega, by simpa using k4, sm'.mono s24, fun a o hne h1' h2' ea => s24 _ _ (old a o hne h1' h2' ea)⟩
  · rintro H' ⟨acc, ys1, n1, e1, e2, _, e4, sm', old⟩
    rw [List.drop_length] at e4
    have e4' : P (ys1 ++ []) n1 := e4
    rw [List.append_nil] at e4'
    refine q D acc ys1 n1 H' e4' ⟨sm'.ck.dk, Int.le_refl _, fun a o ea => ?_⟩ hD0 e1 e2
    obtain ⟨z1, z2, z3⟩ := msk_some ea
    rw [msk_ne z1 z2]
    refine old a o (fun z => ?_) z1 z2 (s1 _ _ z3)
    rw [z, hD0] at z3
    cases z3
def twFrz (i : Nat) (Ψ : Rho → Int → (Res → Int → Prop) → Prop) : Rho → Int → (Res → Int → Prop) → Prop := fun ρ n P => ∃ es, ro ρ i = some es ∧ Ψ (ρ.set i (.val (.list es))) n P
theorem sw_frz {ts : TS} {i : Nat} {Ψ : Rho → Int → (Res → Int → Prop) → Prop} (h : StW K d ts Ψ) : StW K d ts (twFrz i Ψ) := fun S H0 b c n G ρ σ H P ⟨T, ow, sm⟩ ⟨es, h1, h2⟩ D q => by
  obtain ⟨T', ow', k⟩ := sm.pure.freeze (ro_some h1)
  exact h S H0 b c n G _ σ H P ⟨T', ow', sm.back k⟩ h2 D q
end
end Pb

set_option Elab.async false
set_option linter.all false
set_option maxRecDepth 100000
namespace Pb
open PySem PySem.Spec PyProof.Rows L2
section
/-- the law's call, from its promise where nothing is being shown -/
theorem law_runS {P : Program} {w : World} {K : PySem.W.Frag} {mg mb : Str → Option Value} {k : Nat} {fa a : Addr} {fd : FuncData} {x : Str} {sp : Sp} {t : Shared} {us : List Value} {ns : List Int}
    (hK : K.In t.heap) (gl : t.heap.Ns mainGlobals mg) (bl : t.heap.Ns builtinsNs mb) (bb : ∀ y : Str, y ≠ "__name__" → mb y = bootBuiltins y) (lim : t.heap.NoLimit) (sy : ∃ mm, t.heap.Ns sysModules mm) (gn : t.gens = #[])
    (hobj : t.heap.get? a = some { cls := .type "list", data := .seq us.toArray }) (hi : IntsAre us ns) (hz : ns.length ≤ sizeLine) (hr : Room k callerA)
    (F : ∀ base : Heap, K.In base → base.Ns mainGlobals mg → (∃ mm, base.Ns sysModules mm) → RunG P w K mg base k fa fd [x] sp) (hbind : ∀ (s : Shared) (u : Value), BindsTo s fd ⟨[u], []⟩ [(x, u)])
    (hsp : ∀ H : Hp, Only H → SqL K H a (ns.map V.int) → sp [.ref a] H (fun v _ => v = .bl true) E0) :
    codeAny (model P w) callerA (.call (.ref fa) ⟨[.ref a], []⟩) (fun r t' => r = .ok (.ret (.bool true)) ∧ OldK t.heap t'.heap ∧ t'.os = t.os ∧ AllBare t'.gens) t := by
  have rv := vals_ints hi
  have hlen := hi.length
  have main : ∀ H : Hp, Only H → SqL K H a (ns.map V.int) → HOk P w H t.heap → (∀ b, H b ≠ none → b = a) → (H a ≠ none → K.lookup a = none) →
      codeAny (model P w) callerA (.call (.ref fa) ⟨[.ref a], []⟩) (fun r t' => r = .ok (.ret (.bool true)) ∧ OldK t.heap t'.heap ∧ t'.os = t.os ∧ AllBare t'.gens) t := by
    intro H hO hS hok onlyA notK
    have keepB : ∀ {b : Addr} {ob : Obj}, t.heap.get? b = some ob → H b = none → (hidT t.heap H).get? b = some ob := fun e z => hidT_get e z
    have dictOut : ∀ {b : Addr} {ob : Obj} {es : Array DictEntry} {ep : Nat}, t.heap.get? b = some ob → ob.data = .dict es ep → H b = none := fun {b ob es ep} e dd => by
      cases z : H b with
      | none => rfl
      | some u =>
        obtain rfl : b = a := onlyA b (by rw [z]; simp)
        rw [hobj] at e
        cases e
        cases (show Data.seq us.toArray _ = Data.dict es ep from dd)
    have nsB : ∀ {b : Addr} {m : Str → Option Value}, t.heap.Ns b m → (hidT t.heap H).Ns b m := fun {b m} ⟨ob, es, ep, e, dd, rest⟩ => ⟨ob, es, ep, keepB e (dictOut e dd), dd, rest⟩
    have kB : K.In (hidT t.heap H) := fun b ob e => keepB (hK b ob e) (by
      cases z : H b with
      | none => rfl
      | some u =>
        obtain rfl : b = a := onlyA b (by rw [z]; simp)
        rw [notK (by rw [z]; simp)] at e
        cases e)
    have modB : Mod K mg (hidT t.heap H) := ⟨kB, nsB gl, ⟨mb, nsB bl, bb⟩, lim.elim fun mc z => ⟨mc, nsB z.1, z.2⟩⟩
    have env : Env0 P w K mg (hidT t.heap H) callerA [] t H := ⟨rfl, modB, fun b ob e => of_hidT e, Nat.le_of_eq (hidT_size _ _), trivial, fun b hb => absurd (show b ∈ ([] : List Addr) from hb) List.not_mem_nil, hok, .of_eq gn⟩
    refine codeAny_mono (F _ kB (nsB gl) (sy.elim fun mm z => ⟨mm, nsB z⟩) callerA [] t H ⟨[.ref a], []⟩ [.ref a] [.ref a] _ rfl hr env (hbind t (.ref a)) (.cons rfl .nil) (hsp H hO hS)) fun r t' res => ?_
    cases r with
    | error e => exact res.elim
    | ok fl =>
      cases fl with
      | ret u =>
        obtain ⟨v, H', hos, hbare, un, hok', rel, veq⟩ := res
        obtain rfl : v = .bl true := veq
        obtain rfl : u = Value.bool true := rel
        refine ⟨rfl, OldK.of_keep fun b ob e => ?_, hos, hbare⟩
        cases z : H b with
        | none => exact un.keep b ob e z (fun y => absurd (show b ∈ ([] : List Addr) from y) List.not_mem_nil) List.not_mem_nil
        | some u =>
          rcases hO b with y | ⟨o1, xs, y⟩
          · rw [z] at y
            cases y
          · have e1 := (hok b _ y).1
            have e2 := (hok' b _ (un.frzs b o1 _ y)).1
            rw [e] at e1
            cases e1
            exact e2
      | next => exact res.elim
      | brk => exact res.elim
      | cont => exact res.elim
  cases hk : K.lookup a with
  | some ob =>
    have e := hK a ob hk
    rw [hobj] at e
    cases e
    exact main (fun _ => none) (fun _ => .inl rfl) (.inr ⟨_, us.toArray, _, hk, rfl, rfl, rfl, by rw [List.size_toArray, hlen]; exact hz, by simpa using rv⟩) (fun b u z => nomatch (show (none : Option HO) = some u from z)) (fun b z => absurd rfl z) fun z => absurd rfl z
  | none =>
    refine main (fun b => if b = a then some (.frz { cls := .type "list", data := .seq us.toArray } (.lst (ns.map V.int))) else none) (fun b => ?_) (.inl (.inr ⟨_, if_pos rfl⟩)) (fun b u z => ?_) (fun b z => Decidable.byContradiction fun nb => z (if_neg nb)) fun _ => hk
    · by_cases hb : b = a
      · exact .inr ⟨_, _, if_pos hb⟩
      · exact .inl (if_neg hb)
    · by_cases hb : b = a
      · cases (if_pos hb).symm.trans z
        subst hb
        exact ⟨hobj, by rw [List.length_map]; exact hz, us, _, rv, hobj⟩
      · cases (if_neg hb).symm.trans z
theorem walk_S {l : PySem.W.OpenLaw} {n k : Nat} {q : Program} {loose : List Str} {XP : (Str → Option Value) → Heap → Prop} {YP : World → Heap → Prop} {d : DefRec} {K : Params → PySem.W.Frag} {sp : World → Sp} {x : Str}
    (hq : importsNone q = true) (hn : l.most = some n) (hn2 : n ≤ sizeLine) (hdf : d.params.defaults = []) (hr : Room k callerA) (hY : ∀ (w : World) (h : Heap), YP w h → (K w.params).In h)
    (F : ∀ (w : World) (mg : Str → Option Value) (fa : Addr) (h : Heap), (K w.params).In h → h.Ns mainGlobals mg → mg d.name = some (.ref fa) →
      ∃ fd : FuncData, (∀ (s : Shared) (u : Value), BindsTo s fd ⟨[u], []⟩ [(x, u)]) ∧ ∀ base : Heap, (K w.params).In base → base.Ns mainGlobals mg → (∃ mm, base.Ns sysModules mm) → RunG l.prog w (K w.params) mg base k fa fd [x] (sp w))
    (hsp : ∀ (w : World) (H : Hp) (a : Addr) (ns : List Int), ns.length ≤ n → Only H → SqL (K w.params) H a (ns.map V.int) → sp w [.ref a] H (fun v _ => v = .bl true) E0) :
    PySem.W.WalkO q loose XP YP l.row.toRowW d [] (fun f vs => PySem.call f vs) := by
  refine Att.attach_call hn hdf fun w t0 t mg mb fa ob pm cd doc a us ns G Y _ _ _ hmg hobj hi hlen hg => ?_
  have hK := hY w _ Y
  obtain ⟨fd, hb, hF⟩ := F w mg fa _ hK G.T.g hmg
  exact law_runS hK G.T.g G.T.b G.T.builtins G.T.nolimit ((G.T.seer hq).mods.elim fun mm z => ⟨mm, z.1⟩) hg hobj hi (Nat.le_trans hlen hn2) hr hF hb fun H hO hS => hsp w H a ns hlen hO hS
end
section
variable {X : Cx} {pins : List (Addr × Obj)} {σ : L2.St} {H : Hp} {s : Shared}
mutual
theorem Da.readsS (I : Inv X pins σ H s) (hb : ∃ mm, X.base.Ns sysModules mm) : ∀ (d : PyData) (v : V) (u : Value), Da X.K H v d → RelV v u → ∃ as, Reads s.heap u d as ∧ sysModules ∉ as
  | .none, _, _, h, r => by
    cases h
    cases r
    exact ⟨_, Reads.none, List.not_mem_nil⟩
  | .bool b, _, _, h, r => by
    cases h
    cases r
    exact ⟨_, Reads.bool b, List.not_mem_nil⟩
  | .int i, _, _, h, r => by
    cases h
    obtain ⟨t, rfl⟩ := r
    exact ⟨_, Reads.int i t, List.not_mem_nil⟩
  | .str x, _, _, h, r => by
    cases h
    obtain ⟨t, rfl⟩ := r
    exact ⟨_, Reads.str x t, List.not_mem_nil⟩
  | .list ds, _, _, h, r => by
    cases h with
    | lst hs ha =>
      cases r
      obtain ⟨its, rv, ⟨o, n, ho, hc, _, hd⟩, _⟩ := I.list hs
      obtain ⟨as, hr, hn⟩ := Da.readsAllS I hb ds _ its ha rv
      refine ⟨_, Reads.list ho hc hd hr, fun z => ?_⟩
      rcases List.mem_cons.mp z with z | z
      · subst z
        obtain ⟨mm, ob, es, ep, e1, e2, _⟩ := hb
        have e3 := I.bk _ _ e1
        rw [ho] at e3
        cases e3
        rw [hd] at e2
        cases e2
      · exact hn z
  | .tuple ds, _, _, h, r => by
    cases h with
    | tup hs ha =>
      cases r
      obtain ⟨its, rv, ⟨o, ho, hc, n, hd⟩, _⟩ := I.tuple hs
      obtain ⟨as, hr, hn⟩ := Da.readsAllS I hb ds _ its ha rv
      exact ⟨_, Reads.tuple ho hc hd hr, hn⟩
  | .dict kvs, _, _, h, r => by
    cases h with
    | emp h1 =>
      cases r
      have ns := noSys I h1
      obtain ⟨_, _, vs, k, o, es, ep, e1, e2, e3, _, e4, _⟩ := I.hok _ _ h1
      cases k
      have e5 : es.toList = [] := by
        generalize es.toList = l at e4
        cases e4
        rfl
      refine ⟨_, Reads.dict (kvs := []) (as := []) (bs := []) e1 e2.1 e3 (by rw [e5]; exact .nil) (by rw [e5]; exact .nil), fun z => ?_⟩
      rcases List.mem_cons.mp z with z | z
      · rw [← z] at ns
        simp at ns
      · exact absurd z List.not_mem_nil
theorem Da.readsAllS (I : Inv X pins σ H s) (hb : ∃ mm, X.base.Ns sysModules mm) : ∀ (ds : List PyData) (vs : List V) (us : List Value), DaAll X.K H vs ds → Vals vs us → ∃ as, ReadsAll s.heap us ds as ∧ sysModules ∉ as
  | [], _, _, h, r => by
    cases h
    cases r
    exact ⟨_, ReadsAll.nil, List.not_mem_nil⟩
  | d :: ds, _, _, h, r => by
    cases h with
    | cons h1 h2 =>
      cases r with
      | cons r1 r2 =>
        obtain ⟨as, q1, n1⟩ := Da.readsS I hb d _ _ h1 r1
        obtain ⟨bs, q2, n2⟩ := Da.readsAllS I hb ds _ _ h2 r2
        refine ⟨_, ReadsAll.cons q1 q2, fun m => ?_⟩
        rcases List.mem_append.mp m with m | m
        · exact n1 m
        · exact n2 m
end
/-- repr of data, where nothing is being shown and the dict of modules stands ahead of all -/
def rReprS (K : PySem.W.Frag) : List V → Hp → VK → Prop := fun xs H Q => ∃ (x : V) (d : PyData), xs = [x] ∧ Da K H x d ∧ okD d = true ∧ wt d ≤ 1000000 ∧ d.depth ≤ 20 ∧ Q (.str d.shown) H
theorem call_reprS (hg : X.A.guards = some []) (hu : X.A.units + 64 < cLine) (hb : ∃ mm, X.base.Ns sysModules mm) : CallR X (.builtin "repr") (rReprS X.K) := by
  intro pins s σ H vs us Q I r h
  obtain ⟨x, d, rfl, hx, ok, hw, hd, q⟩ := h
  obtain ⟨u, rfl, r1⟩ : ∃ u, us = [u] ∧ RelV x u := by
    cases r with
    | cons r1 r2 =>
      cases r2
      exact ⟨_, rfl, r1⟩
  obtain ⟨as, rd, ns⟩ := Da.readsS I hb d x u hx r1
  obtain ⟨sl, sh⟩ := show_len d ok
  cases hx with
  | non =>
    cases r1
    exact P.repr_of_none ⟨.str _, H, I.tok _, ⟨_, rfl⟩, q⟩
  | bl b =>
    cases r1
    exact P.repr_of_bool ⟨.str _, H, I.tok _, ⟨_, rfl⟩, q⟩
  | int i =>
    obtain ⟨t, rfl⟩ := r1
    exact P.repr_of_int (by simpa only [PyData.showable, decide_eq_true_eq] using sh) ⟨.str _, H, I.tok _, ⟨_, rfl⟩, q⟩
  | str z =>
    obtain ⟨t, rfl⟩ := r1
    exact P.repr_of_str ⟨.str _, H, I.tok _, ⟨_, rfl⟩, q⟩ (Nat.le_trans sl (Nat.le_trans hw (by decide)))
  | lst h1 h2 =>
    cases r1
    exact repr_of_reads' rd sh (fun _ => ns) hg (by omega) (fun _ _ e => e) (fun h' u tk hk => ⟨.str _, H, I.kept (t' := tk) hk, ⟨_, rfl⟩, q⟩) (Nat.le_trans sl (Nat.le_trans hw (by decide)))
  | tup h1 h2 =>
    cases r1
    exact repr_of_reads' rd sh (fun _ => ns) hg (by omega) (fun _ _ e => e) (fun h' u tk hk => ⟨.str _, H, I.kept (t' := tk) hk, ⟨_, rfl⟩, q⟩) (Nat.le_trans sl (Nat.le_trans hw (by decide)))
  | emp h1 =>
    cases r1
    exact repr_of_reads' rd sh (fun _ => ns) hg (by omega) (fun _ _ e => e) (fun h' u tk hk => ⟨.str _, H, I.kept (t' := tk) hk, ⟨_, rfl⟩, q⟩) (Nat.le_trans sl (Nat.le_trans hw (by decide)))
end
def gsB (d : PyData) : Bool := okD d && decide (wt d ≤ 1000000) && decide (d.depth ≤ 20)
structure Gs (e : PyData) : Prop where
  ok : okD e = true
  w : wt e ≤ 1000000
  dp : e.depth ≤ 20
theorem Gd.gs {e : PyData} (h : Gd e) : Gs e := ⟨h.ok, h.w, by have := h.dp; omega⟩
def fReprS : List PyData → Option PyData
  | [d] => if gsB d then some (.str d.shown) else none
  | _ => none
theorem fReprS_of {d : PyData} (h : Gs d) : fReprS [d] = some (.str d.shown) := by
  show (if gsB d = true then some (PyData.str d.shown) else none) = _
  rw [if_pos (show gsB d = true by unfold gsB; rw [h.ok, decide_eq_true h.w, decide_eq_true h.dp]; rfl)]
theorem cs_reprS {K : PySem.W.Frag} : CbS K (rReprS K) fReprS := fun T H xs ds e tr h he Q q => by
  unfold fReprS at he
  split at he
  · split at he
    · rename_i d hz
      cases he
      cases h with
      | cons h1 h2 =>
        cases h2
        simp only [gsB, Bool.and_eq_true, decide_eq_true_eq] at hz
        obtain ⟨⟨z1, z2⟩, z3⟩ := hz
        exact ⟨_, d, rfl, h1.da, z1, z2, z3, q _ H (Same.refl _) (.str _)⟩
    · cases he
  · cases he
end Pb

set_option Elab.async false
set_option linter.all false
set_option maxRecDepth 100000
namespace Pb
open PySem PySem.Spec PyProof.Rows L2
/-! ### words for the pure part -/
theorem iR_of {φ : Rho → Option PyData} {ρ : Rho} {j : Int} (h : φ ρ = some (.int j)) (hj : -(2 ^ 62) ≤ j ∧ j < 2 ^ 62) : iR φ ρ = some (rngD 0 j) := by
  unfold iR
  rw [h]
  show (if small j = true then some (rngD 0 j) else none) = _
  rw [if_pos (show small j = true from decide_eq_true hj)]
theorem lRg_of {φ : Rho → Option PyData} {ρ : Rho} {j : Int} (h : φ ρ = some (.int j)) (h0 : 0 ≤ j) (h1 : j ≤ 100000) : lRg φ ρ = some (rngD 0 j) := by
  unfold lRg
  rw [h]
  show (if decide (0 ≤ j ∧ j ≤ 100000) = true then some (rngD 0 j) else none) = _
  rw [if_pos (decide_eq_true ⟨h0, h1⟩)]
theorem eTRg_of {φ : Rho → Option PyData} {ρ : Rho} {j : Int} (h : φ ρ = some (.int j)) (h0 : 0 ≤ j) (h1 : j ≤ 100000) : eTRg φ ρ = some (.tuple (rngD 0 j)) := by
  unfold eTRg
  rw [lRg_of h h0 h1]
  rfl
theorem rng_ints (m : Nat) : rngD 0 (m : Int) = (upto m).map .int := by
  unfold rngD upto
  rw [Int.sub_zero, Int.toNat_natCast, List.map_map]
  congr 1
  funext i
  show PyData.int (0 + (i : Int)) = PyData.int (i : Int)
  rw [Int.zero_add]
def loopPost (Q : Rho → Int → Prop) (P : Res → Int → Prop) : Res → Int → Prop := fun r n1 => match r with
  | .nx ρ' => Q ρ' n1
  | .ct ρ' => Q ρ' n1
  | .bk ρ' => P (.nx ρ') n1
  | r => P r n1
theorem forW_ind {B : PyData → Rho → Int → (Res → Int → Prop) → Prop} {P : Res → Int → Prop} (I : List PyData → Rho → Int → Prop) (h0 : ∀ ρ n, I [] ρ n → P (.nx ρ) n)
    (hs' : ∀ e es ρ n, I (e :: es) ρ n → ∀ Q : Rho → Int → Prop, (∀ ρ' n', I es ρ' n' → Q ρ' n') → B e ρ n (loopPost Q P)) : ∀ es ρ n, I es ρ n → forW B es ρ n P
  | [], ρ, n, h => h0 ρ n h
  | e :: es, ρ, n, h => hs' e es ρ n h (fun ρ' n' => forW B es ρ' n' P) fun ρ' n' k => forW_ind I h0 hs' es ρ' n' k
theorem tab0 (n : Int) (os : List (List Int)) : fIxT (tabD n os) (.int 0) = some (.int n) := rfl
theorem tab1 (n : Int) (os : List (List Int)) : fIxT (tabD n os) (.int 1) = some (.tuple (os.map offD)) := rfl
/-- two texts that are equal -/
theorem ne_same (x : Str) : fNe (.str x) (.str x) = some (.bool false) := by
  show some (PyData.bool (!decide (x = x))) = _
  rw [decide_eq_true rfl]
  rfl
/-- data that may be shown -/
theorem gd_off {m : Nat} {o : List Int} (hm : m ≤ 10) (h : OffOk m o) : Gd (offD o) := by
  obtain ⟨h1, h2, h3⟩ := pl_off hm h
  have := pl_ok _ h1
  exact ⟨this.1, by omega, by omega, fun z => this.2.2⟩
theorem gd_list2 {s : Str} {d : PyData} (hs' : okD (.str s) = true) (h : Gd d) (hw : wt d ≤ 900000) (hd : d.depth ≤ 11) (hn : d.hasDict = false) : Gd (.list [.str s, d]) := by
  refine ⟨?_, ?_, ?_, fun z => ?_⟩
  · simp only [okD, okAll, hs', h.ok, Bool.and_true, List.length_cons, List.length_nil, decide_eq_true_eq] at hs' ⊢
    simp [okD] at hs'
    simp [hs']
  · simp only [wt, wtAll]
    omega
  · simp only [PyData.depth, PyData.depthAll]
    omega
  · simp only [PyData.hasDict, PyData.hasDictAll, hn, Bool.or_false, Bool.false_or] at z
    cases z
end Pb

set_option Elab.async false
set_option linter.all false
set_option maxRecDepth 100000
namespace Pb
open PySem PySem.Spec PyProof.Rows L2
theorem oex_cls {K : PySem.W.Frag} {C : Addr} {nm q N bs bm sn sub ab col dd k0 k1 k2 k3 k5} (l : K.lookup C = some (excClassObj nm q C N bs bm true sn sub ab col dd k0 k1 k2 k3 k5 "ValueError.__new__")) (r : PySem.HandSPX.refsVE bm = true) :
    ∃ nm q N bs bm sn sub ab col dd k0 k1 k2 k3 k5, K.lookup C = some (excClassObj nm q C N bs bm true sn sub ab col dd k0 k1 k2 k3 k5 "ValueError.__new__") ∧ PySem.HandSPX.refsVE bm = true := ⟨nm, q, N, bs, bm, sn, sub, ab, col, dd, k0, k1, k2, k3, k5, l, r⟩
/-- a class's own __init__ -/
def Di (K : PySem.W.Frag) (C : Addr) (qual : Str) (st : Stmt) : Prop := ∃ (f : Addr) (fd : FuncData), PySem.W.findIn K (.ref C) "__init__" = some (some (.ref f)) ∧ PySem.W.typeIn K (.ref f) = some (.type "function") ∧ Fun K "__init__" qual st f fd
theorem di_mk {K : PySem.W.Frag} {C : Addr} {qual : Str} {st : Stmt} {f : Addr} {od an : Option Addr} {sl : Array (Option Value)} {oc kV dc pm cd ct : Value} (a : PySem.W.findIn K (.ref C) "__init__" = some (some (.ref f))) (t : PySem.W.typeIn K (.ref f) = some (.type "function"))
    (l : K.lookup f = some ⟨oc, od, .func (PySem.W.fnOf "__init__" qual (defArgs st) (defBody st) (defScope st) .none kV dc pm an cd ct), sl⟩) (c : PySem.W.codeIn K cd qual = true) (k : PySem.W.keepIn K (.ref f) = true) : Di K C qual st := ⟨f, _, a, t, fun_mk (st := st) l c k⟩
end Pb

set_option Elab.async false
set_option linter.all false
set_option maxRecDepth 100000
namespace Pb
open PySem PySem.Spec PyProof.Rows L2
/-! ### defs that raise -/
section
variable (K : PySem.W.Frag) (cl : Str → Addr)
/-- what an outcome asks of the two wishes; an error's dict is no hidden address -/
def OutY (S : List Addr) (H : Hp) (Q : VK) (E : XK) : Out → Prop
  | .ret e => ∀ v H', Same H H' → Da K (hs S H') v e → Q v H'
  | .exc x => ∀ H', Same H H' → E (.ref (cl x)) none H'
  | .excF x f e => ∀ v d H', Same H H' → hs S H' d = some (.xd [(f, v)]) → Da K (hs S H') v e → E (.ref (cl x)) (some d) H'
def spY (g : List PyData → Option Out) : Sp := fun vs H Q E => ∃ S ds o, Tr S H ∧ DaAll K (hs S H) vs ds ∧ g ds = some o ∧ OutY K cl S H Q E o
end
inductive Rx where
  | ok (r : Res)
  | ex (o : Out) (ρ : Rho)
section
variable (K : PySem.W.Frag) (cl : Str → Addr)
def WxOk (S : List Addr) (H0 : Hp) (G : Hp → Prop) (W : WX) (ρ : Rho) : Out → Prop
  | .ret _ => False
  | .exc x => ∀ T ow σ H, SimO K S H0 G T ow ρ σ H → W (.ref (cl x)) none σ H
  | .excF x f e => ∀ T ow σ H v d, SimO K S H0 G T ow ρ σ H → hs T H d = some (.xd [(f, v)]) → Da K (hs T H) v e → W (.ref (cl x)) (some d) σ H
def EndX (S : List Addr) (H0 : Hp) (G : Hp → Prop) (D : Ends) (W : WX) : Rx → Prop
  | .ok r => EndOk K cl S H0 G D E0 r
  | .ex o ρ => WxOk K cl S H0 G W ρ o
def StX (W : WX) (ts : TS) (ψ : Rho → Option Rx) : Prop := ∀ S H0 G ρ σ H r, Sim K S H0 G ρ σ H → ψ ρ = some r → ∀ D : Ends, EndX K cl S H0 G D W r → ts D σ H
end
def xP (ψ : Rho → Option Res) : Rho → Option Rx := fun ρ => (ψ ρ).map .ok
def thenX (r : Rx) (χ : Rho → Option Rx) : Option Rx := match r with
  | .ok (.nx ρ) => χ ρ
  | r => some r
def xSeq (ψ χ : Rho → Option Rx) : Rho → Option Rx := fun ρ => (ψ ρ).bind fun r => thenX r χ
def xIf (β : Rho → Option Bool) (ψ χ : Rho → Option Rx) : Rho → Option Rx := fun ρ => (β ρ).bind fun c => if c then ψ ρ else χ ρ
def xRaise (x : Str) : Rho → Option Rx := fun ρ => some (.ex (.exc x) ρ)
def xRaise1 (x f : Str) (φ : Rho → Option PyData) : Rho → Option Rx := fun ρ => (φ ρ).map fun e => .ex (.excF x f e) ρ
def outR (o : Out) (ρ : Rho) (k : PyData → Res) : Rx := match o with
  | .ret e => .ok (k e)
  | o => .ex o ρ
def xSet (i : Nat) (g : List PyData → Option Out) (φs : Rho → Option (List PyData)) : Rho → Option Rx := fun ρ => ((φs ρ).bind g).map fun o => outR o ρ fun e => .nx (ρ.set i (.val e))
def xRet (g : List PyData → Option Out) (φs : Rho → Option (List PyData)) : Rho → Option Rx := fun ρ => ((φs ρ).bind g).map fun o => outR o ρ .rt
section
variable {K : PySem.W.Frag} {cl : Str → Addr} {W : WX}
theorem StP.x {ts : TS} {ψ : Rho → Option Res} (h : StP K cl E0 ts ψ) : StX K cl W ts (xP ψ) := fun S H0 G ρ σ H r sm he D q => by
  obtain ⟨r', h1, rfl⟩ := Option.map_eq_some_iff.mp he
  exact h S H0 G ρ σ H r' sm h1 D q
theorem sx_seq {t u : TS} {ψ χ : Rho → Option Rx} (h : StX K cl W t ψ) (k : StX K cl W u χ) : StX K cl W (tSeq t u) (xSeq ψ χ) := fun S H0 G ρ σ H r sm he D q => by
  obtain ⟨r1, h1, h2⟩ := Option.bind_eq_some_iff.mp he
  refine h S H0 G ρ σ H r1 sm h1 _ ?_
  cases r1 with
  | ok r1 =>
    cases r1 with
    | nx ρ' => exact fun σ' H' sm' => k S H0 G ρ' σ' H' r sm' h2 D q
    | rt d =>
      cases h2
      exact q
    | bk ρ' =>
      cases h2
      exact q
    | ct ρ' =>
      cases h2
      exact q
    | ex o =>
      cases h2
      exact q
  | ex o ρ' =>
    cases h2
    exact q
theorem sx_if {c : TT} {t u : TS} {β : Rho → Option Bool} {ψ χ : Rho → Option Rx} (hc : TeP K c β) (h : StX K cl W t ψ) (k : StX K cl W u χ) : StX K cl W (tIfS c t u) (xIf β ψ χ) := fun S H0 G ρ σ H r ⟨T, ow, sm⟩ he D q => by
  obtain ⟨b, h1, h2⟩ := Option.bind_eq_some_iff.mp he
  refine hc S H0 G T ow ρ σ H b sm h1 _ fun H1 s1 => ?_
  cases b with
  | true => exact h S H0 G ρ σ H1 r (sm.mono s1).sim (by simpa using h2) D q
  | false => exact k S H0 G ρ σ H1 r (sm.mono s1).sim (by simpa using h2) D q
/-- raise x() | raise x(e) -/
theorem sx_raise {x : Str} : StX K cl W (fun _ σ H => W (.ref (cl x)) none σ H) (xRaise x) := fun S H0 G ρ σ H r ⟨T, ow, sm⟩ he D q => by
  cases he
  exact q T ow σ H sm
theorem sx_raise1 {x f : Str} {te : TE} {φ : Rho → Option PyData} (h : EvS K te φ) : StX K cl W (fun _ σ H => te σ H fun y H1 => ∀ d, H1 d = none → W (.ref (cl x)) (some d) σ (upd H1 d (.xd [(f, y)]))) (xRaise1 x f φ) := fun S H0 G ρ σ H r ⟨T, ow, sm⟩ he D q => by
  obtain ⟨e, h1, rfl⟩ := Option.map_eq_some_iff.mp he
  exact h S H0 G T ow ρ σ H e sm h1 _ fun v H1 s1 hv d hd => q T ow σ _ v d (sm.mono (s1.trans (same_upd hd))) (hs_at ((sm.tr.same s1).out hd) upd_same) (hv.mono (hs_mono (same_upd hd)))
theorem callS_core {g : List PyData → Option Out} {ta : TA} {φs : Rho → Option (List PyData)} (ha : EvAS K ta φs) {S : List Addr} {H0 : Hp} {G : Hp → Prop} {T ow : List Addr} {ρ : Rho} {σ : L2.St} {H : Hp} {o : Out} {Q : VK} (sm : SimO K S H0 G T ow ρ σ H) (he : (φs ρ).bind g = some o)
    (hr : ∀ e, o = .ret e → ∀ v H', Same H H' → Da K (hs T H') v e → Q v H') (hx : (∀ e, o ≠ .ret e) → WxOk K cl S H0 G W ρ o) : tCallS (spY K cl g) (WE W) ta σ H Q := by
  obtain ⟨xs, h1, h2⟩ := Option.bind_eq_some_iff.mp he
  refine ha S H0 G T ow ρ σ H xs sm h1 _ fun vs H1 s1 hv => ⟨T, xs, o, sm.tr.same s1, hv, h2, ?_⟩
  cases o with
  | ret e => exact fun v H' s hd => hr e rfl v H' (s1.trans s) hd
  | exc x => exact fun H' s => hx (fun e z => by cases z) T ow σ H' (sm.mono (s1.trans s))
  | excF x f e => exact fun v d H' s hd hv => hx (fun e z => by cases z) T ow σ H' v d (sm.mono (s1.trans s)) hd hv
theorem sx_set {g : List PyData → Option Out} {ta : TA} {i : Nat} {φs : Rho → Option (List PyData)} (ha : EvAS K ta φs) : StX K cl W (tAsg (tCallS (spY K cl g) (WE W) ta) (gName i)) (xSet i g φs) := fun S H0 G ρ σ H r ⟨T, ow, sm⟩ he D q => by
  obtain ⟨o, h1, rfl⟩ := Option.map_eq_some_iff.mp he
  refine callS_core ha sm h1 (fun e eo v H' s hd => ?_) (fun hne => ?_)
  · subst eo
    exact q _ H' ((sm.mono s).setV hd).sim
  · cases o with
    | ret e => exact absurd rfl (hne e)
    | exc x => exact q
    | excF x f e => exact q
theorem sx_ret {g : List PyData → Option Out} {ta : TA} {φs : Rho → Option (List PyData)} (ha : EvAS K ta φs) : StX K cl W (tRet (tCallS (spY K cl g) (WE W) ta)) (xRet g φs) := fun S H0 G ρ σ H r ⟨T, ow, sm⟩ he D q => by
  obtain ⟨o, h1, rfl⟩ := Option.map_eq_some_iff.mp he
  refine callS_core ha sm h1 (fun e eo v H' s hd => ?_) (fun hne => ?_)
  · subst eo
    exact q v H' (sm.old.trans s) (hd.mono (msk_to_hs sm.sub))
  · cases o with
    | ret e => exact absurd rfl (hne e)
    | exc x => exact q
    | excF x f e => exact q
/-- a call that raises within an expression: here it does not -/
theorem xs_callS {g : List PyData → Option Out} {ta : TA} {φs : Rho → Option (List PyData)} (ha : EvAS K ta φs) : EvS K (tCallS (spY K cl g) (WE W) ta) (fun ρ => ((φs ρ).bind g).bind fun o => match o with
  | .ret e => some e
  | _ => none) := fun S H0 G T ow ρ σ H e sm he Q q => by
  obtain ⟨o, h1, h2⟩ := Option.bind_eq_some_iff.mp he
  cases o with
  | ret e' =>
    cases h2
    exact callS_core ha sm h1 (fun e eo v H' s hd => by cases eo; exact q v H' s hd) (fun hne => absurd rfl (hne _))
  | exc _ => cases h2
  | excF _ _ _ => cases h2
end
/-! a while that may raise -/
def whX (β : Rho → Option Bool) (ψ : Rho → Option Rx) : Nat → Rho → Option Rx
  | 0, _ => none
  | n + 1, ρ => (β ρ).bind fun c => if c then (ψ ρ).bind fun r => match r with
    | .ok (.nx ρ') => whX β ψ n ρ'
    | .ok (.ct ρ') => whX β ψ n ρ'
    | .ok (.bk ρ') => some (.ok (.nx ρ'))
    | r => some r
    else some (.ok (.nx ρ))
def xWhile (n : Nat) (β : Rho → Option Bool) (ψ : Rho → Option Rx) : Rho → Option Rx := fun ρ => whX β ψ n ρ
theorem sx_while {K : PySem.W.Frag} {cl : Str → Addr} {W : WX} {c : TT} {tb : TS} {n : Nat} {β : Rho → Option Bool} {ψ : Rho → Option Rx} (hc : TeP K c β) (hb : StX K cl W tb ψ) : StX K cl W (tWhile c tb) (xWhile n β ψ) := fun S H0 G ρ σ H r sm he D q => by
  refine ⟨fun m σ' H' => ∃ ρ', Sim K S H0 G ρ' σ' H' ∧ whX β ψ m ρ' = some r, ⟨n, ρ, sm, he⟩, ?_⟩
  rintro m σ' H' ⟨ρ', ⟨T, ow, sm'⟩, h⟩
  cases m with
  | zero => cases h
  | succ m =>
    obtain ⟨b, h1, h2⟩ := Option.bind_eq_some_iff.mp h
    refine hc S H0 G T ow ρ' σ' H' b sm' h1 _ fun H1 s1 => ?_
    cases b with
    | true =>
      rw [if_pos rfl]
      obtain ⟨r1, h3, h4⟩ := Option.bind_eq_some_iff.mp (show (ψ ρ').bind _ = some r by simpa using h2)
      refine ⟨fun σ2 H2 => ∃ ρ2, Sim K S H0 G ρ2 σ2 H2 ∧ whX β ψ m ρ2 = some r, fun σ2 H2 ⟨ρ2, k1, k2⟩ => ⟨m, Nat.lt_succ_self m, ρ2, k1, k2⟩, hb S H0 G ρ' σ' H1 r1 (sm'.mono s1).sim h3 _ ?_⟩
      cases r1 with
      | ok r1 =>
        cases r1 with
        | nx ρ3 => exact fun σ5 H5 sm5 => ⟨ρ3, sm5, h4⟩
        | ct ρ3 => exact fun σ5 H5 sm5 => ⟨ρ3, sm5, h4⟩
        | bk ρ3 =>
          cases h4
          exact q
        | rt d =>
          cases h4
          exact q
        | ex o =>
          cases h4
          exact q
      | ex o ρ3 =>
        cases h4
        exact q
    | false =>
      rw [if_neg Bool.false_ne_true]
      have : r = .ok (.nx ρ') := by simpa using h2.symm
      subst this
      exact q σ' H1 (sm'.mono s1).sim
/-! a def that may raise -/
def runX (n np : Nat) (ψ : Rho → Option Rx) (ds : List PyData) : Option Out := if ds.length = np then match ψ (rho0 n ds) with
  | some (.ok (.rt e)) => some (.ret e)
  | some (.ok (.nx _)) => some (.ret .none)
  | some (.ex (.exc x) _) => some (.exc x)
  | some (.ex (.excF x f e) _) => some (.excF x f e)
  | _ => none
  else none
section
variable {P : Program} {w : World} {K : PySem.W.Frag} {mg : Str → Option Value} {base : Heap}
theorem fn_raise {x qual : Str} {st : Stmt} {f : Addr} {fd : FuncData} {N ps : List Str} {k : Nat} {ψ : Rho → Option Rx} {cl : Str → Addr} (F : Fun K x qual st f fd) (S : FnScope N ps (defScope st))
    (hbody : ∀ (cdv : Value) (A : Around) (outer : List Env) (s : Shared) (H : Hp) (E : XK), Room k (A.deeper (envOfC qual (defScope st) s.heap.objs.size f cdv)) →
      ∃ t, PSs (cxOf (L2.CX P w) P w K mg base N qual (defScope st) f cdv A outer s H E) (defBody st) t ∧ StX K cl (fun cls d _ H => E cls d H) t ψ) : FnOk P w K mg base (L2.CX P w) (k + 1) f fd ps (spY K cl (runX N.length ps.length ψ)) := by
  refine F.okX S (fun vs H Q E h => ?_) (fun cdv A outer s H vs Q E hr h => ?_)
  · obtain ⟨T, ds, o, _, ha, he, _⟩ := h
    rw [DaAll.len ha]
    unfold runX at he
    split at he
    · assumption
    · cases he
  · obtain ⟨T, ds, o, tr, ha, he, q⟩ := h
    obtain ⟨t, h1, h2⟩ := hbody cdv A outer s H E hr
    refine ⟨t, h1, ?_⟩
    have s0 : SimO K T H (fun _ => True) T [] (rho0 N.length ds) (start N vs) H := sim_start tr ha
    unfold runX at he
    split at he
    · split at he
      · rename_i hr'
        cases he
        exact h2 T H _ _ _ H _ s0.sim hr' _ q
      · rename_i ρ' hr'
        cases he
        exact h2 T H _ _ _ H _ s0.sim hr' _ (fun σ' H' ⟨T', ow', sm'⟩ => q .non H' sm'.old .non)
      · rename_i x' ρ' hr'
        cases he
        exact h2 T H _ _ _ H _ s0.sim hr' _ (fun T' ow' σ' H' sm' => q H' sm'.old)
      · rename_i x' f' e' ρ' hr'
        cases he
        refine h2 T H _ _ _ H _ s0.sim hr' _ (fun T' ow' σ' H' v d sm' hd hv => q v d H' sm'.old ?_ (hv.mono (msk_to_hs sm'.sub)))
        exact msk_to_hs sm'.sub _ _ hd
      · cases he
    · cases he
end
/-! ### try .. except X as e, and what is told -/
section
variable (K : PySem.W.Frag) (cl : Str → Addr)
def StQ (ts : TS) (Ψ : Rho → (Res → Prop) → Prop) : Prop := ∀ S H0 G ρ σ H P, Sim K S H0 G ρ σ H → Ψ ρ P → ∀ D : Ends, (∀ r, P r → EndOk K cl S H0 G D E0 r) → ts D σ H
end
def qP (ψ : Rho → Option Res) : Rho → (Res → Prop) → Prop := fun ρ P => ∃ r, ψ ρ = some r ∧ P r
def qSeq (Ψ Χ : Rho → (Res → Prop) → Prop) : Rho → (Res → Prop) → Prop := fun ρ P => Ψ ρ fun r => match r with
  | .nx ρ' => Χ ρ' P
  | r => P r
def clr (i : Nat) : Res → Res
  | .nx ρ => .nx (ρ.set i .no)
  | .bk ρ => .bk (ρ.set i .no)
  | .ct ρ => .ct (ρ.set i .no)
  | r => r
/-- the suite, for an error of the class x with these fields -/
def qTry (i : Nat) (xs : List Str) (ψ : Rho → Option Rx) (χ : Addr → Option Addr → Str → Rho → Option Res) : Rho → (Res → Prop) → Prop := fun ρ P => ∃ rx, ψ ρ = some rx ∧ match rx with
  | .ok r => P r
  | .ex (.exc x) ρ' => x ∈ xs ∧ ∀ a, ∃ r, χ a none x (ρ'.set i (.exn a none [])) = some r ∧ P (clr i r)
  | .ex (.excF x f e) ρ' => x ∈ xs ∧ ∀ a dd, ∃ r, χ a (some dd) x (ρ'.set i (.exn a (some dd) [(f, e)])) = some r ∧ P (clr i r)
  | .ex (.ret _) _ => False
section
variable {K : PySem.W.Frag} {cl : Str → Addr}
theorem StP.q {ts : TS} {ψ : Rho → Option Res} (h : StP K cl E0 ts ψ) : StQ K cl ts (qP ψ) := fun S H0 G ρ σ H P sm ⟨r, h1, h2⟩ D q => h S H0 G ρ σ H r sm h1 D (q r h2)
theorem sq_seq {t u : TS} {Ψ Χ : Rho → (Res → Prop) → Prop} (h : StQ K cl t Ψ) (k : StQ K cl u Χ) : StQ K cl (tSeq t u) (qSeq Ψ Χ) := fun S H0 G ρ σ H P sm h1 D q => by
  refine h S H0 G ρ σ H _ sm h1 _ fun r hr => ?_
  cases r with
  | nx ρ' => exact fun σ' H' sm' => k S H0 G ρ' σ' H' P sm' hr D q
  | rt e => exact q _ hr
  | bk ρ' => exact q _ hr
  | ct ρ' => exact q _ hr
  | ex o => exact q _ hr
theorem sq_try {c : Value} {i : Nat} {xs : List Str} {tb : WX → TS} {ts : Addr → Value → Option Addr → TS} {ψ : Rho → Option Rx} {χ : Addr → Option Addr → Str → Rho → Option Res} (hm : ∀ x ∈ xs, PySem.W.exmOne K (.ref (cl x)) c = some true)
    (hb : ∀ W, StX K cl W (tb W) ψ) (hh : ∀ a cls d, ∀ x ∈ xs, cls = .ref (cl x) → StP K cl E0 (ts a cls d) (χ a d x)) : StQ K cl (fun D σ H => tb (wAs K c i ts (fun _ _ _ _ => False) D) D σ H) (qTry i xs ψ χ) := fun S H0 G ρ σ H P sm ⟨rx, h1, h2⟩ D q => by
  have fin : ∀ r, P (clr i r) → EndOk K cl S H0 G { nx := fun σ' H' => D.nx (σ'.set i none) H', rt := D.rt, bk := fun σ' H' => D.bk (σ'.set i none) H', ct := fun σ' H' => D.ct (σ'.set i none) H' } E0 r := fun r hr => by
    have e := q _ hr
    cases r with
    | nx ρ' => exact fun σ' H' ⟨T, ow, sm'⟩ => e _ H' ⟨T, ow, sm'.setN⟩
    | bk ρ' => exact fun σ' H' ⟨T, ow, sm'⟩ => e _ H' ⟨T, ow, sm'.setN⟩
    | ct ρ' => exact fun σ' H' ⟨T, ow, sm'⟩ => e _ H' ⟨T, ow, sm'.setN⟩
    | rt x => exact e
    | ex o => exact e
  refine hb _ S H0 G ρ σ H rx sm h1 D ?_
  match rx, h2 with
  | .ok r, h2 => exact q r h2
  | .ex (.exc x) ρ', ⟨hx, h3⟩ =>
    intro T ow σ' H' sm'
    refine ⟨true, hm x hx, fun _ a ha => ?_, fun z => nomatch z⟩
    obtain ⟨r, k1, k2⟩ := h3 a
    exact hh a _ none x hx rfl S H0 G _ _ H' r ⟨T, ow, sm'.put (o := some (.ref a)) (s := .exn a none []) ⟨rfl, trivial⟩ (fun _ z => by cases z)⟩ k1 _ (fin r k2)
  | .ex (.excF x f e) ρ', ⟨hx, h3⟩ =>
    intro T ow σ' H' v d sm' hd hv
    refine ⟨true, hm x hx, fun _ a ha => ?_, fun z => nomatch z⟩
    obtain ⟨r, k1, k2⟩ := h3 a d
    exact hh a _ (some d) x hx rfl S H0 G _ _ H' r ⟨T, ow, sm'.put (o := some (.ref a)) (s := .exn a (some d) [(f, e)]) ⟨rfl, v, hd, hv⟩ (fun _ z => by cases z)⟩ k1 _ (fin r k2)
/-- isinstance(err, C) -/
def rxn (ρ : Rho) (i : Nat) (a : Addr) (d : Option Addr) : Option (List (Str × PyData)) := match ρ[i]? with
  | some (.exn a' d' fs) => if a' = a ∧ d' = d then some fs else none
  | _ => none
theorem rxn_some {ρ : Rho} {i : Nat} {a : Addr} {d : Option Addr} {fs : List (Str × PyData)} (h : rxn ρ i a d = some fs) : ρ[i]? = some (.exn a d fs) := by
  unfold rxn at h
  split at h
  · rename_i e
    split at h
    · rename_i z
      cases h
      rw [e, z.1, z.2]
    · cases h
  · cases h
def eIsE (a : Addr) (d : Option Addr) (i : Nat) (x c : Str) : Rho → Option PyData := fun ρ => (rxn ρ i a d).map fun _ => .bool (decide (x = c))
def eFld (a : Addr) (d : Option Addr) (i : Nat) (f : Str) : Rho → Option PyData := fun ρ => (rxn ρ i a d).bind fun fs => match fs with
  | [(g, e)] => if g = f then some e else none
  | _ => none
theorem xd_at {X H : Hp} {d : Option Addr} {fs : List (Str × PyData)} (h : XdO K X d fs) (s : Same X H) : ∃ gs, XdAt H d gs := by
  match d, fs, h with
  | none, [], _ => exact ⟨[], rfl⟩
  | some dd, [(f, e)], ⟨v, h1, _⟩ => exact ⟨[(f, v)], s _ _ h1⟩
theorem xs_isE {a : Addr} {cls : Value} {d : Option Addr} {i : Nat} {x c : Str} (hc : cls = .ref (cl x)) (xc : ExcC K (cl x)) (kt : PySem.W.kitOne K (.ref (cl x)) (.ref (cl c)) = some (decide (x = c))) : EvS K (tCB (rIsP K a cls d) (tCons (tVar i) (tCons (tC (.ref (cl c))) tNil))) (eIsE a d i x c) := fun S H0 G T ow ρ σ H e sm he Q q => by
  subst hc
  obtain ⟨fs, h1, rfl⟩ := Option.map_eq_some_iff.mp he
  obtain ⟨o, ho, rfl, hx⟩ := sm.slot i _ (rxn_some h1)
  obtain ⟨gs, hg⟩ := xd_at hx hs_sub
  exact ⟨_, ho, cl x, cl c, _, gs, rfl, xc, hg, rfl, kt, q _ H (Same.refl _) (.bl _)⟩
theorem xs_fld {a : Addr} {cls : Value} {d : Option Addr} {i : Nat} {x c f : Str} (hc : cls = .ref (cl x)) : EvS K (tXf a cls d (cl c) f (tVar i)) (fun ρ => if x = c then eFld a d i f ρ else none) := fun S H0 G T ow ρ σ H e sm he Q q => by
  split at he
  · rename_i hxc
    subst hxc hc
    obtain ⟨fs, h1, h2⟩ := Option.bind_eq_some_iff.mp he
    obtain ⟨o, ho, rfl, hx⟩ := sm.slot i _ (rxn_some h1)
    split at h2
    · rename_i g e'
      split at h2
      · rename_i hz
        cases h2
        subst hz
        match d, hx with
        | some dd, ⟨v, k1, k2⟩ => exact ⟨_, ho, rfl, rfl, dd, _, v, rfl, hs_sub _ _ k1, by simp [List.lookup], q v H (Same.refl _) k2⟩
      · cases h2
    · cases h2
  · cases he
/-- a def whose result is told by a wish -/
def spQ (K : PySem.W.Frag) (Wt : List PyData → (PyData → Prop) → Prop) : Sp := fun vs H Q _ => ∃ (S : List Addr) (ds : List PyData) (P : PyData → Prop), Tr S H ∧ DaAll K (hs S H) vs ds ∧ Wt ds P ∧ ∀ v e H', P e → Same H H' → Da K (hs S H') v e → Q v H'
def runQ (n np : Nat) (Ψ : Rho → (Res → Prop) → Prop) (ds : List PyData) (P : PyData → Prop) : Prop := ds.length = np ∧ Ψ (rho0 n ds) fun r => match r with
  | .rt e => P e
  | .nx _ => P .none
  | _ => False
theorem fn_told {P : Program} {w : World} {mg : Str → Option Value} {base : Heap} {x qual : Str} {st : Stmt} {f : Addr} {fd : FuncData} {N ps : List Str} {k : Nat} {Ψ : Rho → (Res → Prop) → Prop} (F : Fun K x qual st f fd) (S : FnScope N ps (defScope st))
    (hbody : ∀ (cdv : Value) (A : Around) (outer : List Env) (s : Shared) (H : Hp) (E : XK), Room k (A.deeper (envOfC qual (defScope st) s.heap.objs.size f cdv)) →
      ∃ t, PSs (cxOf CX0 P w K mg base N qual (defScope st) f cdv A outer s H E).nox (defBody st) t ∧ StQ K cl t Ψ) : FnOk P w K mg base CX0 (k + 1) f fd ps (spQ K (runQ N.length ps.length Ψ)) := by
  refine F.ok S (fun vs H Q E h => ?_) (fun cdv A outer s H vs Q E hr h => ?_)
  · obtain ⟨T, ds, P, _, ha, he, _⟩ := h
    rw [DaAll.len ha]
    exact he.1
  · obtain ⟨T, ds, PP, tr, ha, he, q⟩ := h
    obtain ⟨t, h1, h2⟩ := hbody cdv A outer s H E hr
    refine ⟨t, h1, h2 T H _ _ _ H _ (sim_start tr ha).sim he.2 _ fun r hr' => ?_⟩
    cases r with
    | rt e => exact fun v H' s hv => q v e H' hr' s hv
    | nx ρ' => exact fun σ' H' ⟨T', ow', sm'⟩ => q .non .none H' hr' sm'.old .non
    | bk ρ' => exact hr'.elim
    | ct ρ' => exact hr'.elim
    | ex o => exact hr'.elim
/-- such a def in the law -/
def wTold (Wt : List PyData → (PyData → Prop) → Prop) (Φs : Rho → Int → (List PyData → Int → Prop) → Prop) : Rho → Int → (PyData → Int → Prop) → Prop := fun ρ n P => Φs ρ n fun es n1 => Wt es fun e => P e n1
theorem xw_told {d : Addr} {Wt : List PyData → (PyData → Prop) → Prop} {ta : TA} {Φs : Rho → Int → (List PyData → Int → Prop) → Prop} {E : XK} (ha : EvAW K d ta Φs) : EvW K d (tCall (spQ K Wt) [] E ta) (wTold Wt Φs) := fun S H0 b c n G T ow ρ σ H P sm h1 Q q =>
  ha S H0 b c n G T ow ρ σ H _ sm h1 _ fun vs es n1 H1 hP d1 hvs => by
    show spQ K Wt (vs ++ []) H1 Q E
    rw [List.append_nil]
    exact ⟨T, es, _, (sm.draw d1).co.tr, hvs, hP, fun v e H2 hp s2 hd => q v e n1 H2 hp (d1.more s2) hd⟩
end
end Pb

set_option Elab.async false
set_option linter.all false
set_option maxRecDepth 100000
namespace Pb
open PySem PySem.Spec PyProof.Rows L2
open PySem.W (Frag findIn InstAt KitX)
/-- isinstance(err, (c1, c2, ..)), err with or without a dict -/
def rIsPT (K : Frag) (a : Addr) (cls : Value) (d : Option Addr) : List V → Hp → VK → Prop := fun xs H Q => ∃ (D tp : Addr) (cs : List V) (us : List Value) (b : Bool) (fs : List (Str × V)), cls = .ref D ∧ ExcC K D ∧ XdAt H d fs ∧ xs = [.ref a, .ref tp] ∧ H tp = some (.tup cs) ∧ Paired ClsV cs us ∧ PySem.W.kitAny K (.ref D) us = some b ∧ Q (.bl b) H
theorem call_isPT {X : Cx} {a : Addr} {oe : Obj} {cls : Value} {d : Option Addr} (hp : (a, oe) ∈ X.pn) (hz : Zc cls d oe) (hf : ∃ vs, oe.data = .fields vs) : CallR X (.builtin "isinstance") (rIsPT X.K a cls d) := by
  intro pins s σ H xs us Q I r ⟨D, tp, cs, ws, b, fs, ec, xc, hx, ex, hT, k, e, q⟩
  subst ec ex
  obtain ⟨u1, u2, rfl, r1, r2⟩ := vals2 r
  obtain rfl : u1 = Value.ref a := r1
  obtain rfl : u2 = Value.ref tp := r2
  obtain ⟨od, J⟩ := pin_inst hp hz hf I hx
  obtain ⟨_, its, rv, o, h1, h2, n, h3⟩ := (show ObjOk X.prog X.w H s.heap tp (.tup cs) from I.hok tp _ hT)
  obtain rfl := ClsV.all k rv
  obtain ⟨oc', od', dt, sl⟩ := o
  obtain rfl : oc' = .type "tuple" := h2
  obtain rfl : dt = _ := h3
  exact PySem.W.kia_tup (H := fun h => InstAt h a oe D od) (kit_err xc) I.kIn J h1 e (fun z => nomatch z) fun tk => ⟨.bl b, H, I.kept (t' := tk) fun _ _ z => z, rfl, q⟩
def tRefs (K : Frag) : List Addr → TA
  | [] => tNil
  | c :: cs => tCons (tC (.ref c)) (tRefs K cs)
def eIsT (a : Addr) (d : Option Addr) (i : Nat) (x : Str) (cs : List Str) : Rho → Option PyData := fun ρ => (rxn ρ i a d).map fun _ => .bool (decide (x ∈ cs))
section
variable {K : Frag} {cl : Str → Addr}
theorem kit_any2 {x c1 c2 : Str} (k1 : PySem.W.kitOne K (.ref (cl x)) (.ref (cl c1)) = some (decide (x = c1))) (k2 : PySem.W.kitOne K (.ref (cl x)) (.ref (cl c2)) = some (decide (x = c2))) (h1 : x ≠ c1) (h2 : x ≠ c2) : PySem.W.kitAny K (.ref (cl x)) [.ref (cl c1), .ref (cl c2)] = some (decide (x ∈ [c1, c2])) := by
  rw [decide_eq_false h1] at k1
  rw [decide_eq_false h2] at k2
  rw [kit_two k1 k2, decide_eq_false (by simp [h1, h2])]
theorem xs_isT {a : Addr} {cls : Value} {d : Option Addr} {i : Nat} {x c1 c2 : Str} (hc : cls = .ref (cl x)) (xc : ExcC K (cl x)) (kt : PySem.W.kitAny K (.ref (cl x)) [.ref (cl c1), .ref (cl c2)] = some (decide (x ∈ [c1, c2]))) : EvS K (tCB (rIsPT K a cls d) (tCons (tVar i) (tCons (tTup (tCons (tC (.ref (cl c1))) (tCons (tC (.ref (cl c2))) tNil))) tNil))) (eIsT a d i x [c1, c2]) := fun S H0 G T ow ρ σ H e sm he Q q => by
  subst hc
  obtain ⟨fs, h1, rfl⟩ := Option.map_eq_some_iff.mp he
  obtain ⟨o, ho, rfl, hx⟩ := sm.slot i _ (rxn_some h1)
  refine ⟨_, ho, Evl.sz_of (by simp), fun t ht => ?_⟩
  obtain ⟨gs, hg⟩ := xd_at hx (hs_sub.trans (same_upd ht))
  exact ⟨cl x, t, _, [.ref (cl c1), .ref (cl c2)], _, gs, rfl, xc, hg, rfl, upd_same, .cons (.own _) (.cons (.own _) .nil), kt, q _ _ (same_upd ht) (.bl _)⟩
/-- int(b) -/
def fInt1 : List PyData → Option PyData
  | [.int i] => some (.int i)
  | [.bool k] => some (.int (if k then 1 else 0))
  | _ => none
theorem cs_int1 : CbS K (fun xs H Q => (∃ i, xs = [.int i] ∧ Q (.int i) H) ∨ ∃ k, xs = [.bl k] ∧ Q (.int (if k then 1 else 0)) H) fInt1 := fun T H xs ds e tr h he Q q => by
  unfold fInt1 at he
  split at he
  · cases he
    cases h with
    | cons h1 h2 =>
      cases h2
      exact .inl ⟨_, by rw [h1.int], q _ H (Same.refl _) (.int _)⟩
  · cases he
    cases h with
    | cons h1 h2 =>
      cases h2
      exact .inr ⟨_, by rw [h1.bl], q _ H (Same.refl _) (.int _)⟩
  · cases he
end
end Pb

set_option Elab.async false
set_option linter.all false
set_option maxRecDepth 100000
namespace Pb
open PySem PySem.Spec PyProof.Rows L2
/-! ### draws below more -/
def spNextW : Sp := fun vs H Q _ => ∃ (d b c : Addr) (n m : Int), vs = [.ref d, .int m] ∧ Dk d b c n H ∧ n < 2 ^ 60 ∧ 0 < m ∧ m < 2 ^ 60 ∧
  ∀ (v n' : Int) (H' : Hp), 0 ≤ v → v < m → Dr d b c (n + 1) H n' H' → Q (.int v) H'
theorem nextW_next : ∀ vs H Q E, spNext vs H Q E → spNextW vs H Q E := by
  rintro vs H Q E ⟨d, b, c, n, m, rfl, h1, h2, h3, h4, q⟩
  exact ⟨d, b, c, n, m, rfl, h1, h2, h3, by omega, q⟩
def WNextW : Addr → List PyData → Int → (PyData → Int → Prop) → Prop := fun _ ds n P => ∃ m : Int, ds = [.int m] ∧ n < 2 ^ 50 ∧ 0 < m ∧ m < 2 ^ 60 ∧ ∀ v n' : Int, 0 ≤ v → v < m → n' ≤ n + 1 → P (.int v) n'
theorem w_nextW {K : PySem.W.Frag} : ∀ vs H Q E, spW K WNextW vs H Q E → spNextW vs H Q E := by
  rintro vs H Q E ⟨S, d, b, c, n, ws, ds, P, rfl, ck, ls, da, ⟨m, rfl, h1, h2, h3, h4⟩, q⟩
  obtain ⟨v, rfl, hv⟩ := one_arg da
  cases hv
  exact ⟨d, b, c, n, m, rfl, ck.dk, by omega, h2, h3, fun v n' H' g1 g2 dr => q _ _ n' H' (h4 v n' g1 g2 dr.le) dr.sm dr.dk (.int _)⟩
/-! ### a def that draws -/
def rhoW (n : Nat) (d : Addr) (ds : List PyData) : Rho := (rho0 n (.none :: ds)).set 0 (.deck d)
def runW (n np : Nat) (Ψ : Addr → Rho → Int → (Res → Int → Prop) → Prop) (d : Addr) (ds : List PyData) (k : Int) (P : PyData → Int → Prop) : Prop := ds.length + 1 = np ∧ Ψ d (rhoW n d ds) k fun r k' => match r with
  | .rt e => P e k'
  | .nx _ => P .none k'
  | _ => False
section
variable {P : Program} {w : World} {K : PySem.W.Frag} {mg : Str → Option Value} {base : Heap}
theorem fn_draw {x qual : Str} {st : Stmt} {f : Addr} {fd : FuncData} {N ps : List Str} {k : Nat} {Ψ : Addr → Rho → Int → (Res → Int → Prop) → Prop} (F : Fun K x qual st f fd) (S : FnScope N ps (defScope st))
    (hbody : ∀ (cdv : Value) (A : Around) (outer : List Env) (s : Shared) (H : Hp) (E : XK), Room k (A.deeper (envOfC qual (defScope st) s.heap.objs.size f cdv)) →
      ∃ t, PSs (cxOf CX0 P w K mg base N qual (defScope st) f cdv A outer s H E).nox (defBody st) t ∧ ∀ d, StW K d t (Ψ d)) : FnOk P w K mg base CX0 (k + 1) f fd ps (spW K (runW N.length ps.length Ψ)) := by
  refine F.ok S (fun vs H Q E h => ?_) (fun cdv A outer s H vs Q E hr h => ?_)
  · obtain ⟨T, d, b, c, n, ws, ds, PP, rfl, ck, ls, da, he, q⟩ := h
    rw [List.length_cons, DaAll.len da]
    exact he.1
  · obtain ⟨T, d, b, c, n, ws, ds, PP, rfl, ck, ls, da, he, q⟩ := h
    obtain ⟨t, h1, h2⟩ := hbody cdv A outer s H E hr
    refine ⟨t, h1, ?_⟩
    have tr : Tr T H := ck.tr
    have s0 : SimO K T H (fun _ => True) T [] (rho0 N.length (.none :: ds)) (start N (.non :: ws)) H := sim_start tr (.cons .non da)
    have s1 : SimO K [] (fun _ => none) (fun _ => True) T [] (rhoW N.length d ds) (start N (.ref d :: ws)) H := (s0.base ls).put (i := 0) (o := some (.ref d)) (s := .deck d) rfl (fun _ z => by cases z)
    have sw : SimW K T H d b c n (fun _ => True) T [] (rhoW N.length d ds) (start N (.ref d :: ws)) H := ⟨s1, ck, Same.refl _, fun a ha => absurd ha List.not_mem_nil, fun _ h => h, tr⟩
    refine h2 d T H b c n _ _ _ H _ ⟨T, [], sw⟩ he.2 _ fun r n' hr' => ?_
    cases r with
    | rt e => exact fun v H' s dk hv => q v e n' H' hr' s dk hv
    | nx ρ' => exact fun σ' H' ⟨T', ow', sm'⟩ => q .non .none n' H' hr' sm'.old sm'.ck.dk .non
    | bk ρ' => exact hr'.elim
    | ct ρ' => exact hr'.elim
    | ex o => exact hr'.elim
end
end Pb
namespace Pb
open PySem PySem.Spec PyProof.Rows L2
/-- two classes, whichever -/
theorem kit_any {K : PySem.W.Frag} {cl : Str → Addr} {x c1 c2 : Str} (k1 : PySem.W.kitOne K (.ref (cl x)) (.ref (cl c1)) = some (decide (x = c1))) (k2 : PySem.W.kitOne K (.ref (cl x)) (.ref (cl c2)) = some (decide (x = c2))) : PySem.W.kitAny K (.ref (cl x)) [.ref (cl c1), .ref (cl c2)] = some (decide (x ∈ [c1, c2])) := by
  have e : decide (x ∈ [c1, c2]) = (decide (x = c1) || decide (x = c2)) := by simp
  rw [e]
  cases h1 : decide (x = c1) with
  | true =>
    rw [h1] at k1
    exact kitAny_cons k1 (fun z => by cases z) (fun _ => rfl)
  | false =>
    rw [h1] at k1
    refine kitAny_cons k1 (fun _ => ?_) (fun z => by cases z)
    cases h2 : decide (x = c2) with
    | true =>
      rw [h2] at k2
      exact kitAny_cons k2 (fun z => by cases z) (fun _ => rfl)
    | false =>
      rw [h2] at k2
      exact kitAny_cons k2 (fun _ => kitAny_nil) (fun z => by cases z)
end Pb

set_option Elab.async false
set_option linter.all false
set_option maxRecDepth 100000
namespace Pb
open PySem PySem.Spec PyProof.Rows L2
/-! ### sorted(set(t)) -/
def insU (x : Int) : List Int → List Int
  | [] => [x]
  | y :: ys => if x < y then x :: y :: ys else if x = y then y :: ys else y :: insU x ys
def sortU (ns : List Int) : List Int := ns.foldr insU []
theorem insU_mem {x k : Int} : ∀ {l : List Int}, k ∈ insU x l ↔ k = x ∨ k ∈ l
  | [] => by simp [insU]
  | y :: ys => by
    unfold insU
    split
    · simp
    · split
      · rename_i h
        subst h
        simp
      · simp only [List.mem_cons, insU_mem (l := ys)]
        constructor
        · rintro (h | h | h)
          · exact .inr (.inl h)
          · exact .inl h
          · exact .inr (.inr h)
        · rintro (h | h | h)
          · exact .inr (.inl h)
          · exact .inl h
          · exact .inr (.inr h)
theorem insU_lt {x : Int} : ∀ {l : List Int}, l.Pairwise (· < ·) → (insU x l).Pairwise (· < ·)
  | [], _ => by simp [insU]
  | y :: ys, h => by
    obtain ⟨h1, h2⟩ := List.pairwise_cons.mp h
    unfold insU
    split
    · rename_i hx
      refine List.pairwise_cons.mpr ⟨fun z hz => ?_, h⟩
      rcases List.mem_cons.mp hz with rfl | hz
      · exact hx
      · have := h1 z hz
        omega
    · split
      · exact h
      · refine List.pairwise_cons.mpr ⟨fun z hz => ?_, insU_lt h2⟩
        rcases insU_mem.mp hz with rfl | hz
        · omega
        · exact h1 z hz
theorem sortU_mem {k : Int} : ∀ {l : List Int}, k ∈ sortU l ↔ k ∈ l
  | [] => Iff.rfl
  | x :: l => by
    show k ∈ insU x (sortU l) ↔ _
    rw [insU_mem, sortU_mem (l := l), List.mem_cons]
theorem sortU_lt : ∀ {l : List Int}, (sortU l).Pairwise (· < ·)
  | [] => .nil
  | x :: l => insU_lt (sortU_lt (l := l))
def lSortU (φ : Rho → Option PyData) : Rho → Option (List PyData) := fun ρ => ((φ ρ).bind asT).bind fun es => (intsD es).bind fun ns => if ns.length < 64 then some ((sortU ns).map .int) else none
theorem xf_sortU {K : PySem.W.Frag} {w : World} {te : TE} {φ : Rho → Option PyData} (h : EvTr K te φ) : EvF K (tCB (rSortedSet w) (tCons (tCB (rSetI K w) (tCons te tNil)) tNil)) (lSortU φ) := fun S H0 G T ow ρ σ H es sm he Q q => by
  obtain ⟨ds, h1, h2⟩ := Option.bind_eq_some_iff.mp he
  obtain ⟨x, h3, h4⟩ := Option.bind_eq_some_iff.mp h1
  obtain rfl := asT_some h4
  obtain ⟨ns, h5, h6⟩ := Option.bind_eq_some_iff.mp h2
  split at h6
  · rename_i hl
    cases h6
    refine h S H0 G T ow ρ σ H _ sm h3 _ fun v H1 s1 hv => ?_
    obtain ⟨p, xs, rfl, hq, hd, _⟩ := hv.tup
    rw [ints_v hd h5] at hq
    refine ⟨p, ns, rfl, hq, by omega, fun t c hc ht => ⟨t, _, c, rfl, upd_same, by omega, fun ns' p' srt mem _ np' => ?_⟩⟩
    have e : ns' = sortU ns := strict_eq srt sortU_lt fun k => by rw [mem, sortU_mem, decide_eq_true_eq]
    subst e
    have s2 : Same H1 (upd H1 t (SetO w t (fun j => decide (j ∈ ns)) c)) := same_upd ht
    exact q p' _ _ ((s1.trans s2).trans (same_upd np')) ((s1.trans s2).free np') upd_same (DaAll.ints _)
  · cases h6
/-! against [], () -/
def fNe0 : PyData → PyData → Option PyData
  | .list es, .list [] => some (.bool (!es.isEmpty))
  | _, _ => none
def fEq0 : PyData → PyData → Option PyData
  | .list es, .list [] => some (.bool es.isEmpty)
  | _, _ => none
def fEq0T : PyData → PyData → Option PyData
  | .tuple es, .tuple [] => some (.bool es.isEmpty)
  | _, _ => none
section
variable {K : PySem.W.Frag}
theorem os_ne0 : OpS K (rNe0 K) fNe0 := fun T H x y d1 d2 e tr h1 h2 he Q q => by
  unfold fNe0 at he
  split at he
  · cases he
    obtain ⟨p, xs, rfl, hq, hd⟩ := h1.lst
    obtain ⟨p', ys, rfl, hq', hd'⟩ := h2.lst
    cases hd'
    refine ⟨p, p', xs, rfl, rfl, hq, hq', ?_⟩
    rw [← DaAll.emp hd]
    exact q _ H (Same.refl _) (.bl _)
  · cases he
theorem os_eq0 : OpS K (rEq0 K) fEq0 := fun T H x y d1 d2 e tr h1 h2 he Q q => by
  unfold fEq0 at he
  split at he
  · cases he
    obtain ⟨p, xs, rfl, hq, hd⟩ := h1.lst
    obtain ⟨p', ys, rfl, hq', hd'⟩ := h2.lst
    cases hd'
    refine ⟨p, p', xs, rfl, rfl, hq, hq', ?_⟩
    rw [← DaAll.emp hd]
    exact q _ H (Same.refl _) (.bl _)
  · cases he
theorem os_eq0T : OpS K (rEq0T K) fEq0T := fun T H x y d1 d2 e tr h1 h2 he Q q => by
  unfold fEq0T at he
  split at he
  · cases he
    obtain ⟨p, xs, rfl, hq, hd, _⟩ := h1.tup
    obtain ⟨p', ys, rfl, hq', hd', _⟩ := h2.tup
    cases hd'
    refine ⟨p, p', xs, rfl, rfl, hq, hq', ?_⟩
    rw [← DaAll.emp hd]
    exact q _ H (Same.refl _) (.bl _)
  · cases he
end
end Pb

set_option Elab.async false
set_option linter.all false
set_option maxRecDepth 100000
namespace Pb
open PySem PySem.Spec PyProof.Rows L2
/-! ### comprehensions and loops, pure -/
theorem lcR_of {τ : PyData → Rho → Option Rho} {β : Rho → Option Bool} {φ : Rho → Option PyData} {ρ : Rho} (b : PyData → Bool) (v : PyData → PyData) : ∀ {es : List PyData}, (∀ e ∈ es, ∃ ρ', τ e ρ = some ρ' ∧ β ρ' = some (b e) ∧ (b e = true → φ ρ' = some (v e))) → lcR τ β φ ρ es = some ((es.filter b).map v)
  | [], _ => rfl
  | e :: es, h => by
    obtain ⟨ρ', h1, h2, h3⟩ := h e List.mem_cons_self
    have ih := lcR_of b v (es := es) fun x hx => h x (List.mem_cons_of_mem _ hx)
    unfold lcR
    rw [h1]
    show ((β ρ').bind fun c => if c then (φ ρ').bind fun y => (lcR τ β φ ρ es).map (y :: ·) else lcR τ β φ ρ es) = _
    rw [h2]
    show (if b e = true then (φ ρ').bind fun y => (lcR τ β φ ρ es).map (y :: ·) else lcR τ β φ ρ es) = _
    cases hb : b e with
    | true =>
      rw [if_pos rfl, h3 hb, ih, List.filter_cons, if_pos hb]
      rfl
    | false =>
      rw [if_neg Bool.false_ne_true, ih, List.filter_cons, if_neg (by rw [hb]; exact Bool.false_ne_true)]
/-- the same over what is walked -/
theorem lLc_of {vs : List Nat} {it : Rho → Option (List PyData)} {τ : PyData → Rho → Option Rho} {β : Rho → Option Bool} {φ : Rho → Option PyData} {ρ : Rho} {es : List PyData} (b : PyData → Bool) (v : PyData → PyData) (hi : it ρ = some es) (hl : es.length ≤ 100000)
    (h : ∀ e ∈ es, ∃ ρ', τ e (wipeR ρ vs) = some ρ' ∧ β ρ' = some (b e) ∧ (b e = true → φ ρ' = some (v e))) : lLc vs it τ β φ ρ = some ((es.filter b).map v) := by
  unfold lLc
  rw [hi]
  show ((lim es).bind _) = _
  unfold lim
  rw [if_pos hl]
  exact lcR_of b v h
/-- a loop that runs through: what stands between two turns is a function of what is left -/
theorem forR_run {B : PyData → Rho → Option Res} (I : List PyData → Rho → Prop) (hs' : ∀ e es ρ, I (e :: es) ρ → ∃ ρ', B e ρ = some (.nx ρ') ∧ I es ρ') : ∀ es ρ, I es ρ → ∃ ρ', forR B es ρ = some (.nx ρ') ∧ I [] ρ'
  | [], ρ, h => ⟨ρ, rfl, h⟩
  | e :: es, ρ, h => by
    obtain ⟨ρ1, h1, h2⟩ := hs' e es ρ h
    obtain ⟨ρ2, h3, h4⟩ := forR_run I hs' es ρ1 h2
    refine ⟨ρ2, ?_, h4⟩
    unfold forR
    rw [h1]
    exact h3
/-! ### masks -/
/-- the bits of o -/
def maskN (o : List Int) : Nat := (o.map fun i => 2 ^ i.toNat).sum
theorem testBit_add_pow {a i j : Nat} (h : a.testBit i = false) : (a + 2 ^ i).testBit j = (a.testBit j || decide (i = j)) := by
  rw [Nat.add_comm]
  rcases Nat.lt_trichotomy i j with hl | rfl | hg
  · have hm : a % 2 ^ (i + 1) < 2 ^ i := by
      have e : a % 2 ^ (i + 1) = a % 2 ^ i + 2 ^ i * (a / 2 ^ i % 2) := Nat.mod_pow_succ
      have z : a / 2 ^ i % 2 = 0 := by
        have h' := h
        rw [Nat.testBit_eq_decide_div_mod_eq] at h'
        have := of_decide_eq_false h'
        omega
      rw [e, z]
      have := Nat.mod_lt a (Nat.two_pow_pos i)
      omega
    have d : (2 ^ i + a) / 2 ^ (i + 1) = a / 2 ^ (i + 1) := by
      have p2 : 2 ^ (i + 1) = 2 ^ i + 2 ^ i := by rw [Nat.pow_succ]; omega
      have da := Nat.div_add_mod a (2 ^ (i + 1))
      rw [Nat.div_eq_iff (Nat.two_pow_pos (i + 1))]
      rw [Nat.mul_comm] at da
      omega
    obtain ⟨k, rfl⟩ := Nat.exists_eq_add_of_lt hl
    have t : ∀ b : Nat, b.testBit (i + k + 1) = (b / 2 ^ (i + 1)).testBit k := by
      intro b
      rw [Nat.testBit_div_two_pow]
      congr 1
      omega
    rw [t, t, d]
    have : decide (i = i + k + 1) = false := decide_eq_false (by omega)
    rw [this, Bool.or_false]
  · rw [Nat.testBit_two_pow_add_eq, h]
    simp
  · rw [Nat.testBit_two_pow_add_gt hg]
    have : decide (i = j) = false := decide_eq_false (by omega)
    rw [this, Bool.or_false]
theorem testBit_maskN : ∀ {o : List Int}, o.Nodup → (∀ i ∈ o, 0 ≤ i) → ∀ j : Nat, (maskN o).testBit j = decide ((j : Int) ∈ o)
  | [], _, _, j => by
    show (0 : Nat).testBit j = _
    rw [Nat.zero_testBit]
    exact (decide_eq_false List.not_mem_nil).symm
  | i :: o, hn, hp, j => by
    have hn' := List.nodup_cons.1 hn
    have ih := testBit_maskN hn'.2 (fun x hx => hp x (List.mem_cons_of_mem _ hx))
    have hi := hp i List.mem_cons_self
    have e : maskN (i :: o) = maskN o + 2 ^ i.toNat := by
      show 2 ^ i.toNat + (o.map fun i => 2 ^ i.toNat).sum = _
      rw [Nat.add_comm]
      rfl
    rw [e, testBit_add_pow (by rw [ih, Int.toNat_of_nonneg hi]; exact decide_eq_false hn'.1), ih]
    by_cases hj : i = (j : Int)
    · subst hj
      simp
    · have h1 : decide (i.toNat = j) = false := decide_eq_false (by omega)
      have h2 : ¬ (j : Int) = i := fun h => hj h.symm
      rw [h1, Bool.or_false]
      simp [h2]
end Pb

set_option Elab.async false
set_option linter.all false
set_option maxRecDepth 100000
namespace Pb
open PySem PySem.Spec PyProof.Rows L2
/-! ### _law_same of twice the same data -/
def rSameD (δ : Nat) : List PyData → PyData → Prop := fun es z => ∃ e, es = [e, e] ∧ e.depth < δ ∧ okD e = true ∧ e.hasDict = false ∧ z = .bool true
theorem w_same {K : PySem.W.Frag} {δ : Nat} : ∀ vs H Q E, spD K (rSameD δ) vs H Q E → spV (rSame K δ) vs H Q E := by
  rintro vs H Q E ⟨S, ds, z, tr, da, ⟨e, rfl, hd, ok, nd, rfl⟩, q⟩
  obtain ⟨x, y, rfl, hx, hy⟩ := da_two da
  exact ⟨.bl true, ⟨x, y, e, rfl, hx.mono hs_sub, hy.mono hs_sub, hd, ok, nd, rfl⟩, fun H3 e3 => q _ H3 e3 (.bl true)⟩
end Pb

set_option Elab.async false
set_option linter.all false
set_option maxRecDepth 100000
namespace Pb
open PySem PySem.Spec PyProof.Rows L2
/-! ### evaluation, a word each -/
section
variable {β γ : Rho → Option Bool} {φ ψ' χ' : Rho → Option PyData} {ψ χ : Rho → Option Res} {ρ ρ' : Rho} {b c : Bool} {e x y : PyData} {r : Res}
theorem sIf_t (h : β ρ = some true) : sIf β ψ χ ρ = ψ ρ := by
  unfold sIf
  rw [h]
  rfl
theorem sIf_f (h : β ρ = some false) : sIf β ψ χ ρ = χ ρ := by
  unfold sIf
  rw [h]
  rfl
theorem sSeq_nx (h : ψ ρ = some (.nx ρ')) : sSeq ψ χ ρ = χ ρ' := by
  unfold sSeq
  rw [h]
  rfl
theorem sSeq_rt (h : ψ ρ = some (.rt e)) : sSeq ψ χ ρ = some (.rt e) := by
  unfold sSeq
  rw [h]
  rfl
theorem sRet_of (h : φ ρ = some e) : sRet φ ρ = some (.rt e) := by
  unfold sRet
  rw [h]
  rfl
theorem sSet_of {i : Nat} (h : φ ρ = some e) : sSet (gN i) φ ρ = some (.nx (ρ.set i (.val e))) := by
  unfold sSet
  rw [h]
  rfl
theorem bOr_t (h : β ρ = some true) : bOr β γ ρ = some true := by
  unfold bOr
  rw [h]
  rfl
theorem bOr_f (h : β ρ = some false) : bOr β γ ρ = γ ρ := by
  unfold bOr
  rw [h]
  rfl
theorem bAnd_of (h : β ρ = some b) (k : γ ρ = some c) : bAnd β γ ρ = some (b && c) := by
  unfold bAnd
  rw [h]
  cases b
  · rfl
  · exact k
theorem bNot_of (h : β ρ = some b) : bNot β ρ = some (!b) := by
  unfold bNot
  rw [h]
  rfl
theorem bTest_of (h : φ ρ = some (.bool b)) : bTest φ ρ = some b := by
  unfold bTest
  rw [h]
  rfl
theorem eOp_of {f : PyData → PyData → Option PyData} {o : Option PyData} (h : φ ρ = some x) (k : ψ' ρ = some y) (z : f x y = o) : eOp f φ ψ' ρ = o := by
  unfold eOp
  rw [h, k]
  exact z
theorem eCb_of {f : List PyData → Option PyData} {φs : Rho → Option (List PyData)} {xs : List PyData} {o : Option PyData} (h : φs ρ = some xs) (z : f xs = o) : eCb f φs ρ = o := by
  unfold eCb
  rw [h]
  exact z
theorem aCons_of {φs : Rho → Option (List PyData)} {xs : List PyData} (h : φ ρ = some x) (h' : φs ρ = some xs) : aCons φ φs ρ = some (x :: xs) := by
  unfold aCons
  rw [h, h']
  rfl
theorem eL_of {φs : Rho → Option (List PyData)} {xs : List PyData} (h : φs ρ = some xs) : eL φs ρ = some (.list xs) := by
  unfold eL
  rw [h]
  rfl
theorem runF_of {n np : Nat} {ds : List PyData} (hl : ds.length = np) (h : ψ (rho0 n ds) = some (.rt e)) : runF n np ψ ds = some e := by
  unfold runF
  rw [if_pos hl, h]
theorem runX_exc {n np : Nat} {ds : List PyData} {ξ : Rho → Option Rx} {x : Str} (hl : ds.length = np) (h : ξ (rho0 n ds) = some (.ex (.exc x) ρ)) : runX n np ξ ds = some (.exc x) := by
  unfold runX
  rw [if_pos hl, h]
theorem runX_excF {n np : Nat} {ds : List PyData} {ξ : Rho → Option Rx} {x f : Str} (hl : ds.length = np) (h : ξ (rho0 n ds) = some (.ex (.excF x f e) ρ)) : runX n np ξ ds = some (.excF x f e) := by
  unfold runX
  rw [if_pos hl, h]
theorem runX_ret {n np : Nat} {ds : List PyData} {ξ : Rho → Option Rx} (hl : ds.length = np) (h : ξ (rho0 n ds) = some (.ok (.rt e))) : runX n np ξ ds = some (.ret e) := by
  unfold runX
  rw [if_pos hl, h]
theorem xSeq_ex {ξ ζ : Rho → Option Rx} {o : Out} (h : ξ ρ = some (.ex o ρ')) : xSeq ξ ζ ρ = some (.ex o ρ') := by
  unfold xSeq
  rw [h]
  rfl
theorem xSeq_nx {ξ ζ : Rho → Option Rx} (h : ξ ρ = some (.ok (.nx ρ'))) : xSeq ξ ζ ρ = ζ ρ' := by
  unfold xSeq
  rw [h]
  rfl
theorem xIf_t {ξ ζ : Rho → Option Rx} (h : β ρ = some true) : xIf β ξ ζ ρ = ξ ρ := by
  unfold xIf
  rw [h]
  rfl
theorem xIf_f {ξ ζ : Rho → Option Rx} (h : β ρ = some false) : xIf β ξ ζ ρ = ζ ρ := by
  unfold xIf
  rw [h]
  rfl
theorem xP_of (h : ψ ρ = some r) : xP ψ ρ = some (.ok r) := by
  unfold xP
  rw [h]
  rfl
theorem fNe0_of {es : List PyData} : fNe0 (.list es) (.list []) = some (.bool (!es.isEmpty)) := rfl
theorem intsD_ints : ∀ ns : List Int, intsD (ns.map PyData.int) = some ns
  | [] => rfl
  | n :: ns => by
    show (intsD (ns.map PyData.int)).map (n :: ·) = _
    rw [intsD_ints ns]
    rfl
theorem hasDict_ints : ∀ ns : List Int, PyData.hasDictAll (ns.map PyData.int) = false
  | [] => rfl
  | n :: ns => by
    simp only [List.map_cons, PyData.hasDictAll, PyData.hasDict, Bool.false_or, hasDict_ints ns]
theorem fNeD_ints (ns ms : List Int) : fNeD (.list (ns.map PyData.int)) (.list (ms.map PyData.int)) = some (.bool (!decide (ns = ms))) := by
  have o : ∀ ks : List Int, okE (.list (ks.map PyData.int)) = true := fun ks => by
    unfold okE
    rw [shaped_ints, PyData.hasDict, hasDict_ints]
    rfl
  unfold fNeD
  rw [o, o]
  simp only [PyData.eqv, eqv_ints]
  rfl
end
end Pb

set_option Elab.async false
set_option linter.all false
set_option maxRecDepth 100000
namespace Pb
open PySem PySem.Spec PyProof.Rows L2
/-! ### masks: the words -/
theorem band_nat (a b : Nat) : Builtin.bitAnd (a : Int) (b : Int) = ((a &&& b : Nat) : Int) := by
  unfold Builtin.bitAnd
  rw [decide_eq_true (Int.natCast_nonneg a), decide_eq_true (Int.natCast_nonneg b)]
  rfl
theorem tru_bit (a i : Nat) : truD (.int (Builtin.bitAnd ((a : Int) / 2 ^ i) 1)) = some (a.testBit i) := by
  have e : (a : Int) / 2 ^ i = ((a / 2 ^ i : Nat) : Int) := by
    rw [Int.natCast_ediv]
    simp
  have e1 : Builtin.bitAnd ((a : Int) / 2 ^ i) 1 = ((a / 2 ^ i % 2 : Nat) : Int) := by
    rw [e]
    have := band_nat (a / 2 ^ i) 1
    rw [Nat.and_one_is_mod] at this
    exact this
  show some (Builtin.bitAnd ((a : Int) / 2 ^ i) 1 != 0) = _
  rw [e1, Nat.testBit_eq_decide_div_mod_eq]
  congr 1
  have := Nat.mod_lt (a / 2 ^ i) (by decide : 0 < 2)
  rcases (by omega : a / 2 ^ i % 2 = 0 ∨ a / 2 ^ i % 2 = 1) with h | h <;> rw [h] <;> rfl
theorem mask_and {o ns : List Int} (h1 : o.Nodup) (h2 : ∀ i ∈ o, 0 ≤ i) (h3 : ns.Nodup) (h4 : ∀ i ∈ ns, 0 ≤ i) : maskN o &&& maskN ns = maskN (o.filter fun i => decide (i ∈ ns)) := by
  apply Nat.eq_of_testBit_eq
  intro j
  rw [Nat.testBit_and, testBit_maskN h1 h2, testBit_maskN h3 h4, testBit_maskN (h1.sublist List.filter_sublist) fun i hi => h2 i (List.mem_filter.mp hi).1]
  rw [Bool.eq_iff_iff]
  simp [List.mem_filter]
/-- a is within b -/
def subN (a b : Nat) : Prop := a &&& b = a
theorem subN_iff {a b : Nat} : subN a b ↔ ∀ j, a.testBit j = true → b.testBit j = true := by
  constructor
  · intro h j hj
    have : (a &&& b).testBit j = true := by rw [h]; exact hj
    rw [Nat.testBit_and, Bool.and_eq_true] at this
    exact this.2
  · intro h
    apply Nat.eq_of_testBit_eq
    intro j
    rw [Nat.testBit_and]
    cases hj : a.testBit j with
    | false => rfl
    | true => rw [h j hj]; rfl
theorem subN_trans {a b c : Nat} (h : subN a b) (k : subN b c) : subN a c := subN_iff.mpr fun j hj => subN_iff.mp k j (subN_iff.mp h j hj)
theorem subN_le {a b : Nat} (h : subN a b) : a ≤ b := by
  have : a &&& b ≤ b := Nat.and_le_right
  unfold subN at h
  omega
theorem subN_refl (a : Nat) : subN a a := subN_iff.mpr fun _ h => h
theorem subN_mask {a b : List Int} (h1 : a.Nodup) (h2 : ∀ i ∈ a, 0 ≤ i) (h3 : b.Nodup) (h4 : ∀ i ∈ b, 0 ≤ i) : subN (maskN a) (maskN b) ↔ ∀ i ∈ a, i ∈ b := by
  rw [subN_iff]
  constructor
  · intro h i hi
    have h' := h i.toNat
    rw [testBit_maskN h1 h2, testBit_maskN h3 h4, Int.toNat_of_nonneg (h2 i hi), decide_eq_true_iff, decide_eq_true_iff] at h'
    exact h' hi
  · intro h j
    rw [testBit_maskN h1 h2, testBit_maskN h3 h4, decide_eq_true_iff, decide_eq_true_iff]
    exact h _
/-- one after the other -/
def chain : List Int → Bool
  | x :: y :: l => decide (Builtin.bitAnd x y = x) && chain (y :: l)
  | _ => true
theorem chain_iff : ∀ {l : List Nat}, l.Pairwise (· ≤ ·) → (chain (l.map fun (a : Nat) => (a : Int)) = true ↔ ∀ a ∈ l, ∀ b ∈ l, subN a b ∨ subN b a)
  | [], _ => ⟨fun _ a ha => absurd ha List.not_mem_nil, fun _ => rfl⟩
  | [x], _ => ⟨fun _ a ha b hb => by
      rw [List.mem_singleton.mp ha, List.mem_singleton.mp hb]
      exact .inl (subN_refl _), fun _ => rfl⟩
  | x :: y :: l, h => by
    have hp := List.pairwise_cons.mp h
    have ih := chain_iff (l := y :: l) hp.2
    show (decide (Builtin.bitAnd (x : Int) (y : Int) = (x : Int)) && chain ((y :: l).map fun (a : Nat) => (a : Int))) = true ↔ _
    rw [Bool.and_eq_true, decide_eq_true_iff, ih, band_nat]
    have e : (((x &&& y : Nat) : Int) = (x : Int)) ↔ subN x y := by
      unfold subN
      omega
    rw [e]
    constructor
    · rintro ⟨h1, h2⟩
      have up : ∀ b ∈ y :: l, subN x b := fun b hb => by
        rcases h2 y List.mem_cons_self b hb with k | k
        · exact subN_trans h1 k
        · have l1 := subN_le k
          have l2 : y ≤ b := by
            rcases List.mem_cons.mp hb with rfl | hb'
            · exact Nat.le_refl _
            · exact (List.pairwise_cons.mp hp.2).1 b hb'
          have : b = y := by omega
          rw [this]
          exact h1
      intro a ha b hb
      rcases List.mem_cons.mp ha with rfl | ha'
      · rcases List.mem_cons.mp hb with rfl | hb'
        · exact .inl (subN_refl _)
        · exact .inl (up b hb')
      · rcases List.mem_cons.mp hb with rfl | hb'
        · exact .inr (up a ha')
        · exact h2 a ha' b hb'
    · intro h1
      refine ⟨?_, fun a ha b hb => h1 a (List.mem_cons_of_mem _ ha) b (List.mem_cons_of_mem _ hb)⟩
      rcases h1 x List.mem_cons_self y (List.mem_cons_of_mem _ List.mem_cons_self) with k | k
      · exact k
      · have l1 := subN_le k
        have l2 := hp.1 y List.mem_cons_self
        have : x = y := by omega
        rw [this]
        exact subN_refl _
theorem chain_zip : ∀ l : List Int, chain l = ((l.zip (l.drop 1)).map fun p => decide (Builtin.bitAnd p.1 p.2 = p.1)).all id
  | [] => rfl
  | [_] => rfl
  | x :: y :: l => by
    show (decide (Builtin.bitAnd x y = x) && chain (y :: l)) = _
    rw [chain_zip (y :: l)]
    rfl
theorem boolsF {α : Type} (f : α → Bool) : ∀ l : List α, bools (l.map fun x => .bool (f x)) = some (l.map f)
  | [] => rfl
  | x :: l => by
    show (bools (l.map fun x => .bool (f x))).map (f x :: ·) = _
    rw [boolsF f l]
    rfl
end Pb

set_option Elab.async false
set_option linter.all false
set_option maxRecDepth 100000
namespace Pb
open PySem PySem.Spec PyProof.Rows L2
/-! ### further rules: xs[i] = e, * of lists and tuples, max and min of two, any, chains of three, len(set(..)), remove, extend -/
section
variable {K : PySem.W.Frag} {cl : Str → Addr} {E : XK}
theorem DaAll.setAt {H : Hp} {v : V} {e : PyData} (hv : Da K H v e) : ∀ {vs : List V} {es : List PyData} (j : Nat), DaAll K H vs es → DaAll K H (vs.set j v) (es.set j e)
  | _, _, _, .nil => .nil
  | _, _, 0, .cons _ h => .cons hv h
  | _, _, j + 1, .cons h1 h => .cons h1 (DaAll.setAt hv j h)
def sPut (i : Nat) (φi φ : Rho → Option PyData) : Rho → Option Res := fun ρ => (φ ρ).bind fun e => (ro ρ i).bind fun es => ((φi ρ).bind asI).bind fun k => (ixN es.length k).map fun j => .nx (ρ.set i (.own (es.set j e)))
theorem ss_put {te ti : TE} {i : Nat} {φ φi : Rho → Option PyData} (h : EvS K te φ) (hi : EvTr K ti φi) : StP K cl E (tAsg te (gSub (tVar i) ti rSetL)) (sPut i φi φ) := fun S H0 G ρ σ H r ⟨T, ow, sm⟩ he D q => by
  obtain ⟨e, h1, h2⟩ := Option.bind_eq_some_iff.mp he
  obtain ⟨es, h3, h4⟩ := Option.bind_eq_some_iff.mp h2
  obtain ⟨k, h5, h6⟩ := Option.bind_eq_some_iff.mp h4
  obtain ⟨x, h7, h8⟩ := Option.bind_eq_some_iff.mp h5
  obtain rfl := asI_some h8
  obtain ⟨j, h9, rfl⟩ := Option.map_eq_some_iff.mp h6
  obtain ⟨o, ho, fo, vs, rfl, _, k2, k3⟩ := sm.slot i _ (ro_some h3)
  refine h S H0 G T ow ρ σ H e sm h1 _ fun v H1 s1 hv => ⟨.ref fo, ho, hi S H0 G T ow ρ σ H1 _ (sm.mono s1) h7 _ fun u H2 s2 hu => ⟨fo, vs, k, j, rfl, hu.int, (s1.trans s2) _ _ k2, ?_, ?_⟩⟩
  · rw [DaAll.len k3]
    exact h9
  · exact q σ _ ((sm.mono (s1.trans s2)).chg (ro_some h3) ho (DaAll.setAt (hv.mono (hs_mono s2)) j (k3.mono (hs_mono (s1.trans s2))))).sim
/-- xs * k -/
theorem DaAll.repF {H : Hp} {vs : List V} {es : List PyData} (h : DaAll K H vs es) : ∀ n : Nat, DaAll K H (List.replicate n vs).flatten (List.replicate n es).flatten
  | 0 => .nil
  | n + 1 => by
    rw [List.replicate_succ, List.replicate_succ, List.flatten_cons, List.flatten_cons]
    exact h.append (DaAll.repF h n)
def repOk (n : Nat) (k : Int) : Bool := decide (0 ≤ k ∧ k ≤ 1000 ∧ n ≤ 100)
def lRep (φ : Rho → Option (List PyData)) (ψ : Rho → Option PyData) : Rho → Option (List PyData) := fun ρ => (φ ρ).bind fun es => ((ψ ρ).bind asI).bind fun k => if repOk es.length k then some (List.replicate k.toNat es).flatten else none
theorem xf_rep {ta tb : TE} {φ : Rho → Option (List PyData)} {ψ : Rho → Option PyData} (ha : EvLi K ta φ) (hb : EvTr K tb ψ) : EvF K (tOp rRep ta tb) (lRep φ ψ) := fun S H0 G T ow ρ σ H ys sm he Q q => by
  obtain ⟨es, h1, h2⟩ := Option.bind_eq_some_iff.mp he
  obtain ⟨k, h3, h4⟩ := Option.bind_eq_some_iff.mp h2
  obtain ⟨x, h5, h6⟩ := Option.bind_eq_some_iff.mp h3
  obtain rfl := asI_some h6
  split at h4
  · rename_i hz
    have hz' := of_decide_eq_true hz
    cases h4
    refine ha S H0 G T ow ρ σ H es sm h1 _ fun a vs H1 s1 ha1 hv => hb S H0 G T ow ρ σ H1 _ (sm.mono s1) h5 _ fun u H2 s2 hu => ⟨a, k, vs, rfl, hu.int, s2 _ _ ha1, by omega, by omega, Evl.sz_of ?_, fun p hp => ?_⟩
    · rw [DaAll.len hv]
      have : es.length * k.toNat ≤ 100 * 1000 := Nat.mul_le_mul (by omega) (by omega)
      omega
    · exact q p _ _ ((s1.trans s2).trans (same_upd hp)) ((s1.trans s2).free hp) upd_same (((hv.mono (hs_mono s2)).repF k.toNat).mono (hs_cons_new hp))
  · cases h4
end
section
variable {X : Cx}
theorem tuple_mul1 (l : Addr) (items : Array Value) (n : Nat) (dd : Option Addr) (sl : Array (Option Value)) (u : Tok) :
    Meets (Builtin.«tuple.__mul__» ⟨[.ref l, .int 1 u], []⟩) (fun _ R s => s.heap.get? l = some { cls := .type "tuple", dict := dd, data := .seq items n, slots := sl } ∧ R (.ok (.ret (Value.ref l))) s) :=
  .of_wp fun prog w A R s h => by
    obtain ⟨hp, g, d, tk, os⟩ := s
    obtain ⟨hl, h⟩ := h
    have f1 := AutoSeq1.idx_int
    have d1 : (items.isEmpty || (1 : Int) == 1) = true := by simp
    wp_walk using wpAny_loadPart' hl
    repeat (first
      | (refine wpAny_ite_true (decide_eq_true d1) ?_; wp_walk using wpAny_loadPart' hl)
      | (refine wpAny_ite_false (decide_eq_false (by decide)) ?_; wp_walk using wpAny_loadPart' hl))
    exact ⟨_, rfl, h⟩
end
end Pb
namespace Pb
open PySem PySem.Spec PyProof.Rows L2
section
variable {X : Cx}
/-- t * k, whatever k of 1 and more -/
def rRepA (K : PySem.W.Frag) : R2 := fun x y H Q => ∃ l k xs, x = .ref l ∧ y = .int k ∧ SqT K H l xs ∧ xs ≠ [] ∧ 1 ≤ k ∧ k ≤ 1000 ∧ xs.length ≤ 1000 ∧ (k = 1 → Q (.ref l) H) ∧ (k ≠ 1 → ∀ p, H p = none → Q (.ref p) (upd H p (.tup (List.replicate k.toNat xs).flatten)))
theorem op_repA : OpR X (binaryOp .Mult) (rRepA X.K) := by
  intro pins s σ H x y v u QQ I rx ry hh
  obtain ⟨l, k, xs, ex, ey, hT, hne, h1, h2, hz, q1, q2⟩ := hh
  by_cases hk : k = 1
  · subst ex ey hk
    cases rx
    obtain ⟨t, rfl⟩ := ry
    obtain ⟨its, r, ⟨⟨cls, dd, data, sl⟩, ho, hc, n, hd⟩, hs'⟩ := I.tuple hT
    simp only at hc hd
    subst hc hd
    refine wpAny_binaryOp_repeat_ref (T := "tuple") (U := "int") (by decide) ⟨_, ho, rfl⟩ (fun s' => typeIs_int s' 1 t) noFill_tuple_mul F.fills_int_mul F.slot_int_rmul repeat_tuple F.slot_int_index.lookup
      (call_meets F.slot_int_rmul (typeIs_int s 1 t) F.entry_int_rmul (F.args_int_rmul_2 _ _) (int_rmul_tuple 1 t l its.toArray n dd sl)
        ⟨ho, rfl, ⟨_, ho, rfl⟩, call_meets F.slot_tuple_mul ⟨_, ho, rfl⟩ F.entry_tuple_mul (F.args_tuple_mul_2 _ _) (tuple_mul1 l its.toArray n dd sl t) ⟨ho, ?_⟩⟩)
    exact ⟨.ref l, H, I, rfl, q1 rfl⟩
  · exact op_repT pins s σ H x y v u QQ I rx ry ⟨l, k, xs, ex, ey, hT, hne, by omega, h2, hz, q2 hk⟩
end
section
variable {K : PySem.W.Frag}
def fRepT : PyData → PyData → Option PyData
  | .tuple es, .int k => if decide (es ≠ [] ∧ 1 ≤ k ∧ k ≤ 1000 ∧ es.length ≤ 1000) then some (.tuple (List.replicate k.toNat es).flatten) else none
  | _, _ => none
theorem os_repT : OpS K (rRepA K) fRepT := fun T H x y d1 d2 e tr h1 h2 he Q q => by
  unfold fRepT at he
  split at he
  · rename_i es k
    split at he
    · rename_i hz
      obtain ⟨z1, z2, z3, z4⟩ := of_decide_eq_true hz
      cases he
      obtain ⟨p, xs, rfl, hq, hd, hD⟩ := h1.tup
      have l1 := DaAll.len hd
      refine ⟨p, k, xs, rfl, h2.int, hq, fun z => ?_, z2, z3, by omega, fun hk => ?_, fun hk t ht => ?_⟩
      · subst z
        cases es with
        | nil => exact z1 rfl
        | cons _ _ => simp at l1
      · subst hk
        have e1 : (List.replicate (1 : Int).toNat es).flatten = es := by
          show (List.replicate 1 es).flatten = es
          simp
        rw [e1] at q
        exact q _ H (Same.refl _) hD
      · exact q _ _ (same_upd ht) (.tup (SqT.of (hs_at (tr.out ht) upd_same)) ((hd.repF k.toNat).mono (hs_mono (same_upd ht))))
    · cases he
  · cases he
def fMin2 : List PyData → Option PyData
  | [.int i, .int j] => some (.int (if j < i then j else i))
  | _ => none
def fMax2 : List PyData → Option PyData
  | [.int i, .int j] => some (.int (if j > i then j else i))
  | _ => none
theorem two_ints {T : List Addr} {H : Hp} {xs : List V} {i j : Int} (h : DvAll K T H xs [.int i, .int j]) : xs = [.int i, .int j] := by
  cases h with
  | cons h1 h =>
    cases h with
    | cons h2 h =>
      cases h
      rw [h1.int, h2.int]
theorem cs_min2 : CbS K (fun xs H Q => ∃ i j, xs = [.int i, .int j] ∧ Q (.int (if j < i then j else i)) H) fMin2 := fun T H xs ds e tr h he Q q => by
  unfold fMin2 at he
  split at he
  · cases he
    exact ⟨_, _, two_ints h, q _ H (Same.refl _) (.int _)⟩
  · cases he
theorem cs_max2 : CbS K (fun xs H Q => ∃ i j, xs = [.int i, .int j] ∧ Q (.int (if j > i then j else i)) H) fMax2 := fun T H xs ds e tr h he Q q => by
  unfold fMax2 at he
  split at he
  · cases he
    exact ⟨_, _, two_ints h, q _ H (Same.refl _) (.int _)⟩
  · cases he
def fAny : List PyData → Option PyData
  | [.list es] => (bools es).map fun bs => .bool (bs.any id)
  | _ => none
theorem cs_any : CbS K (rAny K) fAny := fun T H xs ds e tr h he Q q => by
  unfold fAny at he
  split at he
  · obtain ⟨bs, k1, rfl⟩ := Option.map_eq_some_iff.mp he
    cases h with
    | cons h1 h2 =>
      cases h2
      obtain ⟨p, ys, rfl, hq, hd⟩ := h1.lst
      rw [bools_v hd k1] at hq
      exact ⟨p, bs, rfl, hq, q _ H (Same.refl _) (.bl _)⟩
  · cases he
end
/-! a < b < c < d -/
section
variable {X : Cx}
def tChain3 (r r' r'' : R2) (ta tb tc td : TE) : TE := fun σ H Q => ta σ H fun x H1 => tb σ H1 fun y H2 => r x y H2 fun z H3 => ∃ k, z = .bl k ∧
  (if k = true then tc σ H3 fun y' H4 => r' y y' H4 fun z' H5 => ∃ k', z' = .bl k' ∧ (if k' = true then td σ H5 fun y'' H6 => r'' y' y'' H6 Q else Q (.bl false) H5) else Q (.bl false) H3)
theorem pe_chain3 {op op' op'' : CmpOp} {r r' r'' : R2} {a b c d : Expr} {ta tb tc td : TE} {pos : Pos} (ho : OpR X (compareOp op) r) (ho' : OpR X (compareOp op') r') (ho'' : OpR X (compareOp op'') r'') (ha : PE X a ta) (hb : PE X b tb) (hc : PE X c tc) (hd : PE X d td)
    (hm : lastMarks [op, op', op''] [b, c, d] = false := by with_unfolding_all rfl) : PE X (.Compare a [op, op', op''] [b, c, d] pos) (tChain3 r r' r'' ta tb tc td) := by
  refine ⟨fun pins s σ H Q I h => ?_⟩
  refine Compare_chain (thn (ha.run pins s σ H _ I h) fun v s1 ⟨x, H1, I1, r1, q1⟩ => chain_link (thn (hb.run pins s1 σ H1 _ I1 q1) fun u s2 ⟨y, H2, I2, r2, q2⟩ =>
    thn (ho pins s2 σ H2 x y v u _ I2 r1 r2 q2) fun _ s3 ⟨z, H3, I3, r3, k, e, q3⟩ => ?_)) hm
  subst e
  cases r3
  refine wpAny_truthy_bool ?_
  cases k with
  | false => exact ite_ff ⟨.bl false, H3, I3, rfl, q3⟩
  | true =>
    refine ite_tt (chain_link (thn (hc.run pins s3 σ H3 _ I3 q3) fun w' s4 ⟨y', H4, I4, r4, q4⟩ => thn (ho' pins s4 σ H4 y y' u w' _ I4 r2 r4 q4) fun _ s5 ⟨z', H5, I5, r5, k', e', q5⟩ => ?_))
    subst e'
    cases r5
    refine wpAny_truthy_bool ?_
    cases k' with
    | false => exact ite_ff ⟨.bl false, H5, I5, rfl, q5⟩
    | true => exact ite_tt (chain_last (thn (hd.run pins s5 σ H5 _ I5 q5) fun w'' s6 ⟨y'', H6, I6, r6, q6⟩ => ho'' pins s6 σ H6 y' y'' w' w'' Q I6 r4 r6 q6))
end
section
variable {K : PySem.W.Frag}
def eChain3 (f g h : PyData → PyData → Option PyData) (φ ψ χ ω : Rho → Option PyData) : Rho → Option PyData := fun ρ => (φ ρ).bind fun x => (ψ ρ).bind fun y => ((f x y).bind asB).bind fun c => if c then (χ ρ).bind fun z => ((g y z).bind asB).bind fun c' => if c' then (ω ρ).bind fun w => h z w else some (.bool false) else some (.bool false)
theorem xs_chain3 {r r' r'' : R2} {f g h : PyData → PyData → Option PyData} {ta tb tc td : TE} {φ ψ χ ω : Rho → Option PyData} (hr : OpS K r f) (hr' : OpS K r' g) (hr'' : OpS K r'' h) (ha : EvTr K ta φ) (hb : EvTr K tb ψ) (hc : EvTr K tc χ) (hd : EvTr K td ω) :
    EvS K (tChain3 r r' r'' ta tb tc td) (eChain3 f g h φ ψ χ ω) := fun S H0 G T ow ρ σ H e sm he Q q => by
  obtain ⟨x, h1, h2⟩ := Option.bind_eq_some_iff.mp he
  obtain ⟨y, h3, h4⟩ := Option.bind_eq_some_iff.mp h2
  obtain ⟨c, h5, h6⟩ := Option.bind_eq_some_iff.mp h4
  obtain ⟨w, h7, h8⟩ := Option.bind_eq_some_iff.mp h5
  obtain rfl := asB_some h8
  refine ha S H0 G T ow ρ σ H x sm h1 _ fun v H1 s1 hv => hb S H0 G T ow ρ σ H1 y (sm.mono s1) h3 _ fun u H2 s2 hu => hr T H2 v u x y _ (sm.tr.same (s1.trans s2)) (hv.mono s2) hu h7 _ fun z H3 s3 hz => ⟨c, ?_, ?_⟩
  · cases hz
    rfl
  · have s13 := (s1.trans s2).trans s3
    cases c with
    | true =>
      obtain ⟨d, h9, h10⟩ := Option.bind_eq_some_iff.mp (show (χ ρ).bind _ = some e by simpa using h6)
      obtain ⟨c', h11, h12⟩ := Option.bind_eq_some_iff.mp h10
      obtain ⟨w', h13, h14⟩ := Option.bind_eq_some_iff.mp h11
      obtain rfl := asB_some h14
      refine hc S H0 G T ow ρ σ H3 d (sm.mono s13) h9 _ fun k H4 s4 hk => hr' T H4 u k y d _ (sm.tr.same (s13.trans s4)) (hu.mono (s3.trans s4)) hk h13 _ fun z' H5 s5 hz' => ⟨c', ?_, ?_⟩
      · cases hz'
        rfl
      · have s15 := (s13.trans s4).trans s5
        cases c' with
        | true =>
          obtain ⟨d', h15, h16⟩ := Option.bind_eq_some_iff.mp (show (ω ρ).bind _ = some e by simpa using h12)
          exact hd S H0 G T ow ρ σ H5 d' (sm.mono s15) h15 _ fun k' H6 s6 hk' => hr'' T H6 k k' d d' e (sm.tr.same (s15.trans s6)) (hk.mono (s5.trans s6)) hk' h16 _ fun z'' H7 s7 hz'' => q z'' H7 ((s15.trans s6).trans s7) hz''
        | false =>
          have : e = .bool false := by simpa using h12.symm
          subst this
          exact q _ H5 s15 (.bl false)
    | false =>
      have : e = .bool false := by simpa using h6.symm
      subst this
      exact q _ H3 s13 (.bl false)
end
end Pb

set_option Elab.async false
set_option linter.all false
set_option maxRecDepth 100000
namespace Pb
open PySem PySem.Spec PyProof.Rows L2
/-! ### len(set(t)) -/
theorem nodup_sortI {l : List Int} (h : l.Nodup) : (sortI l).Pairwise (· < ·) := by
  have h1 := sortI_le (ns := l)
  have h2 : (sortI l).Nodup := (sortI_perm (ns := l)).nodup_iff.mpr h
  exact (h1.and h2).imp fun ⟨a, b⟩ => by omega
theorem nodup_same_len {l r : List Int} (h : l.Nodup) (h' : r.Nodup) (hm : ∀ k, k ∈ l ↔ k ∈ r) : l.length = r.length := by
  have e : sortI l = sortI r := strict_eq (nodup_sortI h) (nodup_sortI h') fun k => by rw [sortI_perm.mem_iff, sortI_perm.mem_iff, hm]
  rw [← (sortI_perm (ns := l)).length_eq, e, (sortI_perm (ns := r)).length_eq]
theorem sortU_nodup {l : List Int} : (sortU l).Nodup := sortU_lt.imp fun h => by omega
def tLenSetT (K : PySem.W.Frag) (ta : TE) : TE := fun σ H Q => ta σ H fun x H1 => ∃ (l : Addr) (ns : List Int), x = .ref l ∧ SqT K H1 l (ns.map V.int) ∧ ns.length ≤ 1000 ∧ Q (.int ((sortU ns).length : Nat)) H1
theorem pe_lenSetT {X : Cx} {a : Expr} {ta : TE} {p p2 q pos : Pos} (gl : Gl X "len") (ml : X.mg "len" = none) (gs : Gl X "set") (ms : X.mg "set" = none) (ha : PE X a ta) (hc : X.calm = true := by rfl)
    (na : starEach [a] X.env = (false, eval a X.env) :: starEach [] X.env := by rfl) : PE X (.Call (.Name "len" p) [.Call (.Name "set" p2) [a] [] q] [] pos) (tLenSetT X.K ta) := by
  refine ⟨fun pins s σ H QQ II hh => ?_⟩
  refine Call_ (ld_blt II gl ml boot_len ?_)
  refine PyProof.Rows.callWith_builtin1 (PyProof.Rows.args_cons ?_ rfl) rfl rfl
  refine Call_ (ld_blt II gs ms boot_set ?_)
  refine PyProof.Rows.callWith_type1 (PyProof.Rows.args_cons (thn (ha.run pins s σ H _ II hh) fun v s1 ⟨x, H1, I1, r1, q1⟩ => PyProof.Rows.args_nil ?_) na) na rfl
  obtain ⟨l, ns, rfl, hq, hl, q1⟩ := q1
  cases r1
  obtain ⟨its, rv, pt, hz⟩ := I1.tuple hq
  have hi : IntsAre its.toArray.toList ns := ints_of_vals rv
  refine call_set_tupI ns (I1.ok.hd hc) (show s1.heap.IsTuple l its.toArray from pt) hi (by unfold scanBound; omega) fun h' tk c R1 hcn k => ?_
  refine PyProof.Rows.args_nil ?_
  obtain ⟨o, es, ep, t, ho, hex, hd, _, hnd, hmem, hsz, hf, hn, _⟩ := R1
  have I2 : Inv X pins σ H1 { s1 with heap := h', toks := tk } := I1.kept fun b o e => k b o e
  have ec : c = (sortU ns).length := by
    rw [← hn, ← Array.length_toList, ← List.length_map (f := keyOf)]
    exact nodup_same_len hnd sortU_nodup fun k => by rw [← hmem, sortU_mem, decide_eq_true_eq]
  exact call_len_set ho hex hd hf (by rw [hn]; omega) ⟨.int ((sortU ns).length : Nat), H1, I2.tok _, ⟨_, by rw [hn, ec]⟩, q1⟩
def fLenSet : PyData → Option PyData
  | .tuple es => (intsD es).bind fun ns => if ns.length ≤ 1000 then some (.int ((sortU ns).length : Nat)) else none
  | _ => none
section
variable {K : PySem.W.Frag} {cl : Str → Addr} {E : XK}
theorem xs_lenSet {te : TE} {φ : Rho → Option PyData} (h : EvTr K te φ) : EvS K (tLenSetT K te) (eUn fLenSet φ) := fun S H0 G T ow ρ σ H e sm he Q q => by
  obtain ⟨x, h1, h2⟩ := Option.bind_eq_some_iff.mp he
  refine h S H0 G T ow ρ σ H x sm h1 _ fun v H1 s1 hv => ?_
  unfold fLenSet at h2
  split at h2
  · obtain ⟨ns, h3, h4⟩ := Option.bind_eq_some_iff.mp h2
    split at h4
    · rename_i hl
      cases h4
      obtain ⟨p, xs, rfl, hq, hd, _⟩ := hv.tup
      rw [ints_v hd h3] at hq
      exact ⟨p, ns, rfl, hq, hl, q _ H1 s1 (.int _)⟩
    · cases h4
  · cases h2
/-! ### a, b = .., .. with lists of their own -/
theorem SimO.hideN {S : List Addr} {H0 : Hp} {G : Hp → Prop} {T ow : List Addr} {ρ : Rho} {σ : L2.St} {H H' : Hp} (h : SimO K S H0 G T ow ρ σ H) {D : Addr} {vs : List V} (hD : H D = none) (s : Same H H') (hD' : H' D = some (.lst vs)) : SimO K S H0 G (D :: T) ow ρ σ H' := by
  have sm : Same (hs T H) (hs (D :: T) H') := fun a o e => by
    obtain ⟨h1, h2⟩ := hs_some e
    have ne : a ≠ D := fun z => by
      rw [z, hD] at h2
      cases h2
    rw [hs_out (by simp [ne, h1])]
    exact s _ _ h2
  exact
  { len := h.len, inj := h.inj, new := h.new, trS := h.trS, mo := h.mo,
    sub := fun a ha => List.mem_cons_of_mem _ (h.sub a ha)
    owT := fun a ha => List.mem_cons_of_mem _ (h.owT a ha)
    old := h.old.trans s
    slot := fun i sl e => by
      obtain ⟨o, ho, hs'⟩ := h.slot i sl e
      exact ⟨o, ho, hs'.move sm fun fo vs _ k1 k2 => ⟨k1, s _ _ k2⟩⟩
    tr := fun x hx => by
      rcases List.mem_cons.mp hx with rfl | hx
      · exact ⟨_, hD'⟩
      · exact h.tr.same s x hx
    lsT := fun x hx => by
      rcases List.mem_cons.mp hx with rfl | hx
      · exact .inr ⟨_, hD'⟩
      · exact (h.lsT x hx).imp id fun ⟨xs, e⟩ => ⟨xs, s _ _ e⟩
    fr := h.mo _ _ sm h.fr }
def sParOO (i j : Nat) (φ ψ : Rho → Option (List PyData)) : Rho → Option Res := fun ρ => (φ ρ).bind fun es => (ψ ρ).map fun fs => .nx ((ρ.set i (.own es)).set j (.own fs))
def sParOV (i j : Nat) (φ : Rho → Option (List PyData)) (ψ : Rho → Option PyData) : Rho → Option Res := fun ρ => (φ ρ).bind fun es => (ψ ρ).map fun f => .nx ((ρ.set i (.own es)).set j (.val f))
def sParVO (i j : Nat) (φ : Rho → Option PyData) (ψ : Rho → Option (List PyData)) : Rho → Option Res := fun ρ => (φ ρ).bind fun e => (ψ ρ).map fun fs => .nx ((ρ.set i (.val e)).set j (.own fs))
theorem ss_parOO {ta tb : TE} {i j : Nat} {φ ψ : Rho → Option (List PyData)} (h : EvF K ta φ) (k : EvF K tb ψ) : StP K cl E (tPar i j (tCons ta (tCons tb tNil))) (sParOO i j φ ψ) := fun S H0 G ρ σ H r ⟨T, ow, sm⟩ he D q => by
  obtain ⟨es, h1, h2⟩ := Option.bind_eq_some_iff.mp he
  obtain ⟨fs, h3, rfl⟩ := Option.map_eq_some_iff.mp h2
  refine h S H0 G T ow ρ σ H es sm h1 _ fun p vs H1 s1 hp hp' hd => k S H0 G (p :: T) ow ρ σ H1 fs (sm.hideN hp s1 hp') h3 _ fun p2 us H2 s2 hp2 hp2' hd2 => ⟨_, _, rfl, ?_⟩
  exact q _ H2 ((sm.setO (i := i) hp s1 hp' hd).setO (i := j) hp2 s2 hp2' hd2).sim
theorem ss_parOV {ta tb : TE} {i j : Nat} {φ : Rho → Option (List PyData)} {ψ : Rho → Option PyData} (h : EvF K ta φ) (k : EvS K tb ψ) : StP K cl E (tPar i j (tCons ta (tCons tb tNil))) (sParOV i j φ ψ) := fun S H0 G ρ σ H r ⟨T, ow, sm⟩ he D q => by
  obtain ⟨es, h1, h2⟩ := Option.bind_eq_some_iff.mp he
  obtain ⟨f, h3, rfl⟩ := Option.map_eq_some_iff.mp h2
  refine h S H0 G T ow ρ σ H es sm h1 _ fun p vs H1 s1 hp hp' hd => k S H0 G (p :: T) ow ρ σ H1 f (sm.hideN hp s1 hp') h3 _ fun v H2 s2 hv => ⟨_, _, rfl, ?_⟩
  exact q _ H2 (((sm.setO (i := i) hp s1 hp' hd).mono s2).setV (i := j) hv).sim
theorem ss_parVO {ta tb : TE} {i j : Nat} {φ : Rho → Option PyData} {ψ : Rho → Option (List PyData)} (h : EvS K ta φ) (k : EvF K tb ψ) : StP K cl E (tPar i j (tCons ta (tCons tb tNil))) (sParVO i j φ ψ) := fun S H0 G ρ σ H r ⟨T, ow, sm⟩ he D q => by
  obtain ⟨e, h1, h2⟩ := Option.bind_eq_some_iff.mp he
  obtain ⟨fs, h3, rfl⟩ := Option.map_eq_some_iff.mp h2
  refine h S H0 G T ow ρ σ H e sm h1 _ fun v H1 s1 hv => k S H0 G T ow ρ σ H1 fs (sm.mono s1) h3 _ fun p2 us H2 s2 hp2 hp2' hd2 => ⟨_, _, rfl, ?_⟩
  exact q _ H2 (((sm.mono s1).setV (i := i) hv).setO (i := j) hp2 s2 hp2' hd2).sim
/-! ### xs.remove(k), xs.extend(ys) of lists of their own -/
def remF (k : Int) : List Int → Option (List Int)
  | [] => none
  | x :: xs => if x = k then some xs else (remF k xs).map (x :: ·)
theorem remF_at {k : Int} : ∀ {ns ms : List Int}, remF k ns = some ms → ∃ j : Nat, ns[j]? = some k ∧ (∀ m : Nat, m < j → ns[m]? ≠ some k) ∧ ns.eraseIdx j = ms
  | [], _, h => by cases h
  | x :: xs, ms, h => by
    unfold remF at h
    split at h
    · rename_i e
      cases h
      exact ⟨0, by simp [e], fun m hm => absurd hm (Nat.not_lt_zero _), rfl⟩
    · rename_i ne
      obtain ⟨ys, h1, rfl⟩ := Option.map_eq_some_iff.mp h
      obtain ⟨j, a, b, c⟩ := remF_at h1
      refine ⟨j + 1, by simpa using a, fun m hm => ?_, by simp [c]⟩
      cases m with
      | zero => simpa using ne
      | succ m => simpa using b m (by omega)
def sRem (i : Nat) (φ : Rho → Option PyData) : Rho → Option Res := fun ρ => (ro ρ i).bind fun es => (intsD es).bind fun ns => ((φ ρ).bind asI).bind fun k => (remF k ns).map fun ms => .nx (ρ.set i (.own (ms.map .int)))
theorem ss_rem {te : TE} {i : Nat} {φ : Rho → Option PyData} (h : EvTr K te φ) : StP K cl E (tDrop (tBM K "list" rRemI (tVar i) (tCons te tNil))) (sRem i φ) := fun S H0 G ρ σ H r ⟨T, ow, sm⟩ he D q => by
  obtain ⟨es, h1, h2⟩ := Option.bind_eq_some_iff.mp he
  obtain ⟨ns, h3, h4⟩ := Option.bind_eq_some_iff.mp h2
  obtain ⟨k, h5, h6⟩ := Option.bind_eq_some_iff.mp h4
  obtain ⟨x, h7, h8⟩ := Option.bind_eq_some_iff.mp h5
  obtain rfl := asI_some h8
  obtain ⟨ms, h9, rfl⟩ := Option.map_eq_some_iff.mp h6
  obtain ⟨j, a1, a2, a3⟩ := remF_at h9
  obtain ⟨o, ho, fo, vs, rfl, _, k2, k3⟩ := sm.slot i _ (ro_some h1)
  have ev := ints_v k3 h3
  refine ⟨.ref fo, ho, .inl ⟨rfl, _, SqL.of k2⟩, h S H0 G T ow ρ σ H _ sm h7 _ fun v H1 s1 hv => ⟨fo, ns, k, j, rfl, ?_, ?_, a1, a2, ?_⟩⟩
  · rw [hv.int]
  · rw [← ev]
    exact s1 _ _ k2
  · rw [a3]
    exact q σ _ ((sm.mono s1).chg (ro_some h1) ho (DaAll.ints ms)).sim
def sExt (i : Nat) (φ : Rho → Option (List PyData)) : Rho → Option Res := fun ρ => (ro ρ i).bind fun es => (φ ρ).bind fun fs => if es.length + fs.length ≤ 100000 then some (.nx (ρ.set i (.own (es ++ fs)))) else none
theorem ss_ext {te : TE} {i : Nat} {φ : Rho → Option (List PyData)} (h : EvLi K te φ) : StP K cl E (tDrop (tBM K "list" rExtend (tVar i) (tCons te tNil))) (sExt i φ) := fun S H0 G ρ σ H r ⟨T, ow, sm⟩ he D q => by
  obtain ⟨es, h1, h2⟩ := Option.bind_eq_some_iff.mp he
  obtain ⟨fs, h3, h4⟩ := Option.bind_eq_some_iff.mp h2
  split at h4
  · rename_i hl
    cases h4
    obtain ⟨o, ho, fo, vs, rfl, _, k2, k3⟩ := sm.slot i _ (ro_some h1)
    refine ⟨.ref fo, ho, .inl ⟨rfl, _, SqL.of k2⟩, h S H0 G T ow ρ σ H fs sm h3 _ fun p us H1 s1 hp' hd => ⟨fo, p, vs, us, rfl, rfl, s1 _ _ k2, hp', Evl.sz_of ?_, ?_⟩⟩
    · rw [DaAll.len k3, DaAll.len hd]
      exact hl
    · exact q σ _ ((sm.mono s1).chg (ro_some h1) ho ((k3.mono (hs_mono s1)).append hd)).sim
  · cases h4
end
/-! ### statements that draw, further -/
section
variable {K : PySem.W.Frag} {d : Addr}
/-- x.append(e), e drawn -/
def twApp (i : Nat) (Φ : Rho → Int → (PyData → Int → Prop) → Prop) : Rho → Int → (Res → Int → Prop) → Prop := fun ρ n P => ∃ es, ro ρ i = some es ∧ es.length < 100000 ∧ Φ ρ n fun e n1 => P (.nx (ρ.set i (.own (es ++ [e])))) n1
theorem sw_app {te : TE} {i : Nat} {Φ : Rho → Int → (PyData → Int → Prop) → Prop} (h : EvW K d te Φ) : StW K d (tDrop (tBM K "list" rAppend (tVar i) (tCons te tNil))) (twApp i Φ) := fun S H0 b c n G ρ σ H P ⟨T, ow, sm⟩ ⟨es, h1, hl, h2⟩ D q => by
  obtain ⟨o, ho, fo, vs, rfl, k1, k2, k3⟩ := sm.co.slot i _ (ro_some h1)
  refine ⟨.ref fo, ho, .inl ⟨rfl, _, SqL.of k2⟩, h S H0 b c n G T ow ρ σ H _ sm h2 _ fun v e n1 H1 hP d1 hv => ⟨fo, vs, v, rfl, rfl, d1.at (sm.new fo k1).2 k2, Evl.sz_lt (by rw [DaAll.len k3]; exact hl), ?_⟩⟩
  have w1 := sm.draw d1
  exact q _ n1 hP σ _ ⟨T, ow, w1.back (w1.pure.chg (ro_some h1) ho ((k3.mono (sm.ck.sm d1)).append (.cons hv .nil)))⟩
end
end Pb

set_option Elab.async false
set_option linter.all false
set_option maxRecDepth 100000
namespace Pb
open PySem PySem.Spec PyProof.Rows L2
/-! ### t[-2::-1] -/
theorem adj_rev2 (n : Nat) : Builtin.Slice.sliceAdjust (some (-2)) none (-1) (n : Int) = (((n - 1 : Nat) : Int) - 1, -1) := by
  unfold Builtin.Slice.sliceAdjust
  simp only [show ((-1 : Int) < 0) = True by simp, if_true, show ((-2 : Int) < 0) = True by simp]
  congr 1
  omega
theorem fm_congr {α β : Type} {f g : α → Option β} : ∀ l : List α, (∀ k ∈ l, f k = g k) → l.filterMap f = l.filterMap g
  | [], _ => rfl
  | x :: l, h => by
    rw [List.filterMap_cons, List.filterMap_cons, h x List.mem_cons_self, fm_congr l fun k hk => h k (List.mem_cons_of_mem _ hk)]
theorem pick_rev2 (xs : Array Value) : ((List.range (xs.size - 1)).filterMap fun (k : Nat) => xs[((((xs.size - 1 : Nat) : Int) - 1) + (k : Int) * (-1)).toNat]?).toArray = xs.toList.dropLast.reverse.toArray := by
  have h := pick_rev xs.pop
  have e1 : xs.pop.size = xs.size - 1 := Array.size_pop
  have e2 : xs.pop.toList = xs.toList.dropLast := Array.toList_pop
  rw [e1, e2] at h
  rw [← h]
  congr 1
  refine fm_congr _ fun k hk => ?_
  have hk' := List.mem_range.mp hk
  have e3 : ((((xs.size - 1 : Nat) : Int) - 1) + (k : Int) * (-1)).toNat = xs.size - 1 - 1 - k := by omega
  rw [e3, Array.getElem?_pop, if_pos (by omega)]
section
variable {prog : Program} {w : World} {A : Around} {E : Value → Shared → Prop} {s : Shared}
theorem getItem_tuple_rev2 {t sl : Addr} {its : Array Value} {tk1 tk2 : Tok} {Q : Value → Shared → Prop} (ht : IsTup s.heap t its) (hsl : s.heap.IsSliceOf sl (.int (-2) tk1) .none (.int (-1) tk2))
    (hq : Q (.ref s.heap.objs.size) { s with heap := s.heap.push { cls := .type "tuple", data := .seq its.toList.dropLast.reverse.toArray } }) (hsz : its.size ≤ sizeLine) : wpAny (model prog w) A (getItem (.ref t) (.ref sl)) Q E s := by
  have hz : sizeOk (.seq its.toList.dropLast.reverse.toArray) := by
    show its.toList.dropLast.reverse.toArray.size ≤ sizeLine
    simp
    omega
  obtain ⟨os, hos, hcs, hds⟩ := id hsl
  have hTs : s.TypeIs (.ref sl) "slice" := ⟨os, hos, hcs⟩
  unfold getItem
  try with_reducible refine wpAny_holding ?_
  first | refine wpAny_bind (wpAny_pure ?_) | skip
  refine wpAny_bind (wpAny_sequenceKey ht.typeIs (by decide) ?_)
  refine wpAny_bind (wpAny_callSpecial?_slot (name := Str.ofString "__getitem__") ht.typeIs PyProof.Rows.slot_tuple_getitem
    (wpAny_call_entry PyProof.Rows.slot_tuple_getitem ht.typeIs PyProof.Rows.entry_tuple_getitem ?_ (PyProof.Rows.args_tuple_getitem _ _)))
  show wpAny _ _ (Builtin.Tuple.tupleItemsOf (.ref t) >>= _) _ _ s
  refine wpAny_bind (PyProof.Rows.tupleItemsOf_ ht ?_)
  refine wpAny_bind (wpAny_typeOf hTs ?_)
  rw [if_pos (by decide)]
  have step : wpAny (model prog w) A.in1 (Builtin.Slice.sliceApplied (.ref sl) (pure (its.size : Int))) (fun r s' => r = (((its.size - 1 : Nat) : Int) - 1, -1, its.size - 1) ∧ s' = s) E s := by
    unfold Builtin.Slice.sliceApplied Builtin.Slice.sliceFields
    refine wpAny_bind (wpAny_bind (wpAny_field hos hds (x := .int (-2) tk1) rfl (wpAny_bind (wpAny_field hos hds (x := .none) rfl (wpAny_bind (wpAny_field hos hds (x := .int (-1) tk2) rfl (wpAny_pure ?_)))))))
    refine wpAny_bind (PyProof.Rows.slicePart_int ?_)
    show wpAny _ _ (if ((-1 : Int) == 0) = true then _ else _) _ _ s
    rw [if_neg (by decide)]
    refine wpAny_bind (PyProof.Rows.slicePart_int (wpAny_bind (PyProof.Rows.slicePart_none (wpAny_bind (wpAny_pure ?_)))))
    show wpAny _ _ (match Builtin.Slice.sliceAdjust (some (-2)) none (-1) (its.size : Int) with | (lo, hi) => pure (lo, (-1 : Int), Builtin.Slice.slicePlaces lo hi (-1))) _ _ s
    rw [adj_rev2]
    show wpAny _ _ (pure (((its.size - 1 : Nat) : Int) - 1, (-1 : Int), Builtin.Slice.slicePlaces (((its.size - 1 : Nat) : Int) - 1) (-1) (-1))) _ _ s
    rw [places_rev]
    exact wpAny_pure ⟨rfl, rfl⟩
  refine wpAny_bind (wpAny_mono step (fun r s' hr => ?_) fun _ _ e => e)
  obtain ⟨rfl, rfl⟩ := hr
  show wpAny _ _ (if ((((its.size - 1 : Nat) : Int) - 1) == 0 && (-1 : Int) == 1 && (its.size - 1) == its.size) = true then _ else _) _ _ _
  rw [if_neg (by simp), pick_rev2]
  first
    | exact wpAny_bind (m := Builtin.Tuple.tupleExact _) (wpAny_newObj_type (wpAny_pure ⟨_, rfl, wpAny_pure hq⟩) hz)
    | exact wpAny_bind (m := Builtin.Tuple.tupleExact _) (wpAny_newObj_type (wpAny_bind (wpAny_pure (wpAny_pure ⟨_, rfl, wpAny_pure hq⟩))) hz)
    | exact wpAny_bind (wpAny_bind (m := Builtin.Tuple.tupleExact _) (wpAny_newObj_type (wpAny_pure (wpAny_pure ⟨_, rfl, wpAny_pure hq⟩)) hz))
    | exact wpAny_bind (wpAny_bind (m := Builtin.Tuple.tupleExact _) (wpAny_newObj_type (wpAny_pure ⟨_, rfl, wpAny_pure hq⟩) hz))
end
section
variable {X : Cx}
def tRevT2 (K : PySem.W.Frag) (te : TE) : TE := fun σ H Q => te σ H fun x H1 => ∃ a xs, x = .ref a ∧ SqT K H1 a xs ∧ ∀ p, H1 p = none → Q (.ref p) (upd H1 p (.tup xs.dropLast.reverse))
theorem vals_dropLast : ∀ {xs : List V} {us : List Value}, Vals xs us → Vals xs.dropLast us.dropLast
  | _, _, .nil => .nil
  | _, _, .cons r .nil => .nil
  | _, _, .cons r (.cons r' t) => .cons r (vals_dropLast (.cons r' t))
theorem pe_revT2 {e : Expr} {te : TE} {k k' : Nat} {p1 p2 p3 p4 p5 pos : Pos} (he : PE X e te) : PE X (.Subscript e (.Slice (some (.UnaryOp .USub (.Constant (.int 2) k' p4) p5)) none (some (.UnaryOp .USub (.Constant (.int 1) k p1) p2)) p3) pos) (tRevT2 X.K te) := by
  refine ⟨fun pins s σ H QQ II hh => ?_⟩
  refine Subscript_ (thn (he.run pins s σ H _ II hh) fun v s1 ⟨x, H1, I1, r1, q1⟩ => ?_)
  obtain ⟨a, xs, ex, hx, q⟩ := q1
  subst ex
  cases r1
  have hst : PO X (some (.UnaryOp .USub (.Constant (.int 1) k p1) p2)) (tPart (tUn (rU fun i => .int (-i)) (tC (.int 1)))) := po_some (pe_un un_neg pe_int)
  have hst2 : PO X (some (.UnaryOp .USub (.Constant (.int 2) k' p4) p5)) (tPart (tUn (rU fun i => .int (-i)) (tC (.int 2)))) := po_some (pe_un un_neg pe_int)
  refine wpAny_Slice (thn (hst2.run pins s1 σ H1 (fun o H2 => o = some (-2) ∧ H2 = H1) I1 ⟨2, rfl, -2, rfl, rfl, rfl⟩) fun vl s2 ⟨l, H2, I2, pl, el, e2⟩ => ?_)
  subst el e2
  refine thn (po_none.run pins s2 σ H2 (fun o H3 => o = none ∧ H3 = H2) I2 ⟨rfl, rfl⟩) fun vu s3 ⟨u, H3, I3, pu, eu, e3⟩ => ?_
  subst eu e3
  refine thn (hst.run pins s3 σ H3 (fun o H4 => o = some (-1) ∧ H4 = H3) I3 ⟨1, rfl, -1, rfl, rfl, rfl⟩) fun vs s4 ⟨o, H4, I4, ps, eo, e4⟩ => ?_
  subst eo e4
  cases pu
  cases pl with
  | int i0 tk1 =>
   cases ps with
   | int i tk =>
    have I5 : Inv X pins σ H4 { s4 with heap := s4.heap.push { cls := .type "slice", data := .fields #[.int (-2) tk1, .none, .int (-1) tk] } } := I4.kept (t' := s4.toks) fun b ob q => Heap.get?_push_of_some _ q
    obtain ⟨its, r, ht, hz⟩ := I5.tuple hx
    have hlen := r.length
    show wpAny (model X.prog X.w) X.A (subscriptTail e (.Slice (some (.UnaryOp .USub (.Constant (.int 2) k' p4) p5)) none (some (.UnaryOp .USub (.Constant (.int 1) k p1) p2)) p3) (.ref a) (.ref s4.heap.objs.size)) (EP X pins σ QQ) X.xe { s4 with heap := s4.heap.push { cls := .type "slice", data := .fields #[.int (-2) tk1, .none, .int (-1) tk] } }
    refine tail_any (ops := [.ref a, .ref s4.heap.objs.size]) ht.typeIs (PyProof.Rows.slot_tuple_getitem.lookup) ?_ (by with_unfolding_all rfl)
    refine getItem_tuple_rev2 ht (Heap.IsSliceOf.new _ (.int (-2) tk1) .none _) ?_ (by rw [List.size_toArray]; omega)
    refine ⟨.ref _, _, I5.laid (t' := s4.toks) (o := .tup xs.dropLast.reverse) (fun b ob q => Heap.get?_push_of_some _ q) (Nat.le_refl _) ?_, rfl, q _ (I5.hok.fresh (Nat.le_refl _))⟩
    exact ⟨by rw [List.length_reverse, List.length_dropLast]; omega, _, (vals_dropLast r).reverse, IsTup.new _ _⟩
end
section
variable {K : PySem.W.Frag}
theorem DaAll.dropL {H : Hp} : ∀ {vs : List V} {es : List PyData}, DaAll K H vs es → DaAll K H vs.dropLast es.dropLast
  | _, _, .nil => .nil
  | _, _, .cons _ .nil => .nil
  | _, _, .cons h (.cons h' t) => .cons h (DaAll.dropL (.cons h' t))
def eRevT2 (φ : Rho → Option PyData) : Rho → Option PyData := fun ρ => ((φ ρ).bind asT).map fun es => .tuple es.dropLast.reverse
theorem xs_revT2 {te : TE} {φ : Rho → Option PyData} (h : EvTr K te φ) : EvS K (tRevT2 K te) (eRevT2 φ) := fun S H0 G T ow ρ σ H e sm he Q q => by
  obtain ⟨es, h1, rfl⟩ := Option.map_eq_some_iff.mp he
  obtain ⟨x, h3, h4⟩ := Option.bind_eq_some_iff.mp h1
  obtain rfl := asT_some h4
  refine h S H0 G T ow ρ σ H _ sm h3 _ fun v H1 s1 hv => ?_
  obtain ⟨p, xs, rfl, hq, hd, _⟩ := hv.tup
  exact ⟨p, xs, rfl, hq, fun t ht => q _ _ (s1.trans (same_upd ht)) (.tup (SqT.of (hs_at ((sm.tr.same s1).out ht) upd_same)) (hd.dropL.rev.mono (hs_mono (same_upd ht))))⟩
/-- t != () -/
def fNe0T : PyData → PyData → Option PyData
  | .tuple es, .tuple [] => some (.bool (!es.isEmpty))
  | _, _ => none
end
/-! ### further words that draw -/
section
variable {K : PySem.W.Frag} {d : Addr}
/-- a, b = e, [..]: e drawn, the list its own -/
def twParVO (i j : Nat) (Φ : Rho → Int → (PyData → Int → Prop) → Prop) (ψ : Rho → Option (List PyData)) : Rho → Int → (Res → Int → Prop) → Prop := fun ρ n P => Φ ρ n fun e n1 => ∃ fs, ψ ρ = some fs ∧ P (.nx ((ρ.set i (.val e)).set j (.own fs))) n1
theorem sw_parVO {ta tb : TE} {i j : Nat} {Φ : Rho → Int → (PyData → Int → Prop) → Prop} {ψ : Rho → Option (List PyData)} (h : EvW K d ta Φ) (k : EvF K tb ψ) : StW K d (tPar i j (tCons ta (tCons tb tNil))) (twParVO i j Φ ψ) := fun S H0 b c n G ρ σ H P ⟨T, ow, sm⟩ h1 D q =>
  h S H0 b c n G T ow ρ σ H _ sm h1 _ fun v e n1 H1 ⟨fs, h2, h3⟩ d1 hv => by
    have w1 := sm.draw d1
    refine k _ _ G T ow ρ σ H1 fs w1.pure h2 _ fun p us H2 s2 hp hp' hd => ⟨_, _, rfl, ?_⟩
    exact q _ n1 h3 _ H2 ⟨p :: T, p :: ow, w1.back ((w1.pure.setV (i := i) hv).setO (i := j) hp s2 hp' hd)⟩
end
section
variable {K : PySem.W.Frag} {cl : Str → Addr} {E : XK} {d : Addr}
/-! a, b = e, f where a name is a cell: a tuple is made and unpacked -/
theorem ss_tupOO {ta tb : TE} {i j : Nat} {φ ψ : Rho → Option (List PyData)} (h : EvF K ta φ) (k : EvF K tb ψ) : StP K cl E (tAsg (tTup (tCons ta (tCons tb tNil))) (gTup K 2 (gCons (gName i) (gCons (gName j) gNil)))) (sParOO i j φ ψ) := fun S H0 G ρ σ H r ⟨T, ow, sm⟩ he D q => by
  obtain ⟨es, h1, h2⟩ := Option.bind_eq_some_iff.mp he
  obtain ⟨fs, h3, rfl⟩ := Option.map_eq_some_iff.mp h2
  refine h S H0 G T ow ρ σ H es sm h1 _ fun p vs H1 s1 hp hp' hd => k S H0 G (p :: T) ow ρ σ H1 fs (sm.hideN hp s1 hp') h3 _ fun p2 us H2 s2 hp2 hp2' hd2 => ⟨Evl.sz_of (by simp), fun t ht => ⟨t, [.ref p, .ref p2], rfl, SqT.of upd_same, rfl, _, _, rfl, _, _, rfl, rfl, ?_⟩⟩
  exact q _ _ (((sm.setO (i := i) hp s1 hp' hd).setO (i := j) hp2 s2 hp2' hd2).mono (same_upd ht)).sim
theorem ss_tupOV {ta tb : TE} {i j : Nat} {φ : Rho → Option (List PyData)} {ψ : Rho → Option PyData} (h : EvF K ta φ) (k : EvS K tb ψ) : StP K cl E (tAsg (tTup (tCons ta (tCons tb tNil))) (gTup K 2 (gCons (gName i) (gCons (gName j) gNil)))) (sParOV i j φ ψ) := fun S H0 G ρ σ H r ⟨T, ow, sm⟩ he D q => by
  obtain ⟨es, h1, h2⟩ := Option.bind_eq_some_iff.mp he
  obtain ⟨f, h3, rfl⟩ := Option.map_eq_some_iff.mp h2
  refine h S H0 G T ow ρ σ H es sm h1 _ fun p vs H1 s1 hp hp' hd => k S H0 G (p :: T) ow ρ σ H1 f (sm.hideN hp s1 hp') h3 _ fun v H2 s2 hv => ⟨Evl.sz_of (by simp), fun t ht => ⟨t, [.ref p, v], rfl, SqT.of upd_same, rfl, _, _, rfl, _, _, rfl, rfl, ?_⟩⟩
  exact q _ _ ((((sm.setO (i := i) hp s1 hp' hd).mono s2).setV (i := j) hv).mono (same_upd ht)).sim
theorem ss_tupVO {ta tb : TE} {i j : Nat} {φ : Rho → Option PyData} {ψ : Rho → Option (List PyData)} (h : EvS K ta φ) (k : EvF K tb ψ) : StP K cl E (tAsg (tTup (tCons ta (tCons tb tNil))) (gTup K 2 (gCons (gName i) (gCons (gName j) gNil)))) (sParVO i j φ ψ) := fun S H0 G ρ σ H r ⟨T, ow, sm⟩ he D q => by
  obtain ⟨e, h1, h2⟩ := Option.bind_eq_some_iff.mp he
  obtain ⟨fs, h3, rfl⟩ := Option.map_eq_some_iff.mp h2
  refine h S H0 G T ow ρ σ H e sm h1 _ fun v H1 s1 hv => k S H0 G T ow ρ σ H1 fs (sm.mono s1) h3 _ fun p2 us H2 s2 hp2 hp2' hd2 => ⟨Evl.sz_of (by simp), fun t ht => ⟨t, [v, .ref p2], rfl, SqT.of upd_same, rfl, _, _, rfl, _, _, rfl, rfl, ?_⟩⟩
  exact q _ _ ((((sm.mono s1).setV (i := i) hv).setO (i := j) hp2 s2 hp2' hd2).mono (same_upd ht)).sim
theorem sw_tupVO {ta tb : TE} {i j : Nat} {Φ : Rho → Int → (PyData → Int → Prop) → Prop} {ψ : Rho → Option (List PyData)} (h : EvW K d ta Φ) (k : EvF K tb ψ) : StW K d (tAsg (tTup (tCons ta (tCons tb tNil))) (gTup K 2 (gCons (gName i) (gCons (gName j) gNil)))) (twParVO i j Φ ψ) := fun S H0 b c n G ρ σ H P ⟨T, ow, sm⟩ h1 D q =>
  h S H0 b c n G T ow ρ σ H _ sm h1 _ fun v e n1 H1 ⟨fs, h2, h3⟩ d1 hv => by
    have w1 := sm.draw d1
    refine k _ _ G T ow ρ σ H1 fs w1.pure h2 _ fun p us H2 s2 hp hp' hd => ⟨Evl.sz_of (by simp), fun t ht => ⟨t, [v, .ref p], rfl, SqT.of upd_same, rfl, _, _, rfl, _, _, rfl, rfl, ?_⟩⟩
    exact q _ n1 h3 _ _ ⟨p :: T, p :: ow, w1.back (((w1.pure.setV (i := i) hv).setO (i := j) hp s2 hp' hd).mono (same_upd ht))⟩
end
end Pb

set_option Elab.async false
set_option linter.all false
set_option maxRecDepth 100000
namespace Pb
open PySem PySem.Spec PyProof.Rows L2
/-! ### sorted(xs) of data, sorted(xs, key=len) -/
theorem each_zip {K : PySem.W.Frag} {H : Hp} : ∀ {xs : List V} {ds : List PyData} {us : List Value}, DpAll K H xs ds → Vals xs us → W.EachIs (fun (v : Value) (p : V × PyData) => RelV p.1 v ∧ Dp K H p.1 p.2) us (xs.zip ds)
  | _, _, _, .nil, .nil => .nil
  | _, _, _, .cons h hs, .cons r rs => .cons ⟨r, h⟩ (each_zip hs rs)
theorem vals_each {α : Type} {f : α → V} {R : Value → α → Prop} (hf : ∀ v p, R v p → RelV (f p) v) : ∀ {us : List Value} {ps : List α}, W.EachIs R us ps → Vals (ps.map f) us
  | _, _, .nil => .nil
  | _, _, .cons r rs => .cons (hf _ _ r) (vals_each hf rs)
theorem zip_snd {α β : Type} : ∀ {xs : List α} {ds : List β}, xs.length = ds.length → (xs.zip ds).map (·.2) = ds
  | [], [], _ => rfl
  | x :: xs, d :: ds, h => by
    simp only [List.zip_cons_cons, List.map_cons]
    rw [zip_snd (by simpa using h)]
def rSortedD (K : PySem.W.Frag) : List V → Hp → VK → Prop := fun vs H Q => ∃ (a : Addr) (xs : List V) (ds : List PyData), vs = [V.ref a] ∧ SqL K H a xs ∧ DpAll K H xs ds ∧ xs.length = ds.length ∧ W.AllAlike ds ∧ W.Sortable ds ∧ (∀ d ∈ ds, d.depth ≤ 40) ∧
  ∀ p, H p = none → Q (.ref p) (upd H p (.lst (((xs.zip ds).mergeSort (W.dataLe false (·.2))).map (·.1))))
section
variable {X : Cx}
theorem cr_sortedD (hu : X.A.units + 64 < cLine) : CallR X (.builtin "sorted") (rSortedD X.K) := by
  intro pins s σ H vs us QQ I r hh
  obtain ⟨a, xs, ds, rfl, hs, hd, hlen, hal, hk, hdp, q⟩ := hh
  rw [Vals.ref1 r]
  obtain ⟨its, rv, pl, hz⟩ := I.list hs
  have e := each_zip hd rv
  have em : (xs.zip ds).map (·.2) = ds := zip_snd hlen
  have zl : (xs.zip ds).length = xs.length := by rw [List.length_zip]; omega
  refine W.sorted_data (enc := fun p : V × PyData => p.2) (R := fun v (p : V × PyData) => RelV p.1 v ∧ Dp X.K H p.1 p.2) (bs := xs.zip ds) pl.isList e (e.mono fun v p h => h.2.reads I _ _ _ h.1) (by rw [em]; exact hal) (by rw [em]; exact hk) (by omega) (fun p hp => ?_) fun out ho hE => ?_
  · have : p.2 ∈ ds := (List.of_mem_zip hp).2
    have := hdp _ this
    omega
  · obtain ⟨ep, he'⟩ := PyProof.Rows.sortedAll_at s.heap its out.toArray
    have hV := vals_each (f := fun p : V × PyData => p.1) (fun (v : Value) (p : V × PyData) (h : RelV p.1 v ∧ Dp X.K H p.1 p.2) => h.1) hE
    have hl2 : (((xs.zip ds).mergeSort (W.dataLe false (·.2))).map (·.1)).length ≤ sizeLine := by
      rw [List.length_map, List.length_mergeSort, zl]
      exact hz
    exact ⟨.ref _, upd H (s.heap.objs.size + 1) (.lst (((xs.zip ds).mergeSort (W.dataLe false (·.2))).map (·.1))), I.laid (t' := s.toks) (fun _ _ => PyProof.Rows.sortedAll_old) (Nat.le_succ _) ⟨hl2, _, ep, hV, he'⟩, rfl, q _ (I.hok.fresh (Nat.le_succ _))⟩
/-- sorted(xs, key=len): lists by their length, in their order where equal -/
def tSortLen (K : PySem.W.Frag) (ta : TE) : TE := fun σ H Q => ta σ H fun x H1 => ∃ (a : Addr) (xs : List V) (ds : List (List PyData)), x = V.ref a ∧ SqL K H1 a xs ∧ DpAll K H1 xs (ds.map .list) ∧ xs.length = ds.length ∧
  ∀ p, H1 p = none → Q (.ref p) (upd H1 p (.lst (((xs.zip ds).mergeSort (W.dataLe false fun p => .int (p.2.length : Nat))).map (·.1))))
theorem len_keys (ps : List (V × List PyData)) : W.AllAlike (ps.map fun p => PyData.int (p.2.length : Nat)) ∧ W.Sortable (ps.map fun p => PyData.int (p.2.length : Nat)) := by
  refine ⟨fun d hd d' hd' => ?_, .inr fun d hd => ?_⟩
  · obtain ⟨_, _, rfl⟩ := List.mem_map.mp hd
    obtain ⟨_, _, rfl⟩ := List.mem_map.mp hd'
    rfl
  · obtain ⟨_, _, rfl⟩ := List.mem_map.mp hd
    exact ⟨fun z => (by cases z), fun _ z => (by cases z)⟩
theorem dp_len {K : PySem.W.Frag} {H : Hp} : ∀ {xs : List V} {ds : List PyData}, DpAll K H xs ds → xs.length = ds.length
  | _, _, .nil => rfl
  | _, _, .cons _ h => by rw [List.length_cons, List.length_cons, dp_len h]
theorem each_lists {K : PySem.W.Frag} {H : Hp} {pins : List (Addr × Obj)} {σ : L2.St} {s : Shared} (hK : X.K = K) (I : Inv X pins σ H s) : ∀ {xs : List V} {ds : List (List PyData)} {us : List Value}, DpAll K H xs (ds.map .list) → Vals xs us →
    W.EachIs (fun (v : Value) (p : V × List PyData) => RelV p.1 v ∧ ∃ l its, v = .ref l ∧ s.heap.IsList l its ∧ its.size = p.2.length ∧ p.2.length ≤ sizeLine) us (xs.zip ds)
  | [], [], _, _, .nil => .nil
  | x :: xs, d :: ds, u :: us, h, .cons r rs => by
    cases h with
    | cons h1 h2 =>
      refine .cons ⟨r, ?_⟩ (each_lists hK I h2 rs)
      cases h1 with
      | @lst a ys _ hq hd =>
        subst hK
        cases r
        obtain ⟨its, rv, pl, hz⟩ := I.list hq
        have hl := dp_len hd
        have := rv.length
        exact ⟨a, its.toArray, rfl, pl.isList, by rw [List.size_toArray]; show its.length = d.length; omega, by show d.length ≤ sizeLine; omega⟩
  | [], d :: ds, _, h, _ => by cases h
  | x :: xs, [], _, h, _ => by cases h
theorem pe_sortLen {a : Expr} {ta : TE} {p p2 kp pos : Pos} (gs : Gl X "sorted") (ms : X.mg "sorted" = none) (gl : Gl X "len") (ml : X.mg "len" = none) (ha : PA X [a] (tCons ta tNil)) (hu : X.A.units + 64 < cLine) (hc : X.calm = true := by rfl)
    (he : backTo pos (starEach [a] X.env) = (false, eval a X.env) :: backTo pos (starEach [] X.env) := by rfl) (hpl : (backTo pos (starEach [a] X.env)).any (·.1) = false := by rfl) : PE X (.Call (.Name "sorted" p) [a] [⟨some "key", .Name "len" p2, kp⟩] pos) (tSortLen X.K ta) := by
  refine ⟨fun pins s σ H QQ II hh => ?_⟩
  refine wpAny_Call_Name_kw (ld_blt II gs ms (by decide +kernel : bootBuiltins "sorted" = some (.builtin "sorted")) ?_)
  refine PyProof.Rows.callWith_kw (thn (ha.run pos pins s σ H (fun vs H1 => match vs with
    | [x] => ∃ (a : Addr) (xs : List V) (ds : List (List PyData)), x = V.ref a ∧ SqL X.K H1 a xs ∧ DpAll X.K H1 xs (ds.map .list) ∧ xs.length = ds.length ∧ ∀ p, H1 p = none → QQ (.ref p) (upd H1 p (.lst (((xs.zip ds).mergeSort (W.dataLe false fun p => .int (p.2.length : Nat))).map (·.1))))
    | _ => False) II hh) fun us s1 ⟨vs, H1, I1, r1, q1⟩ => ?_) he hpl
  show wpAny _ _ (evalAll [(do let v ← eval (.Name "len" p2) X.env; standAt pos; pure v)]) _ _ s1
  refine wpAny_evalAll_cons (wpAny_bind (ld_blt I1 gl ml boot_len (wpAny_bind (wpAny_standAt (wpAny_pure (wpAny_evalAll_nil ?_))))))
  match vs, q1 with
  | [x], q1 =>
    obtain ⟨a, xs, ds, rfl, hs, hd, hlen, q⟩ := q1
    rw [Vals.ref1 r1]
    obtain ⟨its, rv, pl, hz⟩ := I1.list hs
    have e := each_lists rfl I1 hd rv
    obtain ⟨k1, k2⟩ := len_keys (xs.zip ds)
    have zl : (xs.zip ds).length = xs.length := by rw [List.length_zip]; omega
    show wpAny (model X.prog X.w) X.A (call (.builtin "sorted") [.ref a] [(Str.ofString "key", .builtin "len")]) _ _ s1
    refine W.sorted_key_data (f := .builtin "len") (b := false) (fun p : V × List PyData => PyData.int (p.2.length : Nat)) pl.isList e k1 k2 (by omega) (fun p hp => ?_) (PyProof.Rows.ksk_s1 _ _) (fun _ => PyProof.Rows.ksk_l1 _ _) (fun x => PyProof.Rows.ksk_t4 _ _) (fun v p hR hp h tk kp => ?_) fun out c h' tk kp hf hat ho hE => ?_
    · simp only [PyData.depth]
      omega
    · obtain ⟨r, l, its', rfl, hl, hsz, hzl⟩ := hR
      obtain ⟨o, ho, hc', n, hd'⟩ := hl
      have hl' : h.IsList l its' := ⟨o, kp _ _ ho, hc', n, hd'⟩
      have l63 := line63
      refine Calls.call_len_list (s := { s1 with heap := h, toks := tk }) hl' (by omega) ?_
      exact ⟨h, _, rfl, fun _ _ z => z, by rw [hsz]; exact .int _ _⟩
    · have hV := vals_each (f := fun p : V × List PyData => p.1) (fun (v : Value) (p : V × List PyData) (h : RelV p.1 v ∧ ∃ l its, v = .ref l ∧ s1.heap.IsList l its ∧ its.size = p.2.length ∧ p.2.length ≤ sizeLine) => h.1) hE
      have hl2 : (((xs.zip ds).mergeSort (W.dataLe false fun p => .int (p.2.length : Nat))).map (·.1)).length ≤ sizeLine := by
        rw [List.length_map, List.length_mergeSort, zl]
        exact hz
      exact ⟨.ref _, upd H1 (s1.heap.objs.size + 1) (.lst (((xs.zip ds).mergeSort (W.dataLe false fun p => .int (p.2.length : Nat))).map (·.1))), I1.laid (t' := tk) kp (Nat.le_succ _) ⟨hl2, _, c, hV, hat⟩, rfl, q _ (I1.hok.fresh (Nat.le_succ _))⟩
end
/-! readings -/
section
variable {K : PySem.W.Frag}
theorem da_zip {H : Hp} {α : Type} {f : α → PyData} : ∀ {xs : List V} {ds : List α}, DaAll K H xs (ds.map f) → ∀ p ∈ xs.zip ds, Da K H p.1 (f p.2)
  | _, [], _, p, hp => by simp at hp
  | [], _ :: _, h, p, hp => by simp at hp
  | x :: xs, d :: ds, h, p, hp => by
    cases h with
    | cons h1 h2 =>
      rcases List.mem_cons.mp hp with rfl | hp
      · exact h1
      · exact da_zip h2 p hp
theorem da_unzip {H : Hp} {α : Type} {f : α → PyData} : ∀ {ps : List (V × α)}, (∀ p ∈ ps, Da K H p.1 (f p.2)) → DaAll K H (ps.map (·.1)) (ps.map fun p => f p.2)
  | [], _ => .nil
  | p :: ps, h => .cons (h p List.mem_cons_self) (da_unzip fun q hq => h q (List.mem_cons_of_mem _ hq))
theorem zip_sndF {α β γ : Type} {f : β → γ} {xs : List α} {ds : List β} (h : xs.length = ds.length) : (xs.zip ds).map (fun p => f p.2) = ds.map f := by
  have e : (fun p : α × β => f p.2) = f ∘ fun p => p.2 := rfl
  rw [e, ← List.map_map, zip_snd h]
/-- sorted of alike data -/
def alikeB (ds : List PyData) : Bool := ds.all fun d => ds.all fun d' => W.alike d d'
def sortableB (ds : List PyData) : Bool := (ds.all fun d => match d with
    | .tuple (_ :: _) => true
    | _ => false) || ds.all fun d => match d with
    | .none => false
    | .tuple _ => false
    | _ => true
def fSortedD : List PyData → Option (List PyData)
  | [.list ds] => if alikeB ds && sortableB ds && !PyData.hasDictAll ds && ds.all (fun d => decide (d.depth ≤ 40)) then some (ds.mergeSort (W.dataLe false id)) else none
  | _ => none
theorem alike_of {ds : List PyData} (h : alikeB ds = true) : W.AllAlike ds := fun d hd d' hd' => List.all_eq_true.mp (List.all_eq_true.mp h d hd) d' hd'
theorem sortable_of {ds : List PyData} (h : sortableB ds = true) : W.Sortable ds := by
  unfold sortableB at h
  rw [Bool.or_eq_true] at h
  rcases h with h | h
  · refine .inl fun d hd => ?_
    have := List.all_eq_true.mp h d hd
    split at this
    · exact ⟨_, _, rfl⟩
    · cases this
  · refine .inr fun d hd => ?_
    have := List.all_eq_true.mp h d hd
    split at this
    · cases this
    · cases this
    · rename_i a b
      exact ⟨a, b⟩
theorem cf_sortedD : CbF K (rSortedD K) fSortedD := fun T H xs ds es tr h he Q q => by
  unfold fSortedD at he
  split at he
  · rename_i ds
    split at he
    · rename_i hz
      simp only [Bool.and_eq_true, Bool.not_eq_true', List.all_eq_true, decide_eq_true_eq] at hz
      obtain ⟨⟨⟨z1, z2⟩, z3⟩, z4⟩ := hz
      cases he
      cases h with
      | cons h1 h2 =>
        cases h2
        obtain ⟨p, ys, rfl, hq, hd⟩ := h1.lst
        have hl := DaAll.len hd
        refine ⟨p, ys, ds, rfl, hq, DaAll.dp' ds _ (hd.mono hs_sub) z3, hl, alike_of z1, sortable_of z2, z4, fun t ht => ?_⟩
        have hd' : DaAll K (hs T H) ys (ds.map id) := by rw [List.map_id]; exact hd
        have h3 : ∀ p ∈ (ys.zip ds).mergeSort (W.dataLe false (·.2)), Da K (hs T H) p.1 (id p.2) := fun p hp => da_zip hd' p (List.mem_mergeSort.mp hp)
        have h4 := da_unzip h3
        have e : (((ys.zip ds).mergeSort (W.dataLe false (·.2))).map fun p => id p.2) = ds.mergeSort (W.dataLe false id) := by
          rw [List.map_mergeSort (r := W.dataLe false (·.2)) (s := W.dataLe false id) (f := fun p : V × PyData => id p.2) (fun a _ b _ => rfl), zip_sndF hl, List.map_id]
        rw [e] at h4
        exact q t _ _ (same_upd ht) ht upd_same (h4.mono (hs_cons_new ht))
    · cases he
  · cases he
/-- sorted(.., key=len) of lists -/
def listsD : List PyData → Option (List (List PyData))
  | [] => some []
  | .list d :: ds => (listsD ds).map (d :: ·)
  | _ => none
theorem listsD_some : ∀ {ds : List PyData} {ls : List (List PyData)}, listsD ds = some ls → ds = ls.map .list
  | [], _, h => by
    cases h
    rfl
  | .list d :: ds, _, h => by
    obtain ⟨ms, h1, rfl⟩ := Option.map_eq_some_iff.mp h
    rw [listsD_some h1]
    rfl
  | .none :: _, _, h => by cases h
  | .bool _ :: _, _, h => by cases h
  | .int _ :: _, _, h => by cases h
  | .str _ :: _, _, h => by cases h
  | .tuple _ :: _, _, h => by cases h
  | .dict _ :: _, _, h => by cases h
def lenLe (a b : List PyData) : Bool := W.dataLe false (fun l : List PyData => .int (l.length : Nat)) a b
def lSortLen (φ : Rho → Option PyData) : Rho → Option (List PyData) := fun ρ => ((φ ρ).bind asL).bind fun ds => (listsD ds).bind fun ls => if PyData.hasDictAll ds then none else some ((ls.mergeSort lenLe).map .list)
theorem xf_sortLen {te : TE} {φ : Rho → Option PyData} (h : EvTr K te φ) : EvF K (tSortLen K te) (lSortLen φ) := fun S H0 G T ow ρ σ H es sm he Q q => by
  obtain ⟨ds, h1, h2⟩ := Option.bind_eq_some_iff.mp he
  obtain ⟨x, h3, h4⟩ := Option.bind_eq_some_iff.mp h1
  obtain rfl := asL_some h4
  obtain ⟨ls, h5, h6⟩ := Option.bind_eq_some_iff.mp h2
  split at h6
  · cases h6
  · rename_i nd
    cases h6
    have e0 := listsD_some h5
    subst e0
    refine h S H0 G T ow ρ σ H _ sm h3 _ fun v H1 s1 hv => ?_
    obtain ⟨p, ys, rfl, hq, hd⟩ := hv.lst
    have hl := DaAll.len hd
    rw [List.length_map] at hl
    refine ⟨p, ys, ls, rfl, hq, DaAll.dp' _ _ (hd.mono hs_sub) (by simpa using nd), hl, fun t ht => ?_⟩
    have h7 : ∀ p ∈ (ys.zip ls).mergeSort (W.dataLe false fun p => .int (p.2.length : Nat)), Da K (hs T H1) p.1 (.list p.2) := fun p hp => da_zip hd p (List.mem_mergeSort.mp hp)
    have h8 := da_unzip h7
    have e : (((ys.zip ls).mergeSort (W.dataLe false fun p => .int (p.2.length : Nat))).map fun p => PyData.list p.2) = (ls.mergeSort lenLe).map .list := by
      have e1 : (fun p : V × List PyData => PyData.list p.2) = PyData.list ∘ fun p => p.2 := rfl
      rw [e1, ← List.map_map, List.map_mergeSort (r := W.dataLe false fun p : V × List PyData => .int (p.2.length : Nat)) (s := lenLe) (f := fun p : V × List PyData => p.2) (fun a _ b _ => rfl), zip_snd hl]
    rw [e] at h8
    exact q t _ _ (s1.trans (same_upd ht)) (s1.free ht) upd_same (h8.mono (hs_cons_new ht))
/-- sorted(t), a tuple of ints -/
def fSortT : List PyData → Option (List PyData)
  | [.tuple es] => (intsD es).map fun ns => (sortI ns).map .int
  | _ => none
theorem cf_sortT : CbF K (rSortT K) fSortT := fun T H xs ds es tr h he Q q => by
  unfold fSortT at he
  split at he
  · obtain ⟨ns, k1, rfl⟩ := Option.map_eq_some_iff.mp he
    cases h with
    | cons h1 h2 =>
      cases h2
      obtain ⟨p, ys, rfl, hq, hd, _⟩ := h1.tup
      rw [ints_v hd k1] at hq
      refine ⟨p, ns, rfl, hq, fun ns' p' hp hs' hn => ?_⟩
      have e : ns' = sortI ns := sorted_uniq (hp.trans sortI_perm.symm) hs' sortI_le
      subst e
      exact q p' _ _ (same_upd hn) hn upd_same (DaAll.ints _)
  · cases he
end
end Pb

set_option Elab.async false
set_option linter.all false
set_option maxRecDepth 100000
namespace Pb
open PySem PySem.Spec PyProof.Rows L2
/-! ### [e for x in .. if .. for y in .. if ..] -/
def lcR2 (τ : PyData → Rho → Option Rho) (β : Rho → Option Bool) (it1 : Rho → Option (List PyData)) (τ1 : PyData → Rho → Option Rho) (β1 : Rho → Option Bool) (φ : Rho → Option PyData) (vs1 : List Nat) (ρ : Rho) : List PyData → Option (List PyData)
  | [] => some []
  | e :: es => (τ e ρ).bind fun ρ' => (β ρ').bind fun c => if c then (it1 ρ').bind fun fs => (lcR τ1 β1 φ (wipeR ρ' vs1) fs).bind fun zs => (lcR2 τ β it1 τ1 β1 φ vs1 ρ es).map (zs ++ ·) else lcR2 τ β it1 τ1 β1 φ vs1 ρ es
def lLc2 (vs vs1 : List Nat) (it : Rho → Option (List PyData)) (τ : PyData → Rho → Option Rho) (β : Rho → Option Bool) (it1 : Rho → Option (List PyData)) (τ1 : PyData → Rho → Option Rho) (β1 : Rho → Option Bool) (φ : Rho → Option PyData) : Rho → Option (List PyData) := fun ρ => (it ρ).bind fun es => (lcR2 τ β it1 τ1 β1 φ vs1 (wipeR ρ vs) es).bind lim
section
variable {K : PySem.W.Frag} {S : List Addr} {H0 : Hp} {G : Hp → Prop} {T ow : List Addr} {ρ : Rho} {σ : L2.St} {H : Hp} {D : Addr}
/-- a hidden list that is none of the slots' changed -/
theorem SimO.chD (h : SimO K S H0 G (D :: T) ow ρ σ H) (hDo : D ∉ ow) (hD0 : H0 D = none) {xs : List V} : SimO K S H0 G (D :: T) ow ρ σ (upd H D (.lst xs)) :=
  { len := h.len, inj := h.inj, new := h.new, sub := h.sub, owT := h.owT, trS := h.trS, mo := h.mo,
    old := fun a o ea => by
      have ne : a ≠ D := fun z => by
        rw [z, hD0] at ea
        cases ea
      rw [upd_ne ne]
      exact h.old _ _ ea
    tr := fun a ha => by
      by_cases z : a = D
      · rw [z]
        exact ⟨_, upd_same⟩
      · rw [upd_ne z]
        exact h.tr a ha
    fr := by
      rw [hs_put List.mem_cons_self]
      exact h.fr
    lsT := fun a ha => by
      by_cases z : a = D
      · rw [z]
        exact .inr ⟨_, upd_same⟩
      · exact (h.lsT a ha).imp id fun ⟨xs, e⟩ => ⟨xs, by rw [upd_ne z]; exact e⟩
    slot := fun j sl ej => by
      obtain ⟨o, ho, hs'⟩ := h.slot j sl ej
      refine ⟨o, ho, hs'.move (by rw [hs_put List.mem_cons_self]; exact Same.refl _) fun fo ws eo m1 m2 => ⟨m1, ?_⟩⟩
      have ne : fo ≠ D := fun z => by
        rw [z] at m1
        exact hDo m1
      rw [upd_ne ne]
      exact m2 }
theorem xf_lc2 {wi wi1 : TI} {g g1 : TG} {tt tt1 : TT} {te : TE} {vs vs1 js js1 : List Nat} {it it1 : Rho → Option (List PyData)} {τ τ1 : PyData → Rho → Option Rho} {β β1 : Rho → Option Bool} {φ : Rho → Option PyData} (hi : ItP K wi it) (hg : TgP K g js τ) (ht : TeP K tt β) (hi1 : ItP K wi1 it1) (hg1 : TgP K g1 js1 τ1) (ht1 : TeP K tt1 β1) (he : EvS K te φ) (hj : ∀ j ∈ js, j ∈ vs := by decide) (hj1 : ∀ j ∈ js1, j ∈ vs1 := by decide) :
    EvF K (tLc2 wi g tt wi1 g1 tt1 te vs vs1) (lLc2 vs vs1 it τ β it1 τ1 β1 φ) := fun S H0 G T ow ρ σ H ys sm hy Q q => by
  obtain ⟨es, h2, h0⟩ := Option.bind_eq_some_iff.mp hy
  obtain ⟨ys', h1, h3⟩ := Option.bind_eq_some_iff.mp h0
  obtain ⟨hl, rfl⟩ := lim_some h3
  refine hi S H0 G T ow ρ σ H _ sm h2 _ fun J H1 s1 ⟨F, Gw, Yw, mo, f0, wk, hG, hY⟩ D hD => ?_
  have smW := (sm.mono s1).wipe vs
  have hDo : D ∉ ow := fun z => by
    obtain ⟨o, eo⟩ := sm.tr D (sm.owT D z)
    rw [s1 _ _ eo] at hD
    cases hD
  have hD0 : H0 D = none := (sm.mono s1).old.free hD
  let Pv : Nat → Hp → Prop := fun i H' => ∃ (acc : List V) (ys1 ys2 : List PyData), H' D = some (.lst acc) ∧ DaAll K (hs (D :: T) H') acc ys1 ∧ ys = ys1 ++ ys2 ∧ lcR2 τ β it1 τ1 β1 φ vs1 (wipeR ρ vs) (es.drop i) = some ys2 ∧
      SimO K S H0 (fun X => G X ∧ F X) (D :: T) ow (wipeR ρ vs) (L2.wipe σ vs) H' ∧ (∀ a o, a ≠ D → H1 a = some o → H' a = some o)
  refine ⟨fun i m H' => m = es.length - i ∧ i ≤ es.length ∧ Pv i H', ⟨es.length, by simp, Nat.zero_le _, ?_⟩, ?_⟩
  · refine ⟨[], [], ys, upd_same, .nil, rfl, by simpa using h1, ?_, fun a o hne e => by rw [upd_ne hne]; exact e⟩
    have hh := smW.hide (D := D) (vs := []) hD
    exact hh.weak (fun H H' s h => ⟨sm.mo _ _ s h.1, mo _ _ s h.2⟩) ⟨hh.fr, mo _ _ (hs_cons_new hD) f0⟩
  · rintro i m H2 ⟨rfl, hle, pv⟩
    have pv' := pv
    obtain ⟨acc, ys1, ys2, e1, e2, e3, e4, sm', old⟩ := pv'
    have gw := hG _ _ sm'.fr.2
    by_cases hlt : i < es.length
    · refine .inr ⟨wk.goes i H2 hlt gw, Pv (i + 1), fun H' p' => ⟨es.length - (i + 1), by omega, rfl, hlt, p'⟩, fun x H3 y => ?_⟩
      have y' := wk.yields i H2 x H3 hlt gw y
      obtain ⟨s3, e, he3, hx⟩ := hY _ H2 i x H3 sm'.fr.2 sm'.tr hlt y'
      have dr : es.drop i = e :: es.drop (i + 1) := by
        rw [List.drop_eq_getElem_cons hlt]
        congr 1
        rw [List.getElem?_eq_getElem hlt] at he3
        exact Option.some.inj he3
      rw [dr] at e4
      obtain ⟨ρ', k1, k2⟩ := Option.bind_eq_some_iff.mp e4
      obtain ⟨c, k3, k4⟩ := Option.bind_eq_some_iff.mp k2
      have sm3 := sm'.mono s3
      refine hg S H0 _ _ ow _ _ H3 x e ρ' sm3 hx k1 _ fun σ2 sm4 wp => ⟨?_, ?_⟩
      · rw [wp vs hj, wipe_wipe σ vs vs fun _ h => h]
      · refine ht S H0 _ _ ow ρ' σ2 H3 c sm4 k3 _ fun H4 s4 => ?_
        have s24 := s3.trans s4
        cases c with
        | true =>
          rw [if_pos rfl]
          obtain ⟨fs, k5, k6⟩ := Option.bind_eq_some_iff.mp (show (it1 ρ').bind _ = some ys2 by simpa using k4)
          obtain ⟨zs0, k7, k8⟩ := Option.bind_eq_some_iff.mp k6
          obtain ⟨ys3, k9, rfl⟩ := Option.map_eq_some_iff.mp k8
          refine hi1 S H0 _ _ ow ρ' σ2 H4 fs (sm4.mono s4) k5 _ fun J1 H5 s5 ⟨F1, Gw1, Yw1, mo1, f01, wk1, hG1, hY1⟩ => ?_
          have s25 := s24.trans s5
          have smI := ((sm4.mono s4).mono s5).wipe vs1
          let Pin : Nat → Hp → Prop := fun j H' => ∃ (acc : List V) (ws zs : List PyData), H' D = some (.lst acc) ∧ DaAll K (hs (D :: T) H') acc ws ∧ ys = ws ++ (zs ++ ys3) ∧ lcR τ1 β1 φ (wipeR ρ' vs1) (fs.drop j) = some zs ∧
            SimO K S H0 (fun X => G X ∧ F X) (D :: T) ow (wipeR ρ vs) (L2.wipe σ vs) H' ∧ SimO K S H0 (fun X => (G X ∧ F X) ∧ F1 X) (D :: T) ow (wipeR ρ' vs1) (L2.wipe σ2 vs1) H' ∧ (∀ a o, a ≠ D → H1 a = some o → H' a = some o)
          refine ⟨fun j k H' => k = fs.length - j ∧ j ≤ fs.length ∧ Pin j H', ⟨fs.length, by simp, Nat.zero_le _, ?_⟩, ?_⟩
          · exact ⟨acc, ys1, zs0, s25 _ _ e1, e2.mono (hs_mono s25), e3, by simpa using k7, sm'.mono s25, smI.weak (fun H H' s h => ⟨⟨sm.mo _ _ s h.1.1, mo _ _ s h.1.2⟩, mo1 _ _ s h.2⟩) ⟨smI.fr, f01⟩, fun a o hne ea => s25 _ _ (old a o hne ea)⟩
          · rintro j k H6 ⟨rfl, hle1, acc, ws, zs, n1, n2, n3, n4, smo, smi, old6⟩
            have gw1 := hG1 _ _ smi.fr.2
            by_cases hlt1 : j < fs.length
            · refine .inr ⟨wk1.goes j H6 hlt1 gw1, Pin (j + 1), fun H' p' => ⟨fs.length - (j + 1), by omega, rfl, hlt1, p'⟩, fun x1 H7 y1 => ?_⟩
              obtain ⟨s7, f, hf7, hx1⟩ := hY1 _ H6 j x1 H7 smi.fr.2 smi.tr hlt1 (wk1.yields j H6 x1 H7 hlt1 gw1 y1)
              have dr1 : fs.drop j = f :: fs.drop (j + 1) := by
                rw [List.drop_eq_getElem_cons hlt1]
                congr 1
                rw [List.getElem?_eq_getElem hlt1] at hf7
                exact Option.some.inj hf7
              rw [dr1] at n4
              obtain ⟨ρ2, l1, l2⟩ := Option.bind_eq_some_iff.mp n4
              obtain ⟨c1, l3, l4⟩ := Option.bind_eq_some_iff.mp l2
              refine hg1 S H0 _ _ ow _ _ H7 x1 f ρ2 (smi.mono s7) hx1 l1 _ fun σ3 sm8 wp1 => ⟨?_, ?_⟩
              · rw [wp1 vs1 hj1, wipe_wipe σ2 vs1 vs1 fun _ h => h]
              · refine ht1 S H0 _ _ ow ρ2 σ3 H7 c1 sm8 l3 _ fun H8 s8 => ?_
                have s68 := s7.trans s8
                cases c1 with
                | true =>
                  rw [if_pos rfl]
                  obtain ⟨z, l5, l6⟩ := Option.bind_eq_some_iff.mp (show (φ ρ2).bind _ = some zs by simpa using l4)
                  obtain ⟨zr, l7, rfl⟩ := Option.map_eq_some_iff.mp l6
                  refine he S H0 _ _ ow ρ2 σ3 H8 z (sm8.mono s8) l5 _ fun v H9 s9 hv => ?_
                  have s69 := s68.trans s9
                  have la := DaAll.len n2
                  have ll : ws.length + 1 ≤ 100000 := by
                    have := congrArg List.length n3
                    simp at this
                    omega
                  refine ⟨acc, s69 _ _ n1, Evl.sz_lt (by omega), acc ++ [v], ws ++ [z], zr, upd_same, ?_, by rw [n3]; simp, l7, (smo.mono s69).chD hDo hD0, (smi.mono s69).chD hDo hD0, fun a o hne ea => ?_⟩
                  · rw [hs_put List.mem_cons_self]
                    exact (n2.mono (hs_mono s69)).append (.cons hv .nil)
                  · rw [upd_ne hne]
                    exact s69 _ _ (old6 a o hne ea)
                | false =>
                  rw [if_neg Bool.false_ne_true]
                  exact ⟨acc, ws, zs, s68 _ _ n1, n2.mono (hs_mono s68), n3, by simpa using l4, smo.mono s68, smi.mono s68, fun a o hne ea => s68 _ _ (old6 a o hne ea)⟩
            · have ej : j = fs.length := by omega
              subst ej
              rw [List.drop_length] at n4
              cases n4
              exact .inl ⟨wk1.stops H6 gw1, acc, ws, ys3, n1, n2, by simpa using n3, k9, smo, old6⟩
        | false =>
          rw [if_neg Bool.false_ne_true]
          exact ⟨acc, ys1, ys2, s24 _ _ e1, e2.mono (hs_mono s24), e3, by simpa using k4, sm'.mono s24, fun a o hne ea => s24 _ _ (old a o hne ea)⟩
    · have ei : i = es.length := by omega
      subst ei
      rw [List.drop_length] at e4
      cases e4
      refine .inl ⟨wk.stops H2 gw, ?_⟩
      rw [List.append_nil] at e3
      subst e3
      exact q D acc H2 (fun a o ea => old a o (fun z => by rw [z, s1.free hD] at ea; cases ea) (s1 _ _ ea)) (s1.free hD) e1 e2
end
end Pb

set_option Elab.async false
set_option linter.all false
set_option maxRecDepth 100000
namespace Pb
open PySem PySem.Spec PyProof.Rows L2
/-! ### a call that reads lists of their own, and answers what is no list -/
def refsOf (vs : List V) : List Addr := vs.filterMap fun v => match v with
  | .ref a => some a
  | _ => none
def eCbF (g : List PyData → Option PyData) (φs : Rho → Option (List PyData)) : Rho → Option PyData := fun ρ => ((φs ρ).bind g).bind fun e => if flatD e then some e else none
section
variable {K : PySem.W.Frag}
theorem dv_open {T : List Addr} {H : Hp} {U : List Addr} : ∀ {vs : List V} {es : List PyData}, DvAll K T H vs es → (∀ a ∈ refsOf vs, a ∈ U) → DaAll K (hs (T.filter fun a => decide (a ∉ U)) H) vs es
  | _, _, .nil, _ => .nil
  | v :: vs, e :: es, .cons h hs', hU => by
    have sm : Same (hs T H) (hs (T.filter fun a => decide (a ∉ U)) H) := msk_to_hs fun x hx => (List.mem_filter.mp hx).1
    refine .cons ?_ (dv_open hs' fun a ha => hU a ?_)
    · rcases h with h | ⟨p, xs, fs, rfl, rfl, h3, h4⟩
      · exact h.mono sm
      · have hp : p ∈ U := hU p (by simp [refsOf])
        exact .lst (SqL.of (hs_at (fun z => by simpa [hp] using (List.mem_filter.mp z).2) h3)) (h4.mono sm)
    · unfold refsOf at ha ⊢
      rw [List.filterMap_cons]
      split
      · exact ha
      · exact List.mem_cons_of_mem _ ha
theorem flat_any {H H' : Hp} {v : V} {e : PyData} (h : Da K H v e) (hf : flatD e = true) : Da K H' v e := by
  cases h with
  | non => exact .non
  | bl b => exact .bl b
  | int i => exact .int i
  | str x => exact .str x
  | lst _ _ => cases hf
  | tup _ _ => cases hf
  | emp _ => cases hf
theorem xs_callL {g : List PyData → Option PyData} {ta : TA} {φs : Rho → Option (List PyData)} {E : XK} (ha : EvAT K ta φs) : EvS K (tCall (spD K (RF g)) [] E ta) (eCbF g φs) := fun S H0 G T ow ρ σ H e sm he Q q => by
  obtain ⟨e', h0, h2⟩ := Option.bind_eq_some_iff.mp he
  obtain ⟨xs, h1, h3⟩ := Option.bind_eq_some_iff.mp h0
  split at h2
  · rename_i hf
    cases h2
    refine ha S H0 G T ow ρ σ H xs sm h1 _ fun vs H1 s1 hv => ?_
    show spD K (RF g) (vs ++ []) H1 Q E
    rw [List.append_nil]
    refine ⟨T.filter fun a => decide (a ∉ refsOf vs), xs, e, fun x hx => sm.tr.same s1 x (List.mem_filter.mp hx).1, dv_open hv fun a ha => ha, h3, fun v H2 s2 hd => q v H2 (s1.trans s2) (flat_any hd hf)⟩
  · cases h2
/-! ### a list of its own read as data for the time of one reading -/
def lBor (i : Nat) (φ : Rho → Option (List PyData)) : Rho → Option (List PyData) := fun ρ => (ro ρ i).bind fun fs => (φ (ρ.set i (.val (.list fs)))).bind fun es => if es.all flatD then some es else none
def eBor (i : Nat) (φ : Rho → Option PyData) : Rho → Option PyData := fun ρ => (ro ρ i).bind fun fs => (φ (ρ.set i (.val (.list fs)))).bind fun e => if flatD e then some e else none
def bBor (i : Nat) (β : Rho → Option Bool) : Rho → Option Bool := fun ρ => (ro ρ i).bind fun fs => β (ρ.set i (.val (.list fs)))
theorem flat_all {H H' : Hp} : ∀ {vs : List V} {es : List PyData}, DaAll K H vs es → es.all flatD = true → DaAll K H' vs es
  | _, _, .nil, _ => .nil
  | _, _, .cons h hs', hf => by
    rw [List.all_cons, Bool.and_eq_true] at hf
    exact .cons (flat_any h hf.1) (flat_all hs' hf.2)
theorem xf_bor {te : TE} {i : Nat} {φ : Rho → Option (List PyData)} (h : EvF K te φ) : EvF K te (lBor i φ) := fun S H0 G T ow ρ σ H es sm he Q q => by
  obtain ⟨fs, h1, h2⟩ := Option.bind_eq_some_iff.mp he
  obtain ⟨es', h3, h4⟩ := Option.bind_eq_some_iff.mp h2
  split at h4
  · rename_i hf
    cases h4
    obtain ⟨T', ow', sm'⟩ := sm.freeze (ro_some h1)
    exact h S H0 G T' ow' _ σ H es sm' h3 Q fun p vs H' s hp hp' hd => q p vs H' s hp hp' (flat_all hd hf)
  · cases h4
theorem xs_bor {te : TE} {i : Nat} {φ : Rho → Option PyData} (h : EvS K te φ) : EvS K te (eBor i φ) := fun S H0 G T ow ρ σ H e sm he Q q => by
  obtain ⟨fs, h1, h2⟩ := Option.bind_eq_some_iff.mp he
  obtain ⟨e', h3, h4⟩ := Option.bind_eq_some_iff.mp h2
  split at h4
  · rename_i hf
    cases h4
    obtain ⟨T', ow', sm'⟩ := sm.freeze (ro_some h1)
    exact h S H0 G T' ow' _ σ H e sm' h3 Q fun v H' s hd => q v H' s (flat_any hd hf)
  · cases h4
theorem tt_bor {tt : TT} {i : Nat} {β : Rho → Option Bool} (h : TeP K tt β) : TeP K tt (bBor i β) := fun S H0 G T ow ρ σ H b sm he Q q => by
  obtain ⟨fs, h1, h2⟩ := Option.bind_eq_some_iff.mp he
  obtain ⟨T', ow', sm'⟩ := sm.freeze (ro_some h1)
  exact h S H0 G T' ow' _ σ H b sm' h2 Q q
end
end Pb

set_option Elab.async false
set_option linter.all false
set_option maxRecDepth 100000
namespace Pb
open PySem PySem.Spec PyProof.Rows L2
/-! ### a, b, c = x, y, z -/
section
variable {K : PySem.W.Frag} {cl : Str → Addr} {E : XK} {d : Addr}
def sPar3 (i j l : Nat) (φs : Rho → Option (List PyData)) : Rho → Option Res := fun ρ => (φs ρ).bind fun es => match es with
  | [a, b, c] => some (.nx (((ρ.set i (.val a)).set j (.val b)).set l (.val c)))
  | _ => none
theorem ss_par3 {ta : TA} {i j l : Nat} {φs : Rho → Option (List PyData)} (h : EvAS K ta φs) : StP K cl E (tPar3 i j l ta) (sPar3 i j l φs) := fun S H0 G ρ σ H r ⟨T, ow, sm⟩ he D q => by
  obtain ⟨es, h1, h2⟩ := Option.bind_eq_some_iff.mp he
  match es, h2 with
  | [a, b, c], h2 =>
    cases h2
    refine h S H0 G T ow ρ σ H _ sm h1 _ fun vs H1 s1 hv => ?_
    cases hv with
    | cons d1 hv =>
      cases hv with
      | cons d2 hv =>
        cases hv with
        | cons d3 hv =>
          cases hv
          exact ⟨_, _, _, rfl, q _ H1 ((((sm.mono s1).setV d1).setV d2).setV d3).sim⟩
def twPar3 (i j l : Nat) (Φs : Rho → Int → (List PyData → Int → Prop) → Prop) : Rho → Int → (Res → Int → Prop) → Prop := fun ρ n P => Φs ρ n fun es n1 => ∃ a b c, es = [a, b, c] ∧ P (.nx (((ρ.set i (.val a)).set j (.val b)).set l (.val c))) n1
theorem sw_par3 {ta : TA} {i j l : Nat} {Φs : Rho → Int → (List PyData → Int → Prop) → Prop} (h : EvAW K d ta Φs) : StW K d (tPar3 i j l ta) (twPar3 i j l Φs) := fun S H0 b c n G ρ σ H P ⟨T, ow, sm⟩ h1 D q =>
  h S H0 b c n G T ow ρ σ H _ sm h1 _ fun vs es n1 H1 ⟨x, y, z, e, hP⟩ d1 hv => by
    subst e
    cases hv with
    | cons k1 hv =>
      cases hv with
      | cons k2 hv =>
        cases hv with
        | cons k3 hv =>
          cases hv
          exact ⟨_, _, _, rfl, q _ n1 hP _ H1 ⟨T, ow, (sm.draw d1).putV ((((sm.draw d1).co.setV k1).setV k2).setV k3)⟩⟩
end
end Pb

set_option Elab.async false
set_option linter.all false
set_option maxRecDepth 100000
namespace Pb
open PySem PySem.Spec PyProof.Rows L2
/-! ### ints and bools as numbers -/
def numV : V → Option Int
  | .int i => some i
  | .bl b => some (if b = true then 1 else 0)
  | _ => none
def rNum (g : Int → Int → Int) : R2 := fun x y H Q => ∃ i j, numV x = some i ∧ y = .int j ∧ Q (.int (g i j)) H
section
variable {X : Cx}
theorem op_addQ : OpR X (binaryOp .Add) (rNum fun i j => i + j) := by
  intro pins s σ H x y v u Q I rx ry h
  obtain ⟨i, j, hx, rfl, q⟩ := h
  obtain ⟨t', rfl⟩ := ry
  cases x with
  | int k =>
    cases hx
    obtain ⟨t, rfl⟩ := rx
    exact add_int ⟨.int _, H, I.tok _, ⟨_, rfl⟩, q⟩
  | bl b =>
    cases hx
    cases rx
    exact PySem.IntBool.add_bool_int ⟨.int _, H, I.tok _, ⟨_, rfl⟩, q⟩
  | _ => cases hx
theorem op_subQ : OpR X (binaryOp .Sub) (rNum fun i j => i - j) := by
  intro pins s σ H x y v u Q I rx ry h
  obtain ⟨i, j, hx, rfl, q⟩ := h
  obtain ⟨t', rfl⟩ := ry
  cases x with
  | int k =>
    cases hx
    obtain ⟨t, rfl⟩ := rx
    exact sub_int ⟨.int _, H, I.tok _, ⟨_, rfl⟩, q⟩
  | bl b =>
    cases hx
    cases rx
    exact PySem.IntBool.sub_bool_int ⟨.int _, H, I.tok _, ⟨_, rfl⟩, q⟩
  | _ => cases hx
/-- str of an int or a bool -/
def strV : V → Option Str
  | .int i => some (Str.ofString (toString i))
  | .bl b => some (if b then "True" else "False")
  | _ => none
theorem call_strQ : CallR X (.type "str") (fun xs H Q => ∃ x i z, xs = [x] ∧ numV x = some i ∧ i.natAbs.log2 < 1920 ∧ strV x = some z ∧ Q (.str z) H) := by
  intro pins s σ H xs us Q I r h
  obtain ⟨x, i, z, rfl, hn, hz, hs, q⟩ := h
  obtain ⟨u, rfl, r1⟩ := vals1 r
  cases x with
  | int k =>
    cases hn
    cases hs
    obtain ⟨t, rfl⟩ := r1
    exact PySem.P.str_of_int hz ⟨.str _, H, I.tok _, ⟨_, rfl⟩, q⟩
  | bl b =>
    cases hs
    cases r1
    exact PySem.P.str_of_bool ⟨.str _, H, I.tok _, ⟨_, rfl⟩, q⟩
  | _ => cases hn
end
theorem cutG_last {α : Type} (xs : List α) : (cutG xs (some (-1)) none).length ≤ 1 := by
  unfold cutG
  rw [List.length_take, List.length_drop]
  simp only [HT.sIx]
  split <;> omega
/-! ### data of a bounded width -/
mutual
def bg (L B : Nat) : PyData → Bool
  | .int i => decide (i.natAbs ≤ B)
  | .tuple xs => decide (xs.length ≤ L) && bgAll L B xs
  | .list xs => decide (xs.length ≤ L) && bgAll L B xs
  | .none => true
  | .bool _ => true
  | .str x => okD (.str x)
  | .dict kvs => okD (.dict kvs)
def bgAll (L B : Nat) : List PyData → Bool
  | [] => true
  | x :: xs => bg L B x && bgAll L B xs
end
theorem bgAll_iff {L B : Nat} : ∀ {xs : List PyData}, bgAll L B xs = true ↔ ∀ x ∈ xs, bg L B x = true
  | [] => ⟨fun _ _ h => absurd h List.not_mem_nil, fun _ => rfl⟩
  | x :: xs => by
    simp only [bgAll, Bool.and_eq_true, List.mem_cons, bgAll_iff (xs := xs)]
    exact ⟨fun h y hy => hy.elim (fun e => e ▸ h.1) (h.2 y), fun h => ⟨h x (.inl rfl), fun y hy => h y (.inr hy)⟩⟩
mutual
theorem bg_ok {L B : Nat} (hL : L ≤ 60) (hB : B < 10 ^ 80) : ∀ e : PyData, bg L B e = true → okD e = true
  | .int i, h => by
    simp only [bg, okD, decide_eq_true_eq] at h ⊢
    exact Nat.lt_of_le_of_lt h hB
  | .tuple xs, h => by
    simp only [bg, okD, Bool.and_eq_true, decide_eq_true_eq] at h ⊢
    exact ⟨Nat.le_trans h.1 hL, bg_okAll hL hB xs h.2⟩
  | .list xs, h => by
    simp only [bg, okD, Bool.and_eq_true, decide_eq_true_eq] at h ⊢
    exact ⟨Nat.le_trans h.1 hL, bg_okAll hL hB xs h.2⟩
  | .none, _ => rfl
  | .bool _, _ => rfl
  | .str x, h => by simpa only [bg] using h
  | .dict kvs, h => by simpa only [bg] using h
theorem bg_okAll {L B : Nat} (hL : L ≤ 60) (hB : B < 10 ^ 80) : ∀ xs : List PyData, bgAll L B xs = true → okAll xs = true
  | [], _ => rfl
  | x :: xs, h => by
    simp only [bgAll, okAll, Bool.and_eq_true] at h ⊢
    exact ⟨bg_ok hL hB x h.1, bg_okAll hL hB xs h.2⟩
end
mutual
theorem bg_mono {L B L' B' : Nat} (hL : L ≤ L') (hB : B ≤ B') : ∀ e : PyData, bg L B e = true → bg L' B' e = true
  | .int i, h => by
    simp only [bg, decide_eq_true_eq] at h ⊢
    exact Nat.le_trans h hB
  | .tuple xs, h => by
    simp only [bg, Bool.and_eq_true, decide_eq_true_eq] at h ⊢
    exact ⟨Nat.le_trans h.1 hL, bg_monoAll hL hB xs h.2⟩
  | .list xs, h => by
    simp only [bg, Bool.and_eq_true, decide_eq_true_eq] at h ⊢
    exact ⟨Nat.le_trans h.1 hL, bg_monoAll hL hB xs h.2⟩
  | .none, _ => rfl
  | .bool _, _ => rfl
  | .str x, h => by simpa only [bg] using h
  | .dict kvs, h => by simpa only [bg] using h
theorem bg_monoAll {L B L' B' : Nat} (hL : L ≤ L') (hB : B ≤ B') : ∀ xs : List PyData, bgAll L B xs = true → bgAll L' B' xs = true
  | [], _ => rfl
  | x :: xs, h => by
    simp only [bgAll, Bool.and_eq_true] at h ⊢
    exact ⟨bg_mono hL hB x h.1, bg_monoAll hL hB xs h.2⟩
end
theorem odd_bg : oddL.all (bg 2 (10 ^ 59)) = true := by decide +kernel
/-- what _law_bent makes of e, any data of width L and ints up to B -/
structure BntG (L B : Nat) (e e' : PyData) : Prop where
  g : bg (L + 1) (B + 1) e' = true
  w : wt e' ≤ 2 * wt e + 2200
  dp : e'.depth ≤ e.depth + 2
theorem bntG_odd {L B : Nat} {e e' : PyData} (hL : 2 ≤ L) (hB : 10 ^ 59 ≤ B) (h : e' ∈ oddL) : BntG L B e e' := by
  obtain ⟨h1, h2, h3, h4⟩ := odd_ok h
  exact ⟨bg_mono (by omega) (by omega) e' (List.all_eq_true.mp odd_bg e' h), by omega, by omega⟩
theorem bntG_seq {L B : Nat} {xs ys : List PyData} (hx : bgAll L B xs = true) (hs : ∀ y ∈ ys, y ∈ xs) (hl : ys.length ≤ L + 1) (hw : wtAll ys ≤ 2 * wtAll xs) : BntG L B (.tuple xs) (.tuple ys) ∧ BntG L B (.tuple xs) (.list ys) := by
  have py : bgAll (L + 1) (B + 1) ys = true := bg_monoAll (Nat.le_succ _) (Nat.le_succ _) ys (bgAll_iff.mpr fun y hy => bgAll_iff.mp hx y (hs y hy))
  have hd : PyData.depthAll ys ≤ PyData.depthAll xs := depthAll_le fun y hy => mem_depth (hs y hy)
  refine ⟨⟨?_, ?_, ?_⟩, ⟨?_, ?_, ?_⟩⟩
  · simp only [bg, py, Bool.and_true, decide_eq_true_eq]
    exact hl
  · simp only [wt]
    omega
  · simp only [PyData.depth]
    omega
  · simp only [bg, py, Bool.and_true, decide_eq_true_eq]
    exact hl
  · simp only [wt]
    omega
  · simp only [PyData.depth]
    omega
theorem bntG_mid {L B : Nat} {a r : List PyData} {x y : PyData} (hp : bgAll L B (a ++ x :: r) = true) (hl : (a ++ x :: r).length ≤ L) (h : BntG L B x y) : BntG L B (.tuple (a ++ x :: r)) (.tuple (a ++ y :: r)) := by
  have hp' := bgAll_iff.mp (bg_monoAll (Nat.le_succ L) (Nat.le_succ B) _ hp)
  have okA : bgAll (L + 1) (B + 1) (a ++ y :: r) = true := bgAll_iff.mpr fun z hz => by
    rcases List.mem_append.mp hz with hz | hz
    · exact hp' z (List.mem_append_left _ hz)
    · rcases List.mem_cons.mp hz with rfl | hz
      · exact h.g
      · exact hp' z (List.mem_append_right _ (List.mem_cons_of_mem _ hz))
  refine ⟨?_, ?_, ?_⟩
  · simp only [bg, okA, Bool.and_true, decide_eq_true_eq]
    rw [List.length_append, List.length_cons] at hl ⊢
    omega
  · have := h.w
    simp only [wt, wtAll_append, wtAll]
    omega
  · simp only [PyData.depth]
    have hx := mem_depth (xs := a ++ x :: r) (x := x) (List.mem_append_right _ List.mem_cons_self)
    have q : PyData.depthAll (a ++ y :: r) ≤ PyData.depthAll (a ++ x :: r) + 2 := depthAll_le fun z hz => by
      rcases List.mem_append.mp hz with hz | hz
      · have := mem_depth (xs := a ++ x :: r) (x := z) (List.mem_append_left _ hz)
        omega
      · rcases List.mem_cons.mp hz with rfl | hz
        · have := h.dp
          omega
        · have := mem_depth (xs := a ++ x :: r) (x := z) (List.mem_append_right _ (List.mem_cons_of_mem _ hz))
          omega
    omega
theorem text_ok {i : Int} (h : i.natAbs < 10 ^ 80) : okD (.str (Str.ofString (toString i))) = true := by
  have e := int_text_length_le10 (k := 80) (by decide) h
  simp only [okD, Bool.and_eq_true, decide_eq_true_eq, List.all_eq_true]
  refine ⟨?_, fun c hc => ?_⟩
  · rw [PySem.ofString_length]
    omega
  · rw [Str.ofString_eq_toList] at hc
    obtain ⟨ch, _, rfl⟩ := List.mem_map.mp hc
    have := ch.valid
    have h2 : ch.toNat < 1114112 := by
      rcases this with h | h
      · exact Nat.lt_trans h (by decide)
      · exact h.2
    exact Nat.lt_of_lt_of_le h2 (by decide)
theorem bntG_num {L B : Nat} {e : PyData} {v : V} {i : Int} {z : Str} (hw : wt e ≤ 81) (hd : e.depth = 0) (hB : B + 1 < 10 ^ 80) (h1 : 1 ≤ B) (he : (e = .int i ∧ v = .int i ∧ i.natAbs ≤ B) ∨ ∃ b : Bool, e = .bool b ∧ v = .bl b ∧ i = if b = true then 1 else 0) (hs : strV v = some z) :
    BntG L B e (.int (i + 1)) ∧ BntG L B e (.int (i - 1)) ∧ BntG L B e (.str z) ∧ (∀ b, BntG L B e (.bool b)) ∧ BntG L B e (.int 0) := by
  have hi : i.natAbs ≤ B := by
    rcases he with ⟨_, _, h⟩ | ⟨b, _, _, rfl⟩
    · exact h
    · cases b
      · exact Nat.zero_le _
      · exact h1
  refine ⟨⟨?_, by simp [wt], by simp [PyData.depth]⟩, ⟨?_, by simp [wt], by simp [PyData.depth]⟩, ⟨?_, by simp [wt], by simp [PyData.depth]⟩, fun b => ⟨rfl, by simp [wt], by simp [PyData.depth]⟩, ⟨?_, by simp [wt], by simp [PyData.depth]⟩⟩
  · simp only [bg, decide_eq_true_eq]
    omega
  · simp only [bg, decide_eq_true_eq]
    omega
  · simp only [bg]
    rcases he with ⟨_, rfl, h⟩ | ⟨b, _, rfl, _⟩
    · cases hs
      exact text_ok (by omega)
    · cases hs
      cases b <;> decide +kernel
  · simp [bg]
/-- _law_bent(deck, thing, deep), deep below δ -/
def spBentG (K : PySem.W.Frag) (δ : Nat) : Sp := fun vs H Q _ => ∃ (S : List Addr) (d b c : Addr) (n : Int) (x : V) (e : PyData) (deep L B : Nat), vs = [.ref d, x, .int deep] ∧ Ck S d b c n H ∧ n + 10 * deep < 2 ^ 40 ∧ deep < δ ∧ δ ≤ 10 ∧ 2 ≤ L ∧ L ≤ 50 ∧ 10 ^ 59 ≤ B ∧ B + 1 < 10 ^ 80 ∧ bg L B e = true ∧ Da K (hs S H) x e ∧
  ∀ (v : V) (e' : PyData) (n' : Int) (H' : Hp), BntG L B e e' → Dr d b c (n + 4 * deep + 4) H n' H' → Da K (hs S H') v e' → Q v H'
def WBentG (δ : Nat) : Addr → List PyData → Int → (PyData → Int → Prop) → Prop := fun _ ds n P => ∃ (e : PyData) (deep L B : Nat), ds = [e, .int deep] ∧ n + 10 * deep < 2 ^ 40 ∧ deep < δ ∧ δ ≤ 10 ∧ 2 ≤ L ∧ L ≤ 50 ∧ 10 ^ 59 ≤ B ∧ B + 1 < 10 ^ 80 ∧ bg L B e = true ∧ ∀ e' n', BntG L B e e' → n' ≤ n + 4 * deep + 4 → P e' n'
theorem w_bentG {K : PySem.W.Frag} {δ : Nat} : ∀ vs H Q E, spW K (WBentG δ) vs H Q E → spBentG K δ vs H Q E := by
  rintro vs H Q E ⟨S, d, b, c, n, ws, ds, P, rfl, ck, ls, da, ⟨e, deep, L, B, rfl, h1, h2, h3, l1, l2, b1, b2, h4, h5⟩, q⟩
  obtain ⟨x, y, rfl, hx, hy⟩ := da_two da
  cases hy
  exact ⟨S, d, b, c, n, x, e, deep, L, B, rfl, ck, h1, h2, h3, l1, l2, b1, b2, h4, hx, fun v e' n' H' g1 dr hv => q v e' n' H' (h5 e' n' g1 dr.le) dr.sm dr.dk hv⟩
end Pb

set_option Elab.async false
set_option linter.all false
set_option maxRecDepth 100000
namespace Pb
open PySem PySem.Spec PyProof.Rows L2
/-- for over a range whose bound is drawn -/
def twForR (it : Rho → Int → (PyData → Int → Prop) → Prop) (τ : PyData → Rho → Option Rho) (Ψ : Rho → Int → (Res → Int → Prop) → Prop) : Rho → Int → (Res → Int → Prop) → Prop := fun ρ n P => it ρ n fun x n1 => ∃ j, x = .int j ∧ small j = true ∧ forW (fun e ρ n P => ∃ ρ', τ e ρ = some ρ' ∧ Ψ ρ' n P) (rngD 0 j) ρ n1 P
section
variable {K : PySem.W.Frag} {d : Addr}
theorem sw_forR {te : TE} {g : TG} {tb : TS} {js : List Nat} {it : Rho → Int → (PyData → Int → Prop) → Prop} {τ : PyData → Rho → Option Rho} {Ψ : Rho → Int → (Res → Int → Prop) → Prop} (hi : EvW K d te it) (hg : TgP K g js τ) (hb : StW K d tb Ψ) : StW K d (tFor (iRng1 (tCons te tNil)) g tb) (twForR it τ Ψ) := fun S H0 b c n G ρ σ H P ⟨T, ow, sm⟩ h1 D q =>
  hi S H0 b c n G T ow ρ σ H _ sm h1 _ fun v e n1 H1 ⟨j, hj, hz, k2⟩ d1 hv => by
    subst hj
    cases hv
    obtain ⟨z1, z2⟩ := small_iff hz
    have e : (j - 0).toNat = j.toNat := by rw [Int.sub_zero]
    exact ⟨j, rfl, z1, z2, for_core hg hb (sm.draw d1) (e ▸ it_range) k2 q⟩
end
end Pb

set_option Elab.async false
set_option linter.all false
set_option maxRecDepth 100000
namespace Pb
open PySem PySem.Spec PyProof.Rows L2
section
variable {K : PySem.W.Frag} {S : List Addr} {H0 : Hp} {G : Hp → Prop} {T ow : List Addr} {ρ : Rho} {σ : L2.St} {H H' : Hp}
/-- a tracked list that no slot has yet is given to a slot -/
theorem SimO.adopt (h : SimO K S H0 G T ow ρ σ H) {i : Nat} {p : Addr} {vs : List V} {es : List PyData} (hp : p ∈ ow) (hp' : H p = some (.lst vs)) (hd : DaAll K (hs T H) vs es)
    (pno : ∀ (j : Nat) (es' : List PyData), ρ[j]? = some (.own es') → σ[j]? ≠ some (some (.ref p))) : SimO K S H0 G T ow (ρ.set i (.own es)) (σ.set i (some (.ref p))) H := by
  refine { old := h.old, new := h.new, sub := h.sub, owT := h.owT, tr := h.tr, trS := h.trS, mo := h.mo, fr := h.fr, lsT := h.lsT, len := by rw [List.length_set, List.length_set, h.len], slot := ?slot, inj := ?inj }
  case slot =>
    intro j sl e
    by_cases hj : i = j
    · subst hj
      rw [List.getElem?_set] at e
      simp only [if_true] at e
      split at e
      · rename_i hl
        cases e
        refine ⟨some (.ref p), by rw [List.getElem?_set_self (by rw [h.len]; exact hl)], p, vs, rfl, hp, hp', hd⟩
      · cases e
    · rw [List.getElem?_set_ne hj] at e ⊢
      exact h.slot j sl e
  case inj =>
    intro a b es1 es2 hab e1 e2
    by_cases ha : i = a
    · subst ha
      rw [List.getElem?_set_ne hab] at e2 ⊢
      intro z
      have hl : i < ρ.length := by
        rw [List.getElem?_set] at e1
        simp only [if_true] at e1
        split at e1
        · assumption
        · cases e1
      rw [List.getElem?_set_self (by rw [h.len]; exact hl)] at z
      exact pno b es2 e2 z.symm
    · rw [List.getElem?_set_ne ha] at e1 ⊢
      by_cases hb : i = b
      · subst hb
        have hl : i < ρ.length := by
          rw [List.getElem?_set] at e2
          simp only [if_true] at e2
          split at e2
          · assumption
          · cases e2
        rw [List.getElem?_set_self (by rw [h.len]; exact hl)]
        exact pno a es1 e1
      · rw [List.getElem?_set_ne hb] at e2 ⊢
        exact h.inj a b es1 es2 hab e1 e2
/-- a new list is tracked, no slot has it yet -/
theorem SimO.keep (h : SimO K S H0 G T ow ρ σ H) {p : Addr} {vs : List V} {es : List PyData} (hp : H p = none) (s : Same H H') (hp' : H' p = some (.lst vs)) (hd : DaAll K (hs (p :: T) H') vs es) : SimO K S H0 G (p :: T) (p :: ow) ρ σ H' := by
  have k := h.setO (i := ρ.length) hp s hp' hd
  rw [List.set_eq_of_length_le (Nat.le_refl _), List.set_eq_of_length_le (by rw [h.len]; exact Nat.le_refl _)] at k
  exact k
theorem SimO.noOwn (h : SimO K S H0 G T ow ρ σ H) {p : Addr} (hp : H p = none) : ∀ (j : Nat) (es' : List PyData), ρ[j]? = some (.own es') → σ[j]? ≠ some (some (.ref p)) := fun j es' e z => by
  obtain ⟨o, ho, fo, ws, e1, _, e3, _⟩ := h.slot j _ e
  rw [ho] at z
  cases z
  cases e1
  rw [hp] at e3
  cases e3
end
/-- x, y, z = [..], [..], drawn: the first two lists of the slots' own -/
def twPar3OOW (i j l : Nat) (φ ψ : Rho → Option (List PyData)) (Φ : Rho → Int → (PyData → Int → Prop) → Prop) : Rho → Int → (Res → Int → Prop) → Prop := fun ρ n P => ∃ es fs, φ ρ = some es ∧ ψ ρ = some fs ∧ i ≠ j ∧ Φ ρ n fun e n1 => P (.nx (((ρ.set i (.own es)).set j (.own fs)).set l (.val e))) n1
section
variable {K : PySem.W.Frag} {d : Addr}
theorem sw_tupOOW {ta tb tc : TE} {i j l : Nat} {φ ψ : Rho → Option (List PyData)} {Φ : Rho → Int → (PyData → Int → Prop) → Prop} (ha : EvF K ta φ) (hb : EvF K tb ψ) (hc : EvW K d tc Φ) :
    StW K d (tAsg (tTup (tCons ta (tCons tb (tCons tc tNil)))) (gTup K 3 (gCons (gName i) (gCons (gName j) (gCons (gName l) gNil))))) (twPar3OOW i j l φ ψ Φ) := fun S H0 b c n G ρ σ H P ⟨T, ow, sm⟩ ⟨es, fs, h1, h2, hij, h3⟩ D q => by
  refine ha _ _ G T ow ρ σ H es sm.pure h1 _ fun p1 us1 H1 s1 f1 at1 d1 => ?_
  have w1 : SimW K S H0 d b c n G (p1 :: T) (p1 :: ow) ρ σ H1 := sm.back (sm.pure.keep f1 s1 at1 d1)
  refine hb _ _ G _ _ ρ σ H1 fs w1.pure h2 _ fun p2 us2 H2 s2 f2 at2 d2 => ?_
  have w2 : SimW K S H0 d b c n G (p2 :: p1 :: T) (p2 :: p1 :: ow) ρ σ H2 := w1.back (w1.pure.keep f2 s2 at2 d2)
  refine hc S H0 b c n G _ _ ρ σ H2 _ w2 h3 _ fun v e n1 H3 hP d3 hv => ⟨Evl.sz_of (by simp), fun t ht => ⟨t, [.ref p1, .ref p2, v], rfl, SqT.of upd_same, rfl, _, _, rfl, _, _, rfl, _, _, rfl, rfl, ?_⟩⟩
  have w3 := w2.draw d3
  have n1' := w2.new p1 (by simp)
  have n2' := w2.new p2 (by simp)
  have a1 := d3.at n1'.2 (s2 _ _ at1)
  have a2 := d3.at n2'.2 at2
  have sm12 : Same (hs (p1 :: T) H1) (hs (p2 :: p1 :: T) H2) := fun x o e => by
    obtain ⟨k1, k2⟩ := hs_some e
    have ne : x ≠ p2 := fun z => by
      rw [z, f2] at k2
      cases k2
    rw [hs_out (by simpa [ne] using k1)]
    exact s2 _ _ k2
  have d13 := (d1.mono sm12).mono (w2.ck.sm d3)
  have d23 := d2.mono (w2.ck.sm d3)
  have p12 : p2 ≠ p1 := fun z => by
    rw [z, at1] at f2
    cases f2
  have k1 := w3.pure.adopt (i := i) (p := p1) (by simp) a1 d13 (sm.pure.noOwn f1)
  have k2 := k1.adopt (i := j) (p := p2) (by simp) a2 d23 (fun x es' e z => by
    by_cases hx : i = x
    · subst hx
      rw [List.getElem?_set] at z
      simp only [if_true] at z
      split at z
      · cases z
        exact p12 rfl
      · cases z
    · rw [List.getElem?_set_ne hx] at e z
      exact w1.pure.noOwn f2 x es' e z)
  exact q _ n1 hP _ _ ⟨_, _, w3.back ((k2.setV (i := l) hv).mono (same_upd ht))⟩
end
end Pb

set_option Elab.async false
set_option linter.all false
set_option maxRecDepth 100000
namespace Pb
open PySem PySem.Spec PyProof.Rows L2
def whW (β : Rho → Option Bool) (Ψ : Rho → Int → (Res → Int → Prop) → Prop) : Nat → Rho → Int → (Res → Int → Prop) → Prop
  | 0, _, _, _ => False
  | m + 1, ρ, n, P => ∃ c, β ρ = some c ∧ if c then Ψ ρ n fun r n1 => match r with
    | .nx ρ' => whW β Ψ m ρ' n1 P
    | .ct ρ' => whW β Ψ m ρ' n1 P
    | .bk ρ' => P (.nx ρ') n1
    | r => P r n1
    else P (.nx ρ) n
/-- while, its body drawing -/
def twWhile (m : Nat) (β : Rho → Option Bool) (Ψ : Rho → Int → (Res → Int → Prop) → Prop) : Rho → Int → (Res → Int → Prop) → Prop := whW β Ψ m
section
variable {K : PySem.W.Frag} {d : Addr}
theorem sw_while {tc : TT} {tb : TS} {n : Nat} {β : Rho → Option Bool} {Ψ : Rho → Int → (Res → Int → Prop) → Prop} (hc : TeP K tc β) (hb : StW K d tb Ψ) : StW K d (tWhile tc tb) (twWhile n β Ψ) := fun S H0 b c k G ρ σ H P sm he D q => by
  refine ⟨fun m σ' H' => ∃ ρ' k', SimS K S H0 d b c k' G ρ' σ' H' ∧ whW β Ψ m ρ' k' P, ⟨n, ρ, k, sm, he⟩, ?_⟩
  rintro m σ' H' ⟨ρ', k', ⟨T, ow, sm'⟩, h⟩
  cases m with
  | zero => exact h.elim
  | succ m =>
    obtain ⟨x, h1, h2⟩ := h
    refine hc _ _ G T ow ρ' σ' H' x sm'.co h1 _ fun H1 s1 => ?_
    cases x with
    | true =>
      rw [if_pos rfl] at h2 ⊢
      refine ⟨fun σ2 H2 => ∃ ρ2 k2, SimS K S H0 d b c k2 G ρ2 σ2 H2 ∧ whW β Ψ m ρ2 k2 P, fun σ2 H2 ⟨ρ2, k2, e1, e2⟩ => ⟨m, Nat.lt_succ_self m, ρ2, k2, e1, e2⟩, hb S H0 b c k' G ρ' σ' H1 _ ⟨T, ow, sm'.mono s1⟩ h2 _ fun r n1 e => ?_⟩
      cases r with
      | nx ρ3 => exact fun σ5 H5 sm5 => ⟨ρ3, n1, sm5, e⟩
      | ct ρ3 => exact fun σ5 H5 sm5 => ⟨ρ3, n1, sm5, e⟩
      | bk ρ3 => exact fun σ5 H5 sm5 => q _ _ e σ5 H5 sm5
      | rt x => exact q _ _ e
      | ex o => exact q _ _ e
    | false =>
      rw [if_neg Bool.false_ne_true] at h2 ⊢
      exact q _ _ h2 σ' H1 ⟨T, ow, sm'.mono s1⟩
end
end Pb

set_option Elab.async false
set_option linter.all false
set_option maxRecDepth 100000
namespace Pb
open PySem PySem.Spec PyProof.Rows L2
open L2H (RoomH cxH)
/-! ### defs whose last parameter is an error that is being handled -/
/-- what an error's fields look like -/
def XdSh (d : Option Addr) (fs : List (Str × PyData)) : Prop := (d = none ∧ fs = []) ∨ ∃ dd f e, d = some dd ∧ fs = [(f, e)]
theorem XdO.sh {K : PySem.W.Frag} {X : Hp} {d : Option Addr} {fs : List (Str × PyData)} (h : XdO K X d fs) : XdSh d fs := by
  match d, fs, h with
  | none, [], _ => exact .inl ⟨rfl, rfl⟩
  | some dd, [(f, e)], _ => exact .inr ⟨dd, f, e, rfl, rfl⟩
def rhoN (n : Nat) (ds : List PyData) (a : Addr) (d : Option Addr) (fs : List (Str × PyData)) : Rho := (rho0 n ds).set ds.length (.exn a d fs)
def runN (n np : Nat) (ψ : Rho → Option Res) (a : Addr) (d : Option Addr) (fs : List (Str × PyData)) (ds : List PyData) : Option PyData := if ds.length + 1 = np then match ψ (rhoN n ds a d fs) with
  | some (.rt e) => some e
  | some (.nx _) => some .none
  | _ => none
  else none
/-- the error is of class x, with fields fs; before it stand data -/
def spN (K : PySem.W.Frag) (cl : Str → Addr) (R : Str → List (Str × PyData) → List PyData → PyData → Prop) : SpE := fun a cls d vs H Q _ => ∃ S x fs ds ws e, Tr S H ∧ vs = ws ++ [.ref a] ∧ DaAll K (hs S H) ws ds ∧ cls = .ref (cl x) ∧ XdO K (hs S H) d fs ∧ R x fs ds e ∧ ∀ r H', Same H H' → Da K (hs S H') r e → Q r H'
def RN (n np : Nat) (ψ : Addr → Option Addr → Str → Rho → Option Res) : Str → List (Str × PyData) → List PyData → PyData → Prop := fun x fs ds e => ds.length + 1 = np ∧ ∀ a d, XdSh d fs → runN n np (ψ a d x) a d fs ds = some e
theorem start_put {N : List Str} {ws : List V} {v : V} (h : ws.length < N.length) : (L2.start N ws).set ws.length (some v) = L2.start N (ws ++ [v]) := by
  unfold L2.start
  obtain ⟨k, hk⟩ : ∃ k, N.length - ws.length = k + 1 := ⟨N.length - ws.length - 1, by omega⟩
  rw [List.length_append, List.map_append, hk, show N.length - (ws.length + [v].length) = k by simp; omega, List.set_append_right _ _ (by simp), List.length_map, Nat.sub_self, List.replicate_succ, List.append_assoc]
  rfl
section
variable {P : Program} {w : World} {K : PySem.W.Frag} {mg : Str → Option Value} {base : Heap}
theorem fn_exn {x0 qual : Str} {st : Stmt} {f : Addr} {fd : FuncData} {N ps : List Str} {k : Nat} {ψ : Addr → Option Addr → Str → Rho → Option Res} {cl : Str → Addr} (F : Fun K x0 qual st f fd) (S : FnScope N ps (defScope st)) (hN : ps.length ≤ N.length)
    (hbody : ∀ (cdv : Value) (A : Around) (outer : List Env) (s : Shared) (H : Hp) (E : XK) (p : Addr × Obj) (cls : Value) (d : Option Addr) (x : Str), Zc cls d p.2 → (∃ fl, p.2.data = .fields fl) → RoomH k (A.deeper (envOfC qual (defScope st) s.heap.objs.size f cdv)) → cls = .ref (cl x) →
      ∃ t, PSs (cxH CX0 P w K mg base N qual (defScope st) f cdv A outer s H E p).nox (defBody st) t ∧ StP K cl E0 t (ψ p.1 d x)) : FnE P w K mg base (k + 1) f fd ps (spN K cl (RN N.length ps.length ψ)) := by
  refine Fun.okE F S (fun a cls d vs H Q E h => ?_) (fun cdv A outer s H vs Q E p cls d hz hf hr h => ?_)
  · obtain ⟨T, x, fs, ds, ws, e, _, rfl, ha, _, _, he, _⟩ := h
    rw [List.length_append, DaAll.len ha]
    exact he.1
  · obtain ⟨T, x, fs, ds, ws, e, tr, rfl, ha, hc, hx, ⟨hl, he⟩, q⟩ := h
    obtain ⟨t, h1, h2⟩ := hbody cdv A outer s H E p cls d x hz hf hr hc
    refine ⟨t, h1, ?_⟩
    have wl := DaAll.len ha
    have run := he p.1 d hx.sh
    unfold runN at run
    rw [if_pos hl] at run
    have sim := (sim_start (N := N) tr ha).put (i := ds.length) (o := some (.ref p.1)) (s := .exn p.1 d fs) ⟨rfl, hx⟩ (fun _ z => by cases z)
    rw [← wl, start_put (by omega), wl] at sim
    split at run
    · rename_i e' hr'
      cases run
      exact h2 _ _ _ _ _ H _ sim.sim hr' _ q
    · rename_i ρ' hr'
      cases run
      exact h2 _ _ _ _ _ H _ sim.sim hr' _ (fun σ' H' ⟨T', ow, sm⟩ => q .non H' sm.old .non)
    · cases run
theorem ClE.weaker {k : Nat} {x : Str} {ps : List Str} {sp sp' : SpE} (h : ClE P w K mg base k x ps sp) (hs' : ∀ a cls d vs H Q E, sp' a cls d vs H Q E → sp a cls d vs H Q E) : ClE P w K mg base k x ps sp' := by
  obtain ⟨f, fd, h1, h2, h3, h4⟩ := h.ex
  exact ⟨f, fd, ⟨fun a cls d vs H Q E z => h1.len a cls d vs H Q E (hs' _ _ _ _ _ _ _ z), fun A outer s H args us vs Q E p cls d hr hz hf hp e0 hb rv hsp => h1.run A outer s H args us vs Q E p cls d hr hz hf hp e0 hb rv (hs' _ _ _ _ _ _ _ hsp)⟩, h2, h3, h4⟩
/-- as a function -/
def spNF (K : PySem.W.Frag) (cl : Str → Addr) (g : Str → List (Str × PyData) → List PyData → Option PyData) : SpE := spN K cl fun x fs ds e => g x fs ds = some e
theorem n_to_f {cl : Str → Addr} {R : Str → List (Str × PyData) → List PyData → PyData → Prop} {g : Str → List (Str × PyData) → List PyData → Option PyData} (h : ∀ x fs ds e, g x fs ds = some e → R x fs ds e) : ∀ a cls d vs H Q E, spNF K cl g a cls d vs H Q E → spN K cl R a cls d vs H Q E := by
  rintro a cls d vs H Q E ⟨S, x, fs, ds, ws, e, h1, h2, h3, h4, h5, h6, h7⟩
  exact ⟨S, x, fs, ds, ws, e, h1, h2, h3, h4, h5, h x fs ds e h6, h7⟩
end
section
variable {K : PySem.W.Frag} {cl : Str → Addr}
/-- f(err) -/
def eKE (g : Str → List (Str × PyData) → List PyData → Option PyData) (a : Addr) (d : Option Addr) (i : Nat) (x : Str) : Rho → Option PyData := fun ρ => (rxn ρ i a d).bind fun fs => g x fs []
theorem xs_kE {g : Str → List (Str × PyData) → List PyData → Option PyData} {a : Addr} {cls : Value} {d : Option Addr} {i : Nat} {x : Str} (hc : cls = .ref (cl x)) : EvS K (tCallE (spNF K cl g) a cls d (tCons (tVar i) tNil)) (eKE g a d i x) := fun S H0 G T ow ρ σ H e sm he Q q => by
  obtain ⟨fs, h1, h2⟩ := Option.bind_eq_some_iff.mp he
  obtain ⟨o, ho, rfl, hx⟩ := sm.slot i _ (rxn_some h1)
  exact ⟨_, ho, T, x, fs, [], [], e, sm.tr, rfl, .nil, hc, hx, h2, fun r H' s hd => q r H' s hd⟩
/-- f(e, err) -/
def eKE1 (g : Str → List (Str × PyData) → List PyData → Option PyData) (a : Addr) (d : Option Addr) (i : Nat) (x : Str) (φ : Rho → Option PyData) : Rho → Option PyData := fun ρ => (φ ρ).bind fun y => (rxn ρ i a d).bind fun fs => g x fs [y]
theorem xs_kE1 {g : Str → List (Str × PyData) → List PyData → Option PyData} {a : Addr} {cls : Value} {d : Option Addr} {i : Nat} {x : Str} {te : TE} {φ : Rho → Option PyData} (hc : cls = .ref (cl x)) (h : EvS K te φ) : EvS K (tCallE (spNF K cl g) a cls d (tCons te (tCons (tVar i) tNil))) (eKE1 g a d i x φ) := fun S H0 G T ow ρ σ H e sm he Q q => by
  obtain ⟨y, h0, he⟩ := Option.bind_eq_some_iff.mp he
  obtain ⟨fs, h1, h2⟩ := Option.bind_eq_some_iff.mp he
  refine h S H0 G T ow ρ σ H y sm h0 _ fun v H1 s1 hv => ?_
  obtain ⟨o, ho, rfl, hx⟩ := (sm.mono s1).slot i _ (rxn_some h1)
  exact ⟨_, ho, T, x, fs, [y], [v], e, (sm.mono s1).tr, rfl, .cons hv .nil, hc, hx, h2, fun r H' s hd => q r H' (s1.trans s) hd⟩
end
end Pb

set_option Elab.async false
set_option linter.all false
set_option maxRecDepth 100000
namespace Pb
open PySem PySem.Spec PyProof.Rows L2
/-! ### expressions that may raise -/
section
variable (K : PySem.W.Frag) (cl : Str → Addr) (W : WX)
def EvX (te : TE) (ξ : Rho → Option Out) : Prop := ∀ S H0 G T ow ρ σ H o, SimO K S H0 G T ow ρ σ H → ξ ρ = some o → ∀ Q : VK, (∀ e, o = .ret e → ∀ v H', Same H H' → Da K (hs T H') v e → Q v H') → ((∀ e, o ≠ .ret e) → WxOk K cl S H0 G W ρ o) → te σ H Q
end
def oCall (g : List PyData → Option Out) (φs : Rho → Option (List PyData)) : Rho → Option Out := fun ρ => (φs ρ).bind g
def oPure (φ : Rho → Option PyData) : Rho → Option Out := fun ρ => (φ ρ).map .ret
def oIf (β : Rho → Option Bool) (ξ ζ : Rho → Option Out) : Rho → Option Out := fun ρ => (β ρ).bind fun c => if c then ξ ρ else ζ ρ
/-- [word, e] -/
def oLst (s : Str) (ξ : Rho → Option Out) : Rho → Option Out := fun ρ => (ξ ρ).map fun o => match o with
  | .ret e => .ret (.list [.str s, e])
  | o => o
def xSetX (i : Nat) (ξ : Rho → Option Out) : Rho → Option Rx := fun ρ => (ξ ρ).map fun o => outR o ρ fun e => .nx (ρ.set i (.val e))
section
variable {K : PySem.W.Frag} {cl : Str → Addr} {W : WX}
theorem ex_call {g : List PyData → Option Out} {ta : TA} {φs : Rho → Option (List PyData)} (ha : EvAS K ta φs) : EvX K cl W (tCallS (spY K cl g) (WE W) ta) (oCall g φs) := fun S H0 G T ow ρ σ H o sm he Q hr hx => callS_core ha sm he hr hx
theorem ex_pure {te : TE} {φ : Rho → Option PyData} (h : EvS K te φ) : EvX K cl W te (oPure φ) := fun S H0 G T ow ρ σ H o sm he Q hr hx => by
  obtain ⟨e, h1, rfl⟩ := Option.map_eq_some_iff.mp he
  exact h S H0 G T ow ρ σ H e sm h1 Q fun v H' s hd => hr e rfl v H' s hd
theorem ex_if {t : TT} {ta tb : TE} {β : Rho → Option Bool} {ξ ζ : Rho → Option Out} (ht : TeP K t β) (ha : EvX K cl W ta ξ) (hb : EvX K cl W tb ζ) : EvX K cl W (tIf t ta tb) (oIf β ξ ζ) := fun S H0 G T ow ρ σ H o sm he Q hr hx => by
  obtain ⟨c, h1, h2⟩ := Option.bind_eq_some_iff.mp he
  refine ht S H0 G T ow ρ σ H c sm h1 _ fun H1 s1 => ?_
  cases c with
  | true => exact ha S H0 G T ow ρ σ H1 o (sm.mono s1) (by simpa using h2) Q (fun e eo v H' s hd => hr e eo v H' (s1.trans s) hd) hx
  | false => exact hb S H0 G T ow ρ σ H1 o (sm.mono s1) (by simpa using h2) Q (fun e eo v H' s hd => hr e eo v H' (s1.trans s) hd) hx
theorem ex_lst {te : TE} {s : Str} {ξ : Rho → Option Out} (h : EvX K cl W te ξ) : EvX K cl W (tLst (tCons (tC (.str s)) (tCons te tNil))) (oLst s ξ) := fun S H0 G T ow ρ σ H o sm he Q hr hx => by
  obtain ⟨o', h1, rfl⟩ := Option.map_eq_some_iff.mp he
  refine h S H0 G T ow ρ σ H o' sm h1 _ (fun e eo v H' s' hd => ?_) (fun hne => ?_)
  · subst eo
    refine ⟨Pb.sz (n := 2) (by decide), fun l hl => ?_⟩
    have sl : Same H' (upd H' l (.lst [.str s, v])) := same_upd hl
    exact hr _ rfl _ _ (s'.trans sl) (.lst (SqL.of (hs_at ((sm.mono s').tr.out hl) upd_same)) (.cons (.str s) (.cons (hd.mono (hs_mono sl)) .nil)))
  · cases o' with
    | ret e => exact absurd rfl (hne e)
    | exc x => exact hx fun e z => by cases z
    | excF x f e => exact hx fun e z => by cases z
theorem sx_setX {te : TE} {i : Nat} {ξ : Rho → Option Out} (h : EvX K cl W te ξ) : StX K cl W (tAsg te (gName i)) (xSetX i ξ) := fun S H0 G ρ σ H r ⟨T, ow, sm⟩ he D q => by
  obtain ⟨o, h1, rfl⟩ := Option.map_eq_some_iff.mp he
  refine h S H0 G T ow ρ σ H o sm h1 _ (fun e eo v H' s hd => ?_) (fun hne => ?_)
  · subst eo
    exact q _ H' ((sm.mono s).setV hd).sim
  · cases o with
    | ret e => exact absurd rfl (hne e)
    | exc x => exact q
    | excF x f e => exact q
end
end Pb

set_option Elab.async false
set_option linter.all false
set_option maxRecDepth 100000
namespace Pb
open PySem PySem.Spec PyProof.Rows L2
/-- x |= e -/
theorem ip_bor {X : Cx} : PIp X .BitOr (ipI fun i j => Builtin.bitOr i j) := by
  intro pins s σ H x y v u Q I rx ry h
  obtain ⟨i, j, rfl, rfl, q⟩ := h
  obtain ⟨t, rfl⟩ := rx
  obtain ⟨t', rfl⟩ := ry
  exact ior_int ⟨.int _, H, I.tok _, ⟨_, rfl⟩, q⟩
end Pb

set_option Elab.async false
set_option linter.all false
set_option maxRecDepth 100000
namespace Pb
open PySem PySem.Spec PyProof.Rows L2
open PySem.W (Frag findIn InstAt KitX)
open L2H (RoomH cxH)
/-! ### isinstance(err, ValueError) -/
def rIsPV (K : Frag) (a : Addr) (cls : Value) (d : Option Addr) : List V → Hp → VK → Prop := fun xs H Q => ∃ (D : Addr) (T : String) (b : Bool) (fs : List (Str × V)), cls = .ref D ∧ ExcC K D ∧ XdAt H d fs ∧ xs = [.ref a, .ty T] ∧ PySem.W.kitOne K (.ref D) (.type T) = some b ∧ Q (.bl b) H
theorem call_isPV {X : Cx} {a : Addr} {oe : Obj} {cls : Value} {d : Option Addr} (hp : (a, oe) ∈ X.pn) (hz : Zc cls d oe) (hf : ∃ vs, oe.data = .fields vs) : CallR X (.builtin "isinstance") (rIsPV X.K a cls d) := by
  intro pins s σ H xs us Q I r ⟨D, T, b, fs, ec, xc, hx, ex, e, q⟩
  subst ec ex
  obtain ⟨u1, u2, rfl, r1, r2⟩ := vals2 r
  obtain rfl : u1 = Value.ref a := r1
  obtain rfl : u2 = Value.type T := r2
  obtain ⟨od, J⟩ := pin_inst hp hz hf I hx
  exact PySem.W.kia_one (H := fun h => InstAt h a oe D od) (kit_err xc) I.kIn J e (fun z => nomatch z) fun tk => ⟨.bl b, H, I.kept (t' := tk) fun _ _ z => z, rfl, q⟩
theorem bt_ValueError : bootBuiltins "ValueError" = some (.type "ValueError") := by decide +kernel
theorem kit_tyv {K : Frag} {C : Addr} {T : String} {b : Bool} (hm : PySem.W.kitMeta T = true) (h : PySem.W.subIn K (.ref C) (.type T) = some b) : PySem.W.kitOne K (.ref C) (.type T) = some b := by
  show (if (Value.ref C == Value.type T) = true then some true else PySem.W.kitCls K (.ref C) (.type T)) = some b
  rw [if_neg (show ¬ (Value.ref C == Value.type T) = true from fun z => by cases z)]
  show (if PySem.W.kitMeta T = true then PySem.W.subIn K (.ref C) (.type T) else none) = some b
  rw [if_pos hm]
  exact h
theorem meta_VE : PySem.W.kitMeta "ValueError" = true := by decide +kernel
def eIsV (a : Addr) (d : Option Addr) (i : Nat) : Rho → Option PyData := fun ρ => (rxn ρ i a d).map fun _ => .bool true
/-- err.f where the error is of class c -/
def eFldC (x c : Str) (a : Addr) (d : Option Addr) (i : Nat) (f : Str) : Rho → Option PyData := fun ρ => if x = c then eFld a d i f ρ else none
section
variable {K : PySem.W.Frag} {cl : Str → Addr}
theorem xs_isV {a : Addr} {cls : Value} {d : Option Addr} {i : Nat} {x : Str} (hc : cls = .ref (cl x)) (xc : ExcC K (cl x)) (kt : PySem.W.kitOne K (.ref (cl x)) (.type "ValueError") = some true) : EvS K (tCB (rIsPV K a cls d) (tCons (tVar i) (tCons (tC (.ty "ValueError")) tNil))) (eIsV a d i) := fun S H0 G T ow ρ σ H e sm he Q q => by
  subst hc
  obtain ⟨fs, h1, rfl⟩ := Option.map_eq_some_iff.mp he
  obtain ⟨o, ho, rfl, hx⟩ := sm.slot i _ (rxn_some h1)
  obtain ⟨gs, hg⟩ := xd_at hx hs_sub
  exact ⟨_, ho, cl x, "ValueError", _, gs, rfl, xc, hg, rfl, kt, q _ H (Same.refl _) (.bl _)⟩
theorem xs_fldC {a : Addr} {cls : Value} {d : Option Addr} {i : Nat} {x c f : Str} (hc : cls = .ref (cl x)) : EvS K (tXf a cls d (cl c) f (tVar i)) (eFldC x c a d i f) := xs_fld hc
/-- only for these classes -/
def inX (xs : List Str) (x : Str) (ψ : Rho → Option Res) : Rho → Option Res := fun ρ => if x ∈ xs then ψ ρ else none
theorem ss_inX {xs : List Str} {x : Str} {ts : TS} {E : XK} {ψ : Rho → Option Res} (h : x ∈ xs → StP K cl E ts ψ) : StP K cl E ts (inX xs x ψ) := fun S H0 G ρ σ H r sm he D q => by
  unfold inX at he
  split at he
  · rename_i hx
    exact h hx S H0 G ρ σ H r sm he D q
  · cases he
end
/-! ### a def of a slot called -/
def tCallLS (i : Nat) (f : Addr) (sp : Sp) (E : L2.St → XK) (t : TA) : TE := fun σ H Q => σ[i]? = some (some (.ref f)) ∧ t σ H fun vs H1 => sp vs H1 Q (E σ)
section
variable {X : Cx} {CX : CXT} {k j i : Nat} {f : Addr} {fd : FuncData} {ps : List Str} {sp : Sp} {E : L2.St → XK} {W : WX} {x : Str} {p pos : Pos} {e : Expr} {es : List Expr} {t : TA}
theorem pe_callLS (i : Nat) (F : FnOk X.prog X.w X.K X.mg X.base (L2.CX X.prog X.w) k f fd ps sp) (hr : Room j X.A) (hkj : k ≤ j) (hk : PySem.W.keepIn X.K (.ref f) = true) (hb : Binds X.K fd ps []) (tk : Takes X W) (ha : PA X (e :: es) t)
    (hN : X.N[i]? = some x := by rfl) (hv : Vis X.env.scope x := by first | exact Or.inl rfl | exact Or.inr (Or.inl rfl) | exact Or.inr (Or.inr rfl))
    (hdb : (x == ("__debug__" : Str)) = false := by decide) (hcd : (x == ("__classdict__" : Str)) = false := by decide)
    (he : starEach (e :: es) X.env = (false, eval e X.env) :: starEach es X.env := by rfl) (hpl : (backTo pos (starEach es X.env)).any (·.1) = false := by rfl) : PE X (.Call (.Name x p) (e :: es) [] pos) (tCallLS i f sp (WE W) t) := by
  refine ⟨fun pins s σ H Q I h => ?_⟩
  obtain ⟨hs, ht⟩ := h
  refine wpAny_Call_Name_kw (thn ((pe_var (pos := p) hN hv hdb hcd).run pins s σ H (fun v H1 => v = .ref f ∧ H1 = H) I ⟨.ref f, hs, rfl, rfl⟩) fun u s1 ⟨v, H1, I1, r1, q1⟩ => ?_)
  obtain ⟨rfl, rfl⟩ := q1
  cases r1
  refine PySem.W.callWith_K (h₀ := X.base) I.ok.mod.kin hk (thn (ha.run pos pins s1 σ _ _ I1 ht) fun us s2 ⟨vs, H2, I2, r, q⟩ => ⟨I2.kIn, ?_⟩) he hpl
  exact run_fnS F (hr.mono hkj) hb (passAt tk σ) I2 r q
end
def rfn (ρ : Rho) (i : Nat) (f : Addr) : Bool := match ρ[i]? with
  | some (.deck f') => decide (f' = f)
  | _ => false
theorem rfn_some {ρ : Rho} {i : Nat} {f : Addr} (h : rfn ρ i f = true) : ρ[i]? = some (.deck f) := by
  unfold rfn at h
  split at h
  · rename_i e
    rw [e, of_decide_eq_true h]
  · cases h
def oCallL (i : Nat) (f : Addr) (g : List PyData → Option Out) (φs : Rho → Option (List PyData)) : Rho → Option Out := fun ρ => if rfn ρ i f then (φs ρ).bind g else none
section
variable {K : PySem.W.Frag} {cl : Str → Addr} {W : WX}
theorem ex_callL {i : Nat} {f : Addr} {g : List PyData → Option Out} {ta : TA} {φs : Rho → Option (List PyData)} (ha : EvAS K ta φs) : EvX K cl W (tCallLS i f (spY K cl g) (WE W) ta) (oCallL i f g φs) := fun S H0 G T ow ρ σ H o sm he Q hr hx => by
  unfold oCallL at he
  split at he
  · rename_i hz
    obtain ⟨o', ho, eo⟩ := sm.slot i _ (rfn_some hz)
    have eo' : o' = some (.ref f) := eo
    subst eo'
    exact ⟨ho, callS_core ha sm he hr hx⟩
  · cases he
end
/-! ### a def whose first parameter is a def -/
def spDF (K : PySem.W.Frag) (f : Addr) (g : List PyData → Option PyData) : Sp := fun vs H Q E => ∃ ws, vs = .ref f :: ws ∧ spD K (RF g) ws H Q E
def spQF (K : PySem.W.Frag) (f : Addr) (Wt : List PyData → (PyData → Prop) → Prop) : Sp := fun vs H Q E => ∃ ws, vs = .ref f :: ws ∧ spQ K Wt ws H Q E
theorem qf_to_d {K : PySem.W.Frag} {f : Addr} {t : List PyData → (PyData → Prop) → Prop} {g : List PyData → Option PyData} (h : ∀ ds e, g ds = some e → t ds (· = e)) : ∀ vs H Q E, spDF K f g vs H Q E → spQF K f t vs H Q E := by
  rintro vs H Q E ⟨ws, rfl, S, ds, e, tr, da, hg, q⟩
  exact ⟨ws, rfl, S, ds, (· = e), tr, da, h ds e hg, fun v e' H' he s hd => by
    subst he
    exact q v H' s hd⟩
def runQF (n np : Nat) (f : Addr) (Ψ : Rho → (Res → Prop) → Prop) (ds : List PyData) (P : PyData → Prop) : Prop := ds.length + 1 = np ∧ Ψ (rhoW n f ds) fun r => match r with
  | .rt e => P e
  | .nx _ => P .none
  | _ => False
section
variable {K : PySem.W.Frag} {cl : Str → Addr}
theorem fn_toldF {P : Program} {w : World} {mg : Str → Option Value} {base : Heap} {x qual : Str} {st : Stmt} {f fa : Addr} {fd : FuncData} {N ps : List Str} {k : Nat} {Ψ : Rho → (Res → Prop) → Prop} (F : Fun K x qual st f fd) (S : FnScope N ps (defScope st))
    (hbody : ∀ (cdv : Value) (A : Around) (outer : List Env) (s : Shared) (H : Hp) (E : XK), Room k (A.deeper (envOfC qual (defScope st) s.heap.objs.size f cdv)) →
      ∃ t, PSs (cxOf CX0 P w K mg base N qual (defScope st) f cdv A outer s H E).nox (defBody st) t ∧ StQ K cl t Ψ) : FnOk P w K mg base CX0 (k + 1) f fd ps (spQF K fa (runQF N.length ps.length fa Ψ)) := by
  refine F.ok S (fun vs H Q E h => ?_) (fun cdv A outer s H vs Q E hr h => ?_)
  · obtain ⟨ws, rfl, T, ds, P, _, ha, he, _⟩ := h
    rw [List.length_cons, DaAll.len ha]
    exact he.1
  · obtain ⟨ws, rfl, T, ds, PP, tr, ha, he, q⟩ := h
    obtain ⟨t, h1, h2⟩ := hbody cdv A outer s H E hr
    have s0 : SimO K T H (fun _ => True) T [] (rho0 N.length (.none :: ds)) (start N (.non :: ws)) H := sim_start tr (.cons .non ha)
    have s1 : SimO K T H (fun _ => True) T [] (rhoW N.length fa ds) (start N (.ref fa :: ws)) H := s0.put (i := 0) (o := some (.ref fa)) (s := .deck fa) rfl (fun _ z => by cases z)
    refine ⟨t, h1, h2 T H _ _ _ H _ s1.sim he.2 _ fun r hr' => ?_⟩
    cases r with
    | rt e => exact fun v H' s hv => q v e H' hr' s hv
    | nx ρ' => exact fun σ' H' ⟨T', ow', sm'⟩ => q .non .none H' hr' sm'.old .non
    | bk ρ' => exact hr'.elim
    | ct ρ' => exact hr'.elim
    | ex o => exact hr'.elim
theorem xs_callF {f : Addr} {g : List PyData → Option PyData} {ta : TA} {φs : Rho → Option (List PyData)} {E : XK} (ha : EvAS K ta φs) : EvS K (tCall (spDF K f g) [] E (tCons (tC (.ref f)) ta)) (eCb g φs) := fun S H0 G T ow ρ σ H e sm he Q q => by
  obtain ⟨xs, h1, h2⟩ := Option.bind_eq_some_iff.mp he
  refine ha S H0 G T ow ρ σ H xs sm h1 _ fun vs H1 s1 hv => ?_
  show spDF K f g ((.ref f :: vs) ++ []) H1 Q E
  rw [List.append_nil]
  exact ⟨vs, rfl, T, xs, e, sm.tr.same s1, hv, h2, fun v H2 s2 hd => q v H2 (s1.trans s2) hd⟩
end
end Pb

set_option Elab.async false
set_option linter.all false
set_option maxRecDepth 100000
namespace Pb
open PySem PySem.Spec PyProof.Rows L2
/-! ### xs[i] -= e -/
def rIxP (K : PySem.W.Frag) : R2 := fun x y H Q => ∃ p xs i v, x = .ref p ∧ y = .int i ∧ SqL K H p xs ∧ 0 ≤ i ∧ atI xs i = some v ∧ Q v H
theorem get_list {X : Cx} : PGet X (rIxP X.K) := by
  intro pins s σ H o i ov iv Q I ro ri h
  obtain ⟨p, xs, k, z, rfl, rfl, hq, h0, he, q⟩ := h
  cases ro
  obtain ⟨t, rfl⟩ := ri
  obtain ⟨its, r, pl, hz⟩ := I.list hq
  obtain ⟨j, h1, h2, h3, h4, h5⟩ := atI_get he
  obtain ⟨w, ew, rw'⟩ := r.get h2
  have hl := r.length
  have hn := line63
  have hj : k.toNat = j := by
    rw [seqIndex_of h0 h5] at h1
    exact Option.some.inj h1
  exact wpAny_getItem_list pl.isList h0 (by omega) (by rw [hj]; simpa using ew) ⟨z, H, I, rw', q⟩
theorem pgK {X : Cx} {K : PySem.W.Frag} (hK : X.K = K) : PGet X (rIxP K) := hK ▸ get_list
def sAugP (i : Nat) (f : PyData → PyData → Option PyData) (φi φ : Rho → Option PyData) : Rho → Option Res := fun ρ => (ro ρ i).bind fun es => ((φi ρ).bind asI).bind fun k => if 0 ≤ k then (atI es k).bind fun x => (φ ρ).bind fun y => (f x y).bind fun z => (ixN es.length k).map fun j => .nx (ρ.set i (.own (es.set j z))) else none
theorem ss_augP {K : PySem.W.Frag} {cl : Str → Addr} {E : XK} {te ti : TE} {i : Nat} {g : Int → Int → Int} {φ φi : Rho → Option PyData} (hi : EvTr K ti φi) (h : EvTr K te φ) : StP K cl E (tAugS (tVar i) ti te (rIxP K) (ipI g) rSetL) (sAugP i (fI fun a b => .int (g a b)) φi φ) := fun S H0 G ρ σ H r ⟨T, ow, sm⟩ he D q => by
  obtain ⟨es, h1, h2⟩ := Option.bind_eq_some_iff.mp he
  obtain ⟨k, h3, h4⟩ := Option.bind_eq_some_iff.mp h2
  obtain ⟨u, h5, h6⟩ := Option.bind_eq_some_iff.mp h3
  obtain rfl := asI_some h6
  split at h4
  · rename_i k0
    obtain ⟨x, h7, h8⟩ := Option.bind_eq_some_iff.mp h4
    obtain ⟨y, h9, h10⟩ := Option.bind_eq_some_iff.mp h8
    obtain ⟨z, h11, h12⟩ := Option.bind_eq_some_iff.mp h10
    obtain ⟨j, h13, rfl⟩ := Option.map_eq_some_iff.mp h12
    obtain ⟨o, ho, fo, vs, rfl, _, k2, k3⟩ := sm.slot i _ (ro_some h1)
    refine ⟨.ref fo, ho, hi S H0 G T ow ρ σ H _ sm h5 _ fun iv H1 s1 hiv => ?_⟩
    obtain ⟨v, e1, dv⟩ := atI_da k3 h7
    refine ⟨fo, vs, k, v, rfl, hiv.int, SqL.of (s1 _ _ k2), k0, e1, ?_⟩
    refine h S H0 G T ow ρ σ H1 y (sm.mono s1) h9 _ fun w H2 s2 hw => ?_
    unfold fI at h11
    split at h11
    · rename_i a b
      cases h11
      refine ⟨a, b, ?_, hw.int, fo, vs, k, j, rfl, hiv.int, (s1.trans s2) _ _ k2, ?_, ?_⟩
      · cases dv
        rfl
      · rw [DaAll.len k3]
        exact h13
      · exact q σ _ ((sm.mono (s1.trans s2)).chg (ro_some h1) ho (DaAll.setAt (.int _) j (k3.mono (hs_mono (s1.trans s2))))).sim
    · cases h11
  · cases h4
theorem sAugP_of {i : Nat} {φi φ : Rho → Option PyData} {ρ : Rho} {ns : List Int} {k y : Int} {g : Int → Int → Int} (h2 : ro ρ i = some (ns.map PyData.int)) (h3 : φi ρ = some (.int k)) (h1 : φ ρ = some (.int y)) (hk : 0 ≤ k ∧ k < (ns.length : Int)) :
    sAugP i (fI fun a b => .int (g a b)) φi φ ρ = some (.nx (ρ.set i (.own ((ns.set k.toNat (g (ns.getD k.toNat 0) y)).map PyData.int)))) := by
  unfold sAugP
  rw [h2, h3, h1]
  have kl : k.toNat < ns.length := by omega
  have ix : ixN (ns.map PyData.int).length k = some k.toNat := by
    unfold ixN
    rw [if_pos hk.1, if_pos (by rw [List.length_map]; exact hk.2)]
  have at' : atI (ns.map PyData.int) k = some (.int (ns.getD k.toNat 0)) := by
    unfold atI
    rw [ix]
    show (ns.map PyData.int)[k.toNat]? = _
    rw [List.getElem?_map, List.getElem?_eq_getElem kl, List.getD_eq_getElem?_getD, List.getElem?_eq_getElem kl]
    rfl
  show (if 0 ≤ k then (atI (ns.map PyData.int) k).bind _ else none) = _
  rw [if_pos hk.1, at']
  show (ixN (ns.map PyData.int).length k).map _ = _
  rw [ix]
  show some (Res.nx (ρ.set i (.own ((ns.map PyData.int).set k.toNat (.int (g (ns.getD k.toNat 0) y)))))) = _
  rw [← List.map_set]
end Pb

set_option Elab.async false
set_option linter.all false
set_option maxRecDepth 100000
namespace Pb
open PySem PySem.Spec PyProof.Rows L2
/-! ### sum of a tuple -/
def rSumT (K : PySem.W.Frag) : List V → Hp → VK → Prop := fun vs H Q => ∃ (a : Addr) (ns : List Int), vs = [V.ref a] ∧ SqT K H a (ns.map V.int) ∧ Q (.int ns.sum) H
theorem cr_sumT {X : Cx} (hc : X.calm = true) : CallR X (.builtin "sum") (rSumT X.K) := by
  intro pins s σ H vs us Q I r h
  obtain ⟨a, ns, rfl, hs, q⟩ := h
  obtain ⟨its, rv, hl, _⟩ := I.tuple hs
  rw [Vals.ref1 r]
  have hi := rv.ints
  obtain ⟨xs, e⟩ := hi.allInts.items
  have hn : numsOf (intItems xs).toList = ns := by rw [← e]; exact hi.numsOf
  rw [nums_intItems] at hn
  have hl' : s.heap.IsTuple a its.toArray := hl
  rw [e] at hl'
  refine PySem.W.ktm_sumG (I.ok.hd hc) hl' fun h' tk t' hk => ?_
  rw [preSum_eq, List.take_of_length_le (by simp), hn]
  exact ⟨.int _, H, I.kept hk, ⟨_, rfl⟩, q⟩
def fSumT : List PyData → Option PyData
  | [.tuple es] => (intsD es).map fun ns => .int ns.sum
  | _ => none
theorem cs_sumT {K : PySem.W.Frag} : CbS K (rSumT K) fSumT := fun T H xs ds e tr h he Q q => by
  unfold fSumT at he
  split at he
  · obtain ⟨ns, k1, rfl⟩ := Option.map_eq_some_iff.mp he
    cases h with
    | cons h1 h2 =>
      cases h2
      obtain ⟨p, ys, rfl, hq, hd, _⟩ := h1.tup
      rw [ints_v hd k1] at hq
      exact ⟨p, ns, rfl, hq, q _ H (Same.refl _) (.int _)⟩
  · cases he
theorem sumT_ints (ks : List Int) : fSumT [offD ks] = some (.int ks.sum) := by
  show ((intsD (ks.map PyData.int)).map fun ns => PyData.int ns.sum) = _
  rw [intsD_ints]
  rfl
end Pb

set_option Elab.async false
set_option linter.all false
set_option maxRecDepth 100000
namespace Pb
open PySem PySem.Spec PyProof.Rows L2
section
variable {P : Program} {w : World} {K : PySem.W.Frag} {mg : Str → Option Value} {base : Heap}
def q_is_integer : List PyData → Option PyData := runF 1 1
  ((sRet (eAnd (eUn (fIsi "int") (eVar 0)) (eNot (eUn (fIsi "bool") (eVar 0))))))
def q_is_number_below : List PyData → Option PyData := runF 2 2
  ((sRet (eAnd (eCb q_is_integer (aCons (eVar 0) aNil)) (eChain fLe fLt (eInt 0) (eVar 0) (eVar 1)))))
def q_is_tuple_of : List PyData → Option PyData := runF 2 2
  ((sRet (eAnd (eUn (fIsi "tuple") (eVar 0)) (eOp fEq (eCb fLen (aCons (eVar 0) aNil)) (eVar 1)))))
def q_is_distinct_below : List PyData → Option PyData := runF 3 2
  ((sSeq (sIf (bNot (bTest (eUn (fIsi "tuple") (eVar 0)))) (sRet (eBl false)) sNil)
  (sSeq (sIf (bNot (bTest (eCb fAll (aCons (eL (lLc [2] (iT (eVar 0)) (gN 2) bYes (eCb q_is_number_below (aCons (eVar 2) (aCons (eVar 1) aNil))))) aNil)))) (sRet (eBl false)) sNil)
  (sRet (eOp fEq (eUn fLenSet (eVar 0)) (eCb fLen (aCons (eVar 0) aNil)))))))
def q__law_whole : List PyData → Option PyData := runF 1 1
  ((sRet (eAnd (eUn (fIsi "int") (eVar 0)) (eNot (eUn (fIsi "bool") (eVar 0))))))
end
end Pb

set_option Elab.async false
set_option linter.all false
set_option maxRecDepth 100000
namespace Pb
open PySem PySem.Spec PyProof.Rows L2
/-! ### small defs evaluated -/
theorem q_int (x : PyData) : q_is_integer [x] = some (.bool (isInt x)) := by
  refine runF_of rfl (sRet_of ?_)
  show (if isI "int" x then some (PyData.bool (!isI "bool" x)) else some (.bool false)) = some (.bool (isI "int" x && !isI "bool" x))
  cases isI "int" x <;> rfl
theorem q_whole (x : PyData) : q__law_whole [x] = some (.bool (isInt x)) := q_int x
theorem q_num (x : PyData) (c : Int) : q_is_number_below [x, .int c] = some (.bool (numBelow x c)) := by
  cases x with
  | int i =>
    show (match (((if decide (0 ≤ i) = true then some (PyData.bool (decide (i < c))) else some (.bool false)) : Option PyData).map Res.rt) with
      | some (.rt e) => some e
      | some (.nx _) => some .none
      | _ => none) = some (.bool (decide (0 ≤ i) && decide (i < c)))
    cases decide (0 ≤ i) <;> rfl
  | none => rfl
  | bool _ => rfl
  | str _ => rfl
  | list _ => rfl
  | tuple _ => rfl
  | dict _ => rfl
theorem num_iff {x : PyData} {c : Int} : numBelow x c = true ↔ ∃ i : Int, x = .int i ∧ 0 ≤ i ∧ i < c := by
  cases x with
  | int i =>
    show (decide (0 ≤ i) && decide (i < c)) = true ↔ _
    simp only [Bool.and_eq_true, decide_eq_true_eq]
    exact ⟨fun h => ⟨i, rfl, h⟩, fun ⟨j, e, h⟩ => by cases e; exact h⟩
  | _ => exact ⟨fun h => (by cases h), fun ⟨_, e, _⟩ => (by cases e)⟩
/-- a tuple of n things -/
def tupLen : PyData → Int → Bool
  | .tuple es, n => decide ((es.length : Int) = n)
  | _, _ => false
theorem q_tupOf (x : PyData) (n : Int) : q_is_tuple_of [x, .int n] = some (.bool (tupLen x n)) := by
  cases x <;> rfl
/-! ### comprehensions over data: tests alone, values alone -/
theorem lLc_map {vs : List Nat} {it : Rho → Option (List PyData)} {τ : PyData → Rho → Option Rho} {φ : Rho → Option PyData} {ρ : Rho} {es : List PyData} (v : PyData → PyData) (hi : it ρ = some es) (hl : es.length ≤ 100000)
    (h : ∀ e ∈ es, ∃ ρ', τ e (wipeR ρ vs) = some ρ' ∧ φ ρ' = some (v e)) : lLc vs it τ bYes φ ρ = some (es.map v) := by
  have := lLc_of (vs := vs) (it := it) (τ := τ) (β := bYes) (φ := φ) (ρ := ρ) (fun _ => true) v hi hl fun e he => by
    obtain ⟨ρ', h1, h2⟩ := h e he
    exact ⟨ρ', h1, rfl, fun _ => h2⟩
  rw [this, List.filter_eq_self.mpr fun _ _ => rfl]
theorem lLc_filter {vs : List Nat} {it : Rho → Option (List PyData)} {τ : PyData → Rho → Option Rho} {β : Rho → Option Bool} {φ : Rho → Option PyData} {ρ : Rho} {es : List PyData} (b : PyData → Bool) (hi : it ρ = some es) (hl : es.length ≤ 100000)
    (h : ∀ e ∈ es, ∃ ρ', τ e (wipeR ρ vs) = some ρ' ∧ β ρ' = some (b e) ∧ φ ρ' = some e) : lLc vs it τ β φ ρ = some (es.filter b) := by
  have := lLc_of (vs := vs) (it := it) (τ := τ) (β := β) (φ := φ) (ρ := ρ) b id hi hl fun e he => by
    obtain ⟨ρ', h1, h2, h3⟩ := h e he
    exact ⟨ρ', h1, h2, fun _ => h3⟩
  rw [this, List.map_id]
/-- all([..]) -/
theorem fAll_map (b : PyData → Bool) (es : List PyData) : fAll [.list (es.map fun e => .bool (b e))] = some (.bool (es.all b)) := by
  have e : (es.map fun e => PyData.bool (b e)) = (es.map b).map PyData.bool := by rw [List.map_map]; rfl
  show ((bools (es.map fun e => PyData.bool (b e))).map fun bs => PyData.bool (bs.all id)) = _
  rw [e, bools_map]
  show some (PyData.bool ((es.map b).all id)) = _
  rw [List.all_map]
  rfl
theorem inL_ints {d : Int} : ∀ o : List Int, inL (.int d) (o.map PyData.int) = decide (d ∈ o)
  | [] => rfl
  | x :: o => by
    show (PyData.eqv (.int x) (.int d) || inL (.int d) (o.map PyData.int)) = _
    rw [inL_ints o]
    have e : PyData.eqv (.int x) (.int d) = decide (x = d) := by
      simp only [PyData.eqv]
      first | rfl | (by_cases h : x = d <;> simp [h])
    rw [e, Bool.eq_iff_iff, Bool.or_eq_true, decide_eq_true_iff, decide_eq_true_iff, decide_eq_true_iff, List.mem_cons]
    exact ⟨fun h => h.imp Eq.symm id, fun h => h.imp Eq.symm id⟩
theorem flat_ints : ∀ o : List Int, (o.map PyData.int).all flatD = true
  | [] => rfl
  | _ :: o => flat_ints o
def lstD (a : List Int) : PyData := .list (a.map PyData.int)
theorem fIn_tup (d : Int) (o : List Int) : fIn (.int d) (offD o) = some (.bool (decide (d ∈ o))) := by
  show (if (true && (o.map PyData.int).all flatD) = true then _ else _) = _
  rw [flat_ints, Bool.true_and, if_pos rfl, inL_ints]
theorem fIn_lst (d : Int) (o : List Int) : fIn (.int d) (lstD o) = some (.bool (decide (d ∈ o))) := fIn_tup d o
theorem fNin_lst (d : Int) (o : List Int) : fNin (.int d) (lstD o) = some (.bool (!decide (d ∈ o))) := by
  show (if (true && (o.map PyData.int).all flatD) = true then _ else _) = _
  rw [flat_ints, Bool.true_and, if_pos rfl, inL_ints]
theorem fNin_tup (d : Int) (o : List Int) : fNin (.int d) (offD o) = some (.bool (!decide (d ∈ o))) := fNin_lst d o
theorem filter_ints (f : Int → Bool) : ∀ o : List Int, ((o.map PyData.int).filter fun e => f (intOf e)) = (o.filter f).map PyData.int := fun o => by
  rw [List.filter_map]
  rfl
theorem okL {ds : List PyData} (h : okD (.tuple ds) = true) : ds.length ≤ 60 := by
  simp only [okD, Bool.and_eq_true, decide_eq_true_eq] at h
  exact h.1
theorem okAll_mem {ds : List PyData} (h : okAll ds = true) : ∀ x ∈ ds, okD x = true := by
  induction ds with
  | nil => exact fun x hx => absurd hx List.not_mem_nil
  | cons d ds ih =>
    simp only [okAll, Bool.and_eq_true] at h
    intro x hx
    rcases List.mem_cons.mp hx with rfl | hx
    · exact h.1
    · exact ih h.2 x hx
theorem okT_mem {ds : List PyData} (h : okD (.tuple ds) = true) : ∀ x ∈ ds, okD x = true := by
  simp only [okD, Bool.and_eq_true, decide_eq_true_eq] at h
  exact okAll_mem h.2
/-! ### is_distinct_below -/
theorem sortU_len_le : ∀ {ns : List Int}, (sortU ns).length ≤ ns.length
  | [] => Nat.le_refl _
  | x :: ns => by
    have ih := sortU_len_le (ns := ns)
    have : ∀ l : List Int, (insU x l).length ≤ l.length + 1 := by
      intro l
      induction l with
      | nil => simp [insU]
      | cons y l ih =>
        unfold insU
        split
        · simp
        · split
          · simp
          · simp only [List.length_cons]
            omega
    have := this (sortU ns)
    show (insU x (sortU ns)).length ≤ _
    rw [List.length_cons]
    omega
theorem insU_len_eq {x : Int} : ∀ {l : List Int}, (insU x l).length = l.length + 1 → x ∉ l ∨ ¬ l.Pairwise (· < ·)
  | [], _ => .inl List.not_mem_nil
  | y :: l, h => by
    by_cases hp : (y :: l).Pairwise (· < ·)
    · obtain ⟨h1, h2⟩ := List.pairwise_cons.mp hp
      unfold insU at h
      split at h
      · rename_i hx
        refine .inl fun hm => ?_
        rcases List.mem_cons.mp hm with rfl | hm
        · omega
        · have := h1 x hm
          omega
      · split at h
        · simp at h
        · rename_i ne
          simp only [List.length_cons] at h
          rcases insU_len_eq (x := x) (l := l) (by omega) with k | k
          · exact .inl fun hm => (List.mem_cons.mp hm).elim ne k
          · exact absurd h2 k
    · exact .inr hp
theorem sortU_len_iff : ∀ {ns : List Int}, (sortU ns).length = ns.length ↔ ns.Nodup
  | [] => by simp [sortU]
  | x :: ns => by
    constructor
    · intro h
      have h' : (insU x (sortU ns)).length = ns.length + 1 := h
      have le := sortU_len_le (ns := ns)
      have le2 : (insU x (sortU ns)).length ≤ (sortU ns).length + 1 := by
        have : ∀ l : List Int, (insU x l).length ≤ l.length + 1 := by
          intro l
          induction l with
          | nil => simp [insU]
          | cons y l ih =>
            unfold insU
            split
            · simp
            · split
              · simp
              · simp only [List.length_cons]
                omega
        exact this _
      have e1 : (sortU ns).length = ns.length := by omega
      refine List.nodup_cons.mpr ⟨?_, sortU_len_iff.mp e1⟩
      rcases insU_len_eq (x := x) (l := sortU ns) (by omega) with k | k
      · exact fun z => k (sortU_mem.mpr z)
      · exact absurd sortU_lt k
    · intro h
      exact nodup_same_len sortU_nodup h fun k => sortU_mem
def distB (x : PyData) (c : Int) : Bool := match x with
  | .tuple es => (es.all fun e => numBelow e c) && match intsD es with
    | some ns => decide (ns.Nodup)
    | none => false
  | _ => false
theorem dist_iff {x : PyData} {c : Int} : distB x c = true ↔ ∃ ns : List Int, x = offD ns ∧ (∀ i ∈ ns, 0 ≤ i ∧ i < c) ∧ ns.Nodup := by
  cases x with
  | tuple es =>
    simp only [distB, Bool.and_eq_true]
    constructor
    · rintro ⟨h1, h2⟩
      obtain ⟨ns, rfl⟩ := all_ints (ds := es) fun e he => by
        obtain ⟨i, rfl, _⟩ := num_iff.mp (List.all_eq_true.mp h1 e he)
        exact isInt_iff.mpr ⟨i, rfl⟩
      rw [intsD_ints] at h2
      refine ⟨ns, rfl, fun i hi => ?_, of_decide_eq_true h2⟩
      obtain ⟨j, e, hj⟩ := num_iff.mp (List.all_eq_true.mp h1 _ (List.mem_map_of_mem hi))
      cases e
      exact hj
    · rintro ⟨ns, e, h1, h2⟩
      cases e
      refine ⟨List.all_eq_true.mpr fun e he => ?_, ?_⟩
      · obtain ⟨i, hi, rfl⟩ := List.mem_map.mp he
        exact num_iff.mpr ⟨i, rfl, h1 i hi⟩
      · rw [intsD_ints]
        exact decide_eq_true h2
  | _ => exact ⟨fun h => (by cases h), fun ⟨_, e, _⟩ => (by cases e)⟩
theorem lenSet_ints {ns : List Int} (h : ns.length ≤ 1000) : fLenSet (offD ns) = some (.int ((sortU ns).length : Nat)) := by
  show (Option.bind (intsD (ns.map PyData.int)) _) = _
  rw [intsD_ints]
  show (if ns.length ≤ 1000 then _ else _) = _
  rw [if_pos h]
theorem fEq_int (i j : Int) : fEq (.int i) (.int j) = some (.bool (decide (i = j))) := rfl
theorem q_dist {x : PyData} (c : Int) (ok : okD x = true) : q_is_distinct_below [x, .int c] = some (.bool (distB x c)) := by
  cases x with
  | tuple es =>
    have hl := okL ok
    refine runF_of rfl ((sSeq_nx ((sIf_f rfl).trans rfl)).trans ?_)
    have k : lLc [2] (iT (eVar 0)) (gN 2) bYes (eCb q_is_number_below (aCons (eVar 2) (aCons (eVar 1) aNil))) [.val (.tuple es), .val (.int c), .no] = some (es.map fun e => .bool (numBelow e c)) :=
      lLc_map _ rfl (by omega) fun e _ => ⟨_, rfl, eCb_of (aCons_of rfl (aCons_of rfl rfl)) (q_num e c)⟩
    have k2 := bNot_of (bTest_of (φ := eCb fAll (aCons (eL (lLc [2] (iT (eVar 0)) (gN 2) bYes (eCb q_is_number_below (aCons (eVar 2) (aCons (eVar 1) aNil))))) aNil)) (eCb_of (aCons_of (eL_of k) rfl) (fAll_map (fun e => numBelow e c) es)))
    cases ha : es.all fun e => numBelow e c with
    | false =>
      rw [ha] at k2
      refine (sSeq_rt ((sIf_t k2).trans rfl)).trans ?_
      simp only [distB, ha, Bool.false_and]
    | true =>
      rw [ha] at k2
      refine (sSeq_nx ((sIf_f k2).trans rfl)).trans (sRet_of ?_)
      obtain ⟨ns, rfl⟩ := all_ints (ds := es) fun e he => by
        obtain ⟨i, rfl, _⟩ := num_iff.mp (List.all_eq_true.mp ha e he)
        exact isInt_iff.mpr ⟨i, rfl⟩
      rw [List.length_map] at hl
      refine (eOp_of (f := fEq) (x := .int ((sortU ns).length : Nat)) (y := .int (ns.length : Nat)) (lenSet_ints (by omega)) ?_ (fEq_int _ _)).trans ?_
      · show some (PyData.int (((ns.map PyData.int).length : Nat) : Int)) = _
        rw [List.length_map]
      · simp only [distB, ha, Bool.true_and, intsD_ints]
        congr 2
        rw [Bool.eq_iff_iff, decide_eq_true_iff, decide_eq_true_iff, ← sortU_len_iff]
        omega
  | _ => rfl
end Pb

set_option Elab.async false
set_option linter.all false
set_option maxRecDepth 100000
namespace Pb
open PySem PySem.Spec PyProof.Rows L2
/-! ### loops that check each item -/
theorem forR_all {B : PyData → Rho → Option Res} (I : Rho → Prop) (b : PyData → Bool) (r0 : PyData) : ∀ {es : List PyData}, (∀ e ∈ es, ∀ ρ, I ρ → (b e = true → ∃ ρ', B e ρ = some (.nx ρ') ∧ I ρ') ∧ (b e = false → B e ρ = some (.rt r0))) →
    ∀ ρ, I ρ → (es.all b = true → ∃ ρ', forR B es ρ = some (.nx ρ') ∧ I ρ') ∧ (es.all b = false → forR B es ρ = some (.rt r0))
  | [], _, ρ, hI => ⟨fun _ => ⟨ρ, rfl, hI⟩, fun h => (by cases h)⟩
  | e :: es, h, ρ, hI => by
    obtain ⟨h1, h2⟩ := h e List.mem_cons_self ρ hI
    rw [List.all_cons]
    cases hb : b e with
    | false =>
      rw [Bool.false_and]
      refine ⟨fun z => (by cases z), fun _ => ?_⟩
      unfold forR
      rw [h2 hb]
      rfl
    | true =>
      rw [Bool.true_and]
      obtain ⟨ρ', e1, I1⟩ := h1 hb
      have ih := forR_all I b r0 (es := es) (fun x hx => h x (List.mem_cons_of_mem _ hx)) ρ' I1
      unfold forR
      rw [e1]
      exact ih
/-! ### enumerate, items -/
theorem mem_enumD {xs : List PyData} {e : PyData} : e ∈ enumD xs ↔ ∃ (k : Nat) (x : PyData), xs[k]? = some x ∧ e = .tuple [.int (k : Int), x] := by
  unfold enumD
  rw [List.mem_map]
  constructor
  · rintro ⟨⟨x, k⟩, h, rfl⟩
    exact ⟨k, x, List.mem_zipIdx_iff_getElem?.mp h, rfl⟩
  · rintro ⟨k, x, h, rfl⟩
    exact ⟨(x, k), List.mem_zipIdx_iff_getElem?.mpr h, rfl⟩
theorem ixT_at {xs : List PyData} {k : Nat} {x : PyData} (h : xs[k]? = some x) : fIxT (.tuple xs) (.int (k : Int)) = some x := atI_nat h
theorem ixL_at {xs : List PyData} {k : Nat} {x : PyData} (h : xs[k]? = some x) : fIxL (.list xs) (.int (k : Int)) = some x := atI_nat h
theorem ixT_int {ns : List Int} {k : Nat} {i : Int} (h : ns[k]? = some i) : fIxT (offD ns) (.int (k : Int)) = some (.int i) := ixT_at (by rw [List.getElem?_map, h]; rfl)
theorem ixT_off {os : List (List Int)} {k : Nat} {o : List Int} (h : os[k]? = some o) : fIxT (.tuple (os.map offD)) (.int (k : Int)) = some (offD o) := ixT_at (by rw [List.getElem?_map, h]; rfl)
theorem len_off (ns : List Int) : fLen [offD ns] = some (.int (ns.length : Nat)) := by
  show some (PyData.int (((ns.map PyData.int).length : Nat) : Int)) = _
  rw [List.length_map]
theorem len_offs (os : List (List Int)) : fLen [.tuple (os.map offD)] = some (.int (os.length : Nat)) := by
  show some (PyData.int (((os.map offD).length : Nat) : Int)) = _
  rw [List.length_map]
theorem sorted_ints (ns : List Int) : fSorted [.list (ns.map PyData.int)] = some ((sortI ns).map PyData.int) := by
  show ((intsD (ns.map PyData.int)).map _) = _
  rw [intsD_ints]
  rfl
theorem sortI_same {l r : List Int} (h : l.Nodup) (h' : r.Nodup) : sortI l = sortI r ↔ ∀ k, k ∈ l ↔ k ∈ r := by
  constructor
  · intro e k
    rw [← (sortI_perm (ns := l)).mem_iff, e, (sortI_perm (ns := r)).mem_iff]
  · intro hm
    exact strict_eq (nodup_sortI h) (nodup_sortI h') fun k => by rw [sortI_perm.mem_iff, sortI_perm.mem_iff, hm]
theorem fCat_ints {a b : List Int} (h : a.length + b.length ≤ 100000) : fCat (offD a) (offD b) = some (offD (a ++ b)) := by
  show (if (a.map PyData.int).length + (b.map PyData.int).length ≤ 100000 then _ else _) = _
  rw [if_pos (by simpa using h), ← List.map_append]
  rfl
theorem nodup_ix {l : List Int} (h : l.Nodup) {i j : Nat} {a : Int} (hi : l[i]? = some a) (hj : l[j]? = some a) : i = j := by
  obtain ⟨i1, i2⟩ := List.getElem?_eq_some_iff.mp hi
  obtain ⟨j1, j2⟩ := List.getElem?_eq_some_iff.mp hj
  have p := List.pairwise_iff_getElem.mp h
  rcases Nat.lt_trichotomy i j with z | z | z
  · exact absurd (i2.trans j2.symm) (p i j i1 j1 z)
  · exact z
  · exact absurd (j2.trans i2.symm) (p j i j1 i1 z)
end Pb

set_option Elab.async false
set_option linter.all false
set_option maxRecDepth 100000
namespace Pb
open PySem PySem.Spec PyProof.Rows L2
/-! ### data of a bounded size -/
structure Gw (W D : Nat) (e : PyData) : Prop where
  ok : okD e = true
  w : wt e ≤ W
  dp : e.depth ≤ D
theorem Gw.mono {W W' D D' : Nat} {e : PyData} (h : Gw W D e) (hW : W ≤ W' := by omega) (hD : D ≤ D' := by omega) : Gw W' D' e := ⟨h.ok, Nat.le_trans h.w hW, Nat.le_trans h.dp hD⟩
theorem Gw.gs {W D : Nat} {e : PyData} (h : Gw W D e) (hW : W ≤ 1000000 := by decide) (hD : D ≤ 20 := by decide) : Gs e := ⟨h.ok, Nat.le_trans h.w hW, Nat.le_trans h.dp hD⟩
theorem gw_int {i : Int} (h : i.natAbs < 10 ^ 80) : Gw 81 0 (.int i) := ⟨by simp only [okD, decide_eq_true_eq]; exact h, Nat.le_refl _, by simp [PyData.depth]⟩
theorem gw_all {W D : Nat} : ∀ {es : List PyData}, (∀ e ∈ es, Gw W D e) → okAll es = true ∧ wtAll es ≤ es.length * (W + 2) ∧ PyData.depthAll es ≤ D
  | [], _ => ⟨rfl, by simp [wtAll], by simp [PyData.depthAll]⟩
  | e :: es, h => by
    have h1 := h e List.mem_cons_self
    obtain ⟨a, b, c⟩ := gw_all (es := es) fun x hx => h x (List.mem_cons_of_mem _ hx)
    refine ⟨by simp only [okAll, h1.ok, a, Bool.and_true], ?_, ?_⟩
    · simp only [wtAll, List.length_cons, Nat.succ_mul]
      have := h1.w
      omega
    · simp only [PyData.depthAll]
      have := h1.dp
      omega
theorem gw_tup {W D L : Nat} {es : List PyData} (h : ∀ e ∈ es, Gw W D e) (hl : es.length ≤ L) (hL : L ≤ 60 := by decide) : Gw (L * (W + 2) + 3) (D + 1) (.tuple es) := by
  obtain ⟨a, b, c⟩ := gw_all h
  have : es.length * (W + 2) ≤ L * (W + 2) := Nat.mul_le_mul hl (Nat.le_refl _)
  refine ⟨?_, ?_, ?_⟩
  · simp only [okD, a, Bool.and_true, decide_eq_true_eq]
    omega
  · simp only [wt]
    omega
  · simp only [PyData.depth]
    omega
theorem gw_lst {W D L : Nat} {es : List PyData} (h : ∀ e ∈ es, Gw W D e) (hl : es.length ≤ L) (hL : L ≤ 60 := by decide) : Gw (L * (W + 2) + 3) (D + 1) (.list es) := by
  obtain ⟨a, b, c⟩ := gw_all h
  have : es.length * (W + 2) ≤ L * (W + 2) := Nat.mul_le_mul hl (Nat.le_refl _)
  refine ⟨?_, ?_, ?_⟩
  · simp only [okD, a, Bool.and_true, decide_eq_true_eq]
    omega
  · simp only [wt]
    omega
  · simp only [PyData.depth]
    omega
theorem gw_off {L : Nat} {ns : List Int} (h : ∀ i ∈ ns, i.natAbs < 10 ^ 80) (hl : ns.length ≤ L) (hL : L ≤ 60 := by decide) : Gw (L * 83 + 3) 1 (offD ns) := gw_tup (fun e he => by
  obtain ⟨i, hi, rfl⟩ := List.mem_map.mp he
  exact gw_int (h i hi)) (by rw [List.length_map]; exact hl) hL
theorem gw_bnt {W D : Nat} {e e' : PyData} (h : Gw W D e) (b : Bnt e e') : Gw (2 * W + 2200) (D + 2) e' := ⟨b.ok, by have := b.w; have := h.w; omega, by have := b.dp; have := h.dp; omega⟩
theorem gw_odd {e : PyData} (h : e ∈ oddL) : Gw 2100 2 e := by
  obtain ⟨a, b, c, _⟩ := odd_ok h
  exact ⟨a, b, c⟩
/-! ### a well-formed table -/
structure Tb (m : Nat) (os : List (List Int)) : Prop where
  m1 : 1 ≤ m
  m10 : m ≤ 10
  len : os.length ≤ 10
  off : ∀ o ∈ os, OffOk m o
theorem cutG_map {α β : Type} (f : α → β) (xs : List α) (lo hi : Option Int) : cutG (xs.map f) lo hi = (cutG xs lo hi).map f := by
  unfold cutG
  rw [List.length_map, List.map_take, List.map_drop]
theorem slT_ints {φ : Rho → Option PyData} {lo hi : Rho → Option (Option Int)} {ρ : Rho} {ns : List Int} {l h : Option Int} (h1 : φ ρ = some (offD ns)) (h2 : lo ρ = some l) (h3 : hi ρ = some h) : eSlT φ lo hi ρ = some (offD (cutG ns l h)) := by
  unfold eSlT
  rw [h1]
  show ((lo ρ).bind fun l => (hi ρ).map fun h => PyData.tuple (cutG (ns.map PyData.int) l h)) = _
  rw [h2, h3]
  show some (PyData.tuple (cutG (ns.map PyData.int) l h)) = _
  rw [cutG_map]
  rfl
theorem revT_ints {φ : Rho → Option PyData} {ρ : Rho} {ns : List Int} (h1 : φ ρ = some (offD ns)) : eRevT φ ρ = some (offD ns.reverse) := by
  unfold eRevT
  rw [h1]
  show some (PyData.tuple (ns.map PyData.int).reverse) = _
  rw [← List.map_reverse]
  rfl
theorem revT2_ints {φ : Rho → Option PyData} {ρ : Rho} {ns : List Int} (h1 : φ ρ = some (offD ns)) : eRevT2 φ ρ = some (offD ns.dropLast.reverse) := by
  unfold eRevT2
  rw [h1]
  show some (PyData.tuple (ns.map PyData.int).dropLast.reverse) = _
  rw [← List.map_dropLast, ← List.map_reverse]
  rfl
theorem eTup2_of {φ ψ : Rho → Option PyData} {ρ : Rho} {x y : PyData} (h : φ ρ = some x) (k : ψ ρ = some y) : eTup (aCons φ (aCons ψ aNil)) ρ = some (.tuple [x, y]) := by
  unfold eTup
  rw [aCons_of h (aCons_of k rfl)]
  rfl
theorem lim_of {xs : List PyData} (hl : xs.length ≤ 100000) : lim xs = some xs := by
  unfold lim
  rw [if_pos hl]
theorem lLst_of {φs : Rho → Option (List PyData)} {ρ : Rho} {xs : List PyData} (h : φs ρ = some xs) (hl : xs.length ≤ 100000) : lLst φs ρ = some xs := by
  unfold lLst
  rw [h]
  show lim xs = _
  unfold lim
  rw [if_pos hl]
theorem lCat_of {φ ψ : Rho → Option (List PyData)} {ρ : Rho} {xs ys : List PyData} (h : φ ρ = some xs) (k : ψ ρ = some ys) (hl : xs.length + ys.length ≤ 100000) : lCat φ ψ ρ = some (xs ++ ys) := by
  unfold lCat
  rw [h, k]
  show lim (xs ++ ys) = _
  unfold lim
  rw [if_pos (by simpa using hl)]
theorem lCb_of {f : List PyData → Option (List PyData)} {φs : Rho → Option (List PyData)} {xs : List PyData} {o : Option (List PyData)} {ρ : Rho} (h : φs ρ = some xs) (z : f xs = o) : lCb f φs ρ = o := by
  unfold lCb
  rw [h]
  exact z
theorem fEqD_ints (ns ms : List Int) : fEqD (.list (ns.map PyData.int)) (.list (ms.map PyData.int)) = some (.bool (decide (ns = ms))) := by
  have o : ∀ ks : List Int, okE (.list (ks.map PyData.int)) = true := fun ks => by
    unfold okE
    rw [shaped_ints, PyData.hasDict, hasDict_ints]
    rfl
  unfold fEqD
  rw [o, o]
  simp only [PyData.eqv, eqv_ints]
  rfl
end Pb

set_option Elab.async false
set_option linter.all false
set_option maxRecDepth 100000
namespace Pb
open PySem PySem.Spec PyProof.Rows L2
section
variable {P : Program} {w : World} {K : PySem.W.Frag} {mg : Str → Option Value} {base : Heap}
def q_is_order : List PyData → Option PyData := runF 2 2
  ((sRet (eAnd (eCb Pb.q_is_distinct_below (aCons (eVar 0) (aCons (eVar 1) aNil))) (eOp fEq (eCb fLen (aCons (eVar 0) aNil)) (eVar 1)))))
def q_covering_offers : List PyData → Option PyData := runF 6 2
  ((sSeq (sSet (gT (gC (gN 2) (gC (gN 3) g0))) (eVar 0))
  (sSeq (sIf (bNot (bTest (eCb Pb.q_is_number_below (aCons (eVar 1) (aCons (eVar 2) aNil))))) sNever sNil)
  (sRet (eCb fTupOf (aCons (eL (lLc [4, 5] (iET (eVar 3)) (gT (gC (gN 4) (gC (gN 5) g0))) (bTest (eOp fIn (eVar 1) (eVar 5))) (eVar 4))) aNil))))))
def q_covering_pairs : List PyData → Option PyData := runF 5 2
  ((sSeq (sSet (gN 2) (eCb Pb.q_covering_offers (aCons (eVar 0) (aCons (eVar 1) aNil))))
  (sRet (eL (lLc2 [3, 4] [4] (iT (eVar 2)) (gN 3) bYes (iT (eVar 2)) (gN 4) (bTest (eOp fLt (eVar 4) (eVar 3))) (eTup (aCons (eVar 4) (aCons (eVar 3) aNil))))))))
def q_conflict_at : List PyData → Option PyData := runF 10 3
  ((sSeq (sSet (gN 3) (eOp fIxT (eVar 0) (eInt 1)))
  (sSeq (sFor (iL (eCb Pb.q_covering_pairs (aCons (eVar 0) (aCons (eVar 1) aNil)))) (gT (gC (gN 4) (gC (gN 5) g0))) (sSeq (sSet (gN 6) (eL (lLc [8] (iT (eVar 2)) (gN 8) (bAnd (bTest (eOp fIn (eVar 8) (eOp fIxT (eVar 3) (eVar 4)))) (bTest (eOp fNin (eVar 8) (eOp fIxT (eVar 3) (eVar 5))))) (eVar 8))))
  (sSeq (sSet (gN 7) (eL (lLc [9] (iT (eVar 2)) (gN 9) (bAnd (bTest (eOp fIn (eVar 9) (eOp fIxT (eVar 3) (eVar 5)))) (bTest (eOp fNin (eVar 9) (eOp fIxT (eVar 3) (eVar 4))))) (eVar 9))))
  (sIf (bAnd (bTru (eVar 6)) (bTru (eVar 7))) (sRet (eTup (aCons (eVar 1) (aCons (eOp fIxL (eVar 6) (eInt 0)) (aCons (eOp fIxL (eVar 7) (eInt 0)) (aCons (eVar 4) (aCons (eVar 5) aNil))))))) sNil))))
  (sRet eNon))))
def q_find_conflict : List PyData → Option PyData := runF 5 2
  ((sSeq (sIf (bNot (bTest (eCb Pb.q_is_order (aCons (eVar 1) (aCons (eOp fIxT (eVar 0) (eInt 0)) aNil))))) sNever sNil)
  (sSeq (sFor (iET (eVar 1)) (gT (gC (gN 2) (gC (gN 3) g0))) (sSeq (sSet (gN 4) (eCb Pb.q_conflict_at (aCons (eVar 0) (aCons (eVar 3) (aCons (eSlT (eVar 1) (oSome (eOp fAdd (eVar 2) (eInt 1))) oNone) aNil)))))
  (sIf (bTest (eOp fNotN (eVar 4) eNon)) (sRet (eVar 4)) sNil)))
  (sRet eNon))))
def q_is_nested_order : List PyData → Option PyData := runF 2 2
  ((sRet (eAnd (eCb Pb.q_is_order (aCons (eVar 1) (aCons (eOp fIxT (eVar 0) (eInt 0)) aNil))) (eOp fIsN (eCb Pb.q_find_conflict (aCons (eVar 0) (aCons (eVar 1) aNil))) eNon))))
def q__law_is_simple : List PyData → Option PyData := runF 8 3
  ((sSeq (sSet (gN 3) (eL (lLc [6] (iT (eOp fIxT (eVar 0) (eInt 1))) (gN 6) (bTest (eOp fIn (eVar 2) (eVar 6))) (eL (lLc [7] (iT (eVar 6)) (gN 7) (bTest (eOp fIn (eVar 7) (eVar 1))) (eVar 7))))))
  (sSeq (sSet (gN 3) (eL (lSortLen (eVar 3))))
  (sSeq (sFor (iZ (eVar 3) (eL (lSl (eVar 3) (oSome (eInt 1)) oNone))) (gT (gC (gN 4) (gC (gN 5) g0))) (sIf (bTest (eOp fNe0 (eL (lLc [7] (iL (eVar 4)) (gN 7) (bTest (eOp fNin (eVar 7) (eVar 5))) (eVar 7))) (eL (lLst aNil)))) (sRet (eBl false)) sNil))
  (sRet (eBl true))))))
def q__law_order : List PyData → Option PyData := runF 5 1
  ((sSeq (sParOO 1 2 (lRg (eOp fIxT (eVar 0) (eInt 0))) (lLst aNil))
  (sSeq (sWhile 1000 (bTest (eOp fNe0 (eL (lOwn 1)) (eL (lLst aNil)))) (sSeq (sSet (gN 3) (eL (lBor 1 (lLc [4] (iL (eVar 1)) (gN 4) (bTest (eCb Pb.q__law_is_simple (aCons (eVar 0) (aCons (eVar 1) (aCons (eVar 4) aNil))))) (eVar 4)))))
  (sSeq (sIf (bTest (eOp fEq0 (eVar 3) (eL (lLst aNil)))) (sRet (eTup aNil)) sNil)
  (sSeq (sApp 2 (eOp fIxL (eVar 3) (eInt 0)))
  (sRem 1 (eOp fIxL (eVar 3) (eInt 0)))))))
  (sRet (eCb fTupOf (aCons (eL (lOwn 2)) aNil))))))
def q__law_is_order : List PyData → Option PyData := runF 3 2
  ((sSeq (sIf (bOr (bNot (bTest (eUn (fIsi "tuple") (eVar 1)))) (bTest (eOp fNe0 (eL (lLc [2] (iT (eVar 1)) (gN 2) (bNot (bTest (eCb Pb.q__law_whole (aCons (eVar 2) aNil)))) (eVar 2))) (eL (lLst aNil))))) (sRet (eBl false)) sNil)
  (sRet (eOp fEqD (eL (lCb fSortT (aCons (eVar 1) aNil))) (eL (lRg (eOp fIxT (eVar 0) (eInt 0))))))))
def q__law_is_nested : List PyData → Option PyData := runF 3 2
  ((sRet (eOp fEq0 (eL (lLc [2] (iR (eCb fLen (aCons (eVar 1) aNil))) (gN 2) (bNot (bTest (eCb Pb.q__law_is_simple (aCons (eVar 0) (aCons (eSlT (eVar 1) (oSome (eVar 2)) oNone) (aCons (eOp fIxT (eVar 1) (eVar 2)) aNil)))))) (eVar 2))) (eL (lLst aNil)))))
end
end Pb

set_option Elab.async false
set_option linter.all false
set_option maxRecDepth 100000
namespace Pb
open PySem PySem.Spec PyProof.Rows L2
theorem eAnd_t {φ ψ : Rho → Option PyData} {ρ : Rho} (h : φ ρ = some (.bool true)) : eAnd φ ψ ρ = ψ ρ := by
  unfold eAnd
  rw [h]
  rfl
theorem eAnd_f {φ ψ : Rho → Option PyData} {ρ : Rho} (h : φ ρ = some (.bool false)) : eAnd φ ψ ρ = some (.bool false) := by
  unfold eAnd
  rw [h]
  rfl
/-! ### orders -/
def OrdP (m : Nat) (ns : List Int) : Prop := (∀ i ∈ ns, 0 ≤ i ∧ i < (m : Int)) ∧ ns.Nodup ∧ ns.length = m
theorem sub_full {l r : List Int} (h : l.Nodup) (hl : r.length ≤ l.length) (hs : ∀ i ∈ l, i ∈ r) : ∀ i ∈ r, i ∈ l := by
  intro i hi
  by_cases z : i ∈ l
  · exact z
  · have := nodup_len (l := i :: l) (r := r) (List.nodup_cons.mpr ⟨z, h⟩) fun j hj => by
      rcases List.mem_cons.mp hj with rfl | hj
      · exact hi
      · exact hs j hj
    rw [List.length_cons] at this
    omega
theorem upto_nodup (m : Nat) : (upto m).Nodup := (ints_strict m).imp fun h => by omega
theorem ord_iff {m : Nat} {ns : List Int} : OrdP m ns ↔ sortI ns = upto m := by
  constructor
  · rintro ⟨h1, h2, h3⟩
    refine strict_eq (nodup_sortI h2) (ints_strict m) fun k => ?_
    rw [sortI_perm.mem_iff]
    exact ⟨fun hk => mem_ints.mpr (h1 k hk), sub_full h2 (by rw [ints_len]; omega) (fun i hi => mem_ints.mpr (h1 i hi)) k⟩
  · intro h
    have p : ns.Perm (upto m) := by
      rw [← h]
      exact sortI_perm.symm
    exact ⟨fun i hi => mem_ints.mp (p.mem_iff.mp hi), p.nodup_iff.mpr (upto_nodup m), by rw [p.length_eq, ints_len]⟩
theorem OrdP.perm {m : Nat} {ns : List Int} (h : OrdP m ns) : ns.Perm (upto m) := by
  rw [← ord_iff.mp h]
  exact sortI_perm.symm
theorem ordP_perm {m : Nat} {ns : List Int} (p : ns.Perm (upto m)) : OrdP m ns := ⟨fun i hi => mem_ints.mp (p.mem_iff.mp hi), p.nodup_iff.mpr (upto_nodup m), by rw [p.length_eq, ints_len]⟩
def ordB (x : PyData) (m : Nat) : Bool := match x with
  | .tuple es => distB (.tuple es) m && decide ((es.length : Int) = (m : Int))
  | _ => false
theorem ord_true {x : PyData} {m : Nat} : ordB x m = true ↔ ∃ ns, x = offD ns ∧ OrdP m ns := by
  cases x with
  | tuple es =>
    simp only [ordB, Bool.and_eq_true, decide_eq_true_eq, dist_iff]
    constructor
    · rintro ⟨⟨ns, e, h1, h2⟩, h3⟩
      refine ⟨ns, e, h1, h2, ?_⟩
      injection e with e
      rw [e, List.length_map] at h3
      omega
    · rintro ⟨ns, e, h1, h2, h3⟩
      refine ⟨⟨ns, e, h1, h2⟩, ?_⟩
      injection e with e
      rw [e, List.length_map]
      omega
  | _ => exact ⟨fun h => (by cases h), fun ⟨_, e, _⟩ => (by cases e)⟩
theorem q_order {x : PyData} (m : Nat) (ok : okD x = true) : q_is_order [x, .int (m : Nat)] = some (.bool (ordB x m)) := by
  have a : eCb Pb.q_is_distinct_below (aCons (eVar 0) (aCons (eVar 1) aNil)) (rho0 2 [x, .int (m : Nat)]) = some (.bool (distB x m)) := eCb_of (aCons_of rfl (aCons_of rfl rfl)) (q_dist (m : Int) ok)
  refine runF_of rfl (sRet_of ?_)
  cases hd : distB x m with
  | false =>
    rw [hd] at a
    refine (eAnd_f a).trans ?_
    cases x with
    | tuple es => simp only [ordB, hd, Bool.false_and]
    | _ => rfl
  | true =>
    rw [hd] at a
    refine (eAnd_t a).trans ?_
    cases x with
    | tuple es =>
      simp only [ordB, hd, Bool.true_and]
      rfl
    | _ => cases hd
theorem lawOrder {x : PyData} {m : Nat} {os : List (List Int)} (hm : m ≤ 100) (ok : okD x = true) : q__law_is_order [tabD m os, x] = some (.bool (ordB x m)) := by
  cases x with
  | tuple es =>
    have hl := okL ok
    have k1 : (bOr (bNot (bTest (eUn (fIsi "tuple") (eVar 1)))) (bTest (eOp fNe0 (eL (lLc [2] (iT (eVar 1)) (gN 2) (bNot (bTest (eCb Pb.q__law_whole (aCons (eVar 2) aNil)))) (eVar 2))) (eL (lLst aNil))))) (rho0 3 [tabD m os, .tuple es]) = some (!(es.filter fun e => !isInt e).isEmpty) :=
      (bOr_f rfl).trans (bTest_of (eOp_of (eL_of (lLc_filter (es := es) (fun e => !isInt e) rfl (by omega) fun e _ => ⟨_, rfl, bNot_of (bTest_of (eCb_of (aCons_of rfl rfl) (q_whole e))), rfl⟩)) rfl fNe0_of))
    by_cases hi : es.filter (fun e => !isInt e) = []
    · rw [hi] at k1
      obtain ⟨ns, rfl⟩ := all_ints (ds := es) fun d hd => by simpa using List.filter_eq_nil_iff.mp hi d hd
      refine runF_of rfl ((sSeq_nx ((sIf_f k1).trans rfl)).trans (sRet_of ?_))
      refine (eOp_of (eL_of (lCb_of (xs := [offD ns]) (aCons_of rfl rfl) (o := some ((sortI ns).map PyData.int)) ?_)) (eL_of (lRg_of (j := (m : Int)) rfl (by omega) (by omega))) (z := rfl)).trans ?_
      · show ((intsD (ns.map PyData.int)).map _) = _
        rw [intsD_ints]
        rfl
      · rw [rng_ints, fEqD_ints]
        congr 2
        rw [Bool.eq_iff_iff, decide_eq_true_iff, ← ord_iff, ord_true]
        constructor
        · exact fun h => ⟨ns, rfl, h⟩
        · rintro ⟨ns', e, h⟩
          have : ns = ns' := List.map_inj_right (f := PyData.int) (fun x y z => by injection z) |>.mp (by injection e)
          subst this
          exact h
    · have hd : ordB (.tuple es) m = false := by
        cases h : ordB (.tuple es) m with
        | false => rfl
        | true =>
          obtain ⟨ns, e, _⟩ := ord_true.mp h
          injection e with e
          subst e
          refine absurd (List.filter_eq_nil_iff.mpr fun e he => ?_) hi
          obtain ⟨i, _, rfl⟩ := List.mem_map.mp he
          rw [isInt_iff.mpr ⟨i, rfl⟩]
          simp
      rw [hd]
      refine runF_of rfl (sSeq_rt ((sIf_t (k1.trans ?_)).trans rfl))
      cases hh : es.filter (fun e => !isInt e) with
      | nil => exact absurd hh hi
      | cons _ _ => rfl
  | _ => rfl
/-! ### simple demands -/
def pairB (a b : List Int) : Bool := !(!(a.filter fun i => !decide (i ∈ b)).isEmpty && !(b.filter fun i => !decide (i ∈ a)).isEmpty)
def partsL (os : List (List Int)) (ns : List Int) (d : Int) : List (List Int) := (os.filter fun o => decide (d ∈ o)).map fun o => o.filter fun i => decide (i ∈ ns)
def fineB (os : List (List Int)) (ns : List Int) (d : Int) : Bool := (partsL os ns d).all fun a => (partsL os ns d).all fun b => pairB a b
def incl (a b : List Int) : Bool := (a.filter fun i => !decide (i ∈ b)).isEmpty
theorem incl_iff {a b : List Int} : incl a b = true ↔ ∀ i ∈ a, i ∈ b := by
  unfold incl
  rw [List.isEmpty_iff, List.filter_eq_nil_iff]
  simp
theorem pairB_iff {a b : List Int} : pairB a b = true ↔ (∀ i ∈ a, i ∈ b) ∨ (∀ i ∈ b, i ∈ a) := by
  rw [← incl_iff, ← incl_iff]
  unfold pairB incl
  cases (a.filter fun i => !decide (i ∈ b)).isEmpty <;> cases (b.filter fun i => !decide (i ∈ a)).isEmpty <;> decide
theorem fineB_iff {os : List (List Int)} {ns : List Int} {d : Int} : fineB os ns d = true ↔ ∀ o ∈ os, ∀ o' ∈ os, d ∈ o → d ∈ o' → (∀ i ∈ o, i ∈ ns → i ∈ o') ∨ (∀ i ∈ o', i ∈ ns → i ∈ o) := by
  unfold fineB
  rw [List.all_eq_true]
  constructor
  · intro h o ho o' ho' hd hd'
    have h1 : (o.filter fun i => decide (i ∈ ns)) ∈ partsL os ns d := List.mem_map.mpr ⟨o, List.mem_filter.mpr ⟨ho, decide_eq_true hd⟩, rfl⟩
    have h2 : (o'.filter fun i => decide (i ∈ ns)) ∈ partsL os ns d := List.mem_map.mpr ⟨o', List.mem_filter.mpr ⟨ho', decide_eq_true hd'⟩, rfl⟩
    rcases pairB_iff.mp (List.all_eq_true.mp (h _ h1) _ h2) with k | k
    · exact .inl fun i hi hn => (List.mem_filter.mp (k i (List.mem_filter.mpr ⟨hi, decide_eq_true hn⟩))).1
    · exact .inr fun i hi hn => (List.mem_filter.mp (k i (List.mem_filter.mpr ⟨hi, decide_eq_true hn⟩))).1
  · intro h a ha
    rw [List.all_eq_true]
    intro b hb
    obtain ⟨o, h1, rfl⟩ := List.mem_map.mp ha
    obtain ⟨o', h2, rfl⟩ := List.mem_map.mp hb
    obtain ⟨g1, g2⟩ := List.mem_filter.mp h1
    obtain ⟨g3, g4⟩ := List.mem_filter.mp h2
    refine pairB_iff.mpr ?_
    rcases h o g1 o' g3 (of_decide_eq_true g2) (of_decide_eq_true g4) with k | k
    · exact .inl fun i hi => by
        obtain ⟨x, y⟩ := List.mem_filter.mp hi
        exact List.mem_filter.mpr ⟨k i x (of_decide_eq_true y), y⟩
    · exact .inr fun i hi => by
        obtain ⟨x, y⟩ := List.mem_filter.mp hi
        exact List.mem_filter.mpr ⟨k i x (of_decide_eq_true y), y⟩
theorem fineB_congr {os : List (List Int)} {ns ms : List Int} {d : Int} (h : ∀ i, i ∈ ns ↔ i ∈ ms) : fineB os ns d = fineB os ms d := by
  rw [Bool.eq_iff_iff, fineB_iff, fineB_iff]
  simp only [h]
theorem fineB_sub {os : List (List Int)} {ns ms : List Int} {d : Int} (h : fineB os ns d = true) (hs : ∀ i ∈ ms, i ∈ ns) : fineB os ms d = true := by
  rw [fineB_iff] at h ⊢
  intro o ho o' ho' hd hd'
  exact (h o ho o' ho' hd hd').imp (fun k i hi hn => k i hi (hs i hn)) (fun k i hi hn => k i hi (hs i hn))
/-- inclusion one after the other, of lists that are sorted by length -/
def inclChain : List (List Int) → Bool
  | a :: b :: l => incl a b && inclChain (b :: l)
  | _ => true
theorem inclChain_iff : ∀ {l : List (List Int)}, l.Pairwise (fun a b => a.length ≤ b.length) → (∀ a ∈ l, a.Nodup) → (inclChain l = true ↔ ∀ a ∈ l, ∀ b ∈ l, pairB a b = true)
  | [], _, _ => ⟨fun _ a ha => absurd ha List.not_mem_nil, fun _ => rfl⟩
  | [x], _, _ => ⟨fun _ a ha b hb => by
      rw [List.mem_singleton.mp ha, List.mem_singleton.mp hb]
      exact pairB_iff.mpr (.inl fun _ h => h), fun _ => rfl⟩
  | x :: y :: l, h, hn => by
    have hp := List.pairwise_cons.mp h
    have ih := inclChain_iff (l := y :: l) hp.2 fun a ha => hn a (List.mem_cons_of_mem _ ha)
    show (incl x y && inclChain (y :: l)) = true ↔ _
    rw [Bool.and_eq_true, ih, incl_iff]
    constructor
    · rintro ⟨h1, h2⟩
      have up : ∀ b ∈ y :: l, ∀ i ∈ x, i ∈ b := fun b hb i hi => by
        rcases pairB_iff.mp (h2 y List.mem_cons_self b hb) with k | k
        · exact k i (h1 i hi)
        · have l2 : y.length ≤ b.length := by
            rcases List.mem_cons.mp hb with rfl | hb'
            · exact Nat.le_refl _
            · exact (List.pairwise_cons.mp hp.2).1 b hb'
          exact sub_full (hn b (List.mem_cons_of_mem _ hb)) l2 k i (h1 i hi)
      intro a ha b hb
      rcases List.mem_cons.mp ha with rfl | ha'
      · rcases List.mem_cons.mp hb with rfl | hb'
        · exact pairB_iff.mpr (.inl fun _ h => h)
        · exact pairB_iff.mpr (.inl (up b hb'))
      · rcases List.mem_cons.mp hb with rfl | hb'
        · exact pairB_iff.mpr (.inr (up a ha'))
        · exact h2 a ha' b hb'
    · intro h1
      refine ⟨?_, fun a ha b hb => h1 a (List.mem_cons_of_mem _ ha) b (List.mem_cons_of_mem _ hb)⟩
      rcases pairB_iff.mp (h1 x List.mem_cons_self y (List.mem_cons_of_mem _ List.mem_cons_self)) with k | k
      · exact k
      · exact sub_full (hn y (List.mem_cons_of_mem _ List.mem_cons_self)) (hp.1 y List.mem_cons_self) k
theorem dataLe_int {α : Type} (f : α → Nat) (a b : α) : W.dataLe false (fun x => PyData.int (f x : Nat)) a b = decide (f a ≤ f b) := by
  unfold W.dataLe
  simp only [W.sortLe, cond_false, W.keyToks]
  show (!PyProof.Rows.lexLt PyProof.Rows.itemOrd [.inl ((f b : Nat) : Int)] [.inl ((f a : Nat) : Int)]) = _
  simp only [PyProof.Rows.lexLt, PyProof.Rows.itemLt]
  by_cases h : f a ≤ f b
  · have h1 : ¬ ((f b : Nat) : Int) < ((f a : Nat) : Int) := by omega
    simp [h, h1]
  · have h1 : ((f b : Nat) : Int) < ((f a : Nat) : Int) := by omega
    simp [h, h1]
end Pb

set_option Elab.async false
set_option linter.all false
set_option maxRecDepth 100000
namespace Pb
open PySem PySem.Spec PyProof.Rows L2
theorem sSet_nx {i : Nat} {φ : Rho → Option PyData} {ρ : Rho} {e : PyData} {ρ' : Rho} (h : φ ρ = some e) (h' : ρ.set i (.val e) = ρ') : sSet (gN i) φ ρ = some (.nx ρ') := by
  rw [← h']
  exact sSet_of h
theorem lenLe_eq (a b : List PyData) : lenLe a b = decide (a.length ≤ b.length) := dataLe_int (fun l : List PyData => l.length) a b
theorem listsD_lsts : ∀ ls : List (List Int), listsD (ls.map lstD) = some (ls.map fun l => l.map PyData.int)
  | [] => rfl
  | l :: ls => by
    show (listsD (ls.map lstD)).map _ = _
    rw [listsD_lsts ls]
    rfl
theorem hasDict_lsts : ∀ ls : List (List Int), PyData.hasDictAll (ls.map lstD) = false
  | [] => rfl
  | l :: ls => by
    simp only [List.map_cons, PyData.hasDictAll, lstD, PyData.hasDict, hasDict_ints, Bool.false_or]
    exact hasDict_lsts ls
/-- sorted by length -/
def sortL (ls : List (List Int)) : List (List Int) := ls.mergeSort fun a b => decide (a.length ≤ b.length)
theorem sortLen_lsts {φ : Rho → Option PyData} {ρ : Rho} {ls : List (List Int)} (h : φ ρ = some (.list (ls.map lstD))) : lSortLen φ ρ = some ((sortL ls).map lstD) := by
  unfold lSortLen
  rw [h]
  show ((listsD (ls.map lstD)).bind fun ms => if PyData.hasDictAll (ls.map lstD) = true then none else some ((ms.mergeSort lenLe).map PyData.list)) = _
  rw [listsD_lsts, hasDict_lsts]
  show some (((ls.map fun l => l.map PyData.int).mergeSort lenLe).map PyData.list) = _
  have e : (sortL ls).map (fun l => l.map PyData.int) = (ls.map fun l => l.map PyData.int).mergeSort lenLe := by
    unfold sortL
    exact List.map_mergeSort (fun a _ b _ => by rw [lenLe_eq, List.length_map, List.length_map])
  rw [← e, List.map_map]
  rfl
theorem sortL_perm {ls : List (List Int)} : (sortL ls).Perm ls := List.mergeSort_perm ls _
theorem sortL_le {ls : List (List Int)} : (sortL ls).Pairwise (fun a b => a.length ≤ b.length) := by
  have := List.pairwise_mergeSort (le := fun a b : List Int => decide (a.length ≤ b.length)) (fun a b c h1 h2 => by simp at h1 h2 ⊢; omega) (fun a b => by simp; omega) ls
  exact this.imp fun h => of_decide_eq_true h
theorem cut1 {α : Type} : ∀ xs : List α, cutG xs (some (1 : Int)) none = xs.drop 1
  | [] => by
    unfold cutG
    simp
  | x :: xs => cutG_drop (j := 1) (by simp)
theorem zipD_tail (ls : List PyData) : zipD ls (cutG ls (some 1) none) = (ls.zip (ls.drop 1)).map fun p => .tuple [p.1, p.2] := by
  rw [cut1]
  rfl
theorem lSl_of {φ : Rho → Option PyData} {lo hi : Rho → Option (Option Int)} {ρ : Rho} {es : List PyData} {l h : Option Int} (h1 : φ ρ = some (.list es)) (h2 : lo ρ = some l) (h3 : hi ρ = some h) : lSl φ lo hi ρ = some (cutG es l h) := by
  unfold lSl
  rw [h1]
  show ((lo ρ).bind fun l => (hi ρ).map fun h => cutG es l h) = _
  rw [h2, h3]
  rfl
theorem inclChain_zip : ∀ (l : List (List Int)), ((l.zip (l.drop 1)).all fun p => incl p.1 p.2) = inclChain l
  | [] => rfl
  | [x] => rfl
  | x :: y :: l => by
    show (incl x y && ((y :: l).zip ((y :: l).drop 1)).all fun p => incl p.1 p.2) = _
    rw [inclChain_zip (y :: l)]
    rfl
theorem parts_nodup {m : Nat} {os : List (List Int)} {ns : List Int} {d : Int} (h : ∀ o ∈ os, OffOk m o) : ∀ a ∈ partsL os ns d, a.Nodup := fun a ha => by
  obtain ⟨o, h1, rfl⟩ := List.mem_map.mp ha
  exact ((h o (List.mem_filter.mp h1).1).2.imp fun h => by omega : o.Nodup).filter _
theorem chain_fine {m : Nat} {os : List (List Int)} {ns : List Int} {d : Int} (h : ∀ o ∈ os, OffOk m o) : inclChain (sortL (partsL os ns d)) = fineB os ns d := by
  have nd := parts_nodup (ns := ns) (d := d) h
  rw [Bool.eq_iff_iff, inclChain_iff sortL_le fun a ha => nd a (sortL_perm.mem_iff.mp ha)]
  unfold fineB
  simp only [List.all_eq_true, sortL_perm.mem_iff]
def lints : PyData → List Int
  | .list es => es.map intOf
  | _ => []
theorem lints_lst (c : List Int) : lints (lstD c) = c := by
  show (c.map PyData.int).map intOf = c
  rw [List.map_map]
  conv => rhs; rw [← List.map_id c]
  rfl
/-- _law_is_simple -/
theorem simpleL {m : Nat} {os : List (List Int)} (t : Tb m os) {R : PyData} {ns : List Int} {d : Int} (hR : ∀ i : Int, fIn (.int i) R = some (.bool (decide (i ∈ ns)))) : q__law_is_simple [tabD m os, R, .int d] = some (.bool (fineB os ns d)) := by
  have m10 := t.m10
  have c1 : lLc [6] (iT (eOp fIxT (eVar 0) (eInt 1))) (gN 6) (bTest (eOp fIn (eVar 2) (eVar 6))) (eL (lLc [7] (iT (eVar 6)) (gN 7) (bTest (eOp fIn (eVar 7) (eVar 1))) (eVar 7))) (rho0 8 [tabD m os, R, .int d]) = some ((partsL os ns d).map lstD) := by
    have := lLc_of (vs := [6]) (it := iT (eOp fIxT (eVar 0) (eInt 1))) (τ := gN 6) (β := bTest (eOp fIn (eVar 2) (eVar 6))) (φ := eL (lLc [7] (iT (eVar 6)) (gN 7) (bTest (eOp fIn (eVar 7) (eVar 1))) (eVar 7))) (ρ := rho0 8 [tabD m os, R, .int d]) (es := os.map offD) (fun e => decide (d ∈ intsOf e)) (fun e => lstD ((intsOf e).filter fun i => decide (i ∈ ns))) rfl (by rw [List.length_map]; have := t.len; omega) (fun e he => by
      obtain ⟨o, ho', rfl⟩ := List.mem_map.mp he
      have ol := (t.off o ho').len
      refine ⟨_, rfl, bTest_of (eOp_of rfl rfl ?_), fun _ => ?_⟩
      · rw [intsOf_off]
        exact fIn_tup d o
      · rw [intsOf_off]
        refine eL_of ?_
        rw [← filter_ints fun i => decide (i ∈ ns)]
        refine lLc_filter (es := o.map PyData.int) _ rfl (by rw [List.length_map]; omega) fun e he => ?_
        obtain ⟨i, hi, rfl⟩ := List.mem_map.mp he
        exact ⟨_, rfl, bTest_of (eOp_of rfl rfl (hR i)), rfl⟩)
    rw [this]
    unfold partsL
    rw [List.filter_map, List.map_map, List.map_map]
    have f1 : ((fun e => decide (d ∈ intsOf e)) ∘ offD) = fun o => decide (d ∈ o) := funext fun o => by
      show decide (d ∈ intsOf (offD o)) = _
      rw [intsOf_off]
    have f2 : ((fun e => lstD ((intsOf e).filter fun i => decide (i ∈ ns))) ∘ offD) = (lstD ∘ fun o => o.filter fun i => decide (i ∈ ns)) := funext fun o => by
      show lstD ((intsOf (offD o)).filter _) = _
      rw [intsOf_off]
      rfl
    rw [f1, f2]
  have pl : (sortL (partsL os ns d)).length ≤ 10 := by
    rw [sortL_perm.length_eq]
    unfold partsL
    rw [List.length_map]
    exact Nat.le_trans (List.length_filter_le _ _) t.len
  have il : ∀ a ∈ sortL (partsL os ns d), a.length ≤ 10 := fun a ha => by
    obtain ⟨o, h1, rfl⟩ := List.mem_map.mp (sortL_perm.mem_iff.mp ha)
    have := (t.off o (List.mem_filter.mp h1).1).len
    exact Nat.le_trans (List.length_filter_le _ _) (by omega)
  rw [← chain_fine t.off, ← inclChain_zip]
  refine runF_of rfl ((sSeq_nx (sSet_of (eL_of c1))).trans ((sSeq_nx (sSet_of (eL_of (sortLen_lsts rfl)))).trans ?_))
  generalize sortL (partsL os ns d) = L at pl il
  obtain ⟨l1, l2⟩ := forR_all (B := fun e ρ => ((gT (gC (gN 4) (gC (gN 5) g0))) e ρ).bind (sIf (bTest (eOp fNe0 (eL (lLc [7] (iL (eVar 4)) (gN 7) (bTest (eOp fNin (eVar 7) (eVar 5))) (eVar 7))) (eL (lLst aNil)))) (sRet (eBl false)) sNil)) (fun ρ => ∃ s4 s5 s6 s7 : Sl, ρ = [.val (tabD m os), .val R, .val (.int d), .val (.list (L.map lstD)), s4, s5, s6, s7]) (fun e => match e with
      | .tuple [a, b] => incl (lints a) (lints b)
      | _ => false) (.bool false) (es := (L.zip (L.drop 1)).map fun p => .tuple [lstD p.1, lstD p.2]) (by
    intro e he ρ hρ
    obtain ⟨s4, s5, s6, s7, rfl⟩ := hρ
    obtain ⟨⟨a, b⟩, hp, rfl⟩ := List.mem_map.mp he
    have ha := il a (List.of_mem_zip hp).1
    have ea := lints_lst
    have c2 : (bTest (eOp fNe0 (eL (lLc [7] (iL (eVar 4)) (gN 7) (bTest (eOp fNin (eVar 7) (eVar 5))) (eVar 7))) (eL (lLst aNil)))) [.val (tabD m os), .val R, .val (.int d), .val (.list (L.map lstD)), .val (lstD a), .val (lstD b), s6, s7] = some (!incl a b) := by
      refine (bTest_of (eOp_of (eL_of (xs := (a.filter fun i => !decide (i ∈ b)).map PyData.int) ?_) rfl fNe0_of)).trans ?_
      · rw [← filter_ints fun i => !decide (i ∈ b)]
        refine lLc_filter (es := a.map PyData.int) _ rfl (by rw [List.length_map]; omega) fun e he => ?_
        obtain ⟨i, hi, rfl⟩ := List.mem_map.mp he
        exact ⟨_, rfl, bTest_of (eOp_of rfl rfl (fNin_lst i b)), rfl⟩
      · rw [List.isEmpty_map]
        rfl
    have e3 : (match PyData.tuple [lstD a, lstD b] with
      | .tuple [a, b] => incl (lints a) (lints b)
      | _ => false) = incl a b := by
      show incl (lints (lstD a)) (lints (lstD b)) = _
      rw [ea, ea]
    rw [e3]
    refine ⟨fun z => ⟨_, (sIf_f (c2.trans (by rw [z]; rfl))).trans rfl, _, _, _, _, rfl⟩, fun z => (sIf_t (c2.trans (by rw [z]; rfl))).trans rfl⟩) [.val (tabD m os), .val R, .val (.int d), .val (.list (L.map lstD)), .no, .no, .no, .no] ⟨_, _, _, _, rfl⟩
  have hall : ((L.zip (L.drop 1)).map fun p => PyData.tuple [lstD p.1, lstD p.2]).all (fun e => match e with
      | .tuple [a, b] => incl (lints a) (lints b)
      | _ => false) = (L.zip (L.drop 1)).all fun p => incl p.1 p.2 := by
    rw [List.all_map]
    congr 1
    funext p
    show incl (lints (lstD p.1)) (lints (lstD p.2)) = _
    have ea := lints_lst
    rw [ea, ea]
  rw [hall] at l1 l2
  have itz : iZ (eVar 3) (eL (lSl (eVar 3) (oSome (eInt 1)) oNone)) [.val (tabD m os), .val R, .val (.int d), .val (.list (L.map lstD)), .no, .no, .no, .no] = some ((L.zip (L.drop 1)).map fun p => .tuple [lstD p.1, lstD p.2]) := by
    unfold iZ
    show ((some (L.map lstD)).bind fun es => ((eL (lSl (eVar 3) (oSome (eInt 1)) oNone) [.val (tabD m os), .val R, .val (.int d), .val (.list (L.map lstD)), .no, .no, .no, .no]).bind asL).map fun fs => zipD es fs) = _
    rw [eL_of (lSl_of (es := L.map lstD) rfl rfl rfl)]
    show some (zipD (L.map lstD) (cutG (L.map lstD) (some 1) none)) = _
    rw [zipD_tail, ← List.map_drop, List.zip_map, List.map_map]
    rfl
  have lp : ∀ {r : Res}, forR (fun e ρ => ((gT (gC (gN 4) (gC (gN 5) g0))) e ρ).bind (sIf (bTest (eOp fNe0 (eL (lLc [7] (iL (eVar 4)) (gN 7) (bTest (eOp fNin (eVar 7) (eVar 5))) (eVar 7))) (eL (lLst aNil)))) (sRet (eBl false)) sNil)) ((L.zip (L.drop 1)).map fun p => .tuple [lstD p.1, lstD p.2]) [.val (tabD m os), .val R, .val (.int d), .val (.list (L.map lstD)), .no, .no, .no, .no] = some r → sFor (iZ (eVar 3) (eL (lSl (eVar 3) (oSome (eInt 1)) oNone))) (gT (gC (gN 4) (gC (gN 5) g0))) (sIf (bTest (eOp fNe0 (eL (lLc [7] (iL (eVar 4)) (gN 7) (bTest (eOp fNin (eVar 7) (eVar 5))) (eVar 7))) (eL (lLst aNil)))) (sRet (eBl false)) sNil) [.val (tabD m os), .val R, .val (.int d), .val (.list (L.map lstD)), .no, .no, .no, .no] = some r := fun h => by
    unfold sFor
    rw [itz]
    exact h
  cases hc : (L.zip (L.drop 1)).all fun p => incl p.1 p.2 with
  | true =>
    obtain ⟨ρ', e1, _⟩ := l1 hc
    exact (sSeq_nx (lp e1)).trans rfl
  | false => exact sSeq_rt (lp (l2 hc))
/-- _law_is_nested -/
def nestB (os : List (List Int)) (ns : List Int) : Bool := (List.range ns.length).all fun k => fineB os (ns.drop k) (ns.getD k 0)
theorem nestL {m : Nat} {os : List (List Int)} (t : Tb m os) {ns : List Int} (hl : ns.length ≤ 60) : q__law_is_nested [tabD m os, offD ns] = some (.bool (nestB os ns)) := by
  have c : lLc [2] (iR (eCb fLen (aCons (eVar 1) aNil))) (gN 2) (bNot (bTest (eCb Pb.q__law_is_simple (aCons (eVar 0) (aCons (eSlT (eVar 1) (oSome (eVar 2)) oNone) (aCons (eOp fIxT (eVar 1) (eVar 2)) aNil)))))) (eVar 2) (rho0 3 [tabD m os, offD ns]) = some ((rngD 0 (ns.length : Nat)).filter fun e => match e with
      | .int k => !fineB os (ns.drop k.toNat) (ns.getD k.toNat 0)
      | _ => false) := by
    refine lLc_filter (es := rngD 0 (ns.length : Nat)) _ (iR_of (j := (ns.length : Nat)) (eCb_of (aCons_of rfl rfl) (len_off ns)) (by omega)) (by rw [rngD_len]; omega) fun e he => ?_
    rw [rng_ints] at he
    obtain ⟨i, hi, rfl⟩ := List.mem_map.mp he
    have hi' := mem_ints.mp hi
    obtain ⟨k, rfl⟩ : ∃ k : Nat, i = (k : Int) := ⟨i.toNat, by omega⟩
    have hk : k < ns.length := by omega
    refine ⟨_, rfl, bNot_of (bTest_of (eCb_of (aCons_of rfl (aCons_of (slT_ints (ns := ns) (l := some (k : Int)) (h := none) rfl rfl rfl) (aCons_of (eOp_of rfl rfl (ixT_int (List.getElem?_eq_getElem hk))) rfl))) ?_)), rfl⟩
    rw [cutG_drop (by omega)]
    refine (simpleL t (ns := ns.drop k) (d := ns[k]) fun i => fIn_tup i _).trans ?_
    show _ = some (PyData.bool (fineB os (ns.drop (k : Int).toNat) (ns.getD (k : Int).toNat 0)))
    rw [Int.toNat_natCast, List.getD_eq_getElem?_getD, List.getElem?_eq_getElem hk]
    rfl
  generalize hL : ((rngD 0 (ns.length : Nat)).filter fun e => match e with
      | .int k => !fineB os (ns.drop k.toNat) (ns.getD k.toNat 0)
      | _ => false) = L at c
  have z : eOp fEq0 (eL (lLc [2] (iR (eCb fLen (aCons (eVar 1) aNil))) (gN 2) (bNot (bTest (eCb Pb.q__law_is_simple (aCons (eVar 0) (aCons (eSlT (eVar 1) (oSome (eVar 2)) oNone) (aCons (eOp fIxT (eVar 1) (eVar 2)) aNil)))))) (eVar 2))) (eL (lLst aNil)) (rho0 3 [tabD m os, offD ns]) = some (.bool L.isEmpty) := eOp_of (eL_of c) rfl rfl
  suffices e : L.isEmpty = nestB os ns by
    rw [← e]
    exact runF_of rfl (sRet_of z)
  rw [← hL, Bool.eq_iff_iff, List.isEmpty_iff, List.filter_eq_nil_iff]
  unfold nestB
  rw [List.all_eq_true, rng_ints]
  constructor
  · intro h k hk
    have := h (.int (k : Nat)) (List.mem_map_of_mem (mem_ints.mpr ⟨by omega, by have := List.mem_range.mp hk; omega⟩))
    simpa using this
  · intro h e he
    obtain ⟨i, hi, rfl⟩ := List.mem_map.mp he
    have hi' := mem_ints.mp hi
    have := h i.toNat (List.mem_range.mpr (by omega))
    simp only [this, Bool.not_true]
    decide
end Pb

set_option Elab.async false
set_option linter.all false
set_option maxRecDepth 100000
namespace Pb
open PySem PySem.Spec PyProof.Rows L2
/-! ### loops that return at the first hit -/
theorem forR_find {B : PyData → Rho → Option Res} (I : Rho → Prop) (b : PyData → Bool) (r : PyData → PyData) : ∀ {es : List PyData}, (∀ e ∈ es, ∀ ρ, I ρ → (b e = false → ∃ ρ', B e ρ = some (.nx ρ') ∧ I ρ') ∧ (b e = true → B e ρ = some (.rt (r e)))) →
    ∀ ρ, I ρ → (es.find? b = none → ∃ ρ', forR B es ρ = some (.nx ρ') ∧ I ρ') ∧ (∀ e, es.find? b = some e → forR B es ρ = some (.rt (r e)))
  | [], _, ρ, hI => ⟨fun _ => ⟨ρ, rfl, hI⟩, fun _ h => (by cases h)⟩
  | e :: es, h, ρ, hI => by
    obtain ⟨h1, h2⟩ := h e List.mem_cons_self ρ hI
    cases hb : b e with
    | true =>
      rw [List.find?_cons_of_pos hb]
      refine ⟨fun z => (by cases z), fun x hx => ?_⟩
      cases hx
      unfold forR
      rw [h2 hb]
      rfl
    | false =>
      rw [List.find?_cons_of_neg (by rw [hb]; exact Bool.false_ne_true)]
      obtain ⟨ρ', e1, I1⟩ := h1 hb
      have ih := forR_find I b r (es := es) (fun x hx => h x (List.mem_cons_of_mem _ hx)) ρ' I1
      unfold forR
      rw [e1]
      exact ih
theorem lcR2_of {τ τ1 : PyData → Rho → Option Rho} {β β1 : Rho → Option Bool} {it1 : Rho → Option (List PyData)} {φ : Rho → Option PyData} {vs1 : List Nat} {ρ : Rho} (F : PyData → List PyData) (b : PyData → PyData → Bool) (v : PyData → PyData → PyData) : ∀ {es : List PyData},
    (∀ e ∈ es, ∃ ρ', τ e ρ = some ρ' ∧ β ρ' = some true ∧ it1 ρ' = some (F e) ∧ ∀ f ∈ F e, ∃ ρ2, τ1 f (wipeR ρ' vs1) = some ρ2 ∧ β1 ρ2 = some (b e f) ∧ (b e f = true → φ ρ2 = some (v e f))) → lcR2 τ β it1 τ1 β1 φ vs1 ρ es = some (es.flatMap fun e => ((F e).filter (b e)).map (v e))
  | [], _ => rfl
  | e :: es, h => by
    obtain ⟨ρ', h1, h2, h3, h4⟩ := h e List.mem_cons_self
    have ih := lcR2_of F b v (es := es) fun x hx => h x (List.mem_cons_of_mem _ hx)
    unfold lcR2
    rw [h1]
    show ((β ρ').bind fun c => if c then (it1 ρ').bind fun fs => (lcR τ1 β1 φ (wipeR ρ' vs1) fs).bind fun zs => (lcR2 τ β it1 τ1 β1 φ vs1 ρ es).map (zs ++ ·) else lcR2 τ β it1 τ1 β1 φ vs1 ρ es) = _
    rw [h2]
    show ((it1 ρ').bind fun fs => (lcR τ1 β1 φ (wipeR ρ' vs1) fs).bind fun zs => (lcR2 τ β it1 τ1 β1 φ vs1 ρ es).map (zs ++ ·)) = _
    rw [h3]
    show ((lcR τ1 β1 φ (wipeR ρ' vs1) (F e)).bind fun zs => (lcR2 τ β it1 τ1 β1 φ vs1 ρ es).map (zs ++ ·)) = _
    rw [lcR_of (b e) (v e) h4, ih]
    rfl
theorem lLc2_of {vs vs1 : List Nat} {it it1 : Rho → Option (List PyData)} {τ τ1 : PyData → Rho → Option Rho} {β β1 : Rho → Option Bool} {φ : Rho → Option PyData} {ρ : Rho} {es : List PyData} (F : PyData → List PyData) (b : PyData → PyData → Bool) (v : PyData → PyData → PyData) (hi : it ρ = some es)
    (h : ∀ e ∈ es, ∃ ρ', τ e (wipeR ρ vs) = some ρ' ∧ β ρ' = some true ∧ it1 ρ' = some (F e) ∧ ∀ f ∈ F e, ∃ ρ2, τ1 f (wipeR ρ' vs1) = some ρ2 ∧ β1 ρ2 = some (b e f) ∧ (b e f = true → φ ρ2 = some (v e f))) (hl : (es.flatMap fun e => ((F e).filter (b e)).map (v e)).length ≤ 100000) : lLc2 vs vs1 it τ β it1 τ1 β1 φ ρ = some (es.flatMap fun e => ((F e).filter (b e)).map (v e)) := by
  unfold lLc2
  rw [hi]
  show ((lcR2 τ β it1 τ1 β1 φ vs1 (wipeR ρ vs) es).bind lim) = _
  rw [lcR2_of F b v h]
  exact lim_of hl
/-! ### covering offers -/
def covL (os : List (List Int)) (d : Int) : List Int := (os.zipIdx.filter fun p => decide (d ∈ p.1)).map fun p => ((p.2 : Nat) : Int)
theorem mem_covL {os : List (List Int)} {d k : Int} : k ∈ covL os d ↔ ∃ (j : Nat) (o : List Int), os[j]? = some o ∧ d ∈ o ∧ k = (j : Int) := by
  unfold covL
  rw [List.mem_map]
  constructor
  · rintro ⟨⟨o, j⟩, h, rfl⟩
    obtain ⟨h1, h2⟩ := List.mem_filter.mp h
    exact ⟨j, o, List.mem_zipIdx_iff_getElem?.mp h1, of_decide_eq_true h2, rfl⟩
  · rintro ⟨j, o, h1, h2, rfl⟩
    exact ⟨(o, j), List.mem_filter.mpr ⟨List.mem_zipIdx_iff_getElem?.mpr h1, decide_eq_true h2⟩, rfl⟩
theorem cov_len {os : List (List Int)} {d : Int} : (covL os d).length ≤ os.length := by
  unfold covL
  rw [List.length_map]
  refine Nat.le_trans (List.length_filter_le _ _) ?_
  rw [List.length_zipIdx]
  exact Nat.le_refl _
def fst2 : PyData → PyData
  | .tuple [j, _] => j
  | _ => .none
def snd2 : PyData → PyData
  | .tuple [_, x] => x
  | _ => .none
theorem cov_enum (os : List (List Int)) (d : Int) : ((enumD (os.map offD)).filter fun e => decide (d ∈ intsOf (snd2 e))).map fst2 = (covL os d).map PyData.int := by
  unfold enumD covL
  rw [List.zipIdx_map, List.map_map, List.filter_map, List.map_map, List.map_map]
  have f1 : (fun e => decide (d ∈ intsOf (snd2 e))) ∘ ((fun p : PyData × Nat => PyData.tuple [.int (p.2 : Int), p.1]) ∘ Prod.map offD id) = fun p : List Int × Nat => decide (d ∈ p.1) := funext fun p => by
    show decide (d ∈ intsOf (offD p.1)) = _
    rw [intsOf_off]
  have f2 : fst2 ∘ ((fun p : PyData × Nat => PyData.tuple [.int (p.2 : Int), p.1]) ∘ Prod.map offD id) = PyData.int ∘ fun p : List Int × Nat => ((p.2 : Nat) : Int) := rfl
  rw [f1, f2]
theorem q_cov {m : Nat} {os : List (List Int)} (t : Tb m os) {d : Int} (h0 : 0 ≤ d) (h1 : d < m) : q_covering_offers [tabD m os, .int d] = some (offD (covL os d)) := by
  have c : lLc [4, 5] (iET (eVar 3)) (gT (gC (gN 4) (gC (gN 5) g0))) (bTest (eOp fIn (eVar 1) (eVar 5))) (eVar 4) [.val (tabD m os), .val (.int d), .val (.int m), .val (.tuple (os.map offD)), .no, .no] = some ((covL os d).map PyData.int) := by
    rw [← cov_enum]
    refine lLc_of _ _ rfl (by rw [enumD_len, List.length_map]; have := t.len; omega) fun e he => ?_
    obtain ⟨j, y, h1, rfl⟩ := mem_enumD.mp he
    rw [List.getElem?_map] at h1
    obtain ⟨o, h3, rfl⟩ := Option.map_eq_some_iff.mp h1
    refine ⟨_, rfl, bTest_of (eOp_of rfl rfl ?_), fun _ => rfl⟩
    show _ = some (PyData.bool (decide (d ∈ intsOf (offD o))))
    rw [intsOf_off]
    exact fIn_tup d o
  refine runF_of rfl ((sSeq_nx rfl).trans ((sSeq_nx ((sIf_f ?_).trans rfl)).trans (sRet_of (eCb_of (aCons_of (eL_of c) rfl) rfl))))
  refine (bNot_of (bTest_of (eCb_of (aCons_of rfl (aCons_of rfl rfl)) (q_num (.int d) m)))).trans ?_
  rw [num_iff.mpr ⟨d, rfl, h0, h1⟩]
  rfl
def prsL (os : List (List Int)) (d : Int) : List (Int × Int) := (covL os d).flatMap fun b => ((covL os d).filter fun a => decide (a < b)).map fun a => (a, b)
theorem mem_prs {os : List (List Int)} {d a b : Int} : (a, b) ∈ prsL os d ↔ a ∈ covL os d ∧ b ∈ covL os d ∧ a < b := by
  unfold prsL
  rw [List.mem_flatMap]
  constructor
  · rintro ⟨x, hx, h⟩
    obtain ⟨y, hy, e⟩ := List.mem_map.mp h
    cases e
    obtain ⟨h1, h2⟩ := List.mem_filter.mp hy
    exact ⟨h1, hx, of_decide_eq_true h2⟩
  · rintro ⟨h1, h2, h3⟩
    exact ⟨b, h2, List.mem_map.mpr ⟨a, List.mem_filter.mpr ⟨h1, decide_eq_true h3⟩, rfl⟩⟩
def prD (p : Int × Int) : PyData := .tuple [.int p.1, .int p.2]
theorem flatMap_len {α β : Type} {f : α → List β} {n : Nat} : ∀ {l : List α}, (∀ x ∈ l, (f x).length ≤ n) → (l.flatMap f).length ≤ l.length * n
  | [], _ => by simp
  | x :: l, h => by
    rw [List.flatMap_cons, List.length_append, List.length_cons, Nat.succ_mul]
    have := h x List.mem_cons_self
    have := flatMap_len (l := l) fun y hy => h y (List.mem_cons_of_mem _ hy)
    omega
theorem q_prs {m : Nat} {os : List (List Int)} (t : Tb m os) {d : Int} (h0 : 0 ≤ d) (h1 : d < m) : q_covering_pairs [tabD m os, .int d] = some (.list ((prsL os d).map prD)) := by
  have cl := cov_len (os := os) (d := d)
  have tl := t.len
  have e : ((covL os d).map PyData.int).flatMap (fun e => (((covL os d).map PyData.int).filter fun f => decide (intOf f < intOf e)).map fun f => .tuple [f, e]) = (prsL os d).map prD := by
    unfold prsL
    rw [List.flatMap_map, List.map_flatMap]
    congr 1
    funext b
    rw [filter_ints fun a => decide (a < intOf (.int b)), List.map_map, List.map_map]
    rfl
  have c : lLc2 [3, 4] [4] (iT (eVar 2)) (gN 3) bYes (iT (eVar 2)) (gN 4) (bTest (eOp fLt (eVar 4) (eVar 3))) (eTup (aCons (eVar 4) (aCons (eVar 3) aNil))) [.val (tabD m os), .val (.int d), .val (offD (covL os d)), .no, .no] = some ((prsL os d).map prD) := by
    rw [← e]
    refine lLc2_of (es := (covL os d).map PyData.int) (fun _ => (covL os d).map PyData.int) (fun e f => decide (intOf f < intOf e)) (fun e f => .tuple [f, e]) rfl (fun e he => ?_) ?_
    · obtain ⟨b, hb, rfl⟩ := List.mem_map.mp he
      refine ⟨_, rfl, rfl, rfl, fun f hf => ?_⟩
      obtain ⟨a, ha, rfl⟩ := List.mem_map.mp hf
      exact ⟨_, rfl, rfl, fun _ => rfl⟩
    · refine Nat.le_trans (flatMap_len (n := 10) fun x hx => ?_) ?_
      · rw [List.length_map]
        refine Nat.le_trans (List.length_filter_le _ _) ?_
        rw [List.length_map]
        omega
      · rw [List.length_map]
        omega
  exact runF_of rfl ((sSeq_nx (sSet_of (eCb_of (aCons_of rfl (aCons_of rfl rfl)) (q_cov t h0 h1)))).trans (sRet_of (eL_of c)))
/-! ### conflicts -/
def confD (k i j a b : Int) : PyData := .tuple [.int k, .int i, .int j, .int a, .int b]
structure Conf (os : List (List Int)) (d : Int) (later : List Int) (i j a b : Int) (oa ob : List Int) : Prop where
  a0 : 0 ≤ a
  b0 : 0 ≤ b
  ha : os[a.toNat]? = some oa
  hb : os[b.toNat]? = some ob
  da : d ∈ oa
  db : d ∈ ob
  il : i ∈ later
  jl : j ∈ later
  ia : i ∈ oa
  ib : i ∉ ob
  jb : j ∈ ob
  ja : j ∉ oa
def onlyL (later oa ob : List Int) : List Int := later.filter fun i => decide (i ∈ oa) && !decide (i ∈ ob)
def offAt (os : List (List Int)) (a : Int) : List Int := os.getD a.toNat []
def splitB (os : List (List Int)) (later : List Int) : PyData → Bool
  | .tuple [.int a, .int b] => !(onlyL later (offAt os a) (offAt os b)).isEmpty && !(onlyL later (offAt os b) (offAt os a)).isEmpty
  | _ => false
def confOf (os : List (List Int)) (d : Int) (later : List Int) : PyData → PyData
  | .tuple [.int a, .int b] => confD d ((onlyL later (offAt os a) (offAt os b)).headD 0) ((onlyL later (offAt os b) (offAt os a)).headD 0) a b
  | _ => .none
theorem onlyL_comp {ρ : Rho} {s : Nat} {φ ψ : Rho → Option PyData} {later oa ob : List Int} (hs' : s < ρ.length) (hl : later.length ≤ 60) (h2 : iT (eVar 2) ρ = some (later.map PyData.int)) (ha : ∀ i : Int, φ ((wipeR ρ [s]).set s (.val (.int i))) = some (offD oa)) (hb : ∀ i : Int, ψ ((wipeR ρ [s]).set s (.val (.int i))) = some (offD ob)) :
    lLc [s] (iT (eVar 2)) (gN s) (bAnd (bTest (eOp fIn (eVar s) φ)) (bTest (eOp fNin (eVar s) ψ))) (eVar s) ρ = some ((onlyL later oa ob).map PyData.int) := by
  unfold onlyL
  rw [← filter_ints fun i => decide (i ∈ oa) && !decide (i ∈ ob)]
  refine lLc_filter (es := later.map PyData.int) _ h2 (by rw [List.length_map]; omega) fun e he => ?_
  obtain ⟨i, hi, rfl⟩ := List.mem_map.mp he
  have hv : eVar s ((wipeR ρ [s]).set s (.val (.int i))) = some (.int i) := by
    have len : (wipeR ρ [s]).length = ρ.length := by simp [wipeR]
    unfold eVar rv
    rw [List.getElem?_set_self (by rw [len]; exact hs')]
  refine ⟨_, rfl, bAnd_of (bTest_of (eOp_of hv (ha i) (fIn_tup i oa))) (bTest_of (eOp_of hv (hb i) (fNin_tup i ob))), hv⟩
end Pb

set_option Elab.async false
set_option linter.all false
set_option maxRecDepth 100000
namespace Pb
open PySem PySem.Spec PyProof.Rows L2
abbrev cfBody : Rho → Option Res := (sSeq (sSet (gN 6) (eL (lLc [8] (iT (eVar 2)) (gN 8) (bAnd (bTest (eOp fIn (eVar 8) (eOp fIxT (eVar 3) (eVar 4)))) (bTest (eOp fNin (eVar 8) (eOp fIxT (eVar 3) (eVar 5))))) (eVar 8))))
  (sSeq (sSet (gN 7) (eL (lLc [9] (iT (eVar 2)) (gN 9) (bAnd (bTest (eOp fIn (eVar 9) (eOp fIxT (eVar 3) (eVar 5)))) (bTest (eOp fNin (eVar 9) (eOp fIxT (eVar 3) (eVar 4))))) (eVar 9))))
  (sIf (bAnd (bTru (eVar 6)) (bTru (eVar 7))) (sRet (eTup (aCons (eVar 1) (aCons (eOp fIxL (eVar 6) (eInt 0)) (aCons (eOp fIxL (eVar 7) (eInt 0)) (aCons (eVar 4) (aCons (eVar 5) aNil))))))) sNil)))
theorem offAt_of {os : List (List Int)} {a : Int} {o : List Int} (h : os[a.toNat]? = some o) : offAt os a = o := by
  unfold offAt
  rw [List.getD_eq_getElem?_getD, h]
  rfl
abbrev rCf (m : Nat) (os : List (List Int)) (d : Int) (later : List Int) (s4 s5 s6 s7 s8 s9 : Sl) : Rho := [.val (tabD m os), .val (.int d), .val (offD later), .val (.tuple (os.map offD)), s4, s5, s6, s7, s8, s9]
theorem cfBody_of {m : Nat} {os : List (List Int)} {d a b : Int} {later oa ob : List Int} {s6 s7 s8 s9 : Sl} (hl : later.length ≤ 60) (a0 : 0 ≤ a) (b0 : 0 ≤ b) (ha : os[a.toNat]? = some oa) (hb : os[b.toNat]? = some ob) :
    cfBody (rCf m os d later (.val (.int a)) (.val (.int b)) s6 s7 s8 s9) = some (if splitB os later (prD (a, b)) then .rt (confOf os d later (prD (a, b))) else .nx (rCf m os d later (.val (.int a)) (.val (.int b)) (.val (lstD (onlyL later oa ob))) (.val (lstD (onlyL later ob oa))) s8 s9)) := by
  obtain ⟨x, rfl⟩ : ∃ x : Nat, a = (x : Int) := ⟨a.toNat, by omega⟩
  obtain ⟨y, rfl⟩ : ∃ y : Nat, b = (y : Int) := ⟨b.toNat, by omega⟩
  have ea := offAt_of ha
  have eb := offAt_of hb
  rw [Int.toNat_natCast] at ha hb
  have c1 := onlyL_comp (ρ := rCf m os d later (.val (.int (x : Int))) (.val (.int (y : Int))) s6 s7 s8 s9) (s := 8) (φ := eOp fIxT (eVar 3) (eVar 4)) (ψ := eOp fIxT (eVar 3) (eVar 5)) (later := later) (oa := oa) (ob := ob) (by show 8 < 10; decide) hl rfl (fun i => eOp_of (x := .tuple (os.map offD)) rfl rfl (ixT_off ha)) (fun i => eOp_of (x := .tuple (os.map offD)) rfl rfl (ixT_off hb))
  have c2 := onlyL_comp (ρ := rCf m os d later (.val (.int (x : Int))) (.val (.int (y : Int))) (.val (lstD (onlyL later oa ob))) s7 s8 s9) (s := 9) (φ := eOp fIxT (eVar 3) (eVar 5)) (ψ := eOp fIxT (eVar 3) (eVar 4)) (later := later) (oa := ob) (ob := oa) (by show 9 < 10; decide) hl rfl (fun i => eOp_of (x := .tuple (os.map offD)) rfl rfl (ixT_off hb)) (fun i => eOp_of (x := .tuple (os.map offD)) rfl rfl (ixT_off ha))
  refine (sSeq_nx (sSet_of (eL_of c1))).trans ((sSeq_nx (sSet_of (eL_of c2))).trans ?_)
  have sp : splitB os later (prD ((x : Int), (y : Int))) = (!(onlyL later oa ob).isEmpty && !(onlyL later ob oa).isEmpty) := by
    show (!(onlyL later (offAt os x) (offAt os y)).isEmpty && !(onlyL later (offAt os y) (offAt os x)).isEmpty) = _
    rw [ea, eb]
  have cf : confOf os d later (prD ((x : Int), (y : Int))) = confD d ((onlyL later oa ob).headD 0) ((onlyL later ob oa).headD 0) x y := by
    show confD d ((onlyL later (offAt os x) (offAt os y)).headD 0) ((onlyL later (offAt os y) (offAt os x)).headD 0) x y = _
    rw [ea, eb]
  rw [sp, cf]
  generalize onlyL later oa ob = A
  generalize onlyL later ob oa = B
  cases A with
  | nil => exact (sIf_f rfl).trans rfl
  | cons p A =>
    cases B with
    | nil => exact (sIf_f rfl).trans rfl
    | cons q B =>
      refine (sIf_t rfl).trans (sRet_of ?_)
      have e := aCons_of (φ := eVar 1) (φs := aCons (eOp fIxL (eVar 6) (eInt 0)) (aCons (eOp fIxL (eVar 7) (eInt 0)) (aCons (eVar 4) (aCons (eVar 5) aNil)))) (ρ := rCf m os d later (.val (.int (x : Int))) (.val (.int (y : Int))) (.val (lstD (p :: A))) (.val (lstD (q :: B))) s8 s9) (x := .int d) rfl (aCons_of (eOp_of rfl rfl (ixL_at (k := 0) rfl)) (aCons_of (eOp_of rfl rfl (ixL_at (k := 0) rfl)) (aCons_of rfl (aCons_of rfl rfl))))
      show (Option.map PyData.tuple (Option.bind ((aCons (eVar 1) (aCons (eOp fIxL (eVar 6) (eInt 0)) (aCons (eOp fIxL (eVar 7) (eInt 0)) (aCons (eVar 4) (aCons (eVar 5) aNil))))) (rCf m os d later (.val (.int (x : Int))) (.val (.int (y : Int))) (.val (lstD (p :: A))) (.val (lstD (q :: B))) s8 s9)) lim)) = _
      rw [e]
      rfl
/-- conflict_at -/
theorem q_conf {m : Nat} {os : List (List Int)} (t : Tb m os) {d : Int} {later : List Int} (h0 : 0 ≤ d) (h1 : d < m) (hl : later.length ≤ 60) : ∃ c, q_conflict_at [tabD m os, .int d, offD later] = some c ∧
    ((c = .none ∧ fineB os (d :: later) d = true) ∨ (fineB os (d :: later) d = false ∧ ∃ i j a b oa ob, c = confD d i j a b ∧ Conf os d later i j a b oa ob)) := by
  have itp : iL (eCb Pb.q_covering_pairs (aCons (eVar 0) (aCons (eVar 1) aNil))) (rCf m os d later .no .no .no .no .no .no) = some ((prsL os d).map prD) := by
    unfold iL
    rw [eCb_of (aCons_of rfl (aCons_of rfl rfl)) (q_prs t h0 h1)]
    rfl
  have pr : ∀ e ∈ (prsL os d).map prD, ∃ (a b : Int) (oa ob : List Int), e = prD (a, b) ∧ 0 ≤ a ∧ 0 ≤ b ∧ os[a.toNat]? = some oa ∧ os[b.toNat]? = some ob ∧ d ∈ oa ∧ d ∈ ob := by
    intro e he
    obtain ⟨⟨a, b⟩, hp, rfl⟩ := List.mem_map.mp he
    obtain ⟨p1, p2, _⟩ := mem_prs.mp hp
    obtain ⟨x, oa, x1, x2, rfl⟩ := mem_covL.mp p1
    obtain ⟨y, ob, y1, y2, rfl⟩ := mem_covL.mp p2
    exact ⟨x, y, oa, ob, rfl, by omega, by omega, by simpa using x1, by simpa using y1, x2, y2⟩
  obtain ⟨l1, l2⟩ := forR_find (B := fun e ρ => ((gT (gC (gN 4) (gC (gN 5) g0))) e ρ).bind cfBody) (fun ρ => ∃ s4 s5 s6 s7 s8 s9 : Sl, ρ = rCf m os d later s4 s5 s6 s7 s8 s9) (splitB os later) (confOf os d later) (es := (prsL os d).map prD) (by
    intro e he ρ hρ
    obtain ⟨s4, s5, s6, s7, s8, s9, rfl⟩ := hρ
    obtain ⟨a, b, oa, ob, rfl, a0, b0, ha, hb, _⟩ := pr e he
    have hb' : (((gT (gC (gN 4) (gC (gN 5) g0))) (prD (a, b)) (rCf m os d later s4 s5 s6 s7 s8 s9)).bind cfBody) = _ := cfBody_of (m := m) (d := d) (s6 := s6) (s7 := s7) (s8 := s8) (s9 := s9) hl a0 b0 ha hb
    exact ⟨fun z => ⟨_, hb'.trans (by rw [z]; rfl), _, _, _, _, _, _, rfl⟩, fun z => hb'.trans (by rw [z]; rfl)⟩) (rCf m os d later .no .no .no .no .no .no) ⟨_, _, _, _, _, _, rfl⟩
  have lp : ∀ {r : Res}, forR (fun e ρ => ((gT (gC (gN 4) (gC (gN 5) g0))) e ρ).bind cfBody) ((prsL os d).map prD) (rCf m os d later .no .no .no .no .no .no) = some r → sFor (iL (eCb Pb.q_covering_pairs (aCons (eVar 0) (aCons (eVar 1) aNil)))) (gT (gC (gN 4) (gC (gN 5) g0))) cfBody (rCf m os d later .no .no .no .no .no .no) = some r := fun h => by
    unfold sFor
    rw [itp]
    exact h
  have only : ∀ {oa ob : List Int} {i : Int}, i ∈ onlyL later oa ob ↔ i ∈ later ∧ i ∈ oa ∧ i ∉ ob := fun {oa ob i} => by
    unfold onlyL
    rw [List.mem_filter, Bool.and_eq_true, decide_eq_true_eq, Bool.not_eq_true', decide_eq_false_iff_not]
  cases hf : ((prsL os d).map prD).find? (splitB os later) with
  | none =>
    obtain ⟨ρ', e1, _⟩ := l1 hf
    refine ⟨.none, runF_of rfl ((sSeq_nx rfl).trans ((sSeq_nx (lp e1)).trans rfl)), .inl ⟨rfl, fineB_iff.mpr fun o ho o' ho' hd hd' => ?_⟩⟩
    have no := List.find?_eq_none.mp hf
    obtain ⟨x, hx⟩ := List.mem_iff_getElem?.mp ho
    obtain ⟨y, hy⟩ := List.mem_iff_getElem?.mp ho'
    -- neither splits
    have key : ∀ {x y : Nat} {o o' : List Int}, os[x]? = some o → os[y]? = some o' → d ∈ o → d ∈ o' → x < y → (∀ i ∈ o, i ∈ d :: later → i ∈ o') ∨ (∀ i ∈ o', i ∈ d :: later → i ∈ o) := by
      intro x y o o' hx hy hd hd' hxy
      have hm : ((x : Int), (y : Int)) ∈ prsL os d := mem_prs.mpr ⟨mem_covL.mpr ⟨x, o, hx, hd, rfl⟩, mem_covL.mpr ⟨y, o', hy, hd', rfl⟩, by omega⟩
      have := no _ (List.mem_map_of_mem hm)
      have sp : splitB os later (prD ((x : Int), (y : Int))) = (!(onlyL later o o').isEmpty && !(onlyL later o' o).isEmpty) := by
        show (!(onlyL later (offAt os x) (offAt os y)).isEmpty && !(onlyL later (offAt os y) (offAt os x)).isEmpty) = _
        rw [offAt_of (a := (x : Int)) (by simpa using hx), offAt_of (a := (y : Int)) (by simpa using hy)]
      rw [sp] at this
      by_cases z : onlyL later o o' = []
      · refine .inl fun i hi hn => ?_
        rcases List.mem_cons.mp hn with rfl | hn
        · exact hd'
        · by_cases w : i ∈ o'
          · exact w
          · exact absurd (only.mpr ⟨hn, hi, w⟩) (by rw [z]; exact List.not_mem_nil)
      · refine .inr fun i hi hn => ?_
        rcases List.mem_cons.mp hn with rfl | hn
        · exact hd
        · by_cases w : i ∈ o
          · exact w
          · have z2 : onlyL later o' o = [] := by
              cases h1 : onlyL later o o' with
              | nil => exact absurd h1 z
              | cons _ _ =>
                cases h2 : onlyL later o' o with
                | nil => rfl
                | cons _ _ => simp [h1, h2] at this
            exact absurd (only.mpr ⟨hn, hi, w⟩) (by rw [z2]; exact List.not_mem_nil)
    rcases Nat.lt_trichotomy x y with h | h | h
    · exact key hx hy hd hd' h
    · subst h
      rw [hx] at hy
      cases hy
      exact .inl fun i hi _ => hi
    · exact (key hy hx hd' hd h).symm
  | some e =>
    refine ⟨_, runF_of rfl ((sSeq_nx rfl).trans (sSeq_rt (lp (l2 e hf)))), .inr ?_⟩
    obtain ⟨a, b, oa, ob, rfl, a0, b0, ha, hb, da, db⟩ := pr e (List.mem_of_find?_eq_some hf)
    have hs' := List.find?_some hf
    have sp : splitB os later (prD (a, b)) = (!(onlyL later oa ob).isEmpty && !(onlyL later ob oa).isEmpty) := by
      show (!(onlyL later (offAt os a) (offAt os b)).isEmpty && !(onlyL later (offAt os b) (offAt os a)).isEmpty) = _
      rw [offAt_of ha, offAt_of hb]
    have cf : confOf os d later (prD (a, b)) = confD d ((onlyL later oa ob).headD 0) ((onlyL later ob oa).headD 0) a b := by
      show confD d ((onlyL later (offAt os a) (offAt os b)).headD 0) ((onlyL later (offAt os b) (offAt os a)).headD 0) a b = _
      rw [offAt_of ha, offAt_of hb]
    rw [sp] at hs'
    rw [cf]
    cases h1 : onlyL later oa ob with
    | nil => simp [h1] at hs'
    | cons i A =>
      cases h2 : onlyL later ob oa with
      | nil => simp [h1, h2] at hs'
      | cons j B =>
        have hi := only.mp (show i ∈ onlyL later oa ob by rw [h1]; exact List.mem_cons_self)
        have hj := only.mp (show j ∈ onlyL later ob oa by rw [h2]; exact List.mem_cons_self)
        refine ⟨?_, i, j, a, b, oa, ob, rfl, a0, b0, ha, hb, da, db, hi.1, hj.1, hi.2.1, hi.2.2, hj.2.1, hj.2.2⟩
        cases hfi : fineB os (d :: later) d with
        | false => rfl
        | true =>
          rcases fineB_iff.mp hfi oa (List.mem_of_getElem? ha) ob (List.mem_of_getElem? hb) da db with k | k
          · exact absurd (k i hi.2.1 (List.mem_cons_of_mem _ hi.1)) hi.2.2
          · exact absurd (k j hj.2.1 (List.mem_cons_of_mem _ hj.1)) hj.2.2
/-! ### find_conflict, is_nested_order -/
abbrev fcBody : Rho → Option Res := (sSeq (sSet (gN 4) (eCb Pb.q_conflict_at (aCons (eVar 0) (aCons (eVar 3) (aCons (eSlT (eVar 1) (oSome (eOp fAdd (eVar 2) (eInt 1))) oNone) aNil)))))
  (sIf (bTest (eOp fNotN (eVar 4) eNon)) (sRet (eVar 4)) sNil))
/-- the first conflict of an order, by its program -/
def ConfAt (os : List (List Int)) (ns : List Int) (c : PyData) : Prop := ∃ (k : Nat) (d i j a b : Int) (oa ob : List Int), ns[k]? = some d ∧ c = confD d i j a b ∧ Conf os d (ns.drop (k + 1)) i j a b oa ob
theorem fcLoop {m : Nat} {os : List (List Int)} (t : Tb m os) {ns : List Int} (hn : ∀ i ∈ ns, 0 ≤ i ∧ i < (m : Int)) (hl : ns.length ≤ 60) : ∀ (es : List PyData) (k : Nat) (s2 s3 s4 : Sl), es = (enumD (ns.map PyData.int)).drop k → k ≤ ns.length →
    (∃ ρ', forR (fun e ρ => ((gT (gC (gN 2) (gC (gN 3) g0))) e ρ).bind fcBody) es [.val (tabD m os), .val (offD ns), s2, s3, s4] = some (.nx ρ') ∧ ∀ j, k ≤ j → ∀ d, ns[j]? = some d → fineB os (ns.drop j) d = true) ∨
    (∃ c, forR (fun e ρ => ((gT (gC (gN 2) (gC (gN 3) g0))) e ρ).bind fcBody) es [.val (tabD m os), .val (offD ns), s2, s3, s4] = some (.rt c) ∧ ConfAt os ns c ∧ ∃ j d, ns[j]? = some d ∧ fineB os (ns.drop j) d = false)
  | [], k, s2, s3, s4, he, hk => by
    refine .inl ⟨_, rfl, fun j hj d hd => ?_⟩
    have h1 := congrArg List.length he
    rw [List.length_drop, enumD_len, List.length_map, List.length_nil] at h1
    have := (List.getElem?_eq_some_iff.mp hd).1
    omega
  | e :: es, k, s2, s3, s4, he, hk => by
    have hlt : k < ns.length := by
      have h1 := congrArg List.length he
      rw [List.length_drop, enumD_len, List.length_map, List.length_cons] at h1
      omega
    have hd0 : ns[k]? = some ns[k] := List.getElem?_eq_getElem hlt
    have he0 : (enumD (ns.map PyData.int))[k]? = some (.tuple [.int (k : Int), .int ns[k]]) := enumD_get (by rw [List.getElem?_map, hd0]; rfl)
    have hdr : (enumD (ns.map PyData.int)).drop k = .tuple [.int (k : Int), .int ns[k]] :: (enumD (ns.map PyData.int)).drop (k + 1) := by
      rw [List.drop_eq_getElem_cons (by rw [enumD_len, List.length_map]; exact hlt)]
      congr 1
      exact (List.getElem?_eq_some_iff.mp he0).2
    rw [hdr] at he
    injection he with e1 e2
    subst e1
    have dn := hn ns[k] (List.getElem_mem hlt)
    have rest : ns.drop k = ns[k] :: ns.drop (k + 1) := List.drop_eq_getElem_cons hlt
    obtain ⟨c, hc, hcase⟩ := q_conf t (d := ns[k]) (later := ns.drop (k + 1)) dn.1 dn.2 (by rw [List.length_drop]; omega)
    have ev : eCb Pb.q_conflict_at (aCons (eVar 0) (aCons (eVar 3) (aCons (eSlT (eVar 1) (oSome (eOp fAdd (eVar 2) (eInt 1))) oNone) aNil))) [.val (tabD m os), .val (offD ns), .val (.int (k : Int)), .val (.int ns[k]), s4] = some c := by
      refine eCb_of (aCons_of rfl (aCons_of rfl (aCons_of (slT_ints (ns := ns) (l := some ((k : Int) + 1)) (h := none) rfl rfl rfl) rfl))) ?_
      rw [show ((k : Int) + 1) = ((k + 1 : Nat) : Int) by omega, cutG_drop (by omega)]
      exact hc
    have step : ∀ {r : Res}, (sIf (bTest (eOp fNotN (eVar 4) eNon)) (sRet (eVar 4)) sNil) [.val (tabD m os), .val (offD ns), .val (.int (k : Int)), .val (.int ns[k]), .val c] = some r → (((gT (gC (gN 2) (gC (gN 3) g0))) (.tuple [.int (k : Int), .int ns[k]]) [.val (tabD m os), .val (offD ns), s2, s3, s4]).bind fcBody) = some r := fun h => (sSeq_nx (sSet_of ev)).trans h
    rcases hcase with ⟨rfl, hf⟩ | ⟨hf, i, j, a, b, oa, ob, rfl, hconf⟩
    · have s1 := step (r := .nx _) ((sIf_f rfl).trans rfl)
      have ih := fcLoop t hn hl es (k + 1) (.val (.int (k : Int))) (.val (.int ns[k])) (.val .none) e2 (by omega)
      unfold forR
      rw [s1]
      rcases ih with ⟨ρ', e3, h4⟩ | h4
      · refine .inl ⟨ρ', e3, fun j hj d hd => ?_⟩
        by_cases z : j = k
        · subst z
          rw [hd0] at hd
          cases hd
          rw [rest]
          exact hf
        · exact h4 j (by omega) d hd
      · exact .inr h4
    · have s1 := step (r := .rt _) ((sIf_t rfl).trans rfl)
      refine .inr ⟨confD ns[k] i j a b, ?_, ⟨k, ns[k], i, j, a, b, oa, ob, hd0, rfl, hconf⟩, k, ns[k], hd0, ?_⟩
      · unfold forR
        rw [s1]
        rfl
      · rw [rest]
        exact hf
theorem nestB_iff {os : List (List Int)} {ns : List Int} : nestB os ns = true ↔ ∀ j d, ns[j]? = some d → fineB os (ns.drop j) d = true := by
  unfold nestB
  rw [List.all_eq_true]
  constructor
  · intro h j d hd
    have := h j (List.mem_range.mpr (List.getElem?_eq_some_iff.mp hd).1)
    rwa [List.getD_eq_getElem?_getD, hd] at this
  · intro h k hk
    have hk' := List.mem_range.mp hk
    rw [List.getD_eq_getElem?_getD, List.getElem?_eq_getElem hk']
    exact h k _ (List.getElem?_eq_getElem hk')
theorem q_find {m : Nat} {os : List (List Int)} (t : Tb m os) {ns : List Int} (ho : OrdP m ns) : ∃ c, q_find_conflict [tabD m os, offD ns] = some c ∧ ((c = .none ∧ nestB os ns = true) ∨ (nestB os ns = false ∧ ConfAt os ns c)) := by
  have m10 := t.m10
  have hl : ns.length ≤ 60 := by have := ho.2.2; omega
  have okn : okD (offD ns) = true := (gw_off (L := 60) (fun i hi => by have := ho.1 i hi; exact Nat.lt_of_le_of_lt (show i.natAbs ≤ 10 by omega) (by decide +kernel)) hl).ok
  have pre : (bNot (bTest (eCb Pb.q_is_order (aCons (eVar 1) (aCons (eOp fIxT (eVar 0) (eInt 0)) aNil))))) (rho0 5 [tabD m os, offD ns]) = some false := by
    refine (bNot_of (bTest_of (eCb_of (aCons_of rfl (aCons_of rfl rfl)) (q_order m okn)))).trans ?_
    rw [ord_true.mpr ⟨ns, rfl, ho⟩]
    rfl
  have lp : ∀ {r : Res}, forR (fun e ρ => ((gT (gC (gN 2) (gC (gN 3) g0))) e ρ).bind fcBody) (enumD (ns.map PyData.int)) [.val (tabD m os), .val (offD ns), .no, .no, .no] = some r → sFor (iET (eVar 1)) (gT (gC (gN 2) (gC (gN 3) g0))) fcBody [.val (tabD m os), .val (offD ns), .no, .no, .no] = some r := fun h => h
  rcases fcLoop t ho.1 hl (enumD (ns.map PyData.int)) 0 .no .no .no rfl (by omega) with ⟨ρ', e1, h2⟩ | ⟨c, e1, hc, j, d, hd, hf⟩
  · exact ⟨.none, runF_of rfl ((sSeq_nx ((sIf_f pre).trans rfl)).trans ((sSeq_nx (lp e1)).trans rfl)), .inl ⟨rfl, nestB_iff.mpr fun j d hd => h2 j (by omega) d hd⟩⟩
  · refine ⟨c, runF_of rfl ((sSeq_nx ((sIf_f pre).trans rfl)).trans (sSeq_rt (lp e1))), .inr ⟨?_, hc⟩⟩
    cases hnb : nestB os ns with
    | false => rfl
    | true =>
      rw [nestB_iff.mp hnb j d hd] at hf
      cases hf
def nestedB (os : List (List Int)) (x : PyData) (m : Nat) : Bool := ordB x m && nestB os (intsOf x)
theorem q_nested {m : Nat} {os : List (List Int)} (t : Tb m os) {x : PyData} (ok : okD x = true) : q_is_nested_order [tabD m os, x] = some (.bool (nestedB os x m)) := by
  have a : eCb Pb.q_is_order (aCons (eVar 1) (aCons (eOp fIxT (eVar 0) (eInt 0)) aNil)) (rho0 2 [tabD m os, x]) = some (.bool (ordB x m)) := eCb_of (aCons_of rfl (aCons_of rfl rfl)) (q_order m ok)
  refine runF_of rfl (sRet_of ?_)
  unfold nestedB
  cases hd : ordB x m with
  | false =>
    rw [hd] at a
    exact (eAnd_f a).trans rfl
  | true =>
    rw [hd] at a
    refine (eAnd_t a).trans ?_
    obtain ⟨ns, rfl, ho⟩ := ord_true.mp hd
    rw [intsOf_off, Bool.true_and]
    obtain ⟨c, hc, h⟩ := q_find t ho
    have e := eCb_of (f := Pb.q_find_conflict) (φs := aCons (eVar 0) (aCons (eVar 1) aNil)) (ρ := rho0 2 [tabD m os, offD ns]) (aCons_of rfl (aCons_of rfl rfl)) hc
    rcases h with ⟨rfl, hn⟩ | ⟨hn, k, d, i, j, a, b, oa, ob, _, rfl, _⟩
    · rw [hn]
      exact eOp_of e rfl rfl
    · rw [hn]
      exact eOp_of e rfl rfl
end Pb

set_option Elab.async false
set_option linter.all false
set_option maxRecDepth 100000
namespace Pb
open PySem PySem.Spec PyProof.Rows L2
theorem remF_some {d : Int} : ∀ {l : List Int}, d ∈ l → ∃ l', remF d l = some l' ∧ l.Perm (d :: l')
  | x :: l, h => by
    unfold remF
    by_cases hx : x = d
    · subst hx
      rw [if_pos rfl]
      exact ⟨l, rfl, List.Perm.refl _⟩
    · rw [if_neg hx]
      obtain ⟨l', h1, h2⟩ := remF_some (l := l) (by
        rcases List.mem_cons.mp h with z | z
        · exact absurd z.symm hx
        · exact z)
      refine ⟨x :: l', by rw [h1]; rfl, ?_⟩
      exact (h2.cons x).trans (List.Perm.swap d x l')
theorem whR_nx {β : Rho → Option Bool} {ψ : Rho → Option Res} {n : Nat} {ρ ρ' : Rho} (h : β ρ = some true) (hb : ψ ρ = some (.nx ρ')) : whR β ψ (n + 1) ρ = whR β ψ n ρ' := by
  show (β ρ).bind _ = _
  rw [h]
  show (ψ ρ).bind _ = _
  rw [hb]
  rfl
theorem whR_rt {β : Rho → Option Bool} {ψ : Rho → Option Res} {n : Nat} {ρ : Rho} {e : PyData} (h : β ρ = some true) (hb : ψ ρ = some (.rt e)) : whR β ψ (n + 1) ρ = some (.rt e) := by
  show (β ρ).bind _ = _
  rw [h]
  show (ψ ρ).bind _ = _
  rw [hb]
  rfl
theorem whR_no {β : Rho → Option Bool} {ψ : Rho → Option Res} {n : Nat} {ρ : Rho} (h : β ρ = some false) : whR β ψ (n + 1) ρ = some (.nx ρ) := by
  show (β ρ).bind _ = _
  rw [h]
  rfl
abbrev loT : Rho → Option Bool := bTest (eOp fNe0 (eL (lOwn 1)) (eL (lLst aNil)))
abbrev loB : Rho → Option Res := (sSeq (sSet (gN 3) (eL (lBor 1 (lLc [4] (iL (eVar 1)) (gN 4) (bTest (eCb Pb.q__law_is_simple (aCons (eVar 0) (aCons (eVar 1) (aCons (eVar 4) aNil))))) (eVar 4)))))
  (sSeq (sIf (bTest (eOp fEq0 (eVar 3) (eL (lLst aNil)))) (sRet (eTup aNil)) sNil)
  (sSeq (sApp 2 (eOp fIxL (eVar 3) (eInt 0)))
  (sRem 1 (eOp fIxL (eVar 3) (eInt 0))))))
def Nst (os : List (List Int)) (found rest : List Int) : Prop := ∀ k d, found[k]? = some d → fineB os (found.drop k ++ rest) d = true
theorem lBor_of {i : Nat} {φ : Rho → Option (List PyData)} {ρ : Rho} {fs es : List PyData} (h : ro ρ i = some fs) (h2 : φ (ρ.set i (.val (.list fs))) = some es) (hf : es.all flatD = true) : lBor i φ ρ = some es := by
  unfold lBor
  rw [h]
  show ((φ (ρ.set i (.val (.list fs)))).bind fun es => if es.all flatD = true then some es else none) = _
  rw [h2]
  show (if es.all flatD = true then some es else none) = _
  rw [if_pos hf]
theorem loLoop {m : Nat} {os : List (List Int)} (t : Tb m os) : ∀ (n : Nat) (rest found : List Int) (fuel : Nat) (s3 s4 : Sl), rest.length = n → n < fuel → (found ++ rest).Perm (upto m) → Nst os found rest →
    ∃ r, whR loT loB fuel [.val (tabD m os), .own (rest.map PyData.int), .own (found.map PyData.int), s3, s4] = some r ∧ (r = .rt (.tuple []) ∨ ∃ (ns : List Int) (s3' s4' : Sl), r = .nx [.val (tabD m os), .own [], .own (ns.map PyData.int), s3', s4'] ∧ OrdP m ns ∧ nestB os ns = true)
  | 0, [], found, fuel + 1, s3, s4, _, _, hp, hN => by
    refine ⟨_, rfl, .inr ⟨found, s3, s4, rfl, ordP_perm (by simpa using hp), nestB_iff.mpr fun j d hd => ?_⟩⟩
    have := hN j d hd
    rwa [List.append_nil] at this
  | n + 1, x :: rest, found, fuel + 1, s3, s4, hl, hf, hp, hN => by
    have m10 := t.m10
    have len : (found ++ x :: rest).length = m := by rw [hp.length_eq, ints_len]
    rw [List.length_append] at len
    have c : lBor 1 (lLc [4] (iL (eVar 1)) (gN 4) (bTest (eCb Pb.q__law_is_simple (aCons (eVar 0) (aCons (eVar 1) (aCons (eVar 4) aNil))))) (eVar 4)) [.val (tabD m os), .own ((x :: rest).map PyData.int), .own (found.map PyData.int), s3, s4] = some (((x :: rest).filter fun d => fineB os (x :: rest) d).map PyData.int) := by
      refine lBor_of rfl ?_ (flat_ints _)
      rw [← filter_ints fun d => fineB os (x :: rest) d]
      refine lLc_filter (es := (x :: rest).map PyData.int) _ rfl (by rw [List.length_map]; omega) fun e he => ?_
      obtain ⟨i, hi, rfl⟩ := List.mem_map.mp he
      exact ⟨_, rfl, bTest_of (eCb_of (aCons_of rfl (aCons_of rfl (aCons_of rfl rfl))) (simpleL t (R := lstD (x :: rest)) fun j => fIn_lst j _)), rfl⟩
    have tst : loT [.val (tabD m os), .own ((x :: rest).map PyData.int), .own (found.map PyData.int), s3, s4] = some true := rfl
    cases hs' : (x :: rest).filter fun d => fineB os (x :: rest) d with
    | nil =>
      rw [hs'] at c
      have b : loB [.val (tabD m os), .own ((x :: rest).map PyData.int), .own (found.map PyData.int), s3, s4] = some (.rt (.tuple [])) := (sSeq_nx (sSet_of (eL_of c))).trans (sSeq_rt ((sIf_t rfl).trans rfl))
      exact ⟨_, whR_rt tst b, .inl rfl⟩
    | cons d ds =>
      rw [hs'] at c
      obtain ⟨hd1, hd2⟩ := List.mem_filter.mp (show d ∈ (x :: rest).filter fun d => fineB os (x :: rest) d by rw [hs']; exact List.mem_cons_self)
      obtain ⟨rest', r1, r2⟩ := remF_some hd1
      have b : loB [.val (tabD m os), .own ((x :: rest).map PyData.int), .own (found.map PyData.int), s3, s4] = some (.nx [.val (tabD m os), .own (rest'.map PyData.int), .own ((found ++ [d]).map PyData.int), .val (lstD (d :: ds)), s4]) := by
        refine (sSeq_nx (sSet_of (eL_of c))).trans ((sSeq_nx ((sIf_f rfl).trans rfl)).trans ((sSeq_nx (ρ' := [.val (tabD m os), .own ((x :: rest).map PyData.int), .own ((found ++ [d]).map PyData.int), .val (lstD (d :: ds)), s4]) ?_).trans ?_))
        · show sApp 2 (eOp fIxL (eVar 3) (eInt 0)) [.val (tabD m os), .own ((x :: rest).map PyData.int), .own (found.map PyData.int), .val (lstD (d :: ds)), s4] = _
          unfold sApp
          show (if (found.map PyData.int).length < 100000 then (Option.map _ (eOp fIxL (eVar 3) (eInt 0) [.val (tabD m os), .own ((x :: rest).map PyData.int), .own (found.map PyData.int), .val (lstD (d :: ds)), s4])) else none) = _
          rw [if_pos (by rw [List.length_map]; omega), eOp_of (f := fIxL) (φ := eVar 3) (ψ' := eInt 0) rfl rfl (ixL_at (k := 0) rfl)]
          show some (Res.nx [.val (tabD m os), .own ((x :: rest).map PyData.int), .own (found.map PyData.int ++ [.int d]), .val (lstD (d :: ds)), s4]) = _
          rw [show found.map PyData.int ++ [.int d] = (found ++ [d]).map PyData.int by rw [List.map_append]; rfl]
        · show ((intsD ((x :: rest).map PyData.int)).bind fun ns => ((eOp fIxL (eVar 3) (eInt 0) [.val (tabD m os), .own ((x :: rest).map PyData.int), .own ((found ++ [d]).map PyData.int), .val (lstD (d :: ds)), s4]).bind asI).bind fun k => (remF k ns).map fun ms => Res.nx [.val (tabD m os), .own (ms.map PyData.int), .own ((found ++ [d]).map PyData.int), .val (lstD (d :: ds)), s4]) = _
          rw [intsD_ints, eOp_of (f := fIxL) (φ := eVar 3) (ψ' := eInt 0) rfl rfl (ixL_at (k := 0) rfl)]
          show ((remF d (x :: rest)).map fun ms => Res.nx [.val (tabD m os), .own (ms.map PyData.int), .own ((found ++ [d]).map PyData.int), .val (lstD (d :: ds)), s4]) = _
          rw [r1]
          rfl
      have pm : ((found ++ [d]) ++ rest').Perm (upto m) := by
        rw [List.append_assoc]
        exact (List.Perm.append_left found r2.symm).trans hp
      have mem : ∀ i, i ∈ d :: rest' ↔ i ∈ x :: rest := fun i => r2.symm.mem_iff
      have hN' : Nst os (found ++ [d]) rest' := fun k e he => by
        by_cases hk : k < found.length
        · rw [List.getElem?_append_left hk] at he
          have := hN k e he
          rw [List.drop_append_of_le_length (by omega)]
          rw [fineB_congr (ms := found.drop k ++ x :: rest) fun i => by
            rw [List.append_assoc, List.mem_append, List.singleton_append, mem, List.mem_append]]
          exact this
        · have hk2 : k = found.length := by
            have := (List.getElem?_eq_some_iff.mp he).1
            simp at this
            omega
          subst hk2
          rw [List.getElem?_append_right (Nat.le_refl _), Nat.sub_self] at he
          cases he
          rw [List.drop_left, List.singleton_append, fineB_congr (ms := x :: rest) mem]
          exact hd2
      have l' : rest'.length = n := by
        have := r2.length_eq
        simp at this hl
        omega
      obtain ⟨r, h1, h2⟩ := loLoop t n rest' (found ++ [d]) fuel (.val (lstD (d :: ds))) s4 l' (by omega) pm hN'
      exact ⟨r, (whR_nx tst b).trans h1, h2⟩
  | 0, _ :: _, _, _, _, _, h, _, _, _ => by simp at h
  | _ + 1, [], _, _, _, _, h, _, _, _ => by simp at h
  | _, _, _, 0, _, _, _, h, _, _ => by omega
/-- _law_order -/
theorem lawOrd {m : Nat} {os : List (List Int)} (t : Tb m os) : ∃ ns, q__law_order [tabD m os] = some (offD ns) ∧ (ns = [] ∨ (OrdP m ns ∧ nestB os ns = true)) := by
  have m10 := t.m10
  obtain ⟨r, h1, h2⟩ := loLoop t m (upto m) [] 1000 .no .no (ints_len m) (by omega) (List.Perm.refl _) (fun k d hd => by simp at hd)
  have st : sParOO 1 2 (lRg (eOp fIxT (eVar 0) (eInt 0))) (lLst aNil) (rho0 5 [tabD m os]) = some (.nx [.val (tabD m os), .own ((upto m).map PyData.int), .own [], .no, .no]) := by
    unfold sParOO
    rw [lRg_of (j := (m : Int)) rfl (by omega) (by omega), rng_ints]
    rfl
  rcases h2 with rfl | ⟨ns, s3, s4, rfl, ho, hn⟩
  · exact ⟨[], runF_of rfl ((sSeq_nx st).trans (sSeq_rt h1)), .inl rfl⟩
  · exact ⟨ns, runF_of rfl ((sSeq_nx st).trans ((sSeq_nx h1).trans rfl)), .inr ⟨ho, hn⟩⟩
end Pb

set_option Elab.async false
set_option linter.all false
set_option maxRecDepth 100000
namespace Pb
open PySem PySem.Spec PyProof.Rows L2
/-! ### what is told, and what is the same, as functions -/
theorem q_to_d {K : PySem.W.Frag} {t : List PyData → (PyData → Prop) → Prop} {g : List PyData → Option PyData} (h : ∀ ds e, g ds = some e → t ds (· = e)) : ∀ vs H Q E, spD K (RF g) vs H Q E → spQ K t vs H Q E := by
  rintro vs H Q E ⟨S, ds, e, tr, da, hg, q⟩
  exact ⟨S, ds, (· = e), tr, da, h ds e hg, fun v e' H' he s hd => by
    subst he
    exact q v H' s hd⟩
open Classical in
/-- _law_same of twice the same -/
noncomputable def fSame (δ : Nat) (ds : List PyData) : Option PyData := if ∃ a, ds = [a, a] ∧ a.depth < δ ∧ okD a = true ∧ a.hasDict = false then some (.bool true) else none
theorem fSame_of {δ : Nat} {a : PyData} (h1 : a.depth < δ) (h2 : okD a = true) (h3 : a.hasDict = false) : fSame δ [a, a] = some (.bool true) := by
  unfold fSame
  rw [if_pos ⟨a, rfl, h1, h2, h3⟩]
theorem same_to_f {K : PySem.W.Frag} {δ : Nat} : ∀ vs H Q E, spD K (RF (fSame δ)) vs H Q E → spD K (rSameD δ) vs H Q E := by
  rintro vs H Q E ⟨S, ds, e, tr, da, hg, q⟩
  refine ⟨S, ds, e, tr, da, ?_, q⟩
  unfold RF fSame at hg
  split at hg
  · rename_i h
    obtain ⟨a, rfl, h1, h2, h3⟩ := h
    cases hg
    exact ⟨a, rfl, h1, h2, h3, rfl⟩
  · cases hg
end Pb

set_option Elab.async false
set_option linter.all false
set_option maxRecDepth 100000
namespace Pb
open PySem PySem.Spec PyProof.Rows L2
theorem chain_le {φ ψ χ : Rho → Option PyData} {ρ : Rho} {a b c : Int} (h1 : φ ρ = some (.int a)) (h2 : ψ ρ = some (.int b)) (h3 : χ ρ = some (.int c)) : eChain fLe fLe φ ψ χ ρ = some (.bool (decide (a ≤ b) && decide (b ≤ c))) := by
  unfold eChain
  rw [h1, h2, h3]
  by_cases h : a ≤ b
  · show (if decide (a ≤ b) = true then some (PyData.bool (decide (b ≤ c))) else some (PyData.bool false)) = _
    rw [if_pos (decide_eq_true h), decide_eq_true h, Bool.true_and]
  · show (if decide (a ≤ b) = true then some (PyData.bool (decide (b ≤ c))) else some (PyData.bool false)) = _
    rw [if_neg (by simpa using h), decide_eq_false h, Bool.false_and]
theorem chain3_le {φ ψ χ ω : Rho → Option PyData} {ρ : Rho} {a b c d : Int} (h1 : φ ρ = some (.int a)) (h2 : ψ ρ = some (.int b)) (h3 : χ ρ = some (.int c)) (h4 : ω ρ = some (.int d)) : eChain3 fLe fLe fLe φ ψ χ ω ρ = some (.bool (decide (a ≤ b) && (decide (b ≤ c) && decide (c ≤ d)))) := by
  unfold eChain3
  rw [h1, h2, h3, h4]
  by_cases h : a ≤ b
  · by_cases k : b ≤ c
    · show (if decide (a ≤ b) = true then (if decide (b ≤ c) = true then some (PyData.bool (decide (c ≤ d))) else some (PyData.bool false)) else some (PyData.bool false)) = _
      rw [if_pos (decide_eq_true h), if_pos (decide_eq_true k), decide_eq_true h, decide_eq_true k, Bool.true_and, Bool.true_and]
    · show (if decide (a ≤ b) = true then (if decide (b ≤ c) = true then some (PyData.bool (decide (c ≤ d))) else some (PyData.bool false)) else some (PyData.bool false)) = _
      rw [if_pos (decide_eq_true h), if_neg (by simpa using k), decide_eq_true h, decide_eq_false k, Bool.true_and, Bool.false_and]
  · show (if decide (a ≤ b) = true then (if decide (b ≤ c) = true then some (PyData.bool (decide (c ≤ d))) else some (PyData.bool false)) else some (PyData.bool false)) = _
    rw [if_neg (by simpa using h), decide_eq_false h, Bool.false_and]
theorem iR2_of {φ ψ : Rho → Option PyData} {ρ : Rho} {i j : Int} (h1 : φ ρ = some (.int i)) (h2 : ψ ρ = some (.int j)) (hi : small i = true) (hj : small j = true) : iR2 φ ψ ρ = some (rngD i j) := by
  unfold iR2
  rw [h1, h2]
  show (if small i && small j then some (rngD i j) else none) = _
  rw [hi, hj]
  rfl
theorem drop1 (xs : List PyData) : cutG xs (some 1) none = xs.drop 1 := by
  cases xs with
  | nil => rfl
  | cons x xs => exact cutG_drop (j := 1) (by simp)
theorem zip_mem {xs ys : List PyData} {e : PyData} (h : e ∈ zipD xs ys) : ∃ p q, e = .tuple [p, q] ∧ p ∈ xs ∧ q ∈ ys := by
  obtain ⟨⟨p, q⟩, h1, rfl⟩ := List.mem_map.mp h
  exact ⟨p, q, rfl, (List.of_mem_zip h1).1, (List.of_mem_zip h1).2⟩
theorem two_of {x : PyData} (h : tupLen x 2 = true) : ∃ D F, x = .tuple [D, F] := by
  match x, h with
  | .tuple [D, F], _ => exact ⟨D, F, rfl⟩
  | .tuple [], h => simp [tupLen] at h
  | .tuple [_], h => simp [tupLen] at h
  | .tuple (_ :: _ :: _ :: _), h =>
    simp only [tupLen, List.length_cons, decide_eq_true_eq] at h
    omega
theorem ixL_ints {vs : List Int} {j : Int} (h0 : 0 ≤ j) (h1 : j < vs.length) : ∃ v ∈ vs, fIxL (.list (vs.map PyData.int)) (.int j) = some (.int v) := by
  obtain ⟨k, rfl⟩ : ∃ k : Nat, j = (k : Int) := ⟨j.toNat, by omega⟩
  have hk : k < vs.length := by omega
  exact ⟨vs[k], List.getElem_mem hk, ixL_at (by rw [List.getElem?_map, List.getElem?_eq_getElem hk]; rfl)⟩
theorem lcW_yes {τ : PyData → Rho → Option Rho} {Φ : Rho → Int → (PyData → Int → Prop) → Prop} {ρ ρ' : Rho} {e : PyData} {es : List PyData} {n : Int} {P : List PyData → Int → Prop} (h : τ e ρ = some ρ') (k : Φ ρ' n fun y n1 => lcW τ bYes Φ ρ es n1 fun ys n2 => P (y :: ys) n2) : lcW τ bYes Φ ρ (e :: es) n P :=
  ⟨ρ', h, true, rfl, by rw [if_pos rfl]; exact k⟩
theorem clip (x : Int) : ∃ y z : Int, fMin2 [.int 1000000000000, .int x] = some (.int y) ∧ fMax2 [.int 0, .int y] = some (.int z) ∧ 0 ≤ z ∧ z ≤ 1000000000000 := by
  refine ⟨_, _, rfl, rfl, ?_, ?_⟩
  · split <;> split <;> omega
  · split <;> split <;> omega
theorem clipM {x : Int} (h : 0 ≤ x) : ∃ y : Int, fMin2 [.int 1000000000000, .int x] = some (.int y) ∧ 0 ≤ y ∧ y ≤ 1000000000000 := by
  refine ⟨_, rfl, ?_, ?_⟩
  · split <;> omega
  · split <;> omega
theorem mul_of {i j : Int} (h : -(2 ^ 64) < j ∧ j < 2 ^ 64) : fMul (.int i) (.int j) = some (.int (i * j)) := by
  show (if cMul i j = true then some (PyData.int (i * j)) else none) = _
  rw [if_pos (show cMul i j = true from decide_eq_true (.inr h))]
theorem ixT_last {xs : List PyData} {x : PyData} : fIxT (.tuple (xs ++ [x])) (.int (-1)) = some x := by
  show atI (xs ++ [x]) (-1) = some x
  unfold atI
  have : ixN (xs ++ [x]).length (-1) = some xs.length := by
    unfold ixN
    rw [if_neg (by decide), if_pos (by simp; omega), List.length_append]
    simp
    omega
  rw [this]
  show (xs ++ [x])[xs.length]? = some x
  simp
theorem sOwn_of {i : Nat} {φ : Rho → Option (List PyData)} {ρ : Rho} {es : List PyData} (h : φ ρ = some es) : sOwn i φ ρ = some (.nx (ρ.set i (.own es))) := by
  unfold sOwn
  rw [h]
  rfl
theorem zip_all {xs ys : List PyData} {b : PyData → Bool} : (zipD xs ys).all b = true ↔ ∀ (k : Nat) (x y : PyData), xs[k]? = some x → ys[k]? = some y → b (.tuple [x, y]) = true := by
  rw [List.all_eq_true]
  constructor
  · intro h k x y hx hy
    refine h _ (List.mem_map.mpr ⟨(x, y), List.mem_of_getElem? (i := k) ?_, rfl⟩)
    rw [List.getElem?_zip_eq_some]
    exact ⟨hx, hy⟩
  · intro h e he
    obtain ⟨⟨x, y⟩, h1, rfl⟩ := List.mem_map.mp he
    obtain ⟨k, hk⟩ := List.getElem?_of_mem h1
    rw [List.getElem?_zip_eq_some] at hk
    exact h k x y hk.1 hk.2
theorem zip_len {xs ys : List PyData} : (zipD xs ys).length = min xs.length ys.length := by
  rw [zipD, List.length_map, List.length_zip]
theorem enum_all {xs : List PyData} {b : PyData → Bool} : (enumD xs).filter b = [] ↔ ∀ (k : Nat) (x : PyData), xs[k]? = some x → b (.tuple [.int (k : Int), x]) = false := by
  rw [List.filter_eq_nil_iff]
  constructor
  · intro h k x hx
    have := h _ (mem_enumD.mpr ⟨k, x, hx, rfl⟩)
    simpa using this
  · intro h e he
    obtain ⟨k, x, hx, rfl⟩ := mem_enumD.mp he
    rw [h k x hx]
    simp
theorem sum_ints (ks : List Int) : fSum [.list (ks.map PyData.int)] = some (.int ks.sum) := by
  show ((intsD (ks.map PyData.int)).map fun ns => PyData.int ns.sum) = _
  rw [intsD_ints]
  rfl
theorem ixT_get {ns : List Int} {d : Int} (h : 0 ≤ d ∧ d < (ns.length : Int)) : fIxT (offD ns) (.int d) = some (.int (ns.getD d.toNat 0)) := by
  have hk : d.toNat < ns.length := by omega
  have := ixT_int (ns := ns) (k := d.toNat) (List.getElem?_eq_getElem hk)
  rw [show ((d.toNat : Nat) : Int) = d by omega] at this
  rw [this, List.getD_eq_getElem?_getD, List.getElem?_eq_getElem hk]
  rfl
theorem ixL_get {ns : List Int} {d : Int} (h : 0 ≤ d ∧ d < (ns.length : Int)) : fIxL (.list (ns.map PyData.int)) (.int d) = some (.int (ns.getD d.toNat 0)) := ixT_get h
theorem ints_of_all : ∀ {xs : List PyData}, (∀ x ∈ xs, ∃ i : Int, x = .int i) → ∃ ns : List Int, xs = ns.map PyData.int
  | [], _ => ⟨[], rfl⟩
  | x :: xs, h => by
    obtain ⟨i, rfl⟩ := h x List.mem_cons_self
    obtain ⟨ns, rfl⟩ := ints_of_all (xs := xs) fun y hy => h y (List.mem_cons_of_mem _ hy)
    exact ⟨i :: ns, rfl⟩
end Pb

set_option Elab.async false
set_option linter.all false
set_option maxRecDepth 100000
namespace Pb
open PySem PySem.Spec PyProof.Rows L2
section
variable {P : Program} {w : World} {K : PySem.W.Frag} {mg : Str → Option Value} {base : Heap}
def q_is_ascending_below : List PyData → Option PyData := runF 4 2
  ((sSeq (sIf (bNot (bTest (eUn (fIsi "tuple") (eVar 0)))) (sRet (eBl false)) sNil)
  (sSeq (sSet (gN 2) (eUn fNeg (eInt 1)))
  (sSeq (sFor (iT (eVar 0)) (gN 3) (sSeq (sIf (bOr (bNot (bTest (eCb Pb.q_is_number_below (aCons (eVar 3) (aCons (eVar 1) aNil))))) (bTest (eOp fLe (eVar 3) (eVar 2)))) (sRet (eBl false)) sNil)
  (sSet (gN 2) (eVar 3))))
  (sRet (eBl true))))))
def q__law_is_choice : List PyData → Option PyData := runF 3 2
  ((sSeq (sIf (bOr (bNot (bTest (eUn (fIsi "tuple") (eVar 1)))) (bTest (eOp fNe0 (eL (lLc [2] (iT (eVar 1)) (gN 2) (bNot (bTest (eCb Pb.q__law_whole (aCons (eVar 2) aNil)))) (eVar 2))) (eL (lLst aNil))))) (sRet (eBl false)) sNil)
  (sSeq (sIf (bTest (eOp fNe0 (eL (lLc [2] (iT (eVar 1)) (gN 2) (bNot (bTest (eChain fLe fLt (eInt 0) (eVar 2) (eCb fLen (aCons (eOp fIxT (eVar 0) (eInt 1)) aNil))))) (eVar 2))) (eL (lLst aNil)))) (sRet (eBl false)) sNil)
  (sRet (eOp fEqD (eL (lCb fListOf (aCons (eVar 1) aNil))) (eL (lSortU (eVar 1))))))))
def e__law_raised (a : Addr) (d : Option Addr) (x : Str) : Rho → Option Res := inX ["NoOrder", "NoChoice", "NotCovered", "NoOffer", "NoDemand"] x
  ((sSeq (sOwn 2 (lLst aNil))
  (sSeq (sIf (bTest (eIsE a d 1 x "NoOrder")) (sApp 2 (eL (lLst (aCons (eStr "NoOrder") aNil)))) sNil)
  (sSeq (sIf (bTest (eIsE a d 1 x "NotOrderable")) sNever sNil)
  (sSeq (sIf (bTest (eIsE a d 1 x "NoChoice")) (sApp 2 (eL (lLst (aCons (eStr "NoChoice") aNil)))) sNil)
  (sSeq (sIf (bTest (eIsE a d 1 x "NotCovered")) (sApp 2 (eL (lLst (aCons (eStr "NotCovered") (aCons (eFldC x "NotCovered" a d 1 "demand") aNil))))) sNil)
  (sSeq (sIf (bTest (eIsE a d 1 x "NoOffer")) (sApp 2 (eL (lLst (aCons (eStr "NoOffer") (aCons (eFldC x "NoOffer" a d 1 "offer") aNil))))) sNil)
  (sSeq (sIf (bTest (eIsE a d 1 x "NoDemand")) (sApp 2 (eL (lLst (aCons (eStr "NoDemand") (aCons (eFldC x "NoDemand" a d 1 "demand") aNil))))) sNil)
  (sRet (eIf (bAnd (bTest (eOp fEq (eCb fLen (aCons (eL (lOwn 2)) aNil)) (eInt 1))) (bTest (eIsV a d 1))) (eOp fIxL (eL (lOwn 2)) (eInt 0)) (eL (lLst (aCons (eStr "other") aNil)))))))))))))
end
end Pb

set_option Elab.async false
set_option linter.all false
set_option maxRecDepth 100000
namespace Pb
open PySem PySem.Spec PyProof.Rows L2
structure Asc (c : Int) (x : PyData) (ns : List Int) : Prop where
  eq : x = offD ns
  ran : ∀ i ∈ ns, 0 ≤ i ∧ i < c
  asc : ns.Pairwise (· < ·)
theorem off_inj {a b : List Int} (h : offD a = offD b) : a = b := by
  have : a.map PyData.int = b.map PyData.int := by injection h
  exact List.map_inj_right (fun x y z => by injection z) |>.mp this
abbrev aB : PyData → Rho → Option Res := fun e ρ => (gN 3 e ρ).bind (sSeq (sIf (bOr (bNot (bTest (eCb Pb.q_is_number_below (aCons (eVar 3) (aCons (eVar 1) aNil))))) (bTest (eOp fLe (eVar 3) (eVar 2)))) (sRet (eBl false)) sNil) (sSet (gN 2) (eVar 3)))
theorem asc_loop (x : PyData) (c : Int) : ∀ (xs : List PyData) (last : Int) (s3 : Sl), ∃ b : Bool, (b = true → ∃ ρ', forR aB xs [.val x, .val (.int c), .val (.int last), s3] = some (.nx ρ')) ∧ (b = false → forR aB xs [.val x, .val (.int c), .val (.int last), s3] = some (.rt (.bool false))) ∧
    (b = true ↔ ∃ ns : List Int, xs = ns.map PyData.int ∧ (∀ i ∈ ns, 0 ≤ i ∧ i < c ∧ last < i) ∧ ns.Pairwise (· < ·))
  | [], last, s3 => ⟨true, fun _ => ⟨_, rfl⟩, fun z => (by cases z), fun _ => ⟨[], rfl, fun _ z => absurd z List.not_mem_nil, .nil⟩, fun _ => rfl⟩
  | y :: ys, last, s3 => by
    have t1 : (bNot (bTest (eCb Pb.q_is_number_below (aCons (eVar 3) (aCons (eVar 1) aNil))))) [.val x, .val (.int c), .val (.int last), .val y] = some (!numBelow y c) := bNot_of (bTest_of (eCb_of (aCons_of rfl (aCons_of rfl rfl)) (q_num y c)))
    have no : ∀ {r : Res}, aB y [.val x, .val (.int c), .val (.int last), s3] = some (.rt (.bool false)) → forR aB (y :: ys) [.val x, .val (.int c), .val (.int last), s3] = some (.rt (.bool false)) := fun h => by
      unfold forR
      rw [h]
      rfl
    cases hb : numBelow y c with
    | false =>
      rw [hb] at t1
      refine ⟨false, fun z => (by cases z), fun _ => no (r := .rt .none) (sSeq_rt ((sIf_t (bOr_t t1)).trans rfl)), fun z => (by cases z), ?_⟩
      rintro ⟨ns, e, h1, _⟩
      cases ns with
      | nil => cases e
      | cons i ns =>
        injection e with e1 _
        subst e1
        have := h1 i List.mem_cons_self
        rw [num_iff.mpr ⟨i, rfl, this.1, this.2.1⟩] at hb
        cases hb
    | true =>
      rw [hb] at t1
      obtain ⟨i, rfl, i0, i1⟩ := num_iff.mp hb
      have t2 : (bTest (eOp fLe (eVar 3) (eVar 2))) [.val x, .val (.int c), .val (.int last), .val (.int i)] = some (decide (i ≤ last)) := rfl
      by_cases hl : i ≤ last
      · rw [decide_eq_true hl] at t2
        refine ⟨false, fun z => (by cases z), fun _ => no (r := .rt .none) (sSeq_rt ((sIf_t ((bOr_f t1).trans t2)).trans rfl)), fun z => (by cases z), ?_⟩
        rintro ⟨ns, e, h1, _⟩
        cases ns with
        | nil => cases e
        | cons j ns =>
          injection e with e1 _
          cases e1
          have := h1 i List.mem_cons_self
          omega
      · rw [decide_eq_false hl] at t2
        obtain ⟨b, k1, k2, k3⟩ := asc_loop x c ys i (.val (.int i))
        have st : aB (.int i) [.val x, .val (.int c), .val (.int last), s3] = some (.nx [.val x, .val (.int c), .val (.int i), .val (.int i)]) := (sSeq_nx ((sIf_f ((bOr_f t1).trans t2)).trans rfl)).trans rfl
        have go : forR aB (.int i :: ys) [.val x, .val (.int c), .val (.int last), s3] = forR aB ys [.val x, .val (.int c), .val (.int i), .val (.int i)] := by
          conv => lhs; unfold forR
          rw [st]
          rfl
        refine ⟨b, fun z => (k1 z).imp fun ρ' h => go.trans h, fun z => go.trans (k2 z), ?_⟩
        rw [k3]
        constructor
        · rintro ⟨ns, rfl, h1, h2⟩
          refine ⟨i :: ns, rfl, fun j hj => ?_, List.pairwise_cons.mpr ⟨fun j hj => (h1 j hj).2.2, h2⟩⟩
          rcases List.mem_cons.mp hj with rfl | hj
          · exact ⟨i0, i1, by omega⟩
          · have := h1 j hj
            omega
        · rintro ⟨ns, e, h1, h2⟩
          cases ns with
          | nil => cases e
          | cons j ns =>
            injection e with e1 e2
            cases e1
            refine ⟨ns, e2, fun k hk => ?_, (List.pairwise_cons.mp h2).2⟩
            have a := h1 k (List.mem_cons_of_mem _ hk)
            have b := (List.pairwise_cons.mp h2).1 k hk
            omega
theorem q_asc {x : PyData} {c : Int} : ∃ b : Bool, q_is_ascending_below [x, .int c] = some (.bool b) ∧ (b = true ↔ ∃ ns, Asc c x ns) := by
  have nt : (bNot (bTest (eUn (fIsi "tuple") (eVar 0)))) [.val x, .val (.int c), .no, .no] = some true → (∀ ns, x ≠ offD ns) → ∃ b : Bool, q_is_ascending_below [x, .int c] = some (.bool b) ∧ (b = true ↔ ∃ ns, Asc c x ns) := fun h k =>
    ⟨false, runF_of rfl (sSeq_rt ((sIf_t h).trans rfl)), fun z => (by cases z), fun ⟨ns, a⟩ => absurd a.eq (k ns)⟩
  cases x with
  | tuple xs =>
    have a1 : (bNot (bTest (eUn (fIsi "tuple") (eVar 0)))) [.val (.tuple xs), .val (.int c), .no, .no] = some false := rfl
    obtain ⟨b, k1, k2, k3⟩ := asc_loop (.tuple xs) c xs (-1) .no
    have ok3 : b = true ↔ ∃ ns, Asc c (.tuple xs) ns := by
      rw [k3]
      constructor
      · rintro ⟨ns, rfl, h1, h2⟩
        exact ⟨ns, rfl, fun i hi => by have := h1 i hi; omega, h2⟩
      · rintro ⟨ns, e, h1, h2⟩
        have e' : xs = ns.map PyData.int := by injection e
        exact ⟨ns, e', fun i hi => by have := h1 i hi; omega, h2⟩
    cases b with
    | true =>
      obtain ⟨ρ', h⟩ := k1 rfl
      refine ⟨true, runF_of rfl ((sSeq_nx ((sIf_f a1).trans rfl)).trans ((sSeq_nx (ρ' := [.val (.tuple xs), .val (.int c), .val (.int (-1)), .no]) rfl).trans ((sSeq_nx (ρ' := ρ') ?_).trans rfl))), ok3⟩
      exact h
    | false =>
      refine ⟨false, runF_of rfl ((sSeq_nx ((sIf_f a1).trans rfl)).trans ((sSeq_nx (ρ' := [.val (.tuple xs), .val (.int c), .val (.int (-1)), .no]) rfl).trans (sSeq_rt ?_))), ok3⟩
      exact k2 rfl
  | _ => exact nt rfl fun ns z => by cases z
theorem sortU_same {ns : List Int} : sortU ns = ns ↔ ns.Pairwise (· < ·) := by
  constructor
  · intro h
    rw [← h]
    exact sortU_lt
  · intro h
    induction ns with
    | nil => rfl
    | cons a ns ih =>
      show insU a (sortU ns) = a :: ns
      rw [ih (List.pairwise_cons.mp h).2]
      cases ns with
      | nil => rfl
      | cons b ns =>
        have := (List.pairwise_cons.mp h).1 b List.mem_cons_self
        simp [insU, this]
theorem chain_lelt {φ ψ χ : Rho → Option PyData} {ρ : Rho} {a b c : Int} (h1 : φ ρ = some (.int a)) (h2 : ψ ρ = some (.int b)) (h3 : χ ρ = some (.int c)) : eChain fLe fLt φ ψ χ ρ = some (.bool (decide (a ≤ b) && decide (b < c))) := by
  unfold eChain
  rw [h1, h2, h3]
  by_cases h : a ≤ b
  · show (if decide (a ≤ b) = true then some (PyData.bool (decide (b < c))) else some (PyData.bool false)) = _
    rw [if_pos (decide_eq_true h), decide_eq_true h, Bool.true_and]
  · show (if decide (a ≤ b) = true then some (PyData.bool (decide (b < c))) else some (PyData.bool false)) = _
    rw [if_neg (by simpa using h), decide_eq_false h, Bool.false_and]
theorem lSortU_ints {φ : Rho → Option PyData} {ρ : Rho} {ns : List Int} (h : φ ρ = some (offD ns)) (hl : ns.length < 64) : lSortU φ ρ = some ((sortU ns).map PyData.int) := by
  unfold lSortU
  rw [h]
  show ((intsD (ns.map PyData.int)).bind fun ns => if ns.length < 64 then some ((sortU ns).map PyData.int) else none) = _
  rw [intsD_ints]
  show (if ns.length < 64 then some ((sortU ns).map PyData.int) else none) = _
  rw [if_pos hl]
/-- the law's own test of an ascending choice, its three parts -/
theorem nonint {xs : List PyData} : (xs.filter fun e => !Pb.isInt e).isEmpty = true ↔ ∃ ns : List Int, xs = ns.map PyData.int := by
  constructor
  · intro h
    exact Pb.ints_of_all fun e he => by
      have := List.filter_eq_nil_iff.mp (List.isEmpty_iff.mp h) e he
      cases e with
      | int i => exact ⟨i, rfl⟩
      | _ => exact absurd rfl this
  · rintro ⟨ns, rfl⟩
    rw [List.isEmpty_iff, List.filter_eq_nil_iff]
    intro e he
    obtain ⟨i, _, rfl⟩ := List.mem_map.mp he
    exact Bool.false_ne_true
def outB (c : Int) (e : PyData) : Bool := match e with
  | .int i => !(decide (0 ≤ i) && decide (i < c))
  | _ => false
theorem out_iff {c : Int} {ns : List Int} : ((ns.map PyData.int).filter (outB c)).isEmpty = true ↔ ∀ i ∈ ns, 0 ≤ i ∧ i < c := by
  rw [List.isEmpty_iff, List.filter_eq_nil_iff]
  constructor
  · intro h i hi
    have := h (.int i) (List.mem_map.mpr ⟨i, hi, rfl⟩)
    simp only [outB, Bool.not_eq_true', Bool.not_eq_false, Bool.and_eq_true, decide_eq_true_eq] at this
    exact this
  · intro h e he
    obtain ⟨i, hi, rfl⟩ := List.mem_map.mp he
    have := h i hi
    simp only [outB, Bool.not_eq_true', Bool.not_eq_false, Bool.and_eq_true, decide_eq_true_eq]
    exact this
theorem q_choice {m : Nat} {os : List (List Int)} {x : PyData} (ok : okD x = true) : ∃ b : Bool, q__law_is_choice [tabD m os, x] = some (.bool b) ∧ (b = true ↔ ∃ ns, Asc os.length x ns) := by
  have nt : (bNot (bTest (eUn (fIsi "tuple") (eVar 1)))) [.val (tabD m os), .val x, .no] = some true → (∀ ns, x ≠ offD ns) → ∃ b : Bool, q__law_is_choice [tabD m os, x] = some (.bool b) ∧ (b = true ↔ ∃ ns, Asc os.length x ns) := fun h k =>
    ⟨false, runF_of rfl (sSeq_rt ((sIf_t (bOr_t h)).trans rfl)), fun z => (by cases z), fun ⟨ns, a⟩ => absurd a.eq (k ns)⟩
  cases x with
  | tuple xs =>
    have xl := okL ok
    have a1 : (bNot (bTest (eUn (fIsi "tuple") (eVar 1)))) [.val (tabD m os), .val (.tuple xs), .no] = some false := rfl
    have a3 : (bTest (eOp fNe0 (eL (lLc [2] (iT (eVar 1)) (gN 2) (bNot (bTest (eCb Pb.q__law_whole (aCons (eVar 2) aNil)))) (eVar 2))) (eL (lLst aNil)))) [.val (tabD m os), .val (.tuple xs), .no] = some (!(xs.filter fun e => !Pb.isInt e).isEmpty) :=
      bTest_of (eOp_of (eL_of (lLc_filter (es := xs) (fun e => !Pb.isInt e) rfl (by omega) fun e he => ⟨_, rfl, bNot_of (bTest_of (eCb_of (aCons_of rfl rfl) (q_whole e))), rfl⟩)) rfl fNe0_of)
    cases hf : (xs.filter fun e => !Pb.isInt e).isEmpty with
    | false =>
      rw [hf] at a3
      refine ⟨false, runF_of rfl (sSeq_rt ((sIf_t ((bOr_f a1).trans a3)).trans rfl)), fun z => (by cases z), ?_⟩
      rintro ⟨ns, c⟩
      rw [nonint.mpr ⟨ns, by injection c.eq⟩] at hf
      cases hf
    | true =>
      rw [hf] at a3
      obtain ⟨ns, rfl⟩ := nonint.mp hf
      rw [List.length_map] at xl
      have first := (sIf_f (ψ := sRet (eBl false)) (χ := sNil) ((bOr_f a1).trans a3)).trans (show sNil [.val (tabD m os), .val (offD ns), .no] = some (.nx [.val (tabD m os), .val (offD ns), .no]) from rfl)
      have a4 : (bTest (eOp fNe0 (eL (lLc [2] (iT (eVar 1)) (gN 2) (bNot (bTest (eChain fLe fLt (eInt 0) (eVar 2) (eCb fLen (aCons (eOp fIxT (eVar 0) (eInt 1)) aNil))))) (eVar 2))) (eL (lLst aNil)))) [.val (tabD m os), .val (offD ns), .no] = some (!((ns.map PyData.int).filter (outB os.length)).isEmpty) := by
        refine bTest_of (eOp_of (eL_of (lLc_filter (es := ns.map PyData.int) (outB os.length) rfl (by rw [List.length_map]; omega) fun e he => ?_)) rfl fNe0_of)
        obtain ⟨i, hi, rfl⟩ := List.mem_map.mp he
        exact ⟨_, rfl, bNot_of (bTest_of (chain_lelt rfl rfl (eCb_of (aCons_of rfl rfl) (len_offs os)))), rfl⟩
      cases hz : ((ns.map PyData.int).filter (outB os.length)).isEmpty with
      | false =>
        rw [hz] at a4
        refine ⟨false, runF_of rfl ((sSeq_nx first).trans (sSeq_rt ((sIf_t a4).trans rfl))), fun z => (by cases z), ?_⟩
        rintro ⟨ns', c⟩
        obtain rfl := off_inj c.eq
        rw [out_iff.mpr c.ran] at hz
        cases hz
      | true =>
        rw [hz] at a4
        refine ⟨decide (ns = sortU ns), runF_of rfl ((sSeq_nx first).trans ((sSeq_nx ((sIf_f a4).trans rfl)).trans (sRet_of (eOp_of (x := .list (ns.map PyData.int)) rfl (eL_of (lSortU_ints rfl (by omega))) (fEqD_ints _ _))))), ?_⟩
        rw [decide_eq_true_eq]
        constructor
        · intro h
          exact ⟨ns, rfl, out_iff.mp hz, sortU_same.mp h.symm⟩
        · rintro ⟨ns', c⟩
          obtain rfl := off_inj c.eq
          exact (sortU_same.mpr c.asc).symm
  | _ => exact nt rfl fun ns z => by cases z
end Pb
namespace Pb
open PySem PySem.Spec PyProof.Rows L2
theorem ne_NoOrder_NotOrderable : ¬ (("NoOrder" : Str) = "NotOrderable") := by decide +kernel
theorem ne_NoOrder_NoChoice : ¬ (("NoOrder" : Str) = "NoChoice") := by decide +kernel
theorem ne_NoOrder_NotCovered : ¬ (("NoOrder" : Str) = "NotCovered") := by decide +kernel
theorem ne_NoOrder_NoOffer : ¬ (("NoOrder" : Str) = "NoOffer") := by decide +kernel
theorem ne_NoOrder_NoDemand : ¬ (("NoOrder" : Str) = "NoDemand") := by decide +kernel
theorem ne_NotOrderable_NoOrder : ¬ (("NotOrderable" : Str) = "NoOrder") := by decide +kernel
theorem ne_NotOrderable_NoChoice : ¬ (("NotOrderable" : Str) = "NoChoice") := by decide +kernel
theorem ne_NotOrderable_NotCovered : ¬ (("NotOrderable" : Str) = "NotCovered") := by decide +kernel
theorem ne_NotOrderable_NoOffer : ¬ (("NotOrderable" : Str) = "NoOffer") := by decide +kernel
theorem ne_NotOrderable_NoDemand : ¬ (("NotOrderable" : Str) = "NoDemand") := by decide +kernel
theorem ne_NoChoice_NoOrder : ¬ (("NoChoice" : Str) = "NoOrder") := by decide +kernel
theorem ne_NoChoice_NotOrderable : ¬ (("NoChoice" : Str) = "NotOrderable") := by decide +kernel
theorem ne_NoChoice_NotCovered : ¬ (("NoChoice" : Str) = "NotCovered") := by decide +kernel
theorem ne_NoChoice_NoOffer : ¬ (("NoChoice" : Str) = "NoOffer") := by decide +kernel
theorem ne_NoChoice_NoDemand : ¬ (("NoChoice" : Str) = "NoDemand") := by decide +kernel
theorem ne_NotCovered_NoOrder : ¬ (("NotCovered" : Str) = "NoOrder") := by decide +kernel
theorem ne_NotCovered_NotOrderable : ¬ (("NotCovered" : Str) = "NotOrderable") := by decide +kernel
theorem ne_NotCovered_NoChoice : ¬ (("NotCovered" : Str) = "NoChoice") := by decide +kernel
theorem ne_NotCovered_NoOffer : ¬ (("NotCovered" : Str) = "NoOffer") := by decide +kernel
theorem ne_NotCovered_NoDemand : ¬ (("NotCovered" : Str) = "NoDemand") := by decide +kernel
theorem ne_NoOffer_NoOrder : ¬ (("NoOffer" : Str) = "NoOrder") := by decide +kernel
theorem ne_NoOffer_NotOrderable : ¬ (("NoOffer" : Str) = "NotOrderable") := by decide +kernel
theorem ne_NoOffer_NoChoice : ¬ (("NoOffer" : Str) = "NoChoice") := by decide +kernel
theorem ne_NoOffer_NotCovered : ¬ (("NoOffer" : Str) = "NotCovered") := by decide +kernel
theorem ne_NoOffer_NoDemand : ¬ (("NoOffer" : Str) = "NoDemand") := by decide +kernel
theorem ne_NoDemand_NoOrder : ¬ (("NoDemand" : Str) = "NoOrder") := by decide +kernel
theorem ne_NoDemand_NotOrderable : ¬ (("NoDemand" : Str) = "NotOrderable") := by decide +kernel
theorem ne_NoDemand_NoChoice : ¬ (("NoDemand" : Str) = "NoChoice") := by decide +kernel
theorem ne_NoDemand_NotCovered : ¬ (("NoDemand" : Str) = "NotCovered") := by decide +kernel
theorem ne_NoDemand_NoOffer : ¬ (("NoDemand" : Str) = "NoOffer") := by decide +kernel
/-- what _law_raised tells of an error -/
def n_raised (x : Str) (fs : List (Str × PyData)) (ds : List PyData) : Option PyData := match fs, ds with
  | [], [_] => if x = "NoOrder" ∨ x = "NoChoice" then some (.list [.str x]) else none
  | [(f, e)], [_] => if (x = "NotCovered" ∧ f = "demand") ∨ (x = "NoOffer" ∧ f = "offer") ∨ (x = "NoDemand" ∧ f = "demand") then some (.list [.str x, e]) else none
  | _, _ => none
theorem raised_of : ∀ x fs ds e, n_raised x fs ds = some e → RN 3 2 e__law_raised x fs ds e := by
  intro x fs ds e h
  unfold n_raised at h
  split at h
  · rename_i t
    split at h
    · rename_i hx
      cases h
      refine ⟨rfl, fun a d hd => ?_⟩
      rcases hd with ⟨rfl, _⟩ | ⟨dd, f, e, _, z⟩
      · rcases hx with rfl | rfl
        · simp [runN, rhoN, rho0, e__law_raised, inX, sSeq, sOwn, lLst, aNil, lim, thenR, sIf, bTest, eIsE, rxn, asB, sApp, ro, eL, aCons, eStr, sNil, sRet, eIf, bAnd, eOp, eCb, fLen, lOwn, eInt, fEq, fI, eIsV, fIxL, atI, ixN, seqD, ne_NoOrder_NotOrderable, ne_NoOrder_NoChoice, ne_NoOrder_NotCovered, ne_NoOrder_NoOffer, ne_NoOrder_NoDemand, ne_NotOrderable_NoOrder, ne_NotOrderable_NoChoice, ne_NotOrderable_NotCovered, ne_NotOrderable_NoOffer, ne_NotOrderable_NoDemand, ne_NoChoice_NoOrder, ne_NoChoice_NotOrderable, ne_NoChoice_NotCovered, ne_NoChoice_NoOffer, ne_NoChoice_NoDemand, ne_NotCovered_NoOrder, ne_NotCovered_NotOrderable, ne_NotCovered_NoChoice, ne_NotCovered_NoOffer, ne_NotCovered_NoDemand, ne_NoOffer_NoOrder, ne_NoOffer_NotOrderable, ne_NoOffer_NoChoice, ne_NoOffer_NotCovered, ne_NoOffer_NoDemand, ne_NoDemand_NoOrder, ne_NoDemand_NotOrderable, ne_NoDemand_NoChoice, ne_NoDemand_NotCovered, ne_NoDemand_NoOffer]
        · simp [runN, rhoN, rho0, e__law_raised, inX, sSeq, sOwn, lLst, aNil, lim, thenR, sIf, bTest, eIsE, rxn, asB, sApp, ro, eL, aCons, eStr, sNil, sRet, eIf, bAnd, eOp, eCb, fLen, lOwn, eInt, fEq, fI, eIsV, fIxL, atI, ixN, seqD, ne_NoOrder_NotOrderable, ne_NoOrder_NoChoice, ne_NoOrder_NotCovered, ne_NoOrder_NoOffer, ne_NoOrder_NoDemand, ne_NotOrderable_NoOrder, ne_NotOrderable_NoChoice, ne_NotOrderable_NotCovered, ne_NotOrderable_NoOffer, ne_NotOrderable_NoDemand, ne_NoChoice_NoOrder, ne_NoChoice_NotOrderable, ne_NoChoice_NotCovered, ne_NoChoice_NoOffer, ne_NoChoice_NoDemand, ne_NotCovered_NoOrder, ne_NotCovered_NotOrderable, ne_NotCovered_NoChoice, ne_NotCovered_NoOffer, ne_NotCovered_NoDemand, ne_NoOffer_NoOrder, ne_NoOffer_NotOrderable, ne_NoOffer_NoChoice, ne_NoOffer_NotCovered, ne_NoOffer_NoDemand, ne_NoDemand_NoOrder, ne_NoDemand_NotOrderable, ne_NoDemand_NoChoice, ne_NoDemand_NotCovered, ne_NoDemand_NoOffer]
      · cases z
    · cases h
  · rename_i f y t
    split at h
    · rename_i hx
      cases h
      refine ⟨rfl, fun a d hd => ?_⟩
      rcases hd with ⟨_, z⟩ | ⟨dd, f', e', rfl, z⟩
      · cases z
      · cases z
        rcases hx with ⟨rfl, rfl⟩ | ⟨rfl, rfl⟩ | ⟨rfl, rfl⟩ <;>
          simp [runN, rhoN, rho0, e__law_raised, inX, sSeq, sOwn, lLst, aNil, lim, thenR, sIf, bTest, eIsE, rxn, asB, sApp, ro, eL, aCons, eStr, sNil, sRet, eIf, bAnd, eOp, eCb, fLen, lOwn, eInt, fEq, fI, eIsV, fIxL, atI, ixN, eFldC, eFld, seqD, ne_NoOrder_NotOrderable, ne_NoOrder_NoChoice, ne_NoOrder_NotCovered, ne_NoOrder_NoOffer, ne_NoOrder_NoDemand, ne_NotOrderable_NoOrder, ne_NotOrderable_NoChoice, ne_NotOrderable_NotCovered, ne_NotOrderable_NoOffer, ne_NotOrderable_NoDemand, ne_NoChoice_NoOrder, ne_NoChoice_NotOrderable, ne_NoChoice_NotCovered, ne_NoChoice_NoOffer, ne_NoChoice_NoDemand, ne_NotCovered_NoOrder, ne_NotCovered_NotOrderable, ne_NotCovered_NoChoice, ne_NotCovered_NoOffer, ne_NotCovered_NoDemand, ne_NoOffer_NoOrder, ne_NoOffer_NotOrderable, ne_NoOffer_NoChoice, ne_NoOffer_NotCovered, ne_NoOffer_NoDemand, ne_NoDemand_NoOrder, ne_NoDemand_NotOrderable, ne_NoDemand_NoChoice, ne_NoDemand_NotCovered, ne_NoDemand_NoOffer]
    · cases h
  · cases h
end Pb

set_option Elab.async false
set_option linter.all false
set_option maxRecDepth 100000
namespace Pb
open PySem PySem.Spec PyProof.Rows L2
section
variable {P : Program} {w : World} {K : PySem.W.Frag} {mg : Str → Option Value} {base : Heap}
def t__law_called (GG : List PyData → Option Out) (fa : Addr) : List PyData → (PyData → Prop) → Prop := runQF 5 3 fa
  ((qSeq (qP (sSet (gN 3) eNon))
  (qSeq (qTry 4 ["NoOrder", "NoChoice", "NotCovered", "NoOffer", "NoDemand"] (xIf (bTest (eOp fEq (eCb fLen (aCons (eVar 2) aNil)) (eInt 3))) (xSetX 3 (oLst "returned" (oCallL 0 fa GG (aCons (eVar 1) (aCons (eOp fIxL (eVar 2) (eInt 0)) (aCons (eOp fIxL (eVar 2) (eInt 1)) (aCons (eOp fIxL (eVar 2) (eInt 2)) aNil))))))) (xIf (bTest (eOp fEq (eCb fLen (aCons (eVar 2) aNil)) (eInt 2))) (xSetX 3 (oLst "returned" (oCallL 0 fa GG (aCons (eVar 1) (aCons (eOp fIxL (eVar 2) (eInt 0)) (aCons (eOp fIxL (eVar 2) (eInt 1)) aNil)))))) (xSetX 3 (oLst "returned" (oIf (bTest (eOp fEq (eCb fLen (aCons (eVar 2) aNil)) (eInt 1))) (oCallL 0 fa GG (aCons (eVar 1) (aCons (eOp fIxL (eVar 2) (eInt 0)) aNil))) (oCallL 0 fa GG (aCons (eVar 1) aNil))))))) (fun a d x => (sSet (gN 3) (eKE1 n_raised a d 4 x (eVar 1)))))
  (qP (sRet (eVar 3))))))
def w__law_amount : Addr → List PyData → Int → (PyData → Int → Prop) → Prop := runW 1 1 fun d =>
  (twRet (wOp fIxL (wL (wfLst (wCons (wP (eInt 0)) (wCons (wP (eInt 1)) (wCons (wDraw d 0 WNextW (wCons (wP (eInt 4)) wNil)) (wCons (wDraw d 0 WNextW (wCons (wP (eInt 12)) wNil)) (wCons (wDraw d 0 WNextW (wCons (wP (eOp fAdd (eOp fPow (eInt 10) (eInt 12)) (eInt 1))) wNil)) (wCons (wP (eOp fPow (eInt 10) (eInt 12))) wNil)))))))) (wDraw d 0 WNextW (wCons (wP (eInt 6)) wNil))))
def w__law_data : Addr → List PyData → Int → (PyData → Int → Prop) → Prop := runW 6 2 fun d =>
  (twSeq (twSet (gN 2) (wOp fIxL (wL (wfP (lLst (aCons (eInt 3) (aCons (eInt 12) (aCons (eInt 0) aNil)))))) (wDraw d 0 WNextW (wCons (wP (eInt 3)) wNil))))
  (twSeq (twP (sSet (gN 3) (eOp fAdd (eOp fIxT (eVar 1) (eInt 0)) (eCb fLen (aCons (eOp fIxT (eVar 1) (eInt 1)) aNil)))))
  (twSeq (twSet (gN 4) (wL (wfLc [5] (iR (eVar 3)) (gN 5) bYes (wDraw d 0 WNextW (wCons (wP (eOp fAdd (eVar 2) (eInt 1))) wNil)))))
  (twSeq (twIf (bTest (eOp fEq (eVar 2) (eInt 0))) (twSet (gN 4) (wL (wfLc [5] (iR (eVar 3)) (gN 5) bYes (wDraw d 0 w__law_amount wNil)))) (twP sNil))
  (twP (sRet (eTup (aCons (eCb fTupOf (aCons (eL (lSl (eVar 4) (oSome (eOp fIxT (eVar 1) (eInt 0))) oNone)) aNil)) (aCons (eCb fTupOf (aCons (eL (lSl (eVar 4) oNone (oSome (eOp fIxT (eVar 1) (eInt 0))))) aNil)) aNil)))))))))
end
end Pb

set_option Elab.async false
set_option linter.all false
set_option maxRecDepth 100000
namespace Pb
open PySem PySem.Spec PyProof.Rows L2
theorem off_ints (o : List Int) : (o.map PyData.int).map intOf = o := by
  rw [List.map_map]
  exact List.map_id'' (fun _ => rfl) o
theorem cov_nodup (os : List (List Int)) (d : Int) : (covL os d).Nodup := by
  have e : covL os d = ((os.zipIdx.filter fun p => decide (d ∈ p.1)).map Prod.snd).map fun (k : Nat) => (k : Int) := by
    rw [List.map_map]
    rfl
  rw [e]
  refine List.Pairwise.map _ (fun a b h => by omega) (R := fun a b => a ≠ b) ?_
  have s : ((os.zipIdx.filter fun p => decide (d ∈ p.1)).map Prod.snd).Sublist (os.zipIdx.map Prod.snd) := (List.filter_sublist).map _
  rw [List.zipIdx_map_snd] at s
  exact List.Nodup.sublist s List.nodup_range'
theorem sPut_of {i : Nat} {φi φ : Rho → Option PyData} {ρ : Rho} {es : List PyData} {k : Int} {e : PyData} (h1 : φ ρ = some e) (h2 : ro ρ i = some es) (h3 : φi ρ = some (.int k)) (hk : 0 ≤ k ∧ k < (es.length : Int)) : sPut i φi φ ρ = some (.nx (ρ.set i (.own (es.set k.toNat e)))) := by
  unfold sPut
  rw [h1, h2, h3]
  show (ixN es.length k).map (fun j => Res.nx (ρ.set i (.own (es.set j e)))) = _
  unfold ixN
  rw [if_pos hk.1, if_pos hk.2]
  rfl
theorem set_ints (ns : List Int) (k : Nat) (v : Int) : (ns.map PyData.int).set k (.int v) = (ns.set k v).map PyData.int := by rw [List.map_set]
def In0 (M : Int) (ns : List Int) : Prop := ∀ i ∈ ns, 0 ≤ i ∧ i ≤ M
theorem In0.set {M : Int} {ns : List Int} (h : In0 M ns) {k : Nat} {v : Int} (hv : 0 ≤ v ∧ v ≤ M) : In0 M (ns.set k v) := fun i hi => by
  rcases List.mem_or_eq_of_mem_set hi with hi | rfl
  · exact h i hi
  · exact hv
theorem In0.get {M : Int} {ns : List Int} (h : In0 M ns) {k : Nat} (hk : k < ns.length) : 0 ≤ ns.getD k 0 ∧ ns.getD k 0 ≤ M := by
  rw [List.getD_eq_getElem?_getD, List.getElem?_eq_getElem hk]
  exact h _ (List.getElem_mem hk)
theorem rep_one {α : Type} (x : α) : ∀ n : Nat, (List.replicate n [x]).flatten = List.replicate n x
  | 0 => rfl
  | n + 1 => by rw [List.replicate_succ, List.flatten_cons, rep_one x n, List.replicate_succ]; rfl
theorem amount {d : Addr} {n : Int} (hn : n < 2 ^ 45) {P : PyData → Int → Prop} (h : ∀ v n' : Int, 0 ≤ v → v ≤ (1000000000000 : Int) → n' ≤ n + 4 → P (.int v) n') : w__law_amount d [] n P := by
  refine ⟨rfl, ?_⟩
  refine ⟨_, rfl, _, rfl, rfl, _, rfl, 4, rfl, by omega, by omega, by omega, fun a n1 a0 a1 le1 => ?_⟩
  refine ⟨rfl, _, rfl, 12, rfl, by omega, by omega, by omega, fun b n2 b0 b1 le2 => ?_⟩
  refine ⟨rfl, _, rfl, 1000000000001, rfl, by omega, by omega, by omega, fun c n3 c0 c1 le3 => ?_⟩
  refine ⟨_, rfl, _, rfl, ?_⟩
  refine ⟨rfl, _, rfl, 6, rfl, by omega, by omega, by omega, fun j n4 j0 j6 le4 => ?_⟩
  obtain ⟨v, hv, e⟩ := ixL_ints (vs := [0, 1, a, b, c, 1000000000000]) j0 (by simpa using j6)
  simp only [List.mem_cons, List.not_mem_nil, or_false] at hv
  exact ⟨_, e, h v n4 (by omega) (by omega) (by omega)⟩
/-- a comprehension whose items are drawn ints -/
theorem lcW_ints {τ : PyData → Rho → Option Rho} {Φ : Rho → Int → (PyData → Int → Prop) → Prop} {ρ : Rho} {c B : Int} (c0 : 0 ≤ c) : ∀ {es : List PyData}, (∀ e ∈ es, ∀ (n : Int) (Q : PyData → Int → Prop), n < B → (∀ v n' : Int, 0 ≤ v → v ≤ (1000000000000 : Int) → n' ≤ n + c → Q (.int v) n') → ∃ ρ', τ e ρ = some ρ' ∧ Φ ρ' n Q) →
    ∀ {n : Int} {P : List PyData → Int → Prop}, n + c * es.length < B → (∀ (ks : List Int) (n' : Int), ks.length = es.length → In0 (1000000000000 : Int) ks → n' ≤ n + c * es.length → P (ks.map PyData.int) n') → lcW τ bYes Φ ρ es n P
  | [], _, n, P, _, h => h [] n rfl (fun _ z => absurd z List.not_mem_nil) (by simp)
  | e :: es, hs, n, P, hn, h => by
    have e1 : c * ((e :: es).length : Int) = c + c * (es.length : Int) := by
      rw [List.length_cons, Int.natCast_add, Int.mul_add]
      simp
      omega
    rw [e1] at hn h
    have cl : 0 ≤ c * (es.length : Int) := Int.mul_nonneg c0 (by omega)
    obtain ⟨ρ', h1, h2⟩ := hs e List.mem_cons_self n (fun y n1 => lcW τ bYes Φ ρ es n1 fun ys n2 => P (y :: ys) n2) (by omega) fun v n' v0 v1 le => by
      refine lcW_ints c0 (fun x hx => hs x (List.mem_cons_of_mem _ hx)) (by omega) fun ks n2 hl hk le2 => ?_
      exact h (v :: ks) n2 (by rw [List.length_cons, hl, List.length_cons]) (fun i hi => by
        rcases List.mem_cons.mp hi with rfl | hi
        · exact ⟨v0, v1⟩
        · exact hk i hi) (by omega)
    exact lcW_yes h1 h2
theorem take_ints {ks : List Int} {m : Nat} (h : m ≤ ks.length) : cutG (ks.map PyData.int) none (some (m : Int)) = (ks.take m).map PyData.int ∧ cutG (ks.map PyData.int) (some (m : Int)) none = (ks.drop m).map PyData.int := by
  constructor
  · rw [cutG_take (by rw [List.length_map]; exact h), List.map_take]
  · rw [cutG_drop (by rw [List.length_map]; exact h), List.map_drop]
theorem data {d : Addr} {m : Nat} {os : List (List Int)} (t : Tb m os) {n : Int} (hn : n < 2 ^ 40) {P : PyData → Int → Prop} (h : ∀ (ps qs : List Int) (n' : Int), ps.length = os.length → qs.length = m → In0 (1000000000000 : Int) ps → In0 (1000000000000 : Int) qs → n' ≤ n + 200 → P (.tuple [offD ps, offD qs]) n') : w__law_data d [tabD m os] n P := by
  have m10 := t.m10
  have ol := t.len
  refine ⟨rfl, ?_⟩
  refine ⟨[.int 3, .int 12, .int 0], rfl, rfl, _, rfl, 3, rfl, by omega, by omega, by omega, fun j n1 j0 j3 le1 => ?_⟩
  obtain ⟨w, hw, hwe⟩ := ixL_ints (vs := [3, 12, 0]) j0 (by simpa using j3)
  simp only [List.mem_cons, List.not_mem_nil, or_false] at hw
  refine ⟨_, hwe, _, rfl, ?_⟩
  refine ⟨.nx [.deck d, .val (tabD m os), .val (.int w), .val (.int ((m + os.length : Nat) : Int)), .no, .no], sSet_of (eOp_of (x := .int m) (y := .int (os.length : Nat)) rfl (eCb_of (aCons_of rfl rfl) (len_offs os)) ?_), ?_⟩
  · show some (PyData.int ((m : Int) + (os.length : Int))) = _
    rw [Int.natCast_add]
  have hi : ∀ s4 : Sl, ((iR (eVar 3)) [.deck d, .val (tabD m os), .val (.int w), .val (.int ((m + os.length : Nat) : Int)), s4, .no]).bind lim = some (rngD 0 ((m + os.length : Nat) : Int)) := fun s4 => by
    rw [iR_of (j := ((m + os.length : Nat) : Int)) rfl (by omega)]
    exact lim_of (by rw [rngD_len]; omega)
  have rl : (rngD 0 ((m + os.length : Nat) : Int)).length = m + os.length := by rw [rngD_len]; omega
  have fin : ∀ (ks : List Int) (n' : Int), ks.length = m + os.length → In0 (1000000000000 : Int) ks → n' ≤ n + 200 → (twP (sRet (eTup (aCons (eCb fTupOf (aCons (eL (lSl (eVar 4) (oSome (eOp fIxT (eVar 1) (eInt 0))) oNone)) aNil)) (aCons (eCb fTupOf (aCons (eL (lSl (eVar 4) oNone (oSome (eOp fIxT (eVar 1) (eInt 0))))) aNil)) aNil)))))
      [.deck d, .val (tabD m os), .val (.int w), .val (.int ((m + os.length : Nat) : Int)), .val (.list (ks.map PyData.int)), .no] n' fun r k' => match r with
        | .rt e => P e k'
        | .nx _ => P .none k'
        | _ => False := fun ks n' hl hk le => by
    have cut := take_ints (ks := ks) (m := m) (by omega)
    refine ⟨.rt (.tuple [offD (ks.drop m), offD (ks.take m)]), sRet_of (eTup2_of (eCb_of (aCons_of (eL_of ((lSl_of (es := ks.map PyData.int) (l := some (m : Int)) (h := none) rfl rfl rfl).trans (congrArg some cut.2))) rfl) rfl) (eCb_of (aCons_of (eL_of ((lSl_of (es := ks.map PyData.int) (l := none) (h := some (m : Int)) rfl rfl rfl).trans (congrArg some cut.1))) rfl) rfl)), ?_⟩
    exact h _ _ n' (by rw [List.length_drop]; omega) (by rw [List.length_take]; omega) (fun i hi => hk i (List.mem_of_mem_drop hi)) (fun i hi => hk i (List.mem_of_mem_take hi)) le
  refine ⟨_, hi .no, lcW_ints (c := 1) (B := 2 ^ 44) (by omega) (fun e he n2 Q hn2 hQ => ?_) (by rw [rl]; omega) fun ks n2 hl hk le2 => ?_⟩
  · exact ⟨_, rfl, rfl, _, rfl, w + 1, rfl, by omega, by omega, by omega, fun v n3 v0 v1 le3 => hQ v n3 v0 (by omega) (by omega)⟩
  refine ⟨_, rfl, ?_⟩
  rw [rl] at hl le2
  by_cases w0 : w = 0
  · refine ⟨true, bTest_of (eOp_of rfl rfl (by rw [w0]; rfl)), ?_⟩
    rw [if_pos rfl]
    refine ⟨_, hi (.val (.list (ks.map PyData.int))), lcW_ints (c := 4) (B := 2 ^ 44) (by omega) (fun e he n3 Q hn3 hQ => ?_) (by rw [rl]; omega) fun ks2 n3 hl2 hk2 le3 => ?_⟩
    · exact ⟨_, rfl, rfl, amount (by omega) hQ⟩
    refine ⟨_, rfl, ?_⟩
    rw [rl] at hl2 le3
    exact fin ks2 n3 hl2 hk2 (by omega)
  · refine ⟨false, bTest_of (eOp_of (x := .int w) (y := .int 0) rfl rfl (by rw [fEq_int, decide_eq_false w0])), ?_⟩
    rw [if_neg (by decide)]
    exact ⟨_, rfl, fin ks n2 hl hk (by omega)⟩
def Sm (ns : List Int) : Prop := ∀ i ∈ ns, i.natAbs < 10 ^ 80
theorem big13 : (10000000000000 : Nat) < 10 ^ 59 ∧ (10 : Nat) ^ 59 + 1 + 1 < 10 ^ 80 := by decide +kernel
theorem In0.sm {ns : List Int} (h : In0 (1000000000000 : Int) ns) : Sm ns := fun i hi => by
  have := h i hi
  have := big13
  omega
theorem gw_sm {ns : List Int} (h : Sm ns) (hl : ns.length ≤ 22) : Gw 1829 1 (offD ns) := gw_off (L := 22) h hl
theorem gw_all3 {W D : Nat} {x : PyData} (h : Gw W D x) (hW : W ≤ 100000 := by decide) (hD : D ≤ 10 := by decide) : Gw 100000 10 x := h.mono hW hD
theorem tup1 {φ : Rho → Option PyData} {ρ : Rho} {x : PyData} (h : φ ρ = some x) : eTup (aCons φ aNil) ρ = some (.tuple [x]) := by
  unfold eTup
  rw [aCons_of h rfl]
  rfl
def oddv (i : Int) : PyData := if i < 2 then .bool (decide (i = 1)) else .int i
theorem eIf_of {β : Rho → Option Bool} {φ ψ : Rho → Option PyData} {ρ : Rho} {b : Bool} {x : PyData} (h : β ρ = some b) (k : (if b then φ ρ else ψ ρ) = some x) : eIf β φ ψ ρ = some x := by
  unfold eIf
  rw [h]
  exact k
theorem gw_tabl {m : Nat} {os : List (List Int)} (t : Tb m os) : Gw 100000 10 (tabD m os) := by
  have m10 := t.m10
  have inner' : Gw 20000 2 (.tuple (os.map offD)) := by
    refine (gw_tup (W := 1829) (D := 1) (L := 10) (fun e he => ?_) (by rw [List.length_map]; exact t.len)).mono
    obtain ⟨o, ho, rfl⟩ := List.mem_map.mp he
    have oo : OffOk m o := t.off o ho
    refine gw_sm (fun i hi => ?_) (by have := oo.len; omega)
    have := oo.1 i hi
    have := big13
    omega
  refine gw_all3 (gw_tup (W := 20000) (D := 2) (L := 2) (fun e he => ?_) (by simp))
  simp only [List.mem_cons, List.not_mem_nil, or_false] at he
  rcases he with rfl | rfl
  · exact (gw_int (by have := big13; omega)).mono
  · exact inner'
/-! ### a def handed on and called -/
def fCalled (g : List PyData → Option Out) (ds : List PyData) : Option PyData := match ds with
  | [t, .list some'] => if some'.length ≤ 3 then (g (t :: some')).bind fun o => match o with
    | .ret e => some (.list [.str "returned", e])
    | .exc x => n_raised x [] [t]
    | .excF x f e => n_raised x [(f, e)] [t] else none
  | _ => none
def toldO : Out → Out
  | .ret e => .ret (.list [.str "returned", e])
  | o => o
theorem n_raised_in {x : Str} {fs : List (Str × PyData)} {ds : List PyData} {e : PyData} (h : n_raised x fs ds = some e) : x ∈ (["NoOrder", "NoChoice", "NotCovered", "NoOffer", "NoDemand"] : List Str) := by
  unfold n_raised at h
  split at h
  · split at h
    · rename_i hx
      rcases hx with rfl | rfl <;> simp
    · cases h
  · split at h
    · rename_i hx
      rcases hx with ⟨rfl, _⟩ | ⟨rfl, _⟩ | ⟨rfl, _⟩ <;> simp
    · cases h
  · cases h
theorem rfn_at {n : Nat} {fa : Addr} {ds : List PyData} : rfn (rhoW (n + 1) fa ds) 0 fa = true := by
  unfold rfn rhoW rho0
  simp
theorem called_of {g : List PyData → Option Out} {fa : Addr} : ∀ ds e, fCalled g ds = some e → t__law_called g fa ds (· = e) := by
  intro ds e h
  unfold fCalled at h
  split at h
  · rename_i t sm
    split at h
    · rename_i hl
      obtain ⟨o, h1, h2⟩ := Option.bind_eq_some_iff.mp h
      refine ⟨rfl, _, rfl, ?_⟩
      -- what any outcome comes to
      have fin : ∀ ξ : Rho → Option Rx, ξ [.deck fa, .val t, .val (.list sm), .val .none, .no] = some (outR (toldO o) [.deck fa, .val t, .val (.list sm), .val .none, .no] fun e => .nx [.deck fa, .val t, .val (.list sm), .val e, .no]) →
          qTry 4 ["NoOrder", "NoChoice", "NotCovered", "NoOffer", "NoDemand"] ξ (fun a d x => (sSet (gN 3) (eKE1 n_raised a d 4 x (eVar 1)))) [.deck fa, .val t, .val (.list sm), .val .none, .no] fun r => match r with
            | .nx ρ' => qP (sRet (eVar 3)) ρ' fun r => match r with
              | .rt e' => e' = e
              | .nx _ => PyData.none = e
              | _ => False
            | r => match r with
              | .rt e' => e' = e
              | .nx _ => PyData.none = e
              | _ => False := fun ξ hξ => by
        refine ⟨_, hξ, ?_⟩
        cases o with
        | ret e' =>
          cases h2
          exact ⟨_, rfl, rfl⟩
        | exc x =>
          refine ⟨n_raised_in h2, fun a => ⟨.nx [.deck fa, .val t, .val (.list sm), .val e, .exn a none []], ?_, ?_⟩⟩
          · refine sSet_of ?_
            show (rxn [.deck fa, .val t, .val (.list sm), .val .none, .exn a none []] 4 a none).bind (fun fs => n_raised x fs [t]) = some e
            have : rxn [.deck fa, .val t, .val (.list sm), .val .none, .exn a none []] 4 a none = some [] := by simp [rxn]
            rw [this]
            exact h2
          · exact ⟨_, rfl, rfl⟩
        | excF x f y =>
          refine ⟨n_raised_in h2, fun a dd => ⟨.nx [.deck fa, .val t, .val (.list sm), .val e, .exn a (some dd) [(f, y)]], ?_, ?_⟩⟩
          · refine sSet_of ?_
            show (rxn [.deck fa, .val t, .val (.list sm), .val .none, .exn a (some dd) [(f, y)]] 4 a (some dd)).bind (fun fs => n_raised x fs [t]) = some e
            have : rxn [.deck fa, .val t, .val (.list sm), .val .none, .exn a (some dd) [(f, y)]] 4 a (some dd) = some [(f, y)] := by simp [rxn]
            rw [this]
            exact h2
          · exact ⟨_, rfl, rfl⟩
      have rf : rfn [.deck fa, .val t, .val (.list sm), .val .none, .no] 0 fa = true := by simp [rfn]
      have oc : ∀ (φs : Rho → Option (List PyData)) , φs [.deck fa, .val t, .val (.list sm), .val .none, .no] = some (t :: sm) → oCallL 0 fa g φs [.deck fa, .val t, .val (.list sm), .val .none, .no] = some o := fun φs hφ => by
        unfold oCallL
        rw [if_pos rf, hφ]
        exact h1
      have sx : ∀ ξ : Rho → Option Out, ξ [.deck fa, .val t, .val (.list sm), .val .none, .no] = some o → xSetX 3 (oLst "returned" ξ) [.deck fa, .val t, .val (.list sm), .val .none, .no] = some (outR (toldO o) [.deck fa, .val t, .val (.list sm), .val .none, .no] fun e => .nx [.deck fa, .val t, .val (.list sm), .val e, .no]) := fun ξ hξ => by
        unfold xSetX oLst
        rw [hξ]
        cases o <;> rfl
      match sm, hl with
      | [], _ => exact fin _ ((xIf_f rfl).trans ((xIf_f rfl).trans (sx _ ((show oIf _ _ _ _ = oCallL 0 fa g (aCons (eVar 1) aNil) _ from rfl).trans (oc _ rfl)))))
      | [a], _ => exact fin _ ((xIf_f rfl).trans ((xIf_f rfl).trans (sx _ ((show oIf _ _ _ _ = oCallL 0 fa g (aCons (eVar 1) (aCons (eOp fIxL (eVar 2) (eInt 0)) aNil)) _ from rfl).trans (oc _ rfl)))))
      | [a, b], _ => exact fin _ ((xIf_f rfl).trans ((xIf_t rfl).trans (sx _ (oc _ rfl))))
      | [a, b, c], _ => exact fin _ ((xIf_t rfl).trans (sx _ (oc _ rfl)))
      | _ :: _ :: _ :: _ :: _, hl => simp at hl
    · cases h
  · cases h
end Pb

set_option Elab.async false
set_option linter.all false
set_option maxRecDepth 100000
namespace Pb
open PySem PySem.Spec PyProof.Rows L2
section
variable {P : Program} {w : World} {K : PySem.W.Frag} {mg : Str → Option Value} {base : Heap}
def q_mask_of : List PyData → Option PyData := runF 2 1
  ((sRet (eCb fSum (aCons (eL (lLc [1] (iT (eVar 0)) (gN 1) bYes (eOp fShl (eInt 1) (eVar 1)))) aNil))))
def q_penalty_outside : List PyData → Option PyData := runF 4 2
  ((sRet (eCb fSum (aCons (eL (lLc [2, 3] (iET (eVar 0)) (gT (gC (gN 2) (gC (gN 3) g0))) (bNot (bTru (eOp fBand (eOp fShr (eVar 1) (eVar 2)) (eInt 1)))) (eVar 3))) aNil))))
def q__law_choice_cost : List PyData → Option PyData := runF 8 4
  ((sSeq (sOwn 4 (lLst aNil))
  (sSeq (sFor (iT (eVar 3)) (gN 5) (sExt 4 (lCb fListOf (aCons (eOp fIxT (eOp fIxT (eVar 0) (eInt 1)) (eVar 5)) aNil))))
  (sRet (eOp fAdd (eCb fSum (aCons (eL (lLc [5] (iT (eVar 3)) (gN 5) bYes (eOp fIxT (eVar 1) (eVar 5)))) aNil)) (eCb fSum (aCons (eL (lLc [6, 7] (iET (eVar 2)) (gT (gC (gN 6) (gC (gN 7) g0))) (bTest (eOp fNin (eVar 6) (eL (lOwn 4)))) (eVar 7))) aNil)))))))
def r_choice_cost : List PyData → Option Out := runX 7 4
  ((xSeq (xP (sSet (gN 4) (eOp fIxT (eVar 0) (eInt 1))))
  (xSeq (xIf (bNot (bTest (eCb Pb.q_is_ascending_below (aCons (eVar 3) (aCons (eCb fLen (aCons (eVar 4) aNil)) aNil))))) (xRaise "NoChoice") (xP sNil))
  (xP (sSeq (sSet (gN 5) (eInt 0))
  (sSeq (sFor (iT (eVar 3)) (gN 6) (sAug 5 fBor (eCb q_mask_of (aCons (eOp fIxT (eVar 4) (eVar 6)) aNil))))
  (sRet (eOp fAdd (eCb fSum (aCons (eL (lLc [6] (iT (eVar 3)) (gN 6) bYes (eOp fIxT (eVar 1) (eVar 6)))) aNil)) (eCb q_penalty_outside (aCons (eVar 2) (aCons (eVar 5) aNil)))))))))))
end
end Pb

set_option Elab.async false
set_option linter.all false
set_option maxRecDepth 100000
namespace Pb
open PySem PySem.Spec PyProof.Rows L2
/-! ### choices and their costs -/
def paid (ns o : List Int) : Int := (o.map fun d => ns.getD d.toNat 0).sum
def coveredB (os : List (List Int)) (ks : List Int) (d : Int) : Bool := ks.any fun k => decide (d ∈ offAt os k)
def penL (qs : List Int) (b : Int → Bool) : Int := ((qs.zipIdx.filter fun p => !b ((p.2 : Nat) : Int)).map Prod.fst).sum
def costL (os : List (List Int)) (ps qs ks : List Int) : Int := paid ps ks + penL qs (coveredB os ks)
theorem sum_of {vs : List Nat} {it : Rho → Option (List PyData)} {τ : PyData → Rho → Option Rho} {φ : Rho → Option PyData} {ρ : Rho} {ns o : List Int} (hi : it ρ = some (o.map PyData.int)) (hl : o.length ≤ 60) (ho : ∀ d ∈ o, 0 ≤ d ∧ d < (ns.length : Int))
    (h : ∀ d ∈ o, ∃ ρ', τ (.int d) (wipeR ρ vs) = some ρ' ∧ φ ρ' = fIxT (offD ns) (.int d)) : eCb fSum (aCons (eL (lLc vs it τ bYes φ)) aNil) ρ = some (.int (paid ns o)) := by
  refine eCb_of (xs := [.list ((o.map fun d => ns.getD d.toNat 0).map PyData.int)]) (aCons_of (eL_of ?_) rfl) (sum_ints _)
  have := lLc_map (vs := vs) (it := it) (τ := τ) (φ := φ) (ρ := ρ) (es := o.map PyData.int) (fun e => .int (ns.getD (intOf e).toNat 0)) hi (by rw [List.length_map]; omega) fun e he => by
    obtain ⟨d, hd, rfl⟩ := List.mem_map.mp he
    obtain ⟨ρ', h1, h2⟩ := h d hd
    exact ⟨ρ', h1, h2.trans (ixT_get (ho d hd))⟩
  rw [this, List.map_map, List.map_map]
  rfl
theorem sFor_of {it : Rho → Option (List PyData)} {τ : PyData → Rho → Option Rho} {ψ : Rho → Option Res} {ρ : Rho} {es : List PyData} {r : Option Res} (h : it ρ = some es) (k : forR (fun e ρ => (τ e ρ).bind ψ) es ρ = r) : sFor it τ ψ ρ = r := by
  unfold sFor
  rw [h]
  exact k
theorem shl_one {i : Int} (h0 : 0 ≤ i) (h1 : i ≤ 1000) : fShl (.int 1) (.int i) = some (.int (2 ^ i.toNat)) := by
  show (if cPow 1 i = true then some (PyData.int (1 * 2 ^ i.toNat)) else none) = _
  rw [if_pos (show cPow 1 i = true from decide_eq_true ⟨h0, by omega, by decide⟩), Int.one_mul]
theorem mask_cast : ∀ o : List Int, (o.map fun i => (2 : Int) ^ i.toNat).sum = ((maskN o : Nat) : Int)
  | [] => rfl
  | i :: o => by
    have e : maskN (i :: o) = 2 ^ i.toNat + maskN o := rfl
    rw [List.map_cons, List.sum_cons, mask_cast o, e, Int.natCast_add, Int.natCast_pow]
    rfl
theorem q_mask {o : List Int} (h : ∀ i ∈ o, 0 ≤ i ∧ i ≤ 1000) (hl : o.length ≤ 1000) : q_mask_of [offD o] = some (.int ((maskN o : Nat) : Int)) := by
  refine runF_of rfl (sRet_of (eCb_of (xs := [.list ((o.map fun i => (2 : Int) ^ i.toNat).map PyData.int)]) (aCons_of (eL_of ?_) rfl) ((sum_ints _).trans (by rw [mask_cast]))))
  have := lLc_map (vs := [1]) (it := iT (eVar 0)) (τ := gN 1) (φ := eOp fShl (eInt 1) (eVar 1)) (ρ := [.val (offD o), .no]) (es := o.map PyData.int) (fun e => .int (2 ^ (intOf e).toNat)) rfl (by rw [List.length_map]; omega) fun e he => by
    obtain ⟨d, hd, rfl⟩ := List.mem_map.mp he
    have := h d hd
    exact ⟨_, rfl, eOp_of rfl rfl (shl_one this.1 this.2)⟩
  refine this.trans ?_
  rw [List.map_map, List.map_map]
  rfl
theorem enum_sum (qs : List Int) (b : Int → Bool) (B : PyData → Bool) (hB : ∀ (k : Nat) (i : Int), B (.tuple [.int (k : Int), .int i]) = b k) : ((enumD (qs.map PyData.int)).filter B).map snd2 = ((qs.zipIdx.filter fun p => b ((p.2 : Nat) : Int)).map Prod.fst).map PyData.int := by
  unfold enumD
  rw [List.zipIdx_map, List.map_map, List.filter_map, List.map_map, List.map_map]
  have e : (B ∘ (fun p : PyData × Nat => PyData.tuple [.int ((p.2 : Nat) : Int), p.1]) ∘ Prod.map PyData.int id) = fun p : Int × Nat => b ((p.2 : Nat) : Int) := by
    funext p
    exact hB p.2 p.1
  rw [e]
  rfl
theorem shr_nat (c k : Nat) : fShr (.int (c : Int)) (.int (k : Int)) = some (.int ((c : Int) / 2 ^ k)) := by
  show (if cShr (c : Int) (k : Int) = true then some (PyData.int ((c : Int) / 2 ^ (k : Int).toNat)) else none) = _
  rw [if_pos (show cShr (c : Int) (k : Int) = true from decide_eq_true (by omega)), Int.toNat_natCast]
theorem bTru_of {φ : Rho → Option PyData} {ρ : Rho} {x : PyData} {b : Bool} (h : φ ρ = some x) (k : truD x = some b) : bTru φ ρ = some b := by
  unfold bTru
  rw [h]
  exact k
theorem q_pen {qs : List Int} {c : Nat} (hl : qs.length ≤ 1000) : q_penalty_outside [offD qs, .int (c : Int)] = some (.int (penL qs fun d => c.testBit d.toNat)) := by
  let B : PyData → Bool := fun e => !c.testBit (intOf (fst2 e)).toNat
  have k := lLc_of (vs := [2, 3]) (it := iET (eVar 0)) (τ := gT (gC (gN 2) (gC (gN 3) g0))) (β := bNot (bTru (eOp fBand (eOp fShr (eVar 1) (eVar 2)) (eInt 1)))) (φ := eVar 3) (ρ := [.val (offD qs), .val (.int (c : Int)), .no, .no]) (es := enumD (qs.map PyData.int)) B snd2 rfl (by rw [enumD_len, List.length_map]; omega) fun e he => by
    obtain ⟨k, y, h1, rfl⟩ := mem_enumD.mp he
    exact ⟨[.val (offD qs), .val (.int (c : Int)), .val (.int (k : Int)), .val y], rfl, bNot_of (bTru_of (eOp_of (eOp_of rfl rfl (shr_nat c k)) rfl rfl) (tru_bit c k)), fun _ => rfl⟩
  rw [enum_sum qs (fun d => !c.testBit d.toNat) B (fun k i => rfl)] at k
  exact runF_of rfl (sRet_of (eCb_of (aCons_of (eL_of k) rfl) (sum_ints _)))
/-! the mask of what is covered -/
def orN (os : List (List Int)) (ks : List Int) (c : Nat) : Nat := ks.foldl (fun c k => c ||| maskN (offAt os k)) c
theorem orN_bit {m : Nat} {os : List (List Int)} (h : ∀ o ∈ os, OffOk m o) : ∀ (ks : List Int) (c j : Nat), (∀ k ∈ ks, 0 ≤ k ∧ k < (os.length : Int)) → (orN os ks c).testBit j = (c.testBit j || coveredB os ks (j : Int))
  | [], c, j, _ => by simp [orN, coveredB]
  | k :: ks, c, j, hk => by
    have ih := orN_bit h ks (c ||| maskN (offAt os k)) j fun x hx => hk x (List.mem_cons_of_mem _ hx)
    have kk := hk k List.mem_cons_self
    have oo : OffOk m (offAt os k) := h _ (by
      unfold offAt
      rw [List.getD_eq_getElem?_getD, List.getElem?_eq_getElem (by omega : k.toNat < os.length)]
      exact List.getElem_mem _)
    have e : orN os (k :: ks) c = orN os ks (c ||| maskN (offAt os k)) := rfl
    rw [e, ih, Nat.testBit_or, testBit_maskN (oo.2.imp fun h => by omega) (fun i hi => (oo.1 i hi).1)]
    simp only [coveredB, List.any_cons, Bool.or_assoc]
theorem offAt_get {os : List (List Int)} {k : Int} (h : 0 ≤ k ∧ k < (os.length : Int)) : os[k.toNat]? = some (offAt os k) := by
  unfold offAt
  rw [List.getD_eq_getElem?_getD, List.getElem?_eq_getElem (by omega : k.toNat < os.length)]
  rfl
theorem offAt_mem {os : List (List Int)} {k : Int} (h : 0 ≤ k ∧ k < (os.length : Int)) : offAt os k ∈ os := List.mem_of_getElem? (offAt_get h)
theorem ix_off {os : List (List Int)} {k : Int} (h : 0 ≤ k ∧ k < (os.length : Int)) : fIxT (.tuple (os.map offD)) (.int k) = some (offD (offAt os k)) := by
  have := ixT_off (os := os) (k := k.toNat) (offAt_get h)
  rw [show ((k.toNat : Nat) : Int) = k by omega] at this
  exact this
theorem or_nat (a b : Nat) : Builtin.bitOr (a : Int) (b : Int) = ((a ||| b : Nat) : Int) := by
  rw [bitOr_nn (Int.natCast_nonneg _) (Int.natCast_nonneg _), Int.toNat_natCast, Int.toNat_natCast]
theorem sAug_of {i : Nat} {f : PyData → PyData → Option PyData} {φ : Rho → Option PyData} {ρ : Rho} {x y z : PyData} (h1 : rv ρ i = some x) (h2 : φ ρ = some y) (h3 : f x y = some z) : sAug i f φ ρ = some (.nx (ρ.set i (.val z))) := by
  unfold sAug
  rw [h1, h2]
  show (f x y).map _ = _
  rw [h3]
  rfl
theorem penL_congr {qs : List Int} {b c : Int → Bool} (h : ∀ k : Nat, k < qs.length → b k = c k) : penL qs b = penL qs c := by
  unfold penL
  congr 2
  refine List.filter_congr fun p hp => ?_
  rw [h p.2 (by
    have := List.snd_lt_of_mem_zipIdx hp
    omega)]
theorem r_cost_good {m : Nat} {os : List (List Int)} {ps qs ns : List Int} {x : PyData} (t : Tb m os) (hp : ps.length = os.length) (hq : qs.length = m) (a : Asc os.length x ns) : r_choice_cost [tabD m os, offD ps, offD qs, x] = some (.ret (.int (costL os ps qs ns))) := by
  have m10 := t.m10
  have ol := t.len
  obtain ⟨b, h1, h2⟩ := q_asc (x := x) (c := (os.length : Int))
  have hb : b = true := h2.mpr ⟨ns, a⟩
  subst hb
  have nl : ns.length ≤ os.length := OffOk.len ⟨a.ran, a.asc⟩
  obtain rfl := a.eq
  have c1 : (bNot (bTest (eCb Pb.q_is_ascending_below (aCons (eVar 3) (aCons (eCb fLen (aCons (eVar 4) aNil)) aNil))))) [.val (tabD m os), .val (offD ps), .val (offD qs), .val (offD ns), .val (.tuple (os.map offD)), .no, .no] = some false :=
    bNot_of (bTest_of (eCb_of (aCons_of rfl (aCons_of (eCb_of (aCons_of rfl rfl) (len_offs os)) rfl)) h1))
  refine runX_ret rfl ((xSeq_nx (xP_of rfl)).trans ((xSeq_nx ((xIf_f c1).trans (xP_of rfl))).trans (xP_of ?_)))
  have loop : ∀ (ks : List Int) (c : Nat) (s6 : Sl), (∀ k ∈ ks, 0 ≤ k ∧ k < (os.length : Int)) → ∃ s6', forR (fun e ρ => (gN 6 e ρ).bind (sAug 5 fBor (eCb q_mask_of (aCons (eOp fIxT (eVar 4) (eVar 6)) aNil)))) (ks.map PyData.int) [.val (tabD m os), .val (offD ps), .val (offD qs), .val (offD ns), .val (.tuple (os.map offD)), .val (.int (c : Int)), s6] =
      some (.nx [.val (tabD m os), .val (offD ps), .val (offD qs), .val (offD ns), .val (.tuple (os.map offD)), .val (.int ((orN os ks c : Nat) : Int)), s6']) := by
    intro ks
    induction ks with
    | nil => exact fun c s6 _ => ⟨s6, rfl⟩
    | cons k ks ih =>
      intro c s6 hk
      have kk := hk k List.mem_cons_self
      have oo : OffOk m (offAt os k) := t.off _ (offAt_mem kk)
      obtain ⟨s6', e⟩ := ih (c ||| maskN (offAt os k)) (.val (.int k)) fun x hx => hk x (List.mem_cons_of_mem _ hx)
      refine ⟨s6', ?_⟩
      rw [List.map_cons]
      unfold forR
      have st : (gN 6 (.int k) [.val (tabD m os), .val (offD ps), .val (offD qs), .val (offD ns), .val (.tuple (os.map offD)), .val (.int (c : Int)), s6]).bind (sAug 5 fBor (eCb q_mask_of (aCons (eOp fIxT (eVar 4) (eVar 6)) aNil))) = some (.nx [.val (tabD m os), .val (offD ps), .val (offD qs), .val (offD ns), .val (.tuple (os.map offD)), .val (.int ((c ||| maskN (offAt os k) : Nat) : Int)), .val (.int k)]) := by
        show sAug 5 fBor (eCb q_mask_of (aCons (eOp fIxT (eVar 4) (eVar 6)) aNil)) [.val (tabD m os), .val (offD ps), .val (offD qs), .val (offD ns), .val (.tuple (os.map offD)), .val (.int (c : Int)), .val (.int k)] = _
        refine sAug_of (z := .int ((c ||| maskN (offAt os k) : Nat) : Int)) rfl (eCb_of (aCons_of (eOp_of rfl rfl (ix_off kk)) rfl) (q_mask (fun i hi => by have := oo.1 i hi; omega) (by have := oo.len; omega))) ?_
        show some (PyData.int (Builtin.bitOr (c : Int) (maskN (offAt os k) : Nat))) = _
        rw [or_nat]
      rw [st]
      exact e
  obtain ⟨s6', e⟩ := loop ns 0 .no a.ran
  refine (sSeq_nx rfl).trans ((sSeq_nx (sFor_of rfl e)).trans (sRet_of ?_))
  · refine eOp_of (sum_of (ns := ps) (o := ns) rfl (by omega) (fun d hd => by have := a.ran d hd; omega) fun d hd => ⟨_, rfl, rfl⟩) (eCb_of (aCons_of rfl (aCons_of rfl rfl)) (q_pen (by omega))) ?_
    have : penL qs (fun d => (orN os ns 0).testBit d.toNat) = penL qs (coveredB os ns) := penL_congr fun k hk => by
      rw [Int.toNat_natCast, orN_bit t.off ns 0 k a.ran, Nat.zero_testBit, Bool.false_or]
    rw [this]
    rfl
theorem r_cost_bad {m : Nat} {os : List (List Int)} {ps qs : List Int} {x : PyData} (h : ¬ ∃ ns, Asc os.length x ns) : r_choice_cost [tabD m os, offD ps, offD qs, x] = some (.exc "NoChoice") := by
  obtain ⟨b, h1, h2⟩ := q_asc (x := x) (c := (os.length : Int))
  have hb : b = false := by
    cases b with
    | false => rfl
    | true => exact absurd (h2.mp rfl) h
  subst hb
  have c1 : (bNot (bTest (eCb Pb.q_is_ascending_below (aCons (eVar 3) (aCons (eCb fLen (aCons (eVar 4) aNil)) aNil))))) [.val (tabD m os), .val (offD ps), .val (offD qs), .val x, .val (.tuple (os.map offD)), .no, .no] = some true :=
    bNot_of (bTest_of (eCb_of (aCons_of rfl (aCons_of (eCb_of (aCons_of rfl rfl) (len_offs os)) rfl)) h1))
  exact runX_exc rfl ((xSeq_nx (xP_of rfl)).trans (xSeq_ex ((xIf_t c1).trans rfl)))
/-! the law's own -/
theorem sExt_of {i : Nat} {φ : Rho → Option (List PyData)} {ρ : Rho} {es fs : List PyData} (h1 : ro ρ i = some es) (h2 : φ ρ = some fs) (hl : es.length + fs.length ≤ 100000) : sExt i φ ρ = some (.nx (ρ.set i (.own (es ++ fs)))) := by
  unfold sExt
  rw [h1, h2]
  show (if es.length + fs.length ≤ 100000 then _ else _) = _
  rw [if_pos hl]
theorem law_cost {m : Nat} {os : List (List Int)} {ps qs ns : List Int} (t : Tb m os) (hp : ps.length = os.length) (hq : qs.length = m) (hn : ∀ k ∈ ns, 0 ≤ k ∧ k < (os.length : Int)) (nl : ns.length ≤ 60) : q__law_choice_cost [tabD m os, offD ps, offD qs, offD ns] = some (.int (costL os ps qs ns)) := by
  have m10 := t.m10
  have loop : ∀ (ks cs : List Int) (s5 : Sl), (∀ k ∈ ks, 0 ≤ k ∧ k < (os.length : Int)) → cs.length + 10 * ks.length ≤ 1000 → ∃ s5', forR (fun e ρ => (gN 5 e ρ).bind (sExt 4 (lCb fListOf (aCons (eOp fIxT (eOp fIxT (eVar 0) (eInt 1)) (eVar 5)) aNil)))) (ks.map PyData.int) [.val (tabD m os), .val (offD ps), .val (offD qs), .val (offD ns), .own (cs.map PyData.int), s5, .no, .no] =
      some (.nx [.val (tabD m os), .val (offD ps), .val (offD qs), .val (offD ns), .own ((cs ++ ks.flatMap (offAt os)).map PyData.int), s5', .no, .no]) := by
    intro ks
    induction ks with
    | nil => exact fun cs s5 _ _ => ⟨s5, by rw [List.flatMap_nil, List.append_nil]; rfl⟩
    | cons k ks ih =>
      intro cs s5 hk hl
      have kk := hk k List.mem_cons_self
      have oo : OffOk m (offAt os k) := t.off _ (offAt_mem kk)
      have ol := oo.len
      rw [List.length_cons] at hl
      obtain ⟨s5', e⟩ := ih (cs ++ offAt os k) (.val (.int k)) (fun x hx => hk x (List.mem_cons_of_mem _ hx)) (by rw [List.length_append]; omega)
      refine ⟨s5', ?_⟩
      rw [List.map_cons]
      unfold forR
      have st : (gN 5 (.int k) [.val (tabD m os), .val (offD ps), .val (offD qs), .val (offD ns), .own (cs.map PyData.int), s5, .no, .no]).bind (sExt 4 (lCb fListOf (aCons (eOp fIxT (eOp fIxT (eVar 0) (eInt 1)) (eVar 5)) aNil))) = some (.nx [.val (tabD m os), .val (offD ps), .val (offD qs), .val (offD ns), .own ((cs ++ offAt os k).map PyData.int), .val (.int k), .no, .no]) := by
        rw [List.map_append]
        show sExt 4 (lCb fListOf (aCons (eOp fIxT (eOp fIxT (eVar 0) (eInt 1)) (eVar 5)) aNil)) [.val (tabD m os), .val (offD ps), .val (offD qs), .val (offD ns), .own (cs.map PyData.int), .val (.int k), .no, .no] = _
        exact sExt_of (ρ := [.val (tabD m os), .val (offD ps), .val (offD qs), .val (offD ns), .own (cs.map PyData.int), .val (.int k), .no, .no]) (es := cs.map PyData.int) (fs := (offAt os k).map PyData.int) rfl (lCb_of (aCons_of (eOp_of rfl rfl (ix_off kk)) rfl) rfl) (by rw [List.length_map, List.length_map]; omega)
      rw [st]
      rw [List.append_assoc] at e
      rw [List.flatMap_cons]
      exact e
  obtain ⟨s5', e⟩ := loop ns [] .no hn (by simp; omega)
  rw [List.nil_append] at e
  refine runF_of rfl ((sSeq_nx rfl).trans ((sSeq_nx (sFor_of rfl e)).trans (sRet_of ?_)))
  have mem : ∀ d : Int, decide (d ∈ ns.flatMap (offAt os)) = coveredB os ns d := fun d => by
    rw [Bool.eq_iff_iff, decide_eq_true_iff, List.mem_flatMap]
    simp only [coveredB, List.any_eq_true, decide_eq_true_eq]
  let B : PyData → Bool := fun e => !coveredB os ns (intOf (fst2 e))
  have k := lLc_of (vs := [6, 7]) (it := iET (eVar 2)) (τ := gT (gC (gN 6) (gC (gN 7) g0))) (β := bTest (eOp fNin (eVar 6) (eL (lOwn 4)))) (φ := eVar 7) (ρ := [.val (tabD m os), .val (offD ps), .val (offD qs), .val (offD ns), .own ((ns.flatMap (offAt os)).map PyData.int), s5', .no, .no]) (es := enumD (qs.map PyData.int)) B snd2 rfl (by rw [enumD_len, List.length_map]; omega) fun e he => by
    obtain ⟨k, y, h1, rfl⟩ := mem_enumD.mp he
    refine ⟨[.val (tabD m os), .val (offD ps), .val (offD qs), .val (offD ns), .own ((ns.flatMap (offAt os)).map PyData.int), s5', .val (.int (k : Int)), .val y], rfl, bTest_of (eOp_of rfl rfl ((fNin_lst (k : Int) (ns.flatMap (offAt os))).trans ?_)), fun _ => rfl⟩
    rw [mem]
    rfl
  rw [enum_sum qs (fun d => !coveredB os ns d) B (fun k i => rfl)] at k
  exact eOp_of (sum_of (ns := ps) (o := ns) rfl (by omega) (fun d hd => by have := hn d hd; omega) fun d hd => ⟨_, rfl, rfl⟩) (eCb_of (aCons_of (eL_of k) rfl) (sum_ints _)) rfl
end Pb

set_option Elab.async false
set_option linter.all false
set_option maxRecDepth 100000
namespace Pb
open PySem PySem.Spec PyProof.Rows L2
/-! ### values that may be bent and shown -/
structure Vd (W D L : Nat) (x : PyData) : Prop where
  w : wt x ≤ W
  dp : x.depth ≤ D
  g : bg L (10 ^ 59 + L) x = true
theorem big80 : (10 : Nat) ^ 59 + 61 < 10 ^ 80 := by decide +kernel
theorem Vd.mono {W D L W' D' L' : Nat} {x : PyData} (h : Vd W D L x) (hW : W ≤ W' := by omega) (hD : D ≤ D' := by omega) (hL : L ≤ L' := by omega) : Vd W' D' L' x := ⟨Nat.le_trans h.w hW, Nat.le_trans h.dp hD, bg_mono hL (by omega) x h.g⟩
theorem Vd.gw {W D L : Nat} {x : PyData} (h : Vd W D L x) (hL : L ≤ 60 := by decide) : Gw W D x := ⟨bg_ok hL (by have := big80; omega) x h.g, h.w, h.dp⟩
theorem vd_int {i : Int} (h : i.natAbs ≤ 10 ^ 59) : Vd 81 0 2 (.int i) := ⟨Nat.le_refl _, by simp [PyData.depth], by simp only [bg, decide_eq_true_eq]; omega⟩
theorem vd_bool {b : Bool} : Vd 81 0 2 (.bool b) := ⟨by simp [wt], by simp [PyData.depth], rfl⟩
theorem vd_none : Vd 81 0 2 .none := ⟨by simp [wt], by simp [PyData.depth], rfl⟩
theorem vd_all {W D L : Nat} : ∀ {es : List PyData}, (∀ e ∈ es, Vd W D L e) → wtAll es ≤ es.length * (W + 2) ∧ PyData.depthAll es ≤ D ∧ bgAll L (10 ^ 59 + L) es = true
  | [], _ => ⟨Nat.zero_le _, Nat.zero_le _, rfl⟩
  | e :: es, h => by
    have h1 := h e List.mem_cons_self
    obtain ⟨a, b, c⟩ := vd_all (es := es) fun x hx => h x (List.mem_cons_of_mem _ hx)
    refine ⟨?_, ?_, ?_⟩
    · have := h1.w
      simp only [wtAll, List.length_cons, Nat.add_mul]
      omega
    · simp only [PyData.depthAll]
      have := h1.dp
      omega
    · simp only [bgAll, h1.g, c, Bool.and_self]
theorem vd_tup {W D L N : Nat} {es : List PyData} (h : ∀ e ∈ es, Vd W D L e) (hl : es.length ≤ N) (hN : N ≤ L := by decide) : Vd (N * (W + 2) + 3) (D + 1) L (.tuple es) := by
  obtain ⟨a, b, c⟩ := vd_all h
  have := Nat.mul_le_mul_right (W + 2) hl
  refine ⟨by simp only [wt]; omega, by simp only [PyData.depth]; omega, ?_⟩
  simp only [bg, c, Bool.and_true, decide_eq_true_eq]
  omega
theorem vd_lst {W D L N : Nat} {es : List PyData} (h : ∀ e ∈ es, Vd W D L e) (hl : es.length ≤ N) (hN : N ≤ L := by decide) : Vd (N * (W + 2) + 3) (D + 1) L (.list es) := by
  obtain ⟨a, b, c⟩ := vd_all h
  have := Nat.mul_le_mul_right (W + 2) hl
  refine ⟨by simp only [wt]; omega, by simp only [PyData.depth]; omega, ?_⟩
  simp only [bg, c, Bool.and_true, decide_eq_true_eq]
  omega
theorem vd_off {ns : List Int} (hl : ns.length ≤ 22) (h : ∀ i ∈ ns, i.natAbs ≤ 10 ^ 59) : Vd 1829 1 22 (offD ns) := vd_tup (W := 81) (D := 0) (L := 22) (N := 22) (fun e he => by
  obtain ⟨i, hi, rfl⟩ := List.mem_map.mp he
  exact (vd_int (h i hi)).mono) (by rw [List.length_map]; exact hl)
theorem vd_ls {ns : List Int} (hl : ns.length ≤ 22) (h : ∀ i ∈ ns, i.natAbs ≤ 10 ^ 59) : Vd 1829 1 22 (.list (ns.map PyData.int)) := vd_lst (W := 81) (D := 0) (L := 22) (N := 22) (fun e he => by
  obtain ⟨i, hi, rfl⟩ := List.mem_map.mp he
  exact (vd_int (h i hi)).mono) (by rw [List.length_map]; exact hl)
theorem vd_odd {e : PyData} (h : e ∈ oddL) : Vd 2100 2 2 e := by
  obtain ⟨a, b, c, _⟩ := odd_ok h
  exact ⟨b, c, bg_mono (Nat.le_refl _) (by omega) e (List.all_eq_true.mp odd_bg e h)⟩
theorem bentV {d : Addr} {W D L deep : Nat} {x : PyData} (v : Vd W D L x) {n : Int} (hn : n < 2 ^ 39) {P : PyData → Int → Prop} (h : ∀ e n', Vd (2 * W + 2200) (D + 2) (L + 1) e → n' ≤ n + 4 * deep + 4 → P e n') (h2 : 2 ≤ L := by decide) (hL : L ≤ 49 := by decide) (hd : deep < 4 := by decide) : WBentG 4 d [x, .int (deep : Int)] n P := by
  have := big80
  refine ⟨x, deep, L, 10 ^ 59 + L, rfl, by omega, hd, by decide, h2, by omega, by omega, by omega, v.g, fun e n' b le => h e n' ⟨?_, ?_, b.g⟩ le⟩
  · have := b.w
    have := v.w
    omega
  · have := b.dp
    have := v.dp
    omega
theorem oddV {d : Addr} {n : Int} (hn : n < 2 ^ 49) {P : PyData → Int → Prop} (h : ∀ e n', Vd 2100 2 2 e → n' ≤ n + 1 → P e n') : WOdd d [] n P := ⟨rfl, by omega, fun e n' he le => h e n' (vd_odd he) le⟩
theorem part {d : Addr} {k : Nat} (hk : k ≤ 10) {n sh : Int} (hn : n < 2 ^ 45) {P : PyData → Int → Prop} (h : ∀ (ms : List Int) (n' : Int), OffOk k ms → n' ≤ n + 10 → P (offD ms) n') : WPart d [.list (rngD 0 (k : Int)), .int sh] n P := by
  refine ⟨_, upto k, sh, rfl, .inl (by rw [rng_ints]), by omega, by rw [ints_len]; omega, fun ms n' sub le => h ms n' ⟨fun i hi => mem_ints.mp (sub.subset hi), (ints_strict k).sublist sub⟩ ?_⟩
  rw [ints_len] at le
  omega
theorem small59 : (1000000 : Nat) ≤ 10 ^ 59 := by decide +kernel
theorem vd_small {k : Nat} (hk : k ≤ 10) {ms : List Int} (h : OffOk k ms) : Vd 1829 1 22 (offD ms) := vd_off (by have := h.len; omega) fun i hi => by
  have := h.1 i hi
  have := small59
  omega
theorem Vd.in {W D L : Nat} {x : PyData} (h : Vd W D L x) (hW : W ≤ 100000 := by decide) (hD : D ≤ 10 := by decide) (hL : L ≤ 60 := by decide) : Gw 100000 10 x := (h.gw hL).mono hW hD
end Pb

set_option Elab.async false
set_option linter.all false
set_option maxRecDepth 100000
namespace Pb
open PySem PySem.Spec PyProof.Rows L2
section
variable {P : Program} {w : World} {K : PySem.W.Frag} {mg : Str → Option Value} {base : Heap}
def w__law_drawn_choice : Addr → List PyData → Int → (PyData → Int → Prop) → Prop := runW 2 2 fun d =>
  (twRet (wDraw d 0 WPart (wCons (wL (wfP (lRg (eCb fLen (aCons (eOp fIxT (eVar 1) (eInt 1)) aNil))))) (wCons (wOp fAdd (wP (eInt 1)) (wDraw d 0 WNextW (wCons (wP (eInt 3)) wNil))) wNil))))
end
end Pb

set_option Elab.async false
set_option linter.all false
set_option maxRecDepth 100000
namespace Pb
open PySem PySem.Spec PyProof.Rows L2
theorem choiceD {d : Addr} {m : Nat} {os : List (List Int)} (t : Tb m os) {n : Int} (hn : n < 2 ^ 44) {P : PyData → Int → Prop} (h : ∀ (ms : List Int) (n' : Int), OffOk os.length ms → n' ≤ n + 11 → P (offD ms) n') : w__law_drawn_choice d [tabD m os] n P := by
  have ol := t.len
  refine ⟨rfl, rfl, rngD 0 (os.length : Int), lRg_of (eCb_of (aCons_of rfl rfl) (len_offs os)) (by omega) (by omega), ?_⟩
  refine ⟨_, rfl, rfl, _, rfl, 3, rfl, by omega, by omega, by omega, fun v n1 v0 v1 le1 => ⟨_, rfl, ?_⟩⟩
  exact part (d := d) ol (by omega) fun ms n2 h1 le2 => h ms n2 h1 (by omega)
end Pb

set_option Elab.async false
set_option linter.all false
set_option maxRecDepth 100000
namespace Pb
open PySem PySem.Spec PyProof.Rows L2
theorem sum_bd {M : Int} (hM : 0 ≤ M) : ∀ {l : List Int}, (∀ i ∈ l, 0 ≤ i ∧ i ≤ M) → 0 ≤ l.sum ∧ l.sum ≤ (l.length : Int) * M
  | [], _ => ⟨Int.le_refl _, by simp⟩
  | x :: l, h => by
    have h1 := h x List.mem_cons_self
    have ih := sum_bd hM (l := l) fun i hi => h i (List.mem_cons_of_mem _ hi)
    rw [List.sum_cons, List.length_cons, Int.natCast_add, Int.add_mul]
    omega
theorem paid_bd {M : Int} (hM : 0 ≤ M) {ns o : List Int} (h : In0 M ns) (ho : ∀ d ∈ o, 0 ≤ d ∧ d < (ns.length : Int)) : 0 ≤ paid ns o ∧ paid ns o ≤ (o.length : Int) * M := by
  have := sum_bd hM (l := o.map fun d => ns.getD d.toNat 0) fun i hi => by
    obtain ⟨d, hd, rfl⟩ := List.mem_map.mp hi
    have := ho d hd
    exact h.get (by omega)
  rw [List.length_map] at this
  exact this
theorem pen_bd {M : Int} (hM : 0 ≤ M) {qs : List Int} (h : In0 M qs) (b : Int → Bool) : 0 ≤ penL qs b ∧ penL qs b ≤ (qs.length : Int) * M := by
  have s : ((qs.zipIdx.filter fun p => !b ((p.2 : Nat) : Int)).map Prod.fst).Sublist qs := by
    have := (List.filter_sublist (p := fun p : Int × Nat => !b ((p.2 : Nat) : Int)) (l := qs.zipIdx)).map Prod.fst
    rw [List.zipIdx_map_fst] at this
    exact this
  have k := sum_bd hM (l := (qs.zipIdx.filter fun p => !b ((p.2 : Nat) : Int)).map Prod.fst) fun i hi => h i (s.subset hi)
  have l := s.length_le
  refine ⟨k.1, Int.le_trans k.2 (Int.mul_le_mul_of_nonneg_right (by omega) hM)⟩
theorem cost_bd {m : Nat} {os : List (List Int)} {ps qs ns : List Int} (t : Tb m os) (hp : ps.length = os.length) (hq : qs.length = m) (h1 : In0 (1000000000000 : Int) ps) (h2 : In0 (1000000000000 : Int) qs) (hn : ∀ k ∈ ns, 0 ≤ k ∧ k < (os.length : Int)) (nl : ns.length ≤ 60) : 0 ≤ costL os ps qs ns ∧ costL os ps qs ns ≤ 100000000000000 := by
  have a := paid_bd (by decide) h1 (o := ns) fun d hd => by have := hn d hd; omega
  have b := pen_bd (by decide) h2 (coveredB os ns)
  have m10 := t.m10
  unfold costL
  omega
theorem ok_int {i : Int} (h : i.natAbs ≤ 10 ^ 59) : okD (.int i) = true := (vd_int h).gw.ok
theorem ok_ret {x : PyData} (h : okD x = true) : okD (.list [.str "returned", x]) = true := by
  simp only [okD, okAll, List.length_cons, List.length_nil, Bool.and_true, Bool.and_eq_true, decide_eq_true_eq, h, and_true]
  exact ⟨by decide, by decide +kernel⟩
end Pb

set_option Elab.async false
set_option linter.all false
set_option maxRecDepth 100000
namespace Pb
open PySem PySem.Spec PyProof.Rows L2
section
variable {P : Program} {w : World} {K : PySem.W.Frag} {mg : Str → Option Value} {base : Heap}
def q__law_payments : List PyData → Option PyData := runF 10 4
  ((sSeq (sParOO 4 5 (lCb fListOf (aCons (eVar 1) aNil)) (lRep (lLst (aCons (eInt 0) aNil)) (eOp fIxT (eVar 0) (eInt 0))))
  (sSeq (sFor (iT (eVar 3)) (gN 6) (sSeq (sSet (gN 7) (eL (lLc [8, 9] (iET (eOp fIxT (eVar 0) (eInt 1))) (gT (gC (gN 8) (gC (gN 9) g0))) (bTest (eOp fIn (eVar 6) (eVar 9))) (eVar 8))))
  (sSeq (sPut 5 (eVar 6) (eCb fMin (aCons (eL (lCat (lLst (aCons (eOp fIxT (eVar 2) (eVar 6)) aNil)) (lLc [8] (iL (eVar 7)) (gN 8) bYes (eOp fIxL (eL (lOwn 4)) (eVar 8))))) aNil)))
  (sFor (iL (eVar 7)) (gN 8) (sPut 4 (eVar 8) (eOp fSub (eOp fIxL (eL (lOwn 4)) (eVar 8)) (eOp fIxL (eL (lOwn 5)) (eVar 6))))))))
  (sRet (eCb fTupOf (aCons (eL (lOwn 5)) aNil))))))
def q_pay_along : List PyData → Option PyData := runF 11 4
  ((sSeq (sSet (gN 4) (eOp fIxT (eVar 0) (eInt 0)))
  (sSeq (sIf (bNot (bTest (eCb Pb.q_is_order (aCons (eVar 3) (aCons (eVar 4) aNil))))) sNever sNil)
  (sSeq (sOwn 5 (lCb fListOf (aCons (eVar 1) aNil)))
  (sSeq (sOwn 6 (lRep (lLst (aCons (eInt 0) aNil)) (eVar 4)))
  (sSeq (sFor (iT (eVar 3)) (gN 7) (sSeq (sSet (gN 8) (eCb Pb.q_covering_offers (aCons (eVar 0) (aCons (eVar 7) aNil))))
  (sSeq (sSet (gN 9) (eCb fMin (aCons (eL (lCat (lLst (aCons (eOp fIxT (eVar 2) (eVar 7)) aNil)) (lLc [10] (iT (eVar 8)) (gN 10) bYes (eOp fIxL (eL (lOwn 5)) (eVar 10))))) aNil)))
  (sSeq (sPut 6 (eVar 7) (eVar 9))
  (sFor (iT (eVar 8)) (gN 10) (sAugP 5 fSub (eVar 10) (eVar 9)))))))
  (sRet (eCb fTupOf (aCons (eL (lOwn 6)) aNil)))))))))
def r_pay_along : List PyData → Option Out := runX 11 4
  ((xSeq (xP (sSet (gN 4) (eOp fIxT (eVar 0) (eInt 0))))
  (xSeq (xIf (bNot (bTest (eCb Pb.q_is_order (aCons (eVar 3) (aCons (eVar 4) aNil))))) (xRaise "NoOrder") (xP sNil))
  (xP (sSeq (sOwn 5 (lCb fListOf (aCons (eVar 1) aNil)))
  (sSeq (sOwn 6 (lRep (lLst (aCons (eInt 0) aNil)) (eVar 4)))
  (sSeq (sFor (iT (eVar 3)) (gN 7) (sSeq (sSet (gN 8) (eCb Pb.q_covering_offers (aCons (eVar 0) (aCons (eVar 7) aNil))))
  (sSeq (sSet (gN 9) (eCb fMin (aCons (eL (lCat (lLst (aCons (eOp fIxT (eVar 2) (eVar 7)) aNil)) (lLc [10] (iT (eVar 8)) (gN 10) bYes (eOp fIxL (eL (lOwn 5)) (eVar 10))))) aNil)))
  (sSeq (sPut 6 (eVar 7) (eVar 9))
  (sFor (iT (eVar 8)) (gN 10) (sAugP 5 fSub (eVar 10) (eVar 9)))))))
  (sRet (eCb fTupOf (aCons (eL (lOwn 6)) aNil))))))))))
end
end Pb

set_option Elab.async false
set_option linter.all false
set_option maxRecDepth 100000
namespace Pb
open PySem PySem.Spec PyProof.Rows L2
/-! ### payments along an order -/
def subAll (x : Int) (l ks : List Int) : List Int := ks.foldl (fun l k => l.set k.toNat (l.getD k.toNat 0 - x)) l
def payX (os : List (List Int)) (qs ls : List Int) (d : Int) : Int := ((covL os d).map fun k => ls.getD k.toNat 0).foldl min (qs.getD d.toNat 0)
def payGo (os : List (List Int)) (qs : List Int) : List Int → List Int → List Int → List Int × List Int
  | [], ls, fs => (ls, fs)
  | d :: so, ls, fs => payGo os qs so (subAll (payX os qs ls d) ls (covL os d)) (fs.set d.toNat (payX os qs ls d))
def payL (m : Nat) (os : List (List Int)) (ps qs so : List Int) : List Int := (payGo os qs so ps (List.replicate m 0)).2
theorem subAll_len {x : Int} : ∀ {ks l : List Int}, (subAll x l ks).length = l.length
  | [], _ => rfl
  | k :: ks, l => by
    show (subAll x (l.set k.toNat (l.getD k.toNat 0 - x)) ks).length = _
    rw [subAll_len, List.length_set]
theorem payGo_len {os : List (List Int)} {qs : List Int} : ∀ {so ls fs : List Int}, (payGo os qs so ls fs).1.length = ls.length ∧ (payGo os qs so ls fs).2.length = fs.length
  | [], _, _ => ⟨rfl, rfl⟩
  | d :: so, ls, fs => by
    have := payGo_len (os := os) (qs := qs) (so := so) (ls := subAll (payX os qs ls d) ls (covL os d)) (fs := fs.set d.toNat (payX os qs ls d))
    rw [subAll_len, List.length_set] at this
    exact this
theorem payL_len {m : Nat} {os : List (List Int)} {ps qs so : List Int} : (payL m os ps qs so).length = m := by
  unfold payL
  rw [payGo_len.2, List.length_replicate]
theorem fMin_cons (q : Int) (l : List Int) : fMin [.list ((q :: l).map PyData.int)] = some (.int (l.foldl min q)) := by
  show ((intsD ((q :: l).map PyData.int)).bind minI).map PyData.int = _
  rw [intsD_ints]
  rfl
/-! the law's -/
abbrev rP (m : Nat) (os : List (List Int)) (ps qs so ls fs : List Int) (s6 s7 s8 s9 : Sl) : Rho := [.val (tabD m os), .val (offD ps), .val (offD qs), .val (offD so), .own (ls.map PyData.int), .own (fs.map PyData.int), s6, s7, s8, s9]
abbrev inB : Rho → Option Res := sPut 4 (eVar 8) (eOp fSub (eOp fIxL (eL (lOwn 4)) (eVar 8)) (eOp fIxL (eL (lOwn 5)) (eVar 6)))
theorem law_inner {m : Nat} {os : List (List Int)} {ps qs so ls fs ks : List Int} {d x : Int} {s7 s8 s9 : Sl} (hd : 0 ≤ d ∧ d < (fs.length : Int)) (hf : fs.getD d.toNat 0 = x) (hks : ∀ k ∈ ks, 0 ≤ k ∧ k < (ls.length : Int)) :
    ∃ s8' : Sl, forR (fun e ρ => (gN 8 e ρ).bind inB) (ks.map PyData.int) (rP m os ps qs so ls fs (.val (.int d)) s7 s8 s9) = some (.nx (rP m os ps qs so (subAll x ls ks) fs (.val (.int d)) s7 s8' s9)) := by
  induction ks generalizing ls s8 with
  | nil => exact ⟨s8, rfl⟩
  | cons k ks ih =>
    have kk := hks k List.mem_cons_self
    have step : (gN 8 (.int k) (rP m os ps qs so ls fs (.val (.int d)) s7 s8 s9)).bind inB = some (.nx (rP m os ps qs so (ls.set k.toNat (ls.getD k.toNat 0 - x)) fs (.val (.int d)) s7 (.val (.int k)) s9)) := by
      show inB (rP m os ps qs so ls fs (.val (.int d)) s7 (.val (.int k)) s9) = _
      refine (sPut_of (e := .int (ls.getD k.toNat 0 - x)) (es := ls.map PyData.int) (k := k) (eOp_of (eOp_of rfl rfl (ixL_get kk)) (eOp_of rfl rfl (ixL_get hd)) ?_) rfl rfl (by rw [List.length_map]; exact kk)).trans ?_
      · rw [hf]
        rfl
      · rw [set_ints]
        rfl
    obtain ⟨s8', h1⟩ := ih (ls := ls.set k.toNat (ls.getD k.toNat 0 - x)) (s8 := .val (.int k)) (fun j hj => by rw [List.length_set]; exact hks j (List.mem_cons_of_mem _ hj))
    refine ⟨s8', ?_⟩
    rw [List.map_cons]
    unfold forR
    rw [step]
    exact h1
abbrev lawB : Rho → Option Res := (sSeq (sSet (gN 7) (eL (lLc [8, 9] (iET (eOp fIxT (eVar 0) (eInt 1))) (gT (gC (gN 8) (gC (gN 9) g0))) (bTest (eOp fIn (eVar 6) (eVar 9))) (eVar 8))))
  (sSeq (sPut 5 (eVar 6) (eCb fMin (aCons (eL (lCat (lLst (aCons (eOp fIxT (eVar 2) (eVar 6)) aNil)) (lLc [8] (iL (eVar 7)) (gN 8) bYes (eOp fIxL (eL (lOwn 4)) (eVar 8))))) aNil)))
  (sFor (iL (eVar 7)) (gN 8) inB)))
theorem cov_ran {os : List (List Int)} {d : Int} : ∀ k ∈ covL os d, 0 ≤ k ∧ k < (os.length : Int) := fun k hk => by
  obtain ⟨j, o, hj, _, rfl⟩ := mem_covL.mp hk
  have := (List.getElem?_eq_some_iff.mp hj).1
  omega
theorem set_getD {l : List Int} {k : Nat} {x : Int} (h : k < l.length) : (l.set k x).getD k 0 = x := by
  rw [List.getD_eq_getElem?_getD, List.getElem?_set_self h]
  rfl
theorem law_step {m : Nat} {os : List (List Int)} {ps qs so ls fs : List Int} {d : Int} {s6 s7 s8 s9 : Sl} (t : Tb m os) (hq : qs.length = m) (ll : ls.length = os.length) (fl : fs.length = m) (hd : 0 ≤ d ∧ d < (m : Int)) :
    ∃ s7' s8' : Sl, (gN 6 (.int d) (rP m os ps qs so ls fs s6 s7 s8 s9)).bind lawB = some (.nx (rP m os ps qs so (subAll (payX os qs ls d) ls (covL os d)) (fs.set d.toNat (payX os qs ls d)) (.val (.int d)) s7' s8' s9)) := by
  have ol := t.len
  have cl := cov_len (os := os) (d := d)
  have cov : lLc [8, 9] (iET (eOp fIxT (eVar 0) (eInt 1))) (gT (gC (gN 8) (gC (gN 9) g0))) (bTest (eOp fIn (eVar 6) (eVar 9))) (eVar 8) (rP m os ps qs so ls fs (.val (.int d)) s7 s8 s9) = some ((covL os d).map PyData.int) := by
    rw [← cov_enum]
    refine lLc_of _ _ rfl (by rw [enumD_len, List.length_map]; omega) fun e he => ?_
    obtain ⟨k, y, h1, rfl⟩ := mem_enumD.mp he
    rw [List.getElem?_map] at h1
    obtain ⟨o, h2, rfl⟩ := Option.map_eq_some_iff.mp h1
    refine ⟨[.val (tabD m os), .val (offD ps), .val (offD qs), .val (offD so), .own (ls.map PyData.int), .own (fs.map PyData.int), .val (.int d), s7, .val (.int (k : Int)), .val (offD o)], rfl, bTest_of (eOp_of rfl rfl ((fIn_tup d o).trans ?_)), fun _ => rfl⟩
    show _ = some (PyData.bool (decide (d ∈ intsOf (offD o))))
    rw [intsOf_off]
  have ck : ∀ k ∈ covL os d, 0 ≤ k ∧ k < (ls.length : Int) := fun k hk => by
    have := cov_ran k hk
    omega
  have mn : eCb fMin (aCons (eL (lCat (lLst (aCons (eOp fIxT (eVar 2) (eVar 6)) aNil)) (lLc [8] (iL (eVar 7)) (gN 8) bYes (eOp fIxL (eL (lOwn 4)) (eVar 8))))) aNil) (rP m os ps qs so ls fs (.val (.int d)) (.val (.list ((covL os d).map PyData.int))) s8 s9) = some (.int (payX os qs ls d)) := by
    refine eCb_of (xs := [.list ((qs.getD d.toNat 0 :: (covL os d).map fun k => ls.getD k.toNat 0).map PyData.int)]) (aCons_of (eL_of ?_) rfl) (fMin_cons _ _)
    refine lCat_of (φ := lLst (aCons (eOp fIxT (eVar 2) (eVar 6)) aNil)) (ρ := rP m os ps qs so ls fs (.val (.int d)) (.val (.list ((covL os d).map PyData.int))) s8 s9) (xs := [.int (qs.getD d.toNat 0)]) (ys := ((covL os d).map fun k => ls.getD k.toNat 0).map PyData.int) (lLst_of (aCons_of (eOp_of rfl rfl (ixT_get (by omega))) rfl) (by simp)) ?_ (by simp; omega)
    have := lLc_map (vs := [8]) (it := iL (eVar 7)) (τ := gN 8) (φ := eOp fIxL (eL (lOwn 4)) (eVar 8)) (ρ := rP m os ps qs so ls fs (.val (.int d)) (.val (.list ((covL os d).map PyData.int))) s8 s9) (es := (covL os d).map PyData.int) (fun e => .int (ls.getD (intOf e).toNat 0)) rfl (by rw [List.length_map]; omega) fun e he => by
      obtain ⟨k, hk, rfl⟩ := List.mem_map.mp he
      exact ⟨_, rfl, eOp_of rfl rfl (ixL_get (ck k hk))⟩
    refine this.trans ?_
    rw [List.map_map, List.map_map]
    rfl
  obtain ⟨s8', fin⟩ := law_inner (m := m) (os := os) (ps := ps) (qs := qs) (so := so) (ls := ls) (fs := fs.set d.toNat (payX os qs ls d)) (ks := covL os d) (d := d) (x := payX os qs ls d) (s7 := .val (.list ((covL os d).map PyData.int))) (s8 := s8) (s9 := s9) (by rw [List.length_set]; omega) (set_getD (by omega)) ck
  refine ⟨_, s8', (sSeq_nx (sSet_of (eL_of cov))).trans ((sSeq_nx ((sPut_of (e := .int (payX os qs ls d)) (es := fs.map PyData.int) (k := d) mn rfl rfl (by rw [List.length_map]; omega)).trans ?_)).trans (sFor_of rfl fin))⟩
  rw [set_ints]
  rfl
theorem law_loop {m : Nat} {os : List (List Int)} {ps qs so : List Int} (t : Tb m os) (hq : qs.length = m) : ∀ (ds ls fs : List Int) (s6 s7 s8 s9 : Sl), ls.length = os.length → fs.length = m → (∀ d ∈ ds, 0 ≤ d ∧ d < (m : Int)) →
    ∃ s6' s7' s8' : Sl, forR (fun e ρ => (gN 6 e ρ).bind lawB) (ds.map PyData.int) (rP m os ps qs so ls fs s6 s7 s8 s9) = some (.nx (rP m os ps qs so (payGo os qs ds ls fs).1 (payGo os qs ds ls fs).2 s6' s7' s8' s9))
  | [], _, _, s6, s7, s8, _, _, _, _ => ⟨s6, s7, s8, rfl⟩
  | d :: ds, ls, fs, s6, s7, s8, s9, ll, fl, hd => by
    obtain ⟨s7', s8', h⟩ := law_step (ps := ps) (so := so) (s6 := s6) (s7 := s7) (s8 := s8) (s9 := s9) t hq ll fl (hd d List.mem_cons_self)
    obtain ⟨a, b, c, k⟩ := law_loop (ps := ps) (so := so) t hq ds (subAll (payX os qs ls d) ls (covL os d)) (fs.set d.toNat (payX os qs ls d)) (.val (.int d)) s7' s8' s9 (by rw [subAll_len]; exact ll) (by rw [List.length_set]; exact fl) fun x hx => hd x (List.mem_cons_of_mem _ hx)
    refine ⟨a, b, c, ?_⟩
    rw [List.map_cons]
    unfold forR
    rw [h]
    exact k
theorem law_pays {m : Nat} {os : List (List Int)} {ps qs so : List Int} (t : Tb m os) (hp : ps.length = os.length) (hq : qs.length = m) (hso : ∀ d ∈ so, 0 ≤ d ∧ d < (m : Int)) : q__law_payments [tabD m os, offD ps, offD qs, offD so] = some (offD (payL m os ps qs so)) := by
  have m10 := t.m10
  have first : sParOO 4 5 (lCb fListOf (aCons (eVar 1) aNil)) (lRep (lLst (aCons (eInt 0) aNil)) (eOp fIxT (eVar 0) (eInt 0))) [.val (tabD m os), .val (offD ps), .val (offD qs), .val (offD so), .no, .no, .no, .no, .no, .no] = some (.nx (rP m os ps qs so ps (List.replicate m 0) .no .no .no .no)) := by
    have r : lRep (lLst (aCons (eInt 0) aNil)) (eOp fIxT (eVar 0) (eInt 0)) [.val (tabD m os), .val (offD ps), .val (offD qs), .val (offD so), .no, .no, .no, .no, .no, .no] = some ((List.replicate m (0 : Int)).map PyData.int) := by
      show (if repOk 1 (m : Int) then some (List.replicate (m : Int).toNat [PyData.int 0]).flatten else none) = _
      rw [if_pos (show repOk 1 (m : Int) = true from decide_eq_true ⟨by omega, by omega, by omega⟩), Int.toNat_natCast, List.map_replicate]
      rw [rep_one]
    show ((some (ps.map PyData.int)).bind fun es => (lRep _ _ _).map _) = _
    rw [r]
    rfl
  obtain ⟨a, b, c, k⟩ := law_loop (ps := ps) (so := so) t hq so ps (List.replicate m 0) .no .no .no .no hp (by rw [List.length_replicate]) hso
  exact runF_of rfl ((sSeq_nx first).trans ((sSeq_nx (sFor_of rfl k)).trans (sRet_of rfl)))
/-! the program's -/
abbrev rG (m : Nat) (os : List (List Int)) (ps qs so ls fs : List Int) (s7 s8 s9 s10 : Sl) : Rho := [.val (tabD m os), .val (offD ps), .val (offD qs), .val (offD so), .val (.int m), .own (ls.map PyData.int), .own (fs.map PyData.int), s7, s8, s9, s10]
abbrev proB : Rho → Option Res := (sSeq (sSet (gN 8) (eCb Pb.q_covering_offers (aCons (eVar 0) (aCons (eVar 7) aNil))))
  (sSeq (sSet (gN 9) (eCb fMin (aCons (eL (lCat (lLst (aCons (eOp fIxT (eVar 2) (eVar 7)) aNil)) (lLc [10] (iT (eVar 8)) (gN 10) bYes (eOp fIxL (eL (lOwn 5)) (eVar 10))))) aNil)))
  (sSeq (sPut 6 (eVar 7) (eVar 9))
  (sFor (iT (eVar 8)) (gN 10) (sAugP 5 fSub (eVar 10) (eVar 9))))))
theorem pro_inner {m : Nat} {os : List (List Int)} {ps qs so ls fs ks : List Int} {x : Int} {s7 s8 s10 : Sl} (hks : ∀ k ∈ ks, 0 ≤ k ∧ k < (ls.length : Int)) :
    ∃ s10' : Sl, forR (fun e ρ => (gN 10 e ρ).bind (sAugP 5 fSub (eVar 10) (eVar 9))) (ks.map PyData.int) (rG m os ps qs so ls fs s7 s8 (.val (.int x)) s10) = some (.nx (rG m os ps qs so (subAll x ls ks) fs s7 s8 (.val (.int x)) s10')) := by
  induction ks generalizing ls s10 with
  | nil => exact ⟨s10, rfl⟩
  | cons k ks ih =>
    have kk := hks k List.mem_cons_self
    have step : (gN 10 (.int k) (rG m os ps qs so ls fs s7 s8 (.val (.int x)) s10)).bind (sAugP 5 fSub (eVar 10) (eVar 9)) = some (.nx (rG m os ps qs so (ls.set k.toNat (ls.getD k.toNat 0 - x)) fs s7 s8 (.val (.int x)) (.val (.int k)))) := by
      show sAugP 5 fSub (eVar 10) (eVar 9) (rG m os ps qs so ls fs s7 s8 (.val (.int x)) (.val (.int k))) = _
      exact sAugP_of (ns := ls) (k := k) (y := x) (g := fun a b => a - b) rfl rfl rfl kk
    obtain ⟨s10', h1⟩ := ih (ls := ls.set k.toNat (ls.getD k.toNat 0 - x)) (s10 := .val (.int k)) (fun j hj => by rw [List.length_set]; exact hks j (List.mem_cons_of_mem _ hj))
    refine ⟨s10', ?_⟩
    rw [List.map_cons]
    unfold forR
    rw [step]
    exact h1
theorem pro_step {m : Nat} {os : List (List Int)} {ps qs so ls fs : List Int} {d : Int} {s7 s8 s9 s10 : Sl} (t : Tb m os) (hq : qs.length = m) (ll : ls.length = os.length) (fl : fs.length = m) (hd : 0 ≤ d ∧ d < (m : Int)) :
    ∃ s8' s9' s10' : Sl, (gN 7 (.int d) (rG m os ps qs so ls fs s7 s8 s9 s10)).bind proB = some (.nx (rG m os ps qs so (subAll (payX os qs ls d) ls (covL os d)) (fs.set d.toNat (payX os qs ls d)) (.val (.int d)) s8' s9' s10')) := by
  have ol := t.len
  have cl := cov_len (os := os) (d := d)
  have ck : ∀ k ∈ covL os d, 0 ≤ k ∧ k < (ls.length : Int) := fun k hk => by
    have := cov_ran k hk
    omega
  have mn : eCb fMin (aCons (eL (lCat (lLst (aCons (eOp fIxT (eVar 2) (eVar 7)) aNil)) (lLc [10] (iT (eVar 8)) (gN 10) bYes (eOp fIxL (eL (lOwn 5)) (eVar 10))))) aNil) (rG m os ps qs so ls fs (.val (.int d)) (.val (offD (covL os d))) s9 s10) = some (.int (payX os qs ls d)) := by
    refine eCb_of (xs := [.list ((qs.getD d.toNat 0 :: (covL os d).map fun k => ls.getD k.toNat 0).map PyData.int)]) (aCons_of (eL_of ?_) rfl) (fMin_cons _ _)
    refine lCat_of (φ := lLst (aCons (eOp fIxT (eVar 2) (eVar 7)) aNil)) (ρ := rG m os ps qs so ls fs (.val (.int d)) (.val (offD (covL os d))) s9 s10) (xs := [.int (qs.getD d.toNat 0)]) (ys := ((covL os d).map fun k => ls.getD k.toNat 0).map PyData.int) (lLst_of (aCons_of (eOp_of rfl rfl (ixT_get (by omega))) rfl) (by simp)) ?_ (by simp; omega)
    have := lLc_map (vs := [10]) (it := iT (eVar 8)) (τ := gN 10) (φ := eOp fIxL (eL (lOwn 5)) (eVar 10)) (ρ := rG m os ps qs so ls fs (.val (.int d)) (.val (offD (covL os d))) s9 s10) (es := (covL os d).map PyData.int) (fun e => .int (ls.getD (intOf e).toNat 0)) rfl (by rw [List.length_map]; omega) fun e he => by
      obtain ⟨k, hk, rfl⟩ := List.mem_map.mp he
      exact ⟨_, rfl, eOp_of rfl rfl (ixL_get (ck k hk))⟩
    refine this.trans ?_
    rw [List.map_map, List.map_map]
    rfl
  obtain ⟨s10', fin⟩ := pro_inner (m := m) (os := os) (ps := ps) (qs := qs) (so := so) (ls := ls) (fs := fs.set d.toNat (payX os qs ls d)) (ks := covL os d) (x := payX os qs ls d) (s7 := .val (.int d)) (s8 := .val (offD (covL os d))) (s10 := s10) ck
  refine ⟨_, _, s10', (sSeq_nx (sSet_of (eCb_of (aCons_of rfl (aCons_of rfl rfl)) (q_cov t hd.1 hd.2)))).trans ((sSeq_nx (sSet_of mn)).trans ((sSeq_nx ((sPut_of (e := .int (payX os qs ls d)) (es := fs.map PyData.int) (k := d) rfl rfl rfl (by rw [List.length_map]; omega)).trans ?_)).trans (sFor_of rfl fin)))⟩
  rw [set_ints]
  rfl
theorem pro_loop {m : Nat} {os : List (List Int)} {ps qs so : List Int} (t : Tb m os) (hq : qs.length = m) : ∀ (ds ls fs : List Int) (s7 s8 s9 s10 : Sl), ls.length = os.length → fs.length = m → (∀ d ∈ ds, 0 ≤ d ∧ d < (m : Int)) →
    ∃ s7' s8' s9' s10' : Sl, forR (fun e ρ => (gN 7 e ρ).bind proB) (ds.map PyData.int) (rG m os ps qs so ls fs s7 s8 s9 s10) = some (.nx (rG m os ps qs so (payGo os qs ds ls fs).1 (payGo os qs ds ls fs).2 s7' s8' s9' s10'))
  | [], _, _, s7, s8, s9, s10, _, _, _ => ⟨s7, s8, s9, s10, rfl⟩
  | d :: ds, ls, fs, s7, s8, s9, s10, ll, fl, hd => by
    obtain ⟨s8', s9', s10', h⟩ := pro_step (ps := ps) (so := so) (s7 := s7) (s8 := s8) (s9 := s9) (s10 := s10) t hq ll fl (hd d List.mem_cons_self)
    obtain ⟨a, b, c, e, k⟩ := pro_loop (ps := ps) (so := so) t hq ds (subAll (payX os qs ls d) ls (covL os d)) (fs.set d.toNat (payX os qs ls d)) (.val (.int d)) s8' s9' s10' (by rw [subAll_len]; exact ll) (by rw [List.length_set]; exact fl) fun x hx => hd x (List.mem_cons_of_mem _ hx)
    refine ⟨a, b, c, e, ?_⟩
    rw [List.map_cons]
    unfold forR
    rw [h]
    exact k
theorem pro_tail {m : Nat} {os : List (List Int)} {ps qs so : List Int} (t : Tb m os) (hp : ps.length = os.length) (hq : qs.length = m) (hso : ∀ d ∈ so, 0 ≤ d ∧ d < (m : Int)) : (sSeq (sOwn 5 (lCb fListOf (aCons (eVar 1) aNil)))
  (sSeq (sOwn 6 (lRep (lLst (aCons (eInt 0) aNil)) (eVar 4)))
  (sSeq (sFor (iT (eVar 3)) (gN 7) proB)
  (sRet (eCb fTupOf (aCons (eL (lOwn 6)) aNil)))))) [.val (tabD m os), .val (offD ps), .val (offD qs), .val (offD so), .val (.int m), .no, .no, .no, .no, .no, .no] = some (.rt (offD (payL m os ps qs so))) := by
  have m10 := t.m10
  have r : lRep (lLst (aCons (eInt 0) aNil)) (eVar 4) [.val (tabD m os), .val (offD ps), .val (offD qs), .val (offD so), .val (.int m), .own (ps.map PyData.int), .no, .no, .no, .no, .no] = some ((List.replicate m (0 : Int)).map PyData.int) := by
    show (if repOk 1 (m : Int) then some (List.replicate (m : Int).toNat [PyData.int 0]).flatten else none) = _
    rw [if_pos (show repOk 1 (m : Int) = true from decide_eq_true ⟨by omega, by omega, by omega⟩), Int.toNat_natCast, List.map_replicate]
    rw [rep_one]
  obtain ⟨a, b, c, e, k⟩ := pro_loop (ps := ps) (so := so) t hq so ps (List.replicate m 0) .no .no .no .no hp (by rw [List.length_replicate]) hso
  exact (sSeq_nx (sOwn_of rfl)).trans ((sSeq_nx (sOwn_of r)).trans ((sSeq_nx (sFor_of rfl k)).trans (sRet_of rfl)))
theorem ord_at {m : Nat} {x : PyData} (ok : okD x = true) (os : List (List Int)) (ps qs : List Int) : (bNot (bTest (eCb Pb.q_is_order (aCons (eVar 3) (aCons (eVar 4) aNil))))) [.val (tabD m os), .val (offD ps), .val (offD qs), .val x, .val (.int m), .no, .no, .no, .no, .no, .no] = some (!ordB x m) :=
  bNot_of (bTest_of (eCb_of (aCons_of rfl (aCons_of rfl rfl)) (q_order m ok)))
theorem r_pay_good {m : Nat} {os : List (List Int)} {ps qs so : List Int} (t : Tb m os) (hp : ps.length = os.length) (hq : qs.length = m) (ho : OrdP m so) (ok : okD (offD so) = true) : r_pay_along [tabD m os, offD ps, offD qs, offD so] = some (.ret (offD (payL m os ps qs so))) := by
  have c := ord_at (m := m) ok os ps qs
  rw [ord_true.mpr ⟨so, rfl, ho⟩] at c
  exact runX_ret rfl ((xSeq_nx (xP_of rfl)).trans ((xSeq_nx ((xIf_f c).trans (xP_of rfl))).trans (xP_of (pro_tail t hp hq ho.1))))
theorem q_pay_good {m : Nat} {os : List (List Int)} {ps qs so : List Int} (t : Tb m os) (hp : ps.length = os.length) (hq : qs.length = m) (ho : OrdP m so) (ok : okD (offD so) = true) : q_pay_along [tabD m os, offD ps, offD qs, offD so] = some (offD (payL m os ps qs so)) := by
  have c := ord_at (m := m) ok os ps qs
  rw [ord_true.mpr ⟨so, rfl, ho⟩] at c
  exact runF_of rfl ((sSeq_nx rfl).trans ((sSeq_nx ((sIf_f c).trans rfl)).trans (pro_tail t hp hq ho.1)))
theorem r_pay_bad {m : Nat} {os : List (List Int)} {ps qs : List Int} {x : PyData} (ok : okD x = true) (h : ordB x m = false) : r_pay_along [tabD m os, offD ps, offD qs, x] = some (.exc "NoOrder") := by
  have c := ord_at (m := m) ok os ps qs
  rw [h] at c
  exact runX_exc rfl ((xSeq_nx (xP_of rfl)).trans (xSeq_ex ((xIf_t c).trans rfl)))
end Pb

set_option Elab.async false
set_option linter.all false
set_option maxRecDepth 100000
namespace Pb
open PySem PySem.Spec PyProof.Rows L2
section
variable {P : Program} {w : World} {K : PySem.W.Frag} {mg : Str → Option Value} {base : Heap}
def w__law_one : Addr → List PyData → Int → (PyData → Int → Prop) → Prop := runW 2 2 fun d =>
  (twRet (wOp fIxL (wP (eVar 1)) (wDraw d 0 WNextW (wCons (wP (eCb fLen (aCons (eVar 1) aNil))) wNil))))
def w__law_nested : Addr → List PyData → Int → (PyData → Int → Prop) → Prop := runW 6 2 fun d =>
  (twSeq (twP (sParOO 2 3 (lRg (eOp fIxT (eVar 1) (eInt 0))) (lLst aNil)))
  (twSeq (twWhile 20 (bTest (eOp fNe0 (eL (lOwn 2)) (eL (lLst aNil)))) (twSeq (twP (sSet (gN 4) (eL (lBor 2 (lLc [5] (iL (eVar 2)) (gN 5) (bTest (eCb Pb.q__law_is_simple (aCons (eVar 1) (aCons (eVar 2) (aCons (eVar 5) aNil))))) (eVar 5))))))
  (twSeq (twP (sIf (bTest (eOp fEq0 (eVar 4) (eL (lLst aNil)))) (sRet (eTup aNil)) sNil))
  (twSeq (twApp 3 (wDraw d 0 w__law_one (wCons (wP (eVar 4)) wNil)))
  (twP (sRem 2 (eOp fIxL (eL (lOwn 3)) (eUn fNeg (eInt 1)))))))))
  (twP (sRet (eCb fTupOf (aCons (eL (lOwn 3)) aNil))))))
end
end Pb

set_option Elab.async false
set_option linter.all false
set_option maxRecDepth 100000
namespace Pb
open PySem PySem.Spec PyProof.Rows L2
theorem oneD {d : Addr} {ns : List Int} (h0 : ns ≠ []) (hl : ns.length ≤ 1000) {n : Int} (hn : n < 2 ^ 49) {P : PyData → Int → Prop} (h : ∀ (i n' : Int), i ∈ ns → n' ≤ n + 1 → P (.int i) n') : w__law_one d [.list (ns.map PyData.int)] n P := by
  have lp : 0 < ns.length := List.length_pos_iff.mpr h0
  refine ⟨rfl, _, rfl, rfl, .int (ns.length : Nat), ?_, (ns.length : Int), rfl, by omega, by omega, by omega, fun v n' v0 v1 le => ?_⟩
  · refine eCb_of (aCons_of rfl rfl) ?_
    show some (PyData.int (((ns.map PyData.int).length : Nat) : Int)) = _
    rw [List.length_map]
  · obtain ⟨i, hi, e⟩ := ixL_ints v0 v1
    exact ⟨_, e, h i n' hi le⟩
theorem sRem_of {i : Nat} {φ : Rho → Option PyData} {ρ : Rho} {ns ms : List Int} {k : Int} (h1 : ro ρ i = some (ns.map PyData.int)) (h2 : φ ρ = some (.int k)) (h3 : remF k ns = some ms) : sRem i φ ρ = some (.nx (ρ.set i (.own (ms.map PyData.int)))) := by
  unfold sRem
  rw [h1, h2]
  show (intsD (ns.map PyData.int)).bind (fun ns => (remF k ns).map _) = _
  rw [intsD_ints]
  show (remF k ns).map _ = _
  rw [h3]
  rfl
theorem ixL_last {ns : List Int} {d : Int} : fIxL (.list ((ns ++ [d]).map PyData.int)) (.int (-1)) = some (.int d) := by
  rw [List.map_append]
  exact ixT_last
abbrev nlT : Rho → Option Bool := bTest (eOp fNe0 (eL (lOwn 2)) (eL (lLst aNil)))
abbrev nlB (d : Addr) : Rho → Int → (Res → Int → Prop) → Prop := twSeq (twP (sSet (gN 4) (eL (lBor 2 (lLc [5] (iL (eVar 2)) (gN 5) (bTest (eCb Pb.q__law_is_simple (aCons (eVar 1) (aCons (eVar 2) (aCons (eVar 5) aNil))))) (eVar 5))))))
        (twSeq (twP (sIf (bTest (eOp fEq0 (eVar 4) (eL (lLst aNil)))) (sRet (eTup aNil)) sNil))
        (twSeq (twApp 3 (wDraw d 0 w__law_one (wCons (wP (eVar 4)) wNil)))
        (twP (sRem 2 (eOp fIxL (eL (lOwn 3)) (eUn fNeg (eInt 1)))))))
abbrev rN (d : Addr) (m : Nat) (os : List (List Int)) (rest found : List Int) (s4 s5 : Sl) : Rho := [.deck d, .val (tabD m os), .own (rest.map PyData.int), .own (found.map PyData.int), s4, s5]
theorem nested_step {d : Addr} {m : Nat} {os : List (List Int)} (t : Tb m os) {rest found : List Int} {s4 s5 : Sl} {n : Int} (hn : n < 2 ^ 45) (rl : rest.length ≤ 10) (fl : found.length ≤ 10) {R : Res → Int → Prop} (h1 : R (.rt (.tuple [])) n)
    (h2 : ∀ (i : Int) (rest' : List Int) (s4' : Sl) (n' : Int), i ∈ rest → fineB os rest i = true → rest.Perm (i :: rest') → n' ≤ n + 1 → R (.nx (rN d m os rest' (found ++ [i]) s4' s5)) n') : nlB d (rN d m os rest found s4 s5) n R := by
  have c : lBor 2 (lLc [5] (iL (eVar 2)) (gN 5) (bTest (eCb Pb.q__law_is_simple (aCons (eVar 1) (aCons (eVar 2) (aCons (eVar 5) aNil))))) (eVar 5)) (rN d m os rest found s4 s5) = some ((rest.filter fun d => fineB os rest d).map PyData.int) := by
    refine lBor_of rfl ?_ (flat_ints _)
    rw [← filter_ints fun d => fineB os rest d]
    refine lLc_filter (es := rest.map PyData.int) _ rfl (by rw [List.length_map]; omega) fun e he => ?_
    obtain ⟨i, hi, rfl⟩ := List.mem_map.mp he
    exact ⟨_, rfl, bTest_of (eCb_of (aCons_of rfl (aCons_of rfl (aCons_of rfl rfl))) (simpleL t (R := lstD rest) fun j => fIn_lst j _)), rfl⟩
  have el : (rest.filter fun d => fineB os rest d).length ≤ rest.length := List.length_filter_le _ _
  have mem : ∀ i ∈ rest.filter fun d => fineB os rest d, i ∈ rest ∧ fineB os rest i = true := fun i hi => List.mem_filter.mp hi
  generalize (rest.filter fun d => fineB os rest d) = es at c el mem
  refine ⟨.nx (rN d m os rest found (.val (lstD es)) s5), sSet_of (eL_of c), ?_⟩
  cases es with
  | nil => exact ⟨.rt (.tuple []), (sIf_t rfl).trans rfl, h1⟩
  | cons e es =>
    refine ⟨.nx (rN d m os rest found (.val (lstD (e :: es))) s5), (sIf_f rfl).trans rfl, ?_⟩
    refine ⟨found.map PyData.int, rfl, by rw [List.length_map]; omega, rfl, _, rfl, ?_⟩
    refine oneD (ns := e :: es) (by simp) (by omega) (by omega) fun i n' hi le => ?_
    obtain ⟨hd1, hd2⟩ := mem i hi
    obtain ⟨rest', r1, r2⟩ := remF_some hd1
    have e0 : found.map PyData.int ++ [.int i] = (found ++ [i]).map PyData.int := by rw [List.map_append]; rfl
    have k : sRem 2 (eOp fIxL (eL (lOwn 3)) (eUn fNeg (eInt 1))) [.deck d, .val (tabD m os), .own (rest.map PyData.int), .own (found.map PyData.int ++ [.int i]), .val (lstD (e :: es)), s5] = some (.nx (rN d m os rest' (found ++ [i]) (.val (lstD (e :: es))) s5)) := by
      rw [e0]
      exact sRem_of (ns := rest) rfl (eOp_of rfl rfl ixL_last) r1
    exact ⟨_, k, h2 i rest' _ n' hd1 hd2 r2 le⟩
theorem nst_snoc {os : List (List Int)} {found rest rest' : List Int} {i : Int} (hS : Nst os found rest) (hf : fineB os rest i = true) (r2 : rest.Perm (i :: rest')) : Nst os (found ++ [i]) rest' := fun j e he => by
  have mem : ∀ j, j ∈ i :: rest' ↔ j ∈ rest := fun j => r2.symm.mem_iff
  by_cases hj : j < found.length
  · rw [List.getElem?_append_left hj] at he
    have := hS j e he
    rw [List.drop_append_of_le_length (by omega)]
    rw [fineB_congr (ms := found.drop j ++ rest) fun i => by
      rw [List.append_assoc, List.mem_append, List.singleton_append, mem, List.mem_append]]
    exact this
  · have hj2 : j = found.length := by
      have := (List.getElem?_eq_some_iff.mp he).1
      simp at this
      omega
    subst hj2
    rw [List.getElem?_append_right (Nat.le_refl _), Nat.sub_self] at he
    cases he
    rw [List.drop_left, List.singleton_append, fineB_congr (ms := rest) mem]
    exact hf
theorem nested_loop {d : Addr} {m : Nat} {os : List (List Int)} (t : Tb m os) {P : Res → Int → Prop} {N : Int} (hN : N < 2 ^ 45) (h1 : ∀ n', n' ≤ N → P (.rt (.tuple [])) n') (h2 : ∀ (ns : List Int) (s4 s5 : Sl) n', OrdP m ns → nestB os ns = true → n' ≤ N → P (.nx (rN d m os [] ns s4 s5)) n') :
    ∀ (fuel : Nat) (rest found : List Int) (s4 s5 : Sl) (n : Int), rest.length < fuel → (found ++ rest).Perm (upto m) → Nst os found rest → n + rest.length ≤ N → whW nlT (nlB d) fuel (rN d m os rest found s4 s5) n P := by
  intro fuel
  induction fuel with
  | zero => intro rest found s4 s5 n hf; omega
  | succ fuel ih =>
    intro rest found s4 s5 n hf hp hS hn
    have len : (found ++ rest).length = m := by rw [hp.length_eq, ints_len]
    rw [List.length_append] at len
    have m10 := t.m10
    cases rest with
    | nil =>
      refine ⟨false, rfl, ?_⟩
      rw [if_neg Bool.false_ne_true]
      refine h2 found s4 s5 n (ordP_perm (by simpa using hp)) (nestB_iff.mpr fun j e he => ?_) (by simpa using hn)
      have := hS j e he
      rwa [List.append_nil] at this
    | cons x rest =>
      refine ⟨true, rfl, ?_⟩
      rw [if_pos rfl]
      rw [List.length_cons] at hf hn len
      refine nested_step t (by omega) (by rw [List.length_cons]; omega) (by omega) (h1 n (by omega)) fun i rest' s4' n' hi hfi r2 le => ?_
      have l' := r2.length_eq
      simp only [List.length_cons] at l'
      refine ih rest' (found ++ [i]) s4' s5 n' (by omega) ?_ (nst_snoc hS hfi r2) (by omega)
      rw [List.append_assoc]
      exact (List.Perm.append_left found r2.symm).trans hp
theorem nestedD {d : Addr} {m : Nat} {os : List (List Int)} (t : Tb m os) {n : Int} (hn : n < 2 ^ 44) {P : PyData → Int → Prop} (h : ∀ (ns : List Int) (n' : Int), (ns = [] ∨ (OrdP m ns ∧ nestB os ns = true)) → n' ≤ n + 10 → P (offD ns) n') : w__law_nested d [tabD m os] n P := by
  have m10 := t.m10
  refine ⟨rfl, .nx [.deck d, .val (tabD m os), .own ((upto m).map PyData.int), .own [], .no, .no], ?_, ?_⟩
  · show sParOO 2 3 (lRg (eOp fIxT (eVar 1) (eInt 0))) (lLst aNil) [.deck d, .val (tabD m os), .no, .no, .no, .no] = _
    unfold sParOO
    rw [lRg_of (j := (m : Int)) rfl (by omega) (by omega), rng_ints]
    rfl
  · refine nested_loop t (N := n + 10) (by omega) (fun n' le => h [] n' (.inl rfl) le) (fun ns s4 s5 n' ho hb le => ⟨_, rfl, h ns n' (.inr ⟨ho, hb⟩) le⟩) 20 (upto m) [] .no .no n (by rw [ints_len]; omega) (List.Perm.refl _) (fun k d hd => by simp at hd) (by rw [ints_len]; omega)
end Pb

set_option Elab.async false
set_option linter.all false
set_option maxRecDepth 100000
namespace Pb
open PySem PySem.Spec PyProof.Rows L2
/-! ### payments: bounds -/
theorem subAll_get {x : Int} : ∀ {ks l : List Int}, ks.Nodup → (∀ k ∈ ks, 0 ≤ k ∧ k < (l.length : Int)) → ∀ j : Nat, (subAll x l ks).getD j 0 = if (j : Int) ∈ ks then l.getD j 0 - x else l.getD j 0
  | [], l, _, _, j => by simp [subAll]
  | k :: ks, l, hn, hk, j => by
    obtain ⟨n1, n2⟩ := List.nodup_cons.mp hn
    have kk := hk k List.mem_cons_self
    have ih := subAll_get (x := x) (ks := ks) (l := l.set k.toNat (l.getD k.toNat 0 - x)) n2 (fun i hi => by rw [List.length_set]; exact hk i (List.mem_cons_of_mem _ hi)) j
    have e : subAll x l (k :: ks) = subAll x (l.set k.toNat (l.getD k.toNat 0 - x)) ks := rfl
    rw [e, ih]
    by_cases hj : k.toNat = j
    · have hjk : (j : Int) = k := by omega
      have hno : (j : Int) ∉ ks := by rw [hjk]; exact n1
      rw [if_neg hno, if_pos (by rw [hjk]; exact List.mem_cons_self), ← hj, set_getD (by omega)]
    · have g : (l.set k.toNat (l.getD k.toNat 0 - x)).getD j 0 = l.getD j 0 := by
        rw [List.getD_eq_getElem?_getD, List.getElem?_set_ne hj, ← List.getD_eq_getElem?_getD]
      have m : (j : Int) ∈ k :: ks ↔ (j : Int) ∈ ks := by
        rw [List.mem_cons]
        exact ⟨fun h => h.elim (fun z => absurd (by omega) hj) id, .inr⟩
      rw [g]
      by_cases hm : (j : Int) ∈ ks
      · rw [if_pos hm, if_pos (m.mpr hm)]
      · rw [if_neg hm, if_neg (fun z => hm (m.mp z))]
theorem sApp_of {i : Nat} {φ : Rho → Option PyData} {ρ : Rho} {es : List PyData} {e : PyData} (h1 : ro ρ i = some es) (hl : es.length < 100000) (h2 : φ ρ = some e) : sApp i φ ρ = some (.nx (ρ.set i (.own (es ++ [e])))) := by
  unfold sApp
  rw [h1]
  show (if es.length < 100000 then (φ ρ).map _ else none) = _
  rw [if_pos hl, h2]
  rfl
theorem payX_le {os : List (List Int)} {qs ls : List Int} {d : Int} : payX os qs ls d ≤ qs.getD d.toNat 0 ∧ ∀ k ∈ covL os d, payX os qs ls d ≤ ls.getD k.toNat 0 := by
  obtain ⟨_, h2, h3⟩ := foldl_min ((covL os d).map fun k => ls.getD k.toNat 0) (qs.getD d.toNat 0)
  exact ⟨h2, fun k hk => h3 _ (List.mem_map_of_mem hk)⟩
theorem payX_at {os : List (List Int)} {qs ls : List Int} {d : Int} : payX os qs ls d = qs.getD d.toNat 0 ∨ ∃ k ∈ covL os d, payX os qs ls d = ls.getD k.toNat 0 := by
  obtain ⟨h1, _, _⟩ := foldl_min ((covL os d).map fun k => ls.getD k.toNat 0) (qs.getD d.toNat 0)
  rcases h1 with h | h
  · exact .inl h
  · obtain ⟨k, hk, e⟩ := List.mem_map.mp h
    exact .inr ⟨k, hk, e.symm⟩
theorem in0_of {M : Int} {l : List Int} (h : ∀ j < l.length, 0 ≤ l.getD j 0 ∧ l.getD j 0 ≤ M) : In0 M l := fun i hi => by
  obtain ⟨j, hj⟩ := List.getElem?_of_mem hi
  have := h j (List.getElem?_eq_some_iff.mp hj).1
  rwa [List.getD_eq_getElem?_getD, hj] at this
theorem payX_in {M : Int} {os : List (List Int)} {qs ls : List Int} {d : Int} (ll : ls.length = os.length) (h1 : In0 M ls) (h2 : In0 M qs) (hd : 0 ≤ d ∧ d < (qs.length : Int)) : 0 ≤ payX os qs ls d ∧ payX os qs ls d ≤ M := by
  have q := h2.get (k := d.toNat) (by omega)
  have le := (payX_le (os := os) (qs := qs) (ls := ls) (d := d)).1
  refine ⟨?_, by omega⟩
  rcases payX_at (os := os) (qs := qs) (ls := ls) (d := d) with e | ⟨k, hk, e⟩
  · omega
  · have kk := cov_ran k hk
    have := h1.get (k := k.toNat) (by omega)
    omega
theorem left_in {M : Int} {os : List (List Int)} {qs ls : List Int} {d : Int} (ll : ls.length = os.length) (h1 : In0 M ls) (h2 : In0 M qs) (hd : 0 ≤ d ∧ d < (qs.length : Int)) : In0 M (subAll (payX os qs ls d) ls (covL os d)) := by
  have x0 := payX_in (os := os) ll h1 h2 hd
  refine in0_of fun j hj => ?_
  rw [subAll_len] at hj
  have g := h1.get (k := j) hj
  rw [subAll_get (cov_nodup os d) (fun k hk => by have := cov_ran k hk; omega)]
  split
  · rename_i hm
    have := (payX_le (os := os) (qs := qs) (ls := ls) (d := d)).2 _ hm
    rw [Int.toNat_natCast] at this
    omega
  · exact g
theorem payGo_in {M : Int} {os : List (List Int)} {qs : List Int} (h2 : In0 M qs) : ∀ {so ls fs : List Int}, ls.length = os.length → In0 M ls → In0 M fs → (∀ d ∈ so, 0 ≤ d ∧ d < (qs.length : Int)) → In0 M (payGo os qs so ls fs).1 ∧ In0 M (payGo os qs so ls fs).2
  | [], _, _, _, h1, h3, _ => ⟨h1, h3⟩
  | d :: so, ls, fs, ll, h1, h3, hd => by
    have dd := hd d List.mem_cons_self
    exact payGo_in h2 (so := so) (by rw [subAll_len]; exact ll) (left_in ll h1 h2 dd) (h3.set (payX_in ll h1 h2 dd)) fun i hi => hd i (List.mem_cons_of_mem _ hi)
theorem pay_in0 {M : Int} {m : Nat} {os : List (List Int)} {ps qs so : List Int} (t : Tb m os) (hp : ps.length = os.length) (hq : qs.length = m) (h1 : In0 M ps) (h2 : In0 M qs) (hM : 0 ≤ M) (hso : ∀ d ∈ so, 0 ≤ d ∧ d < (m : Int)) : In0 M (payL m os ps qs so) :=
  (payGo_in h2 hp h1 (fun i hi => by rw [List.eq_of_mem_replicate hi]; exact ⟨Int.le_refl _, hM⟩) fun d hd => by have := hso d hd; omega).2
end Pb

set_option Elab.async false
set_option linter.all false
set_option maxRecDepth 100000
namespace L21
open PySem PySem.Spec PyProof.Rows L2 Pb
def topS (i : Nat) : Stmt := PySem.Challenge.pw_payorder_k21_payments_along_orders.main.body.getD i (.Pass ⟨0, 0, 0, 0⟩)
section
variable {P : Program} {w : World} {K : PySem.W.Frag} {mg : Str → Option Value} {base : Heap}
abbrev s_is_integer : Stmt := topS 1
theorem sc_is_integer : FnScope ["value"] ["value"] (defScope s_is_integer) := ⟨rfl, rfl, rfl, by decide +kernel, rfl, by decide +kernel, by decide +kernel⟩
set_option maxHeartbeats 2000000 in
theorem ok_is_integer {f : Addr} {fd : FuncData} (F : Fun K "is_integer" "is_integer" s_is_integer f fd) (B : Bx mg) :
    FnOk P w K mg base CX0 1 f fd ["value"] (spD K (RF Pb.q_is_integer)) := fn_pure (cl := fun _ => 0) F sc_is_integer fun cdv A outer s H E hr => by
  have nd := sc_is_integer.nd
  exact ⟨_, (pss_one (ps_ret (pe_and (pe_callB (crK (K := K) rIsi rfl call_isi) rfl B.isinstance bt_isinstance (pa_cons (pv 0) (pa_cons (pe_ty rfl B.int bt_int) pa_nil))) (pe_one (pe_not (pe_callB (crK (K := K) rIsi rfl call_isi) rfl B.isinstance bt_isinstance (pa_cons (pv 0) (pa_cons (pe_ty rfl B.bool bt_bool) pa_nil)))))))),
    (ss_ret (xs_and (EvS.t (xs_isi (T := "int") (EvS.t (xs_var 0)))) (xs_not (EvS.t (xs_isi (T := "bool") (EvS.t (xs_var 0)))))))⟩
abbrev s_is_number_below : Stmt := topS 2
theorem sc_is_number_below : FnScope ["value", "count"] ["value", "count"] (defScope s_is_number_below) := ⟨rfl, rfl, rfl, by decide +kernel, rfl, by decide +kernel, by decide +kernel⟩
set_option maxHeartbeats 2000000 in
theorem ok_is_number_below {f : Addr} {fd : FuncData} (F : Fun K "is_number_below" "is_number_below" s_is_number_below f fd) (B : Bx mg) (c_is_integer : Cl P w K mg base 1 "is_integer" ["value"] (spD K (RF Pb.q_is_integer))) :
    FnOk P w K mg base CX0 2 f fd ["value", "count"] (spD K (RF Pb.q_is_number_below)) := fn_pure (cl := fun _ => 0) F sc_is_number_below fun cdv A outer s H E hr => by
  have nd := sc_is_number_below.nd
  exact ⟨_, (pss_one (ps_ret (pe_and (pe_k c_is_integer hr (by decide) rfl (pa_cons (pv 0) pa_nil)) (pe_one (pe_chain op_le op_lt pe_int (pv 0) (pv 1)))))),
    (ss_ret (xs_and (EvS.t (xs_call (g := Pb.q_is_integer) (xa_cons (xs_var 0) xa_nil))) (xs_chain os_le os_lt (EvS.t (xs_int 0)) (EvS.t (xs_var 0)) (EvS.t (xs_var 1)))))⟩
abbrev s_is_distinct_below : Stmt := topS 3
theorem sc_is_distinct_below : FnScope ["value", "count", "number"] ["value", "count"] (defScope s_is_distinct_below) := ⟨rfl, rfl, rfl, by decide +kernel, rfl, by decide +kernel, by decide +kernel⟩
set_option maxHeartbeats 2000000 in
theorem ok_is_distinct_below {f : Addr} {fd : FuncData} (F : Fun K "is_distinct_below" "is_distinct_below" s_is_distinct_below f fd) (B : Bx mg) (c_is_number_below : Cl P w K mg base 2 "is_number_below" ["value", "count"] (spD K (RF Pb.q_is_number_below))) :
    FnOk P w K mg base CX0 3 f fd ["value", "count"] (spD K (RF Pb.q_is_distinct_below)) := fn_pure (cl := fun _ => 0) F sc_is_distinct_below fun cdv A outer s H E hr => by
  have nd := sc_is_distinct_below.nd
  exact ⟨_, (pss_cons (ps_if (pt_not (pt_val (pe_callB (crK (K := K) rIsi rfl call_isi) rfl B.isinstance bt_isinstance (pa_cons (pv 0) (pa_cons (pe_ty rfl B.tuple bt_tuple) pa_nil))))) (pss_one (ps_ret pe_bl)) pss_nil)
      (pss_cons (ps_if (pt_not (pt_val (pe_callB (crK (K := K) rAll rfl (cr_all rfl)) rfl B.all bt_all (pa_cons (pe_lc (own := [("number", 2)]) rfl nd (piK (K := K) (fun K => iTup K _) rfl (pi_tup (pv 0))) (blkOk_by (own := [("number", 2)]) (N := ["value", "count", "number"]) (sc := defScope s_is_distinct_below) (by decide +kernel)) (fun _ _ _ _ _ => (pg_name (i := 2) nd rfl (Or.inl rfl))) (fun _ _ _ _ _ => pts_nil) (fun _ _ _ _ _ => (pe_k c_is_number_below hr (by decide) rfl (pa_cons (pv 2) (pa_cons (pv 1) pa_nil))))) pa_nil)))) (pss_one (ps_ret pe_bl)) pss_nil)
      (pss_one (ps_ret (pe_cmpR op_eq (peK (K := K) (fun K => tLenSetT K _) rfl (pe_lenSetT rfl B.len rfl B.set (pv 0))) (pe_callB (crK (K := K) (fun K xs H Q => ∃ p ys, xs = [.ref p] ∧ (SqL K H p ys ∨ SqT K H p ys) ∧ Q (.int ys.length) H) rfl call_len_seq) rfl B.len bt_len (pa_cons (pv 0) pa_nil)) (nomark _)))))),
    (ss_seq (ss_if (tt_not (tt_B (EvS.t (xs_isi (T := "tuple") (EvS.t (xs_var 0)))))) (ss_ret (xs_bl false)) ss_nil)
      (ss_seq (ss_if (tt_not (tt_B (EvS.t (xs_cb cs_all (xt_cons (EvS.t (EvF.s (xf_lc (vs := [2]) (wi_tup (xs_var 0)) (tg_name 2) tt_yes (xs_call (g := Pb.q_is_number_below) (xa_cons (xs_var 2) (xa_cons (xs_var 1) xa_nil)))))) xt_nil))))) (ss_ret (xs_bl false)) ss_nil)
      (ss_ret (xs_op os_eq (EvS.t (xs_lenSet (EvS.t (xs_var 0)))) (EvS.t (xs_cb cs_len (xt_cons (EvS.t (xs_var 0)) xt_nil)))))))⟩
abbrev s_is_order : Stmt := topS 4
theorem sc_is_order : FnScope ["value", "demands"] ["value", "demands"] (defScope s_is_order) := ⟨rfl, rfl, rfl, by decide +kernel, rfl, by decide +kernel, by decide +kernel⟩
set_option maxHeartbeats 2000000 in
theorem ok_is_order {f : Addr} {fd : FuncData} (F : Fun K "is_order" "is_order" s_is_order f fd) (B : Bx mg) (c_is_distinct_below : Cl P w K mg base 3 "is_distinct_below" ["value", "count"] (spD K (RF Pb.q_is_distinct_below))) :
    FnOk P w K mg base CX0 4 f fd ["value", "demands"] (spD K (RF Pb.q_is_order)) := fn_pure (cl := fun _ => 0) F sc_is_order fun cdv A outer s H E hr => by
  have nd := sc_is_order.nd
  exact ⟨_, (pss_one (ps_ret (pe_and (pe_k c_is_distinct_below hr (by decide) rfl (pa_cons (pv 0) (pa_cons (pv 1) pa_nil))) (pe_one (pe_cmpR op_eq (pe_callB (crK (K := K) (fun K xs H Q => ∃ p ys, xs = [.ref p] ∧ (SqL K H p ys ∨ SqT K H p ys) ∧ Q (.int ys.length) H) rfl call_len_seq) rfl B.len bt_len (pa_cons (pv 0) pa_nil)) (pv 1) (nomark _)))))),
    (ss_ret (xs_and (EvS.t (xs_call (g := Pb.q_is_distinct_below) (xa_cons (xs_var 0) (xa_cons (xs_var 1) xa_nil)))) (xs_op os_eq (EvS.t (xs_cb cs_len (xt_cons (EvS.t (xs_var 0)) xt_nil))) (EvS.t (xs_var 1)))))⟩
abbrev s_covering_offers : Stmt := topS 14
theorem sc_covering_offers : FnScope ["table", "demand", "demands", "offers", "number", "offer"] ["table", "demand"] (defScope s_covering_offers) := ⟨rfl, rfl, rfl, by decide +kernel, rfl, by decide +kernel, by decide +kernel⟩
set_option maxHeartbeats 2000000 in
theorem ok_covering_offers {f : Addr} {fd : FuncData} (F : Fun K "covering_offers" "covering_offers" s_covering_offers f fd) (B : Bx mg) (c_is_number_below : Cl P w K mg base 2 "is_number_below" ["value", "count"] (spD K (RF Pb.q_is_number_below))) :
    FnOk P w K mg base CX0 3 f fd ["table", "demand"] (spD K (RF Pb.q_covering_offers)) := fn_pure (cl := fun _ => 0) F sc_covering_offers fun cdv A outer s H E hr => by
  have nd := sc_covering_offers.nd
  exact ⟨_, (pss_cons (ps_asg (pv 0) (pg_tupK (K := K) (n := 2) rfl rfl (pgs_cons (pg_name (i := 2) nd rfl (Or.inl rfl)) (pgs_cons (pg_name (i := 3) nd rfl (Or.inl rfl)) pgs_nil))))
      (pss_cons (ps_if (pt_not (pt_val (pe_k c_is_number_below hr (by decide) rfl (pa_cons (pv 1) (pa_cons (pv 2) pa_nil))))) pss_never pss_nil)
      (pss_one (ps_ret (pe_callTy (crK (K := K) (fun K xs H Q => ∃ p ys, xs = [.ref p] ∧ ((SqL K H p ys ∧ ∀ l, H l = none → Q (.ref l) (upd H l (.tup ys))) ∨ (SqT K H p ys ∧ Q (.ref p) H))) rfl call_tuple_of) rfl B.tuple bt_tuple (pa_cons (pe_lc (own := [("number", 4), ("offer", 5)]) rfl nd (piK (K := K) (fun K => iEnumT K _) rfl (pi_enumT rfl B.enumerate (pa_cons (pv 3) pa_nil))) (blkOk_by (own := [("number", 4), ("offer", 5)]) (N := ["table", "demand", "demands", "offers", "number", "offer"]) (sc := defScope s_covering_offers) (by decide +kernel)) (fun _ _ _ _ _ => (pg_tupK (K := K) (n := 2) rfl rfl (pgs_cons (pg_name (i := 4) nd rfl (Or.inl rfl)) (pgs_cons (pg_name (i := 5) nd rfl (Or.inl rfl)) pgs_nil)))) (fun _ _ _ _ _ => pts_one (pt_cmpR (opK (K := K) (fun K => rIn K false) rfl op_in_seq) (pv 1) (pv 5) (by with_unfolding_all rfl))) (fun _ _ _ _ _ => (pv 4))) pa_nil)))))),
    (ss_seq (ss_set (xs_var 0) (tg_tup (tgs_cons (tg_name 2) (tgs_cons (tg_name 3) tgs_nil)) (gC_len (gC_len g0_len))))
      (ss_seq (ss_if (tt_not (tt_B (EvS.t (xs_call (g := Pb.q_is_number_below) (xa_cons (xs_var 1) (xa_cons (xs_var 2) xa_nil)))))) ss_never ss_nil)
      (ss_ret (xs_cb cs_tupOf (xt_cons (EvS.t (EvF.s (xf_lc (vs := [4, 5]) (wi_enumT (xs_var 3)) (tg_tup (tgs_cons (tg_name 4) (tgs_cons (tg_name 5) tgs_nil)) (gC_len (gC_len g0_len))) (tt_test (EvS.t (xs_op os_in (EvS.t (xs_var 1)) (EvS.t (xs_var 5))))) (xs_var 4)))) xt_nil)))))⟩
abbrev s__law_whole : Stmt := topS 32
theorem sc__law_whole : FnScope ["_law_thing"] ["_law_thing"] (defScope s__law_whole) := ⟨rfl, rfl, rfl, by decide +kernel, rfl, by decide +kernel, by decide +kernel⟩
set_option maxHeartbeats 2000000 in
theorem ok__law_whole {f : Addr} {fd : FuncData} (F : Fun K "_law_whole" "_law_whole" s__law_whole f fd) (B : Bx mg) :
    FnOk P w K mg base CX0 1 f fd ["_law_thing"] (spD K (RF Pb.q__law_whole)) := fn_pure (cl := fun _ => 0) F sc__law_whole fun cdv A outer s H E hr => by
  have nd := sc__law_whole.nd
  exact ⟨_, (pss_one (ps_ret (pe_and (pe_callB (crK (K := K) rIsi rfl call_isi) rfl B.isinstance bt_isinstance (pa_cons (pv 0) (pa_cons (pe_ty rfl B.int bt_int) pa_nil))) (pe_one (pe_not (pe_callB (crK (K := K) rIsi rfl call_isi) rfl B.isinstance bt_isinstance (pa_cons (pv 0) (pa_cons (pe_ty rfl B.bool bt_bool) pa_nil)))))))),
    (ss_ret (xs_and (EvS.t (xs_isi (T := "int") (EvS.t (xs_var 0)))) (xs_not (EvS.t (xs_isi (T := "bool") (EvS.t (xs_var 0)))))))⟩
abbrev s__law_is_simple : Stmt := topS 36
theorem sc__law_is_simple : FnScope ["_law_table_here", "_law_rest", "_law_demand", "_law_some", "_law_one_here", "_law_other", "_law_offer", "_law_d"] ["_law_table_here", "_law_rest", "_law_demand"] (defScope s__law_is_simple) := ⟨rfl, rfl, rfl, by decide +kernel, rfl, by decide +kernel, by decide +kernel⟩
set_option maxHeartbeats 2000000 in
theorem ok__law_is_simple {f : Addr} {fd : FuncData} (F : Fun K "_law_is_simple" "_law_is_simple" s__law_is_simple f fd) (B : Bx mg) :
    FnOk P w K mg base CX0 1 f fd ["_law_table_here", "_law_rest", "_law_demand"] (spD K (RF Pb.q__law_is_simple)) := fn_pure (cl := fun _ => 0) F sc__law_is_simple fun cdv A outer s H E hr => by
  have nd := sc__law_is_simple.nd
  exact ⟨_, (pss_cons (ps_setLc (i := 3) (own := [("_law_offer", 6)]) rfl nd rfl rfl (sw_true rfl rfl rfl (by decide +kernel)) (piK (K := K) (fun K => iTup K _) rfl (pi_tup (pe_ix (ixK (K := K) rIxT rfl ix_tup) (pv 0) pe_int (fun _ _ => rfl)))) (blkOk_by (own := [("_law_offer", 6)]) (N := ["_law_table_here", "_law_rest", "_law_demand", "_law_some", "_law_one_here", "_law_other", "_law_offer", "_law_d"]) (sc := defScope s__law_is_simple) (by decide +kernel)) (fun _ _ _ _ _ => (pg_name (i := 6) nd rfl (Or.inl rfl))) (fun _ _ _ _ _ => pts_one (pt_cmpR (opK (K := K) (fun K => rIn K false) rfl op_in_seq) (pv 2) (pv 6) (by with_unfolding_all rfl))) (fun _ _ _ _ _ => (pe_lc (own := [("_law_d", 7)]) rfl nd (piK (K := K) (fun K => iTup K _) rfl (pi_tup (pv 6))) (blkOk_by (own := [("_law_d", 7)]) (N := ["_law_table_here", "_law_rest", "_law_demand", "_law_some", "_law_one_here", "_law_other", "_law_offer", "_law_d"]) (sc := { kind := .function, names := [(".0", .local), ("_law_offer", .local), ("_law_demand", .cell), ("_law_rest", .cell)], isGenerator := false, isCoroutine := false }) (by decide +kernel)) (fun _ _ _ _ _ => (pg_name (i := 7) nd rfl (Or.inl rfl))) (fun _ _ _ _ _ => pts_one (pt_cmpR (opK (K := K) (fun K => rIn K false) rfl op_in_seq) (pv 7) (pv 1) (by with_unfolding_all rfl))) (fun _ _ _ _ _ => (pv 7)))))
      (pss_cons (ps_set (i := 3) nd rfl (Or.inl rfl) (peK (K := K) (fun K => tSortLen K _) rfl (pe_sortLen rfl B.sorted rfl B.len (pa_cons (pv 3) pa_nil) hr.units)))
      (pss_cons (ps_for PassesOwn.never rfl (piK (K := K) (fun K => RZ.iZipA K _) rfl (RZ.pi_zipA rfl B.zip (pa_cons (pv 3) (pa_cons (pe_slice (slK (K := K) rSlL rfl sl_list) (pv 3) (po_some pe_int) po_none) pa_nil)))) (pg_tupK (K := K) (n := 2) rfl rfl (pgs_cons (pg_name (i := 4) nd rfl (Or.inl rfl)) (pgs_cons (pg_name (i := 5) nd rfl (Or.inr rfl)) pgs_nil))) (pss_one (ps_if (pt_cmpR (opK (K := K) rNe0 rfl (op_ne0 hr.units)) (pe_lc (own := [("_law_d", 7)]) rfl nd (piK (K := K) (fun K => iList K _) rfl (pi_list (pv 4))) (blkOk_by (own := [("_law_d", 7)]) (N := ["_law_table_here", "_law_rest", "_law_demand", "_law_some", "_law_one_here", "_law_other", "_law_offer", "_law_d"]) (sc := defScope s__law_is_simple) (by decide +kernel)) (fun _ _ _ _ _ => (pg_name (i := 7) nd rfl (Or.inl rfl))) (fun _ _ _ _ _ => pts_one (pt_cmpR (opK (K := K) (fun K => rIn K true) rfl op_notIn_seq) (pv 7) (pv 5) (by with_unfolding_all rfl))) (fun _ _ _ _ _ => (pv 7))) (pe_lst pa_nil) (nomark _)) (pss_one (ps_ret pe_bl)) pss_nil)))
      (pss_one (ps_ret pe_bl))))),
    (ss_seq (ss_set (EvF.s (xf_lc (vs := [6]) (wi_tup (xs_op os_ixT (EvS.t (xs_var 0)) (EvS.t (xs_int 1)))) (tg_name 6) (tt_test (EvS.t (xs_op os_in (EvS.t (xs_var 2)) (EvS.t (xs_var 6))))) (EvF.s (xf_lc (vs := [7]) (wi_tup (xs_var 6)) (tg_name 7) (tt_test (EvS.t (xs_op os_in (EvS.t (xs_var 7)) (EvS.t (xs_var 1))))) (xs_var 7))))) (tg_name 3))
      (ss_seq (ss_set (EvF.s (xf_sortLen (EvS.t (xs_var 3)))) (tg_name 3))
      (ss_seq (ss_for (wi_zip (xs_var 3) (EvF.s (xf_sl (EvS.t (xs_var 3)) (xo_some (EvS.t (xs_int 1))) xo_none))) (tg_tup (tgs_cons (tg_name 4) (tgs_cons (tg_name 5) tgs_nil)) (gC_len (gC_len g0_len))) (ss_if (tt_test (EvS.t (xs_op os_ne0 (EvS.t (EvF.s (xf_lc (vs := [7]) (wi_lst (xs_var 4)) (tg_name 7) (tt_test (EvS.t (xs_op os_nin (EvS.t (xs_var 7)) (EvS.t (xs_var 5))))) (xs_var 7)))) (EvS.t (EvF.s (xf_lst xa_nil)))))) (ss_ret (xs_bl false)) ss_nil))
      (ss_ret (xs_bl true)))))⟩
abbrev s__law_is_order : Stmt := topS 37
theorem sc__law_is_order : FnScope ["_law_table_here", "_law_thing", "_law_one_here"] ["_law_table_here", "_law_thing"] (defScope s__law_is_order) := ⟨rfl, rfl, rfl, by decide +kernel, rfl, by decide +kernel, by decide +kernel⟩
set_option maxHeartbeats 2000000 in
theorem ok__law_is_order {f : Addr} {fd : FuncData} (F : Fun K "_law_is_order" "_law_is_order" s__law_is_order f fd) (B : Bx mg) (c__law_whole : Cl P w K mg base 1 "_law_whole" ["_law_thing"] (spD K (RF Pb.q__law_whole))) :
    FnOk P w K mg base CX0 2 f fd ["_law_table_here", "_law_thing"] (spD K (RF Pb.q__law_is_order)) := fn_pure (cl := fun _ => 0) F sc__law_is_order fun cdv A outer s H E hr => by
  have nd := sc__law_is_order.nd
  exact ⟨_, (pss_cons (ps_if (PW.pt (pw_or (pt_not (pt_val (pe_callB (crK (K := K) rIsi rfl call_isi) rfl B.isinstance bt_isinstance (pa_cons (pv 1) (pa_cons (pe_ty rfl B.tuple bt_tuple) pa_nil))))) (pw_or1 (pt_cmpR (opK (K := K) rNe0 rfl (op_ne0 hr.units)) (pe_lc (own := [("_law_one_here", 2)]) rfl nd (piK (K := K) (fun K => iTup K _) rfl (pi_tup (pv 1))) (blkOk_by (own := [("_law_one_here", 2)]) (N := ["_law_table_here", "_law_thing", "_law_one_here"]) (sc := defScope s__law_is_order) (by decide +kernel)) (fun _ _ _ _ _ => (pg_name (i := 2) nd rfl (Or.inl rfl))) (fun _ _ _ _ _ => pts_one (pt_not (pt_val (pe_k c__law_whole hr (by decide) rfl (pa_cons (pv 2) pa_nil))))) (fun _ _ _ _ _ => (pv 2))) (pe_lst pa_nil) (nomark _))))) (pss_one (ps_ret pe_bl)) pss_nil)
      (pss_one (ps_ret (pe_cmpR (opK (K := K) rEqD rfl (op_eqD hr.units)) (pe_callB (crK (K := K) rSortT rfl cr_sortT) rfl B.sorted bt_sorted (pa_cons (pv 1) pa_nil)) (pe_listRg rfl rfl B.list (prg_1 rfl B.range (pe_ix (ixK (K := K) rIxT rfl ix_tup) (pv 0) pe_int (fun _ _ => rfl)))) (nomark _))))),
    (ss_seq (ss_if (tt_or (tt_not (tt_B (EvS.t (xs_isi (T := "tuple") (EvS.t (xs_var 1)))))) (tt_test (EvS.t (xs_op os_ne0 (EvS.t (EvF.s (xf_lc (vs := [2]) (wi_tup (xs_var 1)) (tg_name 2) (tt_not (tt_B (EvS.t (xs_call (g := Pb.q__law_whole) (xa_cons (xs_var 2) xa_nil))))) (xs_var 2)))) (EvS.t (EvF.s (xf_lst xa_nil))))))) (ss_ret (xs_bl false)) ss_nil)
      (ss_ret (xs_op os_eqD (EvS.t (EvF.s (xf_cb cf_sortT (xt_cons (EvS.t (xs_var 1)) xt_nil)))) (EvS.t (EvF.s (xf_rg (EvS.t (xs_op os_ixT (EvS.t (xs_var 0)) (EvS.t (xs_int 0))))))))))⟩
abbrev s__law_payments : Stmt := topS 38
theorem sc__law_payments : FnScope ["_law_table_here", "_law_prices", "_law_penalties", "_law_order", "_law_left", "_law_found", "_law_demand", "_law_some", "_law_k", "_law_offer"] ["_law_table_here", "_law_prices", "_law_penalties", "_law_order"] (defScope s__law_payments) := ⟨rfl, rfl, rfl, by decide +kernel, rfl, by decide +kernel, by decide +kernel⟩
set_option maxHeartbeats 2000000 in
theorem ok__law_payments {f : Addr} {fd : FuncData} (F : Fun K "_law_payments" "_law_payments" s__law_payments f fd) (B : Bx mg) :
    FnOk P w K mg base CX0 1 f fd ["_law_table_here", "_law_prices", "_law_penalties", "_law_order"] (spD K (RF Pb.q__law_payments)) := fn_pure (cl := fun _ => 0) F sc__law_payments fun cdv A outer s H E hr => by
  have nd := sc__law_payments.nd
  exact ⟨_, (pss_cons (ps_asg (pe_tup (pa_cons (pe_callTy (crK (K := K) (fun K xs H Q => ∃ p ys, xs = [.ref p] ∧ (SqL K H p ys ∨ SqT K H p ys) ∧ ∀ l, H l = none → Q (.ref l) (upd H l (.lst ys))) rfl call_list_of) rfl B.list bt_list (pa_cons (pv 1) pa_nil)) (pa_cons (pe_op op_rep (pe_lst (pa_cons pe_int pa_nil)) (pe_ix (ixK (K := K) rIxT rfl ix_tup) (pv 0) pe_int (fun _ _ => rfl))) pa_nil))) (pg_tupK (K := K) (n := 2) rfl rfl (pgs_cons (pg_name (i := 4) nd rfl (Or.inr rfl)) (pgs_cons (pg_name (i := 5) nd rfl (Or.inl rfl)) pgs_nil))))
      (pss_cons (ps_for PassesOwn.never rfl (piK (K := K) (fun K => iTup K _) rfl (pi_tup (pv 3))) (pg_name (i := 6) nd rfl (Or.inr rfl)) (pss_cons (ps_setLc (i := 7) (own := [("_law_k", 8), ("_law_offer", 9)]) rfl nd rfl rfl (sw_true rfl rfl rfl (by decide +kernel)) (piK (K := K) (fun K => iEnumT K _) rfl (pi_enumT rfl B.enumerate (pa_cons (pe_ix (ixK (K := K) rIxT rfl ix_tup) (pv 0) pe_int (fun _ _ => rfl)) pa_nil))) (blkOk_by (own := [("_law_k", 8), ("_law_offer", 9)]) (N := ["_law_table_here", "_law_prices", "_law_penalties", "_law_order", "_law_left", "_law_found", "_law_demand", "_law_some", "_law_k", "_law_offer"]) (sc := defScope s__law_payments) (by decide +kernel)) (fun _ _ _ _ _ => (pg_tupK (K := K) (n := 2) rfl rfl (pgs_cons (pg_name (i := 8) nd rfl (Or.inl rfl)) (pgs_cons (pg_name (i := 9) nd rfl (Or.inl rfl)) pgs_nil)))) (fun _ _ _ _ _ => pts_one (pt_cmpR (opK (K := K) (fun K => rIn K false) rfl op_in_seq) (pv 6) (pv 9) (by with_unfolding_all rfl))) (fun _ _ _ _ _ => (pv 8)))
      (pss_cons (ps_asg (pe_callB (crK (K := K) rMin rfl (cr_min rfl)) rfl B.min bt_min (pa_cons (pe_op op_cat (pe_lst (pa_cons (pe_ix (ixK (K := K) rIxT rfl ix_tup) (pv 2) (pv 6) (fun _ _ => rfl)) pa_nil)) (pe_lc (own := [("_law_k", 8)]) rfl nd (piK (K := K) (fun K => iList K _) rfl (pi_list (pv 7))) (blkOk_by (own := [("_law_k", 8)]) (N := ["_law_table_here", "_law_prices", "_law_penalties", "_law_order", "_law_left", "_law_found", "_law_demand", "_law_some", "_law_k", "_law_offer"]) (sc := defScope s__law_payments) (by decide +kernel)) (fun _ _ _ _ _ => (pg_name (i := 8) nd rfl (Or.inl rfl))) (fun _ _ _ _ _ => pts_nil) (fun _ _ _ _ _ => (pe_ix (ixK (K := K) rIxL rfl ix_list) (pv 4) (pv 8) (fun _ _ => rfl))))) pa_nil)) (pg_sub (pv 5) (pv 6) set_list))
      (pss_one (ps_for PassesOwn.never rfl (piK (K := K) (fun K => iList K _) rfl (pi_list (pv 7))) (pg_name (i := 8) nd rfl (Or.inl rfl)) (pss_one (ps_asg (pe_op op_sub (pe_ix (ixK (K := K) rIxL rfl ix_list) (pv 4) (pv 8) (fun _ _ => rfl)) (pe_ix (ixK (K := K) rIxL rfl ix_list) (pv 5) (pv 6) (fun _ _ => rfl))) (pg_sub (pv 4) (pv 8) set_list))))))))
      (pss_one (ps_ret (pe_callTy (crK (K := K) (fun K xs H Q => ∃ p ys, xs = [.ref p] ∧ ((SqL K H p ys ∧ ∀ l, H l = none → Q (.ref l) (upd H l (.tup ys))) ∨ (SqT K H p ys ∧ Q (.ref p) H))) rfl call_tuple_of) rfl B.tuple bt_tuple (pa_cons (pv 5) pa_nil)))))),
    (ss_seq (ss_tupOO (i := 4) (j := 5) (xf_cb cf_listOf (xt_cons (EvS.t (xs_var 1)) xt_nil)) (xf_rep (EvF.l (xf_lst (xa_cons (xs_int 0) xa_nil))) (EvS.t (xs_op os_ixT (EvS.t (xs_var 0)) (EvS.t (xs_int 0))))))
      (ss_seq (ss_for (wi_tup (xs_var 3)) (tg_name 6) (ss_seq (ss_set (EvF.s (xf_lc (vs := [8, 9]) (wi_enumT (xs_op os_ixT (EvS.t (xs_var 0)) (EvS.t (xs_int 1)))) (tg_tup (tgs_cons (tg_name 8) (tgs_cons (tg_name 9) tgs_nil)) (gC_len (gC_len g0_len))) (tt_test (EvS.t (xs_op os_in (EvS.t (xs_var 6)) (EvS.t (xs_var 9))))) (xs_var 8))) (tg_name 7))
      (ss_seq (ss_put (i := 5) (xs_cb cs_min (xt_cons (EvS.t (EvF.s (xf_cat (EvF.l (xf_lst (xa_cons (xs_op os_ixT (EvS.t (xs_var 2)) (EvS.t (xs_var 6))) xa_nil))) (EvF.l (xf_lc (vs := [8]) (wi_lst (xs_var 7)) (tg_name 8) tt_yes (xs_op os_ixL (EvLi.t (xl_own 4)) (EvS.t (xs_var 8)))))))) xt_nil)) (EvS.t (xs_var 6)))
      (ss_for (wi_lst (xs_var 7)) (tg_name 8) (ss_put (i := 4) (xs_op os_sub (EvS.t (xs_op os_ixL (EvLi.t (xl_own 4)) (EvS.t (xs_var 8)))) (EvS.t (xs_op os_ixL (EvLi.t (xl_own 5)) (EvS.t (xs_var 6))))) (EvS.t (xs_var 8)))))))
      (ss_ret (xs_cb cs_tupOf (xt_cons (EvLi.t (xl_own 5)) xt_nil)))))⟩
end
end L21

set_option Elab.async false
set_option linter.all false
set_option maxRecDepth 100000
namespace L21
open PySem PySem.Spec PyProof.Rows L2 Pb
section
variable {P : Program} {w : World} {K : PySem.W.Frag} {mg : Str → Option Value} {base : Heap}
abbrev s__law_amount : Stmt := topS 30
theorem sc__law_amount : FnScope ["_law_deck_here"] ["_law_deck_here"] (defScope s__law_amount) := ⟨rfl, rfl, rfl, by decide +kernel, rfl, by decide +kernel, by decide +kernel⟩
set_option maxHeartbeats 4000000 in
theorem ok__law_amount {f : Addr} {fd : FuncData} (F : Fun K "_law_amount" "_law_amount" s__law_amount f fd) (B : Bx mg) (c__law_next : Cl P w K mg base 1 "_law_next" ["_law_deck_here", "_law_many"] (spW K WNextW)) :
    FnOk P w K mg base CX0 2 f fd ["_law_deck_here"] (spW K Pb.w__law_amount) := fn_draw F sc__law_amount fun cdv A outer s H E hr => by
  have nd := sc__law_amount.nd
  exact ⟨_, (pss_one (ps_ret (pe_ix (ixK (K := K) rIxL rfl ix_list) (pe_lst (pa_cons pe_int (pa_cons pe_int (pa_cons (pe_k c__law_next hr (by decide) rfl (pa_cons (pv 0) (pa_cons pe_int pa_nil))) (pa_cons (pe_k c__law_next hr (by decide) rfl (pa_cons (pv 0) (pa_cons pe_int pa_nil))) (pa_cons (pe_k c__law_next hr (by decide) rfl (pa_cons (pv 0) (pa_cons (pe_op op_add (pe_op op_pow pe_int pe_int) pe_int) pa_nil))) (pa_cons (pe_op op_pow pe_int pe_int) pa_nil))))))) (pe_k c__law_next hr (by decide) rfl (pa_cons (pv 0) (pa_cons pe_int pa_nil))) (fun _ _ => rfl)))), fun d =>
    (sw_ret (xw_op os_ixL (EvFW.s (xfw_lst (wa_cons (EvS.w (xs_int 0)) (wa_cons (EvS.w (xs_int 1)) (wa_cons (xw_draw (W := WNextW) (i := 0) (wa_cons (EvS.w (xs_int 4)) wa_nil)) (wa_cons (xw_draw (W := WNextW) (i := 0) (wa_cons (EvS.w (xs_int 12)) wa_nil)) (wa_cons (xw_draw (W := WNextW) (i := 0) (wa_cons (EvS.w (xs_op os_add (EvS.t (xs_op os_pow (EvS.t (xs_int 10)) (EvS.t (xs_int 12)))) (EvS.t (xs_int 1)))) wa_nil)) (wa_cons (EvS.w (xs_op os_pow (EvS.t (xs_int 10)) (EvS.t (xs_int 12)))) wa_nil)))))))) (xw_draw (W := WNextW) (i := 0) (wa_cons (EvS.w (xs_int 6)) wa_nil))))⟩
abbrev s__law_data : Stmt := topS 31
theorem sc__law_data : FnScope ["_law_deck_here", "_law_table_here", "_law_few", "_law_count", "_law_found", "_law_k"] ["_law_deck_here", "_law_table_here"] (defScope s__law_data) := ⟨rfl, rfl, rfl, by decide +kernel, rfl, by decide +kernel, by decide +kernel⟩
set_option maxHeartbeats 4000000 in
theorem ok__law_data {f : Addr} {fd : FuncData} (F : Fun K "_law_data" "_law_data" s__law_data f fd) (B : Bx mg) (c__law_next : Cl P w K mg base 1 "_law_next" ["_law_deck_here", "_law_many"] (spW K WNextW)) (c__law_amount : Cl P w K mg base 2 "_law_amount" ["_law_deck_here"] (spW K Pb.w__law_amount)) :
    FnOk P w K mg base CX0 3 f fd ["_law_deck_here", "_law_table_here"] (spW K Pb.w__law_data) := fn_draw F sc__law_data fun cdv A outer s H E hr => by
  have nd := sc__law_data.nd
  exact ⟨_, (pss_cons (ps_set (i := 2) nd rfl (Or.inr rfl) (pe_ix (ixK (K := K) rIxL rfl ix_list) (pe_lst (pa_cons pe_int (pa_cons pe_int (pa_cons pe_int pa_nil)))) (pe_k c__law_next hr (by decide) rfl (pa_cons (pv 0) (pa_cons pe_int pa_nil))) (fun _ _ => rfl)))
      (pss_cons (ps_set (i := 3) nd rfl (Or.inl rfl) (pe_op op_add (pe_ix (ixK (K := K) rIxT rfl ix_tup) (pv 1) pe_int (fun _ _ => rfl)) (pe_callB (crK (K := K) (fun K xs H Q => ∃ p ys, xs = [.ref p] ∧ (SqL K H p ys ∨ SqT K H p ys) ∧ Q (.int ys.length) H) rfl call_len_seq) rfl B.len bt_len (pa_cons (pe_ix (ixK (K := K) rIxT rfl ix_tup) (pv 1) pe_int (fun _ _ => rfl)) pa_nil))))
      (pss_cons (ps_setLc (i := 4) (own := [("_law_k", 5)]) rfl nd rfl rfl (sw_true rfl rfl rfl (by decide +kernel)) (pi_range1 rfl B.range (pa_cons (pv 3) pa_nil)) (blkOk_by (own := [("_law_k", 5)]) (N := ["_law_deck_here", "_law_table_here", "_law_few", "_law_count", "_law_found", "_law_k"]) (sc := defScope s__law_data) (by decide +kernel)) (fun _ _ _ _ _ => (pg_name (i := 5) nd rfl (Or.inl rfl))) (fun _ _ _ _ _ => pts_nil) (fun _ _ _ _ _ => (pe_k c__law_next hr (by decide) rfl (pa_cons (pv 0) (pa_cons (pe_op op_add (pv 2) pe_int) pa_nil)))))
      (pss_cons (ps_if (pt_cmpR op_eq (pv 2) pe_int (nomark _)) (pss_one (ps_setLc (i := 4) (own := [("_law_k", 5)]) rfl nd rfl rfl (sw_true rfl rfl rfl (by decide +kernel)) (pi_range1 rfl B.range (pa_cons (pv 3) pa_nil)) (blkOk_by (own := [("_law_k", 5)]) (N := ["_law_deck_here", "_law_table_here", "_law_few", "_law_count", "_law_found", "_law_k"]) (sc := defScope s__law_data) (by decide +kernel)) (fun _ _ _ _ _ => (pg_name (i := 5) nd rfl (Or.inl rfl))) (fun _ _ _ _ _ => pts_nil) (fun _ _ _ _ _ => (pe_k c__law_amount hr (by decide) rfl (pa_cons (pv 0) pa_nil))))) pss_nil)
      (pss_one (ps_ret (pe_tup (pa_cons (pe_callTy (crK (K := K) (fun K xs H Q => ∃ p ys, xs = [.ref p] ∧ ((SqL K H p ys ∧ ∀ l, H l = none → Q (.ref l) (upd H l (.tup ys))) ∨ (SqT K H p ys ∧ Q (.ref p) H))) rfl call_tuple_of) rfl B.tuple bt_tuple (pa_cons (pe_slice (slK (K := K) rSlL rfl sl_list) (pv 4) (po_some (pe_ix (ixK (K := K) rIxT rfl ix_tup) (pv 1) pe_int (fun _ _ => rfl))) po_none) pa_nil)) (pa_cons (pe_callTy (crK (K := K) (fun K xs H Q => ∃ p ys, xs = [.ref p] ∧ ((SqL K H p ys ∧ ∀ l, H l = none → Q (.ref l) (upd H l (.tup ys))) ∨ (SqT K H p ys ∧ Q (.ref p) H))) rfl call_tuple_of) rfl B.tuple bt_tuple (pa_cons (pe_slice (slK (K := K) rSlL rfl sl_list) (pv 4) po_none (po_some (pe_ix (ixK (K := K) rIxT rfl ix_tup) (pv 1) pe_int (fun _ _ => rfl)))) pa_nil)) pa_nil))))))))), fun d =>
    (sw_seq (sw_set (xw_op os_ixL (EvFW.s (EvF.w (xf_lst (xa_cons (xs_int 3) (xa_cons (xs_int 12) (xa_cons (xs_int 0) xa_nil)))))) (xw_draw (W := WNextW) (i := 0) (wa_cons (EvS.w (xs_int 3)) wa_nil))) (tg_name 2))
      (sw_seq (StP.w (cl := fun _ => 0) (E := E0) (ss_set (xs_op os_add (EvS.t (xs_op os_ixT (EvS.t (xs_var 1)) (EvS.t (xs_int 0)))) (EvS.t (xs_cb cs_len (xt_cons (EvS.t (xs_op os_ixT (EvS.t (xs_var 1)) (EvS.t (xs_int 1)))) xt_nil)))) (tg_name 3)))
      (sw_seq (sw_set (EvFW.s (xfw_lc (vs := [5]) (wi_rng (EvS.t (xs_var 3))) (tg_name 5) tt_yes (xw_draw (W := WNextW) (i := 0) (wa_cons (EvS.w (xs_op os_add (EvS.t (xs_var 2)) (EvS.t (xs_int 1)))) wa_nil)))) (tg_name 4))
      (sw_seq (sw_if (tt_test (EvS.t (xs_op os_eq (EvS.t (xs_var 2)) (EvS.t (xs_int 0))))) (sw_set (EvFW.s (xfw_lc (vs := [5]) (wi_rng (EvS.t (xs_var 3))) (tg_name 5) tt_yes (xw_draw (W := Pb.w__law_amount) (i := 0) wa_nil))) (tg_name 4)) (StP.w (cl := fun _ => 0) (E := E0) ss_nil))
      (StP.w (cl := fun _ => 0) (E := E0) (ss_ret (xs_tup (xa_cons (xs_cb cs_tupOf (xt_cons (EvS.t (EvF.s (xf_sl (EvS.t (xs_var 4)) (xo_some (EvS.t (xs_op os_ixT (EvS.t (xs_var 1)) (EvS.t (xs_int 0))))) xo_none))) xt_nil)) (xa_cons (xs_cb cs_tupOf (xt_cons (EvS.t (EvF.s (xf_sl (EvS.t (xs_var 4)) xo_none (xo_some (EvS.t (xs_op os_ixT (EvS.t (xs_var 1)) (EvS.t (xs_int 0)))))))) xt_nil)) xa_nil)))))))))⟩
abbrev s__law_one : Stmt := topS 20
theorem sc__law_one : FnScope ["_law_deck_here", "_law_some"] ["_law_deck_here", "_law_some"] (defScope s__law_one) := ⟨rfl, rfl, rfl, by decide +kernel, rfl, by decide +kernel, by decide +kernel⟩
set_option maxHeartbeats 4000000 in
theorem ok__law_one {f : Addr} {fd : FuncData} (F : Fun K "_law_one" "_law_one" s__law_one f fd) (B : Bx mg) (c__law_next : Cl P w K mg base 1 "_law_next" ["_law_deck_here", "_law_many"] (spW K WNextW)) :
    FnOk P w K mg base CX0 2 f fd ["_law_deck_here", "_law_some"] (spW K Pb.w__law_one) := fn_draw F sc__law_one fun cdv A outer s H E hr => by
  have nd := sc__law_one.nd
  exact ⟨_, (pss_one (ps_ret (pe_ix (ixK (K := K) rIxL rfl ix_list) (pv 1) (pe_k c__law_next hr (by decide) rfl (pa_cons (pv 0) (pa_cons (pe_callB (crK (K := K) (fun K xs H Q => ∃ p ys, xs = [.ref p] ∧ (SqL K H p ys ∨ SqT K H p ys) ∧ Q (.int ys.length) H) rfl call_len_seq) rfl B.len bt_len (pa_cons (pv 1) pa_nil)) pa_nil))) (fun _ _ => rfl)))), fun d =>
    (sw_ret (xw_op os_ixL (EvS.w (xs_var 1)) (xw_draw (W := WNextW) (i := 0) (wa_cons (EvS.w (xs_cb cs_len (xt_cons (EvS.t (xs_var 1)) xt_nil))) wa_nil))))⟩
abbrev s__law_nested : Stmt := topS 39
theorem sc__law_nested : FnScope ["_law_deck_here", "_law_table_here", "_law_rest", "_law_found", "_law_some", "_law_demand"] ["_law_deck_here", "_law_table_here"] (defScope s__law_nested) := ⟨rfl, rfl, rfl, by decide +kernel, rfl, by decide +kernel, by decide +kernel⟩
set_option maxHeartbeats 4000000 in
theorem ok__law_nested {f : Addr} {fd : FuncData} (F : Fun K "_law_nested" "_law_nested" s__law_nested f fd) (B : Bx mg) (c__law_is_simple : Cl P w K mg base 1 "_law_is_simple" ["_law_table_here", "_law_rest", "_law_demand"] (spD K (RF Pb.q__law_is_simple))) (c__law_one : Cl P w K mg base 2 "_law_one" ["_law_deck_here", "_law_some"] (spW K Pb.w__law_one)) :
    FnOk P w K mg base CX0 3 f fd ["_law_deck_here", "_law_table_here"] (spW K Pb.w__law_nested) := fn_draw F sc__law_nested fun cdv A outer s H E hr => by
  have nd := sc__law_nested.nd
  exact ⟨_, (pss_cons (ps_asg (pe_tup (pa_cons (pe_listRg rfl rfl B.list (prg_1 rfl B.range (pe_ix (ixK (K := K) rIxT rfl ix_tup) (pv 1) pe_int (fun _ _ => rfl)))) (pa_cons (pe_lst pa_nil) pa_nil))) (pg_tupK (K := K) (n := 2) rfl rfl (pgs_cons (pg_name (i := 2) nd rfl (Or.inr rfl)) (pgs_cons (pg_name (i := 3) nd rfl (Or.inl rfl)) pgs_nil))))
      (pss_cons (ps_while PassesOwn.never (pt_cmpR (opK (K := K) rNe0 rfl (op_ne0 hr.units)) (pv 2) (pe_lst pa_nil) (nomark _)) (pss_cons (ps_setLc (i := 4) (own := [("_law_demand", 5)]) rfl nd rfl rfl (sw_true rfl rfl rfl (by decide +kernel)) (piK (K := K) (fun K => iList K _) rfl (pi_list (pv 2))) (blkOk_by (own := [("_law_demand", 5)]) (N := ["_law_deck_here", "_law_table_here", "_law_rest", "_law_found", "_law_some", "_law_demand"]) (sc := defScope s__law_nested) (by decide +kernel)) (fun _ _ _ _ _ => (pg_name (i := 5) nd rfl (Or.inl rfl))) (fun _ _ _ _ _ => pts_one (pt_val (pe_k c__law_is_simple hr (by decide) rfl (pa_cons (pv 1) (pa_cons (pv 2) (pa_cons (pv 5) pa_nil)))))) (fun _ _ _ _ _ => (pv 5)))
      (pss_cons (ps_if (pt_cmpR (opK (K := K) rEq0 rfl (op_eq0 hr.units)) (pv 4) (pe_lst pa_nil) (nomark _)) (pss_one (ps_ret (pe_tup pa_nil))) pss_nil)
      (pss_cons (ps_expr (pe_bmK (K := K) rfl (pe_bm PySem.F.plainAttrs_list PySem.F.slot_list_append PySem.F.type_list_append mt_append (pv 3) (pa_cons (pe_k c__law_one hr (by decide) rfl (pa_cons (pv 0) (pa_cons (pv 4) pa_nil))) pa_nil))))
      (pss_one (ps_expr (pe_bmK (K := K) rfl (pe_bm PySem.F.plainAttrs_list PySem.F.slot_list_remove PySem.F.type_list_remove mt_remove (pv 2) (pa_cons (pe_ix (ixK (K := K) rIxL rfl ix_list) (pv 3) (pe_un un_neg pe_int) (fun _ _ => rfl)) pa_nil)))))))))
      (pss_one (ps_ret (pe_callTy (crK (K := K) (fun K xs H Q => ∃ p ys, xs = [.ref p] ∧ ((SqL K H p ys ∧ ∀ l, H l = none → Q (.ref l) (upd H l (.tup ys))) ∨ (SqT K H p ys ∧ Q (.ref p) H))) rfl call_tuple_of) rfl B.tuple bt_tuple (pa_cons (pv 3) pa_nil)))))), fun d =>
    (sw_seq (StP.w (cl := fun _ => 0) (E := E0) (ss_tupOO (i := 2) (j := 3) (xf_rg (EvS.t (xs_op os_ixT (EvS.t (xs_var 1)) (EvS.t (xs_int 0))))) (xf_lst xa_nil)))
      (sw_seq (sw_while (n := 20) (tt_test (EvS.t (xs_op os_ne0 (EvLi.t (xl_own 2)) (EvS.t (EvF.s (xf_lst xa_nil)))))) (sw_seq (StP.w (cl := fun _ => 0) (E := E0) (ss_set (EvF.s (xf_bor (i := 2) (xf_lc (vs := [5]) (wi_lst (xs_var 2)) (tg_name 5) (tt_B (EvS.t (xs_call (g := Pb.q__law_is_simple) (xa_cons (xs_var 1) (xa_cons (xs_var 2) (xa_cons (xs_var 5) xa_nil)))))) (xs_var 5)))) (tg_name 4)))
      (sw_seq (StP.w (cl := fun _ => 0) (E := E0) (ss_if (tt_test (EvS.t (xs_op os_eq0 (EvS.t (xs_var 4)) (EvS.t (EvF.s (xf_lst xa_nil)))))) (ss_ret (xs_tup xa_nil)) ss_nil))
      (sw_seq (sw_app (i := 3) (xw_draw (W := Pb.w__law_one) (i := 0) (wa_cons (EvS.w (xs_var 4)) wa_nil)))
      (StP.w (cl := fun _ => 0) (E := E0) (ss_rem (i := 2) (EvS.t (xs_op os_ixL (EvLi.t (xl_own 3)) (EvS.t (xs_un us_neg (EvS.t (xs_int 1))))))))))))
      (StP.w (cl := fun _ => 0) (E := E0) (ss_ret (xs_cb cs_tupOf (xt_cons (EvLi.t (xl_own 3)) xt_nil))))))⟩
abbrev r_pay_along : List PyData → Option Out := Pb.r_pay_along
abbrev sx_pay_along : Stmt := topS 16
theorem scx_pay_along : FnScope ["table", "prices", "penalties", "order", "demands", "left", "payments", "demand", "covering", "payment", "offer"] ["table", "prices", "penalties", "order"] (defScope sx_pay_along) := ⟨rfl, rfl, rfl, by decide +kernel, rfl, by decide +kernel, by decide +kernel⟩
set_option maxHeartbeats 4000000 in
theorem okx_pay_along {f : Addr} {fd : FuncData} {cl : Str → Addr} (F : Fun K "pay_along" "pay_along" sx_pay_along f fd) (B : Bx mg) (T_NoOrder : Ec0 K mg "NoOrder" (cl "NoOrder")) (c_is_order : Cl P w K mg base 4 "is_order" ["value", "demands"] (spD K (RF Pb.q_is_order))) (c_covering_offers : Cl P w K mg base 3 "covering_offers" ["table", "demand"] (spD K (RF Pb.q_covering_offers))) :
    FnOk P w K mg base (L2.CX P w) 5 f fd ["table", "prices", "penalties", "order"] (spY K cl r_pay_along) := fn_raise F scx_pay_along fun cdv A outer s H E hr => by
  have nd := scx_pay_along.nd
  exact ⟨_, (pss_cons (ps_set (i := 4) nd rfl (Or.inl rfl) (PE.nox (pe_ix (ixK (K := K) rIxT rfl ix_tup) (pv 0) pe_int (fun _ _ => rfl))))
      (pss_cons (ps_if (PT.nox (pt_not (pt_val (pe_k c_is_order hr (by decide) rfl (pa_cons (pv 3) (pa_cons (pv 4) pa_nil)))))) (pss_one (ps_raise rfl (takes_of rfl rfl rfl rfl) (pmk_ec0 T_NoOrder rfl))) pss_nil)
      (PSs.nox (pss_cons (ps_set (i := 5) nd rfl (Or.inr rfl) (pe_callTy (crK (K := K) (fun K xs H Q => ∃ p ys, xs = [.ref p] ∧ (SqL K H p ys ∨ SqT K H p ys) ∧ ∀ l, H l = none → Q (.ref l) (upd H l (.lst ys))) rfl call_list_of) rfl B.list bt_list (pa_cons (pv 1) pa_nil)))
      (pss_cons (ps_set (i := 6) nd rfl (Or.inl rfl) (pe_op op_rep (pe_lst (pa_cons pe_int pa_nil)) (pv 4)))
      (pss_cons (ps_for PassesOwn.never rfl (piK (K := K) (fun K => iTup K _) rfl (pi_tup (pv 3))) (pg_name (i := 7) nd rfl (Or.inl rfl)) (pss_cons (ps_set (i := 8) nd rfl (Or.inl rfl) (pe_k c_covering_offers hr (by decide) rfl (pa_cons (pv 0) (pa_cons (pv 7) pa_nil))))
      (pss_cons (ps_set (i := 9) nd rfl (Or.inl rfl) (pe_callB (crK (K := K) rMin rfl (cr_min rfl)) rfl B.min bt_min (pa_cons (pe_op op_cat (pe_lst (pa_cons (pe_ix (ixK (K := K) rIxT rfl ix_tup) (pv 2) (pv 7) (fun _ _ => rfl)) pa_nil)) (pe_lc (own := [("offer", 10)]) rfl nd (piK (K := K) (fun K => iTup K _) rfl (pi_tup (pv 8))) (blkOk_by (own := [("offer", 10)]) (N := ["table", "prices", "penalties", "order", "demands", "left", "payments", "demand", "covering", "payment", "offer"]) (sc := defScope sx_pay_along) (by decide +kernel)) (fun _ _ _ _ _ => (pg_name (i := 10) nd rfl (Or.inl rfl))) (fun _ _ _ _ _ => pts_nil) (fun _ _ _ _ _ => (pe_ix (ixK (K := K) rIxL rfl ix_list) (pv 5) (pv 10) (fun _ _ => rfl))))) pa_nil)))
      (pss_cons (ps_asg (pv 9) (pg_sub (pv 6) (pv 7) set_list))
      (pss_one (ps_for PassesOwn.never rfl (piK (K := K) (fun K => iTup K _) rfl (pi_tup (pv 8))) (pg_name (i := 10) nd rfl (Or.inl rfl)) (pss_one (ps_augS (pv 5) (pv 10) (pgK (K := K) rfl) (pv 9) ip_sub set_list))))))))
      (pss_one (ps_ret (pe_callTy (crK (K := K) (fun K xs H Q => ∃ p ys, xs = [.ref p] ∧ ((SqL K H p ys ∧ ∀ l, H l = none → Q (.ref l) (upd H l (.tup ys))) ∨ (SqT K H p ys ∧ Q (.ref p) H))) rfl call_tuple_of) rfl B.tuple bt_tuple (pa_cons (pv 6) pa_nil)))))))))),
    (sx_seq (StP.x (ss_set (xs_op os_ixT (EvS.t (xs_var 0)) (EvS.t (xs_int 0))) (tg_name 4)))
      (sx_seq (sx_if (tt_not (tt_B (EvS.t (xs_call (g := Pb.q_is_order) (xa_cons (xs_var 3) (xa_cons (xs_var 4) xa_nil)))))) (sx_raise (x := "NoOrder")) (StP.x ss_nil))
      (StP.x (ss_seq (ss_own (i := 5) (xf_cb cf_listOf (xt_cons (EvS.t (xs_var 1)) xt_nil)))
      (ss_seq (ss_own (i := 6) (xf_rep (EvF.l (xf_lst (xa_cons (xs_int 0) xa_nil))) (EvS.t (xs_var 4))))
      (ss_seq (ss_for (wi_tup (xs_var 3)) (tg_name 7) (ss_seq (ss_set (xs_call (g := Pb.q_covering_offers) (xa_cons (xs_var 0) (xa_cons (xs_var 7) xa_nil))) (tg_name 8))
      (ss_seq (ss_set (xs_cb cs_min (xt_cons (EvS.t (EvF.s (xf_cat (EvF.l (xf_lst (xa_cons (xs_op os_ixT (EvS.t (xs_var 2)) (EvS.t (xs_var 7))) xa_nil))) (EvF.l (xf_lc (vs := [10]) (wi_tup (xs_var 8)) (tg_name 10) tt_yes (xs_op os_ixL (EvLi.t (xl_own 5)) (EvS.t (xs_var 10)))))))) xt_nil)) (tg_name 9))
      (ss_seq (ss_put (i := 6) (xs_var 9) (EvS.t (xs_var 7)))
      (ss_for (wi_tup (xs_var 8)) (tg_name 10) (ss_augP (i := 5) (EvS.t (xs_var 10)) (EvS.t (xs_var 9))))))))
      (ss_ret (xs_cb cs_tupOf (xt_cons (EvLi.t (xl_own 6)) xt_nil)))))))))⟩
abbrev s__law_raised : Stmt := topS 34
theorem sc__law_raised : FnScope ["_law_table_here", "_law_error", "_law_found"] ["_law_table_here", "_law_error"] (defScope s__law_raised) := ⟨rfl, rfl, rfl, by decide +kernel, rfl, by decide +kernel, by decide +kernel⟩
set_option maxHeartbeats 4000000 in
theorem ok__law_raised {f : Addr} {fd : FuncData} {cl : Str → Addr} (F : Fun K "_law_raised" "_law_raised" s__law_raised f fd) (B : Bx mg) (xc : ∀ x ∈ (["NoOrder", "NoChoice", "NotCovered", "NoOffer", "NoDemand"] : List Str), ExcC K (cl x)) (kt : ∀ x ∈ (["NoOrder", "NoChoice", "NotCovered", "NoOffer", "NoDemand"] : List Str), ∀ c ∈ (["NoOrder", "NotOrderable", "NoChoice", "NotCovered", "NoOffer", "NoDemand"] : List Str), PySem.W.kitOne K (.ref (cl x)) (.ref (cl c)) = some (decide (x = c))) (kv : ∀ x ∈ (["NoOrder", "NoChoice", "NotCovered", "NoOffer", "NoDemand"] : List Str), PySem.W.kitOne K (.ref (cl x)) (.type "ValueError") = some true) (gc_NoOrder : mg "NoOrder" = some (.ref (cl "NoOrder"))) (gc_NotOrderable : mg "NotOrderable" = some (.ref (cl "NotOrderable"))) (gc_NoChoice : mg "NoChoice" = some (.ref (cl "NoChoice"))) (gc_NotCovered : mg "NotCovered" = some (.ref (cl "NotCovered"))) (gc_NoOffer : mg "NoOffer" = some (.ref (cl "NoOffer"))) (gc_NoDemand : mg "NoDemand" = some (.ref (cl "NoDemand"))) (xc_NotCovered : ExcC K (cl "NotCovered")) (no_NotCovered : PySem.W.findIn K (.ref (cl "NotCovered")) "demand" = some none) (xc_NoOffer : ExcC K (cl "NoOffer")) (no_NoOffer : PySem.W.findIn K (.ref (cl "NoOffer")) "offer" = some none) (xc_NoDemand : ExcC K (cl "NoDemand")) (no_NoDemand : PySem.W.findIn K (.ref (cl "NoDemand")) "demand" = some none) :
    FnE P w K mg base 1 f fd ["_law_table_here", "_law_error"] (spN K cl (RN 3 2 Pb.e__law_raised)) := fn_exn F sc__law_raised (by decide) fun cdv A outer s H E p cls d x hz hf hr hc => by
  obtain ⟨a, oe⟩ := p
  have nd := sc__law_raised.nd
  have hp : (a, oe) ∈ [(a, oe)] := List.mem_singleton.mpr rfl
  exact ⟨_, (pss_cons (ps_set (i := 2) nd rfl (Or.inl rfl) (pe_lst pa_nil))
      (pss_cons (ps_if (pt_val (pe_callB (crK (K := K) (fun K => rIsP K a cls d) rfl (call_isP (by exact hp) hz hf)) rfl B.isinstance bt_isinstance (pa_cons (pv 1) (pa_cons (pe_glob (v := .ref (cl "NoOrder")) rfl gc_NoOrder rfl) pa_nil)))) (pss_one (ps_expr (pe_bmK (K := K) rfl (pe_bm PySem.F.plainAttrs_list PySem.F.slot_list_append PySem.F.type_list_append mt_append (pv 2) (pa_cons (pe_lst (pa_cons pe_str pa_nil)) pa_nil))))) pss_nil)
      (pss_cons (ps_if (pt_val (pe_callB (crK (K := K) (fun K => rIsP K a cls d) rfl (call_isP (by exact hp) hz hf)) rfl B.isinstance bt_isinstance (pa_cons (pv 1) (pa_cons (pe_glob (v := .ref (cl "NotOrderable")) rfl gc_NotOrderable rfl) pa_nil)))) pss_never pss_nil)
      (pss_cons (ps_if (pt_val (pe_callB (crK (K := K) (fun K => rIsP K a cls d) rfl (call_isP (by exact hp) hz hf)) rfl B.isinstance bt_isinstance (pa_cons (pv 1) (pa_cons (pe_glob (v := .ref (cl "NoChoice")) rfl gc_NoChoice rfl) pa_nil)))) (pss_one (ps_expr (pe_bmK (K := K) rfl (pe_bm PySem.F.plainAttrs_list PySem.F.slot_list_append PySem.F.type_list_append mt_append (pv 2) (pa_cons (pe_lst (pa_cons pe_str pa_nil)) pa_nil))))) pss_nil)
      (pss_cons (ps_if (pt_val (pe_callB (crK (K := K) (fun K => rIsP K a cls d) rfl (call_isP (by exact hp) hz hf)) rfl B.isinstance bt_isinstance (pa_cons (pv 1) (pa_cons (pe_glob (v := .ref (cl "NotCovered")) rfl gc_NotCovered rfl) pa_nil)))) (pss_one (ps_expr (pe_bmK (K := K) rfl (pe_bm PySem.F.plainAttrs_list PySem.F.slot_list_append PySem.F.type_list_append mt_append (pv 2) (pa_cons (pe_lst (pa_cons pe_str (pa_cons (pe_xfP (by exact hp) (ExcC.xf xc_NotCovered) no_NotCovered hz hf (pv 1)) pa_nil))) pa_nil))))) pss_nil)
      (pss_cons (ps_if (pt_val (pe_callB (crK (K := K) (fun K => rIsP K a cls d) rfl (call_isP (by exact hp) hz hf)) rfl B.isinstance bt_isinstance (pa_cons (pv 1) (pa_cons (pe_glob (v := .ref (cl "NoOffer")) rfl gc_NoOffer rfl) pa_nil)))) (pss_one (ps_expr (pe_bmK (K := K) rfl (pe_bm PySem.F.plainAttrs_list PySem.F.slot_list_append PySem.F.type_list_append mt_append (pv 2) (pa_cons (pe_lst (pa_cons pe_str (pa_cons (pe_xfP (by exact hp) (ExcC.xf xc_NoOffer) no_NoOffer hz hf (pv 1)) pa_nil))) pa_nil))))) pss_nil)
      (pss_cons (ps_if (pt_val (pe_callB (crK (K := K) (fun K => rIsP K a cls d) rfl (call_isP (by exact hp) hz hf)) rfl B.isinstance bt_isinstance (pa_cons (pv 1) (pa_cons (pe_glob (v := .ref (cl "NoDemand")) rfl gc_NoDemand rfl) pa_nil)))) (pss_one (ps_expr (pe_bmK (K := K) rfl (pe_bm PySem.F.plainAttrs_list PySem.F.slot_list_append PySem.F.type_list_append mt_append (pv 2) (pa_cons (pe_lst (pa_cons pe_str (pa_cons (pe_xfP (by exact hp) (ExcC.xf xc_NoDemand) no_NoDemand hz hf (pv 1)) pa_nil))) pa_nil))))) pss_nil)
      (pss_one (ps_ret (pe_ifExp (PW.pt (pw_and (pt_cmpR op_eq (pe_callB (crK (K := K) (fun K xs H Q => ∃ p ys, xs = [.ref p] ∧ (SqL K H p ys ∨ SqT K H p ys) ∧ Q (.int ys.length) H) rfl call_len_seq) rfl B.len bt_len (pa_cons (pv 2) pa_nil)) pe_int (nomark _)) (pw_and1 (pt_val (pe_callB (crK (K := K) (fun K => rIsPV K a cls d) rfl (call_isPV (by exact hp) hz hf)) rfl B.isinstance bt_isinstance (pa_cons (pv 1) (pa_cons (pe_ty rfl B.valueError bt_ValueError) pa_nil))))))) (pe_ix (ixK (K := K) rIxL rfl ix_list) (pv 2) pe_int (fun _ _ => rfl)) (pe_lst (pa_cons pe_str pa_nil)))))))))))),
    ss_inX fun hx => (ss_seq (ss_own (i := 2) (xf_lst xa_nil))
      (ss_seq (ss_if (tt_B (EvS.t (xs_isE (cl := cl) (x := x) (c := "NoOrder") hc (xc x hx) (kt x hx "NoOrder" (by decide))))) (ss_app (i := 2) (EvF.s (xf_lst (xa_cons (xs_str "NoOrder") xa_nil)))) ss_nil)
      (ss_seq (ss_if (tt_B (EvS.t (xs_isE (cl := cl) (x := x) (c := "NotOrderable") hc (xc x hx) (kt x hx "NotOrderable" (by decide))))) ss_never ss_nil)
      (ss_seq (ss_if (tt_B (EvS.t (xs_isE (cl := cl) (x := x) (c := "NoChoice") hc (xc x hx) (kt x hx "NoChoice" (by decide))))) (ss_app (i := 2) (EvF.s (xf_lst (xa_cons (xs_str "NoChoice") xa_nil)))) ss_nil)
      (ss_seq (ss_if (tt_B (EvS.t (xs_isE (cl := cl) (x := x) (c := "NotCovered") hc (xc x hx) (kt x hx "NotCovered" (by decide))))) (ss_app (i := 2) (EvF.s (xf_lst (xa_cons (xs_str "NotCovered") (xa_cons (xs_fldC (cl := cl) (x := x) (c := "NotCovered") (f := "demand") hc) xa_nil))))) ss_nil)
      (ss_seq (ss_if (tt_B (EvS.t (xs_isE (cl := cl) (x := x) (c := "NoOffer") hc (xc x hx) (kt x hx "NoOffer" (by decide))))) (ss_app (i := 2) (EvF.s (xf_lst (xa_cons (xs_str "NoOffer") (xa_cons (xs_fldC (cl := cl) (x := x) (c := "NoOffer") (f := "offer") hc) xa_nil))))) ss_nil)
      (ss_seq (ss_if (tt_B (EvS.t (xs_isE (cl := cl) (x := x) (c := "NoDemand") hc (xc x hx) (kt x hx "NoDemand" (by decide))))) (ss_app (i := 2) (EvF.s (xf_lst (xa_cons (xs_str "NoDemand") (xa_cons (xs_fldC (cl := cl) (x := x) (c := "NoDemand") (f := "demand") hc) xa_nil))))) ss_nil)
      (ss_ret (xs_ifE (tt_and (tt_test (EvS.t (xs_op os_eq (EvS.t (xs_cb cs_len (xt_cons (EvLi.t (xl_own 2)) xt_nil))) (EvS.t (xs_int 1))))) (tt_B (EvS.t (xs_isV (cl := cl) (x := x) hc (xc x hx) (kv x hx))))) (xs_op os_ixL (EvLi.t (xl_own 2)) (EvS.t (xs_int 0))) (EvF.s (xf_lst (xa_cons (xs_str "other") xa_nil))))))))))))⟩
abbrev st__law_called : Stmt := topS 35
theorem sc__law_called : FnScope ["_law_call", "_law_table_here", "_law_some", "_law_found", "_law_error"] ["_law_call", "_law_table_here", "_law_some"] (defScope st__law_called) := ⟨rfl, rfl, rfl, by decide +kernel, rfl, by decide +kernel, by decide +kernel⟩
set_option maxHeartbeats 4000000 in
theorem ok__law_called {f : Addr} {fd : FuncData} {cl : Str → Addr} {O fa : Addr} (F : Fun K "_law_called" "_law_called" st__law_called f fd) (B : Bx mg) (gB : mg "OrderError" = some (.ref O)) (em : ∀ x ∈ (["NoOrder", "NoChoice", "NotCovered", "NoOffer", "NoDemand"] : List Str), PySem.W.exmOne K (.ref (cl x)) (.ref O) = some true) (f_pay_along : mg "pay_along" = some (.ref fa)) (c_pay_along : ClX P w K mg base 5 "pay_along" ["table", "prices", "penalties", "order"] (spY K cl r_pay_along)) (c__law_raised : ClE P w K mg base 1 "_law_raised" ["_law_table_here", "_law_error"] (spNF K cl Pb.n_raised)) :
    FnOk P w K mg base CX0 6 f fd ["_law_call", "_law_table_here", "_law_some"] (spQF K fa (Pb.t__law_called r_pay_along fa)) := fn_toldF (cl := cl) F sc__law_called fun cdv A outer s H E hr => by
  have nd := sc__law_called.nd
  obtain ⟨fa2, fd2, FF, hm2, kpF, bbF⟩ := c_pay_along.ex
  cases f_pay_along.symm.trans hm2
  have hb : ∀ W : WX, StX K cl W _ (xIf (bTest (eOp fEq (eCb fLen (aCons (eVar 2) aNil)) (eInt 3))) (xSetX 3 (oLst "returned" (oCallL 0 fa r_pay_along (aCons (eVar 1) (aCons (eOp fIxL (eVar 2) (eInt 0)) (aCons (eOp fIxL (eVar 2) (eInt 1)) (aCons (eOp fIxL (eVar 2) (eInt 2)) aNil))))))) (xIf (bTest (eOp fEq (eCb fLen (aCons (eVar 2) aNil)) (eInt 2))) (xSetX 3 (oLst "returned" (oCallL 0 fa r_pay_along (aCons (eVar 1) (aCons (eOp fIxL (eVar 2) (eInt 0)) (aCons (eOp fIxL (eVar 2) (eInt 1)) aNil)))))) (xSetX 3 (oLst "returned" (oIf (bTest (eOp fEq (eCb fLen (aCons (eVar 2) aNil)) (eInt 1))) (oCallL 0 fa r_pay_along (aCons (eVar 1) (aCons (eOp fIxL (eVar 2) (eInt 0)) aNil))) (oCallL 0 fa r_pay_along (aCons (eVar 1) aNil))))))) := fun W => (sx_if (tt_test (EvS.t (xs_op os_eq (EvS.t (xs_cb cs_len (xt_cons (EvS.t (xs_var 2)) xt_nil))) (EvS.t (xs_int 3))))) (sx_setX (i := 3) (ex_lst (s := "returned") (ex_callL (i := 0) (f := fa) (g := r_pay_along) (xa_cons (xs_var 1) (xa_cons (xs_op os_ixL (EvS.t (xs_var 2)) (EvS.t (xs_int 0))) (xa_cons (xs_op os_ixL (EvS.t (xs_var 2)) (EvS.t (xs_int 1))) (xa_cons (xs_op os_ixL (EvS.t (xs_var 2)) (EvS.t (xs_int 2))) xa_nil))))))) (sx_if (tt_test (EvS.t (xs_op os_eq (EvS.t (xs_cb cs_len (xt_cons (EvS.t (xs_var 2)) xt_nil))) (EvS.t (xs_int 2))))) (sx_setX (i := 3) (ex_lst (s := "returned") (ex_callL (i := 0) (f := fa) (g := r_pay_along) (xa_cons (xs_var 1) (xa_cons (xs_op os_ixL (EvS.t (xs_var 2)) (EvS.t (xs_int 0))) (xa_cons (xs_op os_ixL (EvS.t (xs_var 2)) (EvS.t (xs_int 1))) xa_nil)))))) (sx_setX (i := 3) (ex_lst (s := "returned") (ex_if (tt_test (EvS.t (xs_op os_eq (EvS.t (xs_cb cs_len (xt_cons (EvS.t (xs_var 2)) xt_nil))) (EvS.t (xs_int 1))))) (ex_callL (i := 0) (f := fa) (g := r_pay_along) (xa_cons (xs_var 1) (xa_cons (xs_op os_ixL (EvS.t (xs_var 2)) (EvS.t (xs_int 0))) xa_nil))) (ex_callL (i := 0) (f := fa) (g := r_pay_along) (xa_cons (xs_var 1) xa_nil)))))))
  have hh : ∀ (a : Addr) (cls : Value) (d : Option Addr), ∀ x ∈ (["NoOrder", "NoChoice", "NotCovered", "NoOffer", "NoDemand"] : List Str), cls = .ref (cl x) → StP K cl E0 _ (sSet (gN 3) (eKE1 Pb.n_raised a d 4 x (eVar 1))) := fun a cls d x hx hc => (ss_set (xs_kE1 (g := Pb.n_raised) (i := 4) hc (xs_var 1)) (tg_name 3))
  refine ⟨_, (pss_cons (ps_set (i := 3) nd rfl (Or.inl rfl) pe_non)
      (pss_cons (ps_try_as (i := 4) (Wout := fun _ _ _ _ => False) rfl rfl nd rfl rfl ⟨rfl, by decide, Or.inl gB⟩ takes0 (fun W pn xe tk _ => (pss_one (ps_if (PT.nox (pt_cmpR op_eq (pe_callB (crK (K := K) (fun K xs H Q => ∃ p ys, xs = [.ref p] ∧ (SqL K H p ys ∨ SqT K H p ys) ∧ Q (.int ys.length) H) rfl call_len_seq) rfl B.len bt_len (pa_cons (pv 2) pa_nil)) pe_int (nomark _))) (pss_one (ps_set (i := 3) nd rfl (Or.inl rfl) (by exact (pe_lst (pa_cons pe_str (pa_cons (pe_callLS 0 FF hr (by decide) kpF bbF tk (by exact (pa_cons (pv 1) (pa_cons (pe_ix (ixK (K := K) rIxL rfl ix_list) (pv 2) pe_int (fun _ _ => rfl)) (pa_cons (pe_ix (ixK (K := K) rIxL rfl ix_list) (pv 2) pe_int (fun _ _ => rfl)) (pa_cons (pe_ix (ixK (K := K) rIxL rfl ix_list) (pv 2) pe_int (fun _ _ => rfl)) pa_nil)))))) pa_nil)))))) (pss_one (ps_if (PT.nox (pt_cmpR op_eq (pe_callB (crK (K := K) (fun K xs H Q => ∃ p ys, xs = [.ref p] ∧ (SqL K H p ys ∨ SqT K H p ys) ∧ Q (.int ys.length) H) rfl call_len_seq) rfl B.len bt_len (pa_cons (pv 2) pa_nil)) pe_int (nomark _))) (pss_one (ps_set (i := 3) nd rfl (Or.inl rfl) (by exact (pe_lst (pa_cons pe_str (pa_cons (pe_callLS 0 FF hr (by decide) kpF bbF tk (by exact (pa_cons (pv 1) (pa_cons (pe_ix (ixK (K := K) rIxL rfl ix_list) (pv 2) pe_int (fun _ _ => rfl)) (pa_cons (pe_ix (ixK (K := K) rIxL rfl ix_list) (pv 2) pe_int (fun _ _ => rfl)) pa_nil))))) pa_nil)))))) (pss_one (ps_set (i := 3) nd rfl (Or.inl rfl) (by exact (pe_lst (pa_cons pe_str (pa_cons (pe_ifExp (PT.nox (pt_cmpR op_eq (pe_callB (crK (K := K) (fun K xs H Q => ∃ p ys, xs = [.ref p] ∧ (SqL K H p ys ∨ SqT K H p ys) ∧ Q (.int ys.length) H) rfl call_len_seq) rfl B.len bt_len (pa_cons (pv 2) pa_nil)) pe_int (nomark _))) (pe_callLS 0 FF hr (by decide) kpF bbF tk (by exact (pa_cons (pv 1) (pa_cons (pe_ix (ixK (K := K) rIxL rfl ix_list) (pv 2) pe_int (fun _ _ => rfl)) pa_nil)))) (pe_callLS 0 FF hr (by decide) kpF bbF tk (by exact (pa_cons (pv 1) pa_nil)))) pa_nil))))))))))) (fun a oe cls d pn hz hf => (pss_one (ps_set (i := 3) nd rfl (Or.inl rfl) (pe_kE c__law_raised (room_h (hr.mono (by decide)) _) List.mem_cons_self hz hf rfl (by exact (pa_cons (pv 1) (pa_cons (pv 4) pa_nil))))))))
      (pss_one (ps_ret (pv 3))))), ?_⟩
  exact (sq_seq (StP.q (ss_set xs_non (tg_name 3)))
      (sq_seq (sq_try (cl := cl) (c := .ref O) (i := 4) (xs := ["NoOrder", "NoChoice", "NotCovered", "NoOffer", "NoDemand"]) em hb hh)
      (StP.q (ss_ret (xs_var 3)))))
def w_law (d : Addr) : Rho → Int → (Res → Int → Prop) → Prop :=
  (twSeq (twFor (iR (eInt 6)) (gN 2) (twSeq (twSet (gN 3) (wDraw d 1 WTable (wCons (wP (eInt 10)) (wCons (wP (eInt 10)) wNil))))
  (twSeq (twSet (gT (gC (gN 4) (gC (gN 5) g0))) (wDraw d 1 Pb.w__law_data (wCons (wP (eVar 3)) wNil)))
  (twSeq (twSet (gN 6) (wDraw d 1 WShuf (wCons (wP (eOp fIxT (eVar 3) (eInt 0))) wNil)))
  (twSeq (twOwn 7 (wfLst (wCons (wP (eVar 6)) (wCons (wDraw d 1 WShuf (wCons (wP (eOp fIxT (eVar 3) (eInt 0))) wNil)) (wCons (wDraw d 1 Pb.w__law_nested (wCons (wP (eVar 3)) wNil)) (wCons (wP (eSlT (eVar 6) oNone (oSome (eUn fNeg (eInt 1))))) (wCons (wP (eOp fCat (eVar 6) (eTup (aCons (eInt 0) aNil)))) (wCons (wL (wfP (lCb fListOf (aCons (eVar 6) aNil)))) wNil))))))))
  (twSeq (twOwn 7 (wfCat (wfP (lOwn 7)) (wfLst (wCons (wDraw d 1 (WBentG 4) (wCons (wP (eVar 6)) (wCons (wP (eInt 2)) wNil))) (wCons (wDraw d 1 (WBentG 4) (wCons (wP (eVar 6)) (wCons (wP (eInt 2)) wNil))) (wCons (wDraw d 1 WOdd wNil) wNil))))))
  (twSeq (twP (sApp 7 (eCb fTupOf (aCons (eL (lLc [12] (iT (eVar 6)) (gN 12) bYes (eIf (bTest (eOp fEq (eVar 12) (eInt 1))) (eBl true) (eVar 12)))) aNil))))
  (twFrz 7 (twP (sFor (iL (eVar 7)) (gN 8) (sSeq (sSet (gN 9) (eCb fReprS (aCons (eL (lLst (aCons (eVar 3) (aCons (eVar 4) (aCons (eVar 5) (aCons (eVar 8) aNil)))))) aNil)))
  (sSeq (sSet (gN 10) (eL (lLst (aCons (eStr "NoOrder") aNil))))
  (sSeq (sIf (bTest (eCb Pb.q__law_is_order (aCons (eVar 3) (aCons (eVar 8) aNil)))) (sSet (gN 10) (eL (lLst (aCons (eStr "returned") (aCons (eCb Pb.q__law_payments (aCons (eVar 3) (aCons (eVar 4) (aCons (eVar 5) (aCons (eVar 8) aNil))))) aNil))))) sNil)
  (sSeq (sFor (iR (eInt 2)) (gN 11) (sIf (bNot (bTest (eCb (fSame 3) (aCons (eCb (fCalled r_pay_along) (aCons (eVar 3) (aCons (eL (lLst (aCons (eVar 4) (aCons (eVar 5) (aCons (eVar 8) aNil))))) aNil))) (aCons (eVar 10) aNil))))) (sRet (eBl false)) sNil))
  (sIf (bTest (eOp fNe (eCb fReprS (aCons (eL (lLst (aCons (eVar 3) (aCons (eVar 4) (aCons (eVar 5) (aCons (eVar 8) aNil)))))) aNil)) (eVar 9))) (sRet (eBl false)) sNil)))))))))))))))
  (twP (sRet (eBl true))))
abbrev s_law : Stmt := topS 40
theorem sc_law : FnScope ["_law_script", "_law_deck_here", "_law_turn", "_law_table_here", "_law_prices", "_law_penalties", "_law_order", "_law_some", "_law_value", "_law_kept", "_law_due", "_law_again", "_law_demand"] ["_law_script"] (defScope s_law) := ⟨rfl, rfl, rfl, by decide +kernel, rfl, by decide +kernel, by decide +kernel⟩
set_option maxHeartbeats 4000000 in
theorem ok_law {f : Addr} {fd : FuncData} (F : Fun K "law" "law" s_law f fd) (B : Bx mg) (hb : ∃ mm, base.Ns sysModules mm) (c__law_deck : Cl P w K mg base 1 "_law_deck" ["_law_script"] (spDeck K)) (c__law_table : Cl P w K mg base 4 "_law_table" ["_law_deck_here", "_law_demands", "_law_offers"] (spW K WTable)) (c__law_data : Cl P w K mg base 3 "_law_data" ["_law_deck_here", "_law_table_here"] (spW K Pb.w__law_data)) (c__law_shuffled : Cl P w K mg base 2 "_law_shuffled" ["_law_deck_here", "_law_count"] (spW K WShuf)) (c__law_nested : Cl P w K mg base 3 "_law_nested" ["_law_deck_here", "_law_table_here"] (spW K Pb.w__law_nested)) (c__law_bent : Cl P w K mg base 6 "_law_bent" ["_law_deck_here", "_law_thing", "_law_deep"] (spW K (WBentG 4))) (c__law_odd : Cl P w K mg base 2 "_law_odd" ["_law_deck_here"] (spW K WOdd)) (c__law_is_order : Cl P w K mg base 2 "_law_is_order" ["_law_table_here", "_law_thing"] (spD K (RF Pb.q__law_is_order))) (c__law_payments : Cl P w K mg base 1 "_law_payments" ["_law_table_here", "_law_prices", "_law_penalties", "_law_order"] (spD K (RF Pb.q__law_payments))) (c__law_same : Cl P w K mg base 4 "_law_same" ["_law_found", "_law_due"] (spD K (RF (fSame 3)))) {fa : Addr} (f_pay_along : mg "pay_along" = some (.ref fa)) (c__law_called : Cl P w K mg base 6 "_law_called" ["_law_call", "_law_table_here", "_law_some"] (spDF K fa (fCalled r_pay_along)))
    (hP : ∀ d, w_law d (rhoL 13 d) 0 fun r _ => r = .rt (.bool true)) : RunG P w K mg base 7 f fd ["_law_script"] (spLaw K) := fn_law F sc_law (by decide) (fun cdv A fr t H hg hr => by
  have nd := sc_law.nd
  exact ⟨_, (pss_cons (ps_set (i := 1) nd rfl (Or.inl rfl) (pe_k c__law_deck hr (by decide) rfl (pa_cons (pv 0) pa_nil)))
      (pss_cons (ps_for PassesOwn.never rfl (pi_range1 rfl B.range (pa_cons pe_int pa_nil)) (pg_name (i := 2) nd rfl (Or.inl rfl)) (pss_cons (ps_set (i := 3) nd rfl (Or.inl rfl) (pe_k c__law_table hr (by decide) rfl (pa_cons (pv 1) (pa_cons pe_int (pa_cons pe_int pa_nil)))))
      (pss_cons (ps_asg (pe_k c__law_data hr (by decide) rfl (pa_cons (pv 1) (pa_cons (pv 3) pa_nil))) (pg_tupK (K := K) (n := 2) rfl rfl (pgs_cons (pg_name (i := 4) nd rfl (Or.inl rfl)) (pgs_cons (pg_name (i := 5) nd rfl (Or.inl rfl)) pgs_nil))))
      (pss_cons (ps_set (i := 6) nd rfl (Or.inl rfl) (pe_k c__law_shuffled hr (by decide) rfl (pa_cons (pv 1) (pa_cons (pe_ix (ixK (K := K) rIxT rfl ix_tup) (pv 3) pe_int (fun _ _ => rfl)) pa_nil))))
      (pss_cons (ps_set (i := 7) nd rfl (Or.inl rfl) (pe_lst (pa_cons (pv 6) (pa_cons (pe_k c__law_shuffled hr (by decide) rfl (pa_cons (pv 1) (pa_cons (pe_ix (ixK (K := K) rIxT rfl ix_tup) (pv 3) pe_int (fun _ _ => rfl)) pa_nil))) (pa_cons (pe_k c__law_nested hr (by decide) rfl (pa_cons (pv 1) (pa_cons (pv 3) pa_nil))) (pa_cons (pe_slice (slK (K := K) rSlA rfl sl_tupA) (pv 6) po_none (po_some (pe_un un_neg pe_int))) (pa_cons (pe_op (opK (K := K) rCatA rfl op_catA) (pv 6) (pe_tup (pa_cons pe_int pa_nil))) (pa_cons (pe_callTy (crK (K := K) (fun K xs H Q => ∃ p ys, xs = [.ref p] ∧ (SqL K H p ys ∨ SqT K H p ys) ∧ ∀ l, H l = none → Q (.ref l) (upd H l (.lst ys))) rfl call_list_of) rfl B.list bt_list (pa_cons (pv 6) pa_nil)) pa_nil))))))))
      (pss_cons (ps_set (i := 7) nd rfl (Or.inl rfl) (pe_op op_cat (pv 7) (pe_lst (pa_cons (pe_k c__law_bent hr (by decide) rfl (pa_cons (pv 1) (pa_cons (pv 6) (pa_cons pe_int pa_nil)))) (pa_cons (pe_k c__law_bent hr (by decide) rfl (pa_cons (pv 1) (pa_cons (pv 6) (pa_cons pe_int pa_nil)))) (pa_cons (pe_k c__law_odd hr (by decide) rfl (pa_cons (pv 1) pa_nil)) pa_nil))))))
      (pss_cons (ps_expr (pe_bmK (K := K) rfl (pe_bm PySem.F.plainAttrs_list PySem.F.slot_list_append PySem.F.type_list_append mt_append (pv 7) (pa_cons (pe_callTy (crK (K := K) (fun K xs H Q => ∃ p ys, xs = [.ref p] ∧ ((SqL K H p ys ∧ ∀ l, H l = none → Q (.ref l) (upd H l (.tup ys))) ∨ (SqT K H p ys ∧ Q (.ref p) H))) rfl call_tuple_of) rfl B.tuple bt_tuple (pa_cons (pe_lc (own := [("_law_demand", 12)]) rfl nd (piK (K := K) (fun K => iTup K _) rfl (pi_tup (pv 6))) (blkOk_by (own := [("_law_demand", 12)]) (N := ["_law_script", "_law_deck_here", "_law_turn", "_law_table_here", "_law_prices", "_law_penalties", "_law_order", "_law_some", "_law_value", "_law_kept", "_law_due", "_law_again", "_law_demand"]) (sc := defScope s_law) (by decide +kernel)) (fun _ _ _ _ _ => (pg_name (i := 12) nd rfl (Or.inl rfl))) (fun _ _ _ _ _ => pts_nil) (fun _ _ _ _ _ => (pe_ifExp (pt_cmpR op_eq (pv 12) pe_int (nomark _)) pe_bl (pv 12)))) pa_nil)) pa_nil))))
      (pss_one (ps_for PassesOwn.never rfl (piK (K := K) (fun K => iList K _) rfl (pi_list (pv 7))) (pg_name (i := 8) nd rfl (Or.inl rfl)) (pss_cons (ps_set (i := 9) nd rfl (Or.inl rfl) (pe_callB (crK (K := K) rReprS rfl (call_reprS hg hr.units hb)) rfl B.repr bt_repr (pa_cons (pe_lst (pa_cons (pv 3) (pa_cons (pv 4) (pa_cons (pv 5) (pa_cons (pv 8) pa_nil))))) pa_nil)))
      (pss_cons (ps_set (i := 10) nd rfl (Or.inl rfl) (pe_lst (pa_cons pe_str pa_nil)))
      (pss_cons (ps_if (pt_val (pe_k c__law_is_order hr (by decide) rfl (pa_cons (pv 3) (pa_cons (pv 8) pa_nil)))) (pss_one (ps_set (i := 10) nd rfl (Or.inl rfl) (pe_lst (pa_cons pe_str (pa_cons (pe_k c__law_payments hr (by decide) rfl (pa_cons (pv 3) (pa_cons (pv 4) (pa_cons (pv 5) (pa_cons (pv 8) pa_nil))))) pa_nil))))) pss_nil)
      (pss_cons (ps_for PassesOwn.never rfl (pi_range1 rfl B.range (pa_cons pe_int pa_nil)) (pg_name (i := 11) nd rfl (Or.inl rfl)) (pss_one (ps_if (pt_not (pt_val (pe_k c__law_same hr (by decide) rfl (pa_cons (pe_k c__law_called hr (by decide) rfl (pa_cons (pe_glob (v := .ref fa) rfl f_pay_along rfl) (pa_cons (pv 3) (pa_cons (pe_lst (pa_cons (pv 4) (pa_cons (pv 5) (pa_cons (pv 8) pa_nil)))) pa_nil)))) (pa_cons (pv 10) pa_nil))))) (pss_one (ps_ret pe_bl)) pss_nil)))
      (pss_one (ps_if (pt_cmpR op_ne (pe_callB (crK (K := K) rReprS rfl (call_reprS hg hr.units hb)) rfl B.repr bt_repr (pa_cons (pe_lst (pa_cons (pv 3) (pa_cons (pv 4) (pa_cons (pv 5) (pa_cons (pv 8) pa_nil))))) pa_nil)) (pv 9) (nomark _)) (pss_one (ps_ret pe_bl)) pss_nil)))))))))))))))
      (pss_one (ps_ret pe_bl)))), fun d =>
    (sw_seq (sw_for (wi_rng (EvS.t (xs_int 6))) (tg_name 2) (sw_seq (sw_set (xw_draw (W := WTable) (i := 1) (wa_cons (EvS.w (xs_int 10)) (wa_cons (EvS.w (xs_int 10)) wa_nil))) (tg_name 3))
      (sw_seq (sw_set (xw_draw (W := Pb.w__law_data) (i := 1) (wa_cons (EvS.w (xs_var 3)) wa_nil)) (tg_tup (tgs_cons (tg_name 4) (tgs_cons (tg_name 5) tgs_nil)) (gC_len (gC_len g0_len))))
      (sw_seq (sw_set (xw_draw (W := WShuf) (i := 1) (wa_cons (EvS.w (xs_op os_ixT (EvS.t (xs_var 3)) (EvS.t (xs_int 0)))) wa_nil)) (tg_name 6))
      (sw_seq (sw_own (i := 7) (xfw_lst (wa_cons (EvS.w (xs_var 6)) (wa_cons (xw_draw (W := WShuf) (i := 1) (wa_cons (EvS.w (xs_op os_ixT (EvS.t (xs_var 3)) (EvS.t (xs_int 0)))) wa_nil)) (wa_cons (xw_draw (W := Pb.w__law_nested) (i := 1) (wa_cons (EvS.w (xs_var 3)) wa_nil)) (wa_cons (EvS.w (xs_slT (EvS.t (xs_var 6)) xo_none (xo_some (EvS.t (xs_un us_neg (EvS.t (xs_int 1))))))) (wa_cons (EvS.w (xs_op os_cat (EvS.t (xs_var 6)) (EvS.t (xs_tup (xa_cons (xs_int 0) xa_nil))))) (wa_cons (EvFW.s (EvF.w (xf_cb cf_listOf (xt_cons (EvS.t (xs_var 6)) xt_nil)))) wa_nil))))))))
      (sw_seq (sw_own (i := 7) (xfw_cat (xlw_own 7) (EvFW.l (xfw_lst (wa_cons (xw_draw (W := (WBentG 4)) (i := 1) (wa_cons (EvS.w (xs_var 6)) (wa_cons (EvS.w (xs_int 2)) wa_nil))) (wa_cons (xw_draw (W := (WBentG 4)) (i := 1) (wa_cons (EvS.w (xs_var 6)) (wa_cons (EvS.w (xs_int 2)) wa_nil))) (wa_cons (xw_draw (W := WOdd) (i := 1) wa_nil) wa_nil)))))))
      (sw_seq (StP.w (cl := fun _ => 0) (E := E0) (ss_app (i := 7) (xs_cb cs_tupOf (xt_cons (EvS.t (EvF.s (xf_lc (vs := [12]) (wi_tup (xs_var 6)) (tg_name 12) tt_yes (xs_ifE (tt_test (EvS.t (xs_op os_eq (EvS.t (xs_var 12)) (EvS.t (xs_int 1))))) (xs_bl true) (xs_var 12))))) xt_nil))))
      (sw_frz (i := 7) (StP.w (cl := fun _ => 0) (E := E0) (ss_for (wi_lst (xs_var 7)) (tg_name 8) (ss_seq (ss_set (xs_cb cs_reprS (xt_cons (EvS.t (EvF.s (xf_lst (xa_cons (xs_var 3) (xa_cons (xs_var 4) (xa_cons (xs_var 5) (xa_cons (xs_var 8) xa_nil))))))) xt_nil)) (tg_name 9))
      (ss_seq (ss_set (EvF.s (xf_lst (xa_cons (xs_str "NoOrder") xa_nil))) (tg_name 10))
      (ss_seq (ss_if (tt_B (EvS.t (xs_call (g := Pb.q__law_is_order) (xa_cons (xs_var 3) (xa_cons (xs_var 8) xa_nil))))) (ss_set (EvF.s (xf_lst (xa_cons (xs_str "returned") (xa_cons (xs_call (g := Pb.q__law_payments) (xa_cons (xs_var 3) (xa_cons (xs_var 4) (xa_cons (xs_var 5) (xa_cons (xs_var 8) xa_nil))))) xa_nil)))) (tg_name 10)) ss_nil)
      (ss_seq (ss_for (wi_rng (EvS.t (xs_int 2))) (tg_name 11) (ss_if (tt_not (tt_B (EvS.t (xs_call (g := (fSame 3)) (xa_cons (xs_callF (f := fa) (g := (fCalled r_pay_along)) (xa_cons (xs_var 3) (xa_cons (EvF.s (xf_lst (xa_cons (xs_var 4) (xa_cons (xs_var 5) (xa_cons (xs_var 8) xa_nil))))) xa_nil))) (xa_cons (xs_var 10) xa_nil)))))) (ss_ret (xs_bl false)) ss_nil))
      (ss_if (tt_test (EvS.t (xs_op os_ne (EvS.t (xs_cb cs_reprS (xt_cons (EvS.t (EvF.s (xf_lst (xa_cons (xs_var 3) (xa_cons (xs_var 4) (xa_cons (xs_var 5) (xa_cons (xs_var 8) xa_nil))))))) xt_nil))) (EvS.t (xs_var 9))))) (ss_ret (xs_bl false)) ss_nil)))))))))))))))
      (StP.w (cl := fun _ => 0) (E := E0) (ss_ret (xs_bl true))))⟩) hP
end
end L21

set_option Elab.async false
set_option linter.all false
set_option maxRecDepth 100000
namespace L21
open PySem PySem.Spec PyProof.Rows L2 Pb
abbrev rL (d : Addr) (s2 : Sl) (m : Nat) (os : List (List Int)) (ps qs : List Int) (s6 s7 s8 s9 s10 s11 : Sl) : Rho := [.no, .deck d, s2, .val (tabD m os), .val (offD ps), .val (offD qs), s6, s7, s8, s9, s10, s11, .no]
noncomputable abbrev again : Rho → Option Res := sIf (bNot (bTest (eCb (fSame 3) (aCons (eCb (fCalled r_pay_along) (aCons (eVar 3) (aCons (eL (lLst (aCons (eVar 4) (aCons (eVar 5) (aCons (eVar 8) aNil))))) aNil))) (aCons (eVar 10) aNil))))) (sRet (eBl false)) sNil
noncomputable abbrev bdy : Rho → Option Res := (sSeq (sSet (gN 9) (eCb fReprS (aCons (eL (lLst (aCons (eVar 3) (aCons (eVar 4) (aCons (eVar 5) (aCons (eVar 8) aNil)))))) aNil)))
  (sSeq (sSet (gN 10) (eL (lLst (aCons (eStr "NoOrder") aNil))))
  (sSeq (sIf (bTest (eCb Pb.q__law_is_order (aCons (eVar 3) (aCons (eVar 8) aNil)))) (sSet (gN 10) (eL (lLst (aCons (eStr "returned") (aCons (eCb Pb.q__law_payments (aCons (eVar 3) (aCons (eVar 4) (aCons (eVar 5) (aCons (eVar 8) aNil))))) aNil))))) sNil)
  (sSeq (sFor (iR (eInt 2)) (gN 11) again)
  (sIf (bTest (eOp fNe (eCb fReprS (aCons (eL (lLst (aCons (eVar 3) (aCons (eVar 4) (aCons (eVar 5) (aCons (eVar 8) aNil)))))) aNil)) (eVar 9))) (sRet (eBl false)) sNil)))))
theorem called {m : Nat} {os : List (List Int)} {ps qs : List Int} {x : PyData} : fCalled r_pay_along [tabD m os, .list [offD ps, offD qs, x]] = (Pb.r_pay_along [tabD m os, offD ps, offD qs, x]).bind fun o => match o with
    | .ret e => some (.list [.str "returned", e])
    | .exc x => n_raised x [] [tabD m os]
    | .excF x f e => n_raised x [(f, e)] [tabD m os] := by
  show (if 3 ≤ 3 then (r_pay_along [tabD m os, offD ps, offD qs, x]).bind _ else none) = _
  rw [if_pos (Nat.le_refl _)]
  rfl
theorem turn {d : Addr} {s2 : Sl} {m : Nat} {os : List (List Int)} {ps qs : List Int} {x : PyData} {s6 s7 s9 s10 s11 : Sl} (t : Tb m os) (hp : ps.length = os.length) (hq : qs.length = m) (h1 : In0 (1000000000000 : Int) ps) (h2 : In0 (1000000000000 : Int) qs) (gx : Gw 100000 10 x) :
    ∃ s9' s10' s11', bdy (rL d s2 m os ps qs s6 s7 (.val x) s9 s10 s11) = some (.nx (rL d s2 m os ps qs s6 s7 (.val x) s9' s10' s11')) := by
  have m10 := t.m10
  have ol := t.len
  have gl : Gs (.list [tabD m os, offD ps, offD qs, x]) := (gw_lst (W := 100000) (D := 10) (L := 4) (fun y hy => by
    simp only [List.mem_cons, List.not_mem_nil, or_false] at hy
    rcases hy with rfl | rfl | rfl | rfl
    · exact gw_tabl t
    · exact gw_all3 (gw_sm h1.sm (by omega))
    · exact gw_all3 (gw_sm h2.sm (by omega))
    · exact gx) (by simp)).gs
  have rT := fReprS_of gl
  have key : ∃ due : PyData, sIf (bTest (eCb Pb.q__law_is_order (aCons (eVar 3) (aCons (eVar 8) aNil)))) (sSet (gN 10) (eL (lLst (aCons (eStr "returned") (aCons (eCb Pb.q__law_payments (aCons (eVar 3) (aCons (eVar 4) (aCons (eVar 5) (aCons (eVar 8) aNil))))) aNil))))) sNil (rL d s2 m os ps qs s6 s7 (.val x) (.val (.str (PyData.list [tabD m os, offD ps, offD qs, x]).shown)) (.val (.list [.str "NoOrder"])) s11) = some (.nx (rL d s2 m os ps qs s6 s7 (.val x) (.val (.str (PyData.list [tabD m os, offD ps, offD qs, x]).shown)) (.val due) s11)) ∧
      fCalled r_pay_along [tabD m os, .list [offD ps, offD qs, x]] = some due ∧ due.depth < 3 ∧ okD due = true ∧ due.hasDict = false := by
    have lo := lawOrder (m := m) (os := os) (by omega) gx.ok
    cases hb : ordB x m with
    | true =>
      rw [hb] at lo
      obtain ⟨so, rfl, ho⟩ := ord_true.mp hb
      have pb := pay_in0 t hp hq h1 h2 (by decide) ho.1
      have pl := payL_len (m := m) (os := os) (ps := ps) (qs := qs) (so := so)
      have vp : Vd 1829 1 22 (offD (payL m os ps qs so)) := vd_off (by omega) fun i hi => by
        have := pb i hi
        have : (1000000000000 : Nat) ≤ 10 ^ 59 := by decide +kernel
        omega
      refine ⟨.list [.str "returned", offD (payL m os ps qs so)], (sIf_t (bTest_of (eCb_of (aCons_of rfl (aCons_of rfl rfl)) lo))).trans (sSet_of (eL_of (lLst_of (aCons_of rfl (aCons_of (eCb_of (aCons_of rfl (aCons_of rfl (aCons_of rfl (aCons_of rfl rfl)))) (law_pays t hp hq ho.1)) rfl)) (by simp)))), ?_, ?_, ok_ret vp.gw.ok, ?_⟩
      · rw [called, r_pay_good t hp hq ho gx.ok]
        rfl
      · have := vp.dp
        simp only [PyData.depth, PyData.depthAll]
        omega
      · simp only [PyData.hasDict, PyData.hasDictAll, offD, hasDict_ints, Bool.or_self]
    | false =>
      rw [hb] at lo
      refine ⟨.list [.str "NoOrder"], (sIf_f (bTest_of (eCb_of (aCons_of rfl (aCons_of rfl rfl)) lo))).trans rfl, ?_, ?_, ?_, rfl⟩
      · rw [called, r_pay_bad gx.ok hb]
        rfl
      · simp [PyData.depth, PyData.depthAll]
      · decide +kernel
  obtain ⟨due, k1, k2, k3, k4, k5⟩ := key
  obtain ⟨ρ', hr, s11', rfl⟩ := forR_run (B := fun e ρ => (gN 11 e ρ).bind again) (fun _ ρ => ∃ s11, ρ = rL d s2 m os ps qs s6 s7 (.val x) (.val (.str (PyData.list [tabD m os, offD ps, offD qs, x]).shown)) (.val due) s11) (by
    rintro e es ρ ⟨s11, rfl⟩
    exact ⟨_, (sIf_f (bNot_of (bTest_of (eCb_of (aCons_of (eCb_of (aCons_of rfl (aCons_of rfl rfl)) k2) (aCons_of rfl rfl)) (fSame_of k3 k4 k5))))).trans rfl, _, rfl⟩) (rngD 0 2) (rL d s2 m os ps qs s6 s7 (.val x) (.val (.str (PyData.list [tabD m os, offD ps, offD qs, x]).shown)) (.val due) s11) ⟨_, rfl⟩
  exact ⟨.val (.str (PyData.list [tabD m os, offD ps, offD qs, x]).shown), .val due, s11', (sSeq_nx (sSet_of (eCb_of (aCons_of rfl rfl) rT))).trans ((sSeq_nx (sSet_of rfl)).trans ((sSeq_nx k1).trans ((sSeq_nx (sFor_of (iR_of rfl (by decide)) hr)).trans ((sIf_f (bTest_of (eOp_of (eCb_of (aCons_of rfl rfl) rT) rfl (ne_same _)))).trans rfl))))⟩
theorem law_pure (d : Addr) : w_law d (rhoL 13 d) 0 fun r _ => r = .rt (.bool true) := by
  refine ⟨rngD 0 6, iR_of rfl (by decide), forW_ind (fun es ρ n => ∃ s2 s3 s4 s5 s6 s7 s8 s9 s10 s11 : Sl, ρ = [.no, .deck d, s2, s3, s4, s5, s6, s7, s8, s9, s10, s11, .no] ∧ n + 2000 * es.length ≤ 12000) ?_ ?_ _ _ _ ⟨_, _, _, _, _, _, _, _, _, _, rfl, by rw [rngD_len]; omega⟩⟩
  · rintro ρ n ⟨s2, s3, s4, s5, s6, s7, s8, s9, s10, s11, rfl, hn⟩
    exact ⟨_, rfl, rfl⟩
  · rintro e es ρ n ⟨s2, s3, s4, s5, s6, s7, s8, s9, s10, s11, rfl, hn⟩ Q ih
    rw [List.length_cons] at hn
    refine ⟨_, rfl, ?_⟩
    refine ⟨rfl, _, rfl, _, rfl, 10, 10, rfl, by omega, by omega, by omega, by omega, fun m os n1 m1 m10 ol oko le1 => ⟨_, rfl, ?_⟩⟩
    have t : Tb m os := ⟨m1, m10, ol, oko⟩
    refine ⟨rfl, _, rfl, data t (by omega) fun ps qs n2 hp hq h1 h2 le2 => ⟨_, rfl, ?_⟩⟩
    refine ⟨rfl, _, rfl, m, rfl, by omega, by omega, fun so n3 perm le3 => ⟨_, rfl, ?_⟩⟩
    have sm : ∀ {so : List Int}, so.Perm (upto m) → (∀ i ∈ so, i.natAbs ≤ 100) ∧ so.length ≤ 10 := fun {so} perm => ⟨fun i hi => by
      have := mem_ints.mp (perm.mem_iff.mp hi)
      omega, by rw [perm.length_eq, ints_len]; omega⟩
    have s59 := small59
    have V : ∀ {so : List Int}, (∀ i ∈ so, i.natAbs ≤ 100) → so.length ≤ 12 → Vd 1829 1 22 (offD so) := fun h l => vd_off (by omega) fun i hi => by
      have := h i hi
      omega
    obtain ⟨b1, l1⟩ := sm perm
    refine ⟨_, rfl, rfl, _, rfl, m, rfl, by omega, by omega, fun sb n4 permb le4 => ?_⟩
    obtain ⟨b2, l2⟩ := sm permb
    refine ⟨rfl, _, rfl, nestedD t (by omega) fun nn n5 hnn le5 => ?_⟩
    have bn : (∀ i ∈ nn, i.natAbs ≤ 100) ∧ nn.length ≤ 10 := by
      rcases hnn with rfl | ⟨ho, _⟩
      · exact ⟨fun _ z => absurd z List.not_mem_nil, by simp⟩
      · refine ⟨fun i hi => ?_, ?_⟩
        · have := ho.1 i hi
          omega
        · rw [ho.2.2]
          omega
    have cl := (cutG_sub so none (some (-1))).length_le
    refine ⟨offD (cutG so none (some (-1))), slT_ints (ns := so) (l := none) (h := some (-1)) rfl rfl rfl, offD (so ++ [0]), eOp_of (x := offD so) (y := offD [0]) rfl rfl (fCat_ints (by simp; omega)), so.map PyData.int, rfl, _, rfl, ?_⟩
    have v1 := V b1 (by omega)
    refine ⟨_, rfl, rfl, _, rfl, _, rfl, bentV (d := d) (deep := 2) v1 (by omega) fun e1 n6 ve1 le6 => ?_⟩
    refine ⟨rfl, _, rfl, _, rfl, bentV (d := d) (deep := 2) v1 (by omega) fun e2 n7 ve2 le7 => ?_⟩
    refine ⟨rfl, oddV (d := d) (by omega) fun o n8 vo le8 => ⟨_, rfl, _, rfl, ?_⟩⟩
    let f : PyData → PyData := fun e => if intOf e = 1 then .bool true else e
    have tr : lLc [12] (iT (eVar 6)) (gN 12) bYes (eIf (bTest (eOp fEq (eVar 12) (eInt 1))) (eBl true) (eVar 12)) [.no, .deck d, .val e, .val (tabD m os), .val (offD ps), .val (offD qs), .val (offD so), .own [offD so, offD sb, offD nn, offD (cutG so none (some (-1))), offD (so ++ [0]), .list (so.map PyData.int), e1, e2, o], s8, s9, s10, s11, .no] = some ((so.map PyData.int).map f) :=
      lLc_map (es := so.map PyData.int) f rfl (by rw [List.length_map]; omega) fun e he => by
        obtain ⟨i, hi, rfl⟩ := List.mem_map.mp he
        refine ⟨_, rfl, eIf_of (b := decide (i = 1)) (bTest_of rfl) ?_⟩
        show _ = some (if i = 1 then PyData.bool true else PyData.int i)
        by_cases z : i = 1
        · rw [if_pos (decide_eq_true z), if_pos z]
          rfl
        · rw [if_neg (by simpa using z), if_neg z]
          rfl
    refine ⟨.nx [.no, .deck d, .val e, .val (tabD m os), .val (offD ps), .val (offD qs), .val (offD so), .own [offD so, offD sb, offD nn, offD (cutG so none (some (-1))), offD (so ++ [0]), .list (so.map PyData.int), e1, e2, o, .tuple ((so.map PyData.int).map f)], s8, s9, s10, s11, .no], ?_, ?_⟩
    · exact sApp_of (i := 7) (φ := eCb fTupOf (aCons (eL (lLc [12] (iT (eVar 6)) (gN 12) bYes (eIf (bTest (eOp fEq (eVar 12) (eInt 1))) (eBl true) (eVar 12)))) aNil)) (es := [offD so, offD sb, offD nn, offD (cutG so none (some (-1))), offD (so ++ [0]), .list (so.map PyData.int), e1, e2, o]) (ρ := [.no, .deck d, .val e, .val (tabD m os), .val (offD ps), .val (offD qs), .val (offD so), .own [offD so, offD sb, offD nn, offD (cutG so none (some (-1))), offD (so ++ [0]), .list (so.map PyData.int), e1, e2, o], s8, s9, s10, s11, .no]) rfl (by simp) (eCb_of (aCons_of (eL_of tr) rfl) rfl)
    refine ⟨_, rfl, ?_⟩
    have G : ∀ x ∈ [offD so, offD sb, offD nn, offD (cutG so none (some (-1))), offD (so ++ [0]), .list (so.map PyData.int), e1, e2, o, .tuple ((so.map PyData.int).map f)], Gw 100000 10 x := by
      intro x hx
      simp only [List.mem_cons, List.not_mem_nil, or_false] at hx
      rcases hx with rfl | rfl | rfl | rfl | rfl | rfl | rfl | rfl | rfl | rfl
      · exact v1.in
      · exact (V b2 (by omega)).in
      · exact (V bn.1 (by omega)).in
      · exact (V (fun i hi => b1 i ((cutG_sub _ _ _).subset hi)) (by omega)).in
      · refine (V (fun i hi => ?_) (by rw [List.length_append]; simp; omega)).in
        rcases List.mem_append.mp hi with hi | hi
        · exact b1 i hi
        · simp only [List.mem_cons, List.not_mem_nil, or_false] at hi
          omega
      · exact (vd_ls (by omega) fun i hi => by have := b1 i hi; omega).in
      · exact ve1.in
      · exact ve2.in
      · exact vo.in
      · refine (vd_tup (W := 81) (D := 0) (L := 22) (N := 22) (fun e he => ?_) (by rw [List.length_map, List.length_map]; omega)).in
        obtain ⟨y, hy, rfl⟩ := List.mem_map.mp he
        obtain ⟨i, hi, rfl⟩ := List.mem_map.mp hy
        show Vd 81 0 22 (if i = 1 then PyData.bool true else PyData.int i)
        split
        · exact vd_bool.mono
        · exact (vd_int (by have := b1 i hi; omega)).mono
    show ∃ r, sFor (iL (eVar 7)) (gN 8) bdy (rL d (.val e) m os ps qs (.val (offD so)) (.val (.list [offD so, offD sb, offD nn, offD (cutG so none (some (-1))), offD (so ++ [0]), .list (so.map PyData.int), e1, e2, o, .tuple ((so.map PyData.int).map f)])) s8 s9 s10 s11) = some r ∧ _
    generalize [offD so, offD sb, offD nn, offD (cutG so none (some (-1))), offD (so ++ [0]), .list (so.map PyData.int), e1, e2, o, .tuple ((so.map PyData.int).map f)] = L at G
    obtain ⟨ρ', hr, s8', s9', s10', s11', rfl, _⟩ := forR_run (B := fun e ρ => (gN 8 e ρ).bind bdy) (fun es ρ => ∃ s8 s9 s10 s11, ρ = rL d (.val e) m os ps qs (.val (offD so)) (.val (.list L)) s8 s9 s10 s11 ∧ ∀ x ∈ es, Gw 100000 10 x) (by
      rintro x xs ρ ⟨s8, s9, s10, s11, rfl, hx⟩
      obtain ⟨s9', s10', s11', h⟩ := turn (d := d) (s2 := .val e) (s6 := .val (offD so)) (s7 := .val (.list L)) (s9 := s9) (s10 := s10) (s11 := s11) t hp hq h1 h2 (hx x List.mem_cons_self)
      exact ⟨_, h, _, _, _, _, rfl, fun y hy => hx y (List.mem_cons_of_mem _ hy)⟩) L (rL d (.val e) m os ps qs (.val (offD so)) (.val (.list L)) s8 s9 s10 s11) ⟨_, _, _, _, rfl, G⟩
    exact ⟨_, sFor_of rfl hr, ih _ _ ⟨_, _, _, _, _, _, _, _, _, _, rfl, by omega⟩⟩
end L21

set_option Elab.async false
set_option linter.all false
set_option maxRecDepth 100000
namespace L21
open PySem PySem.Spec PyProof.Rows L2 Pb
section
variable {P : Program} {w : World} {K : PySem.W.Frag} {mg : Str → Option Value} {base : Heap}
abbrev sDeck : Stmt := topS 18
theorem scDeck : FnScope ["_law_script", "_law_cells", "_law_cell"] ["_law_script"] (defScope sDeck) := ⟨rfl, rfl, rfl, by decide +kernel, rfl, by decide +kernel, by decide +kernel⟩
set_option maxHeartbeats 1000000 in
theorem ok_deck {f : Addr} {fd : FuncData} (F : Fun K "_law_deck" "_law_deck" sDeck f fd) (B : Bn mg) : FnOk P w K mg base CX0 1 f fd ["_law_script"] (spDeck K) := by
  refine F.ok scDeck (fun vs H Q E h => ?_) (fun cdv A outer s H vs Q E hr h => ?_)
  · obtain ⟨a, ns, rfl, _⟩ := h
    rfl
  · obtain ⟨a, ns, rfl, hS, hl, q⟩ := h
    have nd := scDeck.nd
    refine ⟨_, (pss_cons (ps_setLc (i := 1) (own := [("_law_cell", 2)]) (g := gName 2) rfl nd rfl rfl (sw_true rfl rfl rfl (by decide +kernel)) (pi_list (pv 0)) (blkOk_by (own := [("_law_cell", 2)]) (N := ["_law_script", "_law_cells", "_law_cell"]) (sc := defScope sDeck) (by decide +kernel)) (fun _ _ _ _ _ => (pg_name (i := 2) nd rfl (Or.inl rfl))) (fun _ _ _ _ _ => pts_nil) (fun _ _ _ _ _ => (pe_callB call_abs rfl B.abs bt_abs (pa_cons (pv 2) pa_nil))))
      (pss_one (ps_ret (pe_lst (pa_cons (pe_lc (own := [("_law_cell", 2)]) (g := gName 2) rfl nd (pi_list (pv 1)) (blkOk_by (own := [("_law_cell", 2)]) (N := ["_law_script", "_law_cells", "_law_cell"]) (sc := defScope sDeck) (by decide +kernel)) (fun _ _ _ _ _ => (pg_name (i := 2) nd rfl (Or.inl rfl))) (fun _ _ _ _ _ => pts_one (pt_cmpR op_ge (pv 2) (pe_op op_pow pe_int pe_int) (nomark _))) (fun _ _ _ _ _ => (pv 2))) (pa_cons (pe_op op_cat (pv 1) (pe_lst (pa_cons (pe_op op_add (pe_callB call_len_seq rfl B.len bt_len (pa_cons (pv 1) pa_nil)) pe_int) pa_nil))) (pa_cons pe_int pa_nil))))))), ?_⟩
    refine Evl.q_asgL (Evl.el_lcL (fun _ => true) (fun i => .int (if ns.getD i 0 < 0 then -(ns.getD i 0) else ns.getD i 0)) (Evl.ev_var rfl) hS (by rw [List.length_map]; omega) (fun x => rfl)
      (fun i x H1 _ _ H2 _ Q q => q H2 (Evl.Ex.refl _)) (fun i x H1 _ hx _ H2 e2 Q q => ?_)) (fun c0 H1 hp e1 h1 => ?_)
    · rw [ints_at hx]
      exact ⟨_, rfl, _, rfl, q H2 (Evl.Ex.refl _)⟩
    · rw [given_ints] at h1
      generalize hcs : ((List.range (ns.map V.int).length).filter (fun _ => true)).map (fun i => if ns.getD i 0 < 0 then -(ns.getD i 0) else ns.getD i 0) = cs at h1
      have cl : cs.length ≤ 63 := by
        rw [← hcs, List.length_map]
        refine Nat.le_trans (List.length_filter_le _ _) ?_
        rw [List.length_range, List.length_map]
        exact hl
      dsimp only [tRet, tLst, tCons]
      refine Evl.el_lcL (K := K) (a := c0) (xs := cs.map V.int) (fun i => decide ((10 : Int) ^ 18 ≤ cs.getD i 0)) (fun i => .int (cs.getD i 0)) (Evl.ev_var rfl) (SqL.of h1) (by rw [List.length_map]; omega) (fun x => by rfl)
        (fun i x H2 _ hx H3 e3 Q q => ?_) (fun i x H2 _ hx _ H3 e3 Q q => ?_) H1 (Evl.Ex.refl _) _ (fun b H2 hb e2 h2 => ?_)
      · rw [ints_at hx]
        exact ⟨_, rfl, 10, 18, rfl, rfl, ⟨by decide, by decide, by decide⟩, _, _, rfl, rfl, _, rfl, q H3 (Evl.Ex.refl _)⟩
      · rw [ints_at hx]
        exact ⟨_, rfl, q H3 (Evl.Ex.refl _)⟩
      · rw [given_ints] at h2
        have h12 := e2 _ _ h1
        refine ⟨.ref c0, rfl, .ref c0, rfl, c0, _, rfl, .inl (SqL.of h12), _, 7, rfl, rfl, sz (n := 1) (by decide), fun p np => ?_⟩
        have h13 := same_upd (o := .lst [V.int (((cs.map V.int).length : Int) + 7)]) np _ _ h12
        refine ⟨c0, p, _, _, rfl, rfl, h13, upd_same, ?_, fun c nc => ?_⟩
        · rw [List.length_map]
          exact Nat.le_of_lt (small1000 (by simp; omega))
        · refine ⟨sz (n := 3) (by decide), fun d ndd => ?_⟩
          have s1 : Same H H1 := e1
          have s2 : Same H1 H2 := e2
          have s3 : Same H2 (upd H2 p (.lst [V.int (((cs.map V.int).length : Int) + 7)])) := same_upd np
          generalize upd H2 p (.lst [V.int (((cs.map V.int).length : Int) + 7)]) = H3 at *
          have s4 : Same H3 (upd H3 c (.lst ((cs.map V.int) ++ [V.int (((cs.map V.int).length : Int) + 7)]))) := same_upd nc
          have hc4 : (upd H3 c (.lst ((cs.map V.int) ++ [V.int (((cs.map V.int).length : Int) + 7)]))) c = some (.lst ((cs ++ [((cs.map V.int).length : Int) + 7]).map V.int)) := by
            rw [upd_same, List.map_append]
            rfl
          have hb4 := s4 _ _ (s3 _ _ h2)
          have nbc : b ≠ c := fun z => by
            rw [z] at h2
            rw [s3 _ _ h2] at nc
            cases nc
          show Q (.ref d) (upd (upd H3 c (.lst ((cs.map V.int) ++ [V.int (((cs.map V.int).length : Int) + 7)]))) d (.lst [.ref b, .ref c, .int 0]))
          generalize upd H3 c (.lst ((cs.map V.int) ++ [V.int (((cs.map V.int).length : Int) + 7)])) = H4 at *
          have s14 : Same H H4 := s1.trans (s2.trans (s3.trans s4))
          have hd0 : H d = none := s14.free ndd
          have hb0 : H b = none := s1.free hb
          refine q d b c _ ⟨fun z => ?_, fun z => ?_, nbc, Int.le_refl 0, upd_same, ⟨(((List.range (cs.map V.int).length).filter fun i => decide ((10 : Int) ^ 18 ≤ cs.getD i 0)).map fun i => cs.getD i 0), ?_⟩, cs ++ [((cs.map V.int).length : Int) + 7], ?_, ?_, ?_⟩ hd0 hb0 ?_
          · rw [z, hb4] at ndd
            cases ndd
          · rw [z, hc4] at ndd
            cases ndd
          · rw [upd_ne (fun z => by rw [z, ndd] at hb4; cases hb4)]
            exact hb4
          · rw [upd_ne (fun z => by rw [z, ndd] at hc4; cases hc4)]
            exact hc4
          · simp
          · simp
            omega
          · intro x o hx
            rw [msk_ne (fun z => by rw [z, hd0] at hx; cases hx) (fun z => by rw [z, hb0] at hx; cases hx), upd_ne (fun z => by rw [z, hd0] at hx; cases hx)]
            exact s14 _ _ hx
abbrev sNext : Stmt := topS 19
theorem scNext : FnScope ["_law_deck_here", "_law_many", "_law_rest", "_law_cell", "_law_mixed"] ["_law_deck_here", "_law_many"] (defScope sNext) := ⟨rfl, rfl, rfl, by decide +kernel, rfl, by decide +kernel, by decide +kernel⟩
set_option maxHeartbeats 1000000 in
theorem ok_nextW {f : Addr} {fd : FuncData} (F : Fun K "_law_next" "_law_next" sNext f fd) (B : Bn mg) : FnOk P w K mg base CX0 1 f fd ["_law_deck_here", "_law_many"] spNextW := by
  refine F.ok scNext (fun vs H Q E h => ?_) (fun cdv A outer s H vs Q E hr h => ?_)
  · obtain ⟨d, b, c, n, m, rfl, _⟩ := h
    rfl
  · obtain ⟨d, b, c, n, m, rfl, hD, hn, m0, m1, q⟩ := h
    have nd := scNext.nd
    refine ⟨_, (pss_cons (ps_while PassesOwn.never (pt_cmpR (op_ne0 hr.units) (pe_ix ix_list (pv 0) pe_int (fun _ _ => rfl)) (pe_lst pa_nil) (nomark _)) (pss_cons (ps_set (i := 2) nd rfl (Or.inl rfl) (pe_ix ix_list (pe_ix ix_list (pv 0) pe_int (fun _ _ => rfl)) pe_int (fun _ _ => rfl)))
      (pss_cons (ps_if (pt_cmpR op_gt (pv 2) pe_int (nomark _)) (pss_cons (ps_asg (pe_op op_fdivW (pv 2) (pv 1)) (pg_sub (pe_ix ix_list (pv 0) pe_int (fun _ _ => rfl)) pe_int set_list))
      (pss_one (ps_ret (pe_op op_mod (pv 2) (pv 1))))) pss_nil)
      (pss_one (ps_expr (pe_bm PySem.F.plainAttrs_list PySem.F.slot_list_pop PySem.F.type_list_pop mt_popAt (pe_ix ix_list (pv 0) pe_int (fun _ _ => rfl)) (pa_cons pe_int pa_nil)))))))
      (pss_cons (ps_asg (pe_op op_add (pe_ix ix_list (pv 0) pe_int (fun _ _ => rfl)) pe_int) (pg_sub (pv 0) pe_int set_list))
      (pss_cons (ps_set (i := 3) nd rfl (Or.inl rfl) (pe_op op_mod (pe_ix ix_list (pe_ix ix_list (pv 0) pe_int (fun _ _ => rfl)) (pe_op op_mod (pe_ix ix_list (pv 0) pe_int (fun _ _ => rfl)) (pe_callB call_len_seq rfl B.len bt_len (pa_cons (pe_ix ix_list (pv 0) pe_int (fun _ _ => rfl)) pa_nil))) (fun _ _ => rfl)) pe_int))
      (pss_cons (ps_set (i := 4) nd rfl (Or.inl rfl) (pe_op op_add (pe_op op_add (pe_op op_mul (pv 3) (pe_op op_add pe_int (pe_op op_mul pe_int (pe_ix ix_list (pv 0) pe_int (fun _ _ => rfl))))) (pe_op op_mul (pe_op op_mul pe_int (pe_ix ix_list (pv 0) pe_int (fun _ _ => rfl))) (pe_ix ix_list (pv 0) pe_int (fun _ _ => rfl)))) pe_int))
      (pss_cons (ps_set (i := 4) nd rfl (Or.inl rfl) (pe_op op_mod (pv 4) pe_int))
      (pss_one (ps_ret (pe_op op_mod (pe_op op_fdiv (pe_op op_mod (pe_op op_mul (pv 4) (pv 4)) pe_int) pe_int) (pv 1))))))))), ?_⟩
    obtain ⟨bs, eb⟩ := hD.at_b
    refine ⟨fun k σ H1 => ∃ (bs : List Int) (y2 : Option V), σ = [some (.ref d), some (.int m), y2, none, none] ∧ bs.length = k ∧ H1 b = some (.lst (bs.map V.int)) ∧ Dk d b c n H1 ∧ Same (msk d b H) (msk d b H1),
      ⟨bs.length, bs, none, rfl, rfl, eb, hD, Same.refl _⟩, fun k σ H1 hW => ?_⟩
    obtain ⟨bs, y2, rfl, rfl, eb, hD, sm⟩ := hW
    refine ⟨.ref d, rfl, d, _, 0, .ref b, rfl, rfl, SqL.of hD.at_d, atI_nat (j := 0) rfl, Nat.zero_le _, fun p hp => ?_⟩
    have sp : Same H1 (upd H1 p (.lst [])) := same_upd hp
    have hD2 := hD.same sp
    have eb2 := sp _ _ eb
    have sm2 : Same (msk d b H) (msk d b (upd H1 p (.lst []))) := sm.trans (msk_same sp)
    refine ⟨b, p, bs.map V.int, rfl, rfl, SqL.of eb2, SqL.of upd_same, _, rfl, ?_⟩
    generalize upd H1 p (.lst []) = H2 at hD2 eb2 sm2 ⊢
    cases bs with
    | cons x r =>
      refine iteT ⟨fun σ' H' => ∃ (y2 : Option V), σ' = [some (.ref d), some (.int m), y2, none, none] ∧ H' b = some (.lst (r.map V.int)) ∧ Dk d b c n H' ∧ Same (msk d b H) (msk d b H'),
        fun σ' H' hN => ?_, ?_⟩
      · obtain ⟨y, e1, e2, e3, e4⟩ := hN
        exact ⟨r.length, Nat.lt_succ_self _, r, y, e1, rfl, e2, e3, e4⟩
      · refine ⟨.ref d, rfl, d, _, 0, .ref b, rfl, rfl, SqL.of hD2.at_d, atI_nat (j := 0) rfl, b, _, 0, .int x, rfl, rfl, SqL.of eb2, atI_nat (j := 0) rfl, ?_⟩
        refine ⟨.int x, rfl, x, 0, rfl, rfl, _, rfl, ite2 (fun e => ?_) (fun e => ?_)⟩
        · have x0 : 0 < x := of_decide_eq_true e
          refine ⟨.int x, rfl, .int m, rfl, x, m, rfl, rfl, wide_div m0 (b := 60) (by omega) (by decide) (by decide), .ref d, rfl, d, _, 0, .ref b, rfl, rfl, SqL.of hD2.at_d, atI_nat (j := 0) rfl, b, _, 0, 0, rfl, rfl, eb2, Evl.ixN_nat (j := 0) (by simp), ?_⟩
          refine ⟨.int x, rfl, .int m, rfl, x, m, rfl, rfl, m0, ?_⟩
          refine q _ n _ (Int.emod_nonneg _ (by omega)) (Int.emod_lt_of_pos _ m0) ⟨?_, by omega, ?_⟩
          · obtain ⟨x1, x2, x3, x4, x5, _, cs, x7, x8⟩ := hD2
            refine ⟨x1, x2, x3, x4, ?_, ⟨(x / m) :: r, ?_⟩, cs, ?_, x8⟩
            · rw [upd_ne x1]
              exact x5
            · exact upd_same
            · rw [upd_ne x3.symm]
              exact x7
          · rw [msk_b]
            exact sm2
        · refine ⟨.ref d, rfl, d, _, 0, .ref b, rfl, rfl, SqL.of hD2.at_d, atI_nat (j := 0) rfl, .inl ⟨rfl, _, SqL.of eb2⟩, b, _, 0, 0, .int x, rfl, rfl, eb2, by decide, by decide, seqIndex_nat (j := 0) (by simp), rfl, some (.int x), rfl, ?_, ?_, ?_⟩
          · exact upd_same
          · obtain ⟨x1, x2, x3, x4, x5, _, cs, x7, x8⟩ := hD2
            refine ⟨x1, x2, x3, x4, ?_, ⟨r, ?_⟩, cs, ?_, x8⟩
            · rw [upd_ne x1]
              exact x5
            · exact upd_same
            · rw [upd_ne x3.symm]
              exact x7
          · rw [msk_b]
            exact sm2
    | nil =>
      refine iteF ?_
      -- deck[2] = deck[2] + 1
      refine ⟨.ref d, rfl, d, _, 2, .int n, rfl, rfl, SqL.of hD2.at_d, atI_nat (j := 2) rfl, n, 1, rfl, rfl, .ref d, rfl, d, _, 2, 2, rfl, rfl, hD2.at_d, rfl, ?_⟩
      have hD3 : Dk d b c (n + 1) (upd H2 d (.lst [.ref b, .ref c, .int (n + 1)])) := by
        obtain ⟨x1, x2, x3, x4, x5, ⟨bs, x6⟩, cs, x7, x8⟩ := hD2
        refine ⟨x1, x2, x3, by omega, upd_same, ⟨bs, ?_⟩, cs, ?_, x8⟩
        · rw [upd_ne x1.symm]
          exact x6
        · rw [upd_ne x2.symm]
          exact x7
      have sm3 : Same (msk d b H) (msk d b (upd H2 d (.lst [.ref b, .ref c, .int (n + 1)]))) := by
        rw [msk_d]
        exact sm2
      show tSeq _ _ _ _ (upd H2 d (.lst [.ref b, .ref c, .int (n + 1)]))
      generalize upd H2 d (.lst [.ref b, .ref c, .int (n + 1)]) = H3 at hD3 sm3 ⊢
      have n0 := hD2.n0
      obtain ⟨cs, ec, c0, c1⟩ := hD3.at_c
      have cl : 0 < (cs.map V.int).length := by
        rw [List.length_map]
        exact List.length_pos_iff.mpr c0
      have hL : 0 < ((cs.map V.int).length : Int) := by omega
      have r0 := Int.emod_nonneg (n + 1) (show ((cs.map V.int).length : Int) ≠ 0 by omega)
      have r1 := Int.emod_lt_of_pos (n + 1) hL
      obtain ⟨j, ej⟩ : ∃ j : Nat, (n + 1) % ((cs.map V.int).length : Int) = (j : Int) := ⟨_, (Int.toNat_of_nonneg r0).symm⟩
      have hj : j < cs.length := by
        rw [ej, List.length_map] at r1
        omega
      have gj : (cs.map V.int)[j]? = some (.int cs[j]) := by
        rw [List.getElem?_map, List.getElem?_eq_getElem hj]
        rfl
      refine ⟨.ref d, rfl, d, _, 1, .ref c, rfl, rfl, SqL.of hD3.at_d, atI_nat (j := 1) rfl, .ref d, rfl, d, _, 2, .int (n + 1), rfl, rfl, SqL.of hD3.at_d, atI_nat (j := 2) rfl, .ref d, rfl, d, _, 1, .ref c, rfl, rfl, SqL.of hD3.at_d, atI_nat (j := 1) rfl,
        c, _, rfl, .inl (SqL.of ec), n + 1, _, rfl, rfl, hL, c, _, _, .int cs[j], rfl, rfl, SqL.of ec, ?_, cs[j], 2147483647, rfl, rfl, (by show (0 : Int) < 2147483647; decide), ?_⟩
      · rw [ej]
        exact atI_nat gj
      · have k0 := Int.emod_nonneg cs[j] (show (2147483647 : Int) ≠ 0 by decide)
        have k1 := Int.emod_lt_of_pos cs[j] (show (0 : Int) < 2147483647 by decide)
        show tSeq _ _ _ [some (.ref d), some (.int m), y2, some (.int (cs[j] % 2147483647)), none] _
        generalize cs[j] % 2147483647 = x at k0 k1 ⊢
        refine ⟨.int x, rfl, .ref d, rfl, d, _, 2, .int (n + 1), rfl, rfl, SqL.of hD3.at_d, atI_nat (j := 2) rfl, 69621, n + 1, rfl, rfl, .inl ⟨by decide, by decide⟩, 48271, _, rfl, rfl, x, _, rfl, rfl, .inl ⟨by omega, by omega⟩, ?_⟩
        refine ⟨.ref d, rfl, d, _, 2, .int (n + 1), rfl, rfl, SqL.of hD3.at_d, atI_nat (j := 2) rfl, 40014, n + 1, rfl, rfl, .inl ⟨by decide, by decide⟩, .ref d, rfl, d, _, 2, .int (n + 1), rfl, rfl, SqL.of hD3.at_d, atI_nat (j := 2) rfl, _, n + 1, rfl, rfl, .inr ⟨by omega, by omega⟩, _, _, rfl, rfl, _, 79, rfl, rfl, ?_⟩
        refine ⟨_, rfl, _, 2147483629, rfl, rfl, (by show (0 : Int) < 2147483629; decide), ?_⟩
        have g0 := Int.emod_nonneg (x * (48271 + 69621 * (n + 1)) + 40014 * (n + 1) * (n + 1) + 79) (show (2147483629 : Int) ≠ 0 by decide)
        have g1 := Int.emod_lt_of_pos (x * (48271 + 69621 * (n + 1)) + 40014 * (n + 1) * (n + 1) + 79) (show (0 : Int) < 2147483629 by decide)
        refine ⟨_, rfl, _, rfl, _, _, rfl, rfl, .inl ⟨Int.lt_of_lt_of_le (by decide) g0, Int.lt_trans g1 (by decide)⟩, _, 2147483587, rfl, rfl, (by show (0 : Int) < 2147483587; decide), _, 16, rfl, rfl, ⟨by decide, by decide⟩, .int m, rfl, _, m, rfl, rfl, m0, ?_⟩
        exact q _ (n + 1) _ (Int.emod_nonneg _ (by omega)) (Int.emod_lt_of_pos _ m0) ⟨hD3, Int.le_refl _, sm3⟩
abbrev sShuf : Stmt := topS 25
theorem scShuf : FnScope ["_law_deck_here", "_law_count", "_law_left", "_law_found"] ["_law_deck_here", "_law_count"] (defScope sShuf) := ⟨rfl, rfl, rfl, by decide +kernel, rfl, by decide +kernel, by decide +kernel⟩
set_option maxHeartbeats 1000000 in
theorem ok_shuf {f : Addr} {fd : FuncData} (F : Fun K "_law_shuffled" "_law_shuffled" sShuf f fd) (B : Bn mg) (c_law_next : Cl P w K mg base 1 "_law_next" ["_law_deck_here", "_law_many"] spNext) : FnOk P w K mg base CX0 2 f fd ["_law_deck_here", "_law_count"] (spShuf K) := by
  refine F.ok scShuf (fun vs H Q E h => ?_) (fun cdv A outer s H vs Q E hr h => ?_)
  · obtain ⟨d, b, c, n, m, rfl, _⟩ := h
    rfl
  · obtain ⟨d, b, c, n, m, rfl, hD, hn, hm, q⟩ := h
    have nd := scShuf.nd
    refine ⟨_, (pss_cons (ps_par (i := 2) (j := 3) rfl nd rfl rfl (by decide) rfl rfl (pa_cons (pe_listRg rfl rfl B.list (prg_1 rfl B.range (pv 1))) (pa_cons (pe_lst pa_nil) pa_nil)) (by rfl))
      (pss_cons (ps_while PassesOwn.never (pt_cmpR (op_ne0 hr.units) (pv 2) (pe_lst pa_nil) (nomark _)) (pss_one (ps_expr (pe_bm PySem.F.plainAttrs_list PySem.F.slot_list_append PySem.F.type_list_append mt_append (pv 3) (pa_cons (pe_bm PySem.F.plainAttrs_list PySem.F.slot_list_pop PySem.F.type_list_pop mt_popAt (pv 2) (pa_cons (pe_k c_law_next hr (by decide) rfl (pa_cons (pv 0) (pa_cons (pe_callB call_len_seq rfl B.len bt_len (pa_cons (pv 2) pa_nil)) pa_nil))) pa_nil)) pa_nil)))))
      (pss_one (ps_ret (pe_callTy call_tuple_of rfl B.tuple bt_tuple (pa_cons (pv 3) pa_nil)))))), ?_⟩
    refine ⟨.int m, rfl, m, rfl, RgOk.of_le (by omega) (by omega) (by omega) (by omega), fun l hl => ⟨Nat.zero_le _, fun fo hfo => ⟨.ref l, .ref fo, rfl, ?_⟩⟩⟩
    have hfo0 : H fo = none := (same_upd hl).free hfo
    have nlf : l ≠ fo := fun z => by
      rw [← z, upd_same] at hfo
      cases hfo
    have offl := hD.off hl
    have offf := hD.off hfo0
    rw [rgV_ints] at hfo ⊢
    refine ⟨fun k σ H1 => ∃ (left found : List Int) (n' : Int), σ = [some (.ref d), some (.int m), some (.ref l), some (.ref fo)] ∧ left.length = k ∧ H1 l = some (.lst (left.map V.int)) ∧ H1 fo = some (.lst (found.map V.int)) ∧
        (left ++ found).Perm (upto m) ∧ Dr d b c (n + found.length) H n' H1,
      ⟨m, upto m, [], n, rfl, ints_len m, ?_, upd_same, ?_, (((Dr.refl hD).new hl).new hfo).wide (by simp)⟩, fun k σ H1 hW => ?_⟩
    · rw [upd_ne nlf, upd_same]
    · rw [List.append_nil]
    · obtain ⟨left, found, n1, rfl, rfl, el, ef, pm, dr⟩ := hW
      refine ⟨.ref l, rfl, Nat.zero_le _, fun p hp => ⟨l, p, left.map V.int, rfl, rfl, SqL.of (same_upd hp _ _ el), SqL.of upd_same, _, rfl, ?_⟩⟩
      have el2 := same_upd (o := .lst []) hp _ _ el
      have ef2 := same_upd (o := .lst []) hp _ _ ef
      have dr2 := dr.new (o := .lst []) hp
      generalize upd H1 p (.lst []) = H2 at el2 ef2 dr2 ⊢
      have hlen : left.length + found.length = m := by
        have := pm.length_eq
        rw [List.length_append, ints_len] at this
        exact this
      cases left with
      | nil =>
        refine iteF ?_
        refine ⟨.ref fo, rfl, fo, _, rfl, .inl ⟨SqL.of ef2, fun t ht => ?_⟩⟩
        have e : found.length = m := by simpa using hlen
        rw [e] at dr2
        exact q t found n1 _ (by simpa using pm) (dr2.new ht) (SqT.of (at_msk (dr2.dk.off ht) upd_same))
      | cons x0 r0 =>
        generalize hL : x0 :: r0 = left at *
        have hpos : 0 < left.length := by
          rw [← hL]
          exact Nat.succ_pos _
        have hne : (left.map V.int).isEmpty = false := by
          rw [← hL]
          rfl
        rw [hne]
        refine iteT ⟨fun σ' H' => ∃ (left' found' : List Int) (n' : Int), σ' = [some (.ref d), some (.int m), some (.ref l), some (.ref fo)] ∧ left'.length < left.length ∧ H' l = some (.lst (left'.map V.int)) ∧ H' fo = some (.lst (found'.map V.int)) ∧
          (left' ++ found').Perm (upto m) ∧ Dr d b c (n + found'.length) H n' H', fun σ' H' hN => ?_, ?_⟩
        · obtain ⟨l', f', n', e1, e2, e3⟩ := hN
          exact ⟨l'.length, e2, l', f', n', e1, rfl, e3⟩
        · have hle := dr2.le
          refine ⟨.ref fo, rfl, .inl ⟨rfl, _, SqL.of ef2⟩, .ref l, rfl, .inl ⟨rfl, _, SqL.of el2⟩, .ref d, rfl, .ref l, rfl, l, _, rfl, .inl (SqL.of el2), d, b, c, n1, _, rfl, dr2.dk, by omega, by rw [List.length_map]; omega, by rw [List.length_map]; omega, fun v n2 H3 v0 v1 dr3 => ?_⟩
          obtain ⟨j, rfl⟩ : ∃ j : Nat, v = (j : Int) := ⟨v.toNat, by omega⟩
          have hj : j < left.length := by
            rw [List.length_map] at v1
            omega
          have el3 := dr3.at offl el2
          have ef3 := dr3.at offf ef2
          have dr4 := dr2.step dr3
          refine ⟨l, _, j, j, .int left[j], rfl, rfl, el3, by omega, by omega, seqIndex_nat (by rw [List.length_map]; exact hj), ?_, fo, found.map V.int, _, rfl, rfl, ?_, ?_, left.eraseIdx j, found ++ [left[j]], n2, rfl, ?_, ?_, ?_, ?_, ?_⟩
          · rw [List.getElem?_map, List.getElem?_eq_getElem hj]
            rfl
          · rw [upd_ne nlf.symm]
            exact ef3
          · rw [List.length_map]
            exact small1000 (by omega)
          · rw [List.length_eraseIdx_of_lt hj]
            omega
          · rw [upd_ne nlf, upd_same, map_erase]
          · rw [upd_same, List.map_append]
            rfl
          · have p1 : (left[j] :: left.eraseIdx j).Perm left := perm_erase left j hj
            refine List.Perm.trans ?_ pm
            refine List.Perm.trans ?_ (p1.append_right found)
            rw [← List.append_assoc]
            exact List.perm_append_comm.trans (by rw [List.singleton_append]; exact List.Perm.refl _)
          · refine ((dr4.put hD hl).put hD hfo0).wide ?_
            rw [List.length_append]
            simp
            omega
abbrev sInt : Stmt := topS 26
theorem scInt : FnScope ["_law_deck_here", "_law_demands", "_law_offers", "_law_order", "_law_found", "_law_k", "_law_low"] ["_law_deck_here", "_law_demands", "_law_offers"] (defScope sInt) := ⟨rfl, rfl, rfl, by decide +kernel, rfl, by decide +kernel, by decide +kernel⟩
set_option maxHeartbeats 1000000 in
theorem ok_intervals {f : Addr} {fd : FuncData} (F : Fun K "_law_intervals" "_law_intervals" sInt f fd) (B : Bn mg) (c_law_next : Cl P w K mg base 1 "_law_next" ["_law_deck_here", "_law_many"] spNext)
    (c_law_shuffled : Cl P w K mg base 2 "_law_shuffled" ["_law_deck_here", "_law_count"] (spShuf K)) : FnOk P w K mg base CX0 3 f fd ["_law_deck_here", "_law_demands", "_law_offers"] (spMk K) := by
  refine F.ok scInt (fun vs H Q E h => ?_) (fun cdv A outer s H vs Q E hr h => ?_)
  · obtain ⟨d, b, c, n, m, k, rfl, _⟩ := h
    rfl
  · obtain ⟨d, b, c, n, m, k, rfl, hD, hn, m1, m10, k10, q⟩ := h
    have nd := scInt.nd
    refine ⟨_, (pss_cons (ps_par (i := 3) (j := 4) rfl nd rfl rfl (by decide) rfl rfl (pa_cons (pe_k c_law_shuffled hr (by decide) rfl (pa_cons (pv 0) (pa_cons (pv 1) pa_nil))) (pa_cons (pe_lst pa_nil) pa_nil)) (by rfl))
      (pss_cons (ps_for PassesOwn.never rfl (pi_range1 rfl B.range (pa_cons (pv 2) pa_nil)) (pg_name (i := 5) nd rfl (Or.inl rfl)) (pss_cons (ps_set (i := 6) nd rfl (Or.inl rfl) (pe_k c_law_next hr (by decide) rfl (pa_cons (pv 0) (pa_cons (pv 1) pa_nil))))
      (pss_one (ps_expr (pe_bm PySem.F.plainAttrs_list PySem.F.slot_list_append PySem.F.type_list_append mt_append (pv 4) (pa_cons (pe_callTy call_tuple_of rfl B.tuple bt_tuple (pa_cons (pe_callB cr_sortT rfl B.sorted bt_sorted (pa_cons (pe_slice sl_tupA (pv 3) (po_some (pv 6)) (po_some (pe_op op_add (pe_op op_add (pv 6) pe_int) (pe_k c_law_next hr (by decide) rfl (pa_cons (pv 0) (pa_cons (pv 1) pa_nil)))))) pa_nil)) pa_nil)) pa_nil))))))
      (pss_one (ps_ret (pe_tup (pa_cons (pv 1) (pa_cons (pe_callTy call_tuple_of rfl B.tuple bt_tuple (pa_cons (pv 4) pa_nil)) pa_nil))))))), ?_⟩
    refine ⟨.ref d, rfl, .int m, rfl, d, b, c, n, m, rfl, hD, by omega, by omega, fun po ord n1 H1 pm dr1 hord => ⟨Nat.zero_le _, fun fo hfo => ⟨.ref po, .ref fo, rfl, ?_⟩⟩⟩
    have hD1 := dr1.dk
    have off := hD1.off hfo
    have le1 := dr1.le
    refine Evl.q_forR1 (n := (k : Int)) (Evl.ea_cons (Evl.ev_var rfl) Evl.ea_nil) (by omega) (fun i σ H2 => ∃ (y5 y6 : Option V), σ = [some (.ref d), some (.int m), some (.int k), some (.ref po), some (.ref fo), y5, y6] ∧ Fnd K d b c fo m (n1 + 2 * i) H1 i H2)
      (fun H2 e2 => ⟨none, none, rfl, [], [], n1, e2 _ _ upd_same, .nil, rfl, fun o ho => absurd ho List.not_mem_nil, (((Dr.refl hD1).new hfo).more e2).wide (by omega)⟩) ?_ ?_
    · rintro i σ H2 hi ⟨y5, y6, rfl, refs, os, n2, ef, hda, hlen, hok, dr⟩
      have le2 := dr.le
      refine ⟨.ref d, rfl, .int m, rfl, d, b, c, n2, m, rfl, dr.dk, by omega, by omega, by omega, fun v n3 H3 v0 v1 dr3 => ?_⟩
      have le3 := dr3.le
      have ef3 := dr3.at off ef
      refine s_appP (i := 4) (fun x H' => ∃ (o : List Int) (n' : Int), H' fo = some (.lst refs) ∧ Same (hs [d, b, fo] H2) (hs [d, b, fo] H') ∧ Dr d b c (n1 + 2 * i + 1 + 1) H1 n' H' ∧ OffOk m o ∧ Da K (hs [d, b, fo] H') x (offD o)) rfl ef3 (fun Q' q' => ?_) ?_
      · refine ⟨.ref po, rfl, .int v, rfl, v, rfl, .int v, rfl, v, 1, rfl, rfl, .ref d, rfl, .int m, rfl, d, b, c, n3, m, rfl, dr3.dk, by omega, by omega, by omega, fun u n4 H4 u0 u1 dr4 => ?_⟩
        have ef4 := dr4.at off ef3
        have drs4 := (dr.step dr3).step dr4
        have hord4 : SqT K H4 po (ord.map V.int) := Same.mskT (Same.tq drs4.sm hord)
        have s24 : Same (hs [d, b, fo] H2) (hs [d, b, fo] H4) := hs_msk (dr3.sm.trans dr4.sm) (by simp) (by simp)
        have fin : ∀ (H5 : Hp), Same H4 H5 → ∀ (l : Addr) (o : List Int) (H' : Hp), Same H5 H' → H5 l = none → H' l = some (.tup (o.map V.int)) → OffOk m o → Q' (.ref l) H' := fun H5 s5 l o H' s' hl hl' ho => by
          have s4' := s5.trans s'
          have x := drs4.dk.off (s5.free hl)
          have xf : l ≠ fo := fun z => by
            rw [z, s5 _ _ ef4] at hl
            cases hl
          refine q' _ _ ⟨o, n4, s4' _ _ ef4, s24.trans (hs_mono s4'), drs4.more s4', ho, da_off (SqT.of (hs_at (by simp [x.1, x.2.1, xf]) hl'))⟩
        obtain ⟨ms, ems, hms⟩ := cut_ints ord (some v) (some (v + 1 + u))
        refine ⟨v + 1, u, rfl, rfl, v + 1 + u, rfl, po, _, rfl, hord4, fun _ => ?_, fun _ p hp => ?_⟩
        · exact srt pm (List.Sublist.refl _) hord4 (fin H4 (Same.refl _))
        · rw [ems]
          exact srt pm hms (SqT.of upd_same) (fin _ (same_upd hp))
      · rintro x H' ⟨o, n', ef', sm', dr', ho, hx⟩
        refine ⟨refs, ef', ?_, _, _, rfl, Fnd.add hD1 hfo hda hlen hok sm' n' dr' (by omega) ho hx⟩
        rw [DaAll.len hda, List.length_map]
        exact small1000 (by omega)
    · rintro σ H2 ⟨y5, y6, rfl, refs, os, n2, ef, hda, hlen, hok, dr⟩
      refine ⟨.int m, rfl, .ref fo, rfl, mk_end (n := n) (dr1.step (k := 2 * k) (dr.wide (by simp))) ef (hda.mono (hs_to_msk (by simp) (by simp))) fun v H3 dr3 hv => q v os n2 H3 (dr3.wide (by omega)) (by simpa using hlen) hok hv⟩
abbrev sPart : Stmt := topS 24
theorem scPart : FnScope ["_law_deck_here", "_law_items", "_law_share", "_law_item"] ["_law_deck_here", "_law_items", "_law_share"] (defScope sPart) := ⟨rfl, rfl, rfl, by decide +kernel, rfl, by decide +kernel, by decide +kernel⟩
set_option maxHeartbeats 1000000 in
theorem ok_part {f : Addr} {fd : FuncData} (F : Fun K "_law_part" "_law_part" sPart f fd) (B : Bn mg) (c_law_next : Cl P w K mg base 1 "_law_next" ["_law_deck_here", "_law_many"] spNext) : FnOk P w K mg base CX0 2 f fd ["_law_deck_here", "_law_items", "_law_share"] (spPart K) := by
  refine F.ok scPart (fun vs H Q E h => ?_) (fun cdv A outer s H vs Q E hr h => ?_)
  · obtain ⟨d, b, c, a, n, sh, ns, rfl, _⟩ := h
    rfl
  · obtain ⟨d, b, c, a, n, sh, ns, rfl, hD, hn, hl, hS, q⟩ := h
    have nd := scPart.nd
    have turn : ∀ (D : Addr), H D = none → ∀ (i : Nat) (x : V) (H1 : Hp), (ns.map V.int)[i]? = some x →
        (∃ (ms : List Int) (n' : Int), ms.Sublist (ns.take i) ∧ Dr d b c (n + i) H n' H1 ∧ H1 D = some (.lst (ms.map V.int))) →
        tTest (tOp (rI0 fun i j => .bl (decide (j ≤ i))) (tCall spNext [] E0 (tCons (tVar 0) (tCons (tC (.int 4)) tNil))) (tVar 2)) [some (.ref d), some (.ref a), some (.int sh), some x] H1 fun bb H3 =>
          if bb = true then tVar 3 [some (.ref d), some (.ref a), some (.int sh), some x] H3 fun y H4 => ∃ acc, H4 D = some (.lst acc) ∧ acc.length < sizeLine ∧
            ∃ (ms : List Int) (n' : Int), ms.Sublist (ns.take (i + 1)) ∧ Dr d b c (n + ((i + 1 : Nat) : Int)) H n' (upd H4 D (.lst (acc ++ [y]))) ∧ (upd H4 D (.lst (acc ++ [y]))) D = some (.lst (ms.map V.int))
          else ∃ (ms : List Int) (n' : Int), ms.Sublist (ns.take (i + 1)) ∧ Dr d b c (n + ((i + 1 : Nat) : Int)) H n' H3 ∧ H3 D = some (.lst (ms.map V.int)) := by
      rintro D hDn i x H1 hx ⟨ms, n1, hms, dr, hlist⟩
      have off := hD.off hDn
      have hi : i < ns.length := by
        have := (List.getElem?_eq_some_iff.mp hx).1
        rw [List.length_map] at this
        exact this
      have etk : ns.take (i + 1) = ns.take i ++ [ns.getD i 0] := by
        rw [List.take_add_one, List.getD_eq_getElem?_getD, List.getElem?_eq_getElem hi]
        rfl
      have hle := dr.le
      refine ⟨.ref d, rfl, d, b, c, n1, 4, rfl, dr.dk, by omega, by decide, by decide, fun v n2 H2 v0 v1 dr2 => ?_⟩
      have dr3 : Dr d b c (n + ((i + 1 : Nat) : Int)) H n2 H2 := (dr.step dr2).wide (by omega)
      have hl2 : H2 D = some (.lst (ms.map V.int)) := dr2.at off hlist
      refine ⟨.int sh, rfl, v, sh, rfl, rfl, _, rfl, ite2 (fun _ => ?_) (fun _ => ?_)⟩
      · rw [ints_at hx]
        refine ⟨_, rfl, _, hl2, ?_, ms ++ [ns.getD i 0], n2, ?_, dr3.put hD hDn, ?_⟩
        · rw [List.length_map]
          have := hms.length_le
          rw [List.length_take] at this
          exact small1000 (by omega)
        · rw [etk]
          exact hms.append (List.Sublist.refl _)
        · rw [upd_same, List.map_append]
          rfl
      · exact ⟨ms, n2, by rw [etk]; exact hms.trans (List.sublist_append_left _ _), dr3, hl2⟩
    have fin : ∀ (D : Addr), H D = none → ∀ H1 : Hp, (∃ (ms : List Int) (n' : Int), ms.Sublist (ns.take (ns.map V.int).length) ∧ Dr d b c (n + ((ns.map V.int).length : Nat)) H n' H1 ∧ H1 D = some (.lst (ms.map V.int))) →
        ∃ p ys, [V.ref D] = [.ref p] ∧ ((SqL K H1 p ys ∧ ∀ l, H1 l = none → Q (.ref l) (upd H1 l (.tup ys))) ∨ (SqT K H1 p ys ∧ Q (.ref p) H1)) := by
      rintro D hDn H1 ⟨ms, n1, hms, dr, hlist⟩
      rw [List.length_map] at hms dr
      rw [List.take_length] at hms
      refine ⟨D, _, rfl, .inl ⟨SqL.of hlist, fun l hl2 => ?_⟩⟩
      exact q l ms n1 _ hms (dr.new hl2) (SqT.of (at_msk (dr.dk.off hl2) upd_same))
    rcases hS with hS | hS
    · refine ⟨_, (pss_one (ps_ret (pe_callTy call_tuple_of rfl B.tuple bt_tuple (pa_cons (pe_lc (own := [("_law_item", 3)]) (g := gName 3) rfl nd (pi_list (pv 1)) (blkOk_by (own := [("_law_item", 3)]) (N := ["_law_deck_here", "_law_items", "_law_share", "_law_item"]) (sc := defScope sPart) (by decide +kernel)) (fun _ _ _ _ _ => (pg_name (i := 3) nd rfl (Or.inl rfl))) (fun _ _ _ _ _ => pts_one (pt_cmpR op_ge (pe_k c_law_next hr (by decide) rfl (pa_cons (pv 0) (pa_cons pe_int pa_nil))) (pv 2) (nomark _))) (fun _ _ _ _ _ => (pv 3))) pa_nil)))), ?_⟩
      refine ⟨.ref a, rfl, a, rfl, ⟨_, Same.mskL hS⟩, fun D hDn => ?_⟩
      refine lc_list (K := K) (a := a) (xs := ns.map V.int) (fun i H1 => ∃ (ms : List Int) (n' : Int), ms.Sublist (ns.take i) ∧ Dr d b c (n + i) H n' H1 ∧ H1 D = some (.lst (ms.map V.int)))
        ⟨[], n, List.nil_sublist _, ((Dr.refl hD).new hDn).wide (by omega), upd_same⟩ (fun i H1 _ ⟨_, _, _, dr, _⟩ => Same.mskL (Same.seq dr.sm hS)) (fun i x H1 hx hp => ⟨rfl, turn D hDn i x H1 hx hp⟩) (fin D hDn)
    · refine ⟨_, (pss_one (ps_ret (pe_callTy call_tuple_of rfl B.tuple bt_tuple (pa_cons (pe_lc (own := [("_law_item", 3)]) (g := gName 3) rfl nd (pi_tup (pv 1)) (blkOk_by (own := [("_law_item", 3)]) (N := ["_law_deck_here", "_law_items", "_law_share", "_law_item"]) (sc := defScope sPart) (by decide +kernel)) (fun _ _ _ _ _ => (pg_name (i := 3) nd rfl (Or.inl rfl))) (fun _ _ _ _ _ => pts_one (pt_cmpR op_ge (pe_k c_law_next hr (by decide) rfl (pa_cons (pv 0) (pa_cons pe_int pa_nil))) (pv 2) (nomark _))) (fun _ _ _ _ _ => (pv 3))) pa_nil)))), ?_⟩
      refine ⟨.ref a, rfl, a, rfl, ⟨_, Same.mskT hS⟩, fun D hDn => ?_⟩
      refine lc_tup (K := K) (a := a) (xs := ns.map V.int) (fun i H1 => ∃ (ms : List Int) (n' : Int), ms.Sublist (ns.take i) ∧ Dr d b c (n + i) H n' H1 ∧ H1 D = some (.lst (ms.map V.int)))
        ⟨[], n, List.nil_sublist _, ((Dr.refl hD).new hDn).wide (by omega), upd_same⟩ (fun i H1 _ ⟨_, _, _, dr, _⟩ => Same.mskT (Same.tq dr.sm hS)) (fun i x H1 hx hp => ⟨rfl, turn D hDn i x H1 hx hp⟩) (fin D hDn)
abbrev sAr : Stmt := topS 27
theorem scAr : FnScope ["_law_deck_here", "_law_demands", "_law_offers", "_law_order", "_law_size", "_law_found", "_law_k"] ["_law_deck_here", "_law_demands", "_law_offers"] (defScope sAr) := ⟨rfl, rfl, rfl, by decide +kernel, rfl, by decide +kernel, by decide +kernel⟩
set_option maxHeartbeats 2000000 in
theorem ok_around {f : Addr} {fd : FuncData} (F : Fun K "_law_around" "_law_around" sAr f fd) (B : Bn mg) (c_law_next : Cl P w K mg base 1 "_law_next" ["_law_deck_here", "_law_many"] spNext)
    (c_law_shuffled : Cl P w K mg base 2 "_law_shuffled" ["_law_deck_here", "_law_count"] (spShuf K)) (c_law_part : Cl P w K mg base 2 "_law_part" ["_law_deck_here", "_law_items", "_law_share"] (spPart K)) : FnOk P w K mg base CX0 3 f fd ["_law_deck_here", "_law_demands", "_law_offers"] (spMk K) := by
  refine F.ok scAr (fun vs H Q E h => ?_) (fun cdv A outer s H vs Q E hr h => ?_)
  · obtain ⟨d, b, c, n, m, k, rfl, _⟩ := h
    rfl
  · obtain ⟨d, b, c, n, m, k, rfl, hD, hn, m1, m10, k10, q⟩ := h
    have nd := scAr.nd
    refine ⟨_, (pss_cons (ps_par (i := 3) (j := 4) rfl nd rfl rfl (by decide) rfl rfl (pa_cons (pe_k c_law_shuffled hr (by decide) rfl (pa_cons (pv 0) (pa_cons (pv 1) pa_nil))) (pa_cons (pe_op op_add pe_int (pe_k c_law_next hr (by decide) rfl (pa_cons (pv 0) (pa_cons pe_int pa_nil)))) pa_nil)) (by rfl))
      (pss_cons (ps_set (i := 5) nd rfl (Or.inr rfl) (pe_lst pa_nil))
      (pss_cons (ps_for PassesOwn.never rfl (pi_range1 rfl B.range (pa_cons (pv 2) pa_nil)) (pg_name (i := 6) nd rfl (Or.inl rfl)) (pss_one (ps_if (PW.pt (pw_and (pt_cmpR op_le (pv 4) (pv 1) (nomark _)) (pw_and1 (pt_cmpR op_lt (pv 6) (pv 4) (nomark _))))) (pss_one (ps_expr (pe_bm PySem.F.plainAttrs_list PySem.F.slot_list_append PySem.F.type_list_append mt_append (pv 5) (pa_cons (pe_callTy call_tuple_of rfl B.tuple bt_tuple (pa_cons (pe_callB cr_sorted rfl B.sorted bt_sorted (pa_cons (pe_op op_cat (pe_lst (pa_cons (pe_ix ix_tup (pv 3) (pv 6) (fun _ _ => rfl)) (pa_cons (pe_ix ix_tup (pv 3) (pe_op op_mod (pe_op op_add (pv 6) pe_int) (pv 4)) (fun _ _ => rfl)) pa_nil))) (pe_callTy call_list_of rfl B.list bt_list (pa_cons (pe_k c_law_part hr (by decide) rfl (pa_cons (pv 0) (pa_cons (pe_slice sl_tupA (pv 3) (po_some (pv 4)) po_none) (pa_cons pe_int pa_nil)))) pa_nil))) pa_nil)) pa_nil)) pa_nil)))) (pss_one (ps_expr (pe_bm PySem.F.plainAttrs_list PySem.F.slot_list_append PySem.F.type_list_append mt_append (pv 5) (pa_cons (pe_k c_law_part hr (by decide) rfl (pa_cons (pv 0) (pa_cons (pe_listRg rfl rfl B.list (prg_1 rfl B.range (pv 1))) (pa_cons (pe_op op_add pe_int (pe_k c_law_next hr (by decide) rfl (pa_cons (pv 0) (pa_cons pe_int pa_nil)))) pa_nil)))) pa_nil)))))))
      (pss_one (ps_ret (pe_tup (pa_cons (pv 1) (pa_cons (pe_callTy call_tuple_of rfl B.tuple bt_tuple (pa_cons (pe_lc (own := [("_law_k", 6)]) (g := gName 6) rfl nd (pi_range1 rfl B.range (pa_cons (pv 2) pa_nil)) (blkOk_by (own := [("_law_k", 6)]) (N := ["_law_deck_here", "_law_demands", "_law_offers", "_law_order", "_law_size", "_law_found", "_law_k"]) (sc := defScope sAr) (by decide +kernel)) (fun _ _ _ _ _ => (pg_name (i := 6) nd rfl (Or.inl rfl))) (fun _ _ _ _ _ => pts_nil) (fun _ _ _ _ _ => (pe_bmK (K := K) rfl (pe_bm PySem.F.plainAttrs_list PySem.F.slot_list_pop PySem.F.type_list_pop mt_popAt (pv 5) (pa_cons (pe_k c_law_next hr (by decide) rfl (pa_cons (pv 0) (pa_cons (pe_callB (call_len_seqK (K := K) rfl) rfl B.len bt_len (pa_cons (pv 5) pa_nil)) pa_nil))) pa_nil))))) pa_nil)) pa_nil)))))))), ?_⟩
    refine ⟨.ref d, rfl, .int m, rfl, d, b, c, n, m, rfl, hD, by omega, by omega, fun po ord n0 H0 pm dr0 hord0 => ⟨.ref d, rfl, d, b, c, n0, 3, rfl, dr0.dk, by have := dr0.le; omega, by decide, by decide, fun v n1 H1 v0 v1 dr01 => ⟨3, v, rfl, rfl, .ref po, .int (3 + v), rfl, ?_⟩⟩⟩
    obtain ⟨sz, hsz⟩ : ∃ sz : Nat, 3 + v = (sz : Int) := ⟨(3 + v).toNat, by omega⟩
    have sz3 : 3 ≤ sz := by omega
    have le0 := dr0.le
    have le1 := dr01.le
    have dr1 := dr0.step dr01
    have hord : SqT K (msk d b H1) po (ord.map V.int) := Same.tq dr01.sm hord0
    have hD1 := dr01.dk
    have olen : ord.length = m := by
      rw [pm.length_eq, ints_len]
    rw [hsz]
    refine ⟨Nat.zero_le _, fun fo hfo => ?_⟩
    have off := hD1.off hfo
    refine Evl.q_forR1 (n := (k : Int)) (Evl.ea_cons (Evl.ev_var rfl) Evl.ea_nil) (by omega) (fun i σ H2 => ∃ (y6 : Option V), σ = [some (.ref d), some (.int m), some (.int k), some (.ref po), some (.int sz), some (.ref fo), y6] ∧ Fnd K d b c fo m (n1 + 12 * i) H1 i H2)
      (fun H2 e2 => ⟨none, rfl, [], [], n1, e2 _ _ upd_same, .nil, rfl, fun o ho => absurd ho List.not_mem_nil, (((Dr.refl hD1).new hfo).more e2).wide (by omega)⟩) ?_ ?_
    · rintro i σ H2 hi ⟨y6, rfl, refs, os, n2, ef, hda, hlen, hok, dr⟩
      have le2 := dr.le
      have rl : refs.length = i := by
        rw [DaAll.len hda, List.length_map, hlen]
      have add : ∀ (x : V) (H' : Hp), (∃ (o : List Int) (n' : Int), H' fo = some (.lst refs) ∧ Same (hs [d, b, fo] H2) (hs [d, b, fo] H') ∧ Dr d b c (n1 + 12 * i + 12) H1 n' H' ∧ OffOk m o ∧ Da K (hs [d, b, fo] H') x (offD o)) →
          ∃ xs, H' fo = some (.lst xs) ∧ xs.length < sizeLine ∧ ∃ (y6 : Option V), [some (.ref d), some (.int m), some (.int k), some (.ref po), some (.int sz), some (.ref fo), some (.int i)] = [some (.ref d), some (.int m), some (.int k), some (.ref po), some (.int sz), some (.ref fo), y6] ∧ Fnd K d b c fo m (n1 + 12 * (i + 1 : Nat)) H1 (i + 1) (upd H' fo (.lst (xs ++ [x]))) := by
        rintro x H' ⟨o, n', ef', sm', dr', ho, hx⟩
        exact ⟨refs, ef', small1000 (by omega), _, rfl, Fnd.add hD1 hfo hda hlen hok sm' n' dr' (by omega) ho hx⟩
      have part : Ew (tCall (spPart K) [] E0 (tCons (tVar 0) (tCons (tLstRg (tRg1 (tVar 1))) (tCons (tOp (rI0 fun i j => .int (i + j)) (tC (.int 1)) (tCall spNext [] E0 (tCons (tVar 0) (tCons (tC (.int 3)) tNil)))) tNil)))) [some (.ref d), some (.int m), some (.int k), some (.ref po), some (.int sz), some (.ref fo), some (.int i)] H2
            (fun x H' => ∃ (o : List Int) (n' : Int), H' fo = some (.lst refs) ∧ Same (hs [d, b, fo] H2) (hs [d, b, fo] H') ∧ Dr d b c (n1 + 12 * i + 12) H1 n' H' ∧ OffOk m o ∧ Da K (hs [d, b, fo] H') x (offD o)) := by
        intro Q' q'
        refine ⟨.ref d, rfl, .int m, rfl, m, rfl, RgOk.of_le (by omega) (by omega) (by omega) (by omega), fun l hl => ?_⟩
        rw [rgV_ints]
        have x := dr.dk.off hl
        have dr2 := dr.new (o := .lst ((upto m).map V.int)) hl
        have ef2 := same_upd (o := .lst ((upto m).map V.int)) hl _ _ ef
        refine ⟨.ref d, rfl, d, b, c, n2, 3, rfl, dr2.dk, by omega, by decide, by decide, fun u n3 H3 u0 u1 dr3 => ⟨1, u, rfl, rfl, ?_⟩⟩
        have drs3 := dr2.step dr3
        have le3 := dr3.le
        refine ⟨d, b, c, l, n3, 1 + u, upto m, rfl, dr3.dk, by omega, by rw [ints_len]; omega, .inl (Same.seq dr3.sm (SqL.of (at_msk x upd_same))), fun p ms n4 H4 hms dr4 hp => ?_⟩
        rw [ints_len] at dr4
        have ef4 := dr4.at off (dr3.at off ef2)
        exact q' _ _ ⟨ms, n4, ef4, (hs_mono (same_upd hl)).trans (hs_msk (dr3.sm.trans dr4.sm) (by simp) (by simp)), (drs3.step dr4).wide (by omega), off_sub hms, da_off (sqT_hs hp ef4)⟩
      refine ⟨.int sz, rfl, .int m, rfl, sz, m, rfl, rfl, _, rfl, ?_⟩
      cases hb1 : decide ((sz : Int) ≤ (m : Int)) with
      | false => exact iteF (iteF (s_appP _ rfl ef part add))
      | true =>
        have szm : sz ≤ m := by
          have := of_decide_eq_true hb1
          omega
        refine iteT ⟨.int i, rfl, .int sz, rfl, i, sz, rfl, rfl, _, rfl, ?_⟩
        cases hb2 : decide ((i : Int) < (sz : Int)) with
        | false => exact iteF (s_appP _ rfl ef part add)
        | true =>
          have isz : i < sz := by
            have := of_decide_eq_true hb2
            omega
          refine iteT (s_appP _ rfl ef (fun Q' q' => ?_) add)
          have hord2 : SqT K (msk d b H2) po (ord.map V.int) := Same.tq dr.sm hord
          have il : i < ord.length := by omega
          obtain ⟨j, ej⟩ : ∃ j : Nat, j = (i + 1) % sz := ⟨_, rfl⟩
          have jl : j < ord.length := by
            have := Nat.mod_lt (i + 1) (show 0 < sz by omega)
            omega
          have ejI : ((i : Int) + 1) % (sz : Int) = (j : Int) := by
            rw [ej]
            simp
          have gi : (ord.map V.int)[i]? = some (.int ord[i]) := by
            rw [List.getElem?_map, List.getElem?_eq_getElem il]
            rfl
          have gj : (ord.map V.int)[j]? = some (.int ord[j]) := by
            rw [List.getElem?_map, List.getElem?_eq_getElem jl]
            rfl
          refine ⟨.ref po, rfl, .int i, rfl, po, _, i, .int ord[i], rfl, rfl, Same.mskT hord2, atI_nat gi, .ref po, rfl, .int i, rfl, i, 1, rfl, rfl, .int sz, rfl, _, sz, rfl, rfl, (by show (0 : Int) < sz; omega), po, _, _, .int ord[j], rfl, rfl, Same.mskT hord2, (by rw [ejI]; exact atI_nat gj), sz2, fun l1 hl1 => ?_⟩
          have x1 := dr.dk.off hl1
          have dr3 := dr.new (o := .lst [V.int ord[i], V.int ord[j]]) hl1
          have e1 : (upd H2 l1 (.lst [V.int ord[i], V.int ord[j]])) l1 = some (.lst [V.int ord[i], V.int ord[j]]) := upd_same
          have ef3 := same_upd (o := .lst [V.int ord[i], V.int ord[j]]) hl1 _ _ ef
          have sm3 : Same (hs [d, b, fo] H2) (hs [d, b, fo] (upd H2 l1 (.lst [V.int ord[i], V.int ord[j]]))) := hs_mono (same_upd hl1)
          have hord3 : SqT K (msk d b (upd H2 l1 (.lst [V.int ord[i], V.int ord[j]]))) po (ord.map V.int) := Same.tq (msk_same (same_upd hl1)) hord2
          generalize upd H2 l1 (.lst [V.int ord[i], V.int ord[j]]) = H3 at *
          refine ⟨.ref d, rfl, .ref po, rfl, .int sz, rfl, sz, rfl, ?_⟩
          dsimp only [tNoPart]
          refine slA_msk (K := K) dr3.dk hord3 fun a H4 s4 ha => ?_
          rw [cut_from (by omega)] at ha
          have dr4 := dr3.more s4
          have le4 := dr4.le
          have dlen : (ord.drop sz).length ≤ 10 := by
            rw [List.length_drop]
            omega
          refine ⟨d, b, c, a, n2, 3, ord.drop sz, rfl, dr4.dk, by omega, by omega, .inr ha, fun p ms n5 H5 hms dr5 hp => ?_⟩
          have dr45 := (dr4.step dr5).wide (k := n1 + 12 * i + 12) (by omega)
          have e5 := dr5.at x1 (s4 _ _ e1)
          have ef5 := dr5.at off (s4 _ _ ef3)
          have sm5 := (sm3.trans (hs_mono s4)).trans (hs_msk (S := [d, b, fo]) dr5.sm (by simp) (by simp))
          have mlen : ms.length ≤ 10 := Nat.le_trans hms.length_le dlen
          refine ⟨p, _, rfl, .inr (Same.mskT hp), fun l2 hl2 => ?_⟩
          have s6 : Same H5 (upd H5 l2 (.lst (ms.map V.int))) := same_upd hl2
          refine ⟨l1, l2, _, _, rfl, rfl, s6 _ _ e5, upd_same, ?_, fun l3 hl3 => ?_⟩
          · rw [List.length_map]
            exact Pb.sz (by simp; omega)
          · have e7 : (upd (upd H5 l2 (.lst (ms.map V.int))) l3 (.lst ([V.int ord[i], V.int ord[j]] ++ ms.map V.int))) l3 = some (.lst (([ord[i], ord[j]] ++ ms).map V.int)) := by
              rw [upd_same, List.map_append]
              rfl
            have s7 := s6.trans (same_upd (o := .lst ([V.int ord[i], V.int ord[j]] ++ ms.map V.int)) hl3)
            generalize upd (upd H5 l2 (.lst (ms.map V.int))) l3 (.lst ([V.int ord[i], V.int ord[j]] ++ ms.map V.int)) = H7 at *
            refine ⟨l3, [ord[i], ord[j]] ++ ms, rfl, SqL.of e7, by rw [List.length_append]; simp; omega, fun o p2 hpm hle hp2 => ⟨p2, _, rfl, .inl ⟨SqL.of upd_same, fun t ht => ?_⟩⟩⟩
            have s8 := (s7.trans (same_upd (o := .lst (o.map V.int)) hp2)).trans (same_upd (o := .tup (o.map V.int)) ht)
            have xt := dr45.dk.off ((s7.trans (same_upd (o := .lst (o.map V.int)) hp2)).free ht)
            have xf : t ≠ fo := fun z => by
              rw [z, (s7.trans (same_upd (o := .lst (o.map V.int)) hp2)) _ _ ef5] at ht
              cases ht
            exact q' _ _ ⟨o, n5, s8 _ _ ef5, sm5.trans (hs_mono s8), dr45.more s8, off_around pm (by omega) sz3 isz ej jl il hms hpm hle, da_off (SqT.of (hs_at (by simp [xt.1, xt.2.1, xf]) upd_same))⟩
    · rintro σ H2 ⟨y6, rfl, refs, os, n2, ef, hda, hlen, hok, dr⟩
      have hlen' : os.length = k := by simpa using hlen
      have le2 := dr.le
      refine ⟨.int m, rfl, .int k, rfl, k, rfl, by omega, by omega, fun D hDn => ?_⟩
      have nf : fo ≠ D := fun z => by
        rw [z] at ef
        rw [ef] at hDn
        cases hDn
      have offD := dr.dk.off hDn
      have hD1n : H1 D = none := dr.free hDn
      refine lc_range (lo := 0) (n := k) (fun i H' => ∃ (rs ds : List V) (os1 os2 : List (List Int)) (n' : Int), H' fo = some (.lst rs) ∧ H' D = some (.lst ds) ∧ DaAll K (hs [d, b, fo, D] H') rs (os1.map Pb.offD) ∧ DaAll K (hs [d, b, fo, D] H') ds (os2.map Pb.offD) ∧
          os1.length + i = k ∧ os2.length = i ∧ (∀ o ∈ os1, OffOk m o) ∧ (∀ o ∈ os2, OffOk m o) ∧ Dr d b c (n1 + 12 * k + i) H1 n' H') ⟨refs, [], os, [], n2, ?_, upd_same, ?_, .nil, by omega, rfl, hok, fun o ho => absurd ho List.not_mem_nil, (dr.new hDn).wide (by simp)⟩ ?_ ?_
      · rw [upd_ne nf]
        exact ef
      · refine hda.mono fun a o e => ?_
        obtain ⟨z1, z2⟩ := hs_some e
        have za : a ≠ D := fun z => by
          rw [z, hDn] at z2
          cases z2
        rw [hs_out (by simp at z1 ⊢; exact ⟨z1.1, z1.2.1, z1.2.2, za⟩), upd_ne za]
        exact z2
      · rintro i H' hi ⟨rs, ds, os1, os2, n3, e1, e2, h1, h2, l1, l2, k1, k2, dr3⟩
        have rsl : rs.length = os1.length := by
          rw [DaAll.len h1, List.length_map]
        have le3 := dr3.le
        refine ⟨rfl, ?_⟩
        dsimp only [tYes]
        refine iteT ?_
        refine ⟨.ref fo, rfl, .inl ⟨rfl, _, SqL.of e1⟩, .ref d, rfl, .ref fo, rfl, fo, _, rfl, .inl (SqL.of e1), d, b, c, n3, _, rfl, dr3.dk, by omega, by omega, by omega, fun u n4 H4 u0 u1 dr4 => ?_⟩
        obtain ⟨j, rfl⟩ : ∃ j : Nat, u = (j : Int) := ⟨u.toNat, by omega⟩
        have hj : j < rs.length := by omega
        have offF : fo ≠ d ∧ fo ≠ b ∧ fo ≠ c := off
        have e14 := dr4.at offF e1
        have e24 := dr4.at offD e2
        have sm4 : Same (hs [d, b, fo, D] H') (hs [d, b, fo, D] H4) := hs_msk dr4.sm (by simp) (by simp)
        have hjo : j < os1.length := by omega
        refine ⟨fo, rs, j, j, rs[j], rfl, rfl, e14, by omega, by omega, seqIndex_nat hj, List.getElem?_eq_getElem hj, ds, ?_, ?_, rs.eraseIdx j, ds ++ [rs[j]], os1.eraseIdx j, os2 ++ [os1[j]], n4, ?_, upd_same, ?_, ?_, ?_, ?_, ?_, ?_, ?_⟩
        · rw [upd_ne nf.symm]
          exact e24
        · rw [DaAll.len h2, List.length_map]
          exact small1000 (by omega)
        · rw [upd_ne nf, upd_same]
        · rw [hs_put (by simp), hs_put (by simp), ← map_erase]
          exact (h1.mono sm4).erase j
        · rw [hs_put (by simp), hs_put (by simp), List.map_append]
          refine (h2.mono sm4).append (.cons ?_ .nil)
          obtain ⟨e, he, hd⟩ := DaAll.get (h1.mono sm4) (List.getElem?_eq_getElem hj)
          rw [List.getElem?_map, List.getElem?_eq_getElem hjo] at he
          have ee : Pb.offD os1[j] = e := Option.some.inj he
          rw [ee]
          exact hd
        · rw [List.length_eraseIdx_of_lt hjo]
          omega
        · rw [List.length_append, l2]
          rfl
        · exact fun o ho => k1 o (List.mem_of_mem_eraseIdx ho)
        · intro o ho
          rcases List.mem_append.mp ho with ho | ho
          · exact k2 o ho
          · have e : o = os1[j] := by simpa using ho
            rw [e]
            exact k1 _ (List.getElem_mem _)
        · exact ((((dr3.step dr4).put hD1 hfo).put hD1 hD1n)).wide (by omega)
      · rintro H' ⟨rs, ds, os1, os2, n3, e1, e2, h1, h2, l1, l2, k1, k2, dr3⟩
        exact mk_end (n := n) (dr1.step (k := 12 * k + k) (dr3.wide (by omega))) e2 (h2.mono (hs_to_msk (by simp) (by simp))) fun v H3 dr4 hv => q v os2 n3 H3 (dr4.wide (by omega)) l2 k2 hv
abbrev sOne : Stmt := topS 20
theorem scOne : FnScope ["_law_deck_here", "_law_some"] ["_law_deck_here", "_law_some"] (defScope sOne) := ⟨rfl, rfl, rfl, by decide +kernel, rfl, by decide +kernel, by decide +kernel⟩
theorem ok_one {f : Addr} {fd : FuncData} (F : Fun K "_law_one" "_law_one" sOne f fd) (B : Bn mg) (c_law_next : Cl P w K mg base 1 "_law_next" ["_law_deck_here", "_law_many"] spNext) : FnOk P w K mg base CX0 2 f fd ["_law_deck_here", "_law_some"] (spOne K) := by
  refine F.ok scOne (fun vs H Q E h => ?_) (fun cdv A outer s H vs Q E hr h => ?_)
  · obtain ⟨d, b, c, a, n, xs, rfl, _⟩ := h
    rfl
  · obtain ⟨d, b, c, a, n, xs, rfl, hD, hn, x0, x1, hS, q⟩ := h
    have nd := scOne.nd
    refine ⟨_, (pss_one (ps_ret (pe_ix ix_list (pv 1) (pe_k c_law_next hr (by decide) rfl (pa_cons (pv 0) (pa_cons (pe_callB call_len_seq rfl B.len bt_len (pa_cons (pv 1) pa_nil)) pa_nil))) (fun _ _ => rfl)))), ?_⟩
    have hp : 0 < xs.length := List.length_pos_iff.mpr x0
    refine ⟨.ref a, rfl, .ref d, rfl, .ref a, rfl, a, xs, rfl, .inl (Same.mskL hS), d, b, c, n, (xs.length : Int), rfl, hD, by omega, by omega, by omega, fun v n' H' v0 v1 dr => ?_⟩
    obtain ⟨j, rfl⟩ : ∃ j : Nat, v = (j : Int) := ⟨v.toNat, by omega⟩
    have hj : j < xs.length := by omega
    refine ⟨a, xs, _, xs[j], rfl, rfl, Same.mskL (Same.seq dr.sm hS), atI_nat (List.getElem?_eq_getElem hj), q _ n' H' (List.getElem_mem hj) dr⟩
abbrev sAny : Stmt := topS 28
theorem scAny : FnScope ["_law_deck_here", "_law_demands", "_law_offers", "_law_share", "_law_found", "_law_k"] ["_law_deck_here", "_law_demands", "_law_offers"] (defScope sAny) := ⟨rfl, rfl, rfl, by decide +kernel, rfl, by decide +kernel, by decide +kernel⟩
set_option maxHeartbeats 1000000 in
theorem ok_any {f : Addr} {fd : FuncData} (F : Fun K "_law_any" "_law_any" sAny f fd) (B : Bn mg) (c_law_next : Cl P w K mg base 1 "_law_next" ["_law_deck_here", "_law_many"] spNext)
    (c_law_one : Cl P w K mg base 2 "_law_one" ["_law_deck_here", "_law_some"] (spOne K)) (c_law_part : Cl P w K mg base 2 "_law_part" ["_law_deck_here", "_law_items", "_law_share"] (spPart K)) : FnOk P w K mg base CX0 3 f fd ["_law_deck_here", "_law_demands", "_law_offers"] (spMk K) := by
  refine F.ok scAny (fun vs H Q E h => ?_) (fun cdv A outer s H vs Q E hr h => ?_)
  · obtain ⟨d, b, c, n, m, k, rfl, _⟩ := h
    rfl
  · obtain ⟨d, b, c, n, m, k, rfl, hD, hn, m1, m10, k10, q⟩ := h
    have nd := scAny.nd
    refine ⟨_, (pss_cons (ps_par (i := 3) (j := 4) rfl nd rfl rfl (by decide) rfl rfl (pa_cons (pe_k c_law_next hr (by decide) rfl (pa_cons (pv 0) (pa_cons pe_int pa_nil))) (pa_cons (pe_lst pa_nil) pa_nil)) (by rfl))
      (pss_cons (ps_for PassesOwn.never rfl (pi_range1 rfl B.range (pa_cons (pv 2) pa_nil)) (pg_name (i := 5) nd rfl (Or.inl rfl)) (pss_one (ps_if (PW.pt (pw_and (pt_cmpR (op_ne0 hr.units) (pv 4) (pe_lst pa_nil) (nomark _)) (pw_and1 (pt_cmpR op_eq (pe_k c_law_next hr (by decide) rfl (pa_cons (pv 0) (pa_cons pe_int pa_nil))) pe_int (nomark _))))) (pss_one (ps_expr (pe_bm PySem.F.plainAttrs_list PySem.F.slot_list_append PySem.F.type_list_append mt_append (pv 4) (pa_cons (pe_k c_law_one hr (by decide) rfl (pa_cons (pv 0) (pa_cons (pv 4) pa_nil))) pa_nil)))) (pss_one (ps_expr (pe_bm PySem.F.plainAttrs_list PySem.F.slot_list_append PySem.F.type_list_append mt_append (pv 4) (pa_cons (pe_k c_law_part hr (by decide) rfl (pa_cons (pv 0) (pa_cons (pe_listRg rfl rfl B.list (prg_1 rfl B.range (pv 1))) (pa_cons (pv 3) pa_nil)))) pa_nil)))))))
      (pss_one (ps_ret (pe_tup (pa_cons (pv 1) (pa_cons (pe_callTy call_tuple_of rfl B.tuple bt_tuple (pa_cons (pv 4) pa_nil)) pa_nil))))))), ?_⟩
    refine ⟨.ref d, rfl, d, b, c, n, 4, rfl, hD, by omega, by decide, by decide, fun sh n1 H1 s0 s1 dr1 => ⟨Nat.zero_le _, fun fo hfo => ⟨.int sh, .ref fo, rfl, ?_⟩⟩⟩
    have hD1 := dr1.dk
    have off := hD1.off hfo
    have le1 := dr1.le
    refine Evl.q_forR1 (n := (k : Int)) (Evl.ea_cons (Evl.ev_var rfl) Evl.ea_nil) (by omega) (fun i σ H2 => ∃ (y5 : Option V), σ = [some (.ref d), some (.int m), some (.int k), some (.int sh), some (.ref fo), y5] ∧ Fnd K d b c fo m (n1 + 12 * i) H1 i H2)
      (fun H2 e2 => ⟨none, rfl, [], [], n1, e2 _ _ upd_same, .nil, rfl, fun o ho => absurd ho List.not_mem_nil, (((Dr.refl hD1).new hfo).more e2).wide (by omega)⟩) ?_ ?_
    · rintro i σ H2 hi ⟨y5, rfl, refs, os, n2, ef, hda, hlen, hok, dr⟩
      have le2 := dr.le
      have rl : refs.length = i := by
        rw [DaAll.len hda, List.length_map, hlen]
      have key : ∀ (H' : Hp) (n' : Int), H' fo = some (.lst refs) → Same (hs [d, b, fo] H2) (hs [d, b, fo] H') → Dr d b c (n1 + 12 * i + 1) H1 n' H' →
          Ew (tCall (spPart K) [] E0 (tCons (tVar 0) (tCons (tLstRg (tRg1 (tVar 1))) (tCons (tVar 3) tNil)))) [some (.ref d), some (.int m), some (.int k), some (.int sh), some (.ref fo), some (.int i)] H'
            (fun x H' => ∃ (o : List Int) (n' : Int), H' fo = some (.lst refs) ∧ Same (hs [d, b, fo] H2) (hs [d, b, fo] H') ∧ Dr d b c (n1 + 12 * i + 12) H1 n' H' ∧ OffOk m o ∧ Da K (hs [d, b, fo] H') x (offD o)) := by
        intro H' n' ef' sm' dr' Q' q'
        have le' := dr'.le
        refine ⟨.ref d, rfl, .int m, rfl, m, rfl, RgOk.of_le (by omega) (by omega) (by omega) (by omega), fun l hl => ?_⟩
        rw [rgV_ints]
        have x := dr'.dk.off hl
        have dr2 := dr'.new (o := .lst ((upto m).map V.int)) hl
        have ef2 := same_upd (o := .lst ((upto m).map V.int)) hl _ _ ef'
        refine ⟨.int sh, rfl, d, b, c, l, n', sh, upto m, rfl, dr2.dk, by omega, by rw [ints_len]; omega, .inl (SqL.of (at_msk x upd_same)), fun p ms n3 H3 hms dr3 hp => ?_⟩
        rw [ints_len] at dr3
        have ef3 := dr3.at off ef2
        have drs := dr2.step dr3
        refine q' _ _ ⟨ms, n3, ef3, sm'.trans ((hs_mono (same_upd hl)).trans (hs_msk dr3.sm (by simp) (by simp))), drs.wide (by omega), off_sub hms, da_off ?_⟩
        exact sqT_hs hp ef3
      have add : ∀ (x : V) (H' : Hp), (∃ (o : List Int) (n' : Int), H' fo = some (.lst refs) ∧ Same (hs [d, b, fo] H2) (hs [d, b, fo] H') ∧ Dr d b c (n1 + 12 * i + 12) H1 n' H' ∧ OffOk m o ∧ Da K (hs [d, b, fo] H') x (offD o)) →
          ∃ xs, H' fo = some (.lst xs) ∧ xs.length < sizeLine ∧ ∃ (y5 : Option V), [some (.ref d), some (.int m), some (.int k), some (.int sh), some (.ref fo), some (.int i)] = [some (.ref d), some (.int m), some (.int k), some (.int sh), some (.ref fo), y5] ∧ Fnd K d b c fo m (n1 + 12 * (i + 1 : Nat)) H1 (i + 1) (upd H' fo (.lst (xs ++ [x]))) := by
        rintro x H' ⟨o, n', ef', sm', dr', ho, hx⟩
        exact ⟨refs, ef', small1000 (by omega), _, rfl, Fnd.add hD1 hfo hda hlen hok sm' n' dr' (by omega) ho hx⟩
      refine ⟨.ref fo, rfl, Nat.zero_le _, fun p hp => ⟨fo, p, refs, rfl, rfl, SqL.of (same_upd hp _ _ ef), SqL.of upd_same, _, rfl, ?_⟩⟩
      have ef3 := same_upd (o := .lst []) hp _ _ ef
      have sm3 : Same (hs [d, b, fo] H2) (hs [d, b, fo] (upd H2 p (.lst []))) := hs_mono (same_upd hp)
      have dr3 := dr.new (o := .lst []) hp
      generalize upd H2 p (.lst []) = H3 at ef3 sm3 dr3 ⊢
      cases hre : refs.isEmpty with
      | true => exact iteF (iteF (s_appP _ rfl ef3 (key H3 n2 ef3 sm3 (dr3.wide (by omega))) add))
      | false =>
        refine iteT ⟨.ref d, rfl, d, b, c, n2, 6, rfl, dr3.dk, by omega, by decide, by decide, fun v n4 H4 v0 v1 dr4 => ⟨rfl, _, rfl, ?_⟩⟩
        have ef4 := dr4.at off ef3
        have sm4 := sm3.trans (hs_msk (S := [d, b, fo]) dr4.sm (by simp) (by simp))
        have drs4 := dr3.step dr4
        have le4 := drs4.le
        refine ite2 (fun _ => ?_) (fun _ => s_appP _ rfl ef4 (key H4 n4 ef4 sm4 drs4) add)
        refine s_appP _ rfl ef4 (fun Q' q' => ?_) add
        refine ⟨.ref d, rfl, .ref fo, rfl, d, b, c, fo, n4, refs, rfl, dr4.dk, by omega, ?_, by omega, SqL.of (at_msk off ef4), fun x n5 H5 hx dr5 => ?_⟩
        · intro z
          rw [z] at hre
          cases hre
        · have sm5 := sm4.trans (hs_msk (S := [d, b, fo]) dr5.sm (by simp) (by simp))
          obtain ⟨e, he, hxe⟩ := DaAll.mem (hda.mono sm5) hx
          obtain ⟨o, ho, rfl⟩ := List.mem_map.mp he
          exact q' _ _ ⟨o, n5, dr5.at off ef4, sm5, (drs4.step dr5).wide (by omega), hok o ho, hxe⟩
    · rintro σ H2 ⟨y5, rfl, refs, os, n2, ef, hda, hlen, hok, dr⟩
      refine ⟨.int m, rfl, .ref fo, rfl, mk_end (n := n) (dr1.step (k := 12 * k) (dr.wide (by simp))) ef (hda.mono (hs_to_msk (by simp) (by simp))) fun v H3 dr3 hv => q v os n2 H3 (dr3.wide (by omega)) (by simpa using hlen) hok hv⟩
abbrev sTab : Stmt := topS 29
theorem scTab : FnScope ["_law_deck_here", "_law_demands", "_law_offers", "_law_way"] ["_law_deck_here", "_law_demands", "_law_offers"] (defScope sTab) := ⟨rfl, rfl, rfl, by decide +kernel, rfl, by decide +kernel, by decide +kernel⟩
set_option maxHeartbeats 1000000 in
theorem ok_mktab {f : Addr} {fd : FuncData} (F : Fun K "_law_table" "_law_table" sTab f fd) (B : Bn mg) (c_law_next : Cl P w K mg base 1 "_law_next" ["_law_deck_here", "_law_many"] spNext)
    (c_law_intervals : Cl P w K mg base 3 "_law_intervals" ["_law_deck_here", "_law_demands", "_law_offers"] (spMk K)) (c_law_around : Cl P w K mg base 3 "_law_around" ["_law_deck_here", "_law_demands", "_law_offers"] (spMk K))
    (c_law_any : Cl P w K mg base 3 "_law_any" ["_law_deck_here", "_law_demands", "_law_offers"] (spMk K)) : FnOk P w K mg base CX0 4 f fd ["_law_deck_here", "_law_demands", "_law_offers"] (spTable K) := by
  refine F.ok scTab (fun vs H Q E h => ?_) (fun cdv A outer s H vs Q E hr h => ?_)
  · obtain ⟨d, b, c, n, m, k, rfl, _⟩ := h
    rfl
  · obtain ⟨d, b, c, n, m, k, rfl, hD, hn, m1, m10, k10, q⟩ := h
    have nd := scTab.nd
    refine ⟨_, (pss_cons (ps_par (i := 1) (j := 2) rfl nd rfl rfl (by decide) rfl rfl (pa_cons (pe_op op_add pe_int (pe_k c_law_next hr (by decide) rfl (pa_cons (pv 0) (pa_cons (pv 1) pa_nil)))) (pa_cons (pe_k c_law_next hr (by decide) rfl (pa_cons (pv 0) (pa_cons (pe_op op_add (pv 2) pe_int) pa_nil))) pa_nil)) (by rfl))
      (pss_cons (ps_set (i := 3) nd rfl (Or.inl rfl) (pe_k c_law_next hr (by decide) rfl (pa_cons (pv 0) (pa_cons pe_int pa_nil))))
      (pss_cons (ps_if (pt_cmpR op_lt (pv 3) pe_int (nomark _)) (pss_one (ps_ret (pe_k c_law_intervals hr (by decide) rfl (pa_cons (pv 0) (pa_cons (pv 1) (pa_cons (pv 2) pa_nil)))))) pss_nil)
      (pss_one (ps_ret (pe_ifExp (pt_cmpR op_eq (pv 3) pe_int (nomark _)) (pe_k c_law_around hr (by decide) rfl (pa_cons (pv 0) (pa_cons (pv 1) (pa_cons (pv 2) pa_nil)))) (pe_k c_law_any hr (by decide) rfl (pa_cons (pv 0) (pa_cons (pv 1) (pa_cons (pv 2) pa_nil)))))))))), ?_⟩
    refine ⟨.ref d, rfl, .int m, rfl, d, b, c, n, m, rfl, hD, by omega, by omega, by omega, fun v n1 H1 v0 v1 dr1 => ⟨1, v, rfl, rfl, ?_⟩⟩
    have le1 := dr1.le
    refine ⟨.ref d, rfl, .int k, rfl, k, 1, rfl, rfl, d, b, c, n1, _, rfl, dr1.dk, by omega, by omega, by omega, fun u n2 H2 u0 u1 dr2 => ⟨.int (1 + v), .int u, rfl, ?_⟩⟩
    have le2 := dr2.le
    refine ⟨.ref d, rfl, d, b, c, n2, 5, rfl, dr2.dk, by omega, by decide, by decide, fun t n3 H3 t0 t1 dr3 => ?_⟩
    have le3 := dr3.le
    have dr13 := (dr1.step dr2).step dr3
    obtain ⟨m', hm'⟩ : ∃ m' : Nat, 1 + v = (m' : Int) := ⟨(1 + v).toNat, by omega⟩
    obtain ⟨k', hk'⟩ : ∃ k' : Nat, u = (k' : Int) := ⟨u.toNat, by omega⟩
    rw [hm', hk']
    have fin : spMk K [.ref d, .int m', .int k'] H3 Q E0 := ⟨d, b, c, n3, m', k', rfl, dr3.dk, by omega, by omega, by omega, by omega, fun x os n4 H4 dr4 hl ho hx => q x m' os n4 H4 ((dr13.step dr4).wide (by omega)) (by omega) (by omega) (by omega) ho hx⟩
    refine ⟨.int t, rfl, t, 2, rfl, rfl, _, rfl, ite2 (fun _ => ?_) (fun _ => ?_)⟩
    · exact ⟨.ref d, rfl, .int m', rfl, .int k', rfl, fin⟩
    · refine ⟨.int t, rfl, rfl, _, rfl, ite2 (fun _ => ?_) (fun _ => ?_)⟩
      · exact ⟨.ref d, rfl, .int m', rfl, .int k', rfl, fin⟩
      · exact ⟨.ref d, rfl, .int m', rfl, .int k', rfl, fin⟩
abbrev sOdd : Stmt := topS 22
theorem scOdd : FnScope ["_law_deck_here", "_law_some"] ["_law_deck_here"] (defScope sOdd) := ⟨rfl, rfl, rfl, by decide +kernel, rfl, by decide +kernel, by decide +kernel⟩
set_option maxHeartbeats 2000000 in
theorem ok_odd {f : Addr} {fd : FuncData} (F : Fun K "_law_odd" "_law_odd" sOdd f fd) (B : Bn mg) (c_law_next : Cl P w K mg base 1 "_law_next" ["_law_deck_here", "_law_many"] spNext) : FnOk P w K mg base CX0 2 f fd ["_law_deck_here"] (spOdd K) := by
  refine F.ok scOdd (fun vs H Q E h => ?_) (fun cdv A outer s H vs Q E hr h => ?_)
  · obtain ⟨S, d, b, c, n, rfl, _⟩ := h
    rfl
  · obtain ⟨S, d, b, c, n, rfl, hC, hn, q⟩ := h
    have hD := hC.dk
    have nd := scOdd.nd
    refine ⟨_, (pss_cons (ps_set (i := 1) nd rfl (Or.inl rfl) (pe_lst (pa_cons pe_non (pa_cons pe_bl (pa_cons pe_bl (pa_cons pe_int (pa_cons pe_int (pa_cons (pe_un un_neg pe_int) (pa_cons pe_int (pa_cons pe_int (pa_cons pe_int (pa_cons (pe_op op_pow pe_int pe_int) (pa_cons (pe_op op_add (pe_op op_pow pe_int pe_int) pe_int) (pa_cons (pe_op op_pow pe_int pe_int) (pa_cons pe_str (pa_cons pe_str (pa_cons pe_str (pa_cons (pe_tup pa_nil) (pa_cons (pe_tup (pa_cons pe_int pa_nil)) pa_nil)))))))))))))))))))
      (pss_one (ps_ret (pe_ix ix_list (pe_op op_cat (pv 1) (pe_lst (pa_cons (pe_tup (pa_cons pe_int (pa_cons pe_int pa_nil))) (pa_cons (pe_lst pa_nil) (pa_cons pe_dnewK (pa_cons (pe_lst (pa_cons pe_int pa_nil)) (pa_cons (pe_tup (pa_cons pe_bl pa_nil)) (pa_cons (pe_tup (pa_cons (pe_tup pa_nil) pa_nil)) pa_nil)))))))) (pe_k c_law_next hr (by decide) rfl (pa_cons (pv 0) (pa_cons pe_int pa_nil))) (fun _ _ => rfl))))), ?_⟩
    have pw : ∀ j : Int, 0 ≤ j → j ≤ 100 → CPow 10 j := fun j h0 h1 => ⟨h0, by omega, by decide⟩
    refine q_asgP (fun v H' => ∃ t1 t2 l3, v = .ref l3 ∧ Nw S d b c H' t1 (.tup []) ∧ Nw S d b c H' t2 (.tup [V.int 0]) ∧ Nw S d b c H' l3 (.lst (oddA t1 t2)) ∧ Dr d b c n H n H' ∧ Same H H') (fun Q' q' => ?_) ?_
    · refine ⟨1, rfl, 10, 12, rfl, rfl, pw 12 (by decide) (by decide), 10, 12, rfl, rfl, pw 12 (by decide) (by decide), _, 1, rfl, rfl, 10, 59, rfl, rfl, pw 59 (by decide) (by decide), Nat.zero_le _, fun t1 h1 => ⟨Pb.sz (n := 1) (by decide), fun t2 h2 => ⟨Pb.sz (n := 17) (by decide), fun l3 h3 => ?_⟩⟩⟩
      have r0 := Dr.refl hD
      have r1 := r0.new (o := .tup []) h1
      have r2 := r1.new (o := .tup [V.int 0]) h2
      have s3 := same_upd (o := .lst (oddA t1 t2)) h3
      have w1 : Nw S d b c _ t1 (.tup []) := Nw.new (o := .tup []) hC h1
      have w2 : Nw S d b c _ t2 (.tup [V.int 0]) := Nw.new (o := .tup [V.int 0]) (hC.same (same_upd h1)) h2
      exact q' (.ref l3) _ ⟨t1, t2, l3, rfl, (w1.mono (same_upd h2)).mono s3, w2.mono s3, Nw.new ((hC.same (same_upd h1)).same (same_upd h2)) h3, r2.new h3, ((same_upd h1).trans (same_upd h2)).trans s3⟩
    · rintro v H3 ⟨t1, t2, l3, rfl, w1, w2, w3, r3, s03⟩
      refine ⟨.ref l3, rfl, ?_⟩
      refine (show Ew (tLst _) _ _ (fun v H' => ∃ t4 l5 d6 l7 t8 t9 t10 l11, v = .ref l11 ∧ Nw S d b c H' t4 (.tup [V.int 0, V.int 1]) ∧ Nw S d b c H' l5 (.lst []) ∧ Nw S d b c H' d6 (.dK []) ∧ Nw S d b c H' l7 (.lst [V.int 0]) ∧ Nw S d b c H' t8 (.tup [V.bl true]) ∧ Nw S d b c H' t9 (.tup []) ∧ Nw S d b c H' t10 (.tup [V.ref t9]) ∧
        Nw S d b c H' l11 (.lst [V.ref t4, V.ref l5, V.ref d6, V.ref l7, V.ref t8, V.ref t10]) ∧ Same H3 H') from fun Q' q' => ?_) _ (fun v H4 hv => ?_)
      · refine ⟨Pb.sz (n := 2) (by decide), fun t4 h4 => ⟨Nat.zero_le _, fun l5 h5 d6 h6 => ⟨Pb.sz (n := 1) (by decide), fun l7 h7 => ⟨Pb.sz (n := 1) (by decide), fun t8 h8 => ⟨Nat.zero_le _, fun t9 h9 => ⟨Pb.sz (n := 1) (by decide), fun t10 h10 => ⟨Pb.sz (n := 6) (by decide), fun l11 h11 => ?_⟩⟩⟩⟩⟩⟩⟩
        have D3 := hC.same s03
        have D4 := D3.same (same_upd (o := .tup [V.int 0, V.int 1]) h4)
        have D5 := D4.same (same_upd (o := .lst []) h5)
        have D6 := D5.same (same_upd (o := .dK []) h6)
        have D7 := D6.same (same_upd (o := .lst [V.int 0]) h7)
        have D8 := D7.same (same_upd (o := .tup [V.bl true]) h8)
        have D9 := D8.same (same_upd (o := .tup []) h9)
        have D10 := D9.same (same_upd (o := .tup [V.ref t9]) h10)
        have s11 := same_upd (o := .lst [V.ref t4, V.ref l5, V.ref d6, V.ref l7, V.ref t8, V.ref t10]) h11
        have s10 := Same.trans (same_upd (o := .tup [V.ref t9]) h10) s11
        have s9 := Same.trans (same_upd (o := .tup []) h9) s10
        have s8 := Same.trans (same_upd (o := .tup [V.bl true]) h8) s9
        have s7 := Same.trans (same_upd (o := .lst [V.int 0]) h7) s8
        have s6 := Same.trans (same_upd (o := .dK []) h6) s7
        have s5 := Same.trans (same_upd (o := .lst []) h5) s6
        have s4 := Same.trans (same_upd (o := .tup [V.int 0, V.int 1]) h4) s5
        exact q' (.ref l11) _ ⟨t4, l5, d6, l7, t8, t9, t10, l11, rfl, (Nw.new D3 h4).mono s5, (Nw.new D4 h5).mono s6, (Nw.new D5 h6).mono s7, (Nw.new D6 h7).mono s8, (Nw.new D7 h8).mono s9, (Nw.new D8 h9).mono s10, (Nw.new D9 h10).mono s11, Nw.new D10 h11, s4⟩
      · obtain ⟨t4, l5, d6, l7, t8, t9, t10, l11, rfl, w4, w5, w6, w7, w8, w9, w10, w11, s34⟩ := hv
        refine ⟨l3, l11, _, _, rfl, rfl, (w3.mono s34).at_p, w11.at_p, Pb.sz (n := 23) (by decide), fun l12 h12 => ?_⟩
        have dr12 := (r3.more s34).new (o := .lst (oddA t1 t2 ++ [V.ref t4, V.ref l5, V.ref d6, V.ref l7, V.ref t8, V.ref t10])) h12
        have sw := same_upd (o := .lst (oddA t1 t2 ++ [V.ref t4, V.ref l5, V.ref d6, V.ref l7, V.ref t8, V.ref t10])) h12
        have w12 : Nw S d b c _ l12 (.lst (oddA t1 t2 ++ [V.ref t4, V.ref l5, V.ref d6, V.ref l7, V.ref t8, V.ref t10])) := Nw.new (hC.same (s03.trans s34)) h12
        have all : DaAll K (hs S (upd H4 l12 (.lst (oddA t1 t2 ++ [V.ref t4, V.ref l5, V.ref d6, V.ref l7, V.ref t8, V.ref t10])))) (oddA t1 t2 ++ [V.ref t4, V.ref l5, V.ref d6, V.ref l7, V.ref t8, V.ref t10]) oddL :=
          .cons .non (.cons (.bl _) (.cons (.bl _) (.cons (.int _) (.cons (.int _) (.cons (.int _) (.cons (.int _) (.cons (.int _) (.cons (.int _) (.cons (.int _) (.cons (.int _) (.cons (.int _) (.cons (.str _) (.cons (.str _) (.cons (.str _)
            (.cons (.tup ((w1.mono s34).mono sw).tup .nil) (.cons (.tup ((w2.mono s34).mono sw).tup (.cons (.int _) .nil)) (.cons (.tup (w4.mono sw).tup (.cons (.int _) (.cons (.int _) .nil))) (.cons (.lst (w5.mono sw).lst .nil) (.cons (w6.mono sw).emp
              (.cons (.lst (w7.mono sw).lst (.cons (.int _) .nil)) (.cons (.tup (w8.mono sw).tup (.cons (.bl _) .nil)) (.cons (.tup (w10.mono sw).tup (.cons (.tup (w9.mono sw).tup .nil) .nil)) .nil))))))))))))))))))))))
        have s05 := (s03.trans s34).trans sw
        generalize upd H4 l12 (.lst (oddA t1 t2 ++ [V.ref t4, V.ref l5, V.ref d6, V.ref l7, V.ref t8, V.ref t10])) = H5 at *
        generalize oddA t1 t2 ++ [V.ref t4, V.ref l5, V.ref d6, V.ref l7, V.ref t8, V.ref t10] = xs at *
        refine ⟨.ref d, rfl, d, b, c, n, 23, rfl, dr12.dk, by omega, by decide, by decide, fun v n' H6 v0 v1 dr6 => ?_⟩
        obtain ⟨j, rfl⟩ : ∃ j : Nat, v = (j : Int) := ⟨v.toNat, by omega⟩
        have xl : xs.length = 23 := DaAll.len all
        have hj : j < xs.length := by omega
        obtain ⟨e, he, hxe⟩ := DaAll.get all (List.getElem?_eq_getElem hj)
        exact ⟨l12, xs, _, xs[j], rfl, rfl, SqL.of (dr6.at w12.off w12.at_p), atI_nat (List.getElem?_eq_getElem hj), q _ e n' H6 (List.mem_of_getElem? he) (dr12.step dr6) (hxe.mono ((Ck.same hC s05).sm dr6))⟩
theorem ok_bentG0 {f : Addr} {fd : FuncData} : FnOk P w K mg base CX0 2 f fd ["_law_deck_here", "_law_thing", "_law_deep"] (spBentG K 0) := by
  refine ⟨fun vs H Q E h => ?_, fun A outer s H args us vs Q E hr he hb hv h => ?_⟩
  · obtain ⟨S, d, b, c, n, x, e, deep, L, B0, _, _, _, z, _⟩ := h
    exact absurd z (Nat.not_lt_zero _)
  · obtain ⟨S, d, b, c, n, x, e, deep, L, B0, _, _, _, z, _⟩ := h
    exact absurd z (Nat.not_lt_zero _)
abbrev sBent : Stmt := topS 23
theorem scBent : FnScope ["_law_deck_here", "_law_thing", "_law_deep", "_law_spot"] ["_law_deck_here", "_law_thing", "_law_deep"] (defScope sBent) := ⟨rfl, rfl, rfl, by decide +kernel, rfl, by decide +kernel, by decide +kernel⟩
set_option maxHeartbeats 2000000 in
theorem ok_bentG1 {f : Addr} {fd : FuncData} {δ : Nat} (F : Fun K "_law_bent" "_law_bent" sBent f fd) (B : Bn mg) (c_law_next : Cl P w K mg base 1 "_law_next" ["_law_deck_here", "_law_many"] spNext)
    (c_law_odd : Cl P w K mg base 2 "_law_odd" ["_law_deck_here"] (spOdd K)) (c_law_bent : Cl P w K mg base (δ + 2) "_law_bent" ["_law_deck_here", "_law_thing", "_law_deep"] (spBentG K δ)) : FnOk P w K mg base CX0 (δ + 3) f fd ["_law_deck_here", "_law_thing", "_law_deep"] (spBentG K (δ + 1)) := by
  refine F.ok scBent (fun vs H Q E h => ?_) (fun cdv A outer s H vs Q E hr h => ?_)
  · obtain ⟨S, d, b, c, n, x, e, deep, L, B0, rfl, _⟩ := h
    rfl
  · obtain ⟨S, d, b, c, n, x, e, deep, L, B0, rfl, hC, hn, hdeep, hδ, l2, l50, b59, b80, hpl, hx, q⟩ := h
    have hD := hC.dk
    have nd := scBent.nd
    refine ⟨_, (Evl.pss_cut (ps_if (PW.pt (pw_and (pt_val (pe_callB call_isi rfl B.isinstance bt_isinstance (pa_cons (pv 1) (pa_cons (pe_ty rfl B.tuple bt_tuple) pa_nil)))) (pw_and (pt_cmpR (op_ne0T hr.units) (pv 1) (pe_tup pa_nil) (nomark _)) (pw_and (pt_cmpR op_gt (pv 2) pe_int (nomark _)) (pw_and1 (pt_cmpR op_gt (pe_k c_law_next hr (by omega) rfl (pa_cons (pv 0) (pa_cons pe_int pa_nil))) pe_int (nomark _))))))) (pss_cons (ps_set (i := 3) nd rfl (Or.inl rfl) (pe_k c_law_next hr (by omega) rfl (pa_cons (pv 0) (pa_cons (pe_callB call_len_seq rfl B.len bt_len (pa_cons (pv 1) pa_nil)) pa_nil))))
      (pss_one (ps_ret (pe_op op_catA (pe_op op_catA (pe_slice sl_tupA (pv 1) po_none (po_some (pv 3))) (pe_tup (pa_cons (pe_k c_law_bent hr (by omega) rfl (pa_cons (pv 0) (pa_cons (pe_ix ix_tup (pv 1) (pv 3) (fun _ _ => rfl)) (pa_cons (pe_op op_sub (pv 2) pe_int) pa_nil)))) pa_nil))) (pe_slice sl_tupA (pv 1) (po_some (pe_op op_add (pv 3) pe_int)) po_none))))) pss_nil)
      (pss_cons (ps_if (pt_val (pe_callB call_isi rfl B.isinstance bt_isinstance (pa_cons (pv 1) (pa_cons (pe_ty rfl B.tuple bt_tuple) pa_nil)))) (pss_one (ps_ret (pe_ix ix_list (pe_lst (pa_cons (pe_slice sl_tupA (pv 1) (po_some pe_int) po_none) (pa_cons (pe_op op_catA (pv 1) (pe_slice sl_tupA (pv 1) (po_some (pe_un un_neg pe_int)) po_none)) (pa_cons (pe_revT (pv 1)) (pa_cons (pe_callTy call_list_of rfl B.list bt_list (pa_cons (pv 1) pa_nil)) (pa_cons (pe_k c_law_odd hr (by omega) rfl (pa_cons (pv 0) pa_nil)) pa_nil)))))) (pe_k c_law_next hr (by omega) rfl (pa_cons (pv 0) (pa_cons pe_int pa_nil))) (fun _ _ => rfl)))) pss_nil)
      (pss_cons (ps_if (pt_val (pe_callB call_isi rfl B.isinstance bt_isinstance (pa_cons (pv 1) (pa_cons (pe_ty rfl B.int bt_int) pa_nil)))) (pss_one (ps_ret (pe_ix ix_list (pe_lst (pa_cons (pe_op op_addQ (pv 1) pe_int) (pa_cons (pe_op op_subQ (pv 1) pe_int) (pa_cons (pe_callTy call_strQ rfl B.str bt_str (pa_cons (pv 1) pa_nil)) (pa_cons (pe_cmpR (op_eqD hr.units) (pv 1) pe_int (nomark _)) (pa_cons pe_int (pa_cons (pe_k c_law_odd hr (by omega) rfl (pa_cons (pv 0) pa_nil)) pa_nil))))))) (pe_k c_law_next hr (by omega) rfl (pa_cons (pv 0) (pa_cons pe_int pa_nil))) (fun _ _ => rfl)))) pss_nil)
      (pss_one (ps_ret (pe_k c_law_odd hr (by omega) rfl (pa_cons (pv 0) pa_nil))))))), ?_⟩
    refine Evl.q_cut (M := fun σ' H' => σ' = [some (.ref d), some x, some (.int deep), none] ∧ ∃ n', Dr d b c (n + 1) H n' H') ?_ ?_
    · -- the first if
      refine ⟨x, rfl, x, .ty "tuple", _, _, _, rfl, .ty "tuple", (hx.mono hs_sub).ty, kit_ty (kit_isI "tuple" e (by decide)), _, rfl, ?_⟩
      cases e with
      | int i => exact iteF (iteF ⟨rfl, n, (Dr.refl hD).wide (by omega)⟩)
      | tuple ds =>
        cases hx with
        | @tup a xs _ hq ha =>
          have hlen := DaAll.len ha
          simp only [bg, Bool.and_eq_true, decide_eq_true_eq] at hpl
          refine iteT ⟨.ref a, rfl, Nat.zero_le _, fun t0 ht0 => ⟨a, t0, xs, rfl, rfl, Same.tq (same_upd ht0) (Same.tq hs_sub hq), SqT.of upd_same, _, rfl, ?_⟩⟩
          have dr0 := (Dr.refl hD).new (o := .tup []) ht0
          have hq0 : SqT K (hs S (upd H t0 (.tup []))) a xs := Same.tq (hs_mono (same_upd ht0)) hq
          have ha0 : DaAll K (hs S (upd H t0 (.tup []))) xs ds := ha.mono (hs_mono (same_upd ht0))
          have ck0 : Ck S d b c n (upd H t0 (.tup [])) := hC.same (same_upd ht0)
          generalize upd H t0 (.tup []) = H0 at *
          cases hxe : xs.isEmpty with
          | true => exact iteF (iteF ⟨rfl, n, dr0.wide (by omega)⟩)
          | false =>
            refine iteT ⟨.int deep, rfl, deep, 0, rfl, rfl, _, rfl, ?_⟩
            cases hdp : decide ((0 : Int) < (deep : Int)) with
            | false => exact iteF (iteF ⟨rfl, n, dr0.wide (by omega)⟩)
            | true =>
              have dpos : 0 < deep := by
                have := of_decide_eq_true hdp
                omega
              refine iteT ⟨.ref d, rfl, d, b, c, n, 4, rfl, dr0.dk, by omega, by decide, by decide, fun v n1 H1 v0 v1 dr1 => ⟨v, 0, rfl, rfl, _, rfl, ite2 (fun _ => ?_) (fun _ => ⟨rfl, n1, dr0.step dr1⟩)⟩⟩
              have le1 := dr1.le
              have hpos : 0 < xs.length := by
                cases xs with
                | nil => cases hxe
                | cons _ _ => exact Nat.succ_pos _
              have hq1 := Same.tq (hs_msk dr1.sm hC.hd hC.hb) hq0
              refine ⟨.ref d, rfl, .ref a, rfl, a, xs, rfl, .inr (Same.tq hs_sub hq1), d, b, c, n1, _, rfl, dr1.dk, by omega, by omega, by omega, fun u n2 H2 u0 u1 dr2 => ?_⟩
              have le2 := dr2.le
              obtain ⟨j, rfl⟩ : ∃ j : Nat, u = (j : Int) := ⟨u.toNat, by omega⟩
              have hj : j < xs.length := by omega
              have hjd : j < ds.length := by omega
              have hq2 := Same.tq (hs_msk dr2.sm hC.hd hC.hb) hq1
              have ha2 := (ha0.mono (hs_msk dr1.sm hC.hd hC.hb)).mono (hs_msk dr2.sm hC.hd hC.hb)
              have ck2 : Ck S d b c n2 H2 := (ck0.dr dr1).dr dr2
              refine ⟨.ref a, rfl, .int j, rfl, j, rfl, slA_hs (K := K) ck2 hq2 fun p1 H3 s3 hp1 => ?_⟩
              have d3 := dr2.more s3
              have hq3 := Same.tq (hs_mono s3) hq2
              have ha3 := ha2.mono (hs_mono (S := S) s3)
              have pd : bg L B0 ds[j] = true := bgAll_iff.mp hpl.2 _ (List.getElem_mem _)
              have hdj : Da K (hs S H3) xs[j] ds[j] := by
                obtain ⟨e, he, hd⟩ := DaAll.get ha3 (List.getElem?_eq_getElem hj)
                rw [List.getElem?_eq_getElem hjd] at he
                cases he
                exact hd
              refine ⟨.ref d, rfl, .ref a, rfl, .int j, rfl, a, xs, j, xs[j], rfl, rfl, Same.tq hs_sub hq3, atI_nat (List.getElem?_eq_getElem hj), .int deep, rfl, deep, 1, rfl, rfl, S, d, b, c, n2, xs[j], ds[j], deep - 1, L, B0, ?_, ck2.same s3, by omega, by omega, by omega, l2, l50, b59, b80, pd, hdj, fun v' e' n4 H4 hb dr4 hv' => ?_⟩
              · show [V.ref d, xs[j], V.int ((deep : Int) - 1)] = [V.ref d, xs[j], V.int ((deep - 1 : Nat) : Int)]
                have : ((deep - 1 : Nat) : Int) = (deep : Int) - 1 := by omega
                rw [this]
              have hp14 := Same.tq (hs_msk dr4.sm hC.hd hC.hb) hp1
              have hq4 := Same.tq (hs_msk dr4.sm hC.hd hC.hb) hq3
              have ha4 := ha3.mono (hs_msk dr4.sm hC.hd hC.hb)
              refine ⟨Pb.sz (n := 1) (by decide), fun t ht => ?_⟩
              have st : Same H4 (upd H4 t (.tup [v'])) := same_upd ht
              have wt' : SqT K (hs S (upd H4 t (.tup [v']))) t [v'] := SqT.of (hs_at (((ck2.same s3).dr dr4).out ht) upd_same)
              have hp15 := Same.tq (hs_mono (S := S) st) hp14
              have hq5 := Same.tq (hs_mono (S := S) st) hq4
              have ha5 := ha4.mono (hs_mono (S := S) st)
              have hv5 := hv'.mono (hs_mono (S := S) st)
              have dk5 : Ck S d b c n4 (upd H4 t (.tup [v'])) := ((ck2.same s3).dr dr4).same st
              generalize upd H4 t (.tup [v']) = H5 at *
              have cl : (cutV xs none (some (j : Int))).length ≤ xs.length := cutV_length _ _ _
              refine catA_hs (K := K) dk5 hp15 wt' (by simp; omega) fun p2 H6 s6 hp2 => ?_
              refine ⟨.ref a, rfl, .int j, rfl, j, 1, rfl, rfl, j + 1, rfl, ?_⟩
              dsimp only [tNoPart]
              have dk6 := dk5.same s6
              have hq6 := Same.tq (hs_mono (S := S) s6) hq5
              refine slA_hs (K := K) dk6 hq6 fun p3 H7 s7 hp3 => ?_
              have dk7 := dk6.same s7
              have hp27 := Same.tq (hs_mono (S := S) s7) hp2
              have cl3 : (cutV xs (some ((j : Int) + 1)) none).length ≤ xs.length := cutV_length _ _ _
              refine catA_hs (K := K) dk7 hp27 hp3 (by simp; omega) fun p4 H8 s8 hp4 => ?_
              have s58 := (s6.trans s7).trans s8
              have drAll : Dr d b c (n + 4 * deep + 4) H n4 H8 := ((((dr0.step dr1).step dr2).more s3).step (k := 4 * ((deep - 1 : Nat) : Int) + 4) (by
                have e : n2 + 4 * ((deep - 1 : Nat) : Int) + 4 = n2 + (4 * ((deep - 1 : Nat) : Int) + 4) := by omega
                rw [← e]
                exact dr4)).more (st.trans s58) |>.wide (by omega)
              refine q _ (.tuple (cutG ds none (some (j : Int)) ++ [e'] ++ cutG ds (some ((j : Int) + 1)) none)) n4 H8 ?_ drAll ?_
              · rw [cutG_take (by omega), show (j : Int) + 1 = ((j + 1 : Nat) : Int) by omega, cutG_drop (by omega), List.append_assoc]
                have split : ds = ds.take j ++ ds[j] :: ds.drop (j + 1) := by
                  rw [← List.drop_eq_getElem_cons hjd, List.take_append_drop]
                have g := bntG_mid (L := L) (B := B0) (a := ds.take j) (r := ds.drop (j + 1)) (x := ds[j]) (y := e') (by rw [← split]; exact hpl.2) (by rw [← split]; exact hpl.1) hb
                rw [← split] at g
                exact g
              · have m8 := hs_mono (S := S) s58
                exact .tup hp4 (((((ha5.mono m8).cut none (some (j : Int)))).append (.cons (hv5.mono m8) .nil)).append ((ha5.mono m8).cut (some ((j : Int) + 1)) none))
      | none => exact iteF (iteF ⟨rfl, n, (Dr.refl hD).wide (by omega)⟩)
      | bool _ => exact iteF (iteF ⟨rfl, n, (Dr.refl hD).wide (by omega)⟩)
      | str _ => exact iteF (iteF ⟨rfl, n, (Dr.refl hD).wide (by omega)⟩)
      | list _ => exact iteF (iteF ⟨rfl, n, (Dr.refl hD).wide (by omega)⟩)
      | dict _ => exact iteF (iteF ⟨rfl, n, (Dr.refl hD).wide (by omega)⟩)
    · rintro σ' H1 ⟨rfl, n1, dr1⟩
      have le1 := dr1.le
      have hx1 := hx.mono (hs_msk dr1.sm hC.hd hC.hb)
      have ck1 : Ck S d b c n1 H1 := hC.dr dr1
      refine ⟨x, rfl, x, .ty "tuple", _, _, _, rfl, .ty "tuple", (hx1.mono hs_sub).ty, kit_ty (kit_isI "tuple" e (by decide)), _, rfl, ?_⟩
      cases e with
      | int i =>
        cases hx
        have hi : i.natAbs ≤ B0 := by simpa only [bg, decide_eq_true_eq] using hpl
        have hz : ∃ z, strV (V.int i) = some z := ⟨_, rfl⟩
        obtain ⟨z, hz⟩ := hz
        obtain ⟨b1, b2, b3, b4, b5⟩ := bntG_num (L := L) (B := B0) (e := (PyData.int i)) (v := (V.int i)) (i := i) (z := z) (by simp [wt]) rfl b80 (Nat.le_trans (Nat.one_le_pow _ _ (by decide)) b59) (.inl ⟨rfl, rfl, hi⟩) hz
        refine iteF ⟨(V.int i), rfl, (V.int i), .ty "int", _, _, _, rfl, .ty "int", .base (.int i), kit_ty (kit_isI "int" (PyData.int i) (by decide)), _, rfl, iteT ?_⟩
        refine ⟨(V.int i), rfl, i, 1, rfl, rfl, (V.int i), rfl, i, 1, rfl, rfl, (V.int i), rfl, (V.int i), i, z, rfl, rfl, (log_of_80 (by omega)), hz, (V.int i), rfl, (PyData.int i), .int 1, .int i, .int 1, rfl, rfl, .ref d, rfl, S, d, b, c, n1, rfl, ck1, by omega, fun v e' n2 H2 he dr2 hv => ⟨Pb.sz (n := 6) (by decide), fun l hl => ?_⟩⟩
        have le2 := dr2.le
        have good : ∀ y ∈ [PyData.int (i + 1), .int (i - 1), .str z, .bool (PyData.eqv (PyData.int i) (.int 1)), .int 0, e'], BntG L B0 (PyData.int i) y := by
          intro y hy
          simp only [List.mem_cons, List.not_mem_nil, or_false] at hy
          rcases hy with rfl | rfl | rfl | rfl | rfl | rfl
          · exact b1
          · exact b2
          · exact b3
          · exact b4 _
          · exact b5
          · exact bntG_odd l2 b59 he
        generalize PyData.eqv (PyData.int i) (.int 1) = eb at *
        have sl := hs_mono (S := S) (same_upd (o := .lst [V.int (i + 1), V.int (i - 1), V.str z, V.bl eb, V.int 0, v]) hl)
        have all : DaAll K (hs S (upd H2 l (.lst [V.int (i + 1), V.int (i - 1), V.str z, V.bl eb, V.int 0, v]))) [V.int (i + 1), V.int (i - 1), V.str z, V.bl eb, V.int 0, v]
            [.int (i + 1), .int (i - 1), .str z, .bool eb, .int 0, e'] := .cons (.int _) (.cons (.int _) (.cons (.str _) (.cons (.bl _) (.cons (.int _) (.cons (hv.mono sl) .nil)))))
        have dr3 := (dr1.step dr2).new (o := .lst [V.int (i + 1), V.int (i - 1), V.str z, V.bl eb, V.int 0, v]) hl
        have w : Nw S d b c _ l (.lst [V.int (i + 1), V.int (i - 1), V.str z, V.bl eb, V.int 0, v]) := Nw.new (ck1.dr dr2) hl
        exact ⟨.ref d, rfl, pick (K := K) (N := 6) all good hC.hd hC.hb dr3 w (by omega) (by decide) (by decide) rfl fun v e' n' H' hb dr hv => q v e' n' H' hb (dr.wide (by omega)) hv⟩
      | bool k =>
        cases hx
        have hz : ∃ z, strV (V.bl k) = some z := ⟨_, rfl⟩
        obtain ⟨z, hz⟩ := hz
        obtain ⟨b1, b2, b3, b4, b5⟩ := bntG_num (L := L) (B := B0) (e := (PyData.bool k)) (v := (V.bl k)) (i := (if k = true then (1 : Int) else 0)) (z := z) (by simp [wt]) rfl b80 (Nat.le_trans (Nat.one_le_pow _ _ (by decide)) b59) (.inr ⟨k, rfl, rfl, rfl⟩) hz
        refine iteF ⟨(V.bl k), rfl, (V.bl k), .ty "int", _, _, _, rfl, .ty "int", .base (.bl k), kit_ty (kit_isI "int" (PyData.bool k) (by decide)), _, rfl, iteT ?_⟩
        refine ⟨(V.bl k), rfl, (if k = true then (1 : Int) else 0), 1, rfl, rfl, (V.bl k), rfl, (if k = true then (1 : Int) else 0), 1, rfl, rfl, (V.bl k), rfl, (V.bl k), (if k = true then (1 : Int) else 0), z, rfl, rfl, (by cases k <;> decide), hz, (V.bl k), rfl, (PyData.bool k), .int 1, .bl k, .int 1, rfl, rfl, .ref d, rfl, S, d, b, c, n1, rfl, ck1, by omega, fun v e' n2 H2 he dr2 hv => ⟨Pb.sz (n := 6) (by decide), fun l hl => ?_⟩⟩
        have le2 := dr2.le
        have good : ∀ y ∈ [PyData.int ((if k = true then (1 : Int) else 0) + 1), .int ((if k = true then (1 : Int) else 0) - 1), .str z, .bool (PyData.eqv (PyData.bool k) (.int 1)), .int 0, e'], BntG L B0 (PyData.bool k) y := by
          intro y hy
          simp only [List.mem_cons, List.not_mem_nil, or_false] at hy
          rcases hy with rfl | rfl | rfl | rfl | rfl | rfl
          · exact b1
          · exact b2
          · exact b3
          · exact b4 _
          · exact b5
          · exact bntG_odd l2 b59 he
        generalize PyData.eqv (PyData.bool k) (.int 1) = eb at *
        have sl := hs_mono (S := S) (same_upd (o := .lst [V.int ((if k = true then (1 : Int) else 0) + 1), V.int ((if k = true then (1 : Int) else 0) - 1), V.str z, V.bl eb, V.int 0, v]) hl)
        have all : DaAll K (hs S (upd H2 l (.lst [V.int ((if k = true then (1 : Int) else 0) + 1), V.int ((if k = true then (1 : Int) else 0) - 1), V.str z, V.bl eb, V.int 0, v]))) [V.int ((if k = true then (1 : Int) else 0) + 1), V.int ((if k = true then (1 : Int) else 0) - 1), V.str z, V.bl eb, V.int 0, v]
            [.int ((if k = true then (1 : Int) else 0) + 1), .int ((if k = true then (1 : Int) else 0) - 1), .str z, .bool eb, .int 0, e'] := .cons (.int _) (.cons (.int _) (.cons (.str _) (.cons (.bl _) (.cons (.int _) (.cons (hv.mono sl) .nil)))))
        have dr3 := (dr1.step dr2).new (o := .lst [V.int ((if k = true then (1 : Int) else 0) + 1), V.int ((if k = true then (1 : Int) else 0) - 1), V.str z, V.bl eb, V.int 0, v]) hl
        have w : Nw S d b c _ l (.lst [V.int ((if k = true then (1 : Int) else 0) + 1), V.int ((if k = true then (1 : Int) else 0) - 1), V.str z, V.bl eb, V.int 0, v]) := Nw.new (ck1.dr dr2) hl
        exact ⟨.ref d, rfl, pick (K := K) (N := 6) all good hC.hd hC.hb dr3 w (by omega) (by decide) (by decide) rfl fun v e' n' H' hb dr hv => q v e' n' H' hb (dr.wide (by omega)) hv⟩
      | tuple ds =>
        cases hx with
        | @tup a xs _ hq ha =>
          have hlen := DaAll.len ha
          simp only [bg, Bool.and_eq_true, decide_eq_true_eq] at hpl
          have hq1 := Same.tq (hs_msk dr1.sm hC.hd hC.hb) hq
          have ha1 := ha.mono (hs_msk dr1.sm hC.hd hC.hb)
          refine iteT ⟨.ref a, rfl, 1, rfl, ?_⟩
          dsimp only [tNoPart]
          refine slA_hs (K := K) ck1 hq1 fun p1 H2 s2 hp1 => ?_
          have dk2 := ck1.same s2
          have hq2 := Same.tq (hs_mono (S := S) s2) hq1
          refine ⟨.ref a, rfl, .ref a, rfl, 1, rfl, -1, rfl, ?_⟩
          dsimp only [tNoPart]
          refine slA_hs (K := K) dk2 hq2 fun p2 H3 s3 hp2 => ?_
          have dk3 := dk2.same s3
          have hq3 := Same.tq (hs_mono (S := S) s3) hq2
          have cl : (cutV xs (some (-1)) none).length ≤ xs.length := cutV_length _ _ _
          refine catA_hs (K := K) dk3 hq3 hp2 (by omega) fun p3 H4 s4 hp3 => ?_
          have dk4 := dk3.same s4
          have hq4 := Same.tq (hs_mono (S := S) s4) hq3
          refine ⟨.ref a, rfl, a, xs, rfl, Same.tq hs_sub hq4, fun p4 h4 => ?_⟩
          have s5 : Same H4 (upd H4 p4 (.tup xs.reverse)) := same_upd h4
          have dk5 := dk4.same s5
          have hp4 : SqT K (hs S (upd H4 p4 (.tup xs.reverse))) p4 xs.reverse := SqT.of (hs_at (dk4.out h4) upd_same)
          have hq5 := Same.tq (hs_mono (S := S) s5) hq4
          generalize upd H4 p4 (.tup xs.reverse) = H5 at *
          refine ⟨.ref a, rfl, a, xs, rfl, .inr (Same.tq hs_sub hq5), fun l5 h5 => ?_⟩
          have s6 : Same H5 (upd H5 l5 (.lst xs)) := same_upd h5
          have dk6 := dk5.same s6
          have hl5 : SqL K (hs S (upd H5 l5 (.lst xs))) l5 xs := SqL.of (hs_at (dk5.out h5) upd_same)
          generalize upd H5 l5 (.lst xs) = H6 at *
          refine ⟨.ref d, rfl, S, d, b, c, n1, rfl, dk6, by omega, fun v e' n2 H7 he dr7 hv => ⟨Pb.sz (n := 5) (by decide), fun l hl => ?_⟩⟩
          have le7 := dr7.le
          have m26 : Same (hs S H2) (hs S H6) := hs_mono (((s3.trans s4).trans s5).trans s6)
          have m16 : Same (hs S H1) (hs S H6) := hs_mono ((((s2.trans s3).trans s4).trans s5).trans s6)
          have m46 : Same (hs S H4) (hs S H6) := hs_mono (s5.trans s6)
          have m56 : Same (hs S H5) (hs S H6) := hs_mono s6
          have drA := dr1.more ((((s2.trans s3).trans s4).trans s5).trans s6)
          have drB := drA.step dr7
          have w : Nw S d b c _ l (.lst [V.ref p1, V.ref p3, V.ref p4, V.ref l5, v]) := Nw.new (dk6.dr dr7) hl
          have dr8 := drB.new (o := .lst [V.ref p1, V.ref p3, V.ref p4, V.ref l5, v]) hl
          have m78 : Same (hs S H7) (hs S (upd H7 l (.lst [V.ref p1, V.ref p3, V.ref p4, V.ref l5, v]))) := hs_mono (same_upd hl)
          have m68 := (hs_msk dr7.sm hC.hd hC.hb).trans m78
          have a8 := (ha1.mono m16).mono m68
          have all : DaAll K (hs S (upd H7 l (.lst [V.ref p1, V.ref p3, V.ref p4, V.ref l5, v]))) [V.ref p1, V.ref p3, V.ref p4, V.ref l5, v] [.tuple (cutG ds (some 1) none), .tuple (ds ++ cutG ds (some (-1)) none), .tuple ds.reverse, .list ds, e'] :=
            .cons (.tup (Same.tq (m26.trans m68) hp1) (a8.cut _ _)) (.cons (.tup (Same.tq (m46.trans m68) hp3) (a8.append (a8.cut _ _))) (.cons (.tup (Same.tq (m56.trans m68) hp4) a8.rev) (.cons (.lst (Same.seq m68 hl5) a8) (.cons (hv.mono m78) .nil))))
          have len1 : ∀ lo hi, (cutG ds lo hi).length ≤ L := fun lo hi => Nat.le_trans (cutG_sub ds lo hi).length_le hpl.1
          have wt1 : ∀ lo hi, wtAll (cutG ds lo hi) ≤ wtAll ds := fun lo hi => wtAll_sub (cutG_sub ds lo hi)
          have good : ∀ y ∈ [PyData.tuple (cutG ds (some 1) none), .tuple (ds ++ cutG ds (some (-1)) none), .tuple ds.reverse, .list ds, e'], BntG L B0 (.tuple ds) y := by
            intro y hy
            simp only [List.mem_cons, List.not_mem_nil, or_false] at hy
            rcases hy with rfl | rfl | rfl | rfl | rfl
            · exact (bntG_seq hpl.2 (fun y hy => (cutG_sub _ _ _).subset hy) (by have := len1 (some 1) none; omega) (by have := wt1 (some 1) none; omega)).1
            · exact (bntG_seq hpl.2 (fun y hy => (List.mem_append.mp hy).elim id fun h => (cutG_sub _ _ _).subset h) (by rw [List.length_append]; have := cutG_last ds; omega) (by rw [wtAll_append]; have := wt1 (some (-1)) none; omega)).1
            · exact (bntG_seq hpl.2 (fun y hy => List.mem_reverse.mp hy) (by rw [List.length_reverse]; omega) (by rw [wtAll_rev]; omega)).1
            · exact (bntG_seq hpl.2 (fun y hy => hy) (by omega) (by omega)).2
            · exact bntG_odd l2 b59 he
          exact ⟨.ref d, rfl, pick (K := K) (N := 5) all good hC.hd hC.hb dr8 w (by omega) (by decide) (by decide) rfl fun v e' n' H' hb dr hv => q v e' n' H' hb (dr.wide (by omega)) hv⟩
      | none =>
        have ht := (hx1.mono hs_sub).ty
        refine iteF ⟨x, rfl, x, .ty "int", _, _, _, rfl, .ty "int", ht, kit_ty (kit_isI "int" (.none) (by decide)), _, rfl, iteF ?_⟩
        exact ⟨.ref d, rfl, S, d, b, c, n1, rfl, ck1, by omega, fun v e' n2 H2 he dr2 hv => q v e' n2 H2 (bntG_odd l2 b59 he) ((dr1.step dr2).wide (by omega)) hv⟩
      | str z =>
        have ht := (hx1.mono hs_sub).ty
        refine iteF ⟨x, rfl, x, .ty "int", _, _, _, rfl, .ty "int", ht, kit_ty (kit_isI "int" (.str z) (by decide)), _, rfl, iteF ?_⟩
        exact ⟨.ref d, rfl, S, d, b, c, n1, rfl, ck1, by omega, fun v e' n2 H2 he dr2 hv => q v e' n2 H2 (bntG_odd l2 b59 he) ((dr1.step dr2).wide (by omega)) hv⟩
      | list zs =>
        have ht := (hx1.mono hs_sub).ty
        refine iteF ⟨x, rfl, x, .ty "int", _, _, _, rfl, .ty "int", ht, kit_ty (kit_isI "int" (.list zs) (by decide)), _, rfl, iteF ?_⟩
        exact ⟨.ref d, rfl, S, d, b, c, n1, rfl, ck1, by omega, fun v e' n2 H2 he dr2 hv => q v e' n2 H2 (bntG_odd l2 b59 he) ((dr1.step dr2).wide (by omega)) hv⟩
      | dict zs =>
        have ht := (hx1.mono hs_sub).ty
        refine iteF ⟨x, rfl, x, .ty "int", _, _, _, rfl, .ty "int", ht, kit_ty (kit_isI "int" (.dict zs) (by decide)), _, rfl, iteF ?_⟩
        exact ⟨.ref d, rfl, S, d, b, c, n1, rfl, ck1, by omega, fun v e' n2 H2 he dr2 hv => q v e' n2 H2 (bntG_odd l2 b59 he) ((dr1.step dr2).wide (by omega)) hv⟩
abbrev sSame : Stmt := topS 21
theorem scSame : FnScope ["_law_found", "_law_due", "_law_k"] ["_law_found", "_law_due"] (defScope sSame) := ⟨rfl, rfl, rfl, by decide +kernel, rfl, by decide +kernel, by decide +kernel⟩
theorem ok_same0 {f : Addr} {fd : FuncData} : FnOk P w K mg base CX0 1 f fd ["_law_found", "_law_due"] (spV (rSame K 0)) := by
  refine ⟨fun vs H Q E h => ?_, fun A outer s H args us vs Q E hr he hb hv h => ?_⟩
  · obtain ⟨z, ⟨x, y, e, _, _, _, n, _⟩, _⟩ := h
    exact absurd n (Nat.not_lt_zero _)
  · obtain ⟨z, ⟨x, y, e, _, _, _, n, _⟩, _⟩ := h
    exact absurd n (Nat.not_lt_zero _)
set_option maxHeartbeats 1000000 in
theorem ok_same1 {f : Addr} {fd : FuncData} {δ : Nat} (F : Fun K "_law_same" "_law_same" sSame f fd) (B : Bn mg) (c_law_same : Cl P w K mg base (δ + 1) "_law_same" ["_law_found", "_law_due"] (spV (rSame K δ))) :
    FnOk P w K mg base CX0 (δ + 2) f fd ["_law_found", "_law_due"] (spV (rSame K (δ + 1))) := by
  refine F.ok scSame (fun vs H Q E h => ?_) (fun cdv A outer s H vs Q E hr h => ?_)
  · obtain ⟨z, ⟨x, y, e, rfl, _⟩, _⟩ := h
    rfl
  · obtain ⟨z, ⟨x, y, e, rfl, hx, hy, hd, hok, hnd, rfl⟩, q⟩ := h
    have nd := scSame.nd
    refine ⟨_, (pss_cons (ps_if (pt_val (pe_callB call_isiT rfl B.isinstance bt_isinstance (pa_cons (pv 1) (pa_cons (pe_tup (pa_cons (pe_ty rfl B.tuple bt_tuple) (pa_cons (pe_ty rfl B.list bt_list) pa_nil))) pa_nil)))) (pss_cons (ps_if (pt_cmpR op_ne (pe_callB call_isi rfl B.isinstance bt_isinstance (pa_cons (pv 0) (pa_cons (pe_ty rfl B.tuple bt_tuple) pa_nil))) (pe_callB call_isi rfl B.isinstance bt_isinstance (pa_cons (pv 1) (pa_cons (pe_ty rfl B.tuple bt_tuple) pa_nil))) (nomark _)) (pss_one (ps_ret pe_bl)) pss_nil)
      (pss_cons (ps_if (pt_cmpR op_ne (pe_callB call_isi rfl B.isinstance bt_isinstance (pa_cons (pv 0) (pa_cons (pe_ty rfl B.list bt_list) pa_nil))) (pe_callB call_isi rfl B.isinstance bt_isinstance (pa_cons (pv 1) (pa_cons (pe_ty rfl B.list bt_list) pa_nil))) (nomark _)) (pss_one (ps_ret pe_bl)) pss_nil)
      (pss_cons (ps_if (pt_cmpR op_ne (pe_callB call_len_seq rfl B.len bt_len (pa_cons (pv 0) pa_nil)) (pe_callB call_len_seq rfl B.len bt_len (pa_cons (pv 1) pa_nil)) (nomark _)) (pss_one (ps_ret pe_bl)) pss_nil)
      (pss_one (ps_ret (pe_cmpR (op_eq0 hr.units) (pe_lc (own := [("_law_k", 2)]) (g := gName 2) rfl nd (pi_range1 rfl B.range (pa_cons (pe_callB call_len_seq rfl B.len bt_len (pa_cons (pv 1) pa_nil)) pa_nil)) (blkOk_by (own := [("_law_k", 2)]) (N := ["_law_found", "_law_due", "_law_k"]) (sc := defScope sSame) (by decide +kernel)) (fun _ _ _ _ _ => (pg_name (i := 2) nd rfl (Or.inl rfl))) (fun _ _ _ _ _ => pts_one (pt_not (pt_val (pe_k c_law_same hr (by omega) rfl (pa_cons (pe_ix (ix_anyK (K := K) rfl) (pv 0) (pv 2) (fun _ _ => rfl)) (pa_cons (pe_ix (ix_anyK (K := K) rfl) (pv 1) (pv 2) (fun _ _ => rfl)) pa_nil)))))) (fun _ _ _ _ _ => (pv 2))) (pe_lst pa_nil) (nomark _))))))) pss_nil)
      (pss_cons (ps_if (pt_val (pe_callB call_isi rfl B.isinstance bt_isinstance (pa_cons (pv 1) (pa_cons (pe_ty rfl B.dict bt_dict) pa_nil)))) (pss_one (ps_ret (pe_and (pe_callB call_isi rfl B.isinstance bt_isinstance (pa_cons (pv 0) (pa_cons (pe_ty rfl B.dict bt_dict) pa_nil))) (pe_one (pe_cmpR op_eq (pv 0) (pv 1) (nomark _)))))) pss_nil)
      (pss_cons (ps_if (pt_cmpR op_isN (pv 1) pe_non (nomark _)) (pss_one (ps_ret (pe_cmpR op_isN (pv 0) pe_non (nomark _)))) pss_nil)
      (pss_cons (ps_if (pt_val (pe_callB call_isi rfl B.isinstance bt_isinstance (pa_cons (pv 1) (pa_cons (pe_ty rfl B.str bt_str) pa_nil)))) (pss_one (ps_ret (pe_and (pe_callB call_isi rfl B.isinstance bt_isinstance (pa_cons (pv 0) (pa_cons (pe_ty rfl B.str bt_str) pa_nil))) (pe_one (pe_cmpR op_eq (pv 0) (pv 1) (nomark _)))))) pss_nil)
      (pss_one (ps_ret (pe_and (pe_callB call_isi rfl B.isinstance bt_isinstance (pa_cons (pv 0) (pa_cons (pe_ty rfl B.int bt_int) pa_nil))) (pe_and (pe_cmpR op_eq (pe_callB call_isi rfl B.isinstance bt_isinstance (pa_cons (pv 0) (pa_cons (pe_ty rfl B.bool bt_bool) pa_nil))) (pe_callB call_isi rfl B.isinstance bt_isinstance (pa_cons (pv 1) (pa_cons (pe_ty rfl B.bool bt_bool) pa_nil))) (nomark _)) (pe_one (pe_cmpR op_eq (pv 0) (pv 1) (nomark _))))))))))), ?_⟩
    refine Evl.q_when (Evl.et_B (ev_isi2 (T := "tuple") (U := "list") (Evl.ev_var rfl) hy)) (fun hb H1 e1 => ?_) (fun hb H1 e1 => ?_)
    · obtain ⟨a, xs, es, rfl, hsx, hax, he⟩ := hx.seq hb
      obtain ⟨b, ys, es', rfl, hsy, hay, he'⟩ := hy.seq hb
      obtain rfl : es' = es := by
        rcases he with rfl | rfl <;> rcases he' with h' | h' <;> cases h' <;> rfl
      have hx1 := hx.mono e1
      have hy1 := hy.mono e1
      obtain ⟨l60, each⟩ := seq_parts he hd hok hnd
      have lx := DaAll.len hax
      have ly := DaAll.len hay
      refine Evl.q_when (b := false) (Evl.et_is (Evl.et_test (Evl.ev_op (ev_isi (T := "tuple") (Evl.ev_var rfl) hx1) (ev_isi (T := "tuple") (Evl.ev_var rfl) hy1) (Evl.rv_ne rfl))) (by simp)) (fun z => by cases z) (fun _ H2 e2 => ?_)
      refine Evl.q_when (b := false) (Evl.et_is (Evl.et_test (Evl.ev_op (ev_isi (T := "list") (Evl.ev_var rfl) (hx1.mono e2)) (ev_isi (T := "list") (Evl.ev_var rfl) (hy1.mono e2)) (Evl.rv_ne rfl))) (by simp)) (fun z => by cases z) (fun _ H3 e3 => ?_)
      have e13 := (e1.trans e2).trans e3
      refine Evl.q_when (b := false) (Evl.et_is (Evl.et_test (Evl.ev_op (ev_len' (K := K) (xs := xs) (Evl.ev_var rfl) (Same.sq e13 hsx)) (ev_len' (K := K) (xs := ys) (Evl.ev_var rfl) (Same.sq e13 hsy)) (Evl.rv_ne rfl))) (by simp [lx, ly])) (fun z => by cases z) (fun _ H4 e4 => ?_)
      have e14 := e13.trans e4
      refine Evl.s_ret (Evl.ev_is (ev_eq0 (K := K) (Evl.el_lcR1 (n := (ys.length : Int)) (fun _ => false) (fun i => .int i) (Evl.ea_cons (ev_len' (K := K) (xs := ys) (Evl.ev_var rfl) (Same.sq e14 hsy)) Evl.ea_nil) (by omega) (fun _ => rfl) (fun i H5 e5 hi => ?_) (fun i H5 e5 hi hf => by cases hf))) ?_) (fun H5 e5 => q H5 (e14.trans e5))
      · have hi1 : i < ys.length := by omega
        have hi2 : i < xs.length := by omega
        obtain ⟨u, hu, hu'⟩ := DaAll.get hay (List.getElem?_eq_getElem hi1)
        obtain ⟨u2, hu2, hu2'⟩ := DaAll.get hax (List.getElem?_eq_getElem hi2)
        obtain rfl : u2 = u := by
          rw [hu] at hu2
          exact (Option.some.inj hu2).symm
        have e15 := e14.trans e5
        have ok := each _ (List.mem_of_getElem? hu)
        refine Evl.et_is (Evl.et_not (Evl.et_B (Evl.ev_call (Evl.ea_cons (Evl.ev_op (Evl.ev_var rfl) (Evl.ev_var rfl) (rv_ixA (Same.sq e15 hsx) (atI_nat (List.getElem?_eq_getElem hi2)))) (Evl.ea_cons (Evl.ev_op (Evl.ev_var rfl) (Evl.ev_var rfl) (rv_ixA (Same.sq e15 hsy) (atI_nat (List.getElem?_eq_getElem hi1)))) Evl.ea_nil)) (spV_of fun H6 e6 => ⟨_, _, u2, rfl, hu2'.mono (e15.trans e6), hu'.mono (e15.trans e6), ok.1, ok.2.1, ok.2.2, rfl⟩)))) rfl
      · unfold Evl.given
        simp
    · have hx1 := hx.mono e1
      have hy1 := hy.mono e1
      have dict : isI "dict" e = false := by
        cases e with
        | dict kvs => simp [PyData.hasDict] at hnd
        | _ => rfl
      refine Evl.q_when (b := false) (Evl.et_is (Evl.et_B (ev_isi (T := "dict") (Evl.ev_var rfl) hy1)) dict) (fun z => by cases z) (fun _ H2 e2 => ?_)
      have hx2 := hx1.mono e2
      have hy2 := hy1.mono e2
      refine Evl.q_when (Evl.et_test (ev_isN (Evl.ev_var rfl))) (fun hn H3 e3 => ?_) (fun hn H3 e3 => ?_)
      · obtain rfl : y = .non := of_decide_eq_true hn
        have : e = .none := by cases hy; rfl
        subst this
        cases hx
        exact Evl.s_ret (Evl.ev_is (ev_isN (Evl.ev_var rfl)) rfl) fun H4 e4 => q H4 (((e1.trans e2).trans e3).trans e4)
      · have hx3 := hx2.mono e3
        have hy3 := hy2.mono e3
        refine Evl.q_when (Evl.et_B (ev_isi (T := "str") (Evl.ev_var rfl) hy3)) (fun hs H4 e4 => ?_) (fun hs H4 e4 => ?_)
        · have e04 := ((e1.trans e2).trans e3).trans e4
          obtain ⟨t, rfl⟩ : ∃ t, e = .str t := by
            cases e with
            | str t => exact ⟨t, rfl⟩
            | none => simp [isI, isN, tyN] at hs
            | bool _ => simp [isI, isN, tyN] at hs
            | int _ => simp [isI, isN, tyN] at hs
            | list _ => simp [isI, isN, tyN] at hs
            | tuple _ => simp [isI, isN, tyN] at hs
            | dict _ => simp [isI, isN, tyN] at hs
          cases hx
          cases hy
          exact Evl.s_ret (Evl.ev_is (Evl.ev_andV (ev_isi (K := K) (T := "str") (Evl.ev_var rfl) (.str t)) fun _ => Evl.ev_op (Evl.ev_var rfl) (Evl.ev_var rfl) (Evl.rv_eq (x := .str t) (y := .str t) rfl)) (by simp [isI, isN, tyN])) fun H5 e5 => q H5 (e04.trans e5)
        · have e04 := ((e1.trans e2).trans e3).trans e4
          have fin : ∀ (v : V) (d : PyData), (∀ H', Da K H' v d) → isI "int" d = true → scal v v = true → x = v → y = v → (tRet (tAndV (tCB (rIsi K) (tCons (tVar 0) (tCons (tC (.ty "int")) tNil))) (tAndV (tOp rEq (tCB (rIsi K) (tCons (tVar 0) (tCons (tC (.ty "bool")) tNil))) (tCB (rIsi K) (tCons (tVar 1) (tCons (tC (.ty "bool")) tNil)))) (tOp rEq (tVar 0) (tVar 1)))) : TS) { nx := fun _ H' => Q .non H', rt := Q } (start ["_law_found", "_law_due", "_law_k"] [x, y]) H4 := by
            rintro v d hv hi hsc rfl rfl
            exact Evl.s_ret (Evl.ev_is (Evl.ev_andV (ev_isi (K := K) (T := "int") (Evl.ev_var rfl) (hv _)) fun _ => Evl.ev_andV (Evl.ev_op (ev_isi (K := K) (T := "bool") (Evl.ev_var rfl) (hv _)) (ev_isi (K := K) (T := "bool") (Evl.ev_var rfl) (hv _)) (Evl.rv_eq rfl)) fun _ => Evl.ev_op (Evl.ev_var rfl) (Evl.ev_var rfl) (Evl.rv_eq hsc)) (by simp [hi])) fun H5 e5 => q H5 (e04.trans e5)
          cases hx with
          | bl c =>
            cases hy
            exact fin (.bl c) _ (fun _ => .bl c) rfl rfl rfl rfl
          | int i =>
            cases hy
            exact fin (.int i) _ (fun _ => .int i) rfl rfl rfl rfl
          | non =>
            cases hy
            simp at hn
          | str t => simp [isI, isN, tyN] at hs
          | lst _ _ => simp [isI, isN, tyN] at hb
          | tup _ _ => simp [isI, isN, tyN] at hb
          | emp _ => simp [isI, isN, tyN] at dict
end
end L21

set_option Elab.async false
set_option linter.all false
set_option maxRecDepth 100000
namespace L21
open PySem PySem.Spec PyProof.Rows L2 Pb
set_option maxHeartbeats 4000000 in
theorem all_mk {P : Program} {w : World} {K : PySem.W.Frag} {mg : Str → Option Value} {fa ca cb cc cd ce cf oo : Addr} {h : Heap} (X : K.In h) (G : h.Ns mainGlobals mg) (hfa : mg "law" = some (.ref fa)) (B : Bx mg)
    (goo : mg "OrderError" = some (.ref oo))
    (oohs : PySem.W.subIn K (.ref oo) (.type "BaseException") = some true)
    (oohd : PySem.W.hasDictIn K oo = true)
    (oott : PySem.W.typeIn K (.ref oo) = some (.type "type"))
    (gca : mg "NoDemand" = some (.ref ca))
    (cahg : PySem.W.findIn K (.ref ca) "__getattribute__" = some (some (.builtin "BaseException.__getattribute__")))
    (cahk : PySem.W.findIn K (.ref ca) "__getattr__" = some none)
    (cahs : PySem.W.subIn K (.ref ca) (.type "BaseException") = some true)
    (cahd : PySem.W.hasDictIn K ca = true)
    (caha : PySem.W.findIn K (.ref ca) "__class__" = some (some (.builtin "object.__class__")))
    (cahm : PySem.W.mroIn K ca (.type "object") = some true)
    (catt : PySem.W.typeIn K (.ref ca) = some (.type "type"))
    (cakk : PySem.W.keepIn K (.ref ca) = true)
    (caii : PySem.W.isClsIn K ca = true)
    (casv : PySem.W.subIn K (.ref ca) (.type "ValueError") = some true)
    (caco : PySem.W.subIn K (.ref ca) (.ref oo) = some true)
    (cano : PySem.W.findIn K (.ref ca) "demand" = some none)
    (gcb : mg "NoOffer" = some (.ref cb))
    (cbhg : PySem.W.findIn K (.ref cb) "__getattribute__" = some (some (.builtin "BaseException.__getattribute__")))
    (cbhk : PySem.W.findIn K (.ref cb) "__getattr__" = some none)
    (cbhs : PySem.W.subIn K (.ref cb) (.type "BaseException") = some true)
    (cbhd : PySem.W.hasDictIn K cb = true)
    (cbha : PySem.W.findIn K (.ref cb) "__class__" = some (some (.builtin "object.__class__")))
    (cbhm : PySem.W.mroIn K cb (.type "object") = some true)
    (cbtt : PySem.W.typeIn K (.ref cb) = some (.type "type"))
    (cbkk : PySem.W.keepIn K (.ref cb) = true)
    (cbii : PySem.W.isClsIn K cb = true)
    (cbsv : PySem.W.subIn K (.ref cb) (.type "ValueError") = some true)
    (cbco : PySem.W.subIn K (.ref cb) (.ref oo) = some true)
    (cbno : PySem.W.findIn K (.ref cb) "offer" = some none)
    (gcc : mg "NoOrder" = some (.ref cc))
    (cchg : PySem.W.findIn K (.ref cc) "__getattribute__" = some (some (.builtin "BaseException.__getattribute__")))
    (cchk : PySem.W.findIn K (.ref cc) "__getattr__" = some none)
    (cchs : PySem.W.subIn K (.ref cc) (.type "BaseException") = some true)
    (cchd : PySem.W.hasDictIn K cc = true)
    (ccha : PySem.W.findIn K (.ref cc) "__class__" = some (some (.builtin "object.__class__")))
    (cchm : PySem.W.mroIn K cc (.type "object") = some true)
    (cctt : PySem.W.typeIn K (.ref cc) = some (.type "type"))
    (cckk : PySem.W.keepIn K (.ref cc) = true)
    (ccii : PySem.W.isClsIn K cc = true)
    (ccsv : PySem.W.subIn K (.ref cc) (.type "ValueError") = some true)
    (ccco : PySem.W.subIn K (.ref cc) (.ref oo) = some true)
    (cccx : PySem.W.excIn K cc veT "ValueError.__new__" = true)
    (gcd : mg "NotOrderable" = some (.ref cd))
    (cdhg : PySem.W.findIn K (.ref cd) "__getattribute__" = some (some (.builtin "BaseException.__getattribute__")))
    (cdhk : PySem.W.findIn K (.ref cd) "__getattr__" = some none)
    (cdhs : PySem.W.subIn K (.ref cd) (.type "BaseException") = some true)
    (cdhd : PySem.W.hasDictIn K cd = true)
    (cdha : PySem.W.findIn K (.ref cd) "__class__" = some (some (.builtin "object.__class__")))
    (cdhm : PySem.W.mroIn K cd (.type "object") = some true)
    (cdtt : PySem.W.typeIn K (.ref cd) = some (.type "type"))
    (cdkk : PySem.W.keepIn K (.ref cd) = true)
    (cdii : PySem.W.isClsIn K cd = true)
    (cdsv : PySem.W.subIn K (.ref cd) (.type "ValueError") = some true)
    (cdco : PySem.W.subIn K (.ref cd) (.ref oo) = some true)
    (cdno : PySem.W.findIn K (.ref cd) "ring" = some none)
    (gce : mg "NoChoice" = some (.ref ce))
    (cehg : PySem.W.findIn K (.ref ce) "__getattribute__" = some (some (.builtin "BaseException.__getattribute__")))
    (cehk : PySem.W.findIn K (.ref ce) "__getattr__" = some none)
    (cehs : PySem.W.subIn K (.ref ce) (.type "BaseException") = some true)
    (cehd : PySem.W.hasDictIn K ce = true)
    (ceha : PySem.W.findIn K (.ref ce) "__class__" = some (some (.builtin "object.__class__")))
    (cehm : PySem.W.mroIn K ce (.type "object") = some true)
    (cett : PySem.W.typeIn K (.ref ce) = some (.type "type"))
    (cekk : PySem.W.keepIn K (.ref ce) = true)
    (ceii : PySem.W.isClsIn K ce = true)
    (cesv : PySem.W.subIn K (.ref ce) (.type "ValueError") = some true)
    (ceco : PySem.W.subIn K (.ref ce) (.ref oo) = some true)
    (gcf : mg "NotCovered" = some (.ref cf))
    (cfhg : PySem.W.findIn K (.ref cf) "__getattribute__" = some (some (.builtin "BaseException.__getattribute__")))
    (cfhk : PySem.W.findIn K (.ref cf) "__getattr__" = some none)
    (cfhs : PySem.W.subIn K (.ref cf) (.type "BaseException") = some true)
    (cfhd : PySem.W.hasDictIn K cf = true)
    (cfha : PySem.W.findIn K (.ref cf) "__class__" = some (some (.builtin "object.__class__")))
    (cfhm : PySem.W.mroIn K cf (.type "object") = some true)
    (cftt : PySem.W.typeIn K (.ref cf) = some (.type "type"))
    (cfkk : PySem.W.keepIn K (.ref cf) = true)
    (cfii : PySem.W.isClsIn K cf = true)
    (cfsv : PySem.W.subIn K (.ref cf) (.type "ValueError") = some true)
    (cfco : PySem.W.subIn K (.ref cf) (.ref oo) = some true)
    (cfno : PySem.W.findIn K (.ref cf) "demand" = some none)
    (zhn : PySem.W.specialIn K (.builtin "object.__class__") "__get__" = some (some (.builtin "getset_descriptor.__get__")))
    (zht : PySem.W.takesIn K (.builtin "object.__class__") = some true)
    (nececa : (Value.ref ce == Value.ref ca) = false)
    (suceca : PySem.W.subIn K (.ref ce) (.ref ca) = some false)
    (nececb : (Value.ref ce == Value.ref cb) = false)
    (sucecb : PySem.W.subIn K (.ref ce) (.ref cb) = some false)
    (nececc : (Value.ref ce == Value.ref cc) = false)
    (sucecc : PySem.W.subIn K (.ref ce) (.ref cc) = some false)
    (nececf : (Value.ref ce == Value.ref cf) = false)
    (sucecf : PySem.W.subIn K (.ref ce) (.ref cf) = some false)
    (nececd : (Value.ref ce == Value.ref cd) = false)
    (sucecd : PySem.W.subIn K (.ref ce) (.ref cd) = some false)
    (necace : (Value.ref ca == Value.ref ce) = false)
    (sucace : PySem.W.subIn K (.ref ca) (.ref ce) = some false)
    (necacb : (Value.ref ca == Value.ref cb) = false)
    (sucacb : PySem.W.subIn K (.ref ca) (.ref cb) = some false)
    (necacc : (Value.ref ca == Value.ref cc) = false)
    (sucacc : PySem.W.subIn K (.ref ca) (.ref cc) = some false)
    (necacf : (Value.ref ca == Value.ref cf) = false)
    (sucacf : PySem.W.subIn K (.ref ca) (.ref cf) = some false)
    (necacd : (Value.ref ca == Value.ref cd) = false)
    (sucacd : PySem.W.subIn K (.ref ca) (.ref cd) = some false)
    (necbce : (Value.ref cb == Value.ref ce) = false)
    (sucbce : PySem.W.subIn K (.ref cb) (.ref ce) = some false)
    (necbca : (Value.ref cb == Value.ref ca) = false)
    (sucbca : PySem.W.subIn K (.ref cb) (.ref ca) = some false)
    (necbcc : (Value.ref cb == Value.ref cc) = false)
    (sucbcc : PySem.W.subIn K (.ref cb) (.ref cc) = some false)
    (necbcf : (Value.ref cb == Value.ref cf) = false)
    (sucbcf : PySem.W.subIn K (.ref cb) (.ref cf) = some false)
    (necbcd : (Value.ref cb == Value.ref cd) = false)
    (sucbcd : PySem.W.subIn K (.ref cb) (.ref cd) = some false)
    (neccce : (Value.ref cc == Value.ref ce) = false)
    (succce : PySem.W.subIn K (.ref cc) (.ref ce) = some false)
    (neccca : (Value.ref cc == Value.ref ca) = false)
    (succca : PySem.W.subIn K (.ref cc) (.ref ca) = some false)
    (necccb : (Value.ref cc == Value.ref cb) = false)
    (succcb : PySem.W.subIn K (.ref cc) (.ref cb) = some false)
    (necccf : (Value.ref cc == Value.ref cf) = false)
    (succcf : PySem.W.subIn K (.ref cc) (.ref cf) = some false)
    (necccd : (Value.ref cc == Value.ref cd) = false)
    (succcd : PySem.W.subIn K (.ref cc) (.ref cd) = some false)
    (necfce : (Value.ref cf == Value.ref ce) = false)
    (sucfce : PySem.W.subIn K (.ref cf) (.ref ce) = some false)
    (necfca : (Value.ref cf == Value.ref ca) = false)
    (sucfca : PySem.W.subIn K (.ref cf) (.ref ca) = some false)
    (necfcb : (Value.ref cf == Value.ref cb) = false)
    (sucfcb : PySem.W.subIn K (.ref cf) (.ref cb) = some false)
    (necfcc : (Value.ref cf == Value.ref cc) = false)
    (sucfcc : PySem.W.subIn K (.ref cf) (.ref cc) = some false)
    (necfcd : (Value.ref cf == Value.ref cd) = false)
    (sucfcd : PySem.W.subIn K (.ref cf) (.ref cd) = some false)
    (D0 : Df K mg "_law_deck" sDeck)
    (D1 : Df K mg "_law_next" sNext)
    (D2 : Df K mg "_law_shuffled" sShuf)
    (D3 : Df K mg "_law_intervals" sInt)
    (D4 : Df K mg "_law_part" sPart)
    (D5 : Df K mg "_law_around" sAr)
    (D6 : Df K mg "_law_one" s__law_one)
    (D7 : Df K mg "_law_any" sAny)
    (D8 : Df K mg "_law_table" sTab)
    (D9 : Df K mg "_law_amount" s__law_amount)
    (D10 : Df K mg "_law_data" s__law_data)
    (D11 : Df K mg "_law_is_simple" s__law_is_simple)
    (D12 : Df K mg "_law_nested" s__law_nested)
    (D13 : Df K mg "_law_odd" sOdd)
    (D14 : Df K mg "_law_bent" sBent)
    (D15 : Df K mg "_law_whole" s__law_whole)
    (D16 : Df K mg "_law_is_order" s__law_is_order)
    (D17 : Df K mg "_law_payments" s__law_payments)
    (D18 : Df K mg "_law_same" sSame)
    (D19 : Df K mg "is_integer" s_is_integer)
    (D20 : Df K mg "is_number_below" s_is_number_below)
    (D21 : Df K mg "is_distinct_below" s_is_distinct_below)
    (D22 : Df K mg "is_order" s_is_order)
    (D23 : Df K mg "covering_offers" s_covering_offers)
    (D24 : Df K mg "pay_along" sx_pay_along)
    (D25 : Df K mg "_law_raised" s__law_raised)
    (D26 : Df K mg "_law_called" st__law_called)
    (D27 : Df K mg "law" s_law)
    : ∃ fd : FuncData, (∀ (s : Shared) (v : Value), BindsTo s fd ⟨[v], []⟩ [("_law_script", v)]) ∧ ∀ base : Heap, K.In base → base.Ns mainGlobals mg → (∃ mm, base.Ns sysModules mm) → RunG P w K mg base 7 fa fd ["_law_script"] (spLaw K) := by
  obtain ⟨f0, fd0, F0, m0⟩ := D0
  have b0 := F0.binds (ps := ["_law_script"]) fun _ _ _ _ _ _ us hl => match us, hl with | [_], _ => rfl
  obtain ⟨f1, fd1, F1, m1⟩ := D1
  have b1 := F1.binds (ps := ["_law_deck_here", "_law_many"]) fun _ _ _ _ _ _ us hl => match us, hl with | [_, _], _ => rfl
  obtain ⟨f2, fd2, F2, m2⟩ := D2
  have b2 := F2.binds (ps := ["_law_deck_here", "_law_count"]) fun _ _ _ _ _ _ us hl => match us, hl with | [_, _], _ => rfl
  obtain ⟨f3, fd3, F3, m3⟩ := D3
  have b3 := F3.binds (ps := ["_law_deck_here", "_law_demands", "_law_offers"]) fun _ _ _ _ _ _ us hl => match us, hl with | [_, _, _], _ => rfl
  obtain ⟨f4, fd4, F4, m4⟩ := D4
  have b4 := F4.binds (ps := ["_law_deck_here", "_law_items", "_law_share"]) fun _ _ _ _ _ _ us hl => match us, hl with | [_, _, _], _ => rfl
  obtain ⟨f5, fd5, F5, m5⟩ := D5
  have b5 := F5.binds (ps := ["_law_deck_here", "_law_demands", "_law_offers"]) fun _ _ _ _ _ _ us hl => match us, hl with | [_, _, _], _ => rfl
  obtain ⟨f6, fd6, F6, m6⟩ := D6
  have b6 := F6.binds (ps := ["_law_deck_here", "_law_some"]) fun _ _ _ _ _ _ us hl => match us, hl with | [_, _], _ => rfl
  obtain ⟨f7, fd7, F7, m7⟩ := D7
  have b7 := F7.binds (ps := ["_law_deck_here", "_law_demands", "_law_offers"]) fun _ _ _ _ _ _ us hl => match us, hl with | [_, _, _], _ => rfl
  obtain ⟨f8, fd8, F8, m8⟩ := D8
  have b8 := F8.binds (ps := ["_law_deck_here", "_law_demands", "_law_offers"]) fun _ _ _ _ _ _ us hl => match us, hl with | [_, _, _], _ => rfl
  obtain ⟨f9, fd9, F9, m9⟩ := D9
  have b9 := F9.binds (ps := ["_law_deck_here"]) fun _ _ _ _ _ _ us hl => match us, hl with | [_], _ => rfl
  obtain ⟨f10, fd10, F10, m10⟩ := D10
  have b10 := F10.binds (ps := ["_law_deck_here", "_law_table_here"]) fun _ _ _ _ _ _ us hl => match us, hl with | [_, _], _ => rfl
  obtain ⟨f11, fd11, F11, m11⟩ := D11
  have b11 := F11.binds (ps := ["_law_table_here", "_law_rest", "_law_demand"]) fun _ _ _ _ _ _ us hl => match us, hl with | [_, _, _], _ => rfl
  obtain ⟨f12, fd12, F12, m12⟩ := D12
  have b12 := F12.binds (ps := ["_law_deck_here", "_law_table_here"]) fun _ _ _ _ _ _ us hl => match us, hl with | [_, _], _ => rfl
  obtain ⟨f13, fd13, F13, m13⟩ := D13
  have b13 := F13.binds (ps := ["_law_deck_here"]) fun _ _ _ _ _ _ us hl => match us, hl with | [_], _ => rfl
  obtain ⟨f14, fd14, F14, m14⟩ := D14
  have b14 := F14.binds (ps := ["_law_deck_here", "_law_thing", "_law_deep"]) fun _ _ _ _ _ _ us hl => match us, hl with | [_, _, _], _ => rfl
  obtain ⟨f15, fd15, F15, m15⟩ := D15
  have b15 := F15.binds (ps := ["_law_thing"]) fun _ _ _ _ _ _ us hl => match us, hl with | [_], _ => rfl
  obtain ⟨f16, fd16, F16, m16⟩ := D16
  have b16 := F16.binds (ps := ["_law_table_here", "_law_thing"]) fun _ _ _ _ _ _ us hl => match us, hl with | [_, _], _ => rfl
  obtain ⟨f17, fd17, F17, m17⟩ := D17
  have b17 := F17.binds (ps := ["_law_table_here", "_law_prices", "_law_penalties", "_law_order"]) fun _ _ _ _ _ _ us hl => match us, hl with | [_, _, _, _], _ => rfl
  obtain ⟨f18, fd18, F18, m18⟩ := D18
  have b18 := F18.binds (ps := ["_law_found", "_law_due"]) fun _ _ _ _ _ _ us hl => match us, hl with | [_, _], _ => rfl
  obtain ⟨f19, fd19, F19, m19⟩ := D19
  have b19 := F19.binds (ps := ["value"]) fun _ _ _ _ _ _ us hl => match us, hl with | [_], _ => rfl
  obtain ⟨f20, fd20, F20, m20⟩ := D20
  have b20 := F20.binds (ps := ["value", "count"]) fun _ _ _ _ _ _ us hl => match us, hl with | [_, _], _ => rfl
  obtain ⟨f21, fd21, F21, m21⟩ := D21
  have b21 := F21.binds (ps := ["value", "count"]) fun _ _ _ _ _ _ us hl => match us, hl with | [_, _], _ => rfl
  obtain ⟨f22, fd22, F22, m22⟩ := D22
  have b22 := F22.binds (ps := ["value", "demands"]) fun _ _ _ _ _ _ us hl => match us, hl with | [_, _], _ => rfl
  obtain ⟨f23, fd23, F23, m23⟩ := D23
  have b23 := F23.binds (ps := ["table", "demand"]) fun _ _ _ _ _ _ us hl => match us, hl with | [_, _], _ => rfl
  obtain ⟨f24, fd24, F24, m24⟩ := D24
  have b24 := F24.binds (ps := ["table", "prices", "penalties", "order"]) fun _ _ _ _ _ _ us hl => match us, hl with | [_, _, _, _], _ => rfl
  obtain ⟨f25, fd25, F25, m25⟩ := D25
  have b25 := F25.binds (ps := ["_law_table_here", "_law_error"]) fun _ _ _ _ _ _ us hl => match us, hl with | [_, _], _ => rfl
  obtain ⟨f26, fd26, F26, m26⟩ := D26
  have b26 := F26.binds (ps := ["_law_call", "_law_table_here", "_law_some"]) fun _ _ _ _ _ _ us hl => match us, hl with | [_, _, _], _ => rfl
  obtain ⟨f27, fd27, F27, m27⟩ := D27
  have e := hfa.symm.trans m27
  cases e
  refine ⟨fd27, fun s v => ?_, fun base _ _ hb => ?_⟩
  · obtain ⟨oc, od, kV, doc, pm, an, cdv, ct, osl, rfl, lk, hcd⟩ := F27.ex
    exact .of_eq rfl
  · have caxc : ExcC K ca := ⟨cahg, cahk, cahs, cahd, caha, zhn, zht, cahm⟩
    have caem := PySem.W.exm_ref oohs oohd oott caco
    have cbxc : ExcC K cb := ⟨cbhg, cbhk, cbhs, cbhd, cbha, zhn, zht, cbhm⟩
    have cbem := PySem.W.exm_ref oohs oohd oott cbco
    have ccxc : ExcC K cc := ⟨cchg, cchk, cchs, cchd, ccha, zhn, zht, cchm⟩
    have ccem := PySem.W.exm_ref oohs oohd oott ccco
    have cct : Ec0 K mg "NoOrder" cc := ⟨gcc, cccx, cckk, cchs, cctt⟩
    have cdxc : ExcC K cd := ⟨cdhg, cdhk, cdhs, cdhd, cdha, zhn, zht, cdhm⟩
    have cdem := PySem.W.exm_ref oohs oohd oott cdco
    have cexc : ExcC K ce := ⟨cehg, cehk, cehs, cehd, ceha, zhn, zht, cehm⟩
    have ceem := PySem.W.exm_ref oohs oohd oott ceco
    have cfxc : ExcC K cf := ⟨cfhg, cfhk, cfhs, cfhd, cfha, zhn, zht, cfhm⟩
    have cfem := PySem.W.exm_ref oohs oohd oott cfco
    have kceca := kit_ref nececa caii catt suceca
    have kcecb := kit_ref nececb cbii cbtt sucecb
    have kcecc := kit_ref nececc ccii cctt sucecc
    have kcecf := kit_ref nececf cfii cftt sucecf
    have kcecd := kit_ref nececd cdii cdtt sucecd
    have kcace := kit_ref necace ceii cett sucace
    have kcacb := kit_ref necacb cbii cbtt sucacb
    have kcacc := kit_ref necacc ccii cctt sucacc
    have kcacf := kit_ref necacf cfii cftt sucacf
    have kcacd := kit_ref necacd cdii cdtt sucacd
    have kcbce := kit_ref necbce ceii cett sucbce
    have kcbca := kit_ref necbca caii catt sucbca
    have kcbcc := kit_ref necbcc ccii cctt sucbcc
    have kcbcf := kit_ref necbcf cfii cftt sucbcf
    have kcbcd := kit_ref necbcd cdii cdtt sucbcd
    have kccce := kit_ref neccce ceii cett succce
    have kccca := kit_ref neccca caii catt succca
    have kcccb := kit_ref necccb cbii cbtt succcb
    have kcccf := kit_ref necccf cfii cftt succcf
    have kcccd := kit_ref necccd cdii cdtt succcd
    have kcfce := kit_ref necfce ceii cett sucfce
    have kcfca := kit_ref necfca caii catt sucfca
    have kcfcb := kit_ref necfcb cbii cbtt sucfcb
    have kcfcc := kit_ref necfcc ccii cctt sucfcc
    have kcfcd := kit_ref necfcd cdii cdtt sucfcd
    let cl : Str → Addr := fun x => if x = "NoDemand" then ca else if x = "NoOffer" then cb else if x = "NoOrder" then cc else if x = "NotOrderable" then cd else if x = "NoChoice" then ce else if x = "NotCovered" then cf else if x = "OrderError" then oo else 0
    have cl_ca : cl "NoDemand" = ca := by
      show (if ("NoDemand" : Str) = "NoDemand" then ca else if ("NoDemand" : Str) = "NoOffer" then cb else if ("NoDemand" : Str) = "NoOrder" then cc else if ("NoDemand" : Str) = "NotOrderable" then cd else if ("NoDemand" : Str) = "NoChoice" then ce else if ("NoDemand" : Str) = "NotCovered" then cf else if ("NoDemand" : Str) = "OrderError" then oo else 0) = ca
      rw [if_pos rfl]
    have cl_cb : cl "NoOffer" = cb := by
      show (if ("NoOffer" : Str) = "NoDemand" then ca else if ("NoOffer" : Str) = "NoOffer" then cb else if ("NoOffer" : Str) = "NoOrder" then cc else if ("NoOffer" : Str) = "NotOrderable" then cd else if ("NoOffer" : Str) = "NoChoice" then ce else if ("NoOffer" : Str) = "NotCovered" then cf else if ("NoOffer" : Str) = "OrderError" then oo else 0) = cb
      rw [if_neg (by decide +kernel), if_pos rfl]
    have cl_cc : cl "NoOrder" = cc := by
      show (if ("NoOrder" : Str) = "NoDemand" then ca else if ("NoOrder" : Str) = "NoOffer" then cb else if ("NoOrder" : Str) = "NoOrder" then cc else if ("NoOrder" : Str) = "NotOrderable" then cd else if ("NoOrder" : Str) = "NoChoice" then ce else if ("NoOrder" : Str) = "NotCovered" then cf else if ("NoOrder" : Str) = "OrderError" then oo else 0) = cc
      rw [if_neg (by decide +kernel), if_neg (by decide +kernel), if_pos rfl]
    have cl_cd : cl "NotOrderable" = cd := by
      show (if ("NotOrderable" : Str) = "NoDemand" then ca else if ("NotOrderable" : Str) = "NoOffer" then cb else if ("NotOrderable" : Str) = "NoOrder" then cc else if ("NotOrderable" : Str) = "NotOrderable" then cd else if ("NotOrderable" : Str) = "NoChoice" then ce else if ("NotOrderable" : Str) = "NotCovered" then cf else if ("NotOrderable" : Str) = "OrderError" then oo else 0) = cd
      rw [if_neg (by decide +kernel), if_neg (by decide +kernel), if_neg (by decide +kernel), if_pos rfl]
    have cl_ce : cl "NoChoice" = ce := by
      show (if ("NoChoice" : Str) = "NoDemand" then ca else if ("NoChoice" : Str) = "NoOffer" then cb else if ("NoChoice" : Str) = "NoOrder" then cc else if ("NoChoice" : Str) = "NotOrderable" then cd else if ("NoChoice" : Str) = "NoChoice" then ce else if ("NoChoice" : Str) = "NotCovered" then cf else if ("NoChoice" : Str) = "OrderError" then oo else 0) = ce
      rw [if_neg (by decide +kernel), if_neg (by decide +kernel), if_neg (by decide +kernel), if_neg (by decide +kernel), if_pos rfl]
    have cl_cf : cl "NotCovered" = cf := by
      show (if ("NotCovered" : Str) = "NoDemand" then ca else if ("NotCovered" : Str) = "NoOffer" then cb else if ("NotCovered" : Str) = "NoOrder" then cc else if ("NotCovered" : Str) = "NotOrderable" then cd else if ("NotCovered" : Str) = "NoChoice" then ce else if ("NotCovered" : Str) = "NotCovered" then cf else if ("NotCovered" : Str) = "OrderError" then oo else 0) = cf
      rw [if_neg (by decide +kernel), if_neg (by decide +kernel), if_neg (by decide +kernel), if_neg (by decide +kernel), if_neg (by decide +kernel), if_pos rfl]
    have cl_oo : cl "OrderError" = oo := by
      show (if ("OrderError" : Str) = "NoDemand" then ca else if ("OrderError" : Str) = "NoOffer" then cb else if ("OrderError" : Str) = "NoOrder" then cc else if ("OrderError" : Str) = "NotOrderable" then cd else if ("OrderError" : Str) = "NoChoice" then ce else if ("OrderError" : Str) = "NotCovered" then cf else if ("OrderError" : Str) = "OrderError" then oo else 0) = oo
      rw [if_neg (by decide +kernel), if_neg (by decide +kernel), if_neg (by decide +kernel), if_neg (by decide +kernel), if_neg (by decide +kernel), if_neg (by decide +kernel), if_pos rfl]
    have gc_NoDemand : mg "NoDemand" = some (.ref (cl "NoDemand")) := by rw [cl_ca]; exact gca
    have gc_NoOffer : mg "NoOffer" = some (.ref (cl "NoOffer")) := by rw [cl_cb]; exact gcb
    have T_NoOrder : Ec0 K mg "NoOrder" (cl "NoOrder") := by rw [cl_cc]; exact cct
    have gc_NoOrder : mg "NoOrder" = some (.ref (cl "NoOrder")) := by rw [cl_cc]; exact gcc
    have gc_NotOrderable : mg "NotOrderable" = some (.ref (cl "NotOrderable")) := by rw [cl_cd]; exact gcd
    have gc_NoChoice : mg "NoChoice" = some (.ref (cl "NoChoice")) := by rw [cl_ce]; exact gce
    have gc_NotCovered : mg "NotCovered" = some (.ref (cl "NotCovered")) := by rw [cl_cf]; exact gcf
    have no_NoDemand : PySem.W.findIn K (.ref (cl "NoDemand")) "demand" = some none := by rw [cl_ca]; exact cano
    have xc_NoDemand : ExcC K (cl "NoDemand") := by rw [cl_ca]; exact caxc
    have no_NoOffer : PySem.W.findIn K (.ref (cl "NoOffer")) "offer" = some none := by rw [cl_cb]; exact cbno
    have xc_NoOffer : ExcC K (cl "NoOffer") := by rw [cl_cb]; exact cbxc
    have no_NotCovered : PySem.W.findIn K (.ref (cl "NotCovered")) "demand" = some none := by rw [cl_cf]; exact cfno
    have xc_NotCovered : ExcC K (cl "NotCovered") := by rw [cl_cf]; exact cfxc
    have xc__law_raised : ∀ x ∈ (["NoOrder", "NoChoice", "NotCovered", "NoOffer", "NoDemand"] : List Str), ExcC K (cl x) := by
          intro x hx; simp only [List.mem_cons, List.not_mem_nil, or_false] at hx; rcases hx with rfl | rfl | rfl | rfl | rfl
          · rw [cl_cc]; exact ccxc
          · rw [cl_ce]; exact cexc
          · rw [cl_cf]; exact cfxc
          · rw [cl_cb]; exact cbxc
          · rw [cl_ca]; exact caxc
    have kv__law_raised : ∀ x ∈ (["NoOrder", "NoChoice", "NotCovered", "NoOffer", "NoDemand"] : List Str), PySem.W.kitOne K (.ref (cl x)) (.type "ValueError") = some true := by
          intro x hx; simp only [List.mem_cons, List.not_mem_nil, or_false] at hx; rcases hx with rfl | rfl | rfl | rfl | rfl
          · rw [cl_cc]; exact kit_tyv meta_VE ccsv
          · rw [cl_ce]; exact kit_tyv meta_VE cesv
          · rw [cl_cf]; exact kit_tyv meta_VE cfsv
          · rw [cl_cb]; exact kit_tyv meta_VE cbsv
          · rw [cl_ca]; exact kit_tyv meta_VE casv
    have kt__law_raised : ∀ x ∈ (["NoOrder", "NoChoice", "NotCovered", "NoOffer", "NoDemand"] : List Str), ∀ c ∈ (["NoOrder", "NotOrderable", "NoChoice", "NotCovered", "NoOffer", "NoDemand"] : List Str), PySem.W.kitOne K (.ref (cl x)) (.ref (cl c)) = some (decide (x = c)) := by
          intro x hx y hy; simp only [List.mem_cons, List.not_mem_nil, or_false] at hx; simp only [List.mem_cons, List.not_mem_nil, or_false] at hy
          rcases hx with rfl | rfl | rfl | rfl | rfl <;> rcases hy with rfl | rfl | rfl | rfl | rfl | rfl <;> simp only [cl_ca, cl_cb, cl_cc, cl_cd, cl_ce, cl_cf] <;> first | exact kit_self | exact kcccd | exact kccce | exact kcccf | exact kcccb | exact kccca | exact kcecc | exact kcecd | exact kcecf | exact kcecb | exact kceca | exact kcfcc | exact kcfcd | exact kcfce | exact kcfcb | exact kcfca | exact kcbcc | exact kcbcd | exact kcbce | exact kcbcf | exact kcbca | exact kcacc | exact kcacd | exact kcace | exact kcacf | exact kcacb
    have em__law_called : ∀ x ∈ (["NoOrder", "NoChoice", "NotCovered", "NoOffer", "NoDemand"] : List Str), PySem.W.exmOne K (.ref (cl x)) (.ref oo) = some true := by
          intro x hx; simp only [List.mem_cons, List.not_mem_nil, or_false] at hx; rcases hx with rfl | rfl | rfl | rfl | rfl
          · rw [cl_cc]; exact ccem
          · rw [cl_ce]; exact ceem
          · rw [cl_cf]; exact cfem
          · rw [cl_cb]; exact cbem
          · rw [cl_ca]; exact caem
    have cDeck := cl_mk (P := P) (w := w) (K := K) (mg := mg) (base := base) F0 m0 b0 (ok_deck F0 B.toBn)
    have cNextX := cl_mk (P := P) (w := w) (K := K) (mg := mg) (base := base) F1 m1 b1 (ok_nextW F1 B.toBn)
    have cNextXW := cNextX.weaker (w_nextW (K := K))
    have cNext := cNextX.weaker nextW_next
    have cNextW := cNext.weaker (w_next (K := K))
    have cShuf := cl_mk (P := P) (w := w) (K := K) (mg := mg) (base := base) F2 m2 b2 (ok_shuf F2 B.toBn cNext)
    have cShufW := cShuf.weaker w_shuf
    have cInt := cl_mk (P := P) (w := w) (K := K) (mg := mg) (base := base) F3 m3 b3 (ok_intervals F3 B.toBn cNext cShuf)
    have cPart := cl_mk (P := P) (w := w) (K := K) (mg := mg) (base := base) F4 m4 b4 (ok_part F4 B.toBn cNext)
    have cPartW := cPart.weaker w_part
    have cAr := cl_mk (P := P) (w := w) (K := K) (mg := mg) (base := base) F5 m5 b5 (ok_around F5 B.toBn cNext cShuf cPart)
    have cArW := cAr.weaker w_mk
    have k__law_one := cl_mk (P := P) (w := w) (K := K) (mg := mg) (base := base) F6 m6 b6 (ok__law_one F6 B cNextXW)
    have cOne := cl_mk (P := P) (w := w) (K := K) (mg := mg) (base := base) F6 m6 b6 (ok_one F6 B.toBn cNext)
    have cAny := cl_mk (P := P) (w := w) (K := K) (mg := mg) (base := base) F7 m7 b7 (ok_any F7 B.toBn cNext cOne cPart)
    have cAnyW := cAny.weaker w_mk
    have cTab := cl_mk (P := P) (w := w) (K := K) (mg := mg) (base := base) F8 m8 b8 (ok_mktab F8 B.toBn cNext cInt cAr cAny)
    have cTabW := cTab.weaker w_table
    have k__law_amount := cl_mk (P := P) (w := w) (K := K) (mg := mg) (base := base) F9 m9 b9 (ok__law_amount F9 B cNextXW)
    have k__law_data := cl_mk (P := P) (w := w) (K := K) (mg := mg) (base := base) F10 m10 b10 (ok__law_data F10 B cNextXW k__law_amount)
    have k__law_is_simple := cl_mk (P := P) (w := w) (K := K) (mg := mg) (base := base) F11 m11 b11 (ok__law_is_simple F11 B)
    have k__law_nested := cl_mk (P := P) (w := w) (K := K) (mg := mg) (base := base) F12 m12 b12 (ok__law_nested F12 B k__law_is_simple k__law_one)
    have cOdd := cl_mk (P := P) (w := w) (K := K) (mg := mg) (base := base) F13 m13 b13 (ok_odd F13 B.toBn cNext)
    have cOddW := cOdd.weaker w_odd
    have cB0 := cl_mk (P := P) (w := w) (K := K) (mg := mg) (base := base) F14 m14 b14 (ok_bentG0)
    have cB1 := cl_mk (P := P) (w := w) (K := K) (mg := mg) (base := base) F14 m14 b14 (ok_bentG1 (δ := 0) F14 B.toBn cNext cOdd cB0)
    have cB2 := cl_mk (P := P) (w := w) (K := K) (mg := mg) (base := base) F14 m14 b14 (ok_bentG1 (δ := 1) F14 B.toBn cNext cOdd cB1)
    have cB3 := cl_mk (P := P) (w := w) (K := K) (mg := mg) (base := base) F14 m14 b14 (ok_bentG1 (δ := 2) F14 B.toBn cNext cOdd cB2)
    have cB4 := cl_mk (P := P) (w := w) (K := K) (mg := mg) (base := base) F14 m14 b14 (ok_bentG1 (δ := 3) F14 B.toBn cNext cOdd cB3)
    have cB4W := cB4.weaker w_bentG
    have k__law_whole := cl_mk (P := P) (w := w) (K := K) (mg := mg) (base := base) F15 m15 b15 (ok__law_whole F15 B)
    have k__law_is_order := cl_mk (P := P) (w := w) (K := K) (mg := mg) (base := base) F16 m16 b16 (ok__law_is_order F16 B k__law_whole)
    have k__law_payments := cl_mk (P := P) (w := w) (K := K) (mg := mg) (base := base) F17 m17 b17 (ok__law_payments F17 B)
    have cS0 := cl_mk (P := P) (w := w) (K := K) (mg := mg) (base := base) F18 m18 b18 (ok_same0)
    have cS1 := cl_mk (P := P) (w := w) (K := K) (mg := mg) (base := base) F18 m18 b18 (ok_same1 (δ := 0) F18 B.toBn cS0)
    have cS2 := cl_mk (P := P) (w := w) (K := K) (mg := mg) (base := base) F18 m18 b18 (ok_same1 (δ := 1) F18 B.toBn cS1)
    have cS3 := cl_mk (P := P) (w := w) (K := K) (mg := mg) (base := base) F18 m18 b18 (ok_same1 (δ := 2) F18 B.toBn cS2)
    have cS3W := cS3.weaker w_same
    have cSF := cS3W.weaker same_to_f
    have k_is_integer := cl_mk (P := P) (w := w) (K := K) (mg := mg) (base := base) F19 m19 b19 (ok_is_integer F19 B)
    have k_is_number_below := cl_mk (P := P) (w := w) (K := K) (mg := mg) (base := base) F20 m20 b20 (ok_is_number_below F20 B k_is_integer)
    have k_is_distinct_below := cl_mk (P := P) (w := w) (K := K) (mg := mg) (base := base) F21 m21 b21 (ok_is_distinct_below F21 B k_is_number_below)
    have k_is_order := cl_mk (P := P) (w := w) (K := K) (mg := mg) (base := base) F22 m22 b22 (ok_is_order F22 B k_is_distinct_below)
    have k_covering_offers := cl_mk (P := P) (w := w) (K := K) (mg := mg) (base := base) F23 m23 b23 (ok_covering_offers F23 B k_is_number_below)
    have x_pay_along := clx_mk (P := P) (w := w) (K := K) (mg := mg) (base := base) F24 m24 b24 (okx_pay_along (cl := cl) F24 B T_NoOrder k_is_order k_covering_offers)
    have k__law_raised : ClE P w K mg base _ "_law_raised" _ _ := ⟨f25, fd25, ok__law_raised (cl := cl) F25 B xc__law_raised kt__law_raised kv__law_raised gc_NoOrder gc_NotOrderable gc_NoChoice gc_NotCovered gc_NoOffer gc_NoDemand xc_NotCovered no_NotCovered xc_NoOffer no_NoOffer xc_NoDemand no_NoDemand, m25, F25.kp, b25⟩
    have f__law_raised := k__law_raised.weaker (n_to_f raised_of)
    have k__law_called := cl_mk (P := P) (w := w) (K := K) (mg := mg) (base := base) F26 m26 b26 (ok__law_called (cl := cl) F26 B goo em__law_called m24 x_pay_along f__law_raised)
    have f__law_called := k__law_called.weaker (qf_to_d called_of)
    exact ok_law F27 B hb cDeck cTabW k__law_data cShufW k__law_nested cB4W cOddW k__law_is_order k__law_payments cSF m24 f__law_called law_pure
end L21

set_option Elab.async false
set_option linter.all false
open PySem PySem.W PyProof.Rows
set_option maxRecDepth 100000 in
set_option maxHeartbeats 0 in
theorem PySem.Challenge.cw_payorder_k21_payments_along_orders_holds : PySem.Challenge.rw_payorder_k21_payments_along_orders.Holds := by
  w_on; o_law; k_head; (case hw => w_witness2)
  k_fill
  refine Pb.walk_S (l := PySem.Challenge.rw_payorder_k21_payments_along_orders) (n := 63) (k := 7) (x := "_law_script") (sp := fun w => Pb.spLaw _) (by decide +kernel) rfl (by decide) rfl ⟨rfl, by decide, by decide⟩ (fun w h Y => PySem.W.kIn_of Y) ?F (fun _ _ a ns hl _ hS => ⟨a, ns, rfl, hS, hl, fun _ => rfl⟩)
  case F =>
    intro w mg fa h KX G hmg
    have B0 : Pb.Bn mg := by
      refine' ⟨PySem.W.mg_none_of KX G ?z0, PySem.W.mg_none_of KX G ?z1, PySem.W.mg_none_of KX G ?z2, PySem.W.mg_none_of KX G ?z3, PySem.W.mg_none_of KX G ?z4, PySem.W.mg_none_of KX G ?z5, PySem.W.mg_none_of KX G ?z6, PySem.W.mg_none_of KX G ?z7, PySem.W.mg_none_of KX G ?z8, PySem.W.mg_none_of KX G ?z9, PySem.W.mg_none_of KX G ?z10, PySem.W.mg_none_of KX G ?z11, PySem.W.mg_none_of KX G ?z12, PySem.W.mg_none_of KX G ?z13, PySem.W.mg_none_of KX G ?z14⟩
      (case z0 => k_is)
      (case z1 => k_is)
      (case z2 => k_is)
      (case z3 => k_is)
      (case z4 => k_is)
      (case z5 => k_is)
      (case z6 => k_is)
      (case z7 => k_is)
      (case z8 => k_is)
      (case z9 => k_is)
      (case z10 => k_is)
      (case z11 => k_is)
      (case z12 => k_is)
      (case z13 => k_is)
      (case z14 => k_is)
    have B : Pb.Bx mg := by
      refine' ⟨B0, PySem.W.mg_none_of KX G ?zz0, PySem.W.mg_none_of KX G ?zz1, PySem.W.mg_none_of KX G ?zz2, PySem.W.mg_none_of KX G ?zz3, PySem.W.mg_none_of KX G ?zz4, PySem.W.mg_none_of KX G ?zz5, PySem.W.mg_none_of KX G ?zz6⟩
      (case zz0 => k_is)
      (case zz1 => k_is)
      (case zz2 => k_is)
      (case zz3 => k_is)
      (case zz4 => k_is)
      (case zz5 => k_is)
      (case zz6 => k_is)
    refine' L21.all_mk KX G hmg B  (PySem.W.mg_of KX G ?x0) ?x1 ?x2 ?x3 (PySem.W.mg_of KX G ?x4) ?x5 ?x6 ?x7 ?x8 ?x9 ?x10 ?x11 ?x12 ?x13 ?x14 ?x15 ?x16 (PySem.W.mg_of KX G ?x17) ?x18 ?x19 ?x20 ?x21 ?x22 ?x23 ?x24 ?x25 ?x26 ?x27 ?x28 ?x29 (PySem.W.mg_of KX G ?x30) ?x31 ?x32 ?x33 ?x34 ?x35 ?x36 ?x37 ?x38 ?x39 ?x40 ?x41 ?x42 (PySem.W.mg_of KX G ?x43) ?x44 ?x45 ?x46 ?x47 ?x48 ?x49 ?x50 ?x51 ?x52 ?x53 ?x54 ?x55 (PySem.W.mg_of KX G ?x56) ?x57 ?x58 ?x59 ?x60 ?x61 ?x62 ?x63 ?x64 ?x65 ?x66 ?x67 (PySem.W.mg_of KX G ?x68) ?x69 ?x70 ?x71 ?x72 ?x73 ?x74 ?x75 ?x76 ?x77 ?x78 ?x79 ?x80 ?x81 ?x82 ?x83 ?x84 ?x85 ?x86 ?x87 ?x88 ?x89 ?x90 ?x91 ?x92 ?x93 ?x94 ?x95 ?x96 ?x97 ?x98 ?x99 ?x100 ?x101 ?x102 ?x103 ?x104 ?x105 ?x106 ?x107 ?x108 ?x109 ?x110 ?x111 ?x112 ?x113 ?x114 ?x115 ?x116 ?x117 ?x118 ?x119 ?x120 ?x121 ?x122 ?x123 ?x124 ?x125 ?x126 ?x127 ?x128 ?x129 ?x130 ?x131 ?x132 (Pb.df_mk KX G ?a0 ?l0 ?c0 ?k0) (Pb.df_mk KX G ?a1 ?l1 ?c1 ?k1) (Pb.df_mk KX G ?a2 ?l2 ?c2 ?k2) (Pb.df_mk KX G ?a3 ?l3 ?c3 ?k3) (Pb.df_mk KX G ?a4 ?l4 ?c4 ?k4) (Pb.df_mk KX G ?a5 ?l5 ?c5 ?k5) (Pb.df_mk KX G ?a6 ?l6 ?c6 ?k6) (Pb.df_mk KX G ?a7 ?l7 ?c7 ?k7) (Pb.df_mk KX G ?a8 ?l8 ?c8 ?k8) (Pb.df_mk KX G ?a9 ?l9 ?c9 ?k9) (Pb.df_mk KX G ?a10 ?l10 ?c10 ?k10) (Pb.df_mk KX G ?a11 ?l11 ?c11 ?k11) (Pb.df_mk KX G ?a12 ?l12 ?c12 ?k12) (Pb.df_mk KX G ?a13 ?l13 ?c13 ?k13) (Pb.df_mk KX G ?a14 ?l14 ?c14 ?k14) (Pb.df_mk KX G ?a15 ?l15 ?c15 ?k15) (Pb.df_mk KX G ?a16 ?l16 ?c16 ?k16) (Pb.df_mk KX G ?a17 ?l17 ?c17 ?k17) (Pb.df_mk KX G ?a18 ?l18 ?c18 ?k18) (Pb.df_mk KX G ?a19 ?l19 ?c19 ?k19) (Pb.df_mk KX G ?a20 ?l20 ?c20 ?k20) (Pb.df_mk KX G ?a21 ?l21 ?c21 ?k21) (Pb.df_mk KX G ?a22 ?l22 ?c22 ?k22) (Pb.df_mk KX G ?a23 ?l23 ?c23 ?k23) (Pb.df_mk KX G ?a24 ?l24 ?c24 ?k24) (Pb.df_mk KX G ?a25 ?l25 ?c25 ?k25) (Pb.df_mk KX G ?a26 ?l26 ?c26 ?k26) (Pb.df_mk KX G ?a27 ?l27 ?c27 ?k27)
    (case x0 => k_is)
    (case x1 => k_is)
    (case x2 => k_is)
    (case x3 => k_is)
    (case x4 => k_is)
    (case x5 => k_is)
    (case x6 => k_is)
    (case x7 => k_is)
    (case x8 => k_is)
    (case x9 => k_is)
    (case x10 => k_is)
    (case x11 => k_is)
    (case x12 => k_is)
    (case x13 => k_is)
    (case x14 => k_is)
    (case x15 => k_is)
    (case x16 => k_is)
    (case x17 => k_is)
    (case x18 => k_is)
    (case x19 => k_is)
    (case x20 => k_is)
    (case x21 => k_is)
    (case x22 => k_is)
    (case x23 => k_is)
    (case x24 => k_is)
    (case x25 => k_is)
    (case x26 => k_is)
    (case x27 => k_is)
    (case x28 => k_is)
    (case x29 => k_is)
    (case x30 => k_is)
    (case x31 => k_is)
    (case x32 => k_is)
    (case x33 => k_is)
    (case x34 => k_is)
    (case x35 => k_is)
    (case x36 => k_is)
    (case x37 => k_is)
    (case x38 => k_is)
    (case x39 => k_is)
    (case x40 => k_is)
    (case x41 => k_is)
    (case x42 => k_exc)
    (case x43 => k_is)
    (case x44 => k_is)
    (case x45 => k_is)
    (case x46 => k_is)
    (case x47 => k_is)
    (case x48 => k_is)
    (case x49 => k_is)
    (case x50 => k_is)
    (case x51 => k_is)
    (case x52 => k_is)
    (case x53 => k_is)
    (case x54 => k_is)
    (case x55 => k_is)
    (case x56 => k_is)
    (case x57 => k_is)
    (case x58 => k_is)
    (case x59 => k_is)
    (case x60 => k_is)
    (case x61 => k_is)
    (case x62 => k_is)
    (case x63 => k_is)
    (case x64 => k_is)
    (case x65 => k_is)
    (case x66 => k_is)
    (case x67 => k_is)
    (case x68 => k_is)
    (case x69 => k_is)
    (case x70 => k_is)
    (case x71 => k_is)
    (case x72 => k_is)
    (case x73 => k_is)
    (case x74 => k_is)
    (case x75 => k_is)
    (case x76 => k_is)
    (case x77 => k_is)
    (case x78 => k_is)
    (case x79 => k_is)
    (case x80 => k_is)
    (case x81 => k_is)
    (case x82 => k_is)
    (case x83 => decide)
    (case x84 => k_is)
    (case x85 => decide)
    (case x86 => k_is)
    (case x87 => decide)
    (case x88 => k_is)
    (case x89 => decide)
    (case x90 => k_is)
    (case x91 => decide)
    (case x92 => k_is)
    (case x93 => decide)
    (case x94 => k_is)
    (case x95 => decide)
    (case x96 => k_is)
    (case x97 => decide)
    (case x98 => k_is)
    (case x99 => decide)
    (case x100 => k_is)
    (case x101 => decide)
    (case x102 => k_is)
    (case x103 => decide)
    (case x104 => k_is)
    (case x105 => decide)
    (case x106 => k_is)
    (case x107 => decide)
    (case x108 => k_is)
    (case x109 => decide)
    (case x110 => k_is)
    (case x111 => decide)
    (case x112 => k_is)
    (case x113 => decide)
    (case x114 => k_is)
    (case x115 => decide)
    (case x116 => k_is)
    (case x117 => decide)
    (case x118 => k_is)
    (case x119 => decide)
    (case x120 => k_is)
    (case x121 => decide)
    (case x122 => k_is)
    (case x123 => decide)
    (case x124 => k_is)
    (case x125 => decide)
    (case x126 => k_is)
    (case x127 => decide)
    (case x128 => k_is)
    (case x129 => decide)
    (case x130 => k_is)
    (case x131 => decide)
    (case x132 => k_is)
    (case a0 => k_is); (case l0 => k_is); (case c0 => k_is); (case k0 => k_is)
    (case a1 => k_is); (case l1 => k_is); (case c1 => k_is); (case k1 => k_is)
    (case a2 => k_is); (case l2 => k_is); (case c2 => k_is); (case k2 => k_is)
    (case a3 => k_is); (case l3 => k_is); (case c3 => k_is); (case k3 => k_is)
    (case a4 => k_is); (case l4 => k_is); (case c4 => k_is); (case k4 => k_is)
    (case a5 => k_is); (case l5 => k_is); (case c5 => k_is); (case k5 => k_is)
    (case a6 => k_is); (case l6 => k_is); (case c6 => k_is); (case k6 => k_is)
    (case a7 => k_is); (case l7 => k_is); (case c7 => k_is); (case k7 => k_is)
    (case a8 => k_is); (case l8 => k_is); (case c8 => k_is); (case k8 => k_is)
    (case a9 => k_is); (case l9 => k_is); (case c9 => k_is); (case k9 => k_is)
    (case a10 => k_is); (case l10 => k_is); (case c10 => k_is); (case k10 => k_is)
    (case a11 => k_is); (case l11 => k_is); (case c11 => k_is); (case k11 => k_is)
    (case a12 => k_is); (case l12 => k_is); (case c12 => k_is); (case k12 => k_is)
    (case a13 => k_is); (case l13 => k_is); (case c13 => k_is); (case k13 => k_is)
    (case a14 => k_is); (case l14 => k_is); (case c14 => k_is); (case k14 => k_is)
    (case a15 => k_is); (case l15 => k_is); (case c15 => k_is); (case k15 => k_is)
    (case a16 => k_is); (case l16 => k_is); (case c16 => k_is); (case k16 => k_is)
    (case a17 => k_is); (case l17 => k_is); (case c17 => k_is); (case k17 => k_is)
    (case a18 => k_is); (case l18 => k_is); (case c18 => k_is); (case k18 => k_is)
    (case a19 => k_is); (case l19 => k_is); (case c19 => k_is); (case k19 => k_is)
    (case a20 => k_is); (case l20 => k_is); (case c20 => k_is); (case k20 => k_is)
    (case a21 => k_is); (case l21 => k_is); (case c21 => k_is); (case k21 => k_is)
    (case a22 => k_is); (case l22 => k_is); (case c22 => k_is); (case k22 => k_is)
    (case a23 => k_is); (case l23 => k_is); (case c23 => k_is); (case k23 => k_is)
    (case a24 => k_is); (case l24 => k_is); (case c24 => k_is); (case k24 => k_is)
    (case a25 => k_is); (case l25 => k_is); (case c25 => k_is); (case k25 => k_is)
    (case a26 => k_is); (case l26 => k_is); (case c26 => k_is); (case k26 => k_is)
    (case a27 => k_is); (case l27 => k_is); (case c27 => k_is); (case k27 => k_is)
