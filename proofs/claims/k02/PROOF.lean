import PyProof.Rows.All
import Wide.All
import OpenK.AllK
import Wide.FinOn
import HandS.ForMost
import HandS.Evl
import HandS.IsInst
import HandS.TupAny
import HandS.TupMul
import HandS.Conv
import HandS.EndBits
import HandS.SetFor
import HandS.Style
import HandS.Strs
import PyProof.NeKinds
import PyProof.ReprLen
import PyProof.ReprRoads
import HandS.SortInts
import PyProof.TupleOfSeq
import KE.KRevSl
import HandS.ExcValue
import KE.GoesMore
import PyProof.EnumMake
import HandS.Small
import HandS.ExcIs
import HandS.ExcInit
import HandS.Walk
import HandS.WordsExc
import PySem.Challenge.RW_payorder_k02_tables_or_not
set_option Elab.async false
set_option linter.all false
set_option maxRecDepth 100000
/-! Pb: what all laws of the program share. -/
namespace Pb
open PySem PySem.Spec PyProof.Rows L2

/-- the built-in names that are still the built-in ones -/
structure Bn (mg : Str → Option Value) : Prop where
  isinstance : mg "isinstance" = none
  len : mg "len" = none
  abs : mg "abs" = none
  range : mg "range" = none
  tuple : mg "tuple" = none
  list : mg "list" = none
  int : mg "int" = none
  bool : mg "bool" = none
  str : mg "str" = none
  dict : mg "dict" = none
  sorted : mg "sorted" = none
  set : mg "set" = none
  repr : mg "repr" = none
  all : mg "all" = none
  enumerate : mg "enumerate" = none

theorem bt_int : bootBuiltins "int" = some (.type "int") := by decide +kernel
theorem bt_bool : bootBuiltins "bool" = some (.type "bool") := by decide +kernel
theorem bt_str : bootBuiltins "str" = some (.type "str") := by decide +kernel
theorem bt_list : bootBuiltins "list" = some (.type "list") := by decide +kernel
theorem bt_tuple : bootBuiltins "tuple" = some (.type "tuple") := by decide +kernel
theorem bt_dict : bootBuiltins "dict" = some (.type "dict") := by decide +kernel
theorem bt_set : bootBuiltins "set" = some (.type "set") := by decide +kernel
theorem bt_isinstance : bootBuiltins "isinstance" = some (.builtin "isinstance") := by decide +kernel
theorem bt_len : bootBuiltins "len" = some (.builtin "len") := by decide +kernel
theorem bt_abs : bootBuiltins "abs" = some (.builtin "abs") := by decide +kernel
theorem bt_sorted : bootBuiltins "sorted" = some (.builtin "sorted") := by decide +kernel
theorem bt_repr : bootBuiltins "repr" = some (.builtin "repr") := by decide +kernel
theorem bt_all : bootBuiltins "all" = some (.builtin "all") := by decide +kernel
section
variable {X : Cx}
theorem pe_ty {x : Str} {pos : Pos} {T : String} (hg : Gl X x) (hm : X.mg x = none) (hv : bootBuiltins x = some (.type T)) (hn : x ≠ "__name__" := by decide) (hd : (x == ("__debug__" : Str)) = false := by decide) :
    PE X (.Name x pos) (tC (.ty T)) := pe_bltn hg hm hv rfl hn hd
theorem pe_gc2 {x : Str} {pos : Pos} {i : Int} (hg : Gl X x) (hm : ∃ t, X.mg x = some (.int i t)) (hd : (x == ("__debug__" : Str)) = false := by decide) : PE X (.Name x pos) (tC (.int i)) := by
  obtain ⟨t, h⟩ := hm
  exact pe_glob hg h ⟨_, rfl⟩ hd
end

section
variable {X : Cx} {K : PySem.W.Frag}
theorem ix_tupK (h : X.K = K) : IxR X (rIxT K) := h ▸ ix_tup
theorem ix_listK (h : X.K = K) : IxR X (rIxL K) := h ▸ ix_list
theorem call_isiK0 (h : X.K = K) : CallR X (.builtin "isinstance") (rIsi K) := h ▸ call_isi
theorem call_len_seqK (h : X.K = K) : CallR X (.builtin "len") (Evl.rLenS K) := h ▸ call_len_seq
end
/-- a def of the text, its promise and all that a caller asks -/
structure Cl (P : Program) (w : World) (K : PySem.W.Frag) (mg : Str → Option Value) (base : Heap) (k : Nat) (x : Str) (ps : List Str) (sp : Sp) : Prop where
  ex : ∃ (f : Addr) (fd : FuncData), FnOk P w K mg base CX0 k f fd ps sp ∧ mg x = some (.ref f) ∧ PySem.W.keepIn K (.ref f) = true ∧ Binds K fd ps []
section
variable {X : Cx} {j k : Nat} {x : Str} {ps : List Str} {sp : Sp} {e : Expr} {es : List Expr} {t : TA} {p pos : Pos}
theorem pe_k (c : Cl X.prog X.w X.K X.mg X.base k x ps sp) (hr : Room j X.A) (hk : k ≤ j) (hg : Gl X x) (ha : PA X (e :: es) t)
    (hdb : (x == ("__debug__" : Str)) = false := by decide) (he : starEach (e :: es) X.env = (false, eval e X.env) :: starEach es X.env := by rfl) (hpl : (backTo pos (starEach es X.env)).any (·.1) = false := by rfl) :
    PE X (.Call (.Name x p) (e :: es) [] pos) (tCall sp [] E0 t) := by
  obtain ⟨f, fd, F, hm, kp, b⟩ := c.ex
  exact pe_call F (hr.mono hk) hg hm kp b .nil pass0 ha hdb he hpl
end

/-! ### a list against [], a tuple against () -/
def rNe0 (K : PySem.W.Frag) : R2 := fun x y H Q => ∃ a b xs, x = .ref a ∧ y = .ref b ∧ SqL K H a xs ∧ SqL K H b [] ∧ Q (.bl (!xs.isEmpty)) H
def rEq0 (K : PySem.W.Frag) : R2 := fun x y H Q => ∃ a b xs, x = .ref a ∧ y = .ref b ∧ SqL K H a xs ∧ SqL K H b [] ∧ Q (.bl xs.isEmpty) H
def rNe0T (K : PySem.W.Frag) : R2 := fun x y H Q => ∃ a b xs, x = .ref a ∧ y = .ref b ∧ SqT K H a xs ∧ SqT K H b [] ∧ Q (.bl (!xs.isEmpty)) H
def rEq0T (K : PySem.W.Frag) : R2 := fun x y H Q => ∃ a b xs, x = .ref a ∧ y = .ref b ∧ SqT K H a xs ∧ SqT K H b [] ∧ Q (.bl xs.isEmpty) H
section
variable {X : Cx}
theorem op_ne0 (hu : X.A.units + 64 < cLine) : OpR X (compareOp .NotEq) (rNe0 X.K) := by
  intro pins s σ H x y v u Q I rx ry h
  obtain ⟨a, b, xs, rfl, rfl, h1, h2, q⟩ := h
  cases rx
  cases ry
  obtain ⟨its, rv, hl, _⟩ := I.list h1
  obtain ⟨its2, rv2, hl2, _⟩ := I.list h2
  cases rv2
  have hu' : X.A.units < cLine := by omega
  cases rv with
  | nil => exact SeqAt.RcNeAt.lists (e := fun _ => true) hl.isList hl2.isList rfl hu' (fun j h1 _ => absurd h1 (Nat.not_lt_zero _)) _ _ _ _ ⟨.bl _, H, I, rfl, q⟩
  | cons r1 r2 => exact SeqAt.RcNeAt.lists_lengths hl.isList hl2.isList (by simp) hu' _ _ _ _ ⟨.bl _, H, I, rfl, q⟩
theorem op_eq0 (hu : X.A.units + 64 < cLine) : OpR X (compareOp .Eq) (rEq0 X.K) := by
  intro pins s σ H x y v u Q I rx ry h
  obtain ⟨a, b, xs, rfl, rfl, h1, h2, q⟩ := h
  cases rx
  cases ry
  obtain ⟨its, rv, hl, _⟩ := I.list h1
  obtain ⟨its2, rv2, hl2, _⟩ := I.list h2
  cases rv2
  have hu' : X.A.units < cLine := by omega
  cases rv with
  | nil => exact SeqAt.RcAt.lists (e := fun _ => true) hl.isList hl2.isList rfl hu' (fun j h1 _ => absurd h1 (Nat.not_lt_zero _)) _ _ _ _ ⟨.bl _, H, I, rfl, q⟩
  | cons r1 r2 => exact SeqAt.RcAt.lists_lengths hl.isList hl2.isList (by simp) hu' _ _ _ _ ⟨.bl _, H, I, rfl, q⟩
theorem op_ne0T (hu : X.A.units + 64 < cLine) : OpR X (compareOp .NotEq) (rNe0T X.K) := by
  intro pins s σ H x y v u Q I rx ry h
  obtain ⟨a, b, xs, rfl, rfl, h1, h2, q⟩ := h
  cases rx
  cases ry
  obtain ⟨its, rv, hl, _⟩ := I.tuple h1
  obtain ⟨its2, rv2, hl2, _⟩ := I.tuple h2
  cases rv2
  have hu' : X.A.units < cLine := by omega
  refine SeqAt.RcNeAt.tuples (e := fun _ => true) hl hl2 hu' (fun j _ h2 => absurd h2 (Nat.not_lt_zero _)) _ _ _ _ ⟨.bl _, H, I, ?_, q⟩
  cases rv with
  | nil => rfl
  | cons r1 r2 => rfl
theorem op_eq0T (hu : X.A.units + 64 < cLine) : OpR X (compareOp .Eq) (rEq0T X.K) := by
  intro pins s σ H x y v u Q I rx ry h
  obtain ⟨a, b, xs, rfl, rfl, h1, h2, q⟩ := h
  cases rx
  cases ry
  obtain ⟨its, rv, hl, _⟩ := I.tuple h1
  obtain ⟨its2, rv2, hl2, _⟩ := I.tuple h2
  cases rv2
  have hu' : X.A.units < cLine := by omega
  refine SeqAt.RcAt.tuples (e := fun _ => true) hl hl2 hu' (fun j _ h2 => absurd h2 (Nat.not_lt_zero _)) _ _ _ _ ⟨.bl _, H, I, ?_, q⟩
  cases rv with
  | nil => rfl
  | cons r1 r2 => rfl
end

/-! ### heaps -/
theorem sz {n : Nat} (h : n ≤ 1000) : n ≤ sizeLine := Nat.le_of_lt (small1000 h)
theorem same_upd {H : Hp} {p : Addr} {o : HO} (h : H p = none) : Same H (upd H p o) := fun b x e => by
  rw [upd_ne (ne_of_none e h)]
  exact e
theorem Same.tq {K : PySem.W.Frag} {H H' : Hp} {a : Addr} {xs : List V} (e : Same H H') (h : SqT K H a xs) : SqT K H' a xs := by
  rcases h with (h | ⟨o, h⟩) | h
  · exact .inl (.inl (e _ _ h))
  · exact .inl (.inr ⟨o, e _ _ h⟩)
  · exact .inr h
theorem seqIndex_nat {n j : Nat} (h : j < n) : seqIndex? (j : Int) n = some j := by
  unfold seqIndex?
  simp
  omega
/-- the heap without the deck's two changing lists -/
def msk (d b : Addr) (H : Hp) : Hp := fun a => if a = d ∨ a = b then none else H a
theorem msk_ne {d b a : Addr} {H : Hp} (h1 : a ≠ d) (h2 : a ≠ b) : msk d b H a = H a := by
  unfold msk
  rw [if_neg (fun z => z.elim h1 h2)]
theorem msk_some {d b a : Addr} {H : Hp} {o : HO} (h : msk d b H a = some o) : a ≠ d ∧ a ≠ b ∧ H a = some o := by
  unfold msk at h
  split at h
  · cases h
  · rename_i q
    exact ⟨fun z => q (.inl z), fun z => q (.inr z), h⟩
theorem msk_sub {d b : Addr} {H : Hp} : Same (msk d b H) H := fun _ _ e => (msk_some e).2.2
theorem msk_none {d b a : Addr} {H : Hp} (h : H a = none) : msk d b H a = none := by
  unfold msk
  split
  · rfl
  · exact h
theorem msk_new {d b p : Addr} {H : Hp} {o : HO} (h1 : p ≠ d) (h2 : p ≠ b) : msk d b (upd H p o) = upd (msk d b H) p o := by
  funext a
  by_cases e : a = p
  · subst e
    rw [msk_ne h1 h2, upd_same, upd_same]
  · rw [upd_ne e]
    unfold msk
    rw [upd_ne e]
theorem msk_d {d b : Addr} {H : Hp} {o : HO} : msk d b (upd H d o) = msk d b H := by
  funext a
  unfold msk
  split
  · rfl
  · rename_i q
    rw [upd_ne fun z => q (.inl z)]
theorem msk_b {d b : Addr} {H : Hp} {o : HO} : msk d b (upd H b o) = msk d b H := by
  funext a
  unfold msk
  split
  · rfl
  · rename_i q
    rw [upd_ne fun z => q (.inr z)]
theorem msk_same {d b : Addr} {H H' : Hp} (h : Same H H') : Same (msk d b H) (msk d b H') := fun a o e => by
  obtain ⟨h1, h2, h3⟩ := msk_some e
  rw [msk_ne h1 h2]
  exact h _ _ h3

/-- the deck: its list at d, the large cells at b, all cells at c, n mixed draws so far -/
structure Dk (d b c : Addr) (n : Int) (H : Hp) : Prop where
  db : d ≠ b
  dc : d ≠ c
  bc : b ≠ c
  n0 : 0 ≤ n
  at_d : H d = some (.lst [.ref b, .ref c, .int n])
  at_b : ∃ bs : List Int, H b = some (.lst (bs.map V.int))
  at_c : ∃ cs : List Int, H c = some (.lst (cs.map V.int)) ∧ cs ≠ [] ∧ cs.length ≤ 1000
theorem Dk.same {d b c : Addr} {n : Int} {H H' : Hp} (h : Dk d b c n H) (s : Same H H') : Dk d b c n H' := by
  obtain ⟨x1, x2, x3, x4, x5, ⟨bs, x6⟩, cs, x7, x8⟩ := h
  exact ⟨x1, x2, x3, x4, s _ _ x5, ⟨bs, s _ _ x6⟩, cs, s _ _ x7, x8⟩
/-- what a draw leaves -/
structure Dr (d b c : Addr) (n : Int) (H : Hp) (n' : Int) (H' : Hp) : Prop where
  dk : Dk d b c n' H'
  le : n' ≤ n
  sm : Same (msk d b H) (msk d b H')
/-- _law_next(deck, many): some number below many -/
def spNext : Sp := fun vs H Q _ => ∃ (d b c : Addr) (n m : Int), vs = [.ref d, .int m] ∧ Dk d b c n H ∧ n < 2 ^ 60 ∧ 0 < m ∧ m < 1073741824 ∧
  ∀ (v n' : Int) (H' : Hp), 0 ≤ v → v < m → Dr d b c (n + 1) H n' H' → Q (.int v) H'
end Pb

set_option Elab.async false
set_option linter.all false
set_option maxRecDepth 100000
namespace Pb
open PySem PySem.Spec PyProof.Rows L2
/-! ### data with small leaves, and how long its text is at most -/
mutual
def okD : PyData → Bool
  | .none => true
  | .bool _ => true
  | .int i => decide (i.natAbs < 10 ^ 80)
  | .str x => decide (x.length ≤ 100) && x.cps.toList.all fun c => decide (c < 16 ^ 8)
  | .list xs => decide (xs.length ≤ 60) && okAll xs
  | .tuple xs => decide (xs.length ≤ 60) && okAll xs
  | .dict kvs => kvs.isEmpty
def okAll : List PyData → Bool
  | [] => true
  | x :: xs => okD x && okAll xs
end
mutual
def wt : PyData → Nat
  | .none => 4
  | .bool _ => 5
  | .int _ => 81
  | .str _ => 2000
  | .list xs => wtAll xs + 3
  | .tuple xs => wtAll xs + 3
  | .dict _ => 3
def wtAll : List PyData → Nat
  | [] => 0
  | x :: xs => wt x + 2 + wtAll xs
end
theorem log_of_80 {n : Nat} (h : n < 10 ^ 80) : n.log2 < 1920 := by
  have h1 : n < 2 ^ 1920 := Nat.lt_of_lt_of_le h (by decide +kernel)
  by_cases e : n = 0
  · subst e
    decide
  · exact (Nat.log2_lt e).mpr h1
mutual
theorem show_len : ∀ d : PyData, okD d = true → d.shown.length ≤ wt d ∧ d.showable = true
  | .none, _ => ⟨by decide, rfl⟩
  | .bool b, _ => ⟨by cases b <;> decide, rfl⟩
  | .int i, h => by
    have h1 : i.natAbs < 10 ^ 80 := by
      simp only [okD, decide_eq_true_eq] at h
      exact h
    have e := int_text_length_le10 (k := 80) (by decide) h1
    refine ⟨?_, ?_⟩
    · show (Str.ofString (toString i)).length ≤ 81
      rw [PySem.ofString_length]
      exact e
    · simp only [PyData.showable, decide_eq_true_eq]
      exact log_of_80 h1
  | .str x, h => by
    simp only [okD, Bool.and_eq_true, decide_eq_true_eq, List.all_eq_true] at h
    refine ⟨?_, rfl⟩
    have e := StrLaws.reprText_len x h.2
    show (reprText x).length ≤ 2000
    omega
  | .list xs, h => by
    obtain ⟨h1, h2⟩ := show_all xs (by simp only [okD, Bool.and_eq_true] at h; exact h.2)
    have h3 := listText_len_le (PyData.shownAll xs)
    have h4 := PyData.shownAll_length xs
    refine ⟨?_, ?_⟩
    · simp only [PyData.shown, wt]
      omega
    · simpa only [PyData.showable] using h2
  | .tuple xs, h => by
    obtain ⟨h1, h2⟩ := show_all xs (by simp only [okD, Bool.and_eq_true] at h; exact h.2)
    have h3 := tupleText_len_le (PyData.shownAll xs)
    have h4 := PyData.shownAll_length xs
    refine ⟨?_, ?_⟩
    · simp only [PyData.shown, wt]
      omega
    · simpa only [PyData.showable] using h2
  | .dict kvs, h => by
    cases kvs with
    | nil => exact ⟨by decide, rfl⟩
    | cons a r =>
      simp only [okD, List.isEmpty_cons] at h
      cases h
theorem show_all : ∀ xs : List PyData, okAll xs = true → ((PyData.shownAll xs).map (·.length)).sum + 2 * xs.length ≤ wtAll xs ∧ PyData.showableAll xs = true
  | [], _ => ⟨Nat.le_refl _, rfl⟩
  | x :: xs, h => by
    simp only [okAll, Bool.and_eq_true] at h
    obtain ⟨h1, h2⟩ := show_len x h.1
    obtain ⟨h3, h4⟩ := show_all xs h.2
    refine ⟨?_, ?_⟩
    · simp only [PyData.shownAll, List.map_cons, List.sum_cons, List.length_cons, wtAll]
      omega
    · simp only [PyData.showableAll, h2, h4, Bool.and_self]
end
theorem okAll_iff : ∀ {xs : List PyData}, okAll xs = true ↔ ∀ x ∈ xs, okD x = true
  | [] => ⟨fun _ _ h => absurd h List.not_mem_nil, fun _ => rfl⟩
  | x :: xs => by
    simp only [okAll, Bool.and_eq_true, List.mem_cons, okAll_iff (xs := xs)]
    exact ⟨fun h y hy => hy.elim (fun e => e ▸ h.1) (h.2 y), fun h => ⟨h x (.inl rfl), fun y hy => h y (.inr hy)⟩⟩
theorem wtAll_le {n : Nat} : ∀ {xs : List PyData}, (∀ x ∈ xs, wt x ≤ n) → wtAll xs ≤ (n + 2) * xs.length
  | [], _ => Nat.zero_le _
  | x :: xs, h => by
    have h1 := wtAll_le (xs := xs) fun y hy => h y (List.mem_cons_of_mem _ hy)
    have h2 := h x List.mem_cons_self
    simp only [wtAll, List.length_cons]
    rw [Nat.mul_succ]
    omega
theorem depthAll_le {n : Nat} : ∀ {xs : List PyData}, (∀ x ∈ xs, x.depth ≤ n) → PyData.depthAll xs ≤ n
  | [], _ => Nat.zero_le _
  | x :: xs, h => by
    have h1 := depthAll_le (xs := xs) fun y hy => h y (List.mem_cons_of_mem _ hy)
    have h2 := h x List.mem_cons_self
    simp only [PyData.depthAll]
    omega

mutual
/-- no list in it -/
def nl : PyData → Bool
  | .list _ => false
  | .tuple xs => nlAll xs
  | _ => true
def nlAll : List PyData → Bool
  | [] => true
  | x :: xs => nl x && nlAll xs
end
/-! ### data in the heap -/
mutual
inductive Da (K : PySem.W.Frag) (H : Hp) : V → PyData → Prop
  | non : Da K H .non .none
  | bl (b : Bool) : Da K H (.bl b) (.bool b)
  | int (i : Int) : Da K H (.int i) (.int i)
  | str (x : Str) : Da K H (.str x) (.str x)
  | lst {a : Addr} {xs : List V} {ds : List PyData} : SqL K H a xs → DaAll K H xs ds → Da K H (.ref a) (.list ds)
  | tup {a : Addr} {xs : List V} {ds : List PyData} : SqT K H a xs → DaAll K H xs ds → Da K H (.ref a) (.tuple ds)
  | emp {a : Addr} : H a = some (.dK []) → Da K H (.ref a) (.dict [])
inductive DaAll (K : PySem.W.Frag) (H : Hp) : List V → List PyData → Prop
  | nil : DaAll K H [] []
  | cons {v : V} {vs : List V} {d : PyData} {ds : List PyData} : Da K H v d → DaAll K H vs ds → DaAll K H (v :: vs) (d :: ds)
end
section
variable {K : PySem.W.Frag} {H H' : Hp}
mutual
theorem Da.same (s : Same H H') : ∀ (d : PyData) (v : V), Da K H v d → Da K H' v d
  | .none, _, h => by
    cases h
    exact .non
  | .bool b, _, h => by
    cases h
    exact .bl b
  | .int i, _, h => by
    cases h
    exact .int i
  | .str x, _, h => by
    cases h
    exact .str x
  | .list ds, _, h => by
    cases h with
    | lst h1 h2 => exact .lst (s.seq h1) (DaAll.same s ds _ h2)
  | .tuple ds, _, h => by
    cases h with
    | tup h1 h2 => exact .tup (Same.tq s h1) (DaAll.same s ds _ h2)
  | .dict _, _, h => by
    cases h with
    | emp h1 => exact .emp (s _ _ h1)
theorem DaAll.same (s : Same H H') : ∀ (ds : List PyData) (vs : List V), DaAll K H vs ds → DaAll K H' vs ds
  | [], _, h => by
    cases h
    exact .nil
  | d :: ds, _, h => by
    cases h with
    | cons h1 h2 => exact .cons (Da.same s d _ h1) (DaAll.same s ds _ h2)
end
theorem Da.mono {v : V} {d : PyData} (h : Da K H v d) (s : Same H H') : Da K H' v d := Da.same s d v h
theorem DaAll.mono {vs : List V} {ds : List PyData} (h : DaAll K H vs ds) (s : Same H H') : DaAll K H' vs ds := DaAll.same s ds vs h
theorem DaAll.len : ∀ {vs : List V} {ds : List PyData}, DaAll K H vs ds → vs.length = ds.length
  | [], _, h => by
    cases h
    rfl
  | v :: vs, _, h => by
    cases h with
    | cons h1 h2 =>
      rw [List.length_cons, List.length_cons, DaAll.len h2]
theorem DaAll.get : ∀ {vs : List V} {ds : List PyData} {i : Nat} {v : V}, DaAll K H vs ds → vs[i]? = some v → ∃ d, ds[i]? = some d ∧ Da K H v d
  | [], _, _, _, h, e => by simp at e
  | x :: vs, _, i, v, h, e => by
    cases h with
    | cons h1 h2 =>
      cases i with
      | zero =>
        simp at e
        subst e
        exact ⟨_, rfl, h1⟩
      | succ i => exact DaAll.get (i := i) h2 (by simpa using e)
theorem DaAll.of_get : ∀ {vs : List V} {ds : List PyData}, vs.length = ds.length → (∀ (i : Nat) (v : V) (d : PyData), vs[i]? = some v → ds[i]? = some d → Da K H v d) → DaAll K H vs ds
  | [], [], _, _ => .nil
  | [], _ :: _, h, _ => by simp at h
  | _ :: _, [], h, _ => by simp at h
  | v :: vs, d :: ds, h, f => .cons (f 0 v d rfl rfl) (DaAll.of_get (by simpa using h) fun i x y h1 h2 => f (i + 1) x y (by simpa using h1) (by simpa using h2))
theorem DaAll.append : ∀ {vs ws : List V} {ds es : List PyData}, DaAll K H vs ds → DaAll K H ws es → DaAll K H (vs ++ ws) (ds ++ es)
  | [], _, _, _, h, k => by
    cases h
    exact k
  | _ :: _, _, _, _, h, k => by
    cases h with
    | cons h1 h2 => exact .cons h1 (DaAll.append h2 k)
theorem DaAll.ints : ∀ ns : List Int, DaAll K H (ns.map V.int) (ns.map PyData.int)
  | [] => .nil
  | n :: ns => .cons (.int n) (DaAll.ints ns)
theorem DaAll.drop : ∀ (n : Nat) {vs : List V} {ds : List PyData}, DaAll K H vs ds → DaAll K H (vs.drop n) (ds.drop n)
  | 0, _, _, h => h
  | n + 1, [], _, h => by
    cases h
    exact .nil
  | n + 1, _ :: _, _, h => by
    cases h with
    | cons h1 h2 => exact DaAll.drop n h2
theorem DaAll.take : ∀ (n : Nat) {vs : List V} {ds : List PyData}, DaAll K H vs ds → DaAll K H (vs.take n) (ds.take n)
  | 0, _, _, _ => .nil
  | n + 1, [], _, h => by
    cases h
    exact .nil
  | n + 1, _ :: _, _, h => by
    cases h with
    | cons h1 h2 => exact .cons h1 (DaAll.take n h2)
theorem DaAll.rev : ∀ {vs : List V} {ds : List PyData}, DaAll K H vs ds → DaAll K H vs.reverse ds.reverse
  | [], _, h => by
    cases h
    exact .nil
  | _ :: _, _, h => by
    cases h with
    | cons h1 h2 =>
      rw [List.reverse_cons, List.reverse_cons]
      exact (DaAll.rev h2).append (.cons h1 .nil)
end

/-! ### isinstance -/
def tyN : PyData → String
  | .none => "NoneType"
  | .bool _ => "bool"
  | .int _ => "int"
  | .str _ => "str"
  | .list _ => "list"
  | .tuple _ => "tuple"
  | .dict _ => "dict"
theorem Da.ty {K : PySem.W.Frag} {H : Hp} : ∀ {v : V} {d : PyData}, Da K H v d → TyX K H v (.type (tyN d))
  | _, _, .non => .base .non
  | _, _, .bl b => .base (.bl b)
  | _, _, .int i => .base (.int i)
  | _, _, .str x => .base (.str x)
  | _, _, .lst h _ => by
    rcases h with (h | ⟨o, h⟩) | h
    · exact .base (.lst h)
    · exact .base (.frz h)
    · obtain ⟨o, its, n, ho, hc, _⟩ := h
      exact .kList ho hc
  | _, _, .tup h _ => by
    rcases h with (h | ⟨o, h⟩) | h
    · exact .base (.tup h)
    · exact .fTuple h
    · obtain ⟨o, its, n, ho, hc, _⟩ := h
      exact .kTuple ho hc
  | _, _, .emp h => .base (.dK h)
/-- whether isinstance(d, T) is true -/
def isN (T a : String) : Bool := a == T || (T == "int" && a == "bool")
def isI (T : String) (d : PyData) : Bool := isN T (tyN d)
theorem kit_isN : ∀ a ∈ ["NoneType", "bool", "int", "str", "list", "tuple", "dict"], ∀ T ∈ ["int", "bool", "tuple", "list", "dict", "str"], kitB a T = some (isN T a) := by decide +kernel
theorem kit_isI (T : String) (d : PyData) (hT : T ∈ ["int", "bool", "tuple", "list", "dict", "str"]) : kitB (tyN d) T = some (isI T d) :=
  kit_isN (tyN d) (by cases d <;> simp [tyN]) T hT
section
variable {K : PySem.W.Frag} {σ : L2.St} {H : Hp} {ta : TE} {x : V} {d : PyData}
theorem isi_of {T : String} {Q : VK} (h : Da K H x d) (q : Q (.bl (isI T d)) H) (hT : T ∈ ["int", "bool", "tuple", "list", "dict", "str"] := by decide) : rIsi K [x, .ty T] H Q :=
  ⟨x, .ty T, _, _, _, rfl, .ty T, h.ty, kit_ty (kit_isI T d hT), q⟩
theorem ev_isi {T : String} (ha : Evl.Ev ta σ H x) (h : Da K H x d) (hT : T ∈ ["int", "bool", "tuple", "list", "dict", "str"] := by decide) :
    Evl.Ev (tCB (rIsi K) (tCons ta (tCons (tC (.ty T)) tNil))) σ H (.bl (isI T d)) := fun H1 e Q q =>
  ha H1 e _ fun H2 e2 => isi_of (h.mono (Same.trans e e2)) (q H2 e2) hT
end

/-! ### repr -/
section
variable {X : Cx} {pins : List (Addr × Obj)} {σ : L2.St} {H : Hp} {s : Shared}
theorem noSys (I : Inv X pins σ H s) {a : Addr} (h : H a = some (.dK [])) : (a == sysModules) = false := (I.hok a _ h).2.1
mutual
theorem Da.reads (I : Inv X pins σ H s) : ∀ (d : PyData) (v : V) (u : Value), Da X.K H v d → RelV v u → ∃ as, Reads s.heap u d as ∧ (nl d = true → sysModules ∉ as)
  | .none, _, _, h, r => by
    cases h
    cases r
    exact ⟨_, Reads.none, fun _ => List.not_mem_nil⟩
  | .bool b, _, _, h, r => by
    cases h
    cases r
    exact ⟨_, Reads.bool b, fun _ => List.not_mem_nil⟩
  | .int i, _, _, h, r => by
    cases h
    obtain ⟨t, rfl⟩ := r
    exact ⟨_, Reads.int i t, fun _ => List.not_mem_nil⟩
  | .str x, _, _, h, r => by
    cases h
    obtain ⟨t, rfl⟩ := r
    exact ⟨_, Reads.str x t, fun _ => List.not_mem_nil⟩
  | .list ds, _, _, h, r => by
    cases h with
    | lst hs ha =>
      cases r
      obtain ⟨its, rv, ⟨o, n, ho, hc, _, hd⟩, _⟩ := I.list hs
      obtain ⟨as, hr, _⟩ := Da.readsAll I ds _ its ha rv
      exact ⟨_, Reads.list ho hc hd hr, fun z => nomatch z⟩
  | .tuple ds, _, _, h, r => by
    cases h with
    | tup hs ha =>
      cases r
      obtain ⟨its, rv, ⟨o, ho, hc, n, hd⟩, _⟩ := I.tuple hs
      obtain ⟨as, hr, hn⟩ := Da.readsAll I ds _ its ha rv
      exact ⟨_, Reads.tuple ho hc hd hr, hn⟩
  | .dict kvs, _, _, h, r => by
    cases h with
    | emp h1 =>
      cases r
      have ns := noSys I h1
      obtain ⟨_, _, vs, k, o, es, ep, e1, e2, e3, _, e4, _⟩ := I.hok _ _ h1
      cases k
      have e5 : es.toList = [] := by
        generalize es.toList = l at e4
        cases e4
        rfl
      refine ⟨_, Reads.dict (kvs := []) (as := []) (bs := []) e1 e2.1 e3 (by rw [e5]; exact .nil) (by rw [e5]; exact .nil), fun _ z => ?_⟩
      rcases List.mem_cons.mp z with z | z
      · rw [← z] at ns
        simp at ns
      · exact absurd z List.not_mem_nil
theorem Da.readsAll (I : Inv X pins σ H s) : ∀ (ds : List PyData) (vs : List V) (us : List Value), DaAll X.K H vs ds → Vals vs us → ∃ as, ReadsAll s.heap us ds as ∧ (nlAll ds = true → sysModules ∉ as)
  | [], _, _, h, r => by
    cases h
    cases r
    exact ⟨_, ReadsAll.nil, fun _ => List.not_mem_nil⟩
  | d :: ds, _, _, h, r => by
    cases h with
    | cons h1 h2 =>
      cases r with
      | cons r1 r2 =>
        obtain ⟨as, q1, n1⟩ := Da.reads I d _ _ h1 r1
        obtain ⟨bs, q2, n2⟩ := Da.readsAll I ds _ _ h2 r2
        refine ⟨_, ReadsAll.cons q1 q2, fun z => ?_⟩
        simp only [nlAll, Bool.and_eq_true] at z
        intro m
        rcases List.mem_append.mp m with m | m
        · exact n1 z.1 m
        · exact n2 z.2 m
end
/-- repr of data, where nothing is being shown -/
def rReprD (K : PySem.W.Frag) : List V → Hp → VK → Prop := fun xs H Q => ∃ (x : V) (d : PyData), xs = [x] ∧ Da K H x d ∧ okD d = true ∧ wt d ≤ 1000000 ∧ d.depth ≤ 20 ∧ (d.hasDict = true → nl d = true) ∧ Q (.str d.shown) H
theorem call_reprD (hg : X.A.guards = some []) (hu : X.A.units + 64 < cLine) : CallR X (.builtin "repr") (rReprD X.K) := by
  intro pins s σ H vs us Q I r h
  obtain ⟨x, d, rfl, hx, ok, hw, hd, hn, q⟩ := h
  obtain ⟨u, rfl, r1⟩ : ∃ u, us = [u] ∧ RelV x u := by
    cases r with
    | cons r1 r2 =>
      cases r2
      exact ⟨_, rfl, r1⟩
  obtain ⟨as, rd, ns⟩ := Da.reads I d x u hx r1
  obtain ⟨sl, sh⟩ := show_len d ok
  cases hx with
  | non =>
    cases r1
    exact P.repr_of_none ⟨.str _, H, I.tok _, ⟨_, rfl⟩, q⟩
  | bl b =>
    cases r1
    exact P.repr_of_bool ⟨.str _, H, I.tok _, ⟨_, rfl⟩, q⟩
  | int i =>
    obtain ⟨t, rfl⟩ := r1
    exact P.repr_of_int (by simpa only [PyData.showable, decide_eq_true_eq] using sh) ⟨.str _, H, I.tok _, ⟨_, rfl⟩, q⟩
  | str z =>
    obtain ⟨t, rfl⟩ := r1
    exact P.repr_of_str ⟨.str _, H, I.tok _, ⟨_, rfl⟩, q⟩ (Nat.le_trans sl (Nat.le_trans hw (by decide)))
  | lst h1 h2 =>
    cases r1
    exact repr_of_reads' rd sh (fun z => ns (hn z)) hg (by omega) (fun _ _ e => e) (fun h' u tk hk => ⟨.str _, H, I.kept (t' := tk) hk, ⟨_, rfl⟩, q⟩) (Nat.le_trans sl (Nat.le_trans hw (by decide)))
  | tup h1 h2 =>
    cases r1
    exact repr_of_reads' rd sh (fun z => ns (hn z)) hg (by omega) (fun _ _ e => e) (fun h' u tk hk => ⟨.str _, H, I.kept (t' := tk) hk, ⟨_, rfl⟩, q⟩) (Nat.le_trans sl (Nat.le_trans hw (by decide)))
  | emp h1 =>
    cases r1
    exact repr_of_reads' rd sh (fun z => ns (hn z)) hg (by omega) (fun _ _ e => e) (fun h' u tk hk => ⟨.str _, H, I.kept (t' := tk) hk, ⟨_, rfl⟩, q⟩) (Nat.le_trans sl (Nat.le_trans hw (by decide)))
end
end Pb

set_option Elab.async false
set_option linter.all false
set_option maxRecDepth 100000
namespace Pb
open PySem PySem.Spec PyProof.Rows L2
section
variable {X : Cx}
/-- set(t), a tuple of ints -/
def rSetI (K : PySem.W.Frag) (w : World) : List V → Hp → VK → Prop := fun xs H Q => ∃ (l : Addr) (ns : List Int), xs = [.ref l] ∧ SqT K H l (ns.map V.int) ∧ ns.length ≤ 1000 ∧
  ∀ (p : Addr) (c : Nat), c ≤ ns.length → H p = none → Q (.ref p) (upd H p (SetO w p (fun j => decide (j ∈ ns)) c))
theorem cr_setI (hc : X.calm = true) : CallR X (.type "set") (rSetI X.K X.w) := by
  intro pins s σ H xs us Q I r h
  obtain ⟨l, ns, rfl, hx, hl, q⟩ := h
  rw [Vals.ref1 r]
  obtain ⟨its, rv, pt, hz⟩ := I.tuple hx
  have hi : IntsAre its.toArray.toList ns := ints_of_vals rv
  refine call_set_tupI ns (I.ok.hd hc) (show s.heap.IsTuple l its.toArray from pt) hi (by unfold scanBound; omega) fun h' tk c R1 hcn k => ?_
  exact ⟨.ref _, upd H s.heap.objs.size (SetO X.w s.heap.objs.size (fun j => decide (j ∈ ns)) c), I.laid (t' := tk) k (Nat.le_refl _) (setO_new R1), rfl, q _ c hcn (I.hok.fresh (Nat.le_refl _))⟩
/-- sorted(t), a tuple of ints -/
def rSortT (K : PySem.W.Frag) : List V → Hp → VK → Prop := fun vs H Q => ∃ (a : Addr) (ns : List Int), vs = [V.ref a] ∧ SqT K H a (ns.map V.int) ∧
  ∀ (ns' : List Int) (p : Addr), ns'.Perm ns → ns'.Pairwise (· ≤ ·) → H p = none → Q (.ref p) (upd H p (.lst (ns'.map V.int)))
theorem cr_sortT : CallR X (.builtin "sorted") (rSortT X.K) := by
  intro pins s σ H vs us Q I r h
  obtain ⟨a, ns, rfl, hs, q⟩ := h
  obtain ⟨its, rv, ⟨o, ho, hcl, n, hd⟩, hz⟩ := I.tuple hs
  rw [Vals.ref1 r]
  have hi := rv.ints
  have hzl : its.length ≤ sizeLine := by
    rw [← rv.length]
    exact hz
  refine Calls.call_function_entry kind_sorted plain_sorted entry_sorted (args_sorted1 _) ?_
  unfold Builtin.«sorted»
  refine wpAny_bind (m := checkCount "sorted" 1 1 _) (wpAny_pure ?_)
  refine wpAny_bind (wpAny_collect_seq a (T := "tuple") (.inr rfl) ho hcl hd (fun h' k => ?_) (by rw [List.size_toArray]; exact hzl))
  rw [show its.toArray.toList = its by simp]
  refine wpAny_bind (wpAny_newList ?_ hzl)
  have hoL : (h'.push (seqObj "list" its.toArray 0)).get? h'.objs.size = some (seqObj "list" its.toArray 0) := Heap.get?_push_size _ rfl
  refine wpAny_bind (wpAny_holding (wpAny_call_entry (s := { s with heap := h'.push (seqObj "list" its.toArray 0) }) slot_list_sort ⟨_, hoL, rfl⟩ entry_list_sort
    (SrtO.list_sort_ord (s := { s with heap := h'.push (seqObj "list" its.toArray 0) }) SrtO.swo_int hoL hzl (fun h2 => SrtO.ints_sortable hi h2) fun out h1 h2 => ⟨_, rfl, ?_⟩) (args_list_sort _)))
  refine wpAny_pure ⟨_, rfl, ?_⟩
  obtain ⟨k1, k2, k3⟩ := SrtO.ints_out hi h1 h2
  obtain ⟨ep, he'⟩ := PyProof.Rows.sortedHeap_at (vs := its) (out := out.toArray) hoL
  have hlen : ((out.map SrtO.iv).map V.int).length ≤ sizeLine := by
    rw [List.length_map, k2.length_eq]
    rw [List.length_map] at hz
    exact hz
  have hnew : s.heap.get? h'.objs.size = none := by
    cases e : s.heap.get? h'.objs.size with
    | none => rfl
    | some u => exact absurd (Heap.lt_size (k _ _ e)) (Nat.lt_irrefl _)
  have hn : H h'.objs.size = none := I.hok.gone hnew
  exact ⟨.ref _, upd H h'.objs.size (.lst ((out.map SrtO.iv).map V.int)), I.laidN (t' := s.toks) (fun b u e => by
    have e1 := k b u e
    rw [PyProof.Rows.sortedHeap_old (Nat.ne_of_lt (Heap.lt_size e1)) (by rw [size_push']; exact Nat.lt_succ_of_lt (Heap.lt_size e1))]
    exact Heap.get?_push_of_some _ e1) hnew hn ⟨hlen, out, ep, vals_of_ints k1, he'⟩, rfl, q _ _ k2 k3 hn⟩
end
/-! ### t[::-1] -/
section
variable {prog : Program} {w : World} {A : Around} {E : Value → Shared → Prop} {s : Shared}
theorem places_rev (n : Nat) : Builtin.Slice.slicePlaces ((n : Int) - 1) (-1) (-1) = n := by
  unfold Builtin.Slice.slicePlaces
  rw [if_neg (by decide)]
  by_cases h : (n : Int) - 1 > -1
  · rw [if_pos h]
    show (((n : Int) - 1 - -1 - 1) / (- -1) + 1).toNat = n
    rw [show (- -1 : Int) = 1 by decide, Int.ediv_one]
    omega
  · rw [if_neg h]
    show 0 = n
    omega
theorem pick_rev (xs : Array Value) : ((List.range xs.size).filterMap fun (k : Nat) => xs[((xs.size : Int) - 1 + (k : Int) * (-1)).toNat]?).toArray = xs.toList.reverse.toArray := by
  congr 1
  refine List.ext_getElem? fun i => ?_
  have e : ∀ (l : List Nat), (∀ k ∈ l, k < xs.size) → l.filterMap (fun (k : Nat) => xs[((xs.size : Int) - 1 + (k : Int) * (-1)).toNat]?) = l.map fun k => xs.toList.reverse.getD k .none := by
    intro l
    induction l with
    | nil => intro _; rfl
    | cons a r ih =>
      intro h
      have ha := h a List.mem_cons_self
      have e1 : ((xs.size : Int) - 1 + (a : Int) * (-1)).toNat = xs.size - 1 - a := by omega
      have e2 : xs.toList.reverse[a]? = xs[xs.size - 1 - a]? := by
        rw [List.getElem?_reverse (by rw [Array.length_toList]; exact ha), Array.length_toList, Array.getElem?_toList]
      have e3 : xs[xs.size - 1 - a]? = some (xs[xs.size - 1 - a]'(by omega)) := Array.getElem?_eq_getElem (by omega)
      rw [List.filterMap_cons, e1, e3, List.map_cons, List.getD_eq_getElem?_getD, e2, e3, ih fun k hk => h k (List.mem_cons_of_mem _ hk)]
      rfl
  rw [e _ fun k hk => List.mem_range.mp hk, List.getElem?_map]
  by_cases h : i < xs.size
  · rw [List.getElem?_range h]
    show some (xs.toList.reverse.getD i .none) = _
    have : i < xs.toList.reverse.length := by simpa using h
    rw [List.getD_eq_getElem?_getD, List.getElem?_eq_getElem this]
    rfl
  · rw [List.getElem?_eq_none (by simpa using h), List.getElem?_eq_none (by simpa using h)]
    rfl
theorem getItem_tuple_rev {t sl : Addr} {items : Array Value} {tk : Tok} {Q : Value → Shared → Prop} (ht : IsTup s.heap t items) (hs : s.heap.IsSliceOf sl .none .none (.int (-1) tk))
    (h : Q (.ref s.heap.objs.size) { s with heap := s.heap.push { cls := .type "tuple", data := .seq items.toList.reverse.toArray } }) (hsz : items.size ≤ sizeLine) : wpAny (model prog w) A (getItem (.ref t) (.ref sl)) Q E s := by
  have hz : sizeOk (.seq items.toList.reverse.toArray) := by
    show items.toList.reverse.toArray.size ≤ sizeLine
    simpa using hsz
  obtain ⟨os, hos, hcs, hds⟩ := id hs
  have hTs : s.TypeIs (.ref sl) "slice" := ⟨os, hos, hcs⟩
  unfold getItem
  try with_reducible refine wpAny_holding ?_
  first | refine wpAny_bind (wpAny_pure ?_) | skip
  refine wpAny_bind (wpAny_sequenceKey ht.typeIs (by decide) ?_)
  refine wpAny_bind (wpAny_callSpecial?_slot (name := Str.ofString "__getitem__") ht.typeIs PyProof.Rows.slot_tuple_getitem
    (wpAny_call_entry PyProof.Rows.slot_tuple_getitem ht.typeIs PyProof.Rows.entry_tuple_getitem ?_ (PyProof.Rows.args_tuple_getitem _ _)))
  show wpAny _ _ (Builtin.Tuple.tupleItemsOf (.ref t) >>= _) _ _ s
  refine wpAny_bind (PyProof.Rows.tupleItemsOf_ ht ?_)
  refine wpAny_bind (wpAny_typeOf hTs ?_)
  rw [if_pos (by decide)]
  have step : wpAny (model prog w) A.in1 (Builtin.Slice.sliceApplied (.ref sl) (pure (items.size : Int))) (fun r s' => r = ((items.size : Int) - 1, -1, items.size) ∧ s' = s) E s := by
    unfold Builtin.Slice.sliceApplied Builtin.Slice.sliceFields
    refine wpAny_bind (wpAny_bind (wpAny_field hos hds (x := .none) rfl (wpAny_bind (wpAny_field hos hds (x := .none) rfl (wpAny_bind (wpAny_field hos hds (x := .int (-1) tk) rfl (wpAny_pure ?_)))))))
    refine wpAny_bind (PyProof.Rows.slicePart_int ?_)
    show wpAny _ _ (if ((-1 : Int) == 0) = true then _ else _) _ _ s
    rw [if_neg (by decide)]
    refine wpAny_bind (PyProof.Rows.slicePart_none (wpAny_bind (PyProof.Rows.slicePart_none (wpAny_bind (wpAny_pure ?_)))))
    show wpAny _ _ (pure ((items.size : Int) - 1, (-1 : Int), Builtin.Slice.slicePlaces ((items.size : Int) - 1) (-1) (-1))) _ _ s
    rw [places_rev]
    exact wpAny_pure ⟨rfl, rfl⟩
  refine wpAny_bind (wpAny_mono step (fun r s' hr => ?_) fun _ _ e => e)
  obtain ⟨rfl, rfl⟩ := hr
  show wpAny _ _ (if (((items.size : Int) - 1) == 0 && (-1 : Int) == 1 && items.size == items.size) = true then _ else _) _ _ _
  rw [if_neg (by simp), pick_rev]
  first
    | exact wpAny_bind (m := Builtin.Tuple.tupleExact _) (wpAny_newObj_type (wpAny_pure ⟨_, rfl, wpAny_pure h⟩) hz)
    | exact wpAny_bind (m := Builtin.Tuple.tupleExact _) (wpAny_newObj_type (wpAny_bind (wpAny_pure (wpAny_pure ⟨_, rfl, wpAny_pure h⟩))) hz)
    | exact wpAny_bind (wpAny_bind (m := Builtin.Tuple.tupleExact _) (wpAny_newObj_type (wpAny_pure (wpAny_pure ⟨_, rfl, wpAny_pure h⟩)) hz))
    | exact wpAny_bind (wpAny_bind (m := Builtin.Tuple.tupleExact _) (wpAny_newObj_type (wpAny_pure ⟨_, rfl, wpAny_pure h⟩) hz))
end
section
variable {X : Cx}
def tRevT (K : PySem.W.Frag) (te : TE) : TE := fun σ H Q => te σ H fun x H1 => ∃ a xs, x = .ref a ∧ SqT K H1 a xs ∧ ∀ p, H1 p = none → Q (.ref p) (upd H1 p (.tup xs.reverse))
theorem pe_revT {e : Expr} {te : TE} {k : Nat} {p1 p2 p3 pos : Pos} (he : PE X e te) : PE X (.Subscript e (.Slice none none (some (.UnaryOp .USub (.Constant (.int 1) k p1) p2)) p3) pos) (tRevT X.K te) := by
  refine ⟨fun pins s σ H Q I h => ?_⟩
  refine Subscript_ (thn (he.run pins s σ H _ I h) fun v s1 ⟨x, H1, I1, r1, q1⟩ => ?_)
  obtain ⟨a, xs, ex, hx, q⟩ := q1
  subst ex
  cases r1
  have hst : PO X (some (.UnaryOp .USub (.Constant (.int 1) k p1) p2)) (tPart (tUn (rU fun i => .int (-i)) (tC (.int 1)))) := po_some (pe_un un_neg pe_int)
  refine wpAny_Slice (thn (po_none.run pins s1 σ H1 (fun o H2 => o = none ∧ H2 = H1) I1 ⟨rfl, rfl⟩) fun vl s2 ⟨l, H2, I2, pl, el, e2⟩ => ?_)
  subst el e2
  refine thn (po_none.run pins s2 σ H2 (fun o H3 => o = none ∧ H3 = H2) I2 ⟨rfl, rfl⟩) fun vu s3 ⟨u, H3, I3, pu, eu, e3⟩ => ?_
  subst eu e3
  refine thn (hst.run pins s3 σ H3 (fun o H4 => o = some (-1) ∧ H4 = H3) I3 ⟨1, rfl, -1, rfl, rfl, rfl⟩) fun vs s4 ⟨o, H4, I4, ps, eo, e4⟩ => ?_
  subst eo e4
  cases pl
  cases pu
  cases ps with
  | int i tk =>
    have I5 : Inv X pins σ H4 { s4 with heap := s4.heap.push { cls := .type "slice", data := .fields #[.none, .none, .int (-1) tk] } } := I4.kept (t' := s4.toks) fun b ob q => Heap.get?_push_of_some _ q
    obtain ⟨its, r, ht, hz⟩ := I5.tuple hx
    have hlen := r.length
    show wpAny (model X.prog X.w) X.A (subscriptTail e (.Slice none none (some (.UnaryOp .USub (.Constant (.int 1) k p1) p2)) p3) (.ref a) (.ref s4.heap.objs.size)) (EP X pins σ Q) X.xe { s4 with heap := s4.heap.push { cls := .type "slice", data := .fields #[.none, .none, .int (-1) tk] } }
    refine tail_any (ops := [.ref a, .ref s4.heap.objs.size]) ht.typeIs (PyProof.Rows.slot_tuple_getitem.lookup) ?_ (by with_unfolding_all rfl)
    refine getItem_tuple_rev ht (Heap.IsSliceOf.new _ .none .none _) ?_ (by rw [List.size_toArray]; omega)
    refine ⟨.ref _, _, I5.laid (t' := s4.toks) (o := .tup xs.reverse) (fun b ob q => Heap.get?_push_of_some _ q) (Nat.le_refl _) ?_, rfl, q _ (I5.hok.fresh (Nat.le_refl _))⟩
    exact ⟨by rw [List.length_reverse]; exact hz, _, r.reverse, IsTup.new _ _⟩
end
end Pb

set_option Elab.async false
set_option linter.all false
set_option maxRecDepth 100000
namespace Pb
open PySem PySem.Spec PyProof.Rows L2
open PySem.AutoSeq1 (wpAny_loadPart')
/-! ### enumerate(t), t a tuple -/
theorem enum_new_tup (l : Addr) (items : Array Value) (n : Nat) (dd : Option Addr) (sl : Array (Option Value)) :
    Meets (Builtin.«enumerate.__new__» ⟨[.type "enumerate", .ref l], []⟩) (fun _ R s => s.heap.get? l = some { cls := .type "tuple", dict := dd, data := .seq items n, slots := sl } ∧
      R (.ok (.ret (.ref (s.heap.push { cls := .type "tuple_iterator", data := .fields #[.ref l, .int 0 0] }).objs.size)))
        { s with heap := (s.heap.push { cls := .type "tuple_iterator", data := .fields #[.ref l, .int 0 0] }).push { cls := .type "enumerate", data := .fields #[.none, .bool false, .ref s.heap.objs.size, rawInt 0, .none, .none] } }) :=
  .of_wp fun prog w A R s h => by
    obtain ⟨hp, g, d, tk, os⟩ := s
    obtain ⟨hl, h⟩ := h
    have hsub := sub_enumerate
    have hL : Heap.IsTuple (Shared.heap ⟨hp, g, d, tk, os⟩) l items := ⟨_, hl, rfl, n, rfl⟩
    wp_walk using wpAny_loadPart' hl
    refine wpAny_stack_any fun st => wpAny_pure ?_
    split
    · rename_i c _ _ _ _ _
      cases (c == Value.type "enumerate")
      · wp_walk using wpAny_loadPart' hl, wpAny_pyIter_tuple hL
        exact ⟨_, rfl, h⟩
      · wp_walk using wpAny_loadPart' hl, wpAny_pyIter_tuple hL
        exact ⟨_, rfl, h⟩
    · wp_walk using wpAny_loadPart' hl, wpAny_pyIter_tuple hL
      exact ⟨_, rfl, h⟩
section
variable {prog : Program} {w : World} {A : Around} {E : Value → Shared → Prop} {s : Shared}
theorem call_enum_tup {l : Addr} {items : Array Value} {Q : Value → Shared → Prop} (hL : s.heap.IsTuple l items)
    (h : ∀ h', IsEnum h' (s.heap.objs.size + 1) s.heap.objs.size 0 .none → h'.IsTupleIter s.heap.objs.size l 0 → h'.objs.size = s.heap.objs.size + 2 → (∀ b o, s.heap.get? b = some o → h'.get? b = some o) → Q (.ref (s.heap.objs.size + 1)) { s with heap := h' }) :
    wpAny (model prog w) A (call (.type "enumerate") [.ref l]) Q E s := by
  obtain ⟨⟨c, dct, dt, sl⟩, hl, hc, n, hd⟩ := hL
  simp only at hc hd
  subst hc hd
  refine callType_new F.called_enumerate (by decide) (F.typeCall_enumerate_1 _) (F.newCall_enumerate_1 _) (fun obj => F.args_object_init_2 obj _) F.entry_enumerate_new (enum_new_tup l items n dct sl) ⟨hl, ?_⟩
  have z1 : (s.heap.push { cls := .type "tuple_iterator", data := .fields #[.ref l, .int 0 0] }).objs.size = s.heap.objs.size + 1 := Heap.size_push ..
  have en : IsEnum ((s.heap.push { cls := .type "tuple_iterator", data := .fields #[.ref l, .int 0 0] }).push { cls := .type "enumerate", data := .fields #[.none, .bool false, .ref s.heap.objs.size, rawInt 0, .none, .none] }) (s.heap.objs.size + 1) s.heap.objs.size 0 .none := z1 ▸ Heap.get?_push_size (s.heap.push { cls := .type "tuple_iterator", data := .fields #[.ref l, .int 0 0] }) (o := { cls := .type "enumerate", data := .fields #[.none, .bool false, .ref s.heap.objs.size, rawInt 0, .none, .none] }) rfl
  show _ ∧ _
  rw [z1]
  exact ⟨⟨_, en, rfl⟩, h _ en ⟨_, Heap.get?_push_of_some _ (Heap.get?_push_size _ rfl), rfl, rfl⟩ ((Heap.size_push ..).trans (by rw [z1])) fun b o x => Heap.get?_push_of_some _ (Heap.get?_push_of_some _ x)⟩
end
section
variable {prog : Program} {w : World} {A : Around} {E : Value → Shared → Prop} {s : Shared}
theorem wpAny_pyNext_enum_tendD {e it t : Addr} {i : Nat} {items : Array Value} {old : Value} {Q : Option Value → Shared → Prop} (hh : A.in1.handled = none) (he : IsEnum s.heap e it i old) (hit : s.heap.IsTupleIter it t i) (ht : s.heap.IsTuple t items) (hx : items.size ≤ i) (hne : t ≠ it)
    (hQ : ∀ h', Heap.ExtBut it s.heap h' → Q none { s with heap := h' }) : wpAny (model prog w) A (pyNext (.ref e)) Q E s :=
  wpAny_pyNext_enum_endD (D := (⟨fun _ _ st => let ⟨o, ho, _⟩ := st.1; ⟨o, ho⟩, fun _ _ _ st hk => ⟨st.1.at fun o e => hk it (by simp) o e, st.2.at fun o e => hk t (by simp) o e⟩, fun j s Q E hj => absurd hj (Nat.not_lt_zero _), fun s Q E st hE => wpAny_nextOf_tuple_end hh st.1 st.2 (by simp; omega) hE⟩ : Draws prog w A.in1 it [it, t] 0 (fun _ _ => True) (fun _ h => h.IsTupleIter it t i ∧ h.IsTuple t items))) he ⟨hit, ht⟩ hQ
end
/-- the tuple at a, each item in a new pair with its number -/
def IteT (K : PySem.W.Frag) (a : Addr) : It :=
  ⟨fun i H => ∃ (xs : List V) (x : V), SqT K H a xs ∧ xs[i]? = some x, fun i H v H' => ∃ T x, v = .ref T ∧ H T = none ∧ H' = upd H T (.tup [.int (i : Nat), x]) ∧ ∀ xs, SqT K H a xs → xs[i]? = some x, fun i H => ∃ xs : List V, SqT K H a xs ∧ xs.length ≤ i⟩
theorem turn_enumT {P : Program} {w : World} {K : PySem.W.Frag} {elts : List Expr} {kk : Nat} {tpos : Pos} (a e it : Addr) (hae : a ≠ e) (hai : a ≠ it) :
    Turn P w K (.Tuple elts kk tpos) (IteT K a) [e, it] e (fun i h => (∃ old, IsEnum h e it ((i : Nat) : Int) old) ∧ h.IsTupleIter it a i ∧ e ≠ it) where
  mem := by simp
  obj := fun i h ⟨⟨_, he⟩, ⟨o, ho, hc, hd⟩, _⟩ b hb => by
    rcases (show b = e ∨ b = it by simpa using hb) with rfl | rfl
    · exact ⟨_, he, fun v q => nomatch q⟩
    · exact ⟨o, ho, fun v q => by rw [hd] at q; cases q⟩
  keep := fun i h h' ⟨⟨old, he⟩, hi, hne⟩ k => ⟨⟨old, k e (by simp) _ he⟩, hi.at fun o q => k it (by simp) o q, hne⟩
  item := by
    intro X hP hw hK hc i pins s σ H E I hf ⟨⟨old, he⟩, hit, hne⟩ ⟨xs, x, hq, hx⟩
    subst hP hw hK
    obtain ⟨its, rv, p, hz⟩ := I.tuple hq
    obtain ⟨u, hu, ru⟩ := rv.get hx
    have hil : i < its.toArray.size := by simpa using (List.getElem?_eq_some_iff.1 hu).1
    have eL : e < s.heap.objs.size := Heap.lt_size he
    have iL : it < s.heap.objs.size := let ⟨_, q, _⟩ := hit; Heap.lt_size q
    refine wpAny_pyNext_enum_itemD (Draws.tuple (A := X.A.in1) (I.ok.hd hc) it a hai its.toArray) he ⟨hit, p⟩ hil hne (by simp; exact ⟨hne, Ne.symm hae⟩) fun y h' tk hy ho st' hT hsz hk => ?_
    obtain rfl : y = u := by
      have e1 : its[i]? = some y := by simpa using hy
      rw [hu] at e1; exact (Option.some.inj e1).symm
    refine ⟨_, rfl, wpAny_letOwnedTupleGo_enum (s := { s with heap := h', toks := tk + 1 }) ho fun h2 he' sb => ?_⟩
    have hT2 : h2.get? s.heap.objs.size = some { cls := .type "tuple", data := .seq #[.int i tk, y] } := (sb.2 _ (Nat.ne_of_gt eL)).trans hT
    have new : ObjOk X.prog X.w (upd H s.heap.objs.size (.tup [.int (i : Nat), x])) h2 s.heap.objs.size (.tup [.int (i : Nat), x]) :=
      ⟨by show 2 ≤ sizeLine; decide, [.int i tk, y], .cons ⟨_, rfl⟩ (.cons ru .nil), ⟨_, hT2, rfl, _, rfl⟩⟩
    have I1 : Inv X pins σ (upd H s.heap.objs.size (.tup [.int (i : Nat), x])) { s with heap := h2, toks := tk + 1 } :=
      I.turnedNew (ch := [e, it]) (fun b ob hb q => (sb.2 b (fun z => hb (by simp [z]))).trans (hk b ob (fun z => hb (by simp [z])) (fun z => hb (by simp [z])) q)) hf (Nat.le_refl _) new
    refine ⟨.ref s.heap.objs.size, _, I1, rfl, ⟨_, x, rfl, I.hok.fresh (Nat.le_refl _), rfl, fun ys hy => by rw [I.tuple_inj hy hq]; exact hx⟩, ⟨⟨y, ?_⟩, st'.1.at fun o q => (sb.2 it (Ne.symm hne)).trans q, hne⟩, fun b hb => ?_⟩
    · rw [show ((i + 1 : Nat) : Int) = (i : Int) + 1 by omega]; exact he'
    · rw [upd_ne (Nat.ne_of_lt ?_)]
      · exact (hf b hb).1
      · rcases (show b = e ∨ b = it by simpa using hb) with rfl | rfl <;> assumption
  done := by
    intro X hP hw hK hc i pins s σ H E I hf ⟨⟨old, he⟩, hit, hne⟩ ⟨xs, hq, hx⟩
    subst hP hw hK
    obtain ⟨its, rv, p, hz⟩ := I.tuple hq
    obtain ⟨f0, f1, f2, f3, f4, f5⟩ := hf it (by simp)
    have hl := rv.length
    exact wpAny_pyNext_enum_tendD (I.ok.hd hc) he hit p (by simp; omega) hai fun h' eb => ⟨rfl, I.turned (t' := s.toks) (fun b o hb q => eb b o hb q) f0 f1 f3 f4 f5⟩
  self := fun A i s Q E ⟨⟨_, he⟩, _⟩ h => wpAny_pyIter_enum he h
def iEnumT (K : PySem.W.Frag) (ta : TA) : TI := fun σ H R => ta σ H fun vs H1 => ∃ a xs, vs = [.ref a] ∧ SqT K H1 a xs ∧ R (IteT K a) H1
theorem pi_enumT {X : Cx} {e : Expr} {ta : TA} {p pos tpos : Pos} {elts : List Expr} {kk : Nat} (hg : Gl X "enumerate") (hm : X.mg "enumerate" = none) (ha : PA X [e] ta) (hs : starEach [e] X.env = [(false, eval e X.env)] := by rfl) :
    PI X (.Tuple elts kk tpos) (.Call (.Name "enumerate" p) [e] [] pos) (iEnumT X.K ta) := by
  refine ⟨fun pins s σ H R I h => ?_⟩
  refine Call_ (ld_blt I hg hm boot_enumerate (PyProof.Rows.callWith_type1 (thn (ha.run pos pins s σ H _ I h) fun us s1 ⟨vs, H1, I1, r1, a, xs, ex, hq, q⟩ => ?_) hs rfl))
  subst ex
  obtain _ | ⟨r, rr⟩ := r1
  cases rr
  cases r
  obtain ⟨its, rv, p', hz⟩ := I1.tuple hq
  have aL : a < s1.heap.objs.size := let ⟨_, q, _⟩ := p'; Heap.lt_size q
  refine call_enum_tup p' fun h' he hit hsz hk => wpAny_pyIter_enum he ?_
  refine ⟨s1.heap.objs.size + 1, [s1.heap.objs.size + 1, s1.heap.objs.size], _, _, H1, rfl, I1.kept (t' := s1.toks) hk, turn_enumT a (s1.heap.objs.size + 1) s1.heap.objs.size (Nat.ne_of_lt (Nat.lt_succ_of_lt aL)) (Nat.ne_of_lt aL), ⟨⟨.none, he⟩, hit, Nat.succ_ne_self _⟩, fun b hb => ?_, q⟩
  have hle : s1.heap.objs.size ≤ b := by
    rcases (show b = s1.heap.objs.size + 1 ∨ b = s1.heap.objs.size by simpa using hb) with rfl | rfl
    · exact Nat.le_add_right _ _
    · exact Nat.le_refl _
  exact I1.fpOk hle (I1.hok.fresh hle)
end Pb

set_option Elab.async false
set_option linter.all false
set_option maxRecDepth 100000
namespace Pb
open PySem PySem.Spec PyProof.Rows L2
/-! ### own exceptions: made without arguments; isinstance with a tuple of classes -/
section
variable {X : Cx}
theorem pmk_own0 {C : Addr} {bmB : List Value} {B newId initId : String} {x : Str} {p pos : Pos} (F : ExcBaseFacts B newId initId bmB) (q : PySem.W.excIn X.K C bmB newId = true) (gC : X.mg x = some (.ref C))
    (kC : PySem.W.keepIn X.K (.ref C) = true) (r : Raises X (.ref C)) (hg : Gl X x) (hdb : (x == ("__debug__" : Str)) = false := by decide) :
    PMk X (.Call (.Name x p) [] [] pos) (fun _ H Q => Q (.ref C) none H) := fun pins s σ H Q I h => by
  refine wpAny_Call_Name_kw (ld_glob I hg gC (PySem.W.callWith_K0 I.kIn kC ?_) hdb)
  obtain ⟨bm, N, nm, qn, bs, hdct, sn, sub, ab, col, dd, k0, k1, k2, k3, k5, mN, hC, hN, hni, T⟩ := exc_obj I.kIn q
  exact wpAny_call_exc_subT F T hC hN hni (fun h' e hm => mk_of I hm r h (I.hok.gone hm.new)) (Nat.zero_le _)
end
/-- isinstance(e, (c1, c2, ..)), e the exception that the suite holds -/
def rIsET (K : PySem.W.Frag) (D a : Addr) : List V → Hp → VK → Prop := fun xs H Q => ∃ (tp : Addr) (cs : List V) (us : List Value) (b : Bool), xs = [.ref a, .ref tp] ∧ H tp = some (.tup cs) ∧ Paired ClsV cs us ∧ PySem.W.kitAny K (.ref D) us = some b ∧ Q (.bl b) H
theorem call_isET {X : Cx} {a D : Addr} {oe : Obj} {pn : List (Addr × Obj)} (C : ExcC X.K D) (hz : Zc (.ref D) none oe) (hf : ∃ vs, oe.data = .fields vs) : CallR (X.suite a ((a, oe) :: pn)) (.builtin "isinstance") (rIsET X.K D a) := by
  intro pins s σ H xs us Q I r ⟨tp, cs, ws, b, ex, hT, k, e, q⟩
  subst ex
  obtain ⟨u1, u2, rfl, r1, r2⟩ := vals2 r
  cases (show u2 = Value.ref tp from r2)
  cases (show u1 = Value.ref a from r1)
  obtain ⟨hget, _⟩ := I.pin (a, oe) (List.mem_append.mpr (.inl List.mem_cons_self))
  obtain ⟨vs, hv⟩ := hf
  obtain ⟨oc, od, oda, osl⟩ := oe
  obtain ⟨rfl, rfl⟩ : oc = .ref D ∧ od = none := hz
  obtain rfl : oda = .fields vs := hv
  obtain ⟨_, its, rv, o, h1, h2, n, h3⟩ := (show ObjOk X.prog X.w H s.heap tp (.tup cs) from I.hok tp _ hT)
  obtain rfl := ClsV.all k rv
  obtain ⟨oc', od', dt, sl⟩ := o
  obtain rfl : oc' = .type "tuple" := h2
  obtain rfl : dt = _ := h3
  exact PySem.W.kia_tup (H := fun h => PySem.W.InstAt h a _ D none) (PySem.W.handS_kitx_exc C.hg C.hk C.hs C.hd C.ha C.hn C.ht C.hm) I.kIn ⟨hget, rfl, rfl, trivial⟩ h1 e (fun z => nomatch z) fun tk => ⟨.bl b, H, I.kept (t' := tk) fun _ _ z => z, rfl, q⟩
end Pb

set_option Elab.async false
set_option linter.all false
set_option maxRecDepth 100000
namespace Pb
/-! from P2 -/
section
open PySem PySem.Spec PyProof.Rows L2
/-- _law_deck(script): a deck whose three lists are new -/
def spDeck (K : PySem.W.Frag) : Sp := fun vs H Q _ => ∃ (a : Addr) (ns : List Int), vs = [.ref a] ∧ SqL K H a (ns.map V.int) ∧ ns.length ≤ 63 ∧
  ∀ (d b c : Addr) (H' : Hp), Dk d b c 0 H' → H d = none → H b = none → Same H (msk d b H') → Q (.ref d) H'
theorem given_ints (n : Nat) (f : Nat → Bool) (g : Nat → Int) : Evl.given n f (fun i => .int (g i)) = (((List.range n).filter f).map g).map V.int := by
  unfold Evl.given
  rw [List.map_map]
  rfl
theorem ints_at {ns : List Int} {i : Nat} {x : V} (h : (ns.map V.int)[i]? = some x) : x = .int (ns.getD i 0) := by
  rw [List.getElem?_map] at h
  cases e : ns[i]? with
  | none =>
    rw [e] at h
    cases h
  | some y =>
    rw [e] at h
    rw [List.getD_eq_getElem?_getD, e]
    exact (Option.some.inj h).symm
end
/-! from P5 -/
section
open PySem PySem.Spec PyProof.Rows L2
/-- a def that changes nothing and hands back a value -/
def spV (R : List V → Hp → V → Prop) : Sp := fun vs H Q _ => ∃ z, R vs H z ∧ Evl.RetV z H Q
theorem spV_of {R : List V → Hp → V → Prop} {vs : List V} {H : Hp} {z : V} (h : ∀ H1, Evl.Ex H H1 → R vs H1 z) : Evl.SpV (spV R) vs H z := fun H1 e Q q E => ⟨z, h H1 e, q⟩
section
variable {K : PySem.W.Frag} {σ : L2.St} {H : Hp} {ta tb tc : TE} {x y v : V} {r r' : R2}
theorem ev_chain {p q : Bool} (ha : Evl.Ev ta σ H x) (hb : Evl.Ev tb σ H y) (hr : Evl.RV r x y H (.bl p)) (hc : p = true → Evl.Ev tc σ H v) (hr' : p = true → Evl.RV r' y v H (.bl q)) :
    Evl.Ev (tChain r r' ta tb tc) σ H (.bl (p && q)) := fun H1 e Q k =>
  ha H1 e _ fun H2 e2 => hb H2 (e.trans e2) _ fun H3 e3 => hr H3 ((e.trans e2).trans e3) _ fun H4 e4 => ⟨p, rfl, by
    have e14 := ((e.trans e2).trans e3).trans e4
    cases p with
    | true => exact iteT (hc rfl H4 e14 _ fun H5 e5 => hr' rfl H5 (e14.trans e5) Q fun H6 e6 => k H6 ((((e2.trans e3).trans e4).trans e5).trans e6))
    | false => exact iteF (k H4 ((e2.trans e3).trans e4))⟩
theorem ev_len' {xs : List V} {p : Addr} (ha : Evl.Ev ta σ H (.ref p)) (h : SqL K H p xs ∨ SqT K H p xs) : Evl.Ev (tCB (Evl.rLenS K) (tCons ta tNil)) σ H (.int (xs.length : Int)) := fun H1 e Q q =>
  ha H1 e _ fun H2 e2 => ⟨p, xs, rfl, h.elim (fun h => .inl (Evl.ex_l (e.trans e2) h)) (fun h => .inr (Evl.ex_t (e.trans e2) h)), q H2 e2⟩
theorem rv_le {i j : Int} : Evl.RV (rI0 fun i j => .bl (decide (i ≤ j))) (.int i) (.int j) H (.bl (decide (i ≤ j))) := Evl.rv_I0
theorem rv_lt {i j : Int} : Evl.RV (rI0 fun i j => .bl (decide (i < j))) (.int i) (.int j) H (.bl (decide (i < j))) := Evl.rv_I0
end
/-! ### integers, ascending tuples, tables -/
def isInt (d : PyData) : Bool := isI "int" d && !isI "bool" d
theorem isInt_iff {d : PyData} : isInt d = true ↔ ∃ i, d = .int i := by
  cases d <;> simp [isInt, isI, isN, tyN]
def numBelow : PyData → Int → Bool
  | .int i, c => decide (0 ≤ i) && decide (i < c)
  | _, _ => false
def ascFrom : Int → Int → List PyData → Bool
  | _, _, [] => true
  | l, c, .int i :: r => decide (0 ≤ i) && decide (i < c) && decide (l < i) && ascFrom i c r
  | _, _, _ :: _ => false
def asc : PyData → Int → Bool
  | .tuple ds, c => ascFrom (-1) c ds
  | _, _ => false
def tab2 : PyData → PyData → Bool
  | .int n, .tuple os => decide (1 ≤ n) && decide (n ≤ 10) && decide (os.length ≤ 10) && os.all fun o => asc o n
  | _, _ => false
def isTab : PyData → Bool
  | .tuple [a, b] => tab2 a b
  | _ => false
section
variable (K : PySem.W.Frag)
def rInteger : List V → Hp → V → Prop := fun vs H z => ∃ x d, vs = [x] ∧ Da K H x d ∧ z = .bl (isInt d)
def rNumBelow : List V → Hp → V → Prop := fun vs H z => ∃ x d c, vs = [x, .int c] ∧ Da K H x d ∧ z = .bl (numBelow d c)
def rAsc : List V → Hp → V → Prop := fun vs H z => ∃ x d c, vs = [x, .int c] ∧ Da K H x d ∧ okD d = true ∧ z = .bl (asc d c)
def rTab : List V → Hp → V → Prop := fun vs H z => ∃ x d, vs = [x] ∧ Da K H x d ∧ okD d = true ∧ z = .bl (isTab d)
end
/-- _law_same of two truth values -/
def rSameB : List V → Hp → V → Prop := fun vs _ z => ∃ a b, vs = [.bl a, .bl b] ∧ z = .bl (a == b)
end
/-! from P6 -/
section
open PySem PySem.Spec PyProof.Rows L2
section
variable {K : PySem.W.Frag} {σ : L2.St} {H : Hp} {t : TT} {te : TE}
/-- [e for x in t if c], t a tuple -/
theorem el_lcT {a : Addr} {xs : List V} {tl : TE} {j : Nat} {vs : List Nat} (f : Nat → Bool) (v : Nat → V) (h : Evl.Ev tl σ H (.ref a)) (hx : SqT K H a xs) (hz : xs.length ≤ 40000) (hw : ∀ x, wipe ((wipe σ vs).set j (some x)) vs = wipe σ vs)
    (ht : ∀ (i : Nat) (x : V) H1, Evl.Ex H H1 → xs[i]? = some x → Evl.EvT t ((wipe σ vs).set j (some x)) H1 (f i)) (he : ∀ (i : Nat) (x : V) H1, Evl.Ex H H1 → xs[i]? = some x → f i = true → Evl.Ev te ((wipe σ vs).set j (some x)) H1 (v i)) :
    Evl.EvL (tLc (iTup K tl) (gName j) t te vs) σ H (Evl.given xs.length f v) := fun H0 e Q q => h H0 e _ fun H1 e1 =>
  ⟨a, rfl, ⟨xs, Evl.ex_t (e.trans e1) hx⟩, fun D hD =>
    lc_tup (xs := xs) (Evl.Cw H1 f v D) ⟨hD, Evl.Ex.new hD, upd_same⟩ (fun i H' _ p => Evl.ex_t ((e.trans e1).trans p.2.1) hx)
      (fun i x H' hi p => ⟨hw x, Evl.cw_turn p (by have := (List.getElem?_eq_some_iff.mp hi).1; omega) (ht i x H1 (e.trans e1) hi) fun hf => he i x H1 (e.trans e1) hi hf⟩)
      (fun H' p => q D H' (Evl.fresh_back e1 p.1) (e1.trans p.2.1) p.2.2)⟩
/-- all([..]) of a new list of truth values -/
theorem ev_allN {bs : List Bool} {xs : List V} {ta : TE} (ha : Evl.EvL ta σ H xs) (hx : xs = bs.map V.bl) : Evl.Ev (tCB (rAll K) (tCons ta tNil)) σ H (.bl (bs.all id)) := fun H1 e Q q =>
  ha H1 e _ fun p H2 _ e2 h2 => ⟨p, bs, rfl, SqL.of (hx ▸ h2), q H2 e2⟩
end
theorem given_all (n : Nat) (v : Nat → V) : Evl.given n (fun _ => true) v = (List.range n).map v := by
  unfold Evl.given
  rw [List.filter_eq_self.mpr (fun _ _ => rfl)]
theorem range_getD {α β : Type} (f : α → β) (d : α) : ∀ (l : List α), (List.range l.length).map (fun i => f (l.getD i d)) = l.map f
  | [] => rfl
  | x :: l => by
    rw [List.length_cons, List.range_succ_eq_map, List.map_cons, List.map_map, List.map_cons, ← range_getD f d l]
    rfl
theorem isTab_tup {ds : List PyData} (h : ds.length ≠ 2) : isTab (.tuple ds) = false := by
  match ds, h with
  | [], _ => rfl
  | [_], _ => rfl
  | [_, _], h => exact absurd rfl h
  | _ :: _ :: _ :: _, _ => rfl
theorem isTab_int {a b : PyData} (h : isInt a = false) : isTab (.tuple [a, b]) = false := by
  cases a <;> first | rfl | (rw [isInt_iff.mpr ⟨_, rfl⟩] at h; cases h)
theorem isTab_tt {n : Int} {b : PyData} (h : isI "tuple" b = false) : isTab (.tuple [.int n, b]) = false := by
  cases b <;> first | rfl | (simp [isI, isN, tyN] at h)
theorem isI_tuple {d : PyData} (h : isI "tuple" d = true) : ∃ ds, d = .tuple ds := by
  cases d <;> first | exact ⟨_, rfl⟩ | (simp [isI, isN, tyN] at h)
theorem okD_len {ds : List PyData} (h : okD (.tuple ds) = true) : ds.length ≤ 60 ∧ okAll ds = true := by
  simp only [okD, Bool.and_eq_true, decide_eq_true_eq] at h
  exact h
end
/-! from P7 -/
section
open PySem PySem.Spec PyProof.Rows L2
/-! ### ascending, and sorted without repeats -/
theorem ascFrom_ints (c : Int) : ∀ (ns : List Int) (l : Int), ascFrom l c (ns.map PyData.int) = true ↔ (∀ i ∈ ns, 0 ≤ i ∧ i < c) ∧ (∀ i ∈ ns, l < i) ∧ ns.Pairwise (· < ·)
  | [], l => ⟨fun _ => ⟨fun _ h => absurd h List.not_mem_nil, fun _ h => absurd h List.not_mem_nil, .nil⟩, fun _ => rfl⟩
  | n :: ns, l => by
    simp only [List.map_cons, ascFrom, Bool.and_eq_true, decide_eq_true_eq, ascFrom_ints c ns n, List.mem_cons, List.pairwise_cons]
    constructor
    · rintro ⟨⟨⟨h0, h1⟩, h2⟩, h3, h4, h5⟩
      refine ⟨?_, ?_, h4, h5⟩
      · rintro i (rfl | hi)
        · exact ⟨h0, h1⟩
        · exact h3 i hi
      · rintro i (rfl | hi)
        · exact h2
        · have := h4 i hi
          omega
    · rintro ⟨h1, h2, h4, h5⟩
      exact ⟨⟨h1 n (.inl rfl), h2 n (.inl rfl)⟩, fun i hi => h1 i (.inr hi), h4, h5⟩
theorem asc_ints {c : Int} {ns : List Int} : asc (.tuple (ns.map PyData.int)) c = true ↔ (∀ i ∈ ns, 0 ≤ i ∧ i < c) ∧ ns.Pairwise (· < ·) := by
  show ascFrom (-1) c (ns.map PyData.int) = true ↔ _
  rw [ascFrom_ints]
  exact ⟨fun h => ⟨h.1, h.2.2⟩, fun h => ⟨h.1, fun i hi => by have := h.1 i hi; omega, h.2⟩⟩
theorem ascFrom_int {c : Int} : ∀ {ds : List PyData} {l : Int}, ascFrom l c ds = true → ∀ d ∈ ds, isInt d = true
  | [], _, _, _, h => absurd h List.not_mem_nil
  | d :: ds, l, e, x, h => by
    cases d with
    | int i =>
      simp only [ascFrom, Bool.and_eq_true] at e
      rcases List.mem_cons.mp h with rfl | h
      · exact isInt_iff.mpr ⟨_, rfl⟩
      · exact ascFrom_int e.2 x h
    | none => cases e
    | bool _ => cases e
    | str _ => cases e
    | list _ => cases e
    | tuple _ => cases e
    | dict _ => cases e
theorem all_ints : ∀ {ds : List PyData}, (∀ d ∈ ds, isInt d = true) → ∃ ns : List Int, ds = ns.map PyData.int
  | [], _ => ⟨[], rfl⟩
  | d :: ds, h => by
    obtain ⟨n, rfl⟩ := isInt_iff.mp (h d List.mem_cons_self)
    obtain ⟨ns, rfl⟩ := all_ints fun x hx => h x (List.mem_cons_of_mem _ hx)
    exact ⟨n :: ns, rfl⟩
theorem strict_eq {a b : List Int} (ha : a.Pairwise (· < ·)) (hb : b.Pairwise (· < ·)) (h : ∀ k, k ∈ a ↔ k ∈ b) : a = b := by
  have na : a.Nodup := ha.imp fun h e => by omega
  have nb : b.Nodup := hb.imp fun h e => by omega
  exact List.Perm.eq_of_pairwise (le := (· ≤ ·)) (fun x y _ _ h1 h2 => Int.le_antisymm h1 h2) (ha.imp fun h => Int.le_of_lt h) (hb.imp fun h => Int.le_of_lt h) ((List.perm_ext_iff_of_nodup na nb).mpr h)
theorem dpInts {K : PySem.W.Frag} {H : Hp} : ∀ ns : List Int, DpAll K H (ns.map V.int) (ns.map PyData.int)
  | [] => .nil
  | n :: ns => .cons (.int n) (dpInts ns)
theorem canLay_ints : ∀ ns : List Int, PyData.canLayAll0 (ns.map PyData.int) = true
  | [] => rfl
  | n :: ns => by simp only [List.map_cons, PyData.canLayAll0, PyData.canLay0, canLay_ints ns, Bool.and_self]
theorem depth_ints : ∀ ns : List Int, PyData.depthAll (ns.map PyData.int) = 0
  | [] => rfl
  | n :: ns => by simp only [List.map_cons, PyData.depthAll, PyData.depth, depth_ints ns, Nat.max_self]
theorem shaped_ints (ns : List Int) : SeqAt.shaped (.list (ns.map PyData.int)) = true := by
  simp only [SeqAt.shaped, PyData.canLay0, canLay_ints, PyData.depth, depth_ints, Bool.true_and]
  decide
theorem eqv_ints : ∀ ns ms : List Int, PyData.eqvAll (ns.map PyData.int) (ms.map PyData.int) = decide (ns = ms)
  | [], [] => rfl
  | [], _ :: _ => rfl
  | _ :: _, [] => rfl
  | n :: ns, m :: ms => by
    simp only [List.map_cons, PyData.eqvAll, PyData.eqv, eqv_ints ns ms, List.cons.injEq]
    by_cases h1 : n = m <;> by_cases h2 : ns = ms <;> simp [h1, h2]
theorem DaAll.toInts {K : PySem.W.Frag} {H : Hp} : ∀ {vs : List V} {ns : List Int}, DaAll K H vs (ns.map PyData.int) → vs = ns.map V.int
  | [], [], _ => rfl
  | [], _ :: _, h => nomatch h
  | _ :: _, [], h => nomatch h
  | v :: vs, n :: ns, h => by
    cases h with
    | cons h1 h2 =>
      cases h1
      rw [List.map_cons, DaAll.toInts h2]
theorem given_empty {n : Nat} {f : Nat → Bool} {v : Nat → V} : (Evl.given n f v).isEmpty = true ↔ ∀ i < n, f i = false := by
  unfold Evl.given
  rw [List.isEmpty_iff, List.map_eq_nil_iff, List.filter_eq_nil_iff]
  simp
theorem isTab_all {n : Int} {os : List PyData} (h1 : (decide (1 ≤ n) && decide (n ≤ 10)) = true) (h2 : os.length ≤ 10) : isTab (.tuple [.int n, .tuple os]) = os.all fun o => asc o n := by
  simp only [isTab, tab2, h1, decide_eq_true h2, Bool.true_and]
section
variable {K : PySem.W.Frag} {σ : L2.St} {H : Hp} {ta : TE}
/-- [..] != [] of a new list -/
theorem et_neN {xs : List V} (ha : Evl.EvL ta σ H xs) : Evl.EvT (tTest (tOp (rNe0 K) ta (tLst tNil))) σ H (!xs.isEmpty) := fun H1 e Q q =>
  ha H1 e _ fun p H2 _ e2 hp => ⟨Nat.zero_le _, fun l hl => ⟨p, l, xs, rfl, rfl, SqL.of (same_upd hl _ _ hp), SqL.of upd_same, _, rfl, q _ (e2.trans (Evl.Ex.new hl))⟩⟩
end
end
/-! from P8 -/
section
open PySem PySem.Spec PyProof.Rows L2
/-! ### draws, one after another -/
section
variable {d b c D p a : Addr} {n m n' n1 n2 k : Int} {H H' H1 H2 : Hp} {o : HO}
theorem Dk.off (h : Dk d b c n H) (hD : H D = none) : D ≠ d ∧ D ≠ b ∧ D ≠ c := by
  obtain ⟨bs, hb⟩ := h.at_b
  obtain ⟨cs, hc, _⟩ := h.at_c
  refine ⟨fun z => ?_, fun z => ?_, fun z => ?_⟩
  · rw [z, h.at_d] at hD
    cases hD
  · rw [z, hb] at hD
    cases hD
  · rw [z, hc] at hD
    cases hD
theorem Dk.put (h : Dk d b c n H) (h1 : D ≠ d ∧ D ≠ b ∧ D ≠ c) : Dk d b c n (upd H D o) := by
  obtain ⟨x1, x2, x3, x4, x5, ⟨bs, x6⟩, cs, x7, x8⟩ := h
  refine ⟨x1, x2, x3, x4, ?_, ⟨bs, ?_⟩, cs, ?_, x8⟩
  · rw [upd_ne h1.1.symm]
    exact x5
  · rw [upd_ne h1.2.1.symm]
    exact x6
  · rw [upd_ne h1.2.2.symm]
    exact x7
theorem Dr.refl (h : Dk d b c n H) : Dr d b c n H n H := ⟨h, Int.le_refl _, Same.refl _⟩
theorem Dr.step (h1 : Dr d b c m H n1 H1) (h2 : Dr d b c (n1 + k) H1 n2 H2) : Dr d b c (m + k) H n2 H2 := ⟨h2.dk, by have := h1.le; have := h2.le; omega, h1.sm.trans h2.sm⟩
theorem Dr.new (h : Dr d b c m H n' H') (hp : H' p = none) : Dr d b c m H n' (upd H' p o) := ⟨h.dk.same (same_upd hp), h.le, h.sm.trans (msk_same (same_upd hp))⟩
theorem Dr.more (h : Dr d b c m H n' H') (s : Same H' H1) : Dr d b c m H n' H1 := ⟨h.dk.same s, h.le, h.sm.trans (msk_same s)⟩
theorem Dr.put (h : Dr d b c m H n' H') (h0 : Dk d b c n H) (hD : H D = none) : Dr d b c m H n' (upd H' D o) := by
  have x := h0.off hD
  refine ⟨h.dk.put x, h.le, fun a u e => ?_⟩
  have ne : a ≠ D := fun z => by
    rw [z, msk_none hD] at e
    cases e
  rw [msk_new x.1 x.2.1, upd_ne ne]
  exact h.sm a u e
theorem Dr.at (h : Dr d b c m H n' H') (x : a ≠ d ∧ a ≠ b ∧ a ≠ c) (e : H a = some o) : H' a = some o := by
  have q := h.sm a o (by rw [msk_ne x.1 x.2.1]; exact e)
  exact (msk_some q).2.2
theorem Dr.wide (h : Dr d b c m H n' H') (hm : m ≤ k) : Dr d b c k H n' H' := ⟨h.dk, Int.le_trans h.le hm, h.sm⟩
theorem Same.mskL {K : PySem.W.Frag} {xs : List V} (h : SqL K (msk d b H) a xs) : SqL K H a xs := Same.seq msk_sub h
theorem Same.mskT {K : PySem.W.Frag} {xs : List V} (h : SqT K (msk d b H) a xs) : SqT K H a xs := Same.tq msk_sub h
theorem at_msk (x : a ≠ d ∧ a ≠ b ∧ a ≠ c) (e : H a = some o) : msk d b H a = some o := by
  rw [msk_ne x.1 x.2.1]
  exact e
end
/-- _law_part(deck, items, share): some of the ints, in their order, as a new tuple -/
def spPart (K : PySem.W.Frag) : Sp := fun vs H Q _ => ∃ (d b c a : Addr) (n sh : Int) (ns : List Int), vs = [.ref d, .ref a, .int sh] ∧ Dk d b c n H ∧ n < 2 ^ 50 ∧ ns.length ≤ 1000 ∧
  (SqL K (msk d b H) a (ns.map V.int) ∨ SqT K (msk d b H) a (ns.map V.int)) ∧
  ∀ (p : Addr) (ms : List Int) (n' : Int) (H' : Hp), ms.Sublist ns → Dr d b c (n + ns.length) H n' H' → SqT K (msk d b H') p (ms.map V.int) → Q (.ref p) H'
def upto (n : Nat) : List Int := (List.range n).map fun i => ((i : Nat) : Int)
/-- _law_shuffled(deck, count): an order of the numbers below count, as a new tuple -/
def spShuf (K : PySem.W.Frag) : Sp := fun vs H Q _ => ∃ (d b c : Addr) (n : Int) (m : Nat), vs = [.ref d, .int m] ∧ Dk d b c n H ∧ n < 2 ^ 50 ∧ m ≤ 1000 ∧
  ∀ (p : Addr) (os : List Int) (n' : Int) (H' : Hp), os.Perm (upto m) → Dr d b c (n + m) H n' H' → SqT K (msk d b H') p (os.map V.int) → Q (.ref p) H'
/-- _law_one(deck, some): one of the items of a list -/
def spOne (K : PySem.W.Frag) : Sp := fun vs H Q _ => ∃ (d b c a : Addr) (n : Int) (xs : List V), vs = [.ref d, .ref a] ∧ Dk d b c n H ∧ n < 2 ^ 50 ∧ xs ≠ [] ∧ xs.length ≤ 1000 ∧ SqL K (msk d b H) a xs ∧
  ∀ (x : V) (n' : Int) (H' : Hp), x ∈ xs → Dr d b c (n + 1) H n' H' → Q x H'
theorem rgV_ints (m : Nat) : rgV 0 (m : Int) = (upto m).map V.int := by
  unfold rgV upto
  rw [List.map_map]
  congr 1
  · funext i
    show V.int (0 + (i : Int)) = V.int (i : Int)
    rw [Int.zero_add]
theorem ints_len (m : Nat) : (upto m).length = m := by
  unfold upto
  rw [List.length_map, List.length_range]
theorem mem_ints {m : Nat} {i : Int} : i ∈ upto m ↔ 0 ≤ i ∧ i < m := by
  unfold upto
  rw [List.mem_map]
  constructor
  · rintro ⟨j, hj, rfl⟩
    have := List.mem_range.mp hj
    omega
  · rintro ⟨h1, h2⟩
    exact ⟨i.toNat, List.mem_range.mpr (by omega), by omega⟩
theorem ints_strict (m : Nat) : (upto m).Pairwise (· < ·) := by
  unfold upto
  rw [List.pairwise_map]
  exact List.pairwise_lt_range.imp fun h => by omega
end
/-! from P9 -/
section
theorem perm_erase {α : Type} : ∀ (l : List α) (j : Nat) (h : j < l.length), (l[j] :: l.eraseIdx j).Perm l
  | x :: l, 0, _ => List.Perm.refl _
  | x :: l, j + 1, h => by
    have ih := perm_erase l j (by simpa using h)
    exact (List.Perm.swap x _ _).trans (ih.cons x)
theorem map_erase {α β : Type} (f : α → β) : ∀ (l : List α) (j : Nat), (l.map f).eraseIdx j = (l.eraseIdx j).map f
  | [], _ => rfl
  | x :: l, 0 => rfl
  | x :: l, j + 1 => by
    rw [List.map_cons, List.eraseIdx_cons_succ, List.eraseIdx_cons_succ, List.map_cons, map_erase f l j]
end
/-! from P10 -/
section
open PySem PySem.Spec PyProof.Rows L2
theorem pe_bmK {X : Cx} {K : PySem.W.Frag} {e : Expr} {T : String} {r : V → List V → Hp → VK → Prop} {to : TE} {t : TA} (hK : X.K = K) (h : PE X e (tBM X.K T r to t)) : PE X e (tBM K T r to t) := hK ▸ h
/-! ### heaps without some addresses -/
def hs (S : List Addr) (H : Hp) : Hp := fun a => if a ∈ S then none else H a
section
variable {S : List Addr} {H H' : Hp} {a p d b : Addr} {o : HO}
theorem hs_out (h : a ∉ S) : hs S H a = H a := by
  unfold hs
  rw [if_neg h]
theorem hs_some (h : hs S H a = some o) : a ∉ S ∧ H a = some o := by
  unfold hs at h
  split at h
  · cases h
  · rename_i q
    exact ⟨q, h⟩
theorem hs_sub : Same (hs S H) H := fun _ _ e => (hs_some e).2
theorem hs_mono (s : Same H H') : Same (hs S H) (hs S H') := fun a o e => by
  obtain ⟨h1, h2⟩ := hs_some e
  rw [hs_out h1]
  exact s _ _ h2
theorem hs_put (h : a ∈ S) : hs S (upd H a o) = hs S H := by
  funext x
  unfold hs
  split
  · rfl
  · rename_i q
    rw [upd_ne fun z => q (by rw [z]; exact h)]
theorem hs_new (h : p ∉ S) : hs S (upd H p o) = upd (hs S H) p o := by
  funext x
  by_cases e : x = p
  · subst e
    rw [hs_out h, upd_same, upd_same]
  · rw [upd_ne e]
    unfold hs
    rw [upd_ne e]
theorem hs_msk (s : Same (msk d b H) (msk d b H')) (h1 : d ∈ S) (h2 : b ∈ S) : Same (hs S H) (hs S H') := fun a o e => by
  obtain ⟨x1, x2⟩ := hs_some e
  have q := s a o (by rw [msk_ne (fun z => x1 (by rw [z]; exact h1)) (fun z => x1 (by rw [z]; exact h2))]; exact x2)
  rw [hs_out x1]
  exact (msk_some q).2.2
theorem hs_to_msk (h1 : d ∈ S) (h2 : b ∈ S) : Same (hs S H) (msk d b H) := fun a o e => by
  obtain ⟨x1, x2⟩ := hs_some e
  rw [msk_ne (fun z => x1 (by rw [z]; exact h1)) (fun z => x1 (by rw [z]; exact h2))]
  exact x2
theorem hs_at (h : a ∉ S) (e : H a = some o) : hs S H a = some o := by
  rw [hs_out h]
  exact e
theorem msk_to_hs {T : List Addr} (h : ∀ x ∈ S, x ∈ T) : Same (hs T H) (hs S H) := fun a o e => by
  obtain ⟨x1, x2⟩ := hs_some e
  rw [hs_out fun z => x1 (h a z)]
  exact x2
end
/-! ### offers and tables as data -/
def offD (o : List Int) : PyData := .tuple (o.map PyData.int)
def tabD (n : Int) (os : List (List Int)) : PyData := .tuple [.int n, .tuple (os.map offD)]
def OffOk (n : Int) (o : List Int) : Prop := (∀ i ∈ o, 0 ≤ i ∧ i < n) ∧ o.Pairwise (· < ·)
theorem nodup_len : ∀ {l r : List Int}, l.Nodup → (∀ i ∈ l, i ∈ r) → l.length ≤ r.length
  | [], _, _, _ => Nat.zero_le _
  | x :: l, r, nd, h => by
    have hx := h x List.mem_cons_self
    obtain ⟨n1, n2⟩ := List.nodup_cons.mp nd
    have ih := nodup_len (r := r.erase x) n2 fun i hi => (List.mem_erase_of_ne (fun e : i = x => n1 (by rw [← e]; exact hi))).mpr (h i (List.mem_cons_of_mem _ hi))
    rw [List.length_erase_of_mem hx] at ih
    have := List.length_pos_of_mem hx
    rw [List.length_cons]
    omega
theorem OffOk.len {m : Nat} {o : List Int} (h : OffOk m o) : o.length ≤ m := by
  have q := nodup_len (l := o) (r := upto m) (h.2.imp fun h e => by omega) fun i hi => mem_ints.mpr (h.1 i hi)
  rw [ints_len] at q
  exact q
theorem off_sub {m : Nat} {o : List Int} (h : o.Sublist (upto m)) : OffOk m o := ⟨fun i hi => mem_ints.mp (h.subset hi), (ints_strict m).sublist h⟩
theorem strict_of_le {o : List Int} (h : o.Pairwise (· ≤ ·)) (nd : o.Nodup) : o.Pairwise (· < ·) := by
  have := List.Pairwise.and h nd
  exact this.imp fun ⟨h1, h2⟩ => by omega
/-- a sorted arrangement of some of an order's numbers -/
theorem off_sorted {m : Nat} {ord ms o : List Int} (hp : ord.Perm (upto m)) (hs : ms.Sublist ord) (ho : o.Perm ms) (hl : o.Pairwise (· ≤ ·)) : OffOk m o := by
  have nd : ord.Nodup := hp.nodup_iff.mpr ((ints_strict m).imp fun h e => by omega)
  refine ⟨fun i hi => mem_ints.mp (hp.mem_iff.mp (hs.subset (ho.mem_iff.mp hi))), strict_of_le hl (ho.nodup_iff.mpr (nd.sublist hs))⟩
theorem cut_ints (ns : List Int) (lo hi : Option Int) : ∃ ms : List Int, cutV (ns.map V.int) lo hi = ms.map V.int ∧ ms.Sublist ns :=
  ⟨(ns.drop (HT.sIx (ns.map V.int).length 0 lo)).take (HT.sIx (ns.map V.int).length (ns.map V.int).length hi - HT.sIx (ns.map V.int).length 0 lo), by
    unfold cutV
    rw [List.map_take, List.map_drop], (List.take_sublist _ _).trans (List.drop_sublist _ _)⟩
theorem DaAll.mem {K : PySem.W.Frag} {H : Hp} {vs : List V} {ds : List PyData} {x : V} (h : DaAll K H vs ds) (hx : x ∈ vs) : ∃ e ∈ ds, Da K H x e := by
  obtain ⟨i, hi⟩ := List.getElem?_of_mem hx
  obtain ⟨e, he, hd⟩ := DaAll.get h hi
  exact ⟨e, List.mem_of_getElem? he, hd⟩
/-! ### what an expression may give -/
def Ew (te : TE) (σ : L2.St) (H : Hp) (P : V → Hp → Prop) : Prop := ∀ Q : VK, (∀ v H', P v H' → Q v H') → te σ H Q
/-- found.append(e), found in slot i at fo -/
theorem s_appP {K : PySem.W.Frag} {te : TE} {σ : L2.St} {H : Hp} {D : Ends} {i : Nat} {fo : Addr} {refs : List V} (P : V → Hp → Prop) (hi : σ[i]? = some (some (.ref fo))) (ef : H fo = some (.lst refs)) (h : Ew te σ H P)
    (k : ∀ v H', P v H' → ∃ xs, H' fo = some (.lst xs) ∧ xs.length < sizeLine ∧ D.nx σ (upd H' fo (.lst (xs ++ [v])))) : tDrop (tBM K "list" rAppend (tVar i) (tCons te tNil)) D σ H :=
  ⟨.ref fo, hi, .inl ⟨rfl, _, SqL.of ef⟩, h _ fun v H' hP => by
    obtain ⟨xs, h1, h2, h3⟩ := k v H' hP
    exact ⟨fo, xs, v, rfl, rfl, h1, h2, h3⟩⟩
/-- what stands between two turns: found holds offers -/
structure Fnd (K : PySem.W.Frag) (d b c fo : Addr) (m : Nat) (N : Int) (H1 : Hp) (i : Nat) (H' : Hp) : Prop where
  ex : ∃ (refs : List V) (os : List (List Int)) (n' : Int), H' fo = some (.lst refs) ∧ DaAll K (hs [d, b, fo] H') refs (os.map offD) ∧ os.length = i ∧ (∀ o ∈ os, OffOk m o) ∧ Dr d b c N H1 n' H'
theorem Fnd.len {K : PySem.W.Frag} {d b c fo : Addr} {m : Nat} {N : Int} {H1 : Hp} {i : Nat} {H' : Hp} {refs : List V} {os : List (List Int)} (h : DaAll K (hs [d, b, fo] H') refs (os.map offD)) (hl : os.length = i) : refs.length = i := by
  rw [DaAll.len h, List.length_map, hl]
/-- one more offer -/
theorem Fnd.add {K : PySem.W.Frag} {d b c fo : Addr} {m : Nat} {N N' n : Int} {H1 H2 H' : Hp} {i : Nat} {v : V} {o : List Int} {refs : List V} {os : List (List Int)} (hD1 : Dk d b c n H1) (hfo : H1 fo = none) (hda : DaAll K (hs [d, b, fo] H2) refs (os.map offD)) (hl : os.length = i)
    (hok : ∀ o ∈ os, OffOk m o) (hsm : Same (hs [d, b, fo] H2) (hs [d, b, fo] H')) (n' : Int) (dr : Dr d b c N H1 n' H') (hN : N ≤ N') (ho : OffOk m o) (hv : Da K (hs [d, b, fo] H') v (offD o)) : Fnd K d b c fo m N' H1 (i + 1) (upd H' fo (.lst (refs ++ [v]))) := by
  refine ⟨refs ++ [v], os ++ [o], n', upd_same, ?_, by rw [List.length_append, hl]; rfl, fun x hx => ?_, (dr.put hD1 hfo).wide hN⟩
  · rw [hs_put (by simp), List.map_append]
    exact (hda.mono hsm).append (.cons hv .nil)
  · rcases List.mem_append.mp hx with hx | hx
    · exact hok x hx
    · have e : x = o := by simpa using hx
      rw [e]
      exact ho
/-- tuple(sorted(t)) -/
theorem srt {K : PySem.W.Frag} {Q : VK} {H : Hp} {a : Addr} {m : Nat} {ord ms : List Int} (hp : ord.Perm (upto m)) (hs : ms.Sublist ord) (h : SqT K H a (ms.map V.int))
    (k : ∀ (l : Addr) (o : List Int) (H' : Hp), Same H H' → H l = none → H' l = some (.tup (o.map V.int)) → OffOk m o → Q (.ref l) H') :
    rSortT K [V.ref a] H fun x H1 => ∃ p ys, [x] = [V.ref p] ∧ ((SqL K H1 p ys ∧ ∀ l, H1 l = none → Q (.ref l) (upd H1 l (.tup ys))) ∨ (SqT K H1 p ys ∧ Q (.ref p) H1)) :=
  ⟨a, ms, rfl, h, fun o p ho hl hp' => ⟨p, o.map V.int, rfl, .inl ⟨SqL.of upd_same, fun l hl2 => k l o _ ((same_upd hp').trans (same_upd hl2)) ((same_upd hp').free hl2) upd_same (off_sorted hp hs ho hl)⟩⟩⟩
theorem da_off {K : PySem.W.Frag} {H : Hp} {l : Addr} {o : List Int} (h : SqT K H l (o.map V.int)) : Da K H (.ref l) (offD o) := .tup h (DaAll.ints o)
/-- a table's makers: (deck, demands, offers) -/
def spMk (K : PySem.W.Frag) : Sp := fun vs H Q _ => ∃ (d b c : Addr) (n : Int) (m k : Nat), vs = [.ref d, .int m, .int k] ∧ Dk d b c n H ∧ n < 2 ^ 40 ∧ 1 ≤ m ∧ m ≤ 10 ∧ k ≤ 10 ∧
  ∀ (v : V) (os : List (List Int)) (n' : Int) (H' : Hp), Dr d b c (n + 1000) H n' H' → os.length = k → (∀ o ∈ os, OffOk m o) → Da K (msk d b H') v (tabD m os) → Q v H'
/-- return (demands, tuple(found)) -/
theorem mk_end {K : PySem.W.Frag} {d b c fo : Addr} {N n n' : Int} {H H' : Hp} {m : Nat} {refs : List V} {os : List (List Int)} {Q : VK} (dr : Dr d b c N H n' H') (hf : H' fo = some (.lst refs)) (hd : DaAll K (msk d b H') refs (os.map offD))
    (q : ∀ (v : V) (H2 : Hp), Dr d b c N H n' H2 → Da K (msk d b H2) v (tabD m os) → Q v H2) :
    ∃ p ys, [V.ref fo] = [.ref p] ∧ ((SqL K H' p ys ∧ ∀ l, H' l = none → [V.int m, V.ref l].length ≤ sizeLine ∧ ∀ t, upd H' l (.tup ys) t = none → Q (.ref t) (upd (upd H' l (.tup ys)) t (.tup [V.int m, V.ref l]))) ∨ (SqT K H' p ys ∧ [V.int m, V.ref p].length ≤ sizeLine ∧ ∀ t, H' t = none → Q (.ref t) (upd H' t (.tup [V.int m, V.ref p])))) := by
  refine ⟨fo, refs, rfl, .inl ⟨SqL.of hf, fun l hl => ⟨sz (n := 2) (by decide), fun t ht => ?_⟩⟩⟩
  have d1 := dr.new (o := .tup refs) hl
  have d2 := d1.new (o := .tup [V.int m, V.ref l]) ht
  have o1 := dr.dk.off hl
  have o2 := d1.dk.off ht
  have s1 : Same (msk d b H') (msk d b (upd H' l (.tup refs))) := msk_same (same_upd hl)
  have s2 : Same (msk d b (upd H' l (.tup refs))) (msk d b (upd (upd H' l (.tup refs)) t (.tup [V.int m, V.ref l]))) := msk_same (same_upd ht)
  refine q _ _ d2 (.tup (SqT.of (at_msk o2 upd_same)) (.cons (.int _) (.cons (.tup (SqT.of (s2 _ _ (at_msk o1 upd_same))) (hd.mono (s1.trans s2))) .nil)))
end
/-! from P11 -/
section
open PySem PySem.Spec PyProof.Rows L2
theorem sqT_hs {K : PySem.W.Frag} {d b fo p : Addr} {H : Hp} {xs refs : List V} (hp : SqT K (msk d b H) p xs) (ef : H fo = some (.lst refs)) : SqT K (hs [d, b, fo] H) p xs := by
  rcases hp with (hp | ⟨ob, hp⟩) | hp
  · obtain ⟨z1, z2, z3⟩ := msk_some hp
    have pf : p ≠ fo := fun z => by
      rw [z, ef] at z3
      cases z3
    exact .inl (.inl (hs_at (by simp [z1, z2, pf]) z3))
  · obtain ⟨z1, z2, z3⟩ := msk_some hp
    have pf : p ≠ fo := fun z => by
      rw [z, ef] at z3
      cases z3
    exact .inl (.inr ⟨ob, hs_at (by simp [z1, z2, pf]) z3⟩)
  · exact .inr hp
end
/-! from P12 -/
section
open PySem PySem.Spec PyProof.Rows L2
theorem Dr.free {d b c D : Addr} {m n' : Int} {H H' : Hp} (h : Dr d b c m H n' H') (hD : H' D = none) : H D = none := by
  cases e : H D with
  | none => rfl
  | some o =>
    have x := h.dk.off hD
    rw [h.at x e] at hD
    cases hD
theorem sz2 : 2 ≤ sizeLine := Pb.sz (by decide)
theorem cut_whole {xs : List V} {lo hi : Option Int} (h : HT.sIx xs.length 0 lo = 0 ∧ HT.sIx xs.length xs.length hi = xs.length) : cutV xs lo hi = xs := by
  unfold cutV
  rw [h.1, h.2]
  simp
theorem slA_msk {K : PySem.W.Frag} {d b c a : Addr} {n : Int} {H : Hp} {xs : List V} {lo hi : Option Int} {Q : VK} (hD : Dk d b c n H) (h : SqT K (msk d b H) a xs) (k : ∀ (p : Addr) (H' : Hp), Same H H' → SqT K (msk d b H') p (cutV xs lo hi) → Q (.ref p) H') : rSlA K (.ref a) lo hi H Q := by
  refine ⟨a, xs, rfl, Same.mskT h, fun w => k a H (Same.refl _) ?_, fun _ p hp => k p _ (same_upd hp) (SqT.of (at_msk (hD.off hp) upd_same))⟩
  rw [cut_whole w]
  exact h
theorem cut_from {ns : List Int} {sz : Nat} (h : sz ≤ ns.length) : cutV (ns.map V.int) (some (sz : Int)) none = (ns.drop sz).map V.int := by
  unfold cutV
  rw [HT.sIx_nat, HT.sIx_none, List.length_map, Nat.min_eq_left h, ← List.map_drop, ← List.map_take]
  congr 1
  exact List.take_of_length_le (by rw [List.length_drop]; omega)
/-- two neighbours among the first ones and some of the others, sorted -/
theorem off_around {m : Nat} {ord ms o : List Int} {i j sz : Nat} (hp : ord.Perm (upto m)) (hsz : sz ≤ ord.length) (h3 : 3 ≤ sz) (hi : i < sz) (hj : j = (i + 1) % sz) (hjl : j < ord.length) (hil : i < ord.length) (hs : ms.Sublist (ord.drop sz)) (ho : o.Perm ([ord[i], ord[j]] ++ ms)) (hl : o.Pairwise (· ≤ ·)) : OffOk m o := by
  have nd : ord.Nodup := hp.nodup_iff.mpr ((ints_strict m).imp fun h e => by omega)
  have jlt : j < sz := by
    rw [hj]
    exact Nat.mod_lt _ (by omega)
  have ij : i ≠ j := by
    rw [hj]
    by_cases e : i + 1 < sz
    · rw [Nat.mod_eq_of_lt e]
      omega
    · have : i + 1 = sz := by omega
      rw [this, Nat.mod_self]
      omega
  have nd2 : (ord.take sz ++ ord.drop sz).Nodup := by
    rw [List.take_append_drop]
    exact nd
  obtain ⟨_, _, disj⟩ := List.nodup_append.mp nd2
  have mt : ∀ (x : Nat) (hx : x < ord.length), x < sz → ord[x] ∈ ord.take sz := fun x hx hs => by
    have : (ord.take sz)[x]'(by rw [List.length_take]; omega) = ord[x] := List.getElem_take
    rw [← this]
    exact List.getElem_mem _
  have ndm : ms.Nodup := nd.sublist (hs.trans (List.drop_sublist _ _))
  have nms : ∀ (x : Nat) (hx : x < ord.length), x < sz → ord[x] ∉ ms := fun x hx hxs hm => disj _ (mt x hx hxs) _ (hs.subset hm) rfl
  have nda : ([ord[i], ord[j]] ++ ms).Nodup := by
    rw [List.cons_append, List.singleton_append, List.nodup_cons, List.nodup_cons, List.mem_cons]
    refine ⟨fun z => z.elim (fun z => ij ((List.getElem_inj nd).mp z)) (nms i hil hi), nms j hjl jlt, ndm⟩
  refine ⟨fun x hx => mem_ints.mp (hp.mem_iff.mp ?_), strict_of_le hl (ho.nodup_iff.mpr nda)⟩
  rcases List.mem_append.mp (ho.mem_iff.mp hx) with z | z
  · rcases List.mem_cons.mp z with z | z
    · rw [z]
      exact List.getElem_mem _
    · have e : x = ord[j] := by simpa using z
      rw [e]
      exact List.getElem_mem _
  · exact (hs.trans (List.drop_sublist _ _)).subset z
theorem DaAll.erase {K : PySem.W.Frag} {H : Hp} : ∀ {vs : List V} {ds : List PyData} (j : Nat), DaAll K H vs ds → DaAll K H (vs.eraseIdx j) (ds.eraseIdx j)
  | [], _, _, h => by
    cases h
    exact .nil
  | _ :: _, _, 0, h => by
    cases h with
    | cons h1 h2 => exact h2
  | _ :: _, _, j + 1, h => by
    cases h with
    | cons h1 h2 => exact .cons h1 (DaAll.erase j h2)
end
/-! from P13 -/
section
open PySem PySem.Spec PyProof.Rows L2
/-- _law_table(deck, demands, offers): a table -/
def spTable (K : PySem.W.Frag) : Sp := fun vs H Q _ => ∃ (d b c : Addr) (n : Int) (m k : Nat), vs = [.ref d, .int m, .int k] ∧ Dk d b c n H ∧ n < 2 ^ 39 ∧ 1 ≤ m ∧ m ≤ 10 ∧ k ≤ 10 ∧
  ∀ (v : V) (m' : Nat) (os : List (List Int)) (n' : Int) (H' : Hp), Dr d b c (n + 1003) H n' H' → 1 ≤ m' → m' ≤ m → os.length ≤ k → (∀ o ∈ os, OffOk m' o) → Da K (msk d b H') v (tabD m' os) → Q v H'
/-- the values of _law_odd -/
def oddL : List PyData := [.none, .bool true, .bool false, .int 0, .int 1, .int (-1), .int 2, .int 8, .int 16, .int (10 ^ 12), .int (10 ^ 12 + 1), .int (10 ^ 59), .str "", .str "0", .str "order", .tuple [], .tuple [.int 0],
  .tuple [.int 0, .int 1], .list [], .dict [], .list [.int 0], .tuple [.bool true], .tuple [.tuple []]]
def oddB (e : PyData) : Bool := okD e && decide (wt e ≤ 2100) && decide (e.depth ≤ 2) && (!e.hasDict || nl e)
theorem odd_all : oddL.all oddB = true := by decide +kernel
theorem odd_ok {e : PyData} (h : e ∈ oddL) : okD e = true ∧ wt e ≤ 2100 ∧ e.depth ≤ 2 ∧ (e.hasDict = true → nl e = true) := by
  have q := List.all_eq_true.mp odd_all e h
  simp only [oddB, Bool.and_eq_true, decide_eq_true_eq, Bool.or_eq_true, Bool.not_eq_true'] at q
  exact ⟨q.1.1.1, q.1.1.2, q.1.2, fun z => q.2.elim (fun y => by rw [z] at y; cases y) id⟩
/-- the deck, and addresses S (the deck's two lists among them) that are tracked and left out of all data -/
structure Ck (S : List Addr) (d b c : Addr) (n : Int) (H : Hp) : Prop where
  dk : Dk d b c n H
  hd : d ∈ S
  hb : b ∈ S
  tr : ∀ s ∈ S, ∃ o, H s = some o
theorem Ck.same {S : List Addr} {d b c : Addr} {n : Int} {H H' : Hp} (h : Ck S d b c n H) (s : Same H H') : Ck S d b c n H' := ⟨h.dk.same s, h.hd, h.hb, fun x hx => (h.tr x hx).elim fun o e => ⟨o, s _ _ e⟩⟩
theorem Ck.out {S : List Addr} {d b c p : Addr} {n : Int} {H : Hp} (h : Ck S d b c n H) (hp : H p = none) : p ∉ S := fun z => by
  obtain ⟨o, e⟩ := h.tr p z
  rw [hp] at e
  cases e
theorem Ck.dr {S : List Addr} {d b c : Addr} {n m n' : Int} {H H' : Hp} (h : Ck S d b c n H) (dr : Dr d b c m H n' H') : Ck S d b c n' H' := ⟨dr.dk, h.hd, h.hb, fun x hx => by
  by_cases e1 : x = d
  · rw [e1]
    exact ⟨_, dr.dk.at_d⟩
  · by_cases e2 : x = b
    · rw [e2]
      exact dr.dk.at_b.elim fun bs e => ⟨_, e⟩
    · obtain ⟨o, e⟩ := h.tr x hx
      exact ⟨o, (msk_some (dr.sm x o (by rw [msk_ne e1 e2]; exact e))).2.2⟩⟩
theorem Ck.sm {S : List Addr} {d b c : Addr} {n m n' : Int} {H H' : Hp} (h : Ck S d b c n H) (dr : Dr d b c m H n' H') : Same (hs S H) (hs S H') := hs_msk dr.sm h.hd h.hb
theorem Ck.two {d b c : Addr} {n : Int} {H : Hp} (h : Dk d b c n H) : Ck [d, b] d b c n H := ⟨h, by simp, by simp, fun s hs => by
  rcases List.mem_cons.mp hs with rfl | hs
  · exact ⟨_, h.at_d⟩
  · have e : s = b := by simpa using hs
    rw [e]
    exact h.at_b.elim fun bs e => ⟨_, e⟩⟩
theorem msk_hs {d b : Addr} {H : Hp} : msk d b H = hs [d, b] H := by
  funext a
  unfold msk hs
  simp
def spOdd (K : PySem.W.Frag) : Sp := fun vs H Q _ => ∃ (S : List Addr) (d b c : Addr) (n : Int), vs = [.ref d] ∧ Ck S d b c n H ∧ n < 2 ^ 50 ∧
  ∀ (v : V) (e : PyData) (n' : Int) (H' : Hp), e ∈ oddL → Dr d b c (n + 1) H n' H' → Da K (hs S H') v e → Q v H'
def oddA (t1 t2 : Addr) : List V := [V.non, V.bl true, V.bl false, V.int 0, V.int 1, V.int (-1), V.int 2, V.int 8, V.int 16, V.int (10 ^ Int.toNat 12), V.int (10 ^ Int.toNat 12 + 1), V.int (10 ^ Int.toNat 59), V.str "", V.str "0", V.str "order", V.ref t1, V.ref t2]
theorem q_asgP {te : TE} {σ : L2.St} {H : Hp} {D : Ends} {tz : TS} {i : Nat} (P : V → Hp → Prop) (h : Ew te σ H P) (k : ∀ v H', P v H' → tz D (σ.set i (some v)) H') : tSeq (tAsg te (gName i)) tz D σ H := h _ k
/-- o stands at p, apart from the deck and from S -/
structure Nw (S : List Addr) (d b c : Addr) (H : Hp) (p : Addr) (o : HO) : Prop where
  at_p : H p = some o
  off : p ≠ d ∧ p ≠ b ∧ p ≠ c
  out : p ∉ S
section
variable {K : PySem.W.Frag} {S : List Addr} {d b c p : Addr} {n : Int} {H H' : Hp} {o : HO} {xs : List V}
theorem Nw.new (h : Ck S d b c n H) (hp : H p = none) : Nw S d b c (upd H p o) p o := ⟨upd_same, h.dk.off hp, h.out hp⟩
theorem Nw.mono (h : Nw S d b c H p o) (s : Same H H') : Nw S d b c H' p o := ⟨s _ _ h.at_p, h.off, h.out⟩
theorem Nw.tup (h : Nw S d b c H p (.tup xs)) : SqT K (hs S H) p xs := SqT.of (hs_at h.out h.at_p)
theorem Nw.lst (h : Nw S d b c H p (.lst xs)) : SqL K (hs S H) p xs := SqL.of (hs_at h.out h.at_p)
theorem Nw.emp (h : Nw S d b c H p (.dK [])) : Da K (hs S H) (.ref p) (.dict []) := .emp (hs_at h.out h.at_p)
end
end
/-! from P14 -/
section
open PySem PySem.Spec PyProof.Rows L2
/-! ### plain data: small ints and tuples -/
mutual
def pl : PyData → Bool
  | .int i => decide (i.natAbs ≤ 100)
  | .tuple xs => decide (xs.length ≤ 12) && plAll xs
  | _ => false
def plAll : List PyData → Bool
  | [] => true
  | x :: xs => pl x && plAll xs
end
theorem plAll_iff : ∀ {xs : List PyData}, plAll xs = true ↔ ∀ x ∈ xs, pl x = true
  | [] => ⟨fun _ _ h => absurd h List.not_mem_nil, fun _ => rfl⟩
  | x :: xs => by
    simp only [plAll, Bool.and_eq_true, List.mem_cons, plAll_iff (xs := xs)]
    exact ⟨fun h y hy => hy.elim (fun e => e ▸ h.1) (h.2 y), fun h => ⟨h x (.inl rfl), fun y hy => h y (.inr hy)⟩⟩
mutual
theorem pl_ok : ∀ e : PyData, pl e = true → okD e = true ∧ e.hasDict = false ∧ nl e = true
  | .int i, h => by
    have h1 : i.natAbs ≤ 100 := by simpa only [pl, decide_eq_true_eq] using h
    refine ⟨?_, rfl, rfl⟩
    simp only [okD, decide_eq_true_eq]
    exact Nat.lt_of_le_of_lt h1 (by decide +kernel)
  | .tuple xs, h => by
    simp only [pl, Bool.and_eq_true, decide_eq_true_eq] at h
    obtain ⟨h1, h2, h3⟩ := pl_all xs h.2
    refine ⟨?_, ?_, ?_⟩
    · simp only [okD, h1, Bool.and_true, decide_eq_true_eq]
      omega
    · simpa only [PyData.hasDict] using h2
    · simpa only [nl] using h3
  | .none, h => by cases h
  | .bool _, h => by cases h
  | .str _, h => by cases h
  | .list _, h => by cases h
  | .dict _, h => by cases h
theorem pl_all : ∀ xs : List PyData, plAll xs = true → okAll xs = true ∧ PyData.hasDictAll xs = false ∧ nlAll xs = true
  | [], _ => ⟨rfl, rfl, rfl⟩
  | x :: xs, h => by
    simp only [plAll, Bool.and_eq_true] at h
    obtain ⟨h1, h2, h3⟩ := pl_ok x h.1
    obtain ⟨h4, h5, h6⟩ := pl_all xs h.2
    exact ⟨by simp only [okAll, h1, h4, Bool.and_self], by simp only [PyData.hasDictAll, h2, h5, Bool.or_self], by simp only [nlAll, h3, h6, Bool.and_self]⟩
end
theorem wtAll_append : ∀ xs ys : List PyData, wtAll (xs ++ ys) = wtAll xs + wtAll ys
  | [], ys => by simp [wtAll]
  | x :: xs, ys => by
    rw [List.cons_append]
    simp only [wtAll, wtAll_append xs ys]
    omega
theorem wtAll_sub {ys xs : List PyData} (h : ys.Sublist xs) : wtAll ys ≤ wtAll xs := by
  induction h with
  | slnil => exact Nat.le_refl _
  | cons a _ ih =>
    simp only [wtAll]
    omega
  | cons_cons a _ ih =>
    simp only [wtAll]
    omega
theorem wtAll_rev : ∀ xs : List PyData, wtAll xs.reverse = wtAll xs
  | [] => rfl
  | x :: xs => by
    rw [List.reverse_cons, wtAll_append, wtAll_rev xs]
    simp only [wtAll]
    omega
theorem mem_depth : ∀ {xs : List PyData} {x : PyData}, x ∈ xs → x.depth ≤ PyData.depthAll xs
  | [], _, h => absurd h List.not_mem_nil
  | y :: ys, x, h => by
    simp only [PyData.depthAll]
    rcases List.mem_cons.mp h with rfl | h
    · omega
    · have := mem_depth h
      omega
theorem hasDictAll_append : ∀ xs ys : List PyData, PyData.hasDictAll (xs ++ ys) = (PyData.hasDictAll xs || PyData.hasDictAll ys)
  | [], ys => by simp [PyData.hasDictAll]
  | x :: xs, ys => by
    rw [List.cons_append]
    simp only [PyData.hasDictAll, hasDictAll_append xs ys, Bool.or_assoc]
theorem nlAll_append : ∀ xs ys : List PyData, nlAll (xs ++ ys) = (nlAll xs && nlAll ys)
  | [], ys => by simp [nlAll]
  | x :: xs, ys => by
    rw [List.cons_append]
    simp only [nlAll, nlAll_append xs ys, Bool.and_assoc]
/-- what _law_bent makes of e -/
structure Bnt (e e' : PyData) : Prop where
  ok : okD e' = true
  w : wt e' ≤ 2 * wt e + 2200
  dp : e'.depth ≤ e.depth + 2
  nd : e'.hasDict = true → nl e' = true
theorem bnt_odd {e e' : PyData} (h : e' ∈ oddL) : Bnt e e' := by
  obtain ⟨h1, h2, h3, h4⟩ := odd_ok h
  exact ⟨h1, by omega, by omega, h4⟩
theorem bnt_seq {xs ys : List PyData} (hx : plAll xs = true) (hs : ∀ y ∈ ys, y ∈ xs) (hl : ys.length ≤ 60) (hw : wtAll ys ≤ 2 * wtAll xs) : Bnt (.tuple xs) (.tuple ys) ∧ Bnt (.tuple xs) (.list ys) := by
  have py : plAll ys = true := plAll_iff.mpr fun y hy => plAll_iff.mp hx y (hs y hy)
  obtain ⟨h1, h2, h3⟩ := pl_all ys py
  have hd : PyData.depthAll ys ≤ PyData.depthAll xs := depthAll_le fun y hy => mem_depth (hs y hy)
  refine ⟨⟨?_, ?_, ?_, fun z => ?_⟩, ⟨?_, ?_, ?_, fun z => ?_⟩⟩
  · simp only [okD, h1, Bool.and_true, decide_eq_true_eq]
    exact hl
  · simp only [wt]
    omega
  · simp only [PyData.depth]
    omega
  · simpa only [nl] using h3
  · simp only [okD, h1, Bool.and_true, decide_eq_true_eq]
    exact hl
  · simp only [wt]
    omega
  · simp only [PyData.depth]
    omega
  · simp only [PyData.hasDict, h2] at z
    cases z
theorem bnt_mid {a r : List PyData} {x y : PyData} (hp : plAll (a ++ x :: r) = true) (hl : (a ++ x :: r).length ≤ 12) (h : Bnt x y) : Bnt (.tuple (a ++ x :: r)) (.tuple (a ++ y :: r)) := by
  have hp' := plAll_iff.mp hp
  have pa : plAll a = true := plAll_iff.mpr fun z hz => hp' z (List.mem_append_left _ hz)
  have pr : plAll r = true := plAll_iff.mpr fun z hz => hp' z (List.mem_append_right _ (List.mem_cons_of_mem _ hz))
  obtain ⟨a1, a2, a3⟩ := pl_all a pa
  obtain ⟨r1, r2, r3⟩ := pl_all r pr
  have okA : okAll (a ++ y :: r) = true := okAll_iff.mpr fun z hz => by
    rcases List.mem_append.mp hz with hz | hz
    · exact okAll_iff.mp a1 z hz
    · rcases List.mem_cons.mp hz with rfl | hz
      · exact h.ok
      · exact okAll_iff.mp r1 z hz
  refine ⟨?_, ?_, ?_, fun z => ?_⟩
  · simp only [okD, okA, Bool.and_true, decide_eq_true_eq]
    rw [List.length_append, List.length_cons] at hl ⊢
    omega
  · have := h.w
    simp only [wt, wtAll_append, wtAll]
    omega
  · simp only [PyData.depth]
    have hx := mem_depth (xs := a ++ x :: r) (x := x) (List.mem_append_right _ List.mem_cons_self)
    have q : PyData.depthAll (a ++ y :: r) ≤ PyData.depthAll (a ++ x :: r) + 2 := depthAll_le fun z hz => by
      rcases List.mem_append.mp hz with hz | hz
      · have := mem_depth (xs := a ++ x :: r) (x := z) (List.mem_append_left _ hz)
        omega
      · rcases List.mem_cons.mp hz with rfl | hz
        · have := h.dp
          omega
        · have := mem_depth (xs := a ++ x :: r) (x := z) (List.mem_append_right _ (List.mem_cons_of_mem _ hz))
          omega
    omega
  · simp only [PyData.hasDict, hasDictAll_append, PyData.hasDictAll, a2, r2, Bool.false_or, Bool.or_false] at z
    simp only [nl, nlAll_append, nlAll, a3, r3, h.nd z, Bool.and_self]
theorem str_small : ∀ k : Fin 201, okD (.str (Str.ofString (toString ((k.val : Int) - 100)))) = true := by decide +kernel
theorem bnt_int {i : Int} (h : i.natAbs ≤ 100) : Bnt (.int i) (.int (i + 1)) ∧ Bnt (.int i) (.int (i - 1)) ∧ Bnt (.int i) (.str (Str.ofString (toString i))) ∧ (∀ b, Bnt (.int i) (.bool b)) ∧ Bnt (.int i) (.int 0) := by
  have big : (102 : Nat) < 10 ^ 80 := by decide +kernel
  refine ⟨⟨?_, by simp [wt], by simp [PyData.depth], fun z => by cases z⟩, ⟨?_, by simp [wt], by simp [PyData.depth], fun z => by cases z⟩, ⟨?_, by simp [wt], by simp [PyData.depth], fun z => by cases z⟩, fun b => ⟨rfl, by simp [wt], by simp [PyData.depth], fun z => by cases z⟩, ⟨rfl, by simp [wt], by simp [PyData.depth], fun z => by cases z⟩⟩
  · simp only [okD, decide_eq_true_eq]
    omega
  · simp only [okD, decide_eq_true_eq]
    omega
  · have q := str_small ⟨(i + 100).toNat, by omega⟩
    have e : (((i + 100).toNat : Nat) : Int) - 100 = i := by omega
    rw [e] at q
    exact q
/-! ### cuts of any list -/
def cutG {α : Type} (xs : List α) (lo hi : Option Int) : List α := (xs.drop (HT.sIx xs.length 0 lo)).take (HT.sIx xs.length xs.length hi - HT.sIx xs.length 0 lo)
theorem cutG_sub {α : Type} (xs : List α) (lo hi : Option Int) : (cutG xs lo hi).Sublist xs := (List.take_sublist _ _).trans (List.drop_sublist _ _)
theorem DaAll.cut {K : PySem.W.Frag} {H : Hp} {vs : List V} {ds : List PyData} (h : DaAll K H vs ds) (lo hi : Option Int) : DaAll K H (cutV vs lo hi) (cutG ds lo hi) := by
  unfold cutV cutG
  rw [DaAll.len h]
  exact (h.drop _).take _
theorem cutG_take {α : Type} {xs : List α} {j : Nat} (h : j ≤ xs.length) : cutG xs none (some (j : Int)) = xs.take j := by
  unfold cutG
  rw [HT.sIx_nat, HT.sIx_none, Nat.min_eq_left h, List.drop_zero, Nat.sub_zero]
theorem cutG_drop {α : Type} {xs : List α} {j : Nat} (h : j ≤ xs.length) : cutG xs (some (j : Int)) none = xs.drop j := by
  unfold cutG
  rw [HT.sIx_nat, HT.sIx_none, Nat.min_eq_left h]
  exact List.take_of_length_le (by rw [List.length_drop]; omega)
theorem catA_hs {K : PySem.W.Frag} {S : List Addr} {d b c a a2 : Addr} {n : Int} {H : Hp} {xs ys : List V} {Q : VK} (hC : Ck S d b c n H) (h : SqT K (hs S H) a xs) (h2 : SqT K (hs S H) a2 ys) (hl : xs.length + ys.length ≤ 1000)
    (k : ∀ (p : Addr) (H' : Hp), Same H H' → SqT K (hs S H') p (xs ++ ys) → Q (.ref p) H') : rCatA K (.ref a) (.ref a2) H Q := by
  refine ⟨a, a2, xs, ys, rfl, rfl, Same.tq hs_sub h, Same.tq hs_sub h2, Pb.sz hl, fun e => ?_, fun _ e => ?_, fun _ _ p hp => k p _ (same_upd hp) (SqT.of (hs_at (hC.out hp) upd_same))⟩
  · refine k a2 H (Same.refl _) ?_
    rw [e]
    exact h2
  · refine k a H (Same.refl _) ?_
    rw [e, List.append_nil]
    exact h
theorem slA_hs {K : PySem.W.Frag} {S : List Addr} {d b c a : Addr} {n : Int} {H : Hp} {xs : List V} {lo hi : Option Int} {Q : VK} (hC : Ck S d b c n H) (h : SqT K (hs S H) a xs) (k : ∀ (p : Addr) (H' : Hp), Same H H' → SqT K (hs S H') p (cutV xs lo hi) → Q (.ref p) H') : rSlA K (.ref a) lo hi H Q := by
  refine ⟨a, xs, rfl, Same.tq hs_sub h, fun w => k a H (Same.refl _) ?_, fun _ p hp => k p _ (same_upd hp) (SqT.of (hs_at (hC.out hp) upd_same))⟩
  rw [cut_whole w]
  exact h
/-- _law_bent(deck, thing, deep), deep below δ -/
def spBent (K : PySem.W.Frag) (δ : Nat) : Sp := fun vs H Q _ => ∃ (S : List Addr) (d b c : Addr) (n : Int) (x : V) (e : PyData) (deep : Nat), vs = [.ref d, x, .int deep] ∧ Ck S d b c n H ∧ n + 10 * deep < 2 ^ 40 ∧ deep < δ ∧ δ ≤ 10 ∧ pl e = true ∧ Da K (hs S H) x e ∧
  ∀ (v : V) (e' : PyData) (n' : Int) (H' : Hp), Bnt e e' → Dr d b c (n + 4 * deep + 4) H n' H' → Da K (hs S H') v e' → Q v H'
end
/-! from P15 -/
section
open PySem PySem.Spec PyProof.Rows L2
/-- [..][_law_next(deck, N)] of a list that stands at l -/
theorem pick {K : PySem.W.Frag} {S : List Addr} {d b c l : Addr} {n' N0 : Int} {N : Int} {H H' : Hp} {xs : List V} {ds : List PyData} {R : PyData → Prop} {Q : VK} (all : DaAll K (hs S H') xs ds) (good : ∀ y ∈ ds, R y) (hd : d ∈ S) (hb : b ∈ S) (dr : Dr d b c N0 H n' H') (w : Nw S d b c H' l (.lst xs))
    (hn : n' < 2 ^ 60) (h0 : 0 < N) (h1 : N < 1073741824) (hl : N = ds.length) (q : ∀ v e n2 H2, R e → Dr d b c (N0 + 1) H n2 H2 → Da K (hs S H2) v e → Q v H2) :
    spNext [.ref d, .int N] H' (fun y H2 => rIxL K (.ref l) y H2 Q) E0 := by
  refine ⟨d, b, c, n', N, rfl, dr.dk, hn, h0, h1, fun v n2 H2 v0 v1 dr2 => ?_⟩
  obtain ⟨j, rfl⟩ : ∃ j : Nat, v = (j : Int) := ⟨v.toNat, by omega⟩
  have xl := DaAll.len all
  have hj : j < xs.length := by omega
  obtain ⟨e, he, hxe⟩ := DaAll.get all (List.getElem?_eq_getElem hj)
  exact ⟨l, xs, _, xs[j], rfl, rfl, SqL.of (dr2.at w.off w.at_p), atI_nat (List.getElem?_eq_getElem hj), q _ e n2 H2 (good e (List.mem_of_getElem? he)) (dr.step dr2) (hxe.mono (hs_msk dr2.sm hd hb))⟩
end
/-! from P16 -/
section
open PySem PySem.Spec PyProof.Rows L2
/-! ### the law's own call: nothing is being shown there -/
section
variable {P : Program} {w : World} {K : PySem.W.Frag} {mg : Str → Option Value} {base : Heap}
/-- what FnOk says, of a call where nothing is being shown -/
def RunG (P : Program) (w : World) (K : PySem.W.Frag) (mg : Str → Option Value) (base : Heap) (k : Nat) (f : Addr) (fd : FuncData) (ps : List Str) (sp : Sp) : Prop :=
  ∀ (A : Around) (fr : List Env) (t : Shared) (H : Hp) (ar : Args) (us : List Value) (vs : List V) (Q : VK), A.guards = some [] → Room k A → Env0 P w K mg base A fr t H → BindsTo t fd ar (ps.zip us) → Vals vs us → sp vs H Q E0 →
    codeAny (model P w) A (.call (.ref f) ar) (CR CX0 fr P w H t Q E0) t
theorem runG_of {x qual : Str} {st : Stmt} {f : Addr} {fd : FuncData} {N ps : List Str} {k : Nat} {sp : Sp} (F : Fun K x qual st f fd) (S : FnScope N ps (defScope st)) (len : ∀ vs H Q E, sp vs H Q E → vs.length = ps.length)
    (body : ∀ (cdv : Value) (A : Around) (fr : List Env) (t : Shared) (H : Hp) (vs : List V) (Q : VK), (A.deeper (envOfC qual (defScope st) t.heap.objs.size f cdv)).guards = some [] → Room k (A.deeper (envOfC qual (defScope st) t.heap.objs.size f cdv)) → sp vs H Q E0 →
      ∃ r, PSs (cxOf CX0 P w K mg base N qual (defScope st) f cdv A fr t H E0).nox (defBody st) r ∧ r { nx := fun _ H' => Q .non H', rt := Q } (start N vs) H) : RunG P w K mg base (k + 1) f fd ps sp := by
  obtain ⟨oc, od, kV, doc, pm, an, cdv, ct, osl, rfl, lk, hcd⟩ := F.ex
  intro A fr t H ar us vs Q hg hr e0 hb rv hsp
  have hlen := len _ _ _ _ hsp
  have hK : K.In t.heap := e0.mod.kin.keeps fun b o e => (e0.bs b o e).1
  have hlim : t.heap.NoLimit := e0.mod.nolimit.keeps fun b o e => (e0.bs b o e).1
  have kinds : ∀ y ∈ ps.zip us, (defScope st).names.lookup y.1 = some .local ∨ ((defScope st).names.lookup y.1 = some .cell ∧ ((cellsFrom (t.heap.objs.size + 1) (defScope st).names []).lookup y.1).isSome = true) := fun ⟨nm, u⟩ hy =>
    (S.par nm (List.of_mem_zip hy).1).elim .inl fun z => .inr ⟨z, PySem.W.cellsFrom_some _ _ _ (.inl z)⟩
  refine codeAny_call_function hr.depth (hK _ _ lk) rfl S.co S.gen rfl (PySem.W.codeRec_of hK hcd) (hb _ _ _ _ ?_)
  refine wpAny_newFunctionEnv_cells S.kind kinds fun env he t1 nf => ?_
  subst he
  refine ⟨hlim.keeps nf.toInCall.keep, codeAny_func ?_⟩
  obtain ⟨r, hr1, hr2⟩ := body cdv A fr t H vs Q (by rw [← hg]; rfl) (hr.deeper _) hsp
  have I0 : Inv (cxOf CX0 P w K mg base N qual (defScope st) f cdv A fr t H E0) [] (start N vs) H t1 := inv_start S hr.hd e0 hlen rv nf
  refine wpAny_mono (hr1.nox.run [] t1 (start N vs) H _ I0 hr2) (fun fl t2 h2 => ?_) fun _ _ z => z
  cases fl with
  | ret u =>
    obtain ⟨v, σ', H', J, rv', q⟩ := h2
    exact ⟨v, H', J.os, J.bare, J.base, J.hok, rv', q⟩
  | next =>
    obtain ⟨σ', H', J, q⟩ := h2
    exact ⟨.non, H', J.os, J.bare, J.base, J.hok, rfl, q⟩
  | brk => exact h2.elim fun _ z => z.elim fun _ y => y.2.elim
  | cont => exact h2.elim fun _ z => z.elim fun _ y => y.2.elim
end
/-- the law's call, from its promise where nothing is being shown -/
theorem law_runG {P : Program} {w : World} {K : PySem.W.Frag} {mg mb : Str → Option Value} {k : Nat} {fa a : Addr} {fd : FuncData} {x : Str} {sp : Sp} {t : Shared} {us : List Value} {ns : List Int}
    (hK : K.In t.heap) (gl : t.heap.Ns mainGlobals mg) (bl : t.heap.Ns builtinsNs mb) (bb : ∀ y : Str, y ≠ "__name__" → mb y = bootBuiltins y) (lim : t.heap.NoLimit) (gn : t.gens = #[])
    (hobj : t.heap.get? a = some { cls := .type "list", data := .seq us.toArray }) (hi : IntsAre us ns) (hz : ns.length ≤ sizeLine) (hr : Room k callerA)
    (F : ∀ base : Heap, K.In base → base.Ns mainGlobals mg → RunG P w K mg base k fa fd [x] sp) (hbind : ∀ (s : Shared) (u : Value), BindsTo s fd ⟨[u], []⟩ [(x, u)])
    (hsp : ∀ H : Hp, Only H → SqL K H a (ns.map V.int) → sp [.ref a] H (fun v _ => v = .bl true) E0) :
    codeAny (model P w) callerA (.call (.ref fa) ⟨[.ref a], []⟩) (fun r t' => r = .ok (.ret (.bool true)) ∧ OldK t.heap t'.heap ∧ t'.os = t.os ∧ AllBare t'.gens) t := by
  have rv := vals_ints hi
  have hlen := hi.length
  have main : ∀ H : Hp, Only H → SqL K H a (ns.map V.int) → HOk P w H t.heap → (∀ b, H b ≠ none → b = a) → (H a ≠ none → K.lookup a = none) →
      codeAny (model P w) callerA (.call (.ref fa) ⟨[.ref a], []⟩) (fun r t' => r = .ok (.ret (.bool true)) ∧ OldK t.heap t'.heap ∧ t'.os = t.os ∧ AllBare t'.gens) t := by
    intro H hO hS hok onlyA notK
    have keepB : ∀ {b : Addr} {ob : Obj}, t.heap.get? b = some ob → H b = none → (hidT t.heap H).get? b = some ob := fun e z => hidT_get e z
    have dictOut : ∀ {b : Addr} {ob : Obj} {es : Array DictEntry} {ep : Nat}, t.heap.get? b = some ob → ob.data = .dict es ep → H b = none := fun {b ob es ep} e dd => by
      cases z : H b with
      | none => rfl
      | some u =>
        obtain rfl : b = a := onlyA b (by rw [z]; simp)
        rw [hobj] at e
        cases e
        cases (show Data.seq us.toArray _ = Data.dict es ep from dd)
    have nsB : ∀ {b : Addr} {m : Str → Option Value}, t.heap.Ns b m → (hidT t.heap H).Ns b m := fun {b m} ⟨ob, es, ep, e, dd, rest⟩ => ⟨ob, es, ep, keepB e (dictOut e dd), dd, rest⟩
    have kB : K.In (hidT t.heap H) := fun b ob e => keepB (hK b ob e) (by
      cases z : H b with
      | none => rfl
      | some u =>
        obtain rfl : b = a := onlyA b (by rw [z]; simp)
        rw [notK (by rw [z]; simp)] at e
        cases e)
    have modB : Mod K mg (hidT t.heap H) := ⟨kB, nsB gl, ⟨mb, nsB bl, bb⟩, lim.elim fun mc z => ⟨mc, nsB z.1, z.2⟩⟩
    have env : Env0 P w K mg (hidT t.heap H) callerA [] t H := ⟨rfl, modB, fun b ob e => of_hidT e, Nat.le_of_eq (hidT_size _ _), trivial, fun b hb => absurd (show b ∈ ([] : List Addr) from hb) List.not_mem_nil, hok, .of_eq gn⟩
    refine codeAny_mono (F _ kB (nsB gl) callerA [] t H ⟨[.ref a], []⟩ [.ref a] [.ref a] _ rfl hr env (hbind t (.ref a)) (.cons rfl .nil) (hsp H hO hS)) fun r t' res => ?_
    cases r with
    | error e => exact res.elim
    | ok fl =>
      cases fl with
      | ret u =>
        obtain ⟨v, H', hos, hbare, un, hok', rel, veq⟩ := res
        obtain rfl : v = .bl true := veq
        obtain rfl : u = Value.bool true := rel
        refine ⟨rfl, OldK.of_keep fun b ob e => ?_, hos, hbare⟩
        cases z : H b with
        | none => exact un.keep b ob e z (fun y => absurd (show b ∈ ([] : List Addr) from y) List.not_mem_nil) List.not_mem_nil
        | some u =>
          rcases hO b with y | ⟨o1, xs, y⟩
          · rw [z] at y
            cases y
          · have e1 := (hok b _ y).1
            have e2 := (hok' b _ (un.frzs b o1 _ y)).1
            rw [e] at e1
            cases e1
            exact e2
      | next => exact res.elim
      | brk => exact res.elim
      | cont => exact res.elim
  cases hk : K.lookup a with
  | some ob =>
    have e := hK a ob hk
    rw [hobj] at e
    cases e
    exact main (fun _ => none) (fun _ => .inl rfl) (.inr ⟨_, us.toArray, _, hk, rfl, rfl, rfl, by rw [List.size_toArray, hlen]; exact hz, by simpa using rv⟩) (fun b u z => nomatch (show (none : Option HO) = some u from z)) (fun b z => absurd rfl z) fun z => absurd rfl z
  | none =>
    refine main (fun b => if b = a then some (.frz { cls := .type "list", data := .seq us.toArray } (.lst (ns.map V.int))) else none) (fun b => ?_) (.inl (.inr ⟨_, if_pos rfl⟩)) (fun b u z => ?_) (fun b z => Decidable.byContradiction fun nb => z (if_neg nb)) fun _ => hk
    · by_cases hb : b = a
      · exact .inr ⟨_, _, if_pos hb⟩
      · exact .inl (if_neg hb)
    · by_cases hb : b = a
      · cases (if_pos hb).symm.trans z
        subst hb
        exact ⟨hobj, by rw [List.length_map]; exact hz, us, _, rv, hobj⟩
      · cases (if_neg hb).symm.trans z
theorem walk_G {l : PySem.W.OpenLaw} {n k : Nat} {q : Program} {loose : List Str} {XP : (Str → Option Value) → Heap → Prop} {YP : World → Heap → Prop} {d : DefRec} {K : Params → PySem.W.Frag} {sp : World → Sp} {x : Str}
    (hn : l.most = some n) (hn2 : n ≤ sizeLine) (hdf : d.params.defaults = []) (hr : Room k callerA) (hY : ∀ (w : World) (h : Heap), YP w h → (K w.params).In h)
    (F : ∀ (w : World) (mg : Str → Option Value) (fa : Addr) (h : Heap), (K w.params).In h → h.Ns mainGlobals mg → mg d.name = some (.ref fa) →
      ∃ fd : FuncData, (∀ (s : Shared) (u : Value), BindsTo s fd ⟨[u], []⟩ [(x, u)]) ∧ ∀ base : Heap, (K w.params).In base → base.Ns mainGlobals mg → RunG l.prog w (K w.params) mg base k fa fd [x] (sp w))
    (hsp : ∀ (w : World) (H : Hp) (a : Addr) (ns : List Int), ns.length ≤ n → Only H → SqL (K w.params) H a (ns.map V.int) → sp w [.ref a] H (fun v _ => v = .bl true) E0) :
    PySem.W.WalkO q loose XP YP l.row.toRowW d [] (fun f vs => PySem.call f vs) := by
  refine Att.attach_call hn hdf fun w t0 t mg mb fa ob pm cd doc a us ns G Y _ _ _ hmg hobj hi hlen hg => ?_
  have hK := hY w _ Y
  obtain ⟨fd, hb, hF⟩ := F w mg fa _ hK G.T.g hmg
  exact law_runG hK G.T.g G.T.b G.T.builtins G.T.nolimit hg hobj hi (Nat.le_trans hlen hn2) hr hF hb fun H hO hS => hsp w H a ns hlen hO hS
end
/-! from P17 -/
section
open PySem PySem.Spec PyProof.Rows L2
/-! ### expressions that make data, the deck apart -/
section
variable (K : PySem.W.Frag) (S : List Addr) (d b c : Addr)
def EvE (te : TE) (σ : L2.St) (H : Hp) (e : PyData) : Prop := ∀ H1, Same H H1 → (∃ n, Ck S d b c n H1) → ∀ Q : VK, (∀ v H2, Same H1 H2 → Da K (hs S H2) v e → Q v H2) → te σ H1 Q
def EvEA (ta : TA) (σ : L2.St) (H : Hp) (es : List PyData) : Prop := ∀ H1, Same H H1 → (∃ n, Ck S d b c n H1) → ∀ Q : List V → Hp → Prop, (∀ vs H2, Same H1 H2 → DaAll K (hs S H2) vs es → Q vs H2) → ta σ H1 Q
/-- a new list -/
def EvLs (te : TE) (σ : L2.St) (H : Hp) (es : List PyData) : Prop := ∀ H1, Same H H1 → (∃ n, Ck S d b c n H1) → ∀ Q : VK, (∀ l vs H2, Same H1 H2 → Nw S d b c H2 l (.lst vs) → DaAll K (hs S H2) vs es → Q (.ref l) H2) → te σ H1 Q
end
section
variable {K : PySem.W.Frag} {S : List Addr} {d b c : Addr} {σ : L2.St} {H : Hp} {ta tb te : TE} {tr : TA} {e : PyData} {es fs : List PyData}
theorem ee_c {v : V} (h : ∀ H', Da K H' v e) : EvE K S d b c (tC v) σ H e := fun H1 _ _ Q q => q v H1 (Same.refl _) (h _)
theorem ee_int {i : Int} : EvE K S d b c (tC (.int i)) σ H (.int i) := ee_c fun _ => .int i
theorem ee_bl {x : Bool} : EvE K S d b c (tC (.bl x)) σ H (.bool x) := ee_c fun _ => .bl x
theorem ee_var {i : Nat} {v : V} (hv : σ[i]? = some (some v)) (h : Da K (hs S H) v e) : EvE K S d b c (tVar i) σ H e := fun H1 s _ Q q => ⟨v, hv, q v H1 (Same.refl _) (h.mono (hs_mono s))⟩
theorem ea_nil' : EvEA K S d b c tNil σ H [] := fun H1 _ _ Q q => q [] H1 (Same.refl _) .nil
theorem ea_cons' (h : EvE K S d b c te σ H e) (hr : EvEA K S d b c tr σ H es) : EvEA K S d b c (tCons te tr) σ H (e :: es) := fun H1 s dk Q q =>
  h H1 s dk _ fun v H2 s2 hv => hr H2 (s.trans s2) (dk.elim fun n z => ⟨n, z.same s2⟩) _ fun vs H3 s3 hvs => q (v :: vs) H3 (s2.trans s3) (.cons (hv.mono (hs_mono s3)) hvs)
theorem ee_tup (h : EvEA K S d b c tr σ H es) (hl : es.length ≤ 1000) : EvE K S d b c (tTup tr) σ H (.tuple es) := fun H1 s dk Q q =>
  h H1 s dk _ fun vs H2 s2 hvs => ⟨sz (by rw [DaAll.len hvs]; exact hl), fun p hp => by
    obtain ⟨n, z⟩ := dk
    exact q _ _ (s2.trans (same_upd hp)) (.tup (SqT.of (hs_at ((z.same s2).out hp) upd_same)) (hvs.mono (hs_mono (same_upd hp))))⟩
theorem el_lst' (h : EvEA K S d b c tr σ H es) (hl : es.length ≤ 1000) : EvLs K S d b c (tLst tr) σ H es := fun H1 s dk Q q =>
  h H1 s dk _ fun vs H2 s2 hvs => ⟨sz (by rw [DaAll.len hvs]; exact hl), fun p hp => by
    obtain ⟨n, z⟩ := dk
    exact q p vs _ (s2.trans (same_upd hp)) (Nw.new (z.same s2) hp) (hvs.mono (hs_mono (same_upd hp)))⟩
theorem ee_lst (h : EvEA K S d b c tr σ H es) (hl : es.length ≤ 1000) : EvE K S d b c (tLst tr) σ H (.list es) := fun H1 s dk Q q =>
  el_lst' h hl H1 s dk Q fun l vs H2 s2 w hvs => q _ H2 s2 (.lst w.lst hvs)
theorem ee_listof (h : EvE K S d b c te σ H (.tuple es)) : EvE K S d b c (tCB (fun xs H Q => ∃ p ys, xs = [.ref p] ∧ (SqL K H p ys ∨ SqT K H p ys) ∧ ∀ l, H l = none → Q (.ref l) (upd H l (.lst ys))) (tCons te tNil)) σ H (.list es) := fun H1 s dk Q q =>
  h H1 s dk _ fun v H2 s2 hv => by
    cases hv with
    | @tup a xs _ hq ha =>
      obtain ⟨n, z⟩ := dk
      exact ⟨a, xs, rfl, .inr (Same.tq hs_sub hq), fun l hl => q _ _ (s2.trans (same_upd hl)) (.lst (SqL.of (hs_at ((z.same s2).out hl) upd_same)) (ha.mono (hs_mono (same_upd hl))))⟩
theorem ee_cat (h1 : EvE K S d b c ta σ H (.tuple es)) (h2 : EvE K S d b c tb σ H (.tuple fs)) (hl : es.length + fs.length ≤ 1000) : EvE K S d b c (tOp (rCatA K) ta tb) σ H (.tuple (es ++ fs)) := fun H1 s dk Q q =>
  h1 H1 s dk _ fun v H2 s2 hv => h2 H2 (s.trans s2) (dk.elim fun n z => ⟨n, z.same s2⟩) _ fun u H3 s3 hu => by
    obtain ⟨n, z⟩ := dk
    have hv3 := hv.mono (hs_mono (S := S) s3)
    cases hv3 with
    | @tup a xs _ hq ha =>
      cases hu with
      | @tup a2 ys _ hq2 ha2 =>
        refine catA_hs ((z.same s2).same s3) hq hq2 (by rw [DaAll.len ha, DaAll.len ha2]; exact hl) fun p H4 s4 hp => ?_
        exact q _ _ ((s2.trans s3).trans s4) (.tup hp ((ha.mono (hs_mono s4)).append (ha2.mono (hs_mono s4))))
theorem DaAll.rep {H : Hp} {vs : List V} (h : DaAll K H vs es) : ∀ m : Nat, DaAll K H (List.replicate m vs).flatten (List.replicate m es).flatten
  | 0 => .nil
  | m + 1 => by
    rw [List.replicate_succ, List.replicate_succ, List.flatten_cons, List.flatten_cons]
    exact h.append (DaAll.rep h m)
theorem ee_rep {k : Int} (h : EvE K S d b c ta σ H (.tuple es)) (h0 : es ≠ []) (h2 : 2 ≤ k) (h3 : k ≤ 1000) (hl : es.length ≤ 1000) : EvE K S d b c (tOp (rRepT K) ta (tC (.int k))) σ H (.tuple (List.replicate k.toNat es).flatten) := fun H1 s dk Q q =>
  h H1 s dk _ fun v H2 s2 hv => by
    obtain ⟨n, z⟩ := dk
    cases hv with
    | @tup a xs _ hq ha =>
      have hlen := DaAll.len ha
      refine ⟨a, k, xs, rfl, rfl, Same.tq hs_sub hq, fun e => h0 ?_, h2, h3, by omega, fun p hp => q _ _ (s2.trans (same_upd hp)) (.tup (SqT.of (hs_at ((z.same s2).out hp) upd_same)) ((ha.mono (hs_mono (same_upd hp))).rep _))⟩
      rw [e] at hlen
      exact List.eq_nil_of_length_eq_zero hlen.symm
theorem ee_upto {k : Int} (h : EvE K S d b c te σ H (.tuple es)) : EvE K S d b c (tSl (rSlA K) te tNoPart (tPart (tC (.int k)))) σ H (.tuple (cutG es none (some k))) := fun H1 s dk Q q =>
  h H1 s dk _ fun v H2 s2 hv => by
    obtain ⟨n, z⟩ := dk
    cases hv with
    | @tup a xs _ hq ha =>
      refine ⟨k, rfl, slA_hs (z.same s2) hq fun p H3 s3 hp => ?_⟩
      exact q _ _ (s2.trans s3) (.tup hp ((ha.mono (hs_mono s3)).cut _ _))
end
/-! ### good values -/
structure Gd (e : PyData) : Prop where
  ok : okD e = true
  w : wt e ≤ 1000000
  dp : e.depth ≤ 12
  nd : e.hasDict = true → nl e = true
/-- good items -/
structure GdL (L : List PyData) : Prop where
  ok : okAll L = true
  len : L.length ≤ 60
  w : wtAll L ≤ 100000
  dp : PyData.depthAll L ≤ 8
  nd : PyData.hasDictAll L = false
theorem gd_three {L : List PyData} {m : Int} (h : GdL L) (hm : m.natAbs ≤ 100) : Gd (.tuple [.int m, .tuple L]) ∧ Gd (.tuple [.int m, .list L]) ∧ Gd (.list [.int m, .tuple L]) := by
  have h1 : decide (m.natAbs < 10 ^ 80) = true := decide_eq_true (Nat.lt_of_le_of_lt hm (by decide +kernel))
  have h2 : decide (L.length ≤ 60) = true := decide_eq_true h.len
  have w := h.w
  have dp := h.dp
  have nd := h.nd
  refine ⟨⟨?_, ?_, ?_, fun z => ?_⟩, ⟨?_, ?_, ?_, fun z => ?_⟩, ⟨?_, ?_, ?_, fun z => ?_⟩⟩
  · simp only [okD, okAll, h.ok, h1, h2, Bool.and_self, Bool.and_true]
    exact decide_eq_true (by simp)
  · simp only [wt, wtAll]
    omega
  · simp only [PyData.depth, PyData.depthAll]
    omega
  · simp [PyData.hasDict, PyData.hasDictAll, nd] at z
  · simp only [okD, okAll, h.ok, h1, h2, Bool.and_self, Bool.and_true]
    exact decide_eq_true (by simp)
  · simp only [wt, wtAll]
    omega
  · simp only [PyData.depth, PyData.depthAll]
    omega
  · simp [PyData.hasDict, PyData.hasDictAll, nd] at z
  · simp only [okD, okAll, h.ok, h1, h2, Bool.and_self, Bool.and_true]
    exact decide_eq_true (by simp)
  · simp only [wt, wtAll]
    omega
  · simp only [PyData.depth, PyData.depthAll]
    omega
  · simp [PyData.hasDict, PyData.hasDictAll, nd] at z
theorem gd_odd {e : PyData} (h : e ∈ oddL) : Gd e := by
  obtain ⟨h1, h2, h3, h4⟩ := odd_ok h
  exact ⟨h1, by omega, by omega, h4⟩
/-! ### tables are plain -/
theorem pl_off {m : Nat} {o : List Int} (hm : m ≤ 10) (h : OffOk m o) : pl (offD o) = true ∧ wt (offD o) ≤ 999 ∧ (offD o).depth ≤ 1 := by
  have hl := h.len
  have all : plAll (o.map PyData.int) = true := plAll_iff.mpr fun x hx => by
    obtain ⟨i, hi, rfl⟩ := List.mem_map.mp hx
    have := h.1 i hi
    simp only [pl, decide_eq_true_eq]
    omega
  refine ⟨?_, ?_, ?_⟩
  · simp only [offD, pl, all, Bool.and_true, decide_eq_true_eq, List.length_map]
    omega
  · simp only [offD, wt]
    have := wtAll_le (n := 81) (xs := o.map PyData.int) fun x hx => by
      obtain ⟨i, hi, rfl⟩ := List.mem_map.mp hx
      exact Nat.le_refl _
    rw [List.length_map] at this
    omega
  · simp only [offD, PyData.depth, depth_ints]
    omega
theorem osD {m : Nat} {os : List (List Int)} (hm : m ≤ 10) (hl : os.length ≤ 10) (h : ∀ o ∈ os, OffOk m o) : plAll (os.map offD) = true ∧ wtAll (os.map offD) ≤ 10010 ∧ PyData.depthAll (os.map offD) ≤ 1 := by
  have f : ∀ x ∈ os.map offD, pl x = true ∧ wt x ≤ 999 ∧ x.depth ≤ 1 := fun x hx => by
    obtain ⟨o, ho, rfl⟩ := List.mem_map.mp hx
    exact pl_off hm (h o ho)
  refine ⟨plAll_iff.mpr fun x hx => (f x hx).1, ?_, depthAll_le fun x hx => (f x hx).2.2⟩
  have := wtAll_le (n := 999) (xs := os.map offD) fun x hx => (f x hx).2.1
  rw [List.length_map] at this
  omega
theorem gdl_pl {L : List PyData} (h : plAll L = true) (hl : L.length ≤ 60) (hw : wtAll L ≤ 100000) (hd : PyData.depthAll L ≤ 8) : GdL L := ⟨(pl_all L h).1, hl, hw, hd, (pl_all L h).2.1⟩
theorem pl_tab {m : Nat} {os : List (List Int)} (hm : m ≤ 10) (hl : os.length ≤ 10) (h : ∀ o ∈ os, OffOk m o) : pl (tabD m os) = true ∧ wt (tabD m os) ≤ 20000 ∧ (tabD m os).depth ≤ 4 := by
  obtain ⟨h1, h2, h3⟩ := osD hm hl h
  refine ⟨?_, ?_, ?_⟩
  · simp only [tabD, pl, plAll, h1, Bool.and_true, Bool.and_eq_true, decide_eq_true_eq, List.length_map, List.length_cons, List.length_nil]
    omega
  · simp only [tabD, wt, wtAll]
    omega
  · simp only [tabD, PyData.depth, PyData.depthAll]
    omega
theorem gd_bent {e e' : PyData} (h : Bnt e e') (hw : wt e ≤ 20000) (hd : e.depth ≤ 4) : Gd e' := ⟨h.ok, by have := h.w; omega, by have := h.dp; omega, h.nd⟩
end
/-! from P18 -/
section
open PySem PySem.Spec PyProof.Rows L2
/-- the law: True -/
def spLaw (K : PySem.W.Frag) : Sp := fun vs H Q _ => ∃ (a : Addr) (ns : List Int), vs = [.ref a] ∧ SqL K H a (ns.map V.int) ∧ ns.length ≤ 63 ∧ ∀ H', Q (.bl true) H'
theorem q_asgE {K : PySem.W.Frag} {S : List Addr} {d b c : Addr} {te : TE} {σ : L2.St} {H : Hp} {D : Ends} {tz : TS} {i : Nat} {es : List PyData} (h : EvLs K S d b c te σ H es) (dk : ∃ n, Ck S d b c n H)
    (k : ∀ l vs H2, Same H H2 → Nw S d b c H2 l (.lst vs) → DaAll K (hs S H2) vs es → tz D (σ.set i (some (.ref l))) H2) : tSeq (tAsg te (gName i)) tz D σ H := h H (Same.refl _) dk _ k
end
/-! from P19 -/
section
open PySem PySem.Spec PyProof.Rows L2
/-- the def x of the text, as the top has left it -/
def Df (K : PySem.W.Frag) (mg : Str → Option Value) (x : Str) (st : Stmt) : Prop := ∃ (f : Addr) (fd : FuncData), Fun K x x st f fd ∧ mg x = some (.ref f)
theorem df_mk {K : PySem.W.Frag} {h : Heap} {mg : Str → Option Value} {x : Str} {st : Stmt} {f : Addr} {od an : Option Addr} {sl : Array (Option Value)} {oc kV dc pm cd ct : Value} (X : K.In h) (G : h.Ns mainGlobals mg) (a : PySem.W.nsIn K mainGlobals x = some (some (.ref f)))
    (l : K.lookup f = some ⟨oc, od, .func (PySem.W.fnOf x x (defArgs st) (defBody st) (defScope st) .none kV dc pm an cd ct), sl⟩) (c : PySem.W.codeIn K cd x = true) (k : PySem.W.keepIn K (.ref f) = true) : Df K mg x st := ⟨f, _, fun_mk (st := st) l c k, PySem.W.mg_of X G a⟩
theorem ct_mk {K : PySem.W.Frag} {h : Heap} {mg : Str → Option Value} {x : Str} {v : Value} {i : Int} (X : K.In h) (G : h.Ns mainGlobals mg) (a : PySem.W.nsIn K mainGlobals x = some (some v)) (e : ∃ t, v = .int i t) : ∃ t, mg x = some (.int i t) := e.elim fun t z => ⟨t, z ▸ PySem.W.mg_of X G a⟩
theorem cl_mk {P : Program} {w : World} {K : PySem.W.Frag} {mg : Str → Option Value} {base : Heap} {x : Str} {st : Stmt} {f : Addr} {fd : FuncData} {ps : List Str} {sp : Sp} {k : Nat} (F : Fun K x x st f fd) (g : mg x = some (.ref f)) (b : Binds K fd ps []) (ok : FnOk P w K mg base CX0 k f fd ps sp) : Cl P w K mg base k x ps sp := ⟨f, fd, ok, g, F.kp, b⟩
end
end Pb

set_option Elab.async false
set_option linter.all false
set_option maxRecDepth 100000
namespace Pb
open PySem PySem.Spec PyProof.Rows L2
/-! ### a tuple of a length -/
def isTupOf : PyData → Int → Bool
  | .tuple ds, n => decide ((ds.length : Int) = n)
  | _, _ => false
def rTupN (K : PySem.W.Frag) : List V → Hp → V → Prop := fun vs H z => ∃ x d c, vs = [x, .int c] ∧ Da K H x d ∧ z = .bl (isTupOf d c)
theorem isTupOf_two {d : PyData} (h : isTupOf d 2 = true) : ∃ a b, d = .tuple [a, b] := by
  cases d with
  | tuple ds =>
    simp only [isTupOf, decide_eq_true_eq] at h
    match ds, h with
    | [x, y], _ => exact ⟨x, y, rfl⟩
  | none => simp [isTupOf] at h
  | bool _ => simp [isTupOf] at h
  | int _ => simp [isTupOf] at h
  | str _ => simp [isTupOf] at h
  | list _ => simp [isTupOf] at h
  | dict _ => simp [isTupOf] at h
theorem isTab_not {d : PyData} (h : isTupOf d 2 = false) : isTab d = false := by
  cases d with
  | tuple ds => exact isTab_tup fun z => by simp [isTupOf, z] at h
  | _ => rfl
end Pb

set_option Elab.async false
set_option linter.all false
set_option maxRecDepth 100000
namespace Pb
open PySem PySem.Spec PyProof.Rows L2
/-! ### what _law_same needs -/
/-- o[i], o a list or a tuple -/
def rIxA (K : PySem.W.Frag) : R2 := fun x y H Q => ∃ p xs i v, x = .ref p ∧ y = .int i ∧ (SqL K H p xs ∨ SqT K H p xs) ∧ atI xs i = some v ∧ Q v H
theorem ix_any {X : Cx} : IxR X (rIxA X.K) := fun va sl pins s σ H x y v u Q I rx ry ⟨p, xs, i, z, e1, e2, h, ha, q⟩ hs =>
  h.elim (fun h => ix_list va sl pins s σ H x y v u Q I rx ry ⟨p, xs, i, z, e1, e2, h, ha, q⟩ hs) (fun h => ix_tup va sl pins s σ H x y v u Q I rx ry ⟨p, xs, i, z, e1, e2, h, ha, q⟩ hs)
theorem ix_anyK {X : Cx} {K : PySem.W.Frag} (h : X.K = K) : IxR X (rIxA K) := h ▸ ix_any
section
variable {K : PySem.W.Frag} {σ : L2.St} {H : Hp} {ta tb : TE} {x : V} {d : PyData}
theorem Same.sq {H' : Hp} {a : Addr} {xs : List V} (s : Same H H') (h : SqL K H a xs ∨ SqT K H a xs) : SqL K H' a xs ∨ SqT K H' a xs := h.imp (Evl.ex_l s) (Evl.ex_t s)
theorem rv_ixA {p : Addr} {xs : List V} {i : Int} {v : V} (h : SqL K H p xs ∨ SqT K H p xs) (ha : atI xs i = some v) : Evl.RV (rIxA K) (.ref p) (.int i) H v := fun H1 e _ q =>
  ⟨p, xs, i, v, rfl, rfl, Same.sq e h, ha, q H1 (Evl.Ex.refl H1)⟩
theorem ev_isi2 {T U : String} (ha : Evl.Ev ta σ H x) (h : Da K H x d) (hT : T ∈ ["int", "bool", "tuple", "list", "dict", "str"] := by decide) (hU : U ∈ ["int", "bool", "tuple", "list", "dict", "str"] := by decide) :
    Evl.Ev (tCB (rIsiT K) (tCons ta (tCons (tTup (tCons (tC (.ty T)) (tCons (tC (.ty U)) tNil))) tNil))) σ H (.bl (isI T d || isI U d)) := fun H1 e Q q =>
  ha H1 e _ fun H2 e2 => ⟨Pb.sz (n := 2) (by decide), fun p hp => by
    have s3 : Same H2 (upd H2 p (.tup [.ty T, .ty U])) := same_upd hp
    refine ⟨x, p, [.ty T, .ty U], .type (tyN d), [.type T, .type U], isI T d || isI U d, rfl, upd_same, .cons (.ty _) (.cons (.ty _) .nil), (h.mono (Same.trans (Same.trans e e2) s3)).ty, ?_, q _ (e2.trans s3)⟩
    refine kitAny_cons (b := isI T d) (kit_ty (kit_isI T d hT)) (fun z => ?_) (fun z => by rw [z]; rfl)
    refine kitAny_cons (b := isI U d) (kit_ty (kit_isI U d hU)) (fun y => ?_) (fun y => by rw [y, Bool.or_true])
    rw [z, y]
    rfl⟩
theorem ev_isN (ha : Evl.Ev ta σ H x) : Evl.Ev (tOp (fun x y H Q => y = .non ∧ Q (.bl (decide (x = .non))) H) ta (tC .non)) σ H (.bl (decide (x = .non))) := fun H1 e Q q =>
  ha H1 e _ fun H2 e2 => ⟨rfl, q H2 e2⟩
/-- a new list against [] -/
theorem ev_eq0 {xs : List V} (ha : Evl.EvL ta σ H xs) : Evl.Ev (tOp (rEq0 K) ta (tLst tNil)) σ H (.bl xs.isEmpty) :=
  Evl.ev_opLL ha (Evl.el_lst Evl.ea_nil (by simp)) fun p q H1 h1 h2 _ H2 e _ k => ⟨p, q, xs, rfl, rfl, SqL.of (e _ _ h1), SqL.of (e _ _ h2), k H2 (Evl.Ex.refl _)⟩
end
/-- what two equal data give: True -/
def rSame (K : PySem.W.Frag) (δ : Nat) : List V → Hp → V → Prop := fun vs H z => ∃ x y e, vs = [x, y] ∧ Da K H x e ∧ Da K H y e ∧ e.depth < δ ∧ okD e = true ∧ e.hasDict = false ∧ z = .bl true
/-- a list or a tuple in the heap -/
theorem Da.seq {K : PySem.W.Frag} {H : Hp} {x : V} {e : PyData} (h : Da K H x e) (hs : (isI "tuple" e || isI "list" e) = true) : ∃ a xs es, x = .ref a ∧ (SqL K H a xs ∨ SqT K H a xs) ∧ DaAll K H xs es ∧ (e = .list es ∨ e = .tuple es) := by
  cases h with
  | lst h1 h2 => exact ⟨_, _, _, rfl, .inl h1, h2, .inl rfl⟩
  | tup h1 h2 => exact ⟨_, _, _, rfl, .inr h1, h2, .inr rfl⟩
  | non => simp [isI, isN, tyN] at hs
  | bl => simp [isI, isN, tyN] at hs
  | int => simp [isI, isN, tyN] at hs
  | str => simp [isI, isN, tyN] at hs
  | emp => simp [isI, isN, tyN] at hs
theorem seq_parts {e : PyData} {es : List PyData} {δ : Nat} (h : e = .list es ∨ e = .tuple es) (hd : e.depth < δ + 1) (hok : okD e = true) (hnd : e.hasDict = false) : es.length ≤ 60 ∧ ∀ x ∈ es, x.depth < δ ∧ okD x = true ∧ x.hasDict = false := by
  have key : es.length ≤ 60 ∧ okAll es = true ∧ PyData.depthAll es < δ ∧ PyData.hasDictAll es = false := by
    rcases h with rfl | rfl <;> simp only [okD, Bool.and_eq_true, decide_eq_true_eq, PyData.depth, PyData.hasDict] at hok hd hnd <;> exact ⟨hok.1, hok.2, by omega, hnd⟩
  refine ⟨key.1, fun x hx => ⟨?_, okAll_iff.mp key.2.1 x hx, ?_⟩⟩
  · have := mem_depth hx
    have := key.2.2.1
    omega
  · have z := key.2.2.2
    clear h hd hok hnd key
    induction es with
    | nil => exact absurd hx List.not_mem_nil
    | cons y es ih =>
      simp only [PyData.hasDictAll, Bool.or_eq_false_iff] at z
      rcases List.mem_cons.mp hx with rfl | hx
      · exact z.1
      · exact ih hx z.2
end Pb

set_option Elab.async false
set_option linter.all false
set_option maxRecDepth 100000
namespace Pb
open PySem PySem.Spec PyProof.Rows L2
/-! ### readings that give data, apart from the addresses S -/
/-- the addresses S are in use -/
def Tr (S : List Addr) (H : Hp) : Prop := ∀ s ∈ S, ∃ o, H s = some o
theorem Tr.same {S : List Addr} {H H' : Hp} (h : Tr S H) (s : Same H H') : Tr S H' := fun x hx => (h x hx).elim fun o e => ⟨o, s _ _ e⟩
theorem Tr.out {S : List Addr} {H : Hp} {p : Addr} (h : Tr S H) (hp : H p = none) : p ∉ S := fun z => by
  obtain ⟨o, e⟩ := h p z
  rw [hp] at e
  cases e
theorem Ck.tr' {S : List Addr} {d b c : Addr} {n : Int} {H : Hp} (h : Ck S d b c n H) : Tr S H := h.tr
def rTupOf (K : PySem.W.Frag) : List V → Hp → VK → Prop := fun xs H Q => ∃ p ys, xs = [.ref p] ∧ ((SqL K H p ys ∧ ∀ l, H l = none → Q (.ref l) (upd H l (.tup ys))) ∨ (SqT K H p ys ∧ Q (.ref p) H))
section
variable (K : PySem.W.Frag) (S : List Addr)
def EvD (te : TE) (σ : L2.St) (H : Hp) (e : PyData) : Prop := ∀ H1, Same H H1 → Tr S H1 → ∀ Q : VK, (∀ v H2, Same H1 H2 → Da K (hs S H2) v e → Q v H2) → te σ H1 Q
def EvDA (ta : TA) (σ : L2.St) (H : Hp) (es : List PyData) : Prop := ∀ H1, Same H H1 → Tr S H1 → ∀ Q : List V → Hp → Prop, (∀ vs H2, Same H1 H2 → DaAll K (hs S H2) vs es → Q vs H2) → ta σ H1 Q
/-- data in, data out -/
def spD (R : List PyData → PyData → Prop) : Sp := fun vs H Q _ => ∃ S ds e, Tr S H ∧ DaAll K (hs S H) vs ds ∧ R ds e ∧ ∀ v H', Same H H' → Da K (hs S H') v e → Q v H'
end
section
variable {K : PySem.W.Frag} {S : List Addr} {σ : L2.St} {H H' : Hp} {te tb : TE} {ta : TA} {v : V} {e : PyData} {es : List PyData}
theorem EvD.mono (h : EvD K S te σ H e) (s : Same H H') : EvD K S te σ H' e := fun H1 s1 tr Q q => h H1 (s.trans s1) tr Q q
theorem evd_ev (h : Evl.Ev te σ H v) (hd : Da K (hs S H) v e) : EvD K S te σ H e := fun H1 s1 _ Q q => h H1 s1 Q fun H2 s2 => q v H2 s2 (hd.mono (hs_mono (Same.trans s1 s2)))
theorem evd_var {i : Nat} (h : σ[i]? = some (some v)) (hd : Da K (hs S H) v e) : EvD K S (tVar i) σ H e := evd_ev (Evl.ev_var h) hd
theorem evd_int {i : Int} : EvD K S (tC (.int i)) σ H (.int i) := evd_ev Evl.ev_c (.int i)
theorem evd_bl {x : Bool} : EvD K S (tC (.bl x)) σ H (.bool x) := evd_ev Evl.ev_c (.bl x)
theorem evd_str {x : Str} : EvD K S (tC (.str x)) σ H (.str x) := evd_ev Evl.ev_c (.str x)
theorem eda_nil : EvDA K S tNil σ H [] := fun H1 _ _ Q q => q [] H1 (Same.refl _) .nil
theorem eda_cons {tr : TA} (h : EvD K S te σ H e) (hr : EvDA K S tr σ H es) : EvDA K S (tCons te tr) σ H (e :: es) := fun H1 s tr1 Q q =>
  h H1 s tr1 _ fun v H2 s2 hv => hr H2 (s.trans s2) (tr1.same s2) _ fun vs H3 s3 hvs => q (v :: vs) H3 (s2.trans s3) (.cons (hv.mono (hs_mono s3)) hvs)
theorem evd_tup (h : EvDA K S ta σ H es) (hl : es.length ≤ 1000) : EvD K S (tTup ta) σ H (.tuple es) := fun H1 s tr Q q =>
  h H1 s tr _ fun vs H2 s2 hvs => ⟨Pb.sz (by rw [DaAll.len hvs]; exact hl), fun p hp => q (.ref p) _ (s2.trans (same_upd hp)) (.tup (SqT.of (hs_at ((tr.same s2).out hp) upd_same)) (hvs.mono (hs_mono (same_upd hp))))⟩
theorem evd_lst (h : EvDA K S ta σ H es) (hl : es.length ≤ 1000) : EvD K S (tLst ta) σ H (.list es) := fun H1 s tr Q q =>
  h H1 s tr _ fun vs H2 s2 hvs => ⟨Pb.sz (by rw [DaAll.len hvs]; exact hl), fun p hp => q (.ref p) _ (s2.trans (same_upd hp)) (.lst (SqL.of (hs_at ((tr.same s2).out hp) upd_same)) (hvs.mono (hs_mono (same_upd hp))))⟩
theorem sqT_of_hs {a : Addr} {xs : List V} (h : SqT K (hs S H) a xs) : SqT K H a xs := Evl.ex_t (hs_sub (S := S)) h
theorem sqL_hs {a : Addr} {xs : List V} (h : SqL K (hs S H) a xs) : SqL K H a xs := Evl.ex_l (hs_sub (S := S)) h
theorem evd_tupof (h : EvD K S te σ H (.list es)) : EvD K S (tCB (rTupOf K) (tCons te tNil)) σ H (.tuple es) := fun H1 s tr Q q =>
  h H1 s tr _ fun v H2 s2 hv => by
    cases hv with
    | @lst a xs _ hs' hd => exact ⟨a, xs, rfl, .inl ⟨sqL_hs hs', fun p hp => q (.ref p) _ (s2.trans (same_upd hp)) (.tup (SqT.of (hs_at ((tr.same s2).out hp) upd_same)) (hd.mono (hs_mono (same_upd hp))))⟩⟩
theorem eu_tupof {xs : List V} (h : Evl.EvL te σ H xs) : Evl.EvU (tCB (rTupOf K) (tCons te tNil)) σ H xs := fun H1 s Q q =>
  h H1 s _ fun p H2 hp s2 h2 => ⟨p, xs, rfl, .inl ⟨SqL.of h2, fun l hl => q l _ (Evl.fresh_back s2 hl) (s2.trans (Evl.Ex.new hl)) upd_same⟩⟩
theorem evd_call {R : List PyData → PyData → Prop} {E : XK} (h : EvDA K S ta σ H es) (hR : R es e) : EvD K S (tCall (spD K R) [] E ta) σ H e := fun H1 s tr Q q =>
  h H1 s tr _ fun vs H2 s2 hvs => by
    show spD K R (vs ++ []) H2 Q E
    rw [List.append_nil]
    exact ⟨S, es, e, tr.same s2, hvs, hR, fun v H3 s3 hv => q v H3 (s2.trans s3) hv⟩
theorem ev_evd_int {i : Int} (tr : Tr S H) (h : EvD K S te σ H (.int i)) : Evl.Ev te σ H (.int i) := fun H1 s Q q => h H1 s (tr.same s) _ fun v H2 s2 hv => by
  cases hv
  exact q H2 s2
theorem ev_evd_bl {b : Bool} (tr : Tr S H) (h : EvD K S te σ H (.bool b)) : Evl.Ev te σ H (.bl b) := fun H1 s Q q => h H1 s (tr.same s) _ fun v H2 s2 hv => by
  cases hv
  exact q H2 s2
/-- statements -/
theorem q_asgD {D : Ends} {tz : TS} {i : Nat} (tr : Tr S H) (h : EvD K S te σ H e) (k : ∀ v H1, Same H H1 → Da K (hs S H1) v e → tz D (σ.set i (some v)) H1) : tSeq (tAsg te (gName i)) tz D σ H := h H (Same.refl _) tr _ k
theorem s_retD {D : Ends} (tr : Tr S H) (h : EvD K S te σ H e) (k : ∀ v H1, Same H H1 → Da K (hs S H1) v e → D.rt v H1) : tRet te D σ H := h H (Same.refl _) tr _ k
end
/-! ### enumerate of a tuple in a comprehension -/
theorem pg_tupK {X : Cx} {K : PySem.W.Frag} {pos : Pos} {es : List Expr} {k : Nat} {t : TGs} {n : Nat} (hK : X.K = K) (hc : X.calm = true) (h : PGs X es t)
    (hn : (assignEach es X.env).length = n := by rfl) (hst : (assignEach es X.env).findIdx? (·.1) = none := by rfl) : PG X (.Tuple es k pos) (gTup K n t) := hK ▸ pg_tup hc h hn hst
theorem op_in_seqK {X : Cx} {K : PySem.W.Frag} (h : X.K = K) : OpR X (compareOp .In) (rIn K false) := h ▸ op_in_seq
theorem walk_enumT {K : PySem.W.Frag} {a : Addr} {xs : List V} : Walk (IteT K a) xs.length (fun H => SqT K H a xs) (YPair (fun i => some (.int (i : Nat))) (fun i => xs[i]?)) :=
  ⟨fun i _ hi q => ⟨xs, xs[i], q, by simp [hi]⟩, fun _ q => ⟨xs, q, Nat.le_refl _⟩, fun i H v H' _ q ⟨T, x, h1, h2, h3, h4⟩ => ⟨T, .int (i : Nat), x, h1, h2, h3, rfl, h4 xs q⟩⟩
section
variable {K : PySem.W.Frag} {σ : L2.St} {H : Hp} {t : TT} {te : TE}
theorem el_lcE {a : Addr} {xs : List V} {ta : TA} {j1 j2 : Nat} {vs : List Nat} (f : Nat → Bool) (v : Nat → V) (h : Evl.EvA ta σ H [.ref a]) (hx : SqT K H a xs) (hz : xs.length ≤ 40000) (hw : ∀ x y, wipe (((wipe σ vs).set j1 (some x)).set j2 (some y)) vs = wipe σ vs)
    (ht : ∀ (i : Nat) (x : V) H1, Evl.Ex H H1 → xs[i]? = some x → Evl.EvT t (((wipe σ vs).set j1 (some (.int (i : Int)))).set j2 (some x)) H1 (f i)) (he : ∀ (i : Nat) (x : V) H1, Evl.Ex H H1 → xs[i]? = some x → f i = true → Evl.Ev te (((wipe σ vs).set j1 (some (.int (i : Int)))).set j2 (some x)) H1 (v i)) :
    Evl.EvL (tLc (iEnumT K ta) (gTup K 2 (gCons (gName j1) (gCons (gName j2) gNil))) t te vs) σ H (Evl.given xs.length f v) := fun H0 e Q q => h H0 e _ fun H1 e1 =>
  ⟨a, xs, rfl, Evl.ex_t (e.trans e1) hx, fun D hD => lc_it (walk_enumT (K := K) (a := a) (xs := xs)) (Evl.Cw H1 f v D) ⟨hD, Evl.Ex.new hD, upd_same⟩ (fun i H' _ p => Evl.ex_t ((e.trans e1).trans p.2.1) hx)
    (fun i x H' H'' hi p ⟨T, x1, x2, ex, hT, eH, e1', e2'⟩ => by
      subst ex eH
      cases e1'
      have sT : Same H' (upd H' T (.tup [.int (i : Nat), x2])) := same_upd hT
      refine ⟨T, _, rfl, SqT.of upd_same, rfl, .int (i : Nat), [x2], rfl, x2, [], rfl, rfl, hw _ _, ?_⟩
      have p' : Evl.Cw H1 f v D i (upd H' T (.tup [.int (i : Nat), x2])) := ⟨p.1, p.2.1.trans sT, sT _ _ p.2.2⟩
      exact Evl.cw_turn p' (by omega) (ht i x2 H1 (e.trans e1) e2') (fun hf => he i x2 H1 (e.trans e1) e2' hf))
    (fun H' p => q D H' (Evl.fresh_back e1 p.1) (e1.trans p.2.1) p.2.2)⟩
end
/-! ### comprehensions whose items are new data -/
theorem hs_cons_sub {D : Addr} {S : List Addr} {H : Hp} : Same (hs (D :: S) H) (hs S H) := fun a o e => by
  obtain ⟨h1, h2⟩ := hs_some e
  rw [hs_out (fun z => h1 (List.mem_cons_of_mem _ z))]
  exact h2
/-- D is new -/
theorem hs_cons_new {D : Addr} {S : List Addr} {H : Hp} {o : HO} (h : H D = none) : Same (hs S H) (hs (D :: S) (upd H D o)) := fun a u e => by
  obtain ⟨h1, h2⟩ := hs_some e
  have ne : a ≠ D := fun z => by
    rw [z, h] at h2
    cases h2
  rw [hs_out (by simp [ne, h1]), upd_ne ne]
  exact h2
section
variable {K : PySem.W.Frag} {S : List Addr} {σ : L2.St} {H : Hp} {te : TE} {ta : TA}
/-- [e for x in range(n)] -/
theorem evd_lcR {j : Nat} {vs : List Nat} {n : Nat} (f : Nat → PyData) (h : Evl.EvA ta σ H [.int (n : Int)]) (hn : n ≤ 900) (hw : ∀ x, wipe ((wipe σ vs).set j (some x)) vs = wipe σ vs)
    (he : ∀ (i : Nat) (D : Addr) H1, i < n → Same (hs S H) (hs (D :: S) H1) → EvD K (D :: S) te ((wipe σ vs).set j (some (.int (i : Int)))) H1 (f i)) :
    EvD K S (tLc (iRng1 ta) (gName j) tYes te vs) σ H (.list ((List.range n).map f)) := fun H0 s0 tr0 Q q => h H0 s0 _ fun H1 s1 =>
  ⟨n, rfl, by omega, by omega, fun D hD => lc_range (lo := 0) (n := ((n : Nat) : Int).toNat)
    (fun i H' => ∃ ds, H' D = some (.lst ds) ∧ DaAll K (hs (D :: S) H') ds ((List.range i).map f) ∧ Same (hs S H1) (hs (D :: S) H') ∧ (∀ a o, a ≠ D → H1 a = some o → H' a = some o))
    ⟨[], upd_same, .nil, hs_cons_new hD, fun a o hne e => by rw [upd_ne hne]; exact e⟩
    (fun i H' hi ⟨ds, e1, e2, e3, e4⟩ => by
      have hi' : i < n := by omega
      have e0 : (0 : Int) + (i : Int) = (i : Int) := Int.zero_add _
      show wipe ((wipe σ vs).set j (some (.int ((0 : Int) + (i : Int))))) vs = wipe σ vs ∧ tYes ((wipe σ vs).set j (some (.int ((0 : Int) + (i : Int))))) H' _
      rw [e0]
      refine ⟨hw _, ?_⟩
      dsimp only [tYes]
      refine iteT ?_
      have tr : Tr (D :: S) H' := fun x hx => by
        by_cases z : x = D
        · rw [z]
          exact ⟨_, e1⟩
        · have hx' : x ∈ S := by
            rcases List.mem_cons.mp hx with y | y
            · exact absurd y z
            · exact y
          obtain ⟨o, eo⟩ := tr0 x hx'
          exact ⟨o, e4 x o z (s1 _ _ eo)⟩
      refine he i D H' hi' (Same.trans (hs_mono (Same.trans s0 s1)) e3) H' (Same.refl _) tr _ fun v H2 s2 hv => ?_
      have el := DaAll.len e2
      simp only [List.length_map, List.length_range] at el
      refine ⟨ds, s2 _ _ e1, small1000 (by omega), ds ++ [v], upd_same, ?_, ?_, ?_⟩
      · rw [hs_put List.mem_cons_self, List.range_succ, List.map_append]
        exact (e2.mono (hs_mono s2)).append (.cons hv .nil)
      · rw [hs_put List.mem_cons_self]
        exact Same.trans e3 (hs_mono s2)
      · intro a o hne e
        rw [upd_ne hne]
        exact s2 _ _ (e4 a o hne e))
    (fun H' ⟨ds, e1, e2, e3, e4⟩ => by
      have s2 : Same H1 H' := fun a o e => e4 a o (fun z => by rw [z, hD] at e; cases e) e
      refine q (.ref D) H' (Same.trans s1 s2) (.lst (SqL.of (hs_at ((tr0.same s1).out hD) e1)) ?_)
      have z := e2.mono hs_cons_sub
      rwa [Int.toNat_natCast] at z)⟩
end
end Pb

set_option Elab.async false
set_option linter.all false
set_option maxRecDepth 100000
namespace Pb
open PySem PySem.Spec PyProof.Rows L2
/-! ### tables -/
/-- the offers that cover j -/
def cov (os : List (List Int)) (j : Int) : List Int := ((List.range os.length).filter fun k => decide (j ∈ os.getD k [])).map fun (k : Nat) => (k : Int)
/-- covering_offers -/
def rCov : List PyData → PyData → Prop := fun ds e => ∃ n os j, ds = [tabD n os, .int j] ∧ 0 ≤ j ∧ j < n ∧ os.length ≤ 100 ∧ e = offD (cov os j)
/-- a table in the heap -/
theorem tab_in {K : PySem.W.Frag} {H : Hp} {v : V} {n : Int} {os : List (List Int)} (h : Da K H v (tabD n os)) : ∃ t a rs, v = .ref t ∧ SqT K H t [.int n, .ref a] ∧ SqT K H a rs ∧ DaAll K H rs (os.map offD) := by
  unfold tabD at h
  cases h with
  | tup h1 h2 =>
    cases h2 with
    | cons h3 h4 =>
      cases h4 with
      | cons h5 h6 =>
        cases h6
        cases h3
        cases h5 with
        | tup h7 h8 => exact ⟨_, _, _, rfl, h1, h7, h8⟩
theorem off_in {K : PySem.W.Frag} {H : Hp} {v : V} {o : List Int} (h : Da K H v (offD o)) : ∃ a, v = .ref a ∧ SqT K H a (o.map V.int) := by
  unfold offD at h
  cases h with
  | @tup a xs _ h1 h2 =>
    have : xs = o.map V.int := by
      clear h1
      induction o generalizing xs with
      | nil =>
        cases h2
        rfl
      | cons i o ih =>
        cases h2 with
        | cons h3 h4 =>
          cases h3
          rw [ih h4]
          rfl
    subst this
    exact ⟨_, rfl, h1⟩
theorem all_flat (o : List Int) : (o.map V.int).all flatV = true := by
  induction o with
  | nil => rfl
  | cons i o ih => exact ih
theorem inV_ints (j : Int) (o : List Int) : inV (.int j) (o.map V.int) = decide (j ∈ o) := by
  induction o with
  | nil => rfl
  | cons i o ih =>
    have e : inV (.int j) ((i :: o).map V.int) = (eqV (.int i) (.int j) || inV (.int j) (o.map V.int)) := rfl
    rw [e, ih]
    have e2 : eqV (.int i) (.int j) = decide (i = j) := rfl
    rw [e2]
    by_cases h : i = j
    · simp [h]
    · have h' : ¬ j = i := fun z => h z.symm
      simp [h, h']
theorem getD_map_off {os : List (List Int)} {i : Nat} {d : PyData} (h : (os.map offD)[i]? = some d) : d = offD (os.getD i []) := by
  rw [List.getElem?_map] at h
  cases e : os[i]? with
  | none =>
    rw [e] at h
    cases h
  | some o =>
    rw [e] at h
    rw [List.getD_eq_getElem?_getD, e]
    exact (Option.some.inj h).symm
theorem da_offA {K : PySem.W.Frag} {H : Hp} {p : Addr} {o : List Int} (h : SqT K H p (o.map V.int)) : Da K H (.ref p) (offD o) := .tup h (DaAll.ints o)
end Pb

set_option Elab.async false
set_option linter.all false
set_option maxRecDepth 100000
namespace Pb
open PySem PySem.Spec PyProof.Rows L2
/-! ### own exception classes that nothing is written in -/
abbrev veT : List Value := [.type "ValueError", .type "Exception", .type "BaseException", .type "object"]
structure Ec0 (K : PySem.W.Frag) (mg : Str → Option Value) (x : Str) (C : Addr) : Prop where
  g : mg x = some (.ref C)
  x : PySem.W.excIn K C veT "ValueError.__new__" = true
  k : PySem.W.keepIn K (.ref C) = true
  b : PySem.W.subIn K (.ref C) (.type "BaseException") = some true
  t : PySem.W.typeIn K (.ref C) = some (.type "type")
theorem pmk_ec0 {X : Cx} {x : Str} {C : Addr} {p pos : Pos} (T : Ec0 X.K X.mg x C) (hg : Gl X x) (hdb : (x == ("__debug__" : Str)) = false := by decide) : PMk X (.Call (.Name x p) [] [] pos) (fun _ H Q => Q (.ref C) none H) :=
  pmk_own0 PySem.F.excBase_ValueError T.x T.g T.k (raises_own T.b T.t) hg hdb
/-- transposed -/
def trn (n : Nat) (os : List (List Int)) : List (List Int) := (List.range n).map fun j => cov os (j : Nat)
/-- transpose: NoOffers (at C) without offers -/
def spTrans (K : PySem.W.Frag) (C : Addr) : Sp := fun vs H Q E => ∃ (S : List Addr) (n : Nat) (os : List (List Int)), Tr S H ∧ DaAll K (hs S H) vs [tabD n os] ∧ n ≤ 100 ∧ os.length ≤ 100 ∧
  (os = [] → ∀ H', Same H H' → E (.ref C) none H') ∧ (os ≠ [] → ∀ v H', Same H H' → Da K (hs S H') v (tabD os.length (trn n os)) → Q v H')
end Pb

set_option Elab.async false
set_option linter.all false
set_option maxRecDepth 100000
namespace Pb
open PySem PySem.Spec PyProof.Rows L2
/-! ### the caught error's class asked for -/
def rIsEG (K : PySem.W.Frag) (a : Addr) (cls : Value) (d : Option Addr) : List V → Hp → VK → Prop := fun xs H Q => ∃ D C b, cls = .ref D ∧ d = none ∧ ExcC K D ∧ xs = [.ref a, .ref C] ∧ PySem.W.kitOne K (.ref D) (.ref C) = some b ∧ Q (.bl b) H
def rIsETG (K : PySem.W.Frag) (a : Addr) (cls : Value) (d : Option Addr) : List V → Hp → VK → Prop := fun xs H Q => ∃ (D tp : Addr) (cs : List V) (us : List Value) (b : Bool), cls = .ref D ∧ d = none ∧ ExcC K D ∧ xs = [.ref a, .ref tp] ∧ H tp = some (.tup cs) ∧ Paired ClsV cs us ∧ PySem.W.kitAny K (.ref D) us = some b ∧ Q (.bl b) H
section
variable {X : Cx} {a : Addr} {oe : Obj} {cls : Value} {d : Option Addr} {pn : List (Addr × Obj)}
theorem call_isEG (hz : Zc cls d oe) (hf : ∃ vs, oe.data = .fields vs) : CallR (X.suite a ((a, oe) :: pn)) (.builtin "isinstance") (rIsEG X.K a cls d) := by
  intro pins s σ H xs us Q I r ⟨D, C, b, e1, e2, xc, ex, e, q⟩
  subst e1 e2
  exact call_isE xc hz hf pins s σ H xs us Q I r ⟨.ref C, .ref C, b, ex, fun u h => h, e, q⟩
theorem call_isETG (hz : Zc cls d oe) (hf : ∃ vs, oe.data = .fields vs) : CallR (X.suite a ((a, oe) :: pn)) (.builtin "isinstance") (rIsETG X.K a cls d) := by
  intro pins s σ H xs us Q I r ⟨D, tp, cs, ws, b, e1, e2, xc, ex, hT, k, e, q⟩
  subst e1 e2
  exact call_isET xc hz hf pins s σ H xs us Q I r ⟨tp, cs, ws, b, ex, hT, k, e, q⟩
end
/-- what _law_told of the transposed tables gives -/
def toldT (n : Nat) (os : List (List Int)) : PyData := if os = [] then .str "none" else tabD os.length (trn n os)
def rTold : List PyData → PyData → Prop := fun ds e => ∃ (n : Nat) (os : List (List Int)), ds = [tabD n os] ∧ n ≤ 100 ∧ os.length ≤ 100 ∧ e = toldT n os
structure EcT (K : PySem.W.Frag) (mg : Str → Option Value) (O C C2 C3 : Addr) : Prop where
  gO : mg "OrderError" = some (.ref O)
  T : Ec0 K mg "NoOffers" C
  xc : ExcC K C
  em : PySem.W.exmOne K (.ref C) (.ref O) = some true
  g2 : mg "NoOffer" = some (.ref C2)
  g3 : mg "NoDemands" = some (.ref C3)
  k1 : PySem.W.kitOne K (.ref C) (.ref C) = some true
  k2 : PySem.W.kitAny K (.ref C) [.ref C2, .ref C3] = some false
/-- a def of the text that may raise -/
structure ClX (P : Program) (w : World) (K : PySem.W.Frag) (mg : Str → Option Value) (base : Heap) (k : Nat) (x : Str) (ps : List Str) (sp : Sp) : Prop where
  ex : ∃ (f : Addr) (fd : FuncData), FnOk P w K mg base (L2.CX P w) k f fd ps sp ∧ mg x = some (.ref f) ∧ PySem.W.keepIn K (.ref f) = true ∧ Binds K fd ps []
section
variable {X : Cx} {j k : Nat} {x : Str} {ps : List Str} {sp : Sp} {e : Expr} {es : List Expr} {t : TA} {p pos : Pos} {W : WX}
theorem pe_kx (c : ClX X.prog X.w X.K X.mg X.base k x ps sp) (hr : Room j X.A) (hk : k ≤ j) (tk : Takes X W) (hg : Gl X x) (ha : PA X (e :: es) t)
    (hdb : (x == ("__debug__" : Str)) = false := by decide) (he : starEach (e :: es) X.env = (false, eval e X.env) :: starEach es X.env := by rfl) (hpl : (backTo pos (starEach es X.env)).any (·.1) = false := by rfl) :
    PE X (.Call (.Name x p) (e :: es) [] pos) (tCallS sp (WE W) t) := by
  obtain ⟨f, fd, F, hm, kp, b⟩ := c.ex
  exact pe_callS F (hr.mono hk) hg hm kp b (fun σ => passAt tk σ) ha hdb he hpl
end
end Pb

set_option Elab.async false
set_option linter.all false
set_option maxRecDepth 100000
namespace Pb
open PySem PySem.Spec PyProof.Rows L2
/-! ### a list that grows in a loop -/
structure Gro (K : PySem.W.Frag) (S : List Addr) (fo : Addr) (H1 : Hp) (es : List PyData) (H' : Hp) : Prop where
  at_fo : ∃ ds, H' fo = some (.lst ds) ∧ DaAll K (hs (fo :: S) H') ds es
  old : ∀ a o, a ≠ fo → H1 a = some o → H' a = some o
  tr : Tr (fo :: S) H'
section
variable {K : PySem.W.Frag} {S : List Addr} {fo : Addr} {H H1 H' : Hp} {es : List PyData} {e : PyData} {te ta : TE} {σ : L2.St} {D : Ends} {i : Nat}
/-- the list just made -/
theorem Gro.new (tr : Tr S H) (hf : H fo = none) : Gro K S fo (upd H fo (.lst [])) [] (upd H fo (.lst [])) := ⟨⟨[], upd_same, .nil⟩, fun _ _ _ e => e, fun x hx => by
  rcases List.mem_cons.mp hx with rfl | hx
  · exact ⟨_, upd_same⟩
  · exact tr.same (same_upd hf) x hx⟩
theorem Gro.more {H2 : Hp} (g : Gro K S fo H1 es H') (s : Same H' H2) : Gro K S fo H1 es H2 := by
  obtain ⟨⟨ds, e1, e2⟩, old, tr⟩ := g
  exact ⟨⟨ds, s _ _ e1, e2.mono (hs_mono s)⟩, fun a o n e => s _ _ (old a o n e), tr.same s⟩
theorem Gro.sm (g : Gro K S fo H1 es H') : Same (hs (fo :: S) H1) (hs (fo :: S) H') := fun a o e => by
  obtain ⟨h1, h2⟩ := hs_some e
  exact hs_at h1 (g.old a o (fun z => h1 (by simp [z])) h2)
theorem s_appD (hi : σ[i]? = some (some (.ref fo))) (g : Gro K S fo H1 es H') (hl : es.length < 900) (h : EvD K (fo :: S) te σ H' e) (k : ∀ H2, Gro K S fo H1 (es ++ [e]) H2 → D.nx σ H2) : tDrop (tBM K "list" rAppend (tVar i) (tCons te tNil)) D σ H' := by
  obtain ⟨⟨ds, e1, e2⟩, old, tr⟩ := g
  refine s_appP (i := i) (fun v H2 => Same H' H2 ∧ Da K (hs (fo :: S) H2) v e) hi e1 (fun Q' q' => h H' (Same.refl _) tr _ fun v H2 s2 hv => q' v H2 ⟨s2, hv⟩) ?_
  rintro v H2 ⟨s2, hv⟩
  have ll := DaAll.len e2
  refine ⟨ds, s2 _ _ e1, small1000 (by omega), k _ ⟨⟨ds ++ [v], upd_same, ?_⟩, fun a o n e => ?_, fun x hx => ?_⟩⟩
  · rw [hs_put List.mem_cons_self]
    exact (e2.mono (hs_mono s2)).append (.cons hv .nil)
  · rw [upd_ne n]
    exact s2 _ _ (old a o n e)
  · by_cases z : x = fo
    · rw [z]
      exact ⟨_, upd_same⟩
    · rw [upd_ne z]
      exact tr.same s2 x hx
/-- it is data, at last -/
theorem Gro.da (g : Gro K S fo H1 es H') (hf : fo ∉ S) : Da K (hs S H') (.ref fo) (.list es) := by
  obtain ⟨⟨ds, e1, e2⟩, old, tr⟩ := g
  exact .lst (SqL.of (hs_at hf e1)) (e2.mono hs_cons_sub)
theorem Gro.trS (g : Gro K S fo H1 es H') : Tr S H' := fun x hx => g.tr x (List.mem_cons_of_mem _ hx)
/-- all that stood before the list was made still stands -/
theorem Gro.same (g : Gro K S fo (upd H fo (.lst [])) es H') (hf : H fo = none) : Same H H' := fun a o e => by
  have ne : a ≠ fo := fun z => by
    rw [z, hf] at e
    cases e
  exact g.old a o ne (by rw [upd_ne ne]; exact e)
theorem ev_eq0T {a : Addr} {xs : List V} (ha : Evl.Ev ta σ H (.ref a)) (hx : SqT K H a xs) : Evl.Ev (tOp (rEq0T K) ta (tTup tNil)) σ H (.bl xs.isEmpty) :=
  Evl.ev_opU ha (Evl.eu_tup Evl.ea_nil (by simp)) fun p H1 h1 e1 H2 e _ k => ⟨a, p, xs, rfl, rfl, Evl.ex_t (e1.trans e) hx, SqT.of (e _ _ h1), k H2 (Evl.Ex.refl _)⟩
end
end Pb

set_option Elab.async false
set_option linter.all false
set_option maxRecDepth 100000
namespace Pb
open PySem PySem.Spec PyProof.Rows L2
/-! ### transposed twice -/
theorem mem_cov {os : List (List Int)} {j x : Int} : x ∈ cov os j ↔ ∃ k : Nat, k < os.length ∧ x = (k : Int) ∧ j ∈ os.getD k [] := by
  unfold cov
  simp only [List.mem_map, List.mem_filter, List.mem_range, decide_eq_true_eq]
  constructor
  · rintro ⟨k, ⟨h1, h2⟩, rfl⟩
    exact ⟨k, h1, rfl, h2⟩
  · rintro ⟨k, h1, rfl, h2⟩
    exact ⟨k, ⟨h1, h2⟩, rfl⟩
theorem cov_asc (os : List (List Int)) (j : Int) : (cov os j).Pairwise (· < ·) := by
  unfold cov
  rw [List.pairwise_map]
  exact (List.Pairwise.filter _ List.pairwise_lt_range).imp fun h => by omega
theorem cov_ok (os : List (List Int)) (j : Int) : OffOk os.length (cov os j) := ⟨fun x hx => by
  obtain ⟨k, h1, rfl, _⟩ := mem_cov.mp hx
  omega, cov_asc os j⟩
theorem trn_ok {n : Nat} {os : List (List Int)} : ∀ o ∈ trn n os, OffOk os.length o := fun o ho => by
  unfold trn at ho
  obtain ⟨j, _, rfl⟩ := List.mem_map.mp ho
  exact cov_ok os _
theorem trn_len {n : Nat} {os : List (List Int)} : (trn n os).length = n := by
  unfold trn
  simp
theorem trn_get {n k : Nat} {os : List (List Int)} (h : k < n) : (trn n os).getD k [] = cov os (k : Nat) := by
  unfold trn
  rw [List.getD_eq_getElem?_getD, List.getElem?_map, List.getElem?_range h]
  rfl
theorem trn_trn {m : Nat} {os : List (List Int)} (h : ∀ o ∈ os, OffOk m o) : trn os.length (trn m os) = os := by
  refine List.ext_getElem (by rw [trn_len]) fun i h1 h2 => ?_
  have e1 : (trn os.length (trn m os))[i] = cov (trn m os) (i : Nat) := by
    have z := trn_get (os := trn m os) h2
    rw [List.getD_eq_getElem?_getD, List.getElem?_eq_getElem h1] at z
    exact z
  rw [e1]
  have ok := h _ (List.getElem_mem h2)
  refine strict_eq (cov_asc _ _) ok.2 fun x => ?_
  rw [mem_cov, trn_len]
  have eg : os.getD i [] = os[i] := by
    rw [List.getD_eq_getElem?_getD, List.getElem?_eq_getElem h2]
    rfl
  constructor
  · rintro ⟨k, hk, rfl, hm⟩
    rw [trn_get hk] at hm
    obtain ⟨k2, _, e2, h3⟩ := mem_cov.mp hm
    obtain rfl : i = k2 := by omega
    rw [eg] at h3
    exact h3
  · intro hx
    obtain ⟨b1, b2⟩ := ok.1 x hx
    refine ⟨x.toNat, by omega, by omega, ?_⟩
    rw [trn_get (by omega)]
    refine mem_cov.mpr ⟨i, h2, rfl, ?_⟩
    rw [eg]
    have : ((x.toNat : Nat) : Int) = x := by omega
    rw [this]
    exact hx
/-! ### a text or a tuple against a text -/
def rNeS (K : PySem.W.Frag) : R2 := fun x y H Q => ∃ t, y = .str t ∧ ((∃ a xs, x = .ref a ∧ SqT K H a xs ∧ Q (.bl true) H) ∨ ∃ u, x = .str u ∧ Q (.bl (!decide (V.str u = V.str t))) H)
theorem op_neS {X : Cx} (hu : X.A.units + 64 < cLine) : OpR X (compareOp .NotEq) (rNeS X.K) := by
  intro pins s σ H x y v u Q I rx ry ⟨t, ey, h⟩
  rcases h with ⟨a, xs, ex, hs, q⟩ | ⟨z, ex, q⟩
  · subst ex ey
    obtain ⟨tk, rfl⟩ := ry
    cases rx
    obtain ⟨its, rv, hl, _⟩ := I.tuple hs
    exact SeqAt.RcNeAt.tuple_str t tk hl (by omega) _ _ _ _ ⟨.bl _, H, I, rfl, q⟩
  · subst ex ey
    exact op_ne pins s σ H _ _ v u Q I rx ry ⟨rfl, q⟩
def isTxt (t : Str) : PyData → Bool
  | .str u => decide (V.str u = V.str t)
  | _ => false
section
variable {K : PySem.W.Frag} {S : List Addr} {σ : L2.St} {H : Hp} {te : TE} {ta : TA} {e : PyData} {v : V} {δ : Nat}
theorem ev_neS {t : Str} (h : Evl.Ev te σ H v) (hd : Da K (hs S H) v e) (ht : (∃ es, e = .tuple es) ∨ ∃ u, e = .str u) : Evl.Ev (tOp (rNeS K) te (tC (.str t))) σ H (.bl (!isTxt t e)) := fun H1 s Q q =>
  h H1 s _ fun H2 s2 => by
    rcases ht with ⟨es, rfl⟩ | ⟨u, rfl⟩
    · have hd2 := hd.mono (hs_mono (S := S) (Same.trans s s2))
      cases hd2 with
      | tup h1 h2 => exact ⟨t, rfl, .inl ⟨_, _, rfl, sqT_of_hs h1, q H2 s2⟩⟩
    · cases hd
      exact ⟨t, rfl, .inr ⟨u, rfl, q H2 s2⟩⟩
theorem ev_same {E : XK} (tr : Tr S H) (h : EvDA K S ta σ H [e, e]) (hd : e.depth < δ) (ok : okD e = true) (nd : e.hasDict = false) : Evl.Ev (tCall (spV (rSame K δ)) [] E ta) σ H (.bl true) := fun H1 s Q q =>
  h H1 s (tr.same s) _ fun vs H2 s2 hvs => by
    show spV (rSame K δ) (vs ++ []) H2 Q E
    rw [List.append_nil]
    cases hvs with
    | cons h1 h2 =>
      cases h2 with
      | cons h3 h4 =>
        cases h4
        exact ⟨.bl true, ⟨_, _, e, rfl, h1.mono hs_sub, h3.mono hs_sub, hd, ok, nd, rfl⟩, fun H3 e3 => q H3 (Same.trans s2 e3)⟩
theorem ev_reprV {i : Nat} (hσ : σ[i]? = some (some v)) (hd : Da K (hs S H) v e) (g : Gd e) : Evl.Ev (tCB (rReprD K) (tCons (tVar i) tNil)) σ H (.str e.shown) := fun H1 s Q q =>
  ⟨v, hσ, v, e, rfl, (hd.mono hs_sub).mono s, g.ok, g.w, by have := g.dp; omega, g.nd, q H1 (Evl.Ex.refl _)⟩
end
/-- a table's data is good -/
theorem gd_tab {m : Nat} {os : List (List Int)} (hm : m ≤ 10) (hl : os.length ≤ 10) (h : ∀ o ∈ os, OffOk m o) : Gd (tabD m os) ∧ (tabD m os).depth ≤ 3 ∧ (tabD m os).hasDict = false := by
  obtain ⟨o1, o2, o3⟩ := osD hm hl h
  have gos : GdL (os.map offD) := gdl_pl o1 (by simp; omega) (by omega) (by omega)
  have p := pl_tab hm hl h
  refine ⟨(gd_three gos (by omega)).1, ?_, (pl_ok _ p.1).2.1⟩
  simp only [tabD, PyData.depth, PyData.depthAll]
  omega
end Pb

set_option Elab.async false
set_option linter.all false
set_option maxRecDepth 100000
namespace Pb
open PySem PySem.Spec PyProof.Rows L2
/-! ### the facts of a law's classes -/
section
variable {K : PySem.W.Frag} {C D O : Addr} {b : Bool}
theorem kit_ref (ne : (Value.ref C == Value.ref D) = false) (i : PySem.W.isClsIn K D = true) (t : PySem.W.typeIn K (.ref D) = some (.type "type")) (s : PySem.W.subIn K (.ref C) (.ref D) = some b) : PySem.W.kitOne K (.ref C) (.ref D) = some b := by
  have i' : (PySem.W.clsIn K D).isSome = true := i
  have e2 : ((PySem.W.clsIn K D).isSome && PySem.W.typeIn K (.ref D) == some (.type "type")) = true := by rw [i', t] <;> rfl
  show (if (Value.ref C == Value.ref D) = true then some true else PySem.W.kitCls K (.ref C) (.ref D)) = some b
  rw [if_neg (by rw [ne]; decide)]
  show (if ((PySem.W.clsIn K D).isSome && PySem.W.typeIn K (.ref D) == some (.type "type")) = true then PySem.W.subIn K (.ref C) (.ref D) else none) = some b
  rw [if_pos e2]
  exact s
theorem kit_self : PySem.W.kitOne K (.ref C) (.ref C) = some true := by
  show (if (Value.ref C == Value.ref C) = true then some true else PySem.W.kitCls K (.ref C) (.ref C)) = some true
  rw [if_pos (by simp)]
theorem kit_two {D2 : Addr} (h1 : PySem.W.kitOne K (.ref C) (.ref D) = some false) (h2 : PySem.W.kitOne K (.ref C) (.ref D2) = some false) : PySem.W.kitAny K (.ref C) [.ref D, .ref D2] = some false :=
  kitAny_cons h1 (fun _ => kitAny_cons h2 (fun _ => kitAny_nil) (fun z => by cases z)) (fun z => by cases z)
end
theorem clx_mk {P : Program} {w : World} {K : PySem.W.Frag} {mg : Str → Option Value} {base : Heap} {x : Str} {st : Stmt} {f : Addr} {fd : FuncData} {ps : List Str} {sp : Sp} {k : Nat} (F : Fun K x x st f fd) (g : mg x = some (.ref f)) (b : Binds K fd ps []) (ok : FnOk P w K mg base (L2.CX P w) k f fd ps sp) : ClX P w K mg base k x ps sp := ⟨f, fd, ok, g, F.kp, b⟩
end Pb

set_option Elab.async false
set_option linter.all false
set_option maxRecDepth 100000
namespace L02
open PySem PySem.Spec PyProof.Rows L2 Pb
def topS (i : Nat) : Stmt := PySem.Challenge.pw_payorder_k02_tables_or_not.main.body.getD i (.Pass ⟨0, 0, 0, 0⟩)
section
variable {P : Program} {w : World} {K : PySem.W.Frag} {mg : Str → Option Value} {base : Heap}
abbrev sInteger : Stmt := topS 3
theorem scInteger : FnScope ["value"] ["value"] (defScope sInteger) := ⟨rfl, rfl, rfl, by decide +kernel, rfl, by decide +kernel, by decide +kernel⟩
theorem ok_integer {f : Addr} {fd : FuncData} (F : Fun K "is_integer" "is_integer" sInteger f fd) (B : Bn mg) : FnOk P w K mg base CX0 1 f fd ["value"] (spV (rInteger K)) := by
  refine F.ok scInteger (fun vs H Q E h => ?_) (fun cdv A outer s H vs Q E hr h => ?_)
  · obtain ⟨z, ⟨x, d, rfl, _⟩, _⟩ := h
    rfl
  · obtain ⟨z, ⟨x, d, rfl, hx, rfl⟩, q⟩ := h
    refine ⟨_, (pss_one (ps_ret (pe_and (pe_callB call_isi rfl B.isinstance bt_isinstance (pa_cons (pv 0) (pa_cons (pe_ty rfl B.int bt_int) pa_nil))) (pe_one (pe_not (pe_callB call_isi rfl B.isinstance bt_isinstance (pa_cons (pv 0) (pa_cons (pe_ty rfl B.bool bt_bool) pa_nil)))))))), ?_⟩
    exact Evl.s_ret (Evl.ev_andV (ev_isi (Evl.ev_var rfl) hx) fun _ => Evl.ev_notV (ev_isi (Evl.ev_var rfl) hx)) q
abbrev sNumBelow : Stmt := topS 4
theorem scNumBelow : FnScope ["value", "count"] ["value", "count"] (defScope sNumBelow) := ⟨rfl, rfl, rfl, by decide +kernel, rfl, by decide +kernel, by decide +kernel⟩
theorem ok_numBelow {f : Addr} {fd : FuncData} (F : Fun K "is_number_below" "is_number_below" sNumBelow f fd) (B : Bn mg) (c_is_integer : Cl P w K mg base 1 "is_integer" ["value"] (spV (rInteger K))) :
    FnOk P w K mg base CX0 2 f fd ["value", "count"] (spV (rNumBelow K)) := by
  refine F.ok scNumBelow (fun vs H Q E h => ?_) (fun cdv A outer s H vs Q E hr h => ?_)
  · obtain ⟨z, ⟨x, d, c, rfl, _⟩, _⟩ := h
    rfl
  · obtain ⟨z, ⟨x, d, c, rfl, hx, rfl⟩, q⟩ := h
    refine ⟨_, (pss_one (ps_ret (pe_and (pe_k c_is_integer hr (by decide) rfl (pa_cons (pv 0) pa_nil)) (pe_one (pe_chain op_le op_lt pe_int (pv 0) (pv 1)))))), ?_⟩
    have h1 : Evl.Ev (tCall (spV (rInteger K)) [] E0 (tCons (tVar 0) tNil)) (start ["value", "count"] [x, .int c]) H (.bl (isInt d)) :=
      Evl.ev_call (Evl.ea_cons (Evl.ev_var rfl) Evl.ea_nil) (spV_of fun H1 e => ⟨x, d, rfl, hx.mono e, rfl⟩)
    cases hd : isInt d with
    | false =>
      rw [hd] at h1
      have e : numBelow d c = false := by
        cases d <;> first | rfl | (rw [isInt_iff.mpr ⟨_, rfl⟩] at hd; cases hd)
      rw [e] at q
      exact Evl.s_ret (Evl.ev_andV (b := true) h1 fun z => by cases z) q
    | true =>
      obtain ⟨i, rfl⟩ := isInt_iff.mp hd
      cases hx
      rw [hd] at h1
      exact Evl.s_ret (Evl.ev_andV h1 fun _ => ev_chain Evl.ev_c (Evl.ev_var rfl) rv_le (fun _ => Evl.ev_var rfl) fun _ => rv_lt) q
abbrev sTupOf : Stmt := topS 5
theorem scTupOf : FnScope ["value", "length"] ["value", "length"] (defScope sTupOf) := ⟨rfl, rfl, rfl, by decide +kernel, rfl, by decide +kernel, by decide +kernel⟩
theorem ok_tupOf {f : Addr} {fd : FuncData} (F : Fun K "is_tuple_of" "is_tuple_of" sTupOf f fd) (B : Bn mg) : FnOk P w K mg base CX0 1 f fd ["value", "length"] (spV (rTupN K)) := by
  refine F.ok scTupOf (fun vs H Q E h => ?_) (fun cdv A outer s H vs Q E hr h => ?_)
  · obtain ⟨z, ⟨x, d, c, rfl, _⟩, _⟩ := h
    rfl
  · obtain ⟨z, ⟨x, d, c, rfl, hx, rfl⟩, q⟩ := h
    refine ⟨_, (pss_one (ps_ret (pe_and (pe_callB call_isi rfl B.isinstance bt_isinstance (pa_cons (pv 0) (pa_cons (pe_ty rfl B.tuple bt_tuple) pa_nil))) (pe_one (pe_cmpR op_eq (pe_callB call_len_seq rfl B.len bt_len (pa_cons (pv 0) pa_nil)) (pv 1) (nomark _)))))), ?_⟩
    have hisi := ev_isi (K := K) (T := "tuple") (ta := tVar 0) (σ := start ["value", "length"] [x, .int c]) (Evl.ev_var rfl) hx
    cases hT : isI "tuple" d with
    | false =>
      rw [hT] at hisi
      have e : isTupOf d c = false := by
        cases d <;> first | rfl | (simp [isI, isN, tyN] at hT)
      rw [e] at q
      exact Evl.s_ret (Evl.ev_andV (b := true) hisi fun z => by cases z) q
    | true =>
      rw [hT] at hisi
      obtain ⟨ds, rfl⟩ := isI_tuple hT
      cases hx with
      | @tup a xs _ hs ha =>
        have hlen := DaAll.len ha
        refine Evl.s_ret (Evl.ev_andV hisi fun _ => Evl.ev_op (ev_len' (K := K) (xs := xs) (Evl.ev_var rfl) (.inr hs)) (Evl.ev_var rfl) (Evl.rv_eq rfl)) (fun H1 e1 => ?_)
        have fin := q H1 e1
        rw [hlen]
        simpa [isTupOf] using fin
abbrev sAsc : Stmt := topS 6
theorem scAsc : FnScope ["value", "count", "last", "number"] ["value", "count"] (defScope sAsc) := ⟨rfl, rfl, rfl, by decide +kernel, rfl, by decide +kernel, by decide +kernel⟩
set_option maxHeartbeats 1000000 in
theorem ok_asc {f : Addr} {fd : FuncData} (F : Fun K "is_ascending_below" "is_ascending_below" sAsc f fd) (B : Bn mg) (c_is_number_below : Cl P w K mg base 2 "is_number_below" ["value", "count"] (spV (rNumBelow K))) :
    FnOk P w K mg base CX0 3 f fd ["value", "count"] (spV (rAsc K)) := by
  refine F.ok scAsc (fun vs H Q E h => ?_) (fun cdv A outer s H vs Q E hr h => ?_)
  · obtain ⟨z, ⟨x, d, c, rfl, _⟩, _⟩ := h
    rfl
  · obtain ⟨z, ⟨x, d, c, rfl, hx, hok, rfl⟩, q⟩ := h
    have nd := scAsc.nd
    refine ⟨_, (pss_cons (ps_if (pt_not (pt_val (pe_callB call_isi rfl B.isinstance bt_isinstance (pa_cons (pv 0) (pa_cons (pe_ty rfl B.tuple bt_tuple) pa_nil))))) (pss_one (ps_ret pe_bl)) pss_nil)
      (pss_cons (ps_set (i := 2) nd rfl (Or.inl rfl) (pe_un un_neg pe_int))
      (pss_cons (ps_for PassesOwn.never rfl (pi_tup (pv 0)) (pg_name (i := 3) nd rfl (Or.inl rfl)) (pss_cons (ps_if (PW.pt (pw_or (pt_not (pt_val (pe_k c_is_number_below hr (by decide) rfl (pa_cons (pv 3) (pa_cons (pv 1) pa_nil))))) (pw_or1 (pt_cmpR op_le (pv 3) (pv 2) (nomark _))))) (pss_one (ps_ret pe_bl)) pss_nil)
      (pss_one (ps_set (i := 2) nd rfl (Or.inl rfl) (pv 3)))))
      (pss_one (ps_ret pe_bl))))), ?_⟩
    refine Evl.q_when (Evl.et_not (Evl.et_B (ev_isi (Evl.ev_var rfl) hx))) (fun hb H1 e1 => ?_) (fun hb H1 e1 => ?_)
    · have e : asc d c = false := by
        cases d <;> first | rfl | (simp [isI, isN, tyN] at hb)
      rw [e] at q
      exact q H1 e1
    · obtain ⟨ds, rfl⟩ : ∃ ds, d = .tuple ds := by
        cases d <;> first | exact ⟨_, rfl⟩ | (simp [isI, isN, tyN] at hb)
      cases hx with
      | @tup a xs _ hs ha =>
        refine Evl.q_asg (v := .int (-1)) (fun H2 _ Q' k => ⟨1, rfl, k H2 (Evl.Ex.refl _)⟩) (fun H2 e2 => ?_)
        have e02 : Evl.Ex H H2 := e1.trans e2
        refine Evl.q_forT (K := K) (a := a) (xs := xs) (Evl.ev_var rfl) (Evl.ex_t e02 hs) (fun i σ' H' => ∃ l y, σ' = [some (.ref a), some (.int c), some (.int l), y] ∧ Evl.Ex H H' ∧ ascFrom (-1) c ds = ascFrom l c (ds.drop i))
          (fun H3 e3 => ⟨-1, none, rfl, e02.trans e3, rfl⟩) (fun i σ' H' _ ⟨_, _, _, e, _⟩ => Evl.ex_t e hs) ?_ ?_
        · rintro i x σ' H' hi ⟨l, y, rfl, e3, eq⟩
          obtain ⟨d, hd, hxd⟩ := DaAll.get ha hi
          have hxd' := hxd.mono (show Same H H' from e3)
          have edrop : ds.drop i = d :: ds.drop (i + 1) := by
            obtain ⟨hlt, hge⟩ := List.getElem?_eq_some_iff.mp hd
            rw [List.drop_eq_getElem_cons hlt, hge]
          rw [edrop] at eq
          have h1 : Evl.Ev (tCall (spV (rNumBelow K)) [] E0 (tCons (tVar 3) (tCons (tVar 1) tNil))) [some (.ref a), some (.int c), some (.int l), some x] H' (.bl (numBelow d c)) :=
            Evl.ev_call (Evl.ea_cons (Evl.ev_var rfl) (Evl.ea_cons (Evl.ev_var rfl) Evl.ea_nil)) (spV_of fun H1 e => ⟨x, d, c, rfl, hxd'.mono e, rfl⟩)
          cases hnb : numBelow d c with
          | false =>
            rw [hnb] at h1
            have e : asc (.tuple ds) c = false := by
              show ascFrom (-1) c ds = false
              rw [eq]
              cases d <;> first | rfl | (simp only [numBelow] at hnb; simp only [ascFrom, hnb, Bool.false_and])
            rw [e] at q
            refine Evl.q_when (b := true) (Evl.et_is (Evl.et_or (b := true) (Evl.et_not (Evl.et_B h1)) fun z => by cases z) rfl) (fun _ H4 e4 => q H4 (e3.trans e4)) (fun z => by cases z)
          | true =>
            rw [hnb] at h1
            obtain ⟨j, rfl⟩ : ∃ j, d = .int j := by
              cases d <;> first | exact ⟨_, rfl⟩ | cases hnb
            cases hxd
            refine Evl.q_when (Evl.et_or (Evl.et_not (Evl.et_B h1)) fun _ => Evl.et_test (Evl.ev_op (Evl.ev_var rfl) (Evl.ev_var rfl) rv_le)) (fun hb H4 e4 => ?_) (fun hb H4 e4 => ?_)
            · have e : asc (.tuple ds) c = false := by
                show ascFrom (-1) c ds = false
                rw [eq]
                simp only [Bool.not_true, Bool.false_or, decide_eq_true_eq] at hb
                have : decide (l < j) = false := decide_eq_false (by omega)
                simp only [ascFrom, this, Bool.and_false, Bool.false_and]
              rw [e] at q
              exact q H4 (e3.trans e4)
            · refine Evl.s_asg (Evl.ev_var rfl) fun H5 e5 => ⟨j, some (.int j), rfl, (e3.trans e4).trans e5, ?_⟩
              rw [eq]
              simp only [Bool.not_true, Bool.false_or, decide_eq_false_iff_not] at hb
              have h2 : decide (l < j) = true := decide_eq_true (by omega)
              simp only [numBelow] at hnb
              simp only [ascFrom, hnb, h2, Bool.true_and]
        · rintro σ' H' ⟨l, y, rfl, e3, eq⟩
          have e : asc (.tuple ds) c = true := by
            show ascFrom (-1) c ds = true
            rw [eq, List.drop_of_length_le (Nat.le_of_eq (DaAll.len ha).symm)]
            rfl
          rw [e] at q
          exact q H' e3
abbrev sTable : Stmt := topS 8
theorem scTable : FnScope ["value", "demands", "offers", "offer"] ["value"] (defScope sTable) := ⟨rfl, rfl, rfl, by decide +kernel, rfl, by decide +kernel, by decide +kernel⟩
set_option maxHeartbeats 1000000 in
theorem ok_table {f : Addr} {fd : FuncData} (F : Fun K "is_table" "is_table" sTable f fd) (B : Bn mg) (g_MAX_DEMANDS : ∃ t, mg "MAX_DEMANDS" = some (.int 10 t)) (g_MAX_OFFERS : ∃ t, mg "MAX_OFFERS" = some (.int 10 t))
    (c_is_tuple_of : Cl P w K mg base 1 "is_tuple_of" ["value", "length"] (spV (rTupN K))) (c_is_integer : Cl P w K mg base 1 "is_integer" ["value"] (spV (rInteger K))) (c_is_ascending_below : Cl P w K mg base 3 "is_ascending_below" ["value", "count"] (spV (rAsc K))) :
    FnOk P w K mg base CX0 4 f fd ["value"] (spV (rTab K)) := by
  refine F.ok scTable (fun vs H Q E h => ?_) (fun cdv A outer s H vs Q E hr h => ?_)
  · obtain ⟨z, ⟨x, d, rfl, _⟩, _⟩ := h
    rfl
  · obtain ⟨z, ⟨x, d, rfl, hx, hok, rfl⟩, q⟩ := h
    have nd := scTable.nd
    refine ⟨_, (pss_cons (ps_if (pt_not (pt_val (pe_k c_is_tuple_of hr (by decide) rfl (pa_cons (pv 0) (pa_cons pe_int pa_nil))))) (pss_one (ps_ret pe_bl)) pss_nil)
      (pss_cons (ps_asg (pv 0) (pg_tup rfl (pgs_cons (pg_name (i := 1) nd rfl (Or.inr rfl)) (pgs_cons (pg_name (i := 2) nd rfl (Or.inl rfl)) pgs_nil))))
      (pss_cons (ps_if (PW.pt (pw_or (pt_not (pt_val (pe_k c_is_integer hr (by decide) rfl (pa_cons (pv 1) pa_nil)))) (pw_or1 (pt_not (pt_chain op_le op_le pe_int (pv 1) (pe_gc2 rfl g_MAX_DEMANDS)))))) (pss_one (ps_ret pe_bl)) pss_nil)
      (pss_cons (ps_if (PW.pt (pw_or (pt_not (pt_val (pe_callB call_isi rfl B.isinstance bt_isinstance (pa_cons (pv 2) (pa_cons (pe_ty rfl B.tuple bt_tuple) pa_nil))))) (pw_or1 (pt_cmpR op_gt (pe_callB call_len_seq rfl B.len bt_len (pa_cons (pv 2) pa_nil)) (pe_gc2 rfl g_MAX_OFFERS) (nomark _))))) (pss_one (ps_ret pe_bl)) pss_nil)
      (pss_one (ps_ret (pe_callB (cr_all rfl) rfl B.all bt_all (pa_cons (pe_lc (own := [("offer", 3)]) (g := gName 3) rfl nd (pi_tup (pv 2)) (blkOk_by (own := [("offer", 3)]) (N := ["value", "demands", "offers", "offer"]) (sc := defScope sTable) (by decide +kernel)) (fun _ _ _ _ _ => (pg_name (i := 3) nd rfl (Or.inl rfl))) (fun _ _ _ _ _ => pts_nil) (fun _ _ _ _ _ => (pe_k c_is_ascending_below hr (by decide) rfl (pa_cons (pv 3) (pa_cons (pv 1) pa_nil))))) pa_nil)))))))), ?_⟩
    have htup : Evl.Ev (tCall (spV (rTupN K)) [] E0 (tCons (tVar 0) (tCons (tC (.int 2)) tNil))) (start ["value", "demands", "offers", "offer"] [x]) H (.bl (isTupOf d 2)) :=
      Evl.ev_call (Evl.ea_cons (Evl.ev_var rfl) (Evl.ea_cons Evl.ev_c Evl.ea_nil)) (spV_of fun H2 e => ⟨x, d, 2, rfl, hx.mono e, rfl⟩)
    refine Evl.q_when (Evl.et_not (Evl.et_B htup)) (fun hb H1 e1 => ?_) (fun hb H1 e1 => ?_)
    · rw [isTab_not (by simpa using hb)] at q
      exact q H1 e1
    · obtain ⟨d1, d2, rfl⟩ := isTupOf_two (d := d) (by simpa using hb)
      cases hx with
      | @tup a xs _ hs ha =>
        skip
        · skip
          cases ha with
          | @cons v1 _ _ _ h1 ha =>
            cases ha with
            | @cons v2 _ _ _ h2 ha =>
              cases ha
              refine ⟨.ref a, rfl, a, [v1, v2], rfl, Evl.ex_t e1 hs, rfl, v1, [v2], rfl, v2, [], rfl, rfl, ?_⟩
              have h1' := h1.mono (show Same H H1 from e1)
              have hint : Evl.Ev (tCall (spV (rInteger K)) [] E0 (tCons (tVar 1) tNil)) [some (.ref a), some v1, some v2, none] H1 (.bl (isInt d1)) :=
                Evl.ev_call (Evl.ea_cons (Evl.ev_var rfl) Evl.ea_nil) (spV_of fun H2 e => ⟨v1, d1, rfl, h1'.mono e, rfl⟩)
              cases hi : isInt d1 with
              | false =>
                rw [hi] at hint
                rw [isTab_int hi] at q
                exact Evl.q_when (b := true) (Evl.et_is (Evl.et_or (b := true) (Evl.et_not (Evl.et_B hint)) fun z => by cases z) rfl) (fun _ H2 e2 => q H2 (e1.trans e2)) (fun z => by cases z)
              | true =>
                rw [hi] at hint
                obtain ⟨n, rfl⟩ := isInt_iff.mp hi
                cases h1
                refine Evl.q_when (Evl.et_or (Evl.et_not (Evl.et_B hint)) fun _ => Evl.et_not (Evl.et_test (ev_chain Evl.ev_c (Evl.ev_var rfl) rv_le (fun _ => Evl.ev_c) fun _ => rv_le))) (fun hbn H2 e2 => ?_) (fun hbn H2 e2 => ?_)
                · have e : isTab (.tuple [.int n, d2]) = false := by
                    simp only [Bool.not_true, Bool.false_or, Bool.not_eq_true'] at hbn
                    cases d2 <;> simp only [isTab, tab2, hbn, Bool.false_and]
                  rw [e] at q
                  exact q H2 (e1.trans e2)
                · simp only [Bool.not_true, Bool.false_or, Bool.not_eq_false'] at hbn
                  have hisi2 := ev_isi (K := K) (ta := tVar 2) (σ := [some (.ref a), some (.int n), some v2, none]) (T := "tuple") (H := H2) (Evl.ev_var rfl) (h2.mono (show Same H H2 from e1.trans e2))
                  cases hT2 : isI "tuple" d2 with
                  | false =>
                    rw [hT2] at hisi2
                    rw [isTab_tt hT2] at q
                    exact Evl.q_when (b := true) (Evl.et_is (Evl.et_or (b := true) (Evl.et_not (Evl.et_B hisi2)) fun z => by cases z) rfl) (fun _ H3 e3 => q H3 ((e1.trans e2).trans e3)) (fun z => by cases z)
                  | true =>
                    rw [hT2] at hisi2
                    obtain ⟨os, rfl⟩ := isI_tuple hT2
                    cases h2 with
                    | @tup b ys _ hs2 ha2 =>
                      have hlen2 := DaAll.len ha2
                      have hs3 := Evl.ex_t (e1.trans e2) hs2
                      refine Evl.q_when (Evl.et_or (Evl.et_not (Evl.et_B hisi2)) fun _ => Evl.et_test (Evl.ev_op (ev_len' (K := K) (xs := ys) (Evl.ev_var rfl) (.inr hs3)) Evl.ev_c Evl.rv_I0)) (fun hc H3 e3 => ?_) (fun hc H3 e3 => ?_)
                      · have e : isTab (.tuple [.int n, .tuple os]) = false := by
                          simp only [Bool.not_true, Bool.false_or, decide_eq_true_eq] at hc
                          have : decide (os.length ≤ 10) = false := decide_eq_false (by omega)
                          simp only [isTab, tab2, this, Bool.and_false, Bool.false_and]
                        rw [e] at q
                        exact q H3 ((e1.trans e2).trans e3)
                      · have hl10 : decide (os.length ≤ 10) = true := by
                          simp only [Bool.not_true, Bool.false_or, decide_eq_false_iff_not] at hc
                          exact decide_eq_true (by omega)
                        have e03 := (e1.trans e2).trans e3
                        have e : isTab (.tuple [.int n, .tuple os]) = (os.map fun o => asc o n).all id := by
                          simp only [isTab, tab2, hbn, hl10, Bool.true_and, List.all_map]
                          rfl
                        rw [e] at q
                        have oko : ∀ o ∈ os, okD o = true := by
                          have z := (okD_len hok).2
                          simp only [okAll, Bool.and_eq_true] at z
                          exact okAll_iff.mp (okD_len z.2.1).2
                        refine Evl.s_ret (ev_allN (K := K) (bs := os.map fun o => asc o n) (el_lcT (K := K) (a := b) (xs := ys) (fun _ => true) (fun i => .bl (asc (os.getD i .none) n)) (Evl.ev_var rfl) (Evl.ex_t e3 hs3) (by have := of_decide_eq_true hl10; omega) (fun _ => rfl)
                          (fun _ _ _ _ _ H5 _ _ k => k H5 (Evl.Ex.refl _)) (fun i x H5 e5 hx _ => ?_)) ?_) (fun H4 e4 => q H4 (e03.trans e4))
                        · obtain ⟨o, ho, hxo⟩ := DaAll.get ha2 hx
                          have hxo' := hxo.mono (show Same H H5 from e03.trans e5)
                          have ego : os.getD i .none = o := by
                            rw [List.getD_eq_getElem?_getD, ho]
                            rfl
                          rw [ego]
                          exact Evl.ev_call (Evl.ea_cons (Evl.ev_var rfl) (Evl.ea_cons (Evl.ev_var rfl) Evl.ea_nil)) (spV_of fun H6 e => ⟨x, o, n, rfl, hxo'.mono e, oko o (List.mem_of_getElem? ho), rfl⟩)
                        · rw [given_all, hlen2, range_getD (fun o => V.bl (asc o n)) .none os, List.map_map]
                          rfl
abbrev sDeck : Stmt := topS 10
theorem scDeck : FnScope ["_law_script", "_law_cells", "_law_cell"] ["_law_script"] (defScope sDeck) := ⟨rfl, rfl, rfl, by decide +kernel, rfl, by decide +kernel, by decide +kernel⟩
set_option maxHeartbeats 1000000 in
theorem ok_deck {f : Addr} {fd : FuncData} (F : Fun K "_law_deck" "_law_deck" sDeck f fd) (B : Bn mg) : FnOk P w K mg base CX0 1 f fd ["_law_script"] (spDeck K) := by
  refine F.ok scDeck (fun vs H Q E h => ?_) (fun cdv A outer s H vs Q E hr h => ?_)
  · obtain ⟨a, ns, rfl, _⟩ := h
    rfl
  · obtain ⟨a, ns, rfl, hS, hl, q⟩ := h
    have nd := scDeck.nd
    refine ⟨_, (pss_cons (ps_setLc (i := 1) (own := [("_law_cell", 2)]) (g := gName 2) rfl nd rfl rfl (sw_true rfl rfl rfl (by decide +kernel)) (pi_list (pv 0)) (blkOk_by (own := [("_law_cell", 2)]) (N := ["_law_script", "_law_cells", "_law_cell"]) (sc := defScope sDeck) (by decide +kernel)) (fun _ _ _ _ _ => (pg_name (i := 2) nd rfl (Or.inl rfl))) (fun _ _ _ _ _ => pts_nil) (fun _ _ _ _ _ => (pe_callB call_abs rfl B.abs bt_abs (pa_cons (pv 2) pa_nil))))
      (pss_one (ps_ret (pe_lst (pa_cons (pe_lc (own := [("_law_cell", 2)]) (g := gName 2) rfl nd (pi_list (pv 1)) (blkOk_by (own := [("_law_cell", 2)]) (N := ["_law_script", "_law_cells", "_law_cell"]) (sc := defScope sDeck) (by decide +kernel)) (fun _ _ _ _ _ => (pg_name (i := 2) nd rfl (Or.inl rfl))) (fun _ _ _ _ _ => pts_one (pt_cmpR op_ge (pv 2) (pe_op op_pow pe_int pe_int) (nomark _))) (fun _ _ _ _ _ => (pv 2))) (pa_cons (pe_op op_cat (pv 1) (pe_lst (pa_cons (pe_op op_add (pe_callB call_len_seq rfl B.len bt_len (pa_cons (pv 1) pa_nil)) pe_int) pa_nil))) (pa_cons pe_int pa_nil))))))), ?_⟩
    refine Evl.q_asgL (Evl.el_lcL (fun _ => true) (fun i => .int (if ns.getD i 0 < 0 then -(ns.getD i 0) else ns.getD i 0)) (Evl.ev_var rfl) hS (by rw [List.length_map]; omega) (fun x => rfl)
      (fun i x H1 _ _ H2 _ Q q => q H2 (Evl.Ex.refl _)) (fun i x H1 _ hx _ H2 e2 Q q => ?_)) (fun c0 H1 hp e1 h1 => ?_)
    · rw [ints_at hx]
      exact ⟨_, rfl, _, rfl, q H2 (Evl.Ex.refl _)⟩
    · rw [given_ints] at h1
      generalize hcs : ((List.range (ns.map V.int).length).filter (fun _ => true)).map (fun i => if ns.getD i 0 < 0 then -(ns.getD i 0) else ns.getD i 0) = cs at h1
      have cl : cs.length ≤ 63 := by
        rw [← hcs, List.length_map]
        refine Nat.le_trans (List.length_filter_le _ _) ?_
        rw [List.length_range, List.length_map]
        exact hl
      dsimp only [tRet, tLst, tCons]
      refine Evl.el_lcL (K := K) (a := c0) (xs := cs.map V.int) (fun i => decide ((10 : Int) ^ 18 ≤ cs.getD i 0)) (fun i => .int (cs.getD i 0)) (Evl.ev_var rfl) (SqL.of h1) (by rw [List.length_map]; omega) (fun x => by rfl)
        (fun i x H2 _ hx H3 e3 Q q => ?_) (fun i x H2 _ hx _ H3 e3 Q q => ?_) H1 (Evl.Ex.refl _) _ (fun b H2 hb e2 h2 => ?_)
      · rw [ints_at hx]
        exact ⟨_, rfl, 10, 18, rfl, rfl, ⟨by decide, by decide, by decide⟩, _, _, rfl, rfl, _, rfl, q H3 (Evl.Ex.refl _)⟩
      · rw [ints_at hx]
        exact ⟨_, rfl, q H3 (Evl.Ex.refl _)⟩
      · rw [given_ints] at h2
        have h12 := e2 _ _ h1
        refine ⟨.ref c0, rfl, .ref c0, rfl, c0, _, rfl, .inl (SqL.of h12), _, 7, rfl, rfl, sz (n := 1) (by decide), fun p np => ?_⟩
        have h13 := same_upd (o := .lst [V.int (((cs.map V.int).length : Int) + 7)]) np _ _ h12
        refine ⟨c0, p, _, _, rfl, rfl, h13, upd_same, ?_, fun c nc => ?_⟩
        · rw [List.length_map]
          exact Nat.le_of_lt (small1000 (by simp; omega))
        · refine ⟨sz (n := 3) (by decide), fun d ndd => ?_⟩
          have s1 : Same H H1 := e1
          have s2 : Same H1 H2 := e2
          have s3 : Same H2 (upd H2 p (.lst [V.int (((cs.map V.int).length : Int) + 7)])) := same_upd np
          generalize upd H2 p (.lst [V.int (((cs.map V.int).length : Int) + 7)]) = H3 at *
          have s4 : Same H3 (upd H3 c (.lst ((cs.map V.int) ++ [V.int (((cs.map V.int).length : Int) + 7)]))) := same_upd nc
          have hc4 : (upd H3 c (.lst ((cs.map V.int) ++ [V.int (((cs.map V.int).length : Int) + 7)]))) c = some (.lst ((cs ++ [((cs.map V.int).length : Int) + 7]).map V.int)) := by
            rw [upd_same, List.map_append]
            rfl
          have hb4 := s4 _ _ (s3 _ _ h2)
          have nbc : b ≠ c := fun z => by
            rw [z] at h2
            rw [s3 _ _ h2] at nc
            cases nc
          show Q (.ref d) (upd (upd H3 c (.lst ((cs.map V.int) ++ [V.int (((cs.map V.int).length : Int) + 7)]))) d (.lst [.ref b, .ref c, .int 0]))
          generalize upd H3 c (.lst ((cs.map V.int) ++ [V.int (((cs.map V.int).length : Int) + 7)])) = H4 at *
          have s14 : Same H H4 := s1.trans (s2.trans (s3.trans s4))
          have hd0 : H d = none := s14.free ndd
          have hb0 : H b = none := s1.free hb
          refine q d b c _ ⟨fun z => ?_, fun z => ?_, nbc, Int.le_refl 0, upd_same, ⟨(((List.range (cs.map V.int).length).filter fun i => decide ((10 : Int) ^ 18 ≤ cs.getD i 0)).map fun i => cs.getD i 0), ?_⟩, cs ++ [((cs.map V.int).length : Int) + 7], ?_, ?_, ?_⟩ hd0 hb0 ?_
          · rw [z, hb4] at ndd
            cases ndd
          · rw [z, hc4] at ndd
            cases ndd
          · rw [upd_ne (fun z => by rw [z, ndd] at hb4; cases hb4)]
            exact hb4
          · rw [upd_ne (fun z => by rw [z, ndd] at hc4; cases hc4)]
            exact hc4
          · simp
          · simp
            omega
          · intro x o hx
            rw [msk_ne (fun z => by rw [z, hd0] at hx; cases hx) (fun z => by rw [z, hb0] at hx; cases hx), upd_ne (fun z => by rw [z, hd0] at hx; cases hx)]
            exact s14 _ _ hx
abbrev sNext : Stmt := topS 11
theorem scNext : FnScope ["_law_deck_here", "_law_many", "_law_rest", "_law_cell", "_law_mixed"] ["_law_deck_here", "_law_many"] (defScope sNext) := ⟨rfl, rfl, rfl, by decide +kernel, rfl, by decide +kernel, by decide +kernel⟩
set_option maxHeartbeats 1000000 in
theorem ok_next {f : Addr} {fd : FuncData} (F : Fun K "_law_next" "_law_next" sNext f fd) (B : Bn mg) : FnOk P w K mg base CX0 1 f fd ["_law_deck_here", "_law_many"] spNext := by
  refine F.ok scNext (fun vs H Q E h => ?_) (fun cdv A outer s H vs Q E hr h => ?_)
  · obtain ⟨d, b, c, n, m, rfl, _⟩ := h
    rfl
  · obtain ⟨d, b, c, n, m, rfl, hD, hn, m0, m1, q⟩ := h
    have nd := scNext.nd
    refine ⟨_, (pss_cons (ps_while PassesOwn.never (pt_cmpR (op_ne0 hr.units) (pe_ix ix_list (pv 0) pe_int (fun _ _ => rfl)) (pe_lst pa_nil) (nomark _)) (pss_cons (ps_set (i := 2) nd rfl (Or.inl rfl) (pe_ix ix_list (pe_ix ix_list (pv 0) pe_int (fun _ _ => rfl)) pe_int (fun _ _ => rfl)))
      (pss_cons (ps_if (pt_cmpR op_gt (pv 2) pe_int (nomark _)) (pss_cons (ps_asg (pe_op op_fdiv (pv 2) (pv 1)) (pg_sub (pe_ix ix_list (pv 0) pe_int (fun _ _ => rfl)) pe_int set_list))
      (pss_one (ps_ret (pe_op op_mod (pv 2) (pv 1))))) pss_nil)
      (pss_one (ps_expr (pe_bm PySem.F.plainAttrs_list PySem.F.slot_list_pop PySem.F.type_list_pop mt_popAt (pe_ix ix_list (pv 0) pe_int (fun _ _ => rfl)) (pa_cons pe_int pa_nil)))))))
      (pss_cons (ps_asg (pe_op op_add (pe_ix ix_list (pv 0) pe_int (fun _ _ => rfl)) pe_int) (pg_sub (pv 0) pe_int set_list))
      (pss_cons (ps_set (i := 3) nd rfl (Or.inl rfl) (pe_op op_mod (pe_ix ix_list (pe_ix ix_list (pv 0) pe_int (fun _ _ => rfl)) (pe_op op_mod (pe_ix ix_list (pv 0) pe_int (fun _ _ => rfl)) (pe_callB call_len_seq rfl B.len bt_len (pa_cons (pe_ix ix_list (pv 0) pe_int (fun _ _ => rfl)) pa_nil))) (fun _ _ => rfl)) pe_int))
      (pss_cons (ps_set (i := 4) nd rfl (Or.inl rfl) (pe_op op_add (pe_op op_add (pe_op op_mul (pv 3) (pe_op op_add pe_int (pe_op op_mul pe_int (pe_ix ix_list (pv 0) pe_int (fun _ _ => rfl))))) (pe_op op_mul (pe_op op_mul pe_int (pe_ix ix_list (pv 0) pe_int (fun _ _ => rfl))) (pe_ix ix_list (pv 0) pe_int (fun _ _ => rfl)))) pe_int))
      (pss_cons (ps_set (i := 4) nd rfl (Or.inl rfl) (pe_op op_mod (pv 4) pe_int))
      (pss_one (ps_ret (pe_op op_mod (pe_op op_fdiv (pe_op op_mod (pe_op op_mul (pv 4) (pv 4)) pe_int) pe_int) (pv 1))))))))), ?_⟩
    obtain ⟨bs, eb⟩ := hD.at_b
    refine ⟨fun k σ H1 => ∃ (bs : List Int) (y2 : Option V), σ = [some (.ref d), some (.int m), y2, none, none] ∧ bs.length = k ∧ H1 b = some (.lst (bs.map V.int)) ∧ Dk d b c n H1 ∧ Same (msk d b H) (msk d b H1),
      ⟨bs.length, bs, none, rfl, rfl, eb, hD, Same.refl _⟩, fun k σ H1 hW => ?_⟩
    obtain ⟨bs, y2, rfl, rfl, eb, hD, sm⟩ := hW
    refine ⟨.ref d, rfl, d, _, 0, .ref b, rfl, rfl, SqL.of hD.at_d, atI_nat (j := 0) rfl, Nat.zero_le _, fun p hp => ?_⟩
    have sp : Same H1 (upd H1 p (.lst [])) := same_upd hp
    have hD2 := hD.same sp
    have eb2 := sp _ _ eb
    have sm2 : Same (msk d b H) (msk d b (upd H1 p (.lst []))) := sm.trans (msk_same sp)
    refine ⟨b, p, bs.map V.int, rfl, rfl, SqL.of eb2, SqL.of upd_same, _, rfl, ?_⟩
    generalize upd H1 p (.lst []) = H2 at hD2 eb2 sm2 ⊢
    cases bs with
    | cons x r =>
      refine iteT ⟨fun σ' H' => ∃ (y2 : Option V), σ' = [some (.ref d), some (.int m), y2, none, none] ∧ H' b = some (.lst (r.map V.int)) ∧ Dk d b c n H' ∧ Same (msk d b H) (msk d b H'),
        fun σ' H' hN => ?_, ?_⟩
      · obtain ⟨y, e1, e2, e3, e4⟩ := hN
        exact ⟨r.length, Nat.lt_succ_self _, r, y, e1, rfl, e2, e3, e4⟩
      · refine ⟨.ref d, rfl, d, _, 0, .ref b, rfl, rfl, SqL.of hD2.at_d, atI_nat (j := 0) rfl, b, _, 0, .int x, rfl, rfl, SqL.of eb2, atI_nat (j := 0) rfl, ?_⟩
        refine ⟨.int x, rfl, x, 0, rfl, rfl, _, rfl, ite2 (fun e => ?_) (fun e => ?_)⟩
        · have x0 : 0 < x := of_decide_eq_true e
          refine ⟨.int x, rfl, .int m, rfl, x, m, rfl, rfl, ⟨m0, m1⟩, .ref d, rfl, d, _, 0, .ref b, rfl, rfl, SqL.of hD2.at_d, atI_nat (j := 0) rfl, b, _, 0, 0, rfl, rfl, eb2, Evl.ixN_nat (j := 0) (by simp), ?_⟩
          refine ⟨.int x, rfl, .int m, rfl, x, m, rfl, rfl, m0, ?_⟩
          refine q _ n _ (Int.emod_nonneg _ (by omega)) (Int.emod_lt_of_pos _ m0) ⟨?_, by omega, ?_⟩
          · obtain ⟨x1, x2, x3, x4, x5, _, cs, x7, x8⟩ := hD2
            refine ⟨x1, x2, x3, x4, ?_, ⟨(x / m) :: r, ?_⟩, cs, ?_, x8⟩
            · rw [upd_ne x1]
              exact x5
            · exact upd_same
            · rw [upd_ne x3.symm]
              exact x7
          · rw [msk_b]
            exact sm2
        · refine ⟨.ref d, rfl, d, _, 0, .ref b, rfl, rfl, SqL.of hD2.at_d, atI_nat (j := 0) rfl, .inl ⟨rfl, _, SqL.of eb2⟩, b, _, 0, 0, .int x, rfl, rfl, eb2, by decide, by decide, seqIndex_nat (j := 0) (by simp), rfl, some (.int x), rfl, ?_, ?_, ?_⟩
          · exact upd_same
          · obtain ⟨x1, x2, x3, x4, x5, _, cs, x7, x8⟩ := hD2
            refine ⟨x1, x2, x3, x4, ?_, ⟨r, ?_⟩, cs, ?_, x8⟩
            · rw [upd_ne x1]
              exact x5
            · exact upd_same
            · rw [upd_ne x3.symm]
              exact x7
          · rw [msk_b]
            exact sm2
    | nil =>
      refine iteF ?_
      -- deck[2] = deck[2] + 1
      refine ⟨.ref d, rfl, d, _, 2, .int n, rfl, rfl, SqL.of hD2.at_d, atI_nat (j := 2) rfl, n, 1, rfl, rfl, .ref d, rfl, d, _, 2, 2, rfl, rfl, hD2.at_d, rfl, ?_⟩
      have hD3 : Dk d b c (n + 1) (upd H2 d (.lst [.ref b, .ref c, .int (n + 1)])) := by
        obtain ⟨x1, x2, x3, x4, x5, ⟨bs, x6⟩, cs, x7, x8⟩ := hD2
        refine ⟨x1, x2, x3, by omega, upd_same, ⟨bs, ?_⟩, cs, ?_, x8⟩
        · rw [upd_ne x1.symm]
          exact x6
        · rw [upd_ne x2.symm]
          exact x7
      have sm3 : Same (msk d b H) (msk d b (upd H2 d (.lst [.ref b, .ref c, .int (n + 1)]))) := by
        rw [msk_d]
        exact sm2
      show tSeq _ _ _ _ (upd H2 d (.lst [.ref b, .ref c, .int (n + 1)]))
      generalize upd H2 d (.lst [.ref b, .ref c, .int (n + 1)]) = H3 at hD3 sm3 ⊢
      have n0 := hD2.n0
      obtain ⟨cs, ec, c0, c1⟩ := hD3.at_c
      have cl : 0 < (cs.map V.int).length := by
        rw [List.length_map]
        exact List.length_pos_iff.mpr c0
      have hL : 0 < ((cs.map V.int).length : Int) := by omega
      have r0 := Int.emod_nonneg (n + 1) (show ((cs.map V.int).length : Int) ≠ 0 by omega)
      have r1 := Int.emod_lt_of_pos (n + 1) hL
      obtain ⟨j, ej⟩ : ∃ j : Nat, (n + 1) % ((cs.map V.int).length : Int) = (j : Int) := ⟨_, (Int.toNat_of_nonneg r0).symm⟩
      have hj : j < cs.length := by
        rw [ej, List.length_map] at r1
        omega
      have gj : (cs.map V.int)[j]? = some (.int cs[j]) := by
        rw [List.getElem?_map, List.getElem?_eq_getElem hj]
        rfl
      refine ⟨.ref d, rfl, d, _, 1, .ref c, rfl, rfl, SqL.of hD3.at_d, atI_nat (j := 1) rfl, .ref d, rfl, d, _, 2, .int (n + 1), rfl, rfl, SqL.of hD3.at_d, atI_nat (j := 2) rfl, .ref d, rfl, d, _, 1, .ref c, rfl, rfl, SqL.of hD3.at_d, atI_nat (j := 1) rfl,
        c, _, rfl, .inl (SqL.of ec), n + 1, _, rfl, rfl, hL, c, _, _, .int cs[j], rfl, rfl, SqL.of ec, ?_, cs[j], 2147483647, rfl, rfl, (by show (0 : Int) < 2147483647; decide), ?_⟩
      · rw [ej]
        exact atI_nat gj
      · have k0 := Int.emod_nonneg cs[j] (show (2147483647 : Int) ≠ 0 by decide)
        have k1 := Int.emod_lt_of_pos cs[j] (show (0 : Int) < 2147483647 by decide)
        show tSeq _ _ _ [some (.ref d), some (.int m), y2, some (.int (cs[j] % 2147483647)), none] _
        generalize cs[j] % 2147483647 = x at k0 k1 ⊢
        refine ⟨.int x, rfl, .ref d, rfl, d, _, 2, .int (n + 1), rfl, rfl, SqL.of hD3.at_d, atI_nat (j := 2) rfl, 69621, n + 1, rfl, rfl, .inl ⟨by decide, by decide⟩, 48271, _, rfl, rfl, x, _, rfl, rfl, .inl ⟨by omega, by omega⟩, ?_⟩
        refine ⟨.ref d, rfl, d, _, 2, .int (n + 1), rfl, rfl, SqL.of hD3.at_d, atI_nat (j := 2) rfl, 40014, n + 1, rfl, rfl, .inl ⟨by decide, by decide⟩, .ref d, rfl, d, _, 2, .int (n + 1), rfl, rfl, SqL.of hD3.at_d, atI_nat (j := 2) rfl, _, n + 1, rfl, rfl, .inr ⟨by omega, by omega⟩, _, _, rfl, rfl, _, 79, rfl, rfl, ?_⟩
        refine ⟨_, rfl, _, 2147483629, rfl, rfl, (by show (0 : Int) < 2147483629; decide), ?_⟩
        have g0 := Int.emod_nonneg (x * (48271 + 69621 * (n + 1)) + 40014 * (n + 1) * (n + 1) + 79) (show (2147483629 : Int) ≠ 0 by decide)
        have g1 := Int.emod_lt_of_pos (x * (48271 + 69621 * (n + 1)) + 40014 * (n + 1) * (n + 1) + 79) (show (0 : Int) < 2147483629 by decide)
        refine ⟨_, rfl, _, rfl, _, _, rfl, rfl, .inl ⟨Int.lt_of_lt_of_le (by decide) g0, Int.lt_trans g1 (by decide)⟩, _, 2147483587, rfl, rfl, (by show (0 : Int) < 2147483587; decide), _, 16, rfl, rfl, ⟨by decide, by decide⟩, .int m, rfl, _, m, rfl, rfl, m0, ?_⟩
        exact q _ (n + 1) _ (Int.emod_nonneg _ (by omega)) (Int.emod_lt_of_pos _ m0) ⟨hD3, Int.le_refl _, sm3⟩
abbrev sOne : Stmt := topS 12
theorem scOne : FnScope ["_law_deck_here", "_law_some"] ["_law_deck_here", "_law_some"] (defScope sOne) := ⟨rfl, rfl, rfl, by decide +kernel, rfl, by decide +kernel, by decide +kernel⟩
theorem ok_one {f : Addr} {fd : FuncData} (F : Fun K "_law_one" "_law_one" sOne f fd) (B : Bn mg) (c_law_next : Cl P w K mg base 1 "_law_next" ["_law_deck_here", "_law_many"] spNext) : FnOk P w K mg base CX0 2 f fd ["_law_deck_here", "_law_some"] (spOne K) := by
  refine F.ok scOne (fun vs H Q E h => ?_) (fun cdv A outer s H vs Q E hr h => ?_)
  · obtain ⟨d, b, c, a, n, xs, rfl, _⟩ := h
    rfl
  · obtain ⟨d, b, c, a, n, xs, rfl, hD, hn, x0, x1, hS, q⟩ := h
    have nd := scOne.nd
    refine ⟨_, (pss_one (ps_ret (pe_ix ix_list (pv 1) (pe_k c_law_next hr (by decide) rfl (pa_cons (pv 0) (pa_cons (pe_callB call_len_seq rfl B.len bt_len (pa_cons (pv 1) pa_nil)) pa_nil))) (fun _ _ => rfl)))), ?_⟩
    have hp : 0 < xs.length := List.length_pos_iff.mpr x0
    refine ⟨.ref a, rfl, .ref d, rfl, .ref a, rfl, a, xs, rfl, .inl (Same.mskL hS), d, b, c, n, (xs.length : Int), rfl, hD, by omega, by omega, by omega, fun v n' H' v0 v1 dr => ?_⟩
    obtain ⟨j, rfl⟩ : ∃ j : Nat, v = (j : Int) := ⟨v.toNat, by omega⟩
    have hj : j < xs.length := by omega
    refine ⟨a, xs, _, xs[j], rfl, rfl, Same.mskL (Same.seq dr.sm hS), atI_nat (List.getElem?_eq_getElem hj), q _ n' H' (List.getElem_mem hj) dr⟩
abbrev sSame : Stmt := topS 13
theorem scSame : FnScope ["_law_found", "_law_due", "_law_k"] ["_law_found", "_law_due"] (defScope sSame) := ⟨rfl, rfl, rfl, by decide +kernel, rfl, by decide +kernel, by decide +kernel⟩
theorem ok_sameB {f : Addr} {fd : FuncData} (F : Fun K "_law_same" "_law_same" sSame f fd) (B : Bn mg) : FnOk P w K mg base CX0 1 f fd ["_law_found", "_law_due"] (spV rSameB) := by
  refine F.ok scSame (fun vs H Q E h => ?_) (fun cdv A outer s H vs Q E hr h => ?_)
  · obtain ⟨z, ⟨x, y, rfl, _⟩, _⟩ := h
    rfl
  · obtain ⟨z, ⟨x, y, rfl, rfl⟩, q⟩ := h
    have nd := scSame.nd
    refine ⟨_, (pss_cons (ps_if (pt_val (pe_callB call_isiT rfl B.isinstance bt_isinstance (pa_cons (pv 1) (pa_cons (pe_tup (pa_cons (pe_ty rfl B.tuple bt_tuple) (pa_cons (pe_ty rfl B.list bt_list) pa_nil))) pa_nil)))) pss_never pss_nil)
      (pss_cons (ps_if (pt_val (pe_callB call_isi rfl B.isinstance bt_isinstance (pa_cons (pv 1) (pa_cons (pe_ty rfl B.dict bt_dict) pa_nil)))) pss_never pss_nil)
      (pss_cons (ps_if (pt_cmpR op_isN (pv 1) pe_non (nomark _)) pss_never pss_nil)
      (pss_cons (ps_if (pt_val (pe_callB call_isi rfl B.isinstance bt_isinstance (pa_cons (pv 1) (pa_cons (pe_ty rfl B.str bt_str) pa_nil)))) pss_never pss_nil)
      (pss_one (ps_ret (pe_and (pe_callB call_isi rfl B.isinstance bt_isinstance (pa_cons (pv 0) (pa_cons (pe_ty rfl B.int bt_int) pa_nil))) (pe_and (pe_cmpR op_eq (pe_callB call_isi rfl B.isinstance bt_isinstance (pa_cons (pv 0) (pa_cons (pe_ty rfl B.bool bt_bool) pa_nil))) (pe_callB call_isi rfl B.isinstance bt_isinstance (pa_cons (pv 1) (pa_cons (pe_ty rfl B.bool bt_bool) pa_nil))) (nomark _)) (pe_one (pe_cmpR op_eq (pv 0) (pv 1) (nomark _))))))))))), ?_⟩
    refine ⟨.bl y, rfl, sz2, fun p hp => ⟨.bl y, p, _, _, [.type "tuple", .type "list"], false, rfl, upd_same, .cons (.ty _) (.cons (.ty _) .nil), .base (.bl y), kitAny_cons (b := false) (kit_ty (by decide +kernel)) (fun _ => kitAny_cons (b := false) (kit_ty (by decide +kernel)) (fun _ => kitAny_nil) (fun z => by cases z)) (fun z => by cases z), false, rfl, iteF ?_⟩⟩
    have s1 : Evl.Ex H (upd H p (.tup [.ty "tuple", .ty "list"])) := Evl.Ex.new hp
    have dy : ∀ H', Da K H' (.bl y) (.bool y) := fun _ => .bl y
    have dx : ∀ H', Da K H' (.bl x) (.bool x) := fun _ => .bl x
    refine Evl.q_when (b := false) (Evl.et_B (ev_isi (T := "dict") (Evl.ev_var rfl) (dy _))) (fun z => by cases z) (fun _ H2 e2 => ?_)
    refine ⟨.bl y, rfl, rfl, false, rfl, iteF ?_⟩
    refine Evl.q_when (b := false) (Evl.et_B (ev_isi (T := "str") (Evl.ev_var rfl) (dy _))) (fun z => by cases z) (fun _ H3 e3 => ?_)
    have ev := Evl.ev_andV (σ := start ["_law_found", "_law_due", "_law_k"] [.bl x, .bl y]) (H := H3) (ev_isi (K := K) (T := "int") (ta := tVar 0) (Evl.ev_var rfl) (dx _)) fun _ => Evl.ev_andV (Evl.ev_op (ev_isi (K := K) (T := "bool") (ta := tVar 0) (Evl.ev_var rfl) (dx _)) (ev_isi (K := K) (T := "bool") (ta := tVar 1) (Evl.ev_var rfl) (dy _)) (Evl.rv_eq rfl)) fun _ => Evl.ev_op (ta := tVar 0) (tb := tVar 1) (Evl.ev_var rfl) (Evl.ev_var rfl) (Evl.rv_eq (x := .bl x) (y := .bl y) rfl)
    refine Evl.s_ret ev fun H4 e4 => ?_
    have e : V.bl (isI "int" (.bool x) && (decide (V.bl (isI "bool" (.bool x)) = V.bl (isI "bool" (.bool y))) && decide (V.bl x = V.bl y))) = V.bl (x == y) := by
      cases x <;> cases y <;> rfl
    have g := q H4 (((s1.trans e2).trans e3).trans e4)
    rw [← e] at g
    exact g
abbrev sWhole : Stmt := topS 14
theorem scWhole : FnScope ["_law_thing"] ["_law_thing"] (defScope sWhole) := ⟨rfl, rfl, rfl, by decide +kernel, rfl, by decide +kernel, by decide +kernel⟩
theorem ok_whole {f : Addr} {fd : FuncData} (F : Fun K "_law_whole" "_law_whole" sWhole f fd) (B : Bn mg) : FnOk P w K mg base CX0 1 f fd ["_law_thing"] (spV (rInteger K)) := by
  refine F.ok scWhole (fun vs H Q E h => ?_) (fun cdv A outer s H vs Q E hr h => ?_)
  · obtain ⟨z, ⟨x, d, rfl, _⟩, _⟩ := h
    rfl
  · obtain ⟨z, ⟨x, d, rfl, hx, rfl⟩, q⟩ := h
    refine ⟨_, (pss_one (ps_ret (pe_and (pe_callB call_isi rfl B.isinstance bt_isinstance (pa_cons (pv 0) (pa_cons (pe_ty rfl B.int bt_int) pa_nil))) (pe_one (pe_not (pe_callB call_isi rfl B.isinstance bt_isinstance (pa_cons (pv 0) (pa_cons (pe_ty rfl B.bool bt_bool) pa_nil)))))))), ?_⟩
    exact Evl.s_ret (Evl.ev_andV (ev_isi (Evl.ev_var rfl) hx) fun _ => Evl.ev_notV (ev_isi (Evl.ev_var rfl) hx)) q
abbrev sOdd : Stmt := topS 15
theorem scOdd : FnScope ["_law_deck_here", "_law_some"] ["_law_deck_here"] (defScope sOdd) := ⟨rfl, rfl, rfl, by decide +kernel, rfl, by decide +kernel, by decide +kernel⟩
set_option maxHeartbeats 2000000 in
theorem ok_odd {f : Addr} {fd : FuncData} (F : Fun K "_law_odd" "_law_odd" sOdd f fd) (B : Bn mg) (c_law_next : Cl P w K mg base 1 "_law_next" ["_law_deck_here", "_law_many"] spNext) : FnOk P w K mg base CX0 2 f fd ["_law_deck_here"] (spOdd K) := by
  refine F.ok scOdd (fun vs H Q E h => ?_) (fun cdv A outer s H vs Q E hr h => ?_)
  · obtain ⟨S, d, b, c, n, rfl, _⟩ := h
    rfl
  · obtain ⟨S, d, b, c, n, rfl, hC, hn, q⟩ := h
    have hD := hC.dk
    have nd := scOdd.nd
    refine ⟨_, (pss_cons (ps_set (i := 1) nd rfl (Or.inl rfl) (pe_lst (pa_cons pe_non (pa_cons pe_bl (pa_cons pe_bl (pa_cons pe_int (pa_cons pe_int (pa_cons (pe_un un_neg pe_int) (pa_cons pe_int (pa_cons pe_int (pa_cons pe_int (pa_cons (pe_op op_pow pe_int pe_int) (pa_cons (pe_op op_add (pe_op op_pow pe_int pe_int) pe_int) (pa_cons (pe_op op_pow pe_int pe_int) (pa_cons pe_str (pa_cons pe_str (pa_cons pe_str (pa_cons (pe_tup pa_nil) (pa_cons (pe_tup (pa_cons pe_int pa_nil)) pa_nil)))))))))))))))))))
      (pss_one (ps_ret (pe_ix ix_list (pe_op op_cat (pv 1) (pe_lst (pa_cons (pe_tup (pa_cons pe_int (pa_cons pe_int pa_nil))) (pa_cons (pe_lst pa_nil) (pa_cons pe_dnewK (pa_cons (pe_lst (pa_cons pe_int pa_nil)) (pa_cons (pe_tup (pa_cons pe_bl pa_nil)) (pa_cons (pe_tup (pa_cons (pe_tup pa_nil) pa_nil)) pa_nil)))))))) (pe_k c_law_next hr (by decide) rfl (pa_cons (pv 0) (pa_cons pe_int pa_nil))) (fun _ _ => rfl))))), ?_⟩
    have pw : ∀ j : Int, 0 ≤ j → j ≤ 100 → CPow 10 j := fun j h0 h1 => ⟨h0, by omega, by decide⟩
    refine q_asgP (fun v H' => ∃ t1 t2 l3, v = .ref l3 ∧ Nw S d b c H' t1 (.tup []) ∧ Nw S d b c H' t2 (.tup [V.int 0]) ∧ Nw S d b c H' l3 (.lst (oddA t1 t2)) ∧ Dr d b c n H n H' ∧ Same H H') (fun Q' q' => ?_) ?_
    · refine ⟨1, rfl, 10, 12, rfl, rfl, pw 12 (by decide) (by decide), 10, 12, rfl, rfl, pw 12 (by decide) (by decide), _, 1, rfl, rfl, 10, 59, rfl, rfl, pw 59 (by decide) (by decide), Nat.zero_le _, fun t1 h1 => ⟨Pb.sz (n := 1) (by decide), fun t2 h2 => ⟨Pb.sz (n := 17) (by decide), fun l3 h3 => ?_⟩⟩⟩
      have r0 := Dr.refl hD
      have r1 := r0.new (o := .tup []) h1
      have r2 := r1.new (o := .tup [V.int 0]) h2
      have s3 := same_upd (o := .lst (oddA t1 t2)) h3
      have w1 : Nw S d b c _ t1 (.tup []) := Nw.new (o := .tup []) hC h1
      have w2 : Nw S d b c _ t2 (.tup [V.int 0]) := Nw.new (o := .tup [V.int 0]) (hC.same (same_upd h1)) h2
      exact q' (.ref l3) _ ⟨t1, t2, l3, rfl, (w1.mono (same_upd h2)).mono s3, w2.mono s3, Nw.new ((hC.same (same_upd h1)).same (same_upd h2)) h3, r2.new h3, ((same_upd h1).trans (same_upd h2)).trans s3⟩
    · rintro v H3 ⟨t1, t2, l3, rfl, w1, w2, w3, r3, s03⟩
      refine ⟨.ref l3, rfl, ?_⟩
      refine (show Ew (tLst _) _ _ (fun v H' => ∃ t4 l5 d6 l7 t8 t9 t10 l11, v = .ref l11 ∧ Nw S d b c H' t4 (.tup [V.int 0, V.int 1]) ∧ Nw S d b c H' l5 (.lst []) ∧ Nw S d b c H' d6 (.dK []) ∧ Nw S d b c H' l7 (.lst [V.int 0]) ∧ Nw S d b c H' t8 (.tup [V.bl true]) ∧ Nw S d b c H' t9 (.tup []) ∧ Nw S d b c H' t10 (.tup [V.ref t9]) ∧
        Nw S d b c H' l11 (.lst [V.ref t4, V.ref l5, V.ref d6, V.ref l7, V.ref t8, V.ref t10]) ∧ Same H3 H') from fun Q' q' => ?_) _ (fun v H4 hv => ?_)
      · refine ⟨Pb.sz (n := 2) (by decide), fun t4 h4 => ⟨Nat.zero_le _, fun l5 h5 d6 h6 => ⟨Pb.sz (n := 1) (by decide), fun l7 h7 => ⟨Pb.sz (n := 1) (by decide), fun t8 h8 => ⟨Nat.zero_le _, fun t9 h9 => ⟨Pb.sz (n := 1) (by decide), fun t10 h10 => ⟨Pb.sz (n := 6) (by decide), fun l11 h11 => ?_⟩⟩⟩⟩⟩⟩⟩
        have D3 := hC.same s03
        have D4 := D3.same (same_upd (o := .tup [V.int 0, V.int 1]) h4)
        have D5 := D4.same (same_upd (o := .lst []) h5)
        have D6 := D5.same (same_upd (o := .dK []) h6)
        have D7 := D6.same (same_upd (o := .lst [V.int 0]) h7)
        have D8 := D7.same (same_upd (o := .tup [V.bl true]) h8)
        have D9 := D8.same (same_upd (o := .tup []) h9)
        have D10 := D9.same (same_upd (o := .tup [V.ref t9]) h10)
        have s11 := same_upd (o := .lst [V.ref t4, V.ref l5, V.ref d6, V.ref l7, V.ref t8, V.ref t10]) h11
        have s10 := Same.trans (same_upd (o := .tup [V.ref t9]) h10) s11
        have s9 := Same.trans (same_upd (o := .tup []) h9) s10
        have s8 := Same.trans (same_upd (o := .tup [V.bl true]) h8) s9
        have s7 := Same.trans (same_upd (o := .lst [V.int 0]) h7) s8
        have s6 := Same.trans (same_upd (o := .dK []) h6) s7
        have s5 := Same.trans (same_upd (o := .lst []) h5) s6
        have s4 := Same.trans (same_upd (o := .tup [V.int 0, V.int 1]) h4) s5
        exact q' (.ref l11) _ ⟨t4, l5, d6, l7, t8, t9, t10, l11, rfl, (Nw.new D3 h4).mono s5, (Nw.new D4 h5).mono s6, (Nw.new D5 h6).mono s7, (Nw.new D6 h7).mono s8, (Nw.new D7 h8).mono s9, (Nw.new D8 h9).mono s10, (Nw.new D9 h10).mono s11, Nw.new D10 h11, s4⟩
      · obtain ⟨t4, l5, d6, l7, t8, t9, t10, l11, rfl, w4, w5, w6, w7, w8, w9, w10, w11, s34⟩ := hv
        refine ⟨l3, l11, _, _, rfl, rfl, (w3.mono s34).at_p, w11.at_p, Pb.sz (n := 23) (by decide), fun l12 h12 => ?_⟩
        have dr12 := (r3.more s34).new (o := .lst (oddA t1 t2 ++ [V.ref t4, V.ref l5, V.ref d6, V.ref l7, V.ref t8, V.ref t10])) h12
        have sw := same_upd (o := .lst (oddA t1 t2 ++ [V.ref t4, V.ref l5, V.ref d6, V.ref l7, V.ref t8, V.ref t10])) h12
        have w12 : Nw S d b c _ l12 (.lst (oddA t1 t2 ++ [V.ref t4, V.ref l5, V.ref d6, V.ref l7, V.ref t8, V.ref t10])) := Nw.new (hC.same (s03.trans s34)) h12
        have all : DaAll K (hs S (upd H4 l12 (.lst (oddA t1 t2 ++ [V.ref t4, V.ref l5, V.ref d6, V.ref l7, V.ref t8, V.ref t10])))) (oddA t1 t2 ++ [V.ref t4, V.ref l5, V.ref d6, V.ref l7, V.ref t8, V.ref t10]) oddL :=
          .cons .non (.cons (.bl _) (.cons (.bl _) (.cons (.int _) (.cons (.int _) (.cons (.int _) (.cons (.int _) (.cons (.int _) (.cons (.int _) (.cons (.int _) (.cons (.int _) (.cons (.int _) (.cons (.str _) (.cons (.str _) (.cons (.str _)
            (.cons (.tup ((w1.mono s34).mono sw).tup .nil) (.cons (.tup ((w2.mono s34).mono sw).tup (.cons (.int _) .nil)) (.cons (.tup (w4.mono sw).tup (.cons (.int _) (.cons (.int _) .nil))) (.cons (.lst (w5.mono sw).lst .nil) (.cons (w6.mono sw).emp
              (.cons (.lst (w7.mono sw).lst (.cons (.int _) .nil)) (.cons (.tup (w8.mono sw).tup (.cons (.bl _) .nil)) (.cons (.tup (w10.mono sw).tup (.cons (.tup (w9.mono sw).tup .nil) .nil)) .nil))))))))))))))))))))))
        have s05 := (s03.trans s34).trans sw
        generalize upd H4 l12 (.lst (oddA t1 t2 ++ [V.ref t4, V.ref l5, V.ref d6, V.ref l7, V.ref t8, V.ref t10])) = H5 at *
        generalize oddA t1 t2 ++ [V.ref t4, V.ref l5, V.ref d6, V.ref l7, V.ref t8, V.ref t10] = xs at *
        refine ⟨.ref d, rfl, d, b, c, n, 23, rfl, dr12.dk, by omega, by decide, by decide, fun v n' H6 v0 v1 dr6 => ?_⟩
        obtain ⟨j, rfl⟩ : ∃ j : Nat, v = (j : Int) := ⟨v.toNat, by omega⟩
        have xl : xs.length = 23 := DaAll.len all
        have hj : j < xs.length := by omega
        obtain ⟨e, he, hxe⟩ := DaAll.get all (List.getElem?_eq_getElem hj)
        exact ⟨l12, xs, _, xs[j], rfl, rfl, SqL.of (dr6.at w12.off w12.at_p), atI_nat (List.getElem?_eq_getElem hj), q _ e n' H6 (List.mem_of_getElem? he) (dr12.step dr6) (hxe.mono ((Ck.same hC s05).sm dr6))⟩
theorem ok_bent0 {f : Addr} {fd : FuncData} : FnOk P w K mg base CX0 2 f fd ["_law_deck_here", "_law_thing", "_law_deep"] (spBent K 0) := by
  refine ⟨fun vs H Q E h => ?_, fun A outer s H args us vs Q E hr he hb hv h => ?_⟩
  · obtain ⟨S, d, b, c, n, x, e, deep, _, _, _, z, _⟩ := h
    exact absurd z (Nat.not_lt_zero _)
  · obtain ⟨S, d, b, c, n, x, e, deep, _, _, _, z, _⟩ := h
    exact absurd z (Nat.not_lt_zero _)
abbrev sBent : Stmt := topS 16
theorem scBent : FnScope ["_law_deck_here", "_law_thing", "_law_deep", "_law_spot"] ["_law_deck_here", "_law_thing", "_law_deep"] (defScope sBent) := ⟨rfl, rfl, rfl, by decide +kernel, rfl, by decide +kernel, by decide +kernel⟩
set_option maxHeartbeats 2000000 in
theorem ok_bent1 {f : Addr} {fd : FuncData} {δ : Nat} (F : Fun K "_law_bent" "_law_bent" sBent f fd) (B : Bn mg) (c_law_next : Cl P w K mg base 1 "_law_next" ["_law_deck_here", "_law_many"] spNext)
    (c_law_odd : Cl P w K mg base 2 "_law_odd" ["_law_deck_here"] (spOdd K)) (c_law_bent : Cl P w K mg base (δ + 2) "_law_bent" ["_law_deck_here", "_law_thing", "_law_deep"] (spBent K δ)) : FnOk P w K mg base CX0 (δ + 3) f fd ["_law_deck_here", "_law_thing", "_law_deep"] (spBent K (δ + 1)) := by
  refine F.ok scBent (fun vs H Q E h => ?_) (fun cdv A outer s H vs Q E hr h => ?_)
  · obtain ⟨S, d, b, c, n, x, e, deep, rfl, _⟩ := h
    rfl
  · obtain ⟨S, d, b, c, n, x, e, deep, rfl, hC, hn, hdeep, hδ, hpl, hx, q⟩ := h
    have hD := hC.dk
    have nd := scBent.nd
    refine ⟨_, (Evl.pss_cut (ps_if (PW.pt (pw_and (pt_val (pe_callB call_isi rfl B.isinstance bt_isinstance (pa_cons (pv 1) (pa_cons (pe_ty rfl B.tuple bt_tuple) pa_nil)))) (pw_and (pt_cmpR (op_ne0T hr.units) (pv 1) (pe_tup pa_nil) (nomark _)) (pw_and (pt_cmpR op_gt (pv 2) pe_int (nomark _)) (pw_and1 (pt_cmpR op_gt (pe_k c_law_next hr (by omega) rfl (pa_cons (pv 0) (pa_cons pe_int pa_nil))) pe_int (nomark _))))))) (pss_cons (ps_set (i := 3) nd rfl (Or.inl rfl) (pe_k c_law_next hr (by omega) rfl (pa_cons (pv 0) (pa_cons (pe_callB call_len_seq rfl B.len bt_len (pa_cons (pv 1) pa_nil)) pa_nil))))
      (pss_one (ps_ret (pe_op op_catA (pe_op op_catA (pe_slice sl_tupA (pv 1) po_none (po_some (pv 3))) (pe_tup (pa_cons (pe_k c_law_bent hr (by omega) rfl (pa_cons (pv 0) (pa_cons (pe_ix ix_tup (pv 1) (pv 3) (fun _ _ => rfl)) (pa_cons (pe_op op_sub (pv 2) pe_int) pa_nil)))) pa_nil))) (pe_slice sl_tupA (pv 1) (po_some (pe_op op_add (pv 3) pe_int)) po_none))))) pss_nil)
      (pss_cons (ps_if (pt_val (pe_callB call_isi rfl B.isinstance bt_isinstance (pa_cons (pv 1) (pa_cons (pe_ty rfl B.tuple bt_tuple) pa_nil)))) (pss_one (ps_ret (pe_ix ix_list (pe_lst (pa_cons (pe_slice sl_tupA (pv 1) (po_some pe_int) po_none) (pa_cons (pe_op op_catA (pv 1) (pe_slice sl_tupA (pv 1) (po_some (pe_un un_neg pe_int)) po_none)) (pa_cons (pe_revT (pv 1)) (pa_cons (pe_callTy call_list_of rfl B.list bt_list (pa_cons (pv 1) pa_nil)) (pa_cons (pe_k c_law_odd hr (by omega) rfl (pa_cons (pv 0) pa_nil)) pa_nil)))))) (pe_k c_law_next hr (by omega) rfl (pa_cons (pv 0) (pa_cons pe_int pa_nil))) (fun _ _ => rfl)))) pss_nil)
      (pss_cons (ps_if (pt_val (pe_callB call_isi rfl B.isinstance bt_isinstance (pa_cons (pv 1) (pa_cons (pe_ty rfl B.int bt_int) pa_nil)))) (pss_one (ps_ret (pe_ix ix_list (pe_lst (pa_cons (pe_op op_add (pv 1) pe_int) (pa_cons (pe_op op_sub (pv 1) pe_int) (pa_cons (pe_callTy call_str_int rfl B.str bt_str (pa_cons (pv 1) pa_nil)) (pa_cons (pe_cmpR op_eq (pv 1) pe_int (nomark _)) (pa_cons pe_int (pa_cons (pe_k c_law_odd hr (by omega) rfl (pa_cons (pv 0) pa_nil)) pa_nil))))))) (pe_k c_law_next hr (by omega) rfl (pa_cons (pv 0) (pa_cons pe_int pa_nil))) (fun _ _ => rfl)))) pss_nil)
      (pss_one (ps_ret (pe_k c_law_odd hr (by omega) rfl (pa_cons (pv 0) pa_nil))))))), ?_⟩
    refine Evl.q_cut (M := fun σ' H' => σ' = [some (.ref d), some x, some (.int deep), none] ∧ ∃ n', Dr d b c (n + 1) H n' H') ?_ ?_
    · -- the first if
      refine ⟨x, rfl, x, .ty "tuple", _, _, _, rfl, .ty "tuple", (hx.mono hs_sub).ty, kit_ty (kit_isI "tuple" e (by decide)), _, rfl, ?_⟩
      cases e with
      | int i => exact iteF (iteF ⟨rfl, n, (Dr.refl hD).wide (by omega)⟩)
      | tuple ds =>
        cases hx with
        | @tup a xs _ hq ha =>
          have hlen := DaAll.len ha
          simp only [pl, Bool.and_eq_true, decide_eq_true_eq] at hpl
          refine iteT ⟨.ref a, rfl, Nat.zero_le _, fun t0 ht0 => ⟨a, t0, xs, rfl, rfl, Same.tq (same_upd ht0) (Same.tq hs_sub hq), SqT.of upd_same, _, rfl, ?_⟩⟩
          have dr0 := (Dr.refl hD).new (o := .tup []) ht0
          have hq0 : SqT K (hs S (upd H t0 (.tup []))) a xs := Same.tq (hs_mono (same_upd ht0)) hq
          have ha0 : DaAll K (hs S (upd H t0 (.tup []))) xs ds := ha.mono (hs_mono (same_upd ht0))
          have ck0 : Ck S d b c n (upd H t0 (.tup [])) := hC.same (same_upd ht0)
          generalize upd H t0 (.tup []) = H0 at *
          cases hxe : xs.isEmpty with
          | true => exact iteF (iteF ⟨rfl, n, dr0.wide (by omega)⟩)
          | false =>
            refine iteT ⟨.int deep, rfl, deep, 0, rfl, rfl, _, rfl, ?_⟩
            cases hdp : decide ((0 : Int) < (deep : Int)) with
            | false => exact iteF (iteF ⟨rfl, n, dr0.wide (by omega)⟩)
            | true =>
              have dpos : 0 < deep := by
                have := of_decide_eq_true hdp
                omega
              refine iteT ⟨.ref d, rfl, d, b, c, n, 4, rfl, dr0.dk, by omega, by decide, by decide, fun v n1 H1 v0 v1 dr1 => ⟨v, 0, rfl, rfl, _, rfl, ite2 (fun _ => ?_) (fun _ => ⟨rfl, n1, dr0.step dr1⟩)⟩⟩
              have le1 := dr1.le
              have hpos : 0 < xs.length := by
                cases xs with
                | nil => cases hxe
                | cons _ _ => exact Nat.succ_pos _
              have hq1 := Same.tq (hs_msk dr1.sm hC.hd hC.hb) hq0
              refine ⟨.ref d, rfl, .ref a, rfl, a, xs, rfl, .inr (Same.tq hs_sub hq1), d, b, c, n1, _, rfl, dr1.dk, by omega, by omega, by omega, fun u n2 H2 u0 u1 dr2 => ?_⟩
              have le2 := dr2.le
              obtain ⟨j, rfl⟩ : ∃ j : Nat, u = (j : Int) := ⟨u.toNat, by omega⟩
              have hj : j < xs.length := by omega
              have hjd : j < ds.length := by omega
              have hq2 := Same.tq (hs_msk dr2.sm hC.hd hC.hb) hq1
              have ha2 := (ha0.mono (hs_msk dr1.sm hC.hd hC.hb)).mono (hs_msk dr2.sm hC.hd hC.hb)
              have ck2 : Ck S d b c n2 H2 := (ck0.dr dr1).dr dr2
              refine ⟨.ref a, rfl, .int j, rfl, j, rfl, slA_hs (K := K) ck2 hq2 fun p1 H3 s3 hp1 => ?_⟩
              have d3 := dr2.more s3
              have hq3 := Same.tq (hs_mono s3) hq2
              have ha3 := ha2.mono (hs_mono (S := S) s3)
              have pd : pl ds[j] = true := plAll_iff.mp hpl.2 _ (List.getElem_mem _)
              have hdj : Da K (hs S H3) xs[j] ds[j] := by
                obtain ⟨e, he, hd⟩ := DaAll.get ha3 (List.getElem?_eq_getElem hj)
                rw [List.getElem?_eq_getElem hjd] at he
                cases he
                exact hd
              refine ⟨.ref d, rfl, .ref a, rfl, .int j, rfl, a, xs, j, xs[j], rfl, rfl, Same.tq hs_sub hq3, atI_nat (List.getElem?_eq_getElem hj), .int deep, rfl, deep, 1, rfl, rfl, S, d, b, c, n2, xs[j], ds[j], deep - 1, ?_, ck2.same s3, by omega, by omega, by omega, pd, hdj, fun v' e' n4 H4 hb dr4 hv' => ?_⟩
              · show [V.ref d, xs[j], V.int ((deep : Int) - 1)] = [V.ref d, xs[j], V.int ((deep - 1 : Nat) : Int)]
                have : ((deep - 1 : Nat) : Int) = (deep : Int) - 1 := by omega
                rw [this]
              have hp14 := Same.tq (hs_msk dr4.sm hC.hd hC.hb) hp1
              have hq4 := Same.tq (hs_msk dr4.sm hC.hd hC.hb) hq3
              have ha4 := ha3.mono (hs_msk dr4.sm hC.hd hC.hb)
              refine ⟨Pb.sz (n := 1) (by decide), fun t ht => ?_⟩
              have st : Same H4 (upd H4 t (.tup [v'])) := same_upd ht
              have wt' : SqT K (hs S (upd H4 t (.tup [v']))) t [v'] := SqT.of (hs_at (((ck2.same s3).dr dr4).out ht) upd_same)
              have hp15 := Same.tq (hs_mono (S := S) st) hp14
              have hq5 := Same.tq (hs_mono (S := S) st) hq4
              have ha5 := ha4.mono (hs_mono (S := S) st)
              have hv5 := hv'.mono (hs_mono (S := S) st)
              have dk5 : Ck S d b c n4 (upd H4 t (.tup [v'])) := ((ck2.same s3).dr dr4).same st
              generalize upd H4 t (.tup [v']) = H5 at *
              have cl : (cutV xs none (some (j : Int))).length ≤ xs.length := cutV_length _ _ _
              refine catA_hs (K := K) dk5 hp15 wt' (by simp; omega) fun p2 H6 s6 hp2 => ?_
              refine ⟨.ref a, rfl, .int j, rfl, j, 1, rfl, rfl, j + 1, rfl, ?_⟩
              dsimp only [tNoPart]
              have dk6 := dk5.same s6
              have hq6 := Same.tq (hs_mono (S := S) s6) hq5
              refine slA_hs (K := K) dk6 hq6 fun p3 H7 s7 hp3 => ?_
              have dk7 := dk6.same s7
              have hp27 := Same.tq (hs_mono (S := S) s7) hp2
              have cl3 : (cutV xs (some ((j : Int) + 1)) none).length ≤ xs.length := cutV_length _ _ _
              refine catA_hs (K := K) dk7 hp27 hp3 (by simp; omega) fun p4 H8 s8 hp4 => ?_
              have s58 := (s6.trans s7).trans s8
              have drAll : Dr d b c (n + 4 * deep + 4) H n4 H8 := ((((dr0.step dr1).step dr2).more s3).step (k := 4 * ((deep - 1 : Nat) : Int) + 4) (by
                have e : n2 + 4 * ((deep - 1 : Nat) : Int) + 4 = n2 + (4 * ((deep - 1 : Nat) : Int) + 4) := by omega
                rw [← e]
                exact dr4)).more (st.trans s58) |>.wide (by omega)
              refine q _ (.tuple (cutG ds none (some (j : Int)) ++ [e'] ++ cutG ds (some ((j : Int) + 1)) none)) n4 H8 ?_ drAll ?_
              · rw [cutG_take (by omega), show (j : Int) + 1 = ((j + 1 : Nat) : Int) by omega, cutG_drop (by omega), List.append_assoc]
                have split : ds = ds.take j ++ ds[j] :: ds.drop (j + 1) := by
                  rw [← List.drop_eq_getElem_cons hjd, List.take_append_drop]
                have g := bnt_mid (a := ds.take j) (r := ds.drop (j + 1)) (x := ds[j]) (y := e') (by rw [← split]; exact hpl.2) (by rw [← split]; exact hpl.1) hb
                rw [← split] at g
                exact g
              · have m8 := hs_mono (S := S) s58
                exact .tup hp4 (((((ha5.mono m8).cut none (some (j : Int)))).append (.cons (hv5.mono m8) .nil)).append ((ha5.mono m8).cut (some ((j : Int) + 1)) none))
      | none => cases hpl
      | bool _ => cases hpl
      | str _ => cases hpl
      | list _ => cases hpl
      | dict _ => cases hpl
    · rintro σ' H1 ⟨rfl, n1, dr1⟩
      have le1 := dr1.le
      have hx1 := hx.mono (hs_msk dr1.sm hC.hd hC.hb)
      have ck1 : Ck S d b c n1 H1 := hC.dr dr1
      refine ⟨x, rfl, x, .ty "tuple", _, _, _, rfl, .ty "tuple", (hx1.mono hs_sub).ty, kit_ty (kit_isI "tuple" e (by decide)), _, rfl, ?_⟩
      cases e with
      | int i =>
        cases hx
        have hi : i.natAbs ≤ 100 := by simpa only [pl, decide_eq_true_eq] using hpl
        obtain ⟨b1, b2, b3, b4, b5⟩ := bnt_int hi
        refine iteF ⟨.int i, rfl, .int i, .ty "int", _, _, _, rfl, .ty "int", .base (.int i), kit_ty (kit_isI "int" (.int i) (by decide)), _, rfl, iteT ?_⟩
        refine ⟨.int i, rfl, i, 1, rfl, rfl, .int i, rfl, i, 1, rfl, rfl, .int i, rfl, i, rfl, log_of_80 (Nat.lt_of_le_of_lt hi (by decide +kernel)), .int i, rfl, rfl, .ref d, rfl, S, d, b, c, n1, rfl, ck1, by omega, fun v e' n2 H2 he dr2 hv => ⟨Pb.sz (n := 6) (by decide), fun l hl => ?_⟩⟩
        have le2 := dr2.le
        have sl := hs_mono (S := S) (same_upd (o := .lst [V.int (i + 1), V.int (i - 1), V.str (Str.ofString (toString i)), V.bl (decide (V.int i = V.int 1)), V.int 0, v]) hl)
        have all : DaAll K (hs S (upd H2 l (.lst [V.int (i + 1), V.int (i - 1), V.str (Str.ofString (toString i)), V.bl (decide (V.int i = V.int 1)), V.int 0, v]))) [V.int (i + 1), V.int (i - 1), V.str (Str.ofString (toString i)), V.bl (decide (V.int i = V.int 1)), V.int 0, v]
            [.int (i + 1), .int (i - 1), .str (Str.ofString (toString i)), .bool (decide (V.int i = V.int 1)), .int 0, e'] := .cons (.int _) (.cons (.int _) (.cons (.str _) (.cons (.bl _) (.cons (.int _) (.cons (hv.mono sl) .nil)))))
        have dr3 := (dr1.step dr2).new (o := .lst [V.int (i + 1), V.int (i - 1), V.str (Str.ofString (toString i)), V.bl (decide (V.int i = V.int 1)), V.int 0, v]) hl
        have w : Nw S d b c _ l (.lst [V.int (i + 1), V.int (i - 1), V.str (Str.ofString (toString i)), V.bl (decide (V.int i = V.int 1)), V.int 0, v]) := Nw.new (ck1.dr dr2) hl
        have good : ∀ y ∈ [PyData.int (i + 1), .int (i - 1), .str (Str.ofString (toString i)), .bool (decide (V.int i = V.int 1)), .int 0, e'], Bnt (.int i) y := by
          intro y hy
          simp only [List.mem_cons, List.not_mem_nil, or_false] at hy
          rcases hy with rfl | rfl | rfl | rfl | rfl | rfl
          · exact b1
          · exact b2
          · exact b3
          · exact b4 _
          · exact b5
          · exact bnt_odd he
        exact ⟨.ref d, rfl, pick (K := K) (N := 6) all good hC.hd hC.hb dr3 w (by omega) (by decide) (by decide) rfl fun v e' n' H' hb dr hv => q v e' n' H' hb (dr.wide (by omega)) hv⟩
      | tuple ds =>
        cases hx with
        | @tup a xs _ hq ha =>
          have hlen := DaAll.len ha
          simp only [pl, Bool.and_eq_true, decide_eq_true_eq] at hpl
          have hq1 := Same.tq (hs_msk dr1.sm hC.hd hC.hb) hq
          have ha1 := ha.mono (hs_msk dr1.sm hC.hd hC.hb)
          refine iteT ⟨.ref a, rfl, 1, rfl, ?_⟩
          dsimp only [tNoPart]
          refine slA_hs (K := K) ck1 hq1 fun p1 H2 s2 hp1 => ?_
          have dk2 := ck1.same s2
          have hq2 := Same.tq (hs_mono (S := S) s2) hq1
          refine ⟨.ref a, rfl, .ref a, rfl, 1, rfl, -1, rfl, ?_⟩
          dsimp only [tNoPart]
          refine slA_hs (K := K) dk2 hq2 fun p2 H3 s3 hp2 => ?_
          have dk3 := dk2.same s3
          have hq3 := Same.tq (hs_mono (S := S) s3) hq2
          have cl : (cutV xs (some (-1)) none).length ≤ xs.length := cutV_length _ _ _
          refine catA_hs (K := K) dk3 hq3 hp2 (by omega) fun p3 H4 s4 hp3 => ?_
          have dk4 := dk3.same s4
          have hq4 := Same.tq (hs_mono (S := S) s4) hq3
          refine ⟨.ref a, rfl, a, xs, rfl, Same.tq hs_sub hq4, fun p4 h4 => ?_⟩
          have s5 : Same H4 (upd H4 p4 (.tup xs.reverse)) := same_upd h4
          have dk5 := dk4.same s5
          have hp4 : SqT K (hs S (upd H4 p4 (.tup xs.reverse))) p4 xs.reverse := SqT.of (hs_at (dk4.out h4) upd_same)
          have hq5 := Same.tq (hs_mono (S := S) s5) hq4
          generalize upd H4 p4 (.tup xs.reverse) = H5 at *
          refine ⟨.ref a, rfl, a, xs, rfl, .inr (Same.tq hs_sub hq5), fun l5 h5 => ?_⟩
          have s6 : Same H5 (upd H5 l5 (.lst xs)) := same_upd h5
          have dk6 := dk5.same s6
          have hl5 : SqL K (hs S (upd H5 l5 (.lst xs))) l5 xs := SqL.of (hs_at (dk5.out h5) upd_same)
          generalize upd H5 l5 (.lst xs) = H6 at *
          refine ⟨.ref d, rfl, S, d, b, c, n1, rfl, dk6, by omega, fun v e' n2 H7 he dr7 hv => ⟨Pb.sz (n := 5) (by decide), fun l hl => ?_⟩⟩
          have le7 := dr7.le
          have m26 : Same (hs S H2) (hs S H6) := hs_mono (((s3.trans s4).trans s5).trans s6)
          have m16 : Same (hs S H1) (hs S H6) := hs_mono ((((s2.trans s3).trans s4).trans s5).trans s6)
          have m46 : Same (hs S H4) (hs S H6) := hs_mono (s5.trans s6)
          have m56 : Same (hs S H5) (hs S H6) := hs_mono s6
          have drA := dr1.more ((((s2.trans s3).trans s4).trans s5).trans s6)
          have drB := drA.step dr7
          have w : Nw S d b c _ l (.lst [V.ref p1, V.ref p3, V.ref p4, V.ref l5, v]) := Nw.new (dk6.dr dr7) hl
          have dr8 := drB.new (o := .lst [V.ref p1, V.ref p3, V.ref p4, V.ref l5, v]) hl
          have m78 : Same (hs S H7) (hs S (upd H7 l (.lst [V.ref p1, V.ref p3, V.ref p4, V.ref l5, v]))) := hs_mono (same_upd hl)
          have m68 := (hs_msk dr7.sm hC.hd hC.hb).trans m78
          have a8 := (ha1.mono m16).mono m68
          have all : DaAll K (hs S (upd H7 l (.lst [V.ref p1, V.ref p3, V.ref p4, V.ref l5, v]))) [V.ref p1, V.ref p3, V.ref p4, V.ref l5, v] [.tuple (cutG ds (some 1) none), .tuple (ds ++ cutG ds (some (-1)) none), .tuple ds.reverse, .list ds, e'] :=
            .cons (.tup (Same.tq (m26.trans m68) hp1) (a8.cut _ _)) (.cons (.tup (Same.tq (m46.trans m68) hp3) (a8.append (a8.cut _ _))) (.cons (.tup (Same.tq (m56.trans m68) hp4) a8.rev) (.cons (.lst (Same.seq m68 hl5) a8) (.cons (hv.mono m78) .nil))))
          have len1 : ∀ lo hi, (cutG ds lo hi).length ≤ 12 := fun lo hi => Nat.le_trans (cutG_sub ds lo hi).length_le hpl.1
          have wt1 : ∀ lo hi, wtAll (cutG ds lo hi) ≤ wtAll ds := fun lo hi => wtAll_sub (cutG_sub ds lo hi)
          have good : ∀ y ∈ [PyData.tuple (cutG ds (some 1) none), .tuple (ds ++ cutG ds (some (-1)) none), .tuple ds.reverse, .list ds, e'], Bnt (.tuple ds) y := by
            intro y hy
            simp only [List.mem_cons, List.not_mem_nil, or_false] at hy
            rcases hy with rfl | rfl | rfl | rfl | rfl
            · exact (bnt_seq hpl.2 (fun y hy => (cutG_sub _ _ _).subset hy) (by have := len1 (some 1) none; omega) (by have := wt1 (some 1) none; omega)).1
            · exact (bnt_seq hpl.2 (fun y hy => (List.mem_append.mp hy).elim id fun h => (cutG_sub _ _ _).subset h) (by rw [List.length_append]; have := len1 (some (-1)) none; omega) (by rw [wtAll_append]; have := wt1 (some (-1)) none; omega)).1
            · exact (bnt_seq hpl.2 (fun y hy => List.mem_reverse.mp hy) (by rw [List.length_reverse]; omega) (by rw [wtAll_rev]; omega)).1
            · exact (bnt_seq hpl.2 (fun y hy => hy) (by omega) (by omega)).2
            · exact bnt_odd he
          exact ⟨.ref d, rfl, pick (K := K) (N := 5) all good hC.hd hC.hb dr8 w (by omega) (by decide) (by decide) rfl fun v e' n' H' hb dr hv => q v e' n' H' hb (dr.wide (by omega)) hv⟩
      | none => cases hpl
      | bool _ => cases hpl
      | str _ => cases hpl
      | list _ => cases hpl
      | dict _ => cases hpl
abbrev sPart : Stmt := topS 17
theorem scPart : FnScope ["_law_deck_here", "_law_items", "_law_share", "_law_item"] ["_law_deck_here", "_law_items", "_law_share"] (defScope sPart) := ⟨rfl, rfl, rfl, by decide +kernel, rfl, by decide +kernel, by decide +kernel⟩
set_option maxHeartbeats 1000000 in
theorem ok_part {f : Addr} {fd : FuncData} (F : Fun K "_law_part" "_law_part" sPart f fd) (B : Bn mg) (c_law_next : Cl P w K mg base 1 "_law_next" ["_law_deck_here", "_law_many"] spNext) : FnOk P w K mg base CX0 2 f fd ["_law_deck_here", "_law_items", "_law_share"] (spPart K) := by
  refine F.ok scPart (fun vs H Q E h => ?_) (fun cdv A outer s H vs Q E hr h => ?_)
  · obtain ⟨d, b, c, a, n, sh, ns, rfl, _⟩ := h
    rfl
  · obtain ⟨d, b, c, a, n, sh, ns, rfl, hD, hn, hl, hS, q⟩ := h
    have nd := scPart.nd
    have turn : ∀ (D : Addr), H D = none → ∀ (i : Nat) (x : V) (H1 : Hp), (ns.map V.int)[i]? = some x →
        (∃ (ms : List Int) (n' : Int), ms.Sublist (ns.take i) ∧ Dr d b c (n + i) H n' H1 ∧ H1 D = some (.lst (ms.map V.int))) →
        tTest (tOp (rI0 fun i j => .bl (decide (j ≤ i))) (tCall spNext [] E0 (tCons (tVar 0) (tCons (tC (.int 4)) tNil))) (tVar 2)) [some (.ref d), some (.ref a), some (.int sh), some x] H1 fun bb H3 =>
          if bb = true then tVar 3 [some (.ref d), some (.ref a), some (.int sh), some x] H3 fun y H4 => ∃ acc, H4 D = some (.lst acc) ∧ acc.length < sizeLine ∧
            ∃ (ms : List Int) (n' : Int), ms.Sublist (ns.take (i + 1)) ∧ Dr d b c (n + ((i + 1 : Nat) : Int)) H n' (upd H4 D (.lst (acc ++ [y]))) ∧ (upd H4 D (.lst (acc ++ [y]))) D = some (.lst (ms.map V.int))
          else ∃ (ms : List Int) (n' : Int), ms.Sublist (ns.take (i + 1)) ∧ Dr d b c (n + ((i + 1 : Nat) : Int)) H n' H3 ∧ H3 D = some (.lst (ms.map V.int)) := by
      rintro D hDn i x H1 hx ⟨ms, n1, hms, dr, hlist⟩
      have off := hD.off hDn
      have hi : i < ns.length := by
        have := (List.getElem?_eq_some_iff.mp hx).1
        rw [List.length_map] at this
        exact this
      have etk : ns.take (i + 1) = ns.take i ++ [ns.getD i 0] := by
        rw [List.take_add_one, List.getD_eq_getElem?_getD, List.getElem?_eq_getElem hi]
        rfl
      have hle := dr.le
      refine ⟨.ref d, rfl, d, b, c, n1, 4, rfl, dr.dk, by omega, by decide, by decide, fun v n2 H2 v0 v1 dr2 => ?_⟩
      have dr3 : Dr d b c (n + ((i + 1 : Nat) : Int)) H n2 H2 := (dr.step dr2).wide (by omega)
      have hl2 : H2 D = some (.lst (ms.map V.int)) := dr2.at off hlist
      refine ⟨.int sh, rfl, v, sh, rfl, rfl, _, rfl, ite2 (fun _ => ?_) (fun _ => ?_)⟩
      · rw [ints_at hx]
        refine ⟨_, rfl, _, hl2, ?_, ms ++ [ns.getD i 0], n2, ?_, dr3.put hD hDn, ?_⟩
        · rw [List.length_map]
          have := hms.length_le
          rw [List.length_take] at this
          exact small1000 (by omega)
        · rw [etk]
          exact hms.append (List.Sublist.refl _)
        · rw [upd_same, List.map_append]
          rfl
      · exact ⟨ms, n2, by rw [etk]; exact hms.trans (List.sublist_append_left _ _), dr3, hl2⟩
    have fin : ∀ (D : Addr), H D = none → ∀ H1 : Hp, (∃ (ms : List Int) (n' : Int), ms.Sublist (ns.take (ns.map V.int).length) ∧ Dr d b c (n + ((ns.map V.int).length : Nat)) H n' H1 ∧ H1 D = some (.lst (ms.map V.int))) →
        ∃ p ys, [V.ref D] = [.ref p] ∧ ((SqL K H1 p ys ∧ ∀ l, H1 l = none → Q (.ref l) (upd H1 l (.tup ys))) ∨ (SqT K H1 p ys ∧ Q (.ref p) H1)) := by
      rintro D hDn H1 ⟨ms, n1, hms, dr, hlist⟩
      rw [List.length_map] at hms dr
      rw [List.take_length] at hms
      refine ⟨D, _, rfl, .inl ⟨SqL.of hlist, fun l hl2 => ?_⟩⟩
      exact q l ms n1 _ hms (dr.new hl2) (SqT.of (at_msk (dr.dk.off hl2) upd_same))
    rcases hS with hS | hS
    · refine ⟨_, (pss_one (ps_ret (pe_callTy call_tuple_of rfl B.tuple bt_tuple (pa_cons (pe_lc (own := [("_law_item", 3)]) (g := gName 3) rfl nd (pi_list (pv 1)) (blkOk_by (own := [("_law_item", 3)]) (N := ["_law_deck_here", "_law_items", "_law_share", "_law_item"]) (sc := defScope sPart) (by decide +kernel)) (fun _ _ _ _ _ => (pg_name (i := 3) nd rfl (Or.inl rfl))) (fun _ _ _ _ _ => pts_one (pt_cmpR op_ge (pe_k c_law_next hr (by decide) rfl (pa_cons (pv 0) (pa_cons pe_int pa_nil))) (pv 2) (nomark _))) (fun _ _ _ _ _ => (pv 3))) pa_nil)))), ?_⟩
      refine ⟨.ref a, rfl, a, rfl, ⟨_, Same.mskL hS⟩, fun D hDn => ?_⟩
      refine lc_list (K := K) (a := a) (xs := ns.map V.int) (fun i H1 => ∃ (ms : List Int) (n' : Int), ms.Sublist (ns.take i) ∧ Dr d b c (n + i) H n' H1 ∧ H1 D = some (.lst (ms.map V.int)))
        ⟨[], n, List.nil_sublist _, ((Dr.refl hD).new hDn).wide (by omega), upd_same⟩ (fun i H1 _ ⟨_, _, _, dr, _⟩ => Same.mskL (Same.seq dr.sm hS)) (fun i x H1 hx hp => ⟨rfl, turn D hDn i x H1 hx hp⟩) (fin D hDn)
    · refine ⟨_, (pss_one (ps_ret (pe_callTy call_tuple_of rfl B.tuple bt_tuple (pa_cons (pe_lc (own := [("_law_item", 3)]) (g := gName 3) rfl nd (pi_tup (pv 1)) (blkOk_by (own := [("_law_item", 3)]) (N := ["_law_deck_here", "_law_items", "_law_share", "_law_item"]) (sc := defScope sPart) (by decide +kernel)) (fun _ _ _ _ _ => (pg_name (i := 3) nd rfl (Or.inl rfl))) (fun _ _ _ _ _ => pts_one (pt_cmpR op_ge (pe_k c_law_next hr (by decide) rfl (pa_cons (pv 0) (pa_cons pe_int pa_nil))) (pv 2) (nomark _))) (fun _ _ _ _ _ => (pv 3))) pa_nil)))), ?_⟩
      refine ⟨.ref a, rfl, a, rfl, ⟨_, Same.mskT hS⟩, fun D hDn => ?_⟩
      refine lc_tup (K := K) (a := a) (xs := ns.map V.int) (fun i H1 => ∃ (ms : List Int) (n' : Int), ms.Sublist (ns.take i) ∧ Dr d b c (n + i) H n' H1 ∧ H1 D = some (.lst (ms.map V.int)))
        ⟨[], n, List.nil_sublist _, ((Dr.refl hD).new hDn).wide (by omega), upd_same⟩ (fun i H1 _ ⟨_, _, _, dr, _⟩ => Same.mskT (Same.tq dr.sm hS)) (fun i x H1 hx hp => ⟨rfl, turn D hDn i x H1 hx hp⟩) (fin D hDn)
abbrev sShuf : Stmt := topS 18
theorem scShuf : FnScope ["_law_deck_here", "_law_count", "_law_left", "_law_found"] ["_law_deck_here", "_law_count"] (defScope sShuf) := ⟨rfl, rfl, rfl, by decide +kernel, rfl, by decide +kernel, by decide +kernel⟩
set_option maxHeartbeats 1000000 in
theorem ok_shuf {f : Addr} {fd : FuncData} (F : Fun K "_law_shuffled" "_law_shuffled" sShuf f fd) (B : Bn mg) (c_law_next : Cl P w K mg base 1 "_law_next" ["_law_deck_here", "_law_many"] spNext) : FnOk P w K mg base CX0 2 f fd ["_law_deck_here", "_law_count"] (spShuf K) := by
  refine F.ok scShuf (fun vs H Q E h => ?_) (fun cdv A outer s H vs Q E hr h => ?_)
  · obtain ⟨d, b, c, n, m, rfl, _⟩ := h
    rfl
  · obtain ⟨d, b, c, n, m, rfl, hD, hn, hm, q⟩ := h
    have nd := scShuf.nd
    refine ⟨_, (pss_cons (ps_par (i := 2) (j := 3) rfl nd rfl rfl (by decide) rfl rfl (pa_cons (pe_listRg rfl rfl B.list (prg_1 rfl B.range (pv 1))) (pa_cons (pe_lst pa_nil) pa_nil)) (by rfl))
      (pss_cons (ps_while PassesOwn.never (pt_cmpR (op_ne0 hr.units) (pv 2) (pe_lst pa_nil) (nomark _)) (pss_one (ps_expr (pe_bm PySem.F.plainAttrs_list PySem.F.slot_list_append PySem.F.type_list_append mt_append (pv 3) (pa_cons (pe_bm PySem.F.plainAttrs_list PySem.F.slot_list_pop PySem.F.type_list_pop mt_popAt (pv 2) (pa_cons (pe_k c_law_next hr (by decide) rfl (pa_cons (pv 0) (pa_cons (pe_callB call_len_seq rfl B.len bt_len (pa_cons (pv 2) pa_nil)) pa_nil))) pa_nil)) pa_nil)))))
      (pss_one (ps_ret (pe_callTy call_tuple_of rfl B.tuple bt_tuple (pa_cons (pv 3) pa_nil)))))), ?_⟩
    refine ⟨.int m, rfl, m, rfl, RgOk.of_le (by omega) (by omega) (by omega) (by omega), fun l hl => ⟨Nat.zero_le _, fun fo hfo => ⟨.ref l, .ref fo, rfl, ?_⟩⟩⟩
    have hfo0 : H fo = none := (same_upd hl).free hfo
    have nlf : l ≠ fo := fun z => by
      rw [← z, upd_same] at hfo
      cases hfo
    have offl := hD.off hl
    have offf := hD.off hfo0
    rw [rgV_ints] at hfo ⊢
    refine ⟨fun k σ H1 => ∃ (left found : List Int) (n' : Int), σ = [some (.ref d), some (.int m), some (.ref l), some (.ref fo)] ∧ left.length = k ∧ H1 l = some (.lst (left.map V.int)) ∧ H1 fo = some (.lst (found.map V.int)) ∧
        (left ++ found).Perm (upto m) ∧ Dr d b c (n + found.length) H n' H1,
      ⟨m, upto m, [], n, rfl, ints_len m, ?_, upd_same, ?_, (((Dr.refl hD).new hl).new hfo).wide (by simp)⟩, fun k σ H1 hW => ?_⟩
    · rw [upd_ne nlf, upd_same]
    · rw [List.append_nil]
    · obtain ⟨left, found, n1, rfl, rfl, el, ef, pm, dr⟩ := hW
      refine ⟨.ref l, rfl, Nat.zero_le _, fun p hp => ⟨l, p, left.map V.int, rfl, rfl, SqL.of (same_upd hp _ _ el), SqL.of upd_same, _, rfl, ?_⟩⟩
      have el2 := same_upd (o := .lst []) hp _ _ el
      have ef2 := same_upd (o := .lst []) hp _ _ ef
      have dr2 := dr.new (o := .lst []) hp
      generalize upd H1 p (.lst []) = H2 at el2 ef2 dr2 ⊢
      have hlen : left.length + found.length = m := by
        have := pm.length_eq
        rw [List.length_append, ints_len] at this
        exact this
      cases left with
      | nil =>
        refine iteF ?_
        refine ⟨.ref fo, rfl, fo, _, rfl, .inl ⟨SqL.of ef2, fun t ht => ?_⟩⟩
        have e : found.length = m := by simpa using hlen
        rw [e] at dr2
        exact q t found n1 _ (by simpa using pm) (dr2.new ht) (SqT.of (at_msk (dr2.dk.off ht) upd_same))
      | cons x0 r0 =>
        generalize hL : x0 :: r0 = left at *
        have hpos : 0 < left.length := by
          rw [← hL]
          exact Nat.succ_pos _
        have hne : (left.map V.int).isEmpty = false := by
          rw [← hL]
          rfl
        rw [hne]
        refine iteT ⟨fun σ' H' => ∃ (left' found' : List Int) (n' : Int), σ' = [some (.ref d), some (.int m), some (.ref l), some (.ref fo)] ∧ left'.length < left.length ∧ H' l = some (.lst (left'.map V.int)) ∧ H' fo = some (.lst (found'.map V.int)) ∧
          (left' ++ found').Perm (upto m) ∧ Dr d b c (n + found'.length) H n' H', fun σ' H' hN => ?_, ?_⟩
        · obtain ⟨l', f', n', e1, e2, e3⟩ := hN
          exact ⟨l'.length, e2, l', f', n', e1, rfl, e3⟩
        · have hle := dr2.le
          refine ⟨.ref fo, rfl, .inl ⟨rfl, _, SqL.of ef2⟩, .ref l, rfl, .inl ⟨rfl, _, SqL.of el2⟩, .ref d, rfl, .ref l, rfl, l, _, rfl, .inl (SqL.of el2), d, b, c, n1, _, rfl, dr2.dk, by omega, by rw [List.length_map]; omega, by rw [List.length_map]; omega, fun v n2 H3 v0 v1 dr3 => ?_⟩
          obtain ⟨j, rfl⟩ : ∃ j : Nat, v = (j : Int) := ⟨v.toNat, by omega⟩
          have hj : j < left.length := by
            rw [List.length_map] at v1
            omega
          have el3 := dr3.at offl el2
          have ef3 := dr3.at offf ef2
          have dr4 := dr2.step dr3
          refine ⟨l, _, j, j, .int left[j], rfl, rfl, el3, by omega, by omega, seqIndex_nat (by rw [List.length_map]; exact hj), ?_, fo, found.map V.int, _, rfl, rfl, ?_, ?_, left.eraseIdx j, found ++ [left[j]], n2, rfl, ?_, ?_, ?_, ?_, ?_⟩
          · rw [List.getElem?_map, List.getElem?_eq_getElem hj]
            rfl
          · rw [upd_ne nlf.symm]
            exact ef3
          · rw [List.length_map]
            exact small1000 (by omega)
          · rw [List.length_eraseIdx_of_lt hj]
            omega
          · rw [upd_ne nlf, upd_same, map_erase]
          · rw [upd_same, List.map_append]
            rfl
          · have p1 : (left[j] :: left.eraseIdx j).Perm left := perm_erase left j hj
            refine List.Perm.trans ?_ pm
            refine List.Perm.trans ?_ (p1.append_right found)
            rw [← List.append_assoc]
            exact List.perm_append_comm.trans (by rw [List.singleton_append]; exact List.Perm.refl _)
          · refine ((dr4.put hD hl).put hD hfo0).wide ?_
            rw [List.length_append]
            simp
            omega
abbrev sInt : Stmt := topS 19
theorem scInt : FnScope ["_law_deck_here", "_law_demands", "_law_offers", "_law_order", "_law_found", "_law_k", "_law_low"] ["_law_deck_here", "_law_demands", "_law_offers"] (defScope sInt) := ⟨rfl, rfl, rfl, by decide +kernel, rfl, by decide +kernel, by decide +kernel⟩
set_option maxHeartbeats 1000000 in
theorem ok_intervals {f : Addr} {fd : FuncData} (F : Fun K "_law_intervals" "_law_intervals" sInt f fd) (B : Bn mg) (c_law_next : Cl P w K mg base 1 "_law_next" ["_law_deck_here", "_law_many"] spNext)
    (c_law_shuffled : Cl P w K mg base 2 "_law_shuffled" ["_law_deck_here", "_law_count"] (spShuf K)) : FnOk P w K mg base CX0 3 f fd ["_law_deck_here", "_law_demands", "_law_offers"] (spMk K) := by
  refine F.ok scInt (fun vs H Q E h => ?_) (fun cdv A outer s H vs Q E hr h => ?_)
  · obtain ⟨d, b, c, n, m, k, rfl, _⟩ := h
    rfl
  · obtain ⟨d, b, c, n, m, k, rfl, hD, hn, m1, m10, k10, q⟩ := h
    have nd := scInt.nd
    refine ⟨_, (pss_cons (ps_par (i := 3) (j := 4) rfl nd rfl rfl (by decide) rfl rfl (pa_cons (pe_k c_law_shuffled hr (by decide) rfl (pa_cons (pv 0) (pa_cons (pv 1) pa_nil))) (pa_cons (pe_lst pa_nil) pa_nil)) (by rfl))
      (pss_cons (ps_for PassesOwn.never rfl (pi_range1 rfl B.range (pa_cons (pv 2) pa_nil)) (pg_name (i := 5) nd rfl (Or.inl rfl)) (pss_cons (ps_set (i := 6) nd rfl (Or.inl rfl) (pe_k c_law_next hr (by decide) rfl (pa_cons (pv 0) (pa_cons (pv 1) pa_nil))))
      (pss_one (ps_expr (pe_bm PySem.F.plainAttrs_list PySem.F.slot_list_append PySem.F.type_list_append mt_append (pv 4) (pa_cons (pe_callTy call_tuple_of rfl B.tuple bt_tuple (pa_cons (pe_callB cr_sortT rfl B.sorted bt_sorted (pa_cons (pe_slice sl_tupA (pv 3) (po_some (pv 6)) (po_some (pe_op op_add (pe_op op_add (pv 6) pe_int) (pe_k c_law_next hr (by decide) rfl (pa_cons (pv 0) (pa_cons (pv 1) pa_nil)))))) pa_nil)) pa_nil)) pa_nil))))))
      (pss_one (ps_ret (pe_tup (pa_cons (pv 1) (pa_cons (pe_callTy call_tuple_of rfl B.tuple bt_tuple (pa_cons (pv 4) pa_nil)) pa_nil))))))), ?_⟩
    refine ⟨.ref d, rfl, .int m, rfl, d, b, c, n, m, rfl, hD, by omega, by omega, fun po ord n1 H1 pm dr1 hord => ⟨Nat.zero_le _, fun fo hfo => ⟨.ref po, .ref fo, rfl, ?_⟩⟩⟩
    have hD1 := dr1.dk
    have off := hD1.off hfo
    have le1 := dr1.le
    refine Evl.q_forR1 (n := (k : Int)) (Evl.ea_cons (Evl.ev_var rfl) Evl.ea_nil) (by omega) (fun i σ H2 => ∃ (y5 y6 : Option V), σ = [some (.ref d), some (.int m), some (.int k), some (.ref po), some (.ref fo), y5, y6] ∧ Fnd K d b c fo m (n1 + 2 * i) H1 i H2)
      (fun H2 e2 => ⟨none, none, rfl, [], [], n1, e2 _ _ upd_same, .nil, rfl, fun o ho => absurd ho List.not_mem_nil, (((Dr.refl hD1).new hfo).more e2).wide (by omega)⟩) ?_ ?_
    · rintro i σ H2 hi ⟨y5, y6, rfl, refs, os, n2, ef, hda, hlen, hok, dr⟩
      have le2 := dr.le
      refine ⟨.ref d, rfl, .int m, rfl, d, b, c, n2, m, rfl, dr.dk, by omega, by omega, by omega, fun v n3 H3 v0 v1 dr3 => ?_⟩
      have le3 := dr3.le
      have ef3 := dr3.at off ef
      refine s_appP (i := 4) (fun x H' => ∃ (o : List Int) (n' : Int), H' fo = some (.lst refs) ∧ Same (hs [d, b, fo] H2) (hs [d, b, fo] H') ∧ Dr d b c (n1 + 2 * i + 1 + 1) H1 n' H' ∧ OffOk m o ∧ Da K (hs [d, b, fo] H') x (offD o)) rfl ef3 (fun Q' q' => ?_) ?_
      · refine ⟨.ref po, rfl, .int v, rfl, v, rfl, .int v, rfl, v, 1, rfl, rfl, .ref d, rfl, .int m, rfl, d, b, c, n3, m, rfl, dr3.dk, by omega, by omega, by omega, fun u n4 H4 u0 u1 dr4 => ?_⟩
        have ef4 := dr4.at off ef3
        have drs4 := (dr.step dr3).step dr4
        have hord4 : SqT K H4 po (ord.map V.int) := Same.mskT (Same.tq drs4.sm hord)
        have s24 : Same (hs [d, b, fo] H2) (hs [d, b, fo] H4) := hs_msk (dr3.sm.trans dr4.sm) (by simp) (by simp)
        have fin : ∀ (H5 : Hp), Same H4 H5 → ∀ (l : Addr) (o : List Int) (H' : Hp), Same H5 H' → H5 l = none → H' l = some (.tup (o.map V.int)) → OffOk m o → Q' (.ref l) H' := fun H5 s5 l o H' s' hl hl' ho => by
          have s4' := s5.trans s'
          have x := drs4.dk.off (s5.free hl)
          have xf : l ≠ fo := fun z => by
            rw [z, s5 _ _ ef4] at hl
            cases hl
          refine q' _ _ ⟨o, n4, s4' _ _ ef4, s24.trans (hs_mono s4'), drs4.more s4', ho, da_off (SqT.of (hs_at (by simp [x.1, x.2.1, xf]) hl'))⟩
        obtain ⟨ms, ems, hms⟩ := cut_ints ord (some v) (some (v + 1 + u))
        refine ⟨v + 1, u, rfl, rfl, v + 1 + u, rfl, po, _, rfl, hord4, fun _ => ?_, fun _ p hp => ?_⟩
        · exact srt pm (List.Sublist.refl _) hord4 (fin H4 (Same.refl _))
        · rw [ems]
          exact srt pm hms (SqT.of upd_same) (fin _ (same_upd hp))
      · rintro x H' ⟨o, n', ef', sm', dr', ho, hx⟩
        refine ⟨refs, ef', ?_, _, _, rfl, Fnd.add hD1 hfo hda hlen hok sm' n' dr' (by omega) ho hx⟩
        rw [DaAll.len hda, List.length_map]
        exact small1000 (by omega)
    · rintro σ H2 ⟨y5, y6, rfl, refs, os, n2, ef, hda, hlen, hok, dr⟩
      refine ⟨.int m, rfl, .ref fo, rfl, mk_end (n := n) (dr1.step (k := 2 * k) (dr.wide (by simp))) ef (hda.mono (hs_to_msk (by simp) (by simp))) fun v H3 dr3 hv => q v os n2 H3 (dr3.wide (by omega)) (by simpa using hlen) hok hv⟩
abbrev sAr : Stmt := topS 20
theorem scAr : FnScope ["_law_deck_here", "_law_demands", "_law_offers", "_law_order", "_law_size", "_law_found", "_law_k"] ["_law_deck_here", "_law_demands", "_law_offers"] (defScope sAr) := ⟨rfl, rfl, rfl, by decide +kernel, rfl, by decide +kernel, by decide +kernel⟩
set_option maxHeartbeats 2000000 in
theorem ok_around {f : Addr} {fd : FuncData} (F : Fun K "_law_around" "_law_around" sAr f fd) (B : Bn mg) (c_law_next : Cl P w K mg base 1 "_law_next" ["_law_deck_here", "_law_many"] spNext)
    (c_law_shuffled : Cl P w K mg base 2 "_law_shuffled" ["_law_deck_here", "_law_count"] (spShuf K)) (c_law_part : Cl P w K mg base 2 "_law_part" ["_law_deck_here", "_law_items", "_law_share"] (spPart K)) : FnOk P w K mg base CX0 3 f fd ["_law_deck_here", "_law_demands", "_law_offers"] (spMk K) := by
  refine F.ok scAr (fun vs H Q E h => ?_) (fun cdv A outer s H vs Q E hr h => ?_)
  · obtain ⟨d, b, c, n, m, k, rfl, _⟩ := h
    rfl
  · obtain ⟨d, b, c, n, m, k, rfl, hD, hn, m1, m10, k10, q⟩ := h
    have nd := scAr.nd
    refine ⟨_, (pss_cons (ps_par (i := 3) (j := 4) rfl nd rfl rfl (by decide) rfl rfl (pa_cons (pe_k c_law_shuffled hr (by decide) rfl (pa_cons (pv 0) (pa_cons (pv 1) pa_nil))) (pa_cons (pe_op op_add pe_int (pe_k c_law_next hr (by decide) rfl (pa_cons (pv 0) (pa_cons pe_int pa_nil)))) pa_nil)) (by rfl))
      (pss_cons (ps_set (i := 5) nd rfl (Or.inr rfl) (pe_lst pa_nil))
      (pss_cons (ps_for PassesOwn.never rfl (pi_range1 rfl B.range (pa_cons (pv 2) pa_nil)) (pg_name (i := 6) nd rfl (Or.inl rfl)) (pss_one (ps_if (PW.pt (pw_and (pt_cmpR op_le (pv 4) (pv 1) (nomark _)) (pw_and1 (pt_cmpR op_lt (pv 6) (pv 4) (nomark _))))) (pss_one (ps_expr (pe_bm PySem.F.plainAttrs_list PySem.F.slot_list_append PySem.F.type_list_append mt_append (pv 5) (pa_cons (pe_callTy call_tuple_of rfl B.tuple bt_tuple (pa_cons (pe_callB cr_sorted rfl B.sorted bt_sorted (pa_cons (pe_op op_cat (pe_lst (pa_cons (pe_ix ix_tup (pv 3) (pv 6) (fun _ _ => rfl)) (pa_cons (pe_ix ix_tup (pv 3) (pe_op op_mod (pe_op op_add (pv 6) pe_int) (pv 4)) (fun _ _ => rfl)) pa_nil))) (pe_callTy call_list_of rfl B.list bt_list (pa_cons (pe_k c_law_part hr (by decide) rfl (pa_cons (pv 0) (pa_cons (pe_slice sl_tupA (pv 3) (po_some (pv 4)) po_none) (pa_cons pe_int pa_nil)))) pa_nil))) pa_nil)) pa_nil)) pa_nil)))) (pss_one (ps_expr (pe_bm PySem.F.plainAttrs_list PySem.F.slot_list_append PySem.F.type_list_append mt_append (pv 5) (pa_cons (pe_k c_law_part hr (by decide) rfl (pa_cons (pv 0) (pa_cons (pe_listRg rfl rfl B.list (prg_1 rfl B.range (pv 1))) (pa_cons (pe_op op_add pe_int (pe_k c_law_next hr (by decide) rfl (pa_cons (pv 0) (pa_cons pe_int pa_nil)))) pa_nil)))) pa_nil)))))))
      (pss_one (ps_ret (pe_tup (pa_cons (pv 1) (pa_cons (pe_callTy call_tuple_of rfl B.tuple bt_tuple (pa_cons (pe_lc (own := [("_law_k", 6)]) (g := gName 6) rfl nd (pi_range1 rfl B.range (pa_cons (pv 2) pa_nil)) (blkOk_by (own := [("_law_k", 6)]) (N := ["_law_deck_here", "_law_demands", "_law_offers", "_law_order", "_law_size", "_law_found", "_law_k"]) (sc := defScope sAr) (by decide +kernel)) (fun _ _ _ _ _ => (pg_name (i := 6) nd rfl (Or.inl rfl))) (fun _ _ _ _ _ => pts_nil) (fun _ _ _ _ _ => (pe_bmK (K := K) rfl (pe_bm PySem.F.plainAttrs_list PySem.F.slot_list_pop PySem.F.type_list_pop mt_popAt (pv 5) (pa_cons (pe_k c_law_next hr (by decide) rfl (pa_cons (pv 0) (pa_cons (pe_callB (call_len_seqK (K := K) rfl) rfl B.len bt_len (pa_cons (pv 5) pa_nil)) pa_nil))) pa_nil))))) pa_nil)) pa_nil)))))))), ?_⟩
    refine ⟨.ref d, rfl, .int m, rfl, d, b, c, n, m, rfl, hD, by omega, by omega, fun po ord n0 H0 pm dr0 hord0 => ⟨.ref d, rfl, d, b, c, n0, 3, rfl, dr0.dk, by have := dr0.le; omega, by decide, by decide, fun v n1 H1 v0 v1 dr01 => ⟨3, v, rfl, rfl, .ref po, .int (3 + v), rfl, ?_⟩⟩⟩
    obtain ⟨sz, hsz⟩ : ∃ sz : Nat, 3 + v = (sz : Int) := ⟨(3 + v).toNat, by omega⟩
    have sz3 : 3 ≤ sz := by omega
    have le0 := dr0.le
    have le1 := dr01.le
    have dr1 := dr0.step dr01
    have hord : SqT K (msk d b H1) po (ord.map V.int) := Same.tq dr01.sm hord0
    have hD1 := dr01.dk
    have olen : ord.length = m := by
      rw [pm.length_eq, ints_len]
    rw [hsz]
    refine ⟨Nat.zero_le _, fun fo hfo => ?_⟩
    have off := hD1.off hfo
    refine Evl.q_forR1 (n := (k : Int)) (Evl.ea_cons (Evl.ev_var rfl) Evl.ea_nil) (by omega) (fun i σ H2 => ∃ (y6 : Option V), σ = [some (.ref d), some (.int m), some (.int k), some (.ref po), some (.int sz), some (.ref fo), y6] ∧ Fnd K d b c fo m (n1 + 12 * i) H1 i H2)
      (fun H2 e2 => ⟨none, rfl, [], [], n1, e2 _ _ upd_same, .nil, rfl, fun o ho => absurd ho List.not_mem_nil, (((Dr.refl hD1).new hfo).more e2).wide (by omega)⟩) ?_ ?_
    · rintro i σ H2 hi ⟨y6, rfl, refs, os, n2, ef, hda, hlen, hok, dr⟩
      have le2 := dr.le
      have rl : refs.length = i := by
        rw [DaAll.len hda, List.length_map, hlen]
      have add : ∀ (x : V) (H' : Hp), (∃ (o : List Int) (n' : Int), H' fo = some (.lst refs) ∧ Same (hs [d, b, fo] H2) (hs [d, b, fo] H') ∧ Dr d b c (n1 + 12 * i + 12) H1 n' H' ∧ OffOk m o ∧ Da K (hs [d, b, fo] H') x (offD o)) →
          ∃ xs, H' fo = some (.lst xs) ∧ xs.length < sizeLine ∧ ∃ (y6 : Option V), [some (.ref d), some (.int m), some (.int k), some (.ref po), some (.int sz), some (.ref fo), some (.int i)] = [some (.ref d), some (.int m), some (.int k), some (.ref po), some (.int sz), some (.ref fo), y6] ∧ Fnd K d b c fo m (n1 + 12 * (i + 1 : Nat)) H1 (i + 1) (upd H' fo (.lst (xs ++ [x]))) := by
        rintro x H' ⟨o, n', ef', sm', dr', ho, hx⟩
        exact ⟨refs, ef', small1000 (by omega), _, rfl, Fnd.add hD1 hfo hda hlen hok sm' n' dr' (by omega) ho hx⟩
      have part : Ew (tCall (spPart K) [] E0 (tCons (tVar 0) (tCons (tLstRg (tRg1 (tVar 1))) (tCons (tOp (rI0 fun i j => .int (i + j)) (tC (.int 1)) (tCall spNext [] E0 (tCons (tVar 0) (tCons (tC (.int 3)) tNil)))) tNil)))) [some (.ref d), some (.int m), some (.int k), some (.ref po), some (.int sz), some (.ref fo), some (.int i)] H2
            (fun x H' => ∃ (o : List Int) (n' : Int), H' fo = some (.lst refs) ∧ Same (hs [d, b, fo] H2) (hs [d, b, fo] H') ∧ Dr d b c (n1 + 12 * i + 12) H1 n' H' ∧ OffOk m o ∧ Da K (hs [d, b, fo] H') x (offD o)) := by
        intro Q' q'
        refine ⟨.ref d, rfl, .int m, rfl, m, rfl, RgOk.of_le (by omega) (by omega) (by omega) (by omega), fun l hl => ?_⟩
        rw [rgV_ints]
        have x := dr.dk.off hl
        have dr2 := dr.new (o := .lst ((upto m).map V.int)) hl
        have ef2 := same_upd (o := .lst ((upto m).map V.int)) hl _ _ ef
        refine ⟨.ref d, rfl, d, b, c, n2, 3, rfl, dr2.dk, by omega, by decide, by decide, fun u n3 H3 u0 u1 dr3 => ⟨1, u, rfl, rfl, ?_⟩⟩
        have drs3 := dr2.step dr3
        have le3 := dr3.le
        refine ⟨d, b, c, l, n3, 1 + u, upto m, rfl, dr3.dk, by omega, by rw [ints_len]; omega, .inl (Same.seq dr3.sm (SqL.of (at_msk x upd_same))), fun p ms n4 H4 hms dr4 hp => ?_⟩
        rw [ints_len] at dr4
        have ef4 := dr4.at off (dr3.at off ef2)
        exact q' _ _ ⟨ms, n4, ef4, (hs_mono (same_upd hl)).trans (hs_msk (dr3.sm.trans dr4.sm) (by simp) (by simp)), (drs3.step dr4).wide (by omega), off_sub hms, da_off (sqT_hs hp ef4)⟩
      refine ⟨.int sz, rfl, .int m, rfl, sz, m, rfl, rfl, _, rfl, ?_⟩
      cases hb1 : decide ((sz : Int) ≤ (m : Int)) with
      | false => exact iteF (iteF (s_appP _ rfl ef part add))
      | true =>
        have szm : sz ≤ m := by
          have := of_decide_eq_true hb1
          omega
        refine iteT ⟨.int i, rfl, .int sz, rfl, i, sz, rfl, rfl, _, rfl, ?_⟩
        cases hb2 : decide ((i : Int) < (sz : Int)) with
        | false => exact iteF (s_appP _ rfl ef part add)
        | true =>
          have isz : i < sz := by
            have := of_decide_eq_true hb2
            omega
          refine iteT (s_appP _ rfl ef (fun Q' q' => ?_) add)
          have hord2 : SqT K (msk d b H2) po (ord.map V.int) := Same.tq dr.sm hord
          have il : i < ord.length := by omega
          obtain ⟨j, ej⟩ : ∃ j : Nat, j = (i + 1) % sz := ⟨_, rfl⟩
          have jl : j < ord.length := by
            have := Nat.mod_lt (i + 1) (show 0 < sz by omega)
            omega
          have ejI : ((i : Int) + 1) % (sz : Int) = (j : Int) := by
            rw [ej]
            simp
          have gi : (ord.map V.int)[i]? = some (.int ord[i]) := by
            rw [List.getElem?_map, List.getElem?_eq_getElem il]
            rfl
          have gj : (ord.map V.int)[j]? = some (.int ord[j]) := by
            rw [List.getElem?_map, List.getElem?_eq_getElem jl]
            rfl
          refine ⟨.ref po, rfl, .int i, rfl, po, _, i, .int ord[i], rfl, rfl, Same.mskT hord2, atI_nat gi, .ref po, rfl, .int i, rfl, i, 1, rfl, rfl, .int sz, rfl, _, sz, rfl, rfl, (by show (0 : Int) < sz; omega), po, _, _, .int ord[j], rfl, rfl, Same.mskT hord2, (by rw [ejI]; exact atI_nat gj), sz2, fun l1 hl1 => ?_⟩
          have x1 := dr.dk.off hl1
          have dr3 := dr.new (o := .lst [V.int ord[i], V.int ord[j]]) hl1
          have e1 : (upd H2 l1 (.lst [V.int ord[i], V.int ord[j]])) l1 = some (.lst [V.int ord[i], V.int ord[j]]) := upd_same
          have ef3 := same_upd (o := .lst [V.int ord[i], V.int ord[j]]) hl1 _ _ ef
          have sm3 : Same (hs [d, b, fo] H2) (hs [d, b, fo] (upd H2 l1 (.lst [V.int ord[i], V.int ord[j]]))) := hs_mono (same_upd hl1)
          have hord3 : SqT K (msk d b (upd H2 l1 (.lst [V.int ord[i], V.int ord[j]]))) po (ord.map V.int) := Same.tq (msk_same (same_upd hl1)) hord2
          generalize upd H2 l1 (.lst [V.int ord[i], V.int ord[j]]) = H3 at *
          refine ⟨.ref d, rfl, .ref po, rfl, .int sz, rfl, sz, rfl, ?_⟩
          dsimp only [tNoPart]
          refine slA_msk (K := K) dr3.dk hord3 fun a H4 s4 ha => ?_
          rw [cut_from (by omega)] at ha
          have dr4 := dr3.more s4
          have le4 := dr4.le
          have dlen : (ord.drop sz).length ≤ 10 := by
            rw [List.length_drop]
            omega
          refine ⟨d, b, c, a, n2, 3, ord.drop sz, rfl, dr4.dk, by omega, by omega, .inr ha, fun p ms n5 H5 hms dr5 hp => ?_⟩
          have dr45 := (dr4.step dr5).wide (k := n1 + 12 * i + 12) (by omega)
          have e5 := dr5.at x1 (s4 _ _ e1)
          have ef5 := dr5.at off (s4 _ _ ef3)
          have sm5 := (sm3.trans (hs_mono s4)).trans (hs_msk (S := [d, b, fo]) dr5.sm (by simp) (by simp))
          have mlen : ms.length ≤ 10 := Nat.le_trans hms.length_le dlen
          refine ⟨p, _, rfl, .inr (Same.mskT hp), fun l2 hl2 => ?_⟩
          have s6 : Same H5 (upd H5 l2 (.lst (ms.map V.int))) := same_upd hl2
          refine ⟨l1, l2, _, _, rfl, rfl, s6 _ _ e5, upd_same, ?_, fun l3 hl3 => ?_⟩
          · rw [List.length_map]
            exact Pb.sz (by simp; omega)
          · have e7 : (upd (upd H5 l2 (.lst (ms.map V.int))) l3 (.lst ([V.int ord[i], V.int ord[j]] ++ ms.map V.int))) l3 = some (.lst (([ord[i], ord[j]] ++ ms).map V.int)) := by
              rw [upd_same, List.map_append]
              rfl
            have s7 := s6.trans (same_upd (o := .lst ([V.int ord[i], V.int ord[j]] ++ ms.map V.int)) hl3)
            generalize upd (upd H5 l2 (.lst (ms.map V.int))) l3 (.lst ([V.int ord[i], V.int ord[j]] ++ ms.map V.int)) = H7 at *
            refine ⟨l3, [ord[i], ord[j]] ++ ms, rfl, SqL.of e7, by rw [List.length_append]; simp; omega, fun o p2 hpm hle hp2 => ⟨p2, _, rfl, .inl ⟨SqL.of upd_same, fun t ht => ?_⟩⟩⟩
            have s8 := (s7.trans (same_upd (o := .lst (o.map V.int)) hp2)).trans (same_upd (o := .tup (o.map V.int)) ht)
            have xt := dr45.dk.off ((s7.trans (same_upd (o := .lst (o.map V.int)) hp2)).free ht)
            have xf : t ≠ fo := fun z => by
              rw [z, (s7.trans (same_upd (o := .lst (o.map V.int)) hp2)) _ _ ef5] at ht
              cases ht
            exact q' _ _ ⟨o, n5, s8 _ _ ef5, sm5.trans (hs_mono s8), dr45.more s8, off_around pm (by omega) sz3 isz ej jl il hms hpm hle, da_off (SqT.of (hs_at (by simp [xt.1, xt.2.1, xf]) upd_same))⟩
    · rintro σ H2 ⟨y6, rfl, refs, os, n2, ef, hda, hlen, hok, dr⟩
      have hlen' : os.length = k := by simpa using hlen
      have le2 := dr.le
      refine ⟨.int m, rfl, .int k, rfl, k, rfl, by omega, by omega, fun D hDn => ?_⟩
      have nf : fo ≠ D := fun z => by
        rw [z] at ef
        rw [ef] at hDn
        cases hDn
      have offD := dr.dk.off hDn
      have hD1n : H1 D = none := dr.free hDn
      refine lc_range (lo := 0) (n := k) (fun i H' => ∃ (rs ds : List V) (os1 os2 : List (List Int)) (n' : Int), H' fo = some (.lst rs) ∧ H' D = some (.lst ds) ∧ DaAll K (hs [d, b, fo, D] H') rs (os1.map Pb.offD) ∧ DaAll K (hs [d, b, fo, D] H') ds (os2.map Pb.offD) ∧
          os1.length + i = k ∧ os2.length = i ∧ (∀ o ∈ os1, OffOk m o) ∧ (∀ o ∈ os2, OffOk m o) ∧ Dr d b c (n1 + 12 * k + i) H1 n' H') ⟨refs, [], os, [], n2, ?_, upd_same, ?_, .nil, by omega, rfl, hok, fun o ho => absurd ho List.not_mem_nil, (dr.new hDn).wide (by simp)⟩ ?_ ?_
      · rw [upd_ne nf]
        exact ef
      · refine hda.mono fun a o e => ?_
        obtain ⟨z1, z2⟩ := hs_some e
        have za : a ≠ D := fun z => by
          rw [z, hDn] at z2
          cases z2
        rw [hs_out (by simp at z1 ⊢; exact ⟨z1.1, z1.2.1, z1.2.2, za⟩), upd_ne za]
        exact z2
      · rintro i H' hi ⟨rs, ds, os1, os2, n3, e1, e2, h1, h2, l1, l2, k1, k2, dr3⟩
        have rsl : rs.length = os1.length := by
          rw [DaAll.len h1, List.length_map]
        have le3 := dr3.le
        refine ⟨rfl, ?_⟩
        dsimp only [tYes]
        refine iteT ?_
        refine ⟨.ref fo, rfl, .inl ⟨rfl, _, SqL.of e1⟩, .ref d, rfl, .ref fo, rfl, fo, _, rfl, .inl (SqL.of e1), d, b, c, n3, _, rfl, dr3.dk, by omega, by omega, by omega, fun u n4 H4 u0 u1 dr4 => ?_⟩
        obtain ⟨j, rfl⟩ : ∃ j : Nat, u = (j : Int) := ⟨u.toNat, by omega⟩
        have hj : j < rs.length := by omega
        have offF : fo ≠ d ∧ fo ≠ b ∧ fo ≠ c := off
        have e14 := dr4.at offF e1
        have e24 := dr4.at offD e2
        have sm4 : Same (hs [d, b, fo, D] H') (hs [d, b, fo, D] H4) := hs_msk dr4.sm (by simp) (by simp)
        have hjo : j < os1.length := by omega
        refine ⟨fo, rs, j, j, rs[j], rfl, rfl, e14, by omega, by omega, seqIndex_nat hj, List.getElem?_eq_getElem hj, ds, ?_, ?_, rs.eraseIdx j, ds ++ [rs[j]], os1.eraseIdx j, os2 ++ [os1[j]], n4, ?_, upd_same, ?_, ?_, ?_, ?_, ?_, ?_, ?_⟩
        · rw [upd_ne nf.symm]
          exact e24
        · rw [DaAll.len h2, List.length_map]
          exact small1000 (by omega)
        · rw [upd_ne nf, upd_same]
        · rw [hs_put (by simp), hs_put (by simp), ← map_erase]
          exact (h1.mono sm4).erase j
        · rw [hs_put (by simp), hs_put (by simp), List.map_append]
          refine (h2.mono sm4).append (.cons ?_ .nil)
          obtain ⟨e, he, hd⟩ := DaAll.get (h1.mono sm4) (List.getElem?_eq_getElem hj)
          rw [List.getElem?_map, List.getElem?_eq_getElem hjo] at he
          have ee : Pb.offD os1[j] = e := Option.some.inj he
          rw [ee]
          exact hd
        · rw [List.length_eraseIdx_of_lt hjo]
          omega
        · rw [List.length_append, l2]
          rfl
        · exact fun o ho => k1 o (List.mem_of_mem_eraseIdx ho)
        · intro o ho
          rcases List.mem_append.mp ho with ho | ho
          · exact k2 o ho
          · have e : o = os1[j] := by simpa using ho
            rw [e]
            exact k1 _ (List.getElem_mem _)
        · exact ((((dr3.step dr4).put hD1 hfo).put hD1 hD1n)).wide (by omega)
      · rintro H' ⟨rs, ds, os1, os2, n3, e1, e2, h1, h2, l1, l2, k1, k2, dr3⟩
        exact mk_end (n := n) (dr1.step (k := 12 * k + k) (dr3.wide (by omega))) e2 (h2.mono (hs_to_msk (by simp) (by simp))) fun v H3 dr4 hv => q v os2 n3 H3 (dr4.wide (by omega)) l2 k2 hv
abbrev sAny : Stmt := topS 21
theorem scAny : FnScope ["_law_deck_here", "_law_demands", "_law_offers", "_law_share", "_law_found", "_law_k"] ["_law_deck_here", "_law_demands", "_law_offers"] (defScope sAny) := ⟨rfl, rfl, rfl, by decide +kernel, rfl, by decide +kernel, by decide +kernel⟩
set_option maxHeartbeats 1000000 in
theorem ok_any {f : Addr} {fd : FuncData} (F : Fun K "_law_any" "_law_any" sAny f fd) (B : Bn mg) (c_law_next : Cl P w K mg base 1 "_law_next" ["_law_deck_here", "_law_many"] spNext)
    (c_law_one : Cl P w K mg base 2 "_law_one" ["_law_deck_here", "_law_some"] (spOne K)) (c_law_part : Cl P w K mg base 2 "_law_part" ["_law_deck_here", "_law_items", "_law_share"] (spPart K)) : FnOk P w K mg base CX0 3 f fd ["_law_deck_here", "_law_demands", "_law_offers"] (spMk K) := by
  refine F.ok scAny (fun vs H Q E h => ?_) (fun cdv A outer s H vs Q E hr h => ?_)
  · obtain ⟨d, b, c, n, m, k, rfl, _⟩ := h
    rfl
  · obtain ⟨d, b, c, n, m, k, rfl, hD, hn, m1, m10, k10, q⟩ := h
    have nd := scAny.nd
    refine ⟨_, (pss_cons (ps_par (i := 3) (j := 4) rfl nd rfl rfl (by decide) rfl rfl (pa_cons (pe_k c_law_next hr (by decide) rfl (pa_cons (pv 0) (pa_cons pe_int pa_nil))) (pa_cons (pe_lst pa_nil) pa_nil)) (by rfl))
      (pss_cons (ps_for PassesOwn.never rfl (pi_range1 rfl B.range (pa_cons (pv 2) pa_nil)) (pg_name (i := 5) nd rfl (Or.inl rfl)) (pss_one (ps_if (PW.pt (pw_and (pt_cmpR (op_ne0 hr.units) (pv 4) (pe_lst pa_nil) (nomark _)) (pw_and1 (pt_cmpR op_eq (pe_k c_law_next hr (by decide) rfl (pa_cons (pv 0) (pa_cons pe_int pa_nil))) pe_int (nomark _))))) (pss_one (ps_expr (pe_bm PySem.F.plainAttrs_list PySem.F.slot_list_append PySem.F.type_list_append mt_append (pv 4) (pa_cons (pe_k c_law_one hr (by decide) rfl (pa_cons (pv 0) (pa_cons (pv 4) pa_nil))) pa_nil)))) (pss_one (ps_expr (pe_bm PySem.F.plainAttrs_list PySem.F.slot_list_append PySem.F.type_list_append mt_append (pv 4) (pa_cons (pe_k c_law_part hr (by decide) rfl (pa_cons (pv 0) (pa_cons (pe_listRg rfl rfl B.list (prg_1 rfl B.range (pv 1))) (pa_cons (pv 3) pa_nil)))) pa_nil)))))))
      (pss_one (ps_ret (pe_tup (pa_cons (pv 1) (pa_cons (pe_callTy call_tuple_of rfl B.tuple bt_tuple (pa_cons (pv 4) pa_nil)) pa_nil))))))), ?_⟩
    refine ⟨.ref d, rfl, d, b, c, n, 4, rfl, hD, by omega, by decide, by decide, fun sh n1 H1 s0 s1 dr1 => ⟨Nat.zero_le _, fun fo hfo => ⟨.int sh, .ref fo, rfl, ?_⟩⟩⟩
    have hD1 := dr1.dk
    have off := hD1.off hfo
    have le1 := dr1.le
    refine Evl.q_forR1 (n := (k : Int)) (Evl.ea_cons (Evl.ev_var rfl) Evl.ea_nil) (by omega) (fun i σ H2 => ∃ (y5 : Option V), σ = [some (.ref d), some (.int m), some (.int k), some (.int sh), some (.ref fo), y5] ∧ Fnd K d b c fo m (n1 + 12 * i) H1 i H2)
      (fun H2 e2 => ⟨none, rfl, [], [], n1, e2 _ _ upd_same, .nil, rfl, fun o ho => absurd ho List.not_mem_nil, (((Dr.refl hD1).new hfo).more e2).wide (by omega)⟩) ?_ ?_
    · rintro i σ H2 hi ⟨y5, rfl, refs, os, n2, ef, hda, hlen, hok, dr⟩
      have le2 := dr.le
      have rl : refs.length = i := by
        rw [DaAll.len hda, List.length_map, hlen]
      have key : ∀ (H' : Hp) (n' : Int), H' fo = some (.lst refs) → Same (hs [d, b, fo] H2) (hs [d, b, fo] H') → Dr d b c (n1 + 12 * i + 1) H1 n' H' →
          Ew (tCall (spPart K) [] E0 (tCons (tVar 0) (tCons (tLstRg (tRg1 (tVar 1))) (tCons (tVar 3) tNil)))) [some (.ref d), some (.int m), some (.int k), some (.int sh), some (.ref fo), some (.int i)] H'
            (fun x H' => ∃ (o : List Int) (n' : Int), H' fo = some (.lst refs) ∧ Same (hs [d, b, fo] H2) (hs [d, b, fo] H') ∧ Dr d b c (n1 + 12 * i + 12) H1 n' H' ∧ OffOk m o ∧ Da K (hs [d, b, fo] H') x (offD o)) := by
        intro H' n' ef' sm' dr' Q' q'
        have le' := dr'.le
        refine ⟨.ref d, rfl, .int m, rfl, m, rfl, RgOk.of_le (by omega) (by omega) (by omega) (by omega), fun l hl => ?_⟩
        rw [rgV_ints]
        have x := dr'.dk.off hl
        have dr2 := dr'.new (o := .lst ((upto m).map V.int)) hl
        have ef2 := same_upd (o := .lst ((upto m).map V.int)) hl _ _ ef'
        refine ⟨.int sh, rfl, d, b, c, l, n', sh, upto m, rfl, dr2.dk, by omega, by rw [ints_len]; omega, .inl (SqL.of (at_msk x upd_same)), fun p ms n3 H3 hms dr3 hp => ?_⟩
        rw [ints_len] at dr3
        have ef3 := dr3.at off ef2
        have drs := dr2.step dr3
        refine q' _ _ ⟨ms, n3, ef3, sm'.trans ((hs_mono (same_upd hl)).trans (hs_msk dr3.sm (by simp) (by simp))), drs.wide (by omega), off_sub hms, da_off ?_⟩
        exact sqT_hs hp ef3
      have add : ∀ (x : V) (H' : Hp), (∃ (o : List Int) (n' : Int), H' fo = some (.lst refs) ∧ Same (hs [d, b, fo] H2) (hs [d, b, fo] H') ∧ Dr d b c (n1 + 12 * i + 12) H1 n' H' ∧ OffOk m o ∧ Da K (hs [d, b, fo] H') x (offD o)) →
          ∃ xs, H' fo = some (.lst xs) ∧ xs.length < sizeLine ∧ ∃ (y5 : Option V), [some (.ref d), some (.int m), some (.int k), some (.int sh), some (.ref fo), some (.int i)] = [some (.ref d), some (.int m), some (.int k), some (.int sh), some (.ref fo), y5] ∧ Fnd K d b c fo m (n1 + 12 * (i + 1 : Nat)) H1 (i + 1) (upd H' fo (.lst (xs ++ [x]))) := by
        rintro x H' ⟨o, n', ef', sm', dr', ho, hx⟩
        exact ⟨refs, ef', small1000 (by omega), _, rfl, Fnd.add hD1 hfo hda hlen hok sm' n' dr' (by omega) ho hx⟩
      refine ⟨.ref fo, rfl, Nat.zero_le _, fun p hp => ⟨fo, p, refs, rfl, rfl, SqL.of (same_upd hp _ _ ef), SqL.of upd_same, _, rfl, ?_⟩⟩
      have ef3 := same_upd (o := .lst []) hp _ _ ef
      have sm3 : Same (hs [d, b, fo] H2) (hs [d, b, fo] (upd H2 p (.lst []))) := hs_mono (same_upd hp)
      have dr3 := dr.new (o := .lst []) hp
      generalize upd H2 p (.lst []) = H3 at ef3 sm3 dr3 ⊢
      cases hre : refs.isEmpty with
      | true => exact iteF (iteF (s_appP _ rfl ef3 (key H3 n2 ef3 sm3 (dr3.wide (by omega))) add))
      | false =>
        refine iteT ⟨.ref d, rfl, d, b, c, n2, 6, rfl, dr3.dk, by omega, by decide, by decide, fun v n4 H4 v0 v1 dr4 => ⟨rfl, _, rfl, ?_⟩⟩
        have ef4 := dr4.at off ef3
        have sm4 := sm3.trans (hs_msk (S := [d, b, fo]) dr4.sm (by simp) (by simp))
        have drs4 := dr3.step dr4
        have le4 := drs4.le
        refine ite2 (fun _ => ?_) (fun _ => s_appP _ rfl ef4 (key H4 n4 ef4 sm4 drs4) add)
        refine s_appP _ rfl ef4 (fun Q' q' => ?_) add
        refine ⟨.ref d, rfl, .ref fo, rfl, d, b, c, fo, n4, refs, rfl, dr4.dk, by omega, ?_, by omega, SqL.of (at_msk off ef4), fun x n5 H5 hx dr5 => ?_⟩
        · intro z
          rw [z] at hre
          cases hre
        · have sm5 := sm4.trans (hs_msk (S := [d, b, fo]) dr5.sm (by simp) (by simp))
          obtain ⟨e, he, hxe⟩ := DaAll.mem (hda.mono sm5) hx
          obtain ⟨o, ho, rfl⟩ := List.mem_map.mp he
          exact q' _ _ ⟨o, n5, dr5.at off ef4, sm5, (drs4.step dr5).wide (by omega), hok o ho, hxe⟩
    · rintro σ H2 ⟨y5, rfl, refs, os, n2, ef, hda, hlen, hok, dr⟩
      refine ⟨.int m, rfl, .ref fo, rfl, mk_end (n := n) (dr1.step (k := 12 * k) (dr.wide (by simp))) ef (hda.mono (hs_to_msk (by simp) (by simp))) fun v H3 dr3 hv => q v os n2 H3 (dr3.wide (by omega)) (by simpa using hlen) hok hv⟩
abbrev sTab : Stmt := topS 22
theorem scTab : FnScope ["_law_deck_here", "_law_demands", "_law_offers", "_law_way"] ["_law_deck_here", "_law_demands", "_law_offers"] (defScope sTab) := ⟨rfl, rfl, rfl, by decide +kernel, rfl, by decide +kernel, by decide +kernel⟩
set_option maxHeartbeats 1000000 in
theorem ok_mktab {f : Addr} {fd : FuncData} (F : Fun K "_law_table" "_law_table" sTab f fd) (B : Bn mg) (c_law_next : Cl P w K mg base 1 "_law_next" ["_law_deck_here", "_law_many"] spNext)
    (c_law_intervals : Cl P w K mg base 3 "_law_intervals" ["_law_deck_here", "_law_demands", "_law_offers"] (spMk K)) (c_law_around : Cl P w K mg base 3 "_law_around" ["_law_deck_here", "_law_demands", "_law_offers"] (spMk K))
    (c_law_any : Cl P w K mg base 3 "_law_any" ["_law_deck_here", "_law_demands", "_law_offers"] (spMk K)) : FnOk P w K mg base CX0 4 f fd ["_law_deck_here", "_law_demands", "_law_offers"] (spTable K) := by
  refine F.ok scTab (fun vs H Q E h => ?_) (fun cdv A outer s H vs Q E hr h => ?_)
  · obtain ⟨d, b, c, n, m, k, rfl, _⟩ := h
    rfl
  · obtain ⟨d, b, c, n, m, k, rfl, hD, hn, m1, m10, k10, q⟩ := h
    have nd := scTab.nd
    refine ⟨_, (pss_cons (ps_par (i := 1) (j := 2) rfl nd rfl rfl (by decide) rfl rfl (pa_cons (pe_op op_add pe_int (pe_k c_law_next hr (by decide) rfl (pa_cons (pv 0) (pa_cons (pv 1) pa_nil)))) (pa_cons (pe_k c_law_next hr (by decide) rfl (pa_cons (pv 0) (pa_cons (pe_op op_add (pv 2) pe_int) pa_nil))) pa_nil)) (by rfl))
      (pss_cons (ps_set (i := 3) nd rfl (Or.inl rfl) (pe_k c_law_next hr (by decide) rfl (pa_cons (pv 0) (pa_cons pe_int pa_nil))))
      (pss_cons (ps_if (pt_cmpR op_lt (pv 3) pe_int (nomark _)) (pss_one (ps_ret (pe_k c_law_intervals hr (by decide) rfl (pa_cons (pv 0) (pa_cons (pv 1) (pa_cons (pv 2) pa_nil)))))) pss_nil)
      (pss_one (ps_ret (pe_ifExp (pt_cmpR op_eq (pv 3) pe_int (nomark _)) (pe_k c_law_around hr (by decide) rfl (pa_cons (pv 0) (pa_cons (pv 1) (pa_cons (pv 2) pa_nil)))) (pe_k c_law_any hr (by decide) rfl (pa_cons (pv 0) (pa_cons (pv 1) (pa_cons (pv 2) pa_nil)))))))))), ?_⟩
    refine ⟨.ref d, rfl, .int m, rfl, d, b, c, n, m, rfl, hD, by omega, by omega, by omega, fun v n1 H1 v0 v1 dr1 => ⟨1, v, rfl, rfl, ?_⟩⟩
    have le1 := dr1.le
    refine ⟨.ref d, rfl, .int k, rfl, k, 1, rfl, rfl, d, b, c, n1, _, rfl, dr1.dk, by omega, by omega, by omega, fun u n2 H2 u0 u1 dr2 => ⟨.int (1 + v), .int u, rfl, ?_⟩⟩
    have le2 := dr2.le
    refine ⟨.ref d, rfl, d, b, c, n2, 5, rfl, dr2.dk, by omega, by decide, by decide, fun t n3 H3 t0 t1 dr3 => ?_⟩
    have le3 := dr3.le
    have dr13 := (dr1.step dr2).step dr3
    obtain ⟨m', hm'⟩ : ∃ m' : Nat, 1 + v = (m' : Int) := ⟨(1 + v).toNat, by omega⟩
    obtain ⟨k', hk'⟩ : ∃ k' : Nat, u = (k' : Int) := ⟨u.toNat, by omega⟩
    rw [hm', hk']
    have fin : spMk K [.ref d, .int m', .int k'] H3 Q E0 := ⟨d, b, c, n3, m', k', rfl, dr3.dk, by omega, by omega, by omega, by omega, fun x os n4 H4 dr4 hl ho hx => q x m' os n4 H4 ((dr13.step dr4).wide (by omega)) (by omega) (by omega) (by omega) ho hx⟩
    refine ⟨.int t, rfl, t, 2, rfl, rfl, _, rfl, ite2 (fun _ => ?_) (fun _ => ?_)⟩
    · exact ⟨.ref d, rfl, .int m', rfl, .int k', rfl, fin⟩
    · refine ⟨.int t, rfl, rfl, _, rfl, ite2 (fun _ => ?_) (fun _ => ?_)⟩
      · exact ⟨.ref d, rfl, .int m', rfl, .int k', rfl, fin⟩
      · exact ⟨.ref d, rfl, .int m', rfl, .int k', rfl, fin⟩
abbrev sLawTab : Stmt := topS 23
theorem scLawTab : FnScope ["_law_thing", "_law_offer", "_law_one_here"] ["_law_thing"] (defScope sLawTab) := ⟨rfl, rfl, rfl, by decide +kernel, rfl, by decide +kernel, by decide +kernel⟩
set_option maxHeartbeats 2000000 in
theorem ok_lawtab {f : Addr} {fd : FuncData} (F : Fun K "_law_is_table" "_law_is_table" sLawTab f fd) (B : Bn mg) (c_law_whole : Cl P w K mg base 1 "_law_whole" ["_law_thing"] (spV (rInteger K))) :
    FnOk P w K mg base CX0 2 f fd ["_law_thing"] (spV (rTab K)) := by
  refine F.ok scLawTab (fun vs H Q E h => ?_) (fun cdv A outer s H vs Q E hr h => ?_)
  · obtain ⟨z, ⟨x, d, rfl, _⟩, _⟩ := h
    rfl
  · obtain ⟨z, ⟨x, d, rfl, hx, hok, rfl⟩, q⟩ := h
    have nd := scLawTab.nd
    refine ⟨_, (pss_cons (ps_if (PW.pt (pw_or (pt_not (pt_val (pe_callB call_isi rfl B.isinstance bt_isinstance (pa_cons (pv 0) (pa_cons (pe_ty rfl B.tuple bt_tuple) pa_nil))))) (pw_or (pt_cmpR op_ne (pe_callB call_len_seq rfl B.len bt_len (pa_cons (pv 0) pa_nil)) pe_int (nomark _)) (pw_or (pt_not (pt_val (pe_k c_law_whole hr (by decide) rfl (pa_cons (pe_ix ix_tup (pv 0) pe_int (fun _ _ => rfl)) pa_nil)))) (pw_or1 (pt_not (pt_chain op_le op_le pe_int (pe_ix ix_tup (pv 0) pe_int (fun _ _ => rfl)) pe_int))))))) (pss_one (ps_ret pe_bl)) pss_nil)
      (pss_cons (ps_if (PW.pt (pw_or (pt_not (pt_val (pe_callB call_isi rfl B.isinstance bt_isinstance (pa_cons (pe_ix ix_tup (pv 0) pe_int (fun _ _ => rfl)) (pa_cons (pe_ty rfl B.tuple bt_tuple) pa_nil))))) (pw_or1 (pt_cmpR op_gt (pe_callB call_len_seq rfl B.len bt_len (pa_cons (pe_ix ix_tup (pv 0) pe_int (fun _ _ => rfl)) pa_nil)) pe_int (nomark _))))) (pss_one (ps_ret pe_bl)) pss_nil)
      (pss_cons (ps_for PassesOwn.never rfl (pi_tup (pe_ix ix_tup (pv 0) pe_int (fun _ _ => rfl))) (pg_name (i := 1) nd rfl (Or.inl rfl)) (pss_cons (ps_if (PW.pt (pw_or (pt_not (pt_val (pe_callB call_isi rfl B.isinstance bt_isinstance (pa_cons (pv 1) (pa_cons (pe_ty rfl B.tuple bt_tuple) pa_nil))))) (pw_or1 (pt_cmpR (op_ne0 hr.units) (pe_lc (own := [("_law_one_here", 2)]) (g := gName 2) rfl nd (pi_tup (pv 1)) (blkOk_by (own := [("_law_one_here", 2)]) (N := ["_law_thing", "_law_offer", "_law_one_here"]) (sc := defScope sLawTab) (by decide +kernel)) (fun _ _ _ _ _ => (pg_name (i := 2) nd rfl (Or.inl rfl))) (fun _ _ _ _ _ => pts_one (pt_not (pt_val (pe_k c_law_whole hr (by decide) rfl (pa_cons (pv 2) pa_nil))))) (fun _ _ _ _ _ => (pv 2))) (pe_lst pa_nil) (nomark _))))) (pss_one (ps_ret pe_bl)) pss_nil)
      (pss_one (ps_if (PW.pt (pw_or (pt_cmpR (op_ne0 hr.units) (pe_lc (own := [("_law_one_here", 2)]) (g := gName 2) rfl nd (pi_tup (pv 1)) (blkOk_by (own := [("_law_one_here", 2)]) (N := ["_law_thing", "_law_offer", "_law_one_here"]) (sc := defScope sLawTab) (by decide +kernel)) (fun _ _ _ _ _ => (pg_name (i := 2) nd rfl (Or.inl rfl))) (fun _ _ _ _ _ => pts_one (pt_not (pt_chain op_le op_lt pe_int (pv 2) (pe_ix (ix_tupK (K := K) rfl) (pv 0) pe_int (fun _ _ => rfl))))) (fun _ _ _ _ _ => (pv 2))) (pe_lst pa_nil) (nomark _)) (pw_or1 (pt_cmpR (op_neD hr.units) (pe_callTy call_list_of rfl B.list bt_list (pa_cons (pv 1) pa_nil)) (pe_callB (cr_sortedSet rfl) rfl B.sorted bt_sorted (pa_cons (pe_callTy (cr_setI rfl) rfl B.set bt_set (pa_cons (pv 1) pa_nil)) pa_nil)) (nomark _))))) (pss_one (ps_ret pe_bl)) pss_nil))))
      (pss_one (ps_ret pe_bl))))), ?_⟩
    have hisi := ev_isi (K := K) (ta := tVar 0) (σ := start ["_law_thing", "_law_offer", "_law_one_here"] [x]) (T := "tuple") (Evl.ev_var rfl) hx
    cases hT : isI "tuple" d with
    | false =>
      rw [hT] at hisi
      have e : isTab d = false := by
        cases d <;> first | rfl | (simp [isI, isN, tyN] at hT)
      rw [e] at q
      exact Evl.q_when (b := true) (Evl.et_is (Evl.et_or (b := true) (Evl.et_not (Evl.et_B hisi)) fun z => by cases z) rfl) (fun _ H1 e1 => q H1 e1) (fun z => by cases z)
    | true =>
      rw [hT] at hisi
      obtain ⟨ds, rfl⟩ := isI_tuple hT
      cases hx with
      | @tup a xs _ hs ha =>
        have hlen := DaAll.len ha
        have hlt : Evl.EvT (tTest (tOp rNe (tCB (Evl.rLenS K) (tCons (tVar 0) tNil)) (tC (.int 2)))) (start ["_law_thing", "_law_offer", "_law_one_here"] [.ref a]) H (!decide (V.int (xs.length : Int) = .int 2)) :=
          Evl.et_test (Evl.ev_op (ev_len' (K := K) (xs := xs) (Evl.ev_var rfl) (.inr hs)) Evl.ev_c (Evl.rv_ne rfl))
        by_cases hl2 : ds.length = 2
        · obtain ⟨d1, d2, rfl⟩ : ∃ d1 d2, ds = [d1, d2] := by
            match ds, hl2 with
            | [x, y], _ => exact ⟨x, y, rfl⟩
          have e2 : (!decide (V.int (xs.length : Int) = .int 2)) = false := by
            rw [hlen]
            rfl
          rw [e2] at hlt
          cases ha with
          | @cons v1 _ _ _ h1 ha =>
            cases ha with
            | @cons v2 _ _ _ h2 ha =>
              cases ha
              have at0 : Evl.Ev (tOp (rIxT K) (tVar 0) (tC (.int 0))) (start ["_law_thing", "_law_offer", "_law_one_here"] [.ref a]) H v1 := Evl.ev_op (Evl.ev_var rfl) Evl.ev_c (Evl.rv_ixT hs (atI_nat (j := 0) rfl))
              have hint : Evl.Ev (tCall (spV (rInteger K)) [] E0 (tCons (tOp (rIxT K) (tVar 0) (tC (.int 0))) tNil)) (start ["_law_thing", "_law_offer", "_law_one_here"] [.ref a]) H (.bl (isInt d1)) :=
                Evl.ev_call (Evl.ea_cons at0 Evl.ea_nil) (spV_of fun H2 e => ⟨v1, d1, rfl, h1.mono e, rfl⟩)
              cases hi : isInt d1 with
              | false =>
                rw [hi] at hint
                rw [isTab_int hi] at q
                exact Evl.q_when (b := true) (Evl.et_is (Evl.et_or (Evl.et_not (Evl.et_B hisi)) fun _ => Evl.et_or hlt fun _ => Evl.et_or (b := true) (Evl.et_not (Evl.et_B hint)) fun z => by cases z) rfl) (fun _ H2 e2 => q H2 e2) (fun z => by cases z)
              | true =>
                rw [hi] at hint
                obtain ⟨n, rfl⟩ := isInt_iff.mp hi
                cases h1
                refine Evl.q_when (Evl.et_or (Evl.et_not (Evl.et_B hisi)) fun _ => Evl.et_or hlt fun _ => Evl.et_or (Evl.et_not (Evl.et_B hint)) fun _ => Evl.et_not (Evl.et_test (ev_chain Evl.ev_c at0 rv_le (fun _ => Evl.ev_c) fun _ => rv_le))) (fun hbn H1 e1 => ?_) (fun hbn H1 e1 => ?_)
                · have e : isTab (.tuple [.int n, d2]) = false := by
                    simp only [Bool.not_true, Bool.false_or, Bool.not_eq_true'] at hbn
                    cases d2 <;> simp only [isTab, tab2, hbn, Bool.false_and]
                  rw [e] at q
                  exact q H1 e1
                · simp only [Bool.not_true, Bool.false_or, Bool.not_eq_false'] at hbn
                  have at1 : ∀ {H2 : Hp} {σ : L2.St}, Evl.Ex H H2 → σ[0]? = some (some (.ref a)) → Evl.Ev (tOp (rIxT K) (tVar 0) (tC (.int 1))) σ H2 v2 := fun e hσ => Evl.ev_op (Evl.ev_var hσ) Evl.ev_c (Evl.rv_ixT (Evl.ex_t e hs) (atI_nat (j := 1) rfl))
                  have hisi2 := ev_isi (K := K) (T := "tuple") (at1 (σ := start ["_law_thing", "_law_offer", "_law_one_here"] [.ref a]) e1 rfl) (h2.mono (show Same H H1 from e1))
                  cases hT2 : isI "tuple" d2 with
                  | false =>
                    rw [hT2] at hisi2
                    rw [isTab_tt hT2] at q
                    exact Evl.q_when (b := true) (Evl.et_is (Evl.et_or (b := true) (Evl.et_not (Evl.et_B hisi2)) fun z => by cases z) rfl) (fun _ H3 e3 => q H3 (e1.trans e3)) (fun z => by cases z)
                  | true =>
                    rw [hT2] at hisi2
                    obtain ⟨os, rfl⟩ := isI_tuple hT2
                    cases h2 with
                    | @tup b ys _ hs2 ha2 =>
                      have hlen2 := DaAll.len ha2
                      refine Evl.q_when (Evl.et_or (Evl.et_not (Evl.et_B hisi2)) fun _ => Evl.et_test (Evl.ev_op (ev_len' (K := K) (xs := ys) (at1 e1 rfl) (.inr (Evl.ex_t e1 hs2))) Evl.ev_c Evl.rv_I0)) (fun hc H2 e2 => ?_) (fun hc H2 e2 => ?_)
                      · have e : isTab (.tuple [.int n, .tuple os]) = false := by
                          simp only [Bool.not_true, Bool.false_or, decide_eq_true_eq] at hc
                          have : decide (os.length ≤ 10) = false := decide_eq_false (by omega)
                          simp only [isTab, tab2, this, Bool.and_false, Bool.false_and]
                        rw [e] at q
                        exact q H2 (e1.trans e2)
                      · simp only [Bool.not_true, Bool.false_or, decide_eq_false_iff_not] at hc
                        rw [isTab_all hbn (by omega)] at q
                        have e02 := e1.trans e2
                        have oko : ∀ o ∈ os, okD o = true := by
                          have z := (okD_len hok).2
                          simp only [okAll, Bool.and_eq_true] at z
                          exact okAll_iff.mp (okD_len z.2.1).2
                        refine Evl.q_forT (K := K) (a := b) (xs := ys) (at1 e02 rfl) (Evl.ex_t e02 hs2) (fun i σ' H' => ∃ y, σ' = [some (.ref a), y, none] ∧ Evl.Ex H H' ∧ ∀ o ∈ os.take i, asc o n = true)
                          (fun H3 e3 => ⟨none, rfl, e02.trans e3, fun o ho => absurd ho (by simp)⟩) (fun i σ' H' _ ⟨_, _, e, _⟩ => Evl.ex_t e hs2) ?_ ?_
                        · rintro i x σ' H' hi ⟨y, rfl, e3, hall⟩
                          obtain ⟨o, ho, hxo⟩ := DaAll.get ha2 hi
                          have hom : o ∈ os := List.mem_of_getElem? ho
                          have hxo' := hxo.mono (show Same H H' from e3)
                          have no : asc o n = false → (os.all fun o => asc o n) = false := fun z => by
                            rw [List.all_eq_false]
                            exact ⟨o, hom, by rw [z]; decide⟩
                          have hisi3 := ev_isi (K := K) (T := "tuple") (ta := tVar 1) (σ := [some (.ref a), some x, none]) (Evl.ev_var rfl) hxo'
                          cases hT3 : isI "tuple" o with
                          | false =>
                            rw [hT3] at hisi3
                            have e : asc o n = false := by
                              cases o <;> first | rfl | (simp [isI, isN, tyN] at hT3)
                            rw [no e] at q
                            exact Evl.q_when (b := true) (Evl.et_is (Evl.et_or (b := true) (Evl.et_not (Evl.et_B hisi3)) fun z => by cases z) rfl) (fun _ H3 e4 => q H3 (e3.trans e4)) (fun z => by cases z)
                          | true =>
                            rw [hT3] at hisi3
                            obtain ⟨es, rfl⟩ := isI_tuple hT3
                            have okes := okD_len (oko _ hom)
                            cases hxo with
                            | @tup g zs _ hs4 ha4 =>
                              have hlen4 := DaAll.len ha4
                              have L1 := el_lcT (K := K) (a := g) (xs := zs) (j := 2) (vs := [2]) (σ := [some (.ref a), some (.ref g), none]) (H := H') (tl := tVar 1) (t := tNot (tB (tCall (spV (rInteger K)) [] E0 (tCons (tVar 2) tNil)))) (te := tVar 2)
                                (fun i => !isInt (es.getD i .none)) (fun i => zs.getD i .non) (Evl.ev_var rfl) (Evl.ex_t e3 hs4) (by omega) (fun _ => rfl)
                                (fun i x H5 e5 hx => by
                                  obtain ⟨d, hd, hxd⟩ := DaAll.get ha4 hx
                                  have ed : es.getD i .none = d := by
                                    rw [List.getD_eq_getElem?_getD, hd]
                                    rfl
                                  rw [ed]
                                  exact Evl.et_not (Evl.et_B (Evl.ev_call (Evl.ea_cons (Evl.ev_var rfl) Evl.ea_nil) (spV_of fun H6 e6 => ⟨x, d, rfl, hxd.mono (Same.trans (Same.trans e3 e5) e6), rfl⟩))))
                                (fun i x H5 e5 hx _ => by
                                  have ex : zs.getD i .non = x := by
                                    rw [List.getD_eq_getElem?_getD, hx]
                                    rfl
                                  rw [ex]
                                  exact Evl.ev_var rfl)
                              refine Evl.q_when (Evl.et_or (Evl.et_not (Evl.et_B hisi3)) fun _ => et_neN L1) (fun hd H4 e4 => ?_) (fun hd H4 e4 => ?_)
                              · have e : asc (.tuple es) n = false := by
                                  cases hz : asc (.tuple es) n with
                                  | false => rfl
                                  | true =>
                                    have hall2 := ascFrom_int (show ascFrom (-1) n es = true from hz)
                                    rw [given_empty.mpr fun i hi => ?_] at hd
                                    · cases hd
                                    · have : es.getD i .none ∈ es := by
                                        rw [List.getD_eq_getElem?_getD, List.getElem?_eq_getElem (by omega)]
                                        exact List.getElem_mem _
                                      rw [hall2 _ this]
                                      rfl
                                rw [no e] at q
                                exact q H4 (e3.trans e4)
                              · obtain ⟨ns, rfl⟩ := all_ints (ds := es) fun d hd2 => by
                                  simp only [Bool.not_true, Bool.false_or, Bool.not_eq_false'] at hd
                                  obtain ⟨i, hi⟩ := List.getElem?_of_mem hd2
                                  have hlt := (List.getElem?_eq_some_iff.mp hi).1
                                  have z := given_empty.mp hd i (by omega)
                                  rw [List.getD_eq_getElem?_getD, hi] at z
                                  simpa using z
                                have ezs := DaAll.toInts ha4
                                subst ezs
                                have e04 := e3.trans e4
                                have at0' : ∀ {H2 : Hp} {σ : L2.St}, Evl.Ex H H2 → σ[0]? = some (some (.ref a)) → Evl.Ev (tOp (rIxT K) (tVar 0) (tC (.int 0))) σ H2 (.int n) := fun e hσ => Evl.ev_op (Evl.ev_var hσ) Evl.ev_c (Evl.rv_ixT (Evl.ex_t e hs) (atI_nat (j := 0) rfl))
                                have L2 := el_lcT (K := K) (a := g) (xs := ns.map V.int) (j := 2) (vs := [2]) (σ := [some (.ref a), some (.ref g), none]) (H := H4) (tl := tVar 1)
                                  (t := tNot (tTest (tChain (rI0 fun i j => .bl (decide (i ≤ j))) (rI0 fun i j => .bl (decide (i < j))) (tC (.int 0)) (tVar 2) (tOp (rIxT K) (tVar 0) (tC (.int 0)))))) (te := tVar 2)
                                  (fun i => !(decide (0 ≤ ns.getD i 0) && decide (ns.getD i 0 < n))) (fun i => .int (ns.getD i 0)) (Evl.ev_var rfl) (Evl.ex_t e04 hs4) (by omega) (fun _ => rfl)
                                  (fun i x H5 e5 hx => by
                                    rw [ints_at hx]
                                    exact Evl.et_not (Evl.et_test (ev_chain Evl.ev_c (Evl.ev_var rfl) rv_le (fun _ => at0' (e04.trans e5) rfl) fun _ => rv_lt)))
                                  (fun i x H5 e5 hx _ => by
                                    rw [ints_at hx]
                                    exact Evl.ev_var rfl)
                                have hn64 : ns.length ≤ 60 := by
                                  have := okes.1
                                  rw [List.length_map] at this
                                  exact this
                                have L3 : ∀ (b : Bool), b = !decide (ns.Pairwise (· < ·)) → Evl.EvT (tTest (tOp (rNeD K) (tCB (fun xs H Q => ∃ p ys, xs = [.ref p] ∧ (SqL K H p ys ∨ SqT K H p ys) ∧ ∀ l, H l = none → Q (.ref l) (upd H l (.lst ys))) (tCons (tVar 1) tNil))
                                    (tCB (rSortedSet w) (tCons (tCB (rSetI K w) (tCons (tVar 1) tNil)) tNil)))) [some (.ref a), some (.ref g), none] H4 b := by
                                  intro b hb H5 e5 Q' k
                                  refine ⟨.ref g, rfl, g, ns.map V.int, rfl, .inr (Evl.ex_t (e04.trans e5) hs4), fun l hl => ?_⟩
                                  have f1 : Evl.Ex H5 (upd H5 l (.lst (ns.map V.int))) := Evl.Ex.new hl
                                  refine ⟨.ref g, rfl, g, ns, rfl, Evl.ex_t ((e04.trans e5).trans f1) hs4, by omega, fun p c hc hp => ?_⟩
                                  have f2 := Evl.Ex.new (o := SetO w p (fun j => decide (j ∈ ns)) c) hp
                                  refine ⟨p, _, c, rfl, upd_same, by omega, fun ns' p' srt mem _ np' => ?_⟩
                                  have f3 := Evl.Ex.new (o := .lst (ns'.map V.int)) np'
                                  refine ⟨_, _, .lst (SqL.of (f3 _ _ (f2 _ _ upd_same))) (dpInts ns), .lst (SqL.of upd_same) (dpInts ns'), shaped_ints ns, shaped_ints ns', b, ?_, k _ ((f1.trans f2).trans f3)⟩
                                  show V.bl (!PyData.eqvAll (ns.map PyData.int) (ns'.map PyData.int)) = V.bl b
                                  rw [hb, eqv_ints]
                                  congr 2
                                  by_cases hp2 : ns.Pairwise (· < ·)
                                  · rw [decide_eq_true hp2, decide_eq_true (strict_eq hp2 srt fun k => by rw [mem, decide_eq_true_eq])]
                                  · rw [decide_eq_false hp2, decide_eq_false fun z => hp2 (by rw [z]; exact srt)]
                                refine Evl.s_when (Evl.et_or (et_neN L2) fun _ => L3 _ rfl) (fun hd2 H5 e5 => ?_) (fun hd2 H5 e5 => ?_)
                                · have e : asc (.tuple (ns.map PyData.int)) n = false := by
                                    cases hz : asc (.tuple (ns.map PyData.int)) n with
                                    | false => rfl
                                    | true =>
                                      obtain ⟨z1, z2⟩ := asc_ints.mp hz
                                      rw [given_empty.mpr fun i hi => ?_, decide_eq_true z2] at hd2
                                      · cases hd2
                                      · have : ns.getD i 0 ∈ ns := by
                                          rw [List.getD_eq_getElem?_getD, List.getElem?_eq_getElem (by simpa using hi)]
                                          exact List.getElem_mem _
                                        obtain ⟨y1, y2⟩ := z1 _ this
                                        rw [decide_eq_true y1, decide_eq_true y2]
                                        rfl
                                  rw [no e] at q
                                  exact q H5 (e04.trans e5)
                                · refine ⟨some (.ref g), rfl, e04.trans e5, fun o ho2 => ?_⟩
                                  rw [List.take_add_one, ho] at ho2
                                  rcases List.mem_append.mp ho2 with ho2 | ho2
                                  · exact hall o ho2
                                  · have eo : o = .tuple (ns.map PyData.int) := by simpa using ho2
                                    rw [eo]
                                    simp only [Bool.or_eq_false_iff, Bool.not_eq_false', decide_eq_true_eq] at hd2
                                    refine asc_ints.mpr ⟨fun k hk => ?_, hd2.2⟩
                                    obtain ⟨j, hj⟩ := List.getElem?_of_mem hk
                                    have hjl := (List.getElem?_eq_some_iff.mp hj).1
                                    have z := given_empty.mp hd2.1 j (by rw [List.length_map]; exact hjl)
                                    rw [List.getD_eq_getElem?_getD, hj] at z
                                    simpa using z
                        · rintro σ' H' ⟨y, rfl, e3, hall⟩
                          rw [hlen2, List.take_length] at hall
                          have e : (os.all fun o => asc o n) = true := List.all_eq_true.mpr hall
                          rw [e] at q
                          exact q H' e3
        · have e2 : (!decide (V.int (xs.length : Int) = .int 2)) = true := by
            rw [decide_eq_false fun z => hl2 (by have := V.int.inj z; omega)]
            rfl
          rw [e2] at hlt
          rw [isTab_tup hl2] at q
          exact Evl.q_when (b := true) (Evl.et_is (Evl.et_or (Evl.et_not (Evl.et_B hisi)) fun _ => Evl.et_or (b := true) hlt fun z => by cases z) rfl) (fun _ H1 e1 => q H1 e1) (fun z => by cases z)
abbrev sLaw : Stmt := topS 24
theorem scLaw : FnScope ["_law_script", "_law_deck_here", "_law_turn", "_law_table_here", "_law_demands", "_law_offers", "_law_some", "_law_thing", "_law_kept", "_law_k"] ["_law_script"] (defScope sLaw) := ⟨rfl, rfl, rfl, by decide +kernel, rfl, by decide +kernel, by decide +kernel⟩
set_option maxHeartbeats 4000000 in
theorem ok_law {f : Addr} {fd : FuncData} (F : Fun K "law" "law" sLaw f fd) (B : Bn mg) (c_law_deck : Cl P w K mg base 1 "_law_deck" ["_law_script"] (spDeck K)) (c_law_table : Cl P w K mg base 4 "_law_table" ["_law_deck_here", "_law_demands", "_law_offers"] (spTable K))
    (c_law_bent : Cl P w K mg base 6 "_law_bent" ["_law_deck_here", "_law_thing", "_law_deep"] (spBent K 4)) (c_law_odd : Cl P w K mg base 2 "_law_odd" ["_law_deck_here"] (spOdd K)) (c_law_same : Cl P w K mg base 1 "_law_same" ["_law_found", "_law_due"] (spV rSameB))
    (c_is_table : Cl P w K mg base 4 "is_table" ["value"] (spV (rTab K))) (c_law_is_table : Cl P w K mg base 2 "_law_is_table" ["_law_thing"] (spV (rTab K))) : RunG P w K mg base 7 f fd ["_law_script"] (spLaw K) := by
  refine runG_of F scLaw (fun vs H Q E h => ?_) (fun cdv A outer s H vs Q hg hr h => ?_)
  · obtain ⟨a, ns, rfl, _⟩ := h
    rfl
  · obtain ⟨a, ns, rfl, hS, hl, q⟩ := h
    have nd := scLaw.nd
    refine ⟨_, (pss_cons (ps_set (i := 1) nd rfl (Or.inr rfl) (pe_k c_law_deck hr (by decide) rfl (pa_cons (pv 0) pa_nil)))
      (pss_cons (ps_for PassesOwn.never rfl (pi_range1 rfl B.range (pa_cons pe_int pa_nil)) (pg_name (i := 2) nd rfl (Or.inl rfl)) (pss_cons (ps_set (i := 3) nd rfl (Or.inr rfl) (pe_k c_law_table hr (by decide) rfl (pa_cons (pv 1) (pa_cons pe_int (pa_cons pe_int pa_nil)))))
      (pss_cons (ps_asg (pv 3) (pg_tup rfl (pgs_cons (pg_name (i := 4) nd rfl (Or.inl rfl)) (pgs_cons (pg_name (i := 5) nd rfl (Or.inl rfl)) pgs_nil))))
      (pss_cons (ps_set (i := 6) nd rfl (Or.inl rfl) (pe_lst (pa_cons (pv 3) (pa_cons (pe_tup (pa_cons (pv 4) (pa_cons (pe_slice sl_tupA (pe_op op_catA (pv 5) (pe_op op_repT (pe_tup (pa_cons (pe_tup pa_nil) (pa_cons (pe_tup (pa_cons pe_int pa_nil)) pa_nil))) pe_int)) po_none (po_some pe_int)) pa_nil))) (pa_cons (pe_tup (pa_cons pe_int (pa_cons (pe_tup pa_nil) pa_nil))) (pa_cons (pe_tup (pa_cons pe_int (pa_cons (pe_tup (pa_cons (pe_tup (pa_cons pe_int pa_nil)) pa_nil)) pa_nil))) (pa_cons (pe_tup (pa_cons (pv 4) (pa_cons (pe_tup (pa_cons (pe_tup (pa_cons (pv 4) pa_nil)) pa_nil)) pa_nil))) pa_nil)))))))
      (pss_cons (ps_set (i := 6) nd rfl (Or.inl rfl) (pe_op op_cat (pv 6) (pe_lst (pa_cons (pe_lst (pa_cons (pv 4) (pa_cons (pv 5) pa_nil))) (pa_cons (pe_tup (pa_cons (pv 4) (pa_cons (pe_callTy call_list_of rfl B.list bt_list (pa_cons (pv 5) pa_nil)) pa_nil))) (pa_cons (pe_tup (pa_cons pe_int (pa_cons (pe_tup pa_nil) pa_nil))) (pa_cons (pe_tup (pa_cons (pv 4) (pa_cons (pe_tup (pa_cons (pe_tup (pa_cons pe_int (pa_cons pe_int pa_nil))) pa_nil)) pa_nil))) (pa_cons (pe_tup (pa_cons (pv 4) (pa_cons (pe_tup (pa_cons (pe_tup (pa_cons pe_bl pa_nil)) pa_nil)) pa_nil))) pa_nil))))))))
      (pss_one (ps_for PassesOwn.never rfl (pi_list (pe_op op_cat (pe_op op_cat (pv 6) (pe_lc (own := [("_law_k", 9)]) (g := gName 9) rfl nd (pi_range1 rfl B.range (pa_cons pe_int pa_nil)) (blkOk_by (own := [("_law_k", 9)]) (N := ["_law_script", "_law_deck_here", "_law_turn", "_law_table_here", "_law_demands", "_law_offers", "_law_some", "_law_thing", "_law_kept", "_law_k"]) (sc := defScope sLaw) (by decide +kernel)) (fun _ _ _ _ _ => (pg_name (i := 9) nd rfl (Or.inl rfl))) (fun _ _ _ _ _ => pts_nil) (fun _ _ _ _ _ => (pe_k c_law_bent hr (by decide) rfl (pa_cons (pv 1) (pa_cons (pv 3) (pa_cons pe_int pa_nil))))))) (pe_lst (pa_cons (pe_k c_law_odd hr (by decide) rfl (pa_cons (pv 1) pa_nil)) pa_nil)))) (pg_name (i := 7) nd rfl (Or.inl rfl)) (pss_cons (ps_set (i := 8) nd rfl (Or.inl rfl) (pe_callB (call_reprD hg hr.units) rfl B.repr bt_repr (pa_cons (pv 7) pa_nil)))
      (pss_one (ps_if (PW.pt (pw_or (pt_not (pt_val (pe_k c_law_same hr (by decide) rfl (pa_cons (pe_k c_is_table hr (by decide) rfl (pa_cons (pv 7) pa_nil)) (pa_cons (pe_k c_law_is_table hr (by decide) rfl (pa_cons (pv 7) pa_nil)) pa_nil))))) (pw_or1 (pt_cmpR op_ne (pe_callB (call_reprD hg hr.units) rfl B.repr bt_repr (pa_cons (pv 7) pa_nil)) (pv 8) (nomark _))))) (pss_one (ps_ret pe_bl)) pss_nil))))))))))
      (pss_one (ps_ret pe_bl)))), ?_⟩
    refine ⟨.ref a, rfl, a, ns, rfl, hS, hl, fun d b c H1 hD1 _ _ _ => ?_⟩
    refine Evl.q_forR1 (n := 14) (Evl.ea_cons Evl.ev_c Evl.ea_nil) (by decide) (fun i σ H2 => ∃ (y2 y3 y4 y5 y6 y7 y8 : Option V) (n : Int), σ = [some (.ref a), some (.ref d), y2, y3, y4, y5, y6, y7, y8, none] ∧ Dk d b c n H2 ∧ n ≤ 2000 * i)
      (fun H2 e2 => ⟨none, none, none, none, none, none, none, 0, rfl, hD1.same e2, by omega⟩) ?_ (fun σ H2 _ => q H2)
    rintro i σ H2 hi ⟨y2, y3, y4, y5, y6, y7, y8, n, rfl, hD2, hn⟩
    -- the table
    refine ⟨.ref d, rfl, d, b, c, n, 10, 10, rfl, hD2, by omega, by decide, by decide, by decide, fun tv m os n3 H3 dr3 m1 m10 ol oko htv => ?_⟩
    have le3 := dr3.le
    have hD3 : Ck [d, b] d b c n3 H3 := Ck.two dr3.dk
    rw [msk_hs] at htv
    have htv' := htv
    cases htv' with
    | @tup ta xs _ hts hta =>
      cases hta with
      | @cons v1 _ _ _ h1 hta =>
        cases h1
        cases hta with
        | @cons v2 _ _ _ h2 hta =>
          cases hta
          -- demands, offers = table
          refine ⟨.ref ta, rfl, ta, _, rfl, Same.tq hs_sub hts, rfl, .int m, _, rfl, v2, _, rfl, rfl, ?_⟩
          obtain ⟨o1, o2, o3⟩ := osD m10 ol oko
          obtain ⟨t1, t2, t3⟩ := pl_tab m10 ol oko
          have oll : (os.map offD).length ≤ 10 := by
            rw [List.length_map]
            exact ol
          -- the first five
          refine q_asgE (K := K) (S := [d, b]) (es := [tabD m os, .tuple [.int m, .tuple (cutG (os.map offD ++ (List.replicate 6 [.tuple [], .tuple [.int 0]]).flatten) none (some 11))], .tuple [.int 11, .tuple []], .tuple [.int 10, .tuple [.tuple [.int 9]]], .tuple [.int m, .tuple [.tuple [.int m]]]])
            (el_lst' (ea_cons' (ee_var rfl htv) (ea_cons' (ee_tup (ea_cons' (ee_var rfl (.int m)) (ea_cons' (ee_upto (ee_cat (ee_var rfl h2) (ee_rep (ee_tup (ea_cons' (ee_tup ea_nil' (by decide)) (ea_cons' (ee_tup (ea_cons' ee_int ea_nil') (by decide)) ea_nil')) (by decide)) (by simp) (by decide) (by decide) (by decide)) (by simp; omega))) ea_nil')) (by simp))
              (ea_cons' (ee_tup (ea_cons' ee_int (ea_cons' (ee_tup ea_nil' (by decide)) ea_nil')) (by simp)) (ea_cons' (ee_tup (ea_cons' ee_int (ea_cons' (ee_tup (ea_cons' (ee_tup (ea_cons' ee_int ea_nil') (by simp)) ea_nil') (by simp)) ea_nil')) (by simp))
                (ea_cons' (ee_tup (ea_cons' (ee_var rfl (.int m)) (ea_cons' (ee_tup (ea_cons' (ee_tup (ea_cons' (ee_var rfl (.int m)) ea_nil') (by simp)) ea_nil') (by simp)) ea_nil')) (by simp)) ea_nil'))))) (by simp)) ⟨_, hD3⟩ (fun l4 vs4 H4 s4 w4 h4 => ?_)
          have dk4 := hD3.same s4
          have m34 := hs_mono (S := [d, b]) s4
          -- the next five
          refine ⟨.ref l4, rfl, ?_⟩
          refine (el_lst' (K := K) (S := [d, b]) (d := d) (b := b) (c := c) (H := H4) (es := [.list [.int m, .tuple (os.map offD)], .tuple [.int m, .list (os.map offD)], .tuple [.int 0, .tuple []], .tuple [.int m, .tuple [.tuple [.int 0, .int 0]]], .tuple [.int m, .tuple [.tuple [.bool true]]]])
            (ea_cons' (ee_lst (ea_cons' (ee_var rfl (.int m)) (ea_cons' (ee_var rfl (h2.mono m34)) ea_nil')) (by simp)) (ea_cons' (ee_tup (ea_cons' (ee_var rfl (.int m)) (ea_cons' (ee_listof (ee_var rfl (h2.mono m34))) ea_nil')) (by simp))
              (ea_cons' (ee_tup (ea_cons' ee_int (ea_cons' (ee_tup ea_nil' (by decide)) ea_nil')) (by simp)) (ea_cons' (ee_tup (ea_cons' (ee_var rfl (.int m)) (ea_cons' (ee_tup (ea_cons' (ee_tup (ea_cons' ee_int (ea_cons' ee_int ea_nil')) (by simp)) ea_nil') (by simp)) ea_nil')) (by simp))
                (ea_cons' (ee_tup (ea_cons' (ee_var rfl (.int m)) (ea_cons' (ee_tup (ea_cons' (ee_tup (ea_cons' ee_bl ea_nil') (by simp)) ea_nil') (by simp)) ea_nil')) (by simp)) ea_nil'))))) (by simp)) H4 (Same.refl _) ⟨_, dk4⟩ _ (fun l5 vs5 H5 s5 w5 h5 => ?_)
          have v4 := DaAll.len h4
          have v5 := DaAll.len h5
          simp only [List.length_cons, List.length_nil] at v4 v5
          refine ⟨l4, l5, vs4, vs5, rfl, rfl, (w4.mono s5).at_p, w5.at_p, Pb.sz (by omega), fun l6 hl6 => ?_⟩
          have s6 : Same H5 (upd H5 l6 (.lst (vs4 ++ vs5))) := same_upd hl6
          have w6 : Nw [d, b] d b c (upd H5 l6 (.lst (vs4 ++ vs5))) l6 (.lst (vs4 ++ vs5)) := Nw.new (dk4.same s5) hl6
          have h6 := ((h4.mono (hs_mono (S := [d, b]) s5)).append h5).mono (hs_mono (S := [d, b]) s6)
          have dk6 := (dk4.same s5).same s6
          have tv6 := htv.mono (hs_mono (S := [d, b]) ((s4.trans s5).trans s6))
          have good6 : ∀ e ∈ [tabD m os, .tuple [.int m, .tuple (cutG (os.map offD ++ (List.replicate 6 [.tuple [], .tuple [.int 0]]).flatten) none (some 11))], .tuple [.int 11, .tuple []], .tuple [.int 10, .tuple [.tuple [.int 9]]], .tuple [.int m, .tuple [.tuple [.int m]]]] ++
              [.list [.int m, .tuple (os.map offD)], .tuple [.int m, .list (os.map offD)], .tuple [.int 0, .tuple []], .tuple [.int m, .tuple [.tuple [.int 0, .int 0]]], .tuple [.int m, .tuple [.tuple [.bool true]]]], Gd e := by
            have gos : GdL (os.map offD) := gdl_pl o1 (by omega) (by omega) (by omega)
            have gnil : GdL [] := ⟨rfl, by decide, by decide, by decide, rfl⟩
            have mm : ((m : Nat) : Int).natAbs ≤ 100 := by omega
            have gm : GdL [.tuple [.int m]] := gdl_pl (by simp [pl, plAll]; omega) (by simp) (by simp [wtAll, wt]) (by simp [PyData.depthAll, PyData.depth])
            have gcut : GdL (cutG (os.map offD ++ (List.replicate 6 [.tuple [], .tuple [.int 0]]).flatten) none (some 11)) := by
              have hsub := cutG_sub (os.map offD ++ (List.replicate 6 [PyData.tuple [], .tuple [.int 0]]).flatten) none (some 11)
              have rl : ((List.replicate 6 [PyData.tuple [], .tuple [.int 0]]).flatten).length = 12 := by decide
              have rw1 : wtAll ((List.replicate 6 [PyData.tuple [], .tuple [.int 0]]).flatten) ≤ 2000 := by decide +kernel
              have rp : plAll ((List.replicate 6 [PyData.tuple [], .tuple [.int 0]]).flatten) = true := by decide +kernel
              have rd : PyData.depthAll ((List.replicate 6 [PyData.tuple [], .tuple [.int 0]]).flatten) ≤ 1 := by decide +kernel
              have pall : plAll (os.map offD ++ (List.replicate 6 [PyData.tuple [], .tuple [.int 0]]).flatten) = true := plAll_iff.mpr fun x hx => (List.mem_append.mp hx).elim (plAll_iff.mp o1 x) (plAll_iff.mp rp x)
              refine gdl_pl (plAll_iff.mpr fun x hx => plAll_iff.mp pall x (hsub.subset hx)) ?_ ?_ ?_
              · have := hsub.length_le
                rw [List.length_append, rl] at this
                omega
              · have := wtAll_sub hsub
                rw [wtAll_append] at this
                omega
              · refine depthAll_le fun x hx => ?_
                rcases List.mem_append.mp (hsub.subset hx) with z | z
                · have := mem_depth z
                  omega
                · have := mem_depth z
                  omega
            intro e he
            simp only [List.cons_append, List.nil_append, List.mem_cons, List.not_mem_nil, or_false] at he
            rcases he with rfl | rfl | rfl | rfl | rfl | rfl | rfl | rfl | rfl | rfl
            · exact (gd_three gos mm).1
            · exact (gd_three gcut mm).1
            · exact (gd_three gnil (by decide)).1
            · exact (gd_three (gdl_pl (by decide) (by decide) (by decide) (by decide)) (by decide)).1
            · exact (gd_three gm mm).1
            · exact (gd_three gos mm).2.2
            · exact (gd_three gos mm).2.1
            · exact (gd_three gnil (by decide)).1
            · exact (gd_three (gdl_pl (by decide) (by decide) (by decide) (by decide)) mm).1
            · exact (gd_three (⟨by decide, by decide, by decide, by decide, by decide⟩ : GdL [.tuple [.bool true]]) mm).1
          generalize ([tabD m os, .tuple [.int m, .tuple (cutG (os.map offD ++ (List.replicate 6 [.tuple [], .tuple [.int 0]]).flatten) none (some 11))], .tuple [.int 11, .tuple []], .tuple [.int 10, .tuple [.tuple [.int 9]]], .tuple [.int m, .tuple [.tuple [.int m]]]] ++
              [.list [.int m, .tuple (os.map offD)], .tuple [.int m, .list (os.map offD)], .tuple [.int 0, .tuple []], .tuple [.int m, .tuple [.tuple [.int 0, .int 0]]], .tuple [.int m, .tuple [.tuple [.bool true]]]]) = es6 at h6 good6
          have v6 : (vs4 ++ vs5).length = 10 := by
            rw [List.length_append]
            omega
          generalize vs4 ++ vs5 = vs6 at *
          generalize upd H5 l6 (.lst vs6) = H6 at *
          -- the bent ones
          refine ⟨.ref l6, rfl, 6, rfl, by decide, by decide, fun D hD => ?_⟩
          have offD' := dk6.dk.off hD
          have tvD : Da K (hs [d, b, D] (upd H6 D (.lst []))) (.ref ta) (tabD m os) := tv6.mono fun x o e => by
            obtain ⟨z1, z2⟩ := hs_some e
            have za : x ≠ D := fun z => by
              rw [z, hD] at z2
              cases z2
            rw [hs_out (by simp at z1 ⊢; exact ⟨z1.1, z1.2, za⟩), upd_ne za]
            exact z2
          refine lc_range (lo := 0) (n := 6) (fun j H' => ∃ (ds : List V) (es : List PyData) (n' : Int), H' D = some (.lst ds) ∧ DaAll K (hs [d, b, D] H') ds es ∧ (∀ e ∈ es, Gd e) ∧ ds.length = j ∧ Dr d b c (n3 + 16 * j) H6 n' H' ∧ Da K (hs [d, b, D] H') (.ref ta) (tabD m os))
            ⟨[], [], n3, upd_same, .nil, fun e he => absurd he List.not_mem_nil, rfl, ((Dr.refl dk6.dk).new hD).wide (by omega), tvD⟩ ?_ ?_
          · rintro j H' hj ⟨ds, es, n7, e7, h7, g7, l7, dr7, tv7⟩
            have le7 := dr7.le
            have ck7 : Ck [d, b, D] d b c n7 H' := ⟨dr7.dk, by simp, by simp, fun s hs' => by
              have two := (Ck.two dr7.dk).tr
              simp only [List.mem_cons, List.not_mem_nil, or_false] at hs'
              rcases hs' with rfl | rfl | rfl
              · exact two _ (by simp)
              · exact two _ (by simp)
              · exact ⟨_, e7⟩⟩
            refine ⟨rfl, ?_⟩
            dsimp only [tYes]
            refine iteT ?_
            refine ⟨.ref d, rfl, .ref ta, rfl, [d, b, D], d, b, c, n7, .ref ta, tabD m os, 3, rfl, ck7, by omega, by decide, by decide, t1, tv7, fun v e' n8 H8 hb dr8 hv => ?_⟩
            have e8 := dr8.at offD' e7
            have sm8 : Same (hs [d, b, D] H') (hs [d, b, D] H8) := hs_msk dr8.sm (by simp) (by simp)
            refine ⟨ds, e8, small1000 (by omega), ds ++ [v], es ++ [e'], n8, upd_same, ?_, fun e he => ?_, by rw [List.length_append, l7]; rfl, ?_, ?_⟩
            · rw [hs_put (by simp)]
              exact (h7.mono sm8).append (.cons hv .nil)
            · rcases List.mem_append.mp he with he | he
              · exact g7 e he
              · have ee : e = e' := by simpa using he
                rw [ee]
                exact gd_bent hb t2 t3
            · have e16 : n7 + 4 * ((3 : Nat) : Int) + 4 = n7 + 16 := by omega
              rw [e16] at dr8
              exact ((dr7.step dr8).put dk6.dk hD).wide (by omega)
            · rw [hs_put (by simp)]
              exact tv7.mono sm8
          · rintro H7 ⟨ds, es, n7, e7, h7, g7, l7, dr7, tv7⟩
            have le7 := dr7.le
            have w67 : Nw [d, b] d b c H7 l6 (.lst vs6) := ⟨dr7.at w6.off w6.at_p, w6.off, w6.out⟩
            have ck7 : Ck [d, b] d b c n7 H7 := Ck.two dr7.dk
            have m67 : Same (hs [d, b] H6) (hs [d, b] H7) := hs_msk dr7.sm (by simp) (by simp)
            refine ⟨l6, D, vs6, ds, rfl, rfl, w67.at_p, e7, Pb.sz (by omega), fun l8 hl8 => ?_⟩
            have w8 : Nw [d, b] d b c (upd H7 l8 (.lst (vs6 ++ ds))) l8 (.lst (vs6 ++ ds)) := Nw.new ck7 hl8
            have s8 : Same H7 (upd H7 l8 (.lst (vs6 ++ ds))) := same_upd hl8
            have dk8 := ck7.same s8
            have h8 : DaAll K (hs [d, b] (upd H7 l8 (.lst (vs6 ++ ds)))) (vs6 ++ ds) (es6 ++ es) := ((h6.mono m67).append (h7.mono (msk_to_hs (by simp)))).mono (hs_mono s8)
            generalize upd H7 l8 (.lst (vs6 ++ ds)) = H8 at *
            -- the odd one
            refine ⟨.ref d, rfl, [d, b], d, b, c, n7, rfl, dk8, by omega, fun v e' n9 H9 he' dr9 hv => ⟨Pb.sz (n := 1) (by decide), fun l9 hl9 => ?_⟩⟩
            have le9 := dr9.le
            have w89 : Nw [d, b] d b c H9 l8 (.lst (vs6 ++ ds)) := ⟨dr9.at w8.off w8.at_p, w8.off, w8.out⟩
            have s9 : Same H9 (upd H9 l9 (.lst [v])) := same_upd hl9
            refine ⟨l8, l9, vs6 ++ ds, [v], rfl, rfl, s9 _ _ w89.at_p, upd_same, Pb.sz (by simp; omega), fun l10 hl10 => ?_⟩
            have s10 : Same (upd H9 l9 (.lst [v])) (upd (upd H9 l9 (.lst [v])) l10 (.lst (vs6 ++ ds ++ [v]))) := same_upd hl10
            have all : DaAll K (hs [d, b] (upd (upd H9 l9 (.lst [v])) l10 (.lst (vs6 ++ ds ++ [v])))) (vs6 ++ ds ++ [v]) (es6 ++ es ++ [e']) := ((h8.mono (hs_msk dr9.sm (by simp) (by simp))).append (.cons hv .nil)).mono (hs_mono (s9.trans s10))
            have goodA : ∀ e ∈ es6 ++ es ++ [e'], Gd e := fun e he => by
              rcases List.mem_append.mp he with he | he
              · exact (List.mem_append.mp he).elim (good6 e) (g7 e)
              · have ee : e = e' := by simpa using he
                rw [ee]
                exact gd_odd he'
            have dk10 := dr9.dk.same (s9.trans s10)
            have e10 : (upd (upd H9 l9 (.lst [v])) l10 (.lst (vs6 ++ ds ++ [v]))) l10 = some (.lst (vs6 ++ ds ++ [v])) := upd_same
            generalize upd (upd H9 l9 (.lst [v])) l10 (.lst (vs6 ++ ds ++ [v])) = H10 at *
            generalize vs6 ++ ds ++ [v] = xsA at *
            refine ⟨l10, rfl, ⟨_, SqL.of e10⟩, for_list (K := K) (a := l10) (xs := xsA) (fun j σ' H' => ∃ (z7 z8 : Option V), σ' = [some (.ref a), some (.ref d), some (.int i), some (.ref ta), some (.int m), some v2, some (.ref l6), z7, z8, none] ∧ Evl.Ex H10 H')
              ⟨y7, y8, rfl, Evl.Ex.refl _⟩ (fun j σ' H' _ ⟨_, _, _, ex⟩ => Evl.ex_l ex (SqL.of e10)) ?_ ?_⟩
            · rintro j x σ' H' hx ⟨z7, z8, rfl, ex⟩
              obtain ⟨e, he, hxe⟩ := DaAll.get all hx
              have ge := goodA e (List.mem_of_getElem? he)
              have da : Da K H' x e := (hxe.mono hs_sub).mono ex
              have rep : ∀ {H2 : Hp} {σ : L2.St}, Evl.Ex H' H2 → σ[7]? = some (some x) → Evl.Ev (tCB (rReprD K) (tCons (tVar 7) tNil)) σ H2 (.str e.shown) := fun {H2 σ} e2 hσ H3 e3 Q' q' =>
                ⟨x, hσ, x, e, rfl, da.mono (Same.trans e2 e3), ge.ok, ge.w, by have := ge.dp; omega, ge.nd, q' H3 (Evl.Ex.refl _)⟩
              refine Evl.q_asg (rep (Evl.Ex.refl _) rfl) fun H11 e11 => ?_
              have tabs : ∀ (x2 : Str), True := fun _ => trivial
              have sameE : Evl.Ev (tCall (spV rSameB) [] E0 (tCons (tCall (spV (rTab K)) [] E0 (tCons (tVar 7) tNil)) (tCons (tCall (spV (rTab K)) [] E0 (tCons (tVar 7) tNil)) tNil))) [some (.ref a), some (.ref d), some (.int i), some (.ref ta), some (.int m), some v2, some (.ref l6), some x, some (.str e.shown), none] H11 (.bl (isTab e == isTab e)) := by
                have one : Evl.Ev (tCall (spV (rTab K)) [] E0 (tCons (tVar 7) tNil)) [some (.ref a), some (.ref d), some (.int i), some (.ref ta), some (.int m), some v2, some (.ref l6), some x, some (.str e.shown), none] H11 (.bl (isTab e)) :=
                  Evl.ev_call (Evl.ea_cons (Evl.ev_var rfl) Evl.ea_nil) (spV_of fun H12 e12 => ⟨x, e, rfl, da.mono (Same.trans e11 e12), ge.ok, rfl⟩)
                exact Evl.ev_call (Evl.ea_cons one (Evl.ea_cons one Evl.ea_nil)) (spV_of fun H12 _ => ⟨_, _, rfl, rfl⟩)
              rw [beq_self_eq_true] at sameE
              refine Evl.s_when (b := false) (Evl.et_is (Evl.et_or (Evl.et_not (Evl.et_B sameE)) fun _ => Evl.et_test (Evl.ev_op (rep e11 rfl) (Evl.ev_var rfl) (Evl.rv_ne (x := .str e.shown) (y := .str e.shown) rfl))) ?_) (fun z => by cases z) (fun _ H12 e12 => ⟨_, _, rfl, (ex.trans e11).trans e12⟩)
              rw [decide_eq_true rfl]
              rfl
            · rintro σ' H' ⟨z7, z8, rfl, ex⟩
              exact ⟨_, _, _, _, _, _, _, n9, rfl, dk10.same ex, by omega⟩
end
end L02

set_option Elab.async false
set_option linter.all false
set_option maxRecDepth 100000
namespace L02
open PySem PySem.Spec PyProof.Rows L2 Pb
set_option maxHeartbeats 2000000 in
theorem all_mk {P : Program} {w : World} {K : PySem.W.Frag} {mg : Str → Option Value} {fa  : Addr} {h : Heap} (X : K.In h) (G : h.Ns mainGlobals mg) (hfa : mg "law" = some (.ref fa)) (B : Bn mg)
    (g_MAX_DEMANDS : ∃ t, mg "MAX_DEMANDS" = some (.int 10 t))
    (g_MAX_OFFERS : ∃ t, mg "MAX_OFFERS" = some (.int 10 t))
    (D0 : Df K mg "is_integer" sInteger)
    (D1 : Df K mg "is_number_below" sNumBelow)
    (D2 : Df K mg "is_tuple_of" sTupOf)
    (D3 : Df K mg "is_ascending_below" sAsc)
    (D4 : Df K mg "is_table" sTable)
    (D5 : Df K mg "_law_deck" sDeck)
    (D6 : Df K mg "_law_next" sNext)
    (D7 : Df K mg "_law_one" sOne)
    (D8 : Df K mg "_law_same" sSame)
    (D9 : Df K mg "_law_whole" sWhole)
    (D10 : Df K mg "_law_odd" sOdd)
    (D11 : Df K mg "_law_bent" sBent)
    (D12 : Df K mg "_law_part" sPart)
    (D13 : Df K mg "_law_shuffled" sShuf)
    (D14 : Df K mg "_law_intervals" sInt)
    (D15 : Df K mg "_law_around" sAr)
    (D16 : Df K mg "_law_any" sAny)
    (D17 : Df K mg "_law_table" sTab)
    (D18 : Df K mg "_law_is_table" sLawTab)
    (D19 : Df K mg "law" sLaw)
    : ∃ fd : FuncData, (∀ (s : Shared) (v : Value), BindsTo s fd ⟨[v], []⟩ [("_law_script", v)]) ∧ ∀ base : Heap, K.In base → base.Ns mainGlobals mg → RunG P w K mg base 7 fa fd ["_law_script"] (spLaw K) := by
  obtain ⟨f0, fd0, F0, m0⟩ := D0
  have b0 := F0.binds (ps := ["value"]) fun _ _ _ _ _ _ us hl => match us, hl with | [_], _ => rfl
  obtain ⟨f1, fd1, F1, m1⟩ := D1
  have b1 := F1.binds (ps := ["value", "count"]) fun _ _ _ _ _ _ us hl => match us, hl with | [_, _], _ => rfl
  obtain ⟨f2, fd2, F2, m2⟩ := D2
  have b2 := F2.binds (ps := ["value", "length"]) fun _ _ _ _ _ _ us hl => match us, hl with | [_, _], _ => rfl
  obtain ⟨f3, fd3, F3, m3⟩ := D3
  have b3 := F3.binds (ps := ["value", "count"]) fun _ _ _ _ _ _ us hl => match us, hl with | [_, _], _ => rfl
  obtain ⟨f4, fd4, F4, m4⟩ := D4
  have b4 := F4.binds (ps := ["value"]) fun _ _ _ _ _ _ us hl => match us, hl with | [_], _ => rfl
  obtain ⟨f5, fd5, F5, m5⟩ := D5
  have b5 := F5.binds (ps := ["_law_script"]) fun _ _ _ _ _ _ us hl => match us, hl with | [_], _ => rfl
  obtain ⟨f6, fd6, F6, m6⟩ := D6
  have b6 := F6.binds (ps := ["_law_deck_here", "_law_many"]) fun _ _ _ _ _ _ us hl => match us, hl with | [_, _], _ => rfl
  obtain ⟨f7, fd7, F7, m7⟩ := D7
  have b7 := F7.binds (ps := ["_law_deck_here", "_law_some"]) fun _ _ _ _ _ _ us hl => match us, hl with | [_, _], _ => rfl
  obtain ⟨f8, fd8, F8, m8⟩ := D8
  have b8 := F8.binds (ps := ["_law_found", "_law_due"]) fun _ _ _ _ _ _ us hl => match us, hl with | [_, _], _ => rfl
  obtain ⟨f9, fd9, F9, m9⟩ := D9
  have b9 := F9.binds (ps := ["_law_thing"]) fun _ _ _ _ _ _ us hl => match us, hl with | [_], _ => rfl
  obtain ⟨f10, fd10, F10, m10⟩ := D10
  have b10 := F10.binds (ps := ["_law_deck_here"]) fun _ _ _ _ _ _ us hl => match us, hl with | [_], _ => rfl
  obtain ⟨f11, fd11, F11, m11⟩ := D11
  have b11 := F11.binds (ps := ["_law_deck_here", "_law_thing", "_law_deep"]) fun _ _ _ _ _ _ us hl => match us, hl with | [_, _, _], _ => rfl
  obtain ⟨f12, fd12, F12, m12⟩ := D12
  have b12 := F12.binds (ps := ["_law_deck_here", "_law_items", "_law_share"]) fun _ _ _ _ _ _ us hl => match us, hl with | [_, _, _], _ => rfl
  obtain ⟨f13, fd13, F13, m13⟩ := D13
  have b13 := F13.binds (ps := ["_law_deck_here", "_law_count"]) fun _ _ _ _ _ _ us hl => match us, hl with | [_, _], _ => rfl
  obtain ⟨f14, fd14, F14, m14⟩ := D14
  have b14 := F14.binds (ps := ["_law_deck_here", "_law_demands", "_law_offers"]) fun _ _ _ _ _ _ us hl => match us, hl with | [_, _, _], _ => rfl
  obtain ⟨f15, fd15, F15, m15⟩ := D15
  have b15 := F15.binds (ps := ["_law_deck_here", "_law_demands", "_law_offers"]) fun _ _ _ _ _ _ us hl => match us, hl with | [_, _, _], _ => rfl
  obtain ⟨f16, fd16, F16, m16⟩ := D16
  have b16 := F16.binds (ps := ["_law_deck_here", "_law_demands", "_law_offers"]) fun _ _ _ _ _ _ us hl => match us, hl with | [_, _, _], _ => rfl
  obtain ⟨f17, fd17, F17, m17⟩ := D17
  have b17 := F17.binds (ps := ["_law_deck_here", "_law_demands", "_law_offers"]) fun _ _ _ _ _ _ us hl => match us, hl with | [_, _, _], _ => rfl
  obtain ⟨f18, fd18, F18, m18⟩ := D18
  have b18 := F18.binds (ps := ["_law_thing"]) fun _ _ _ _ _ _ us hl => match us, hl with | [_], _ => rfl
  obtain ⟨f19, fd19, F19, m19⟩ := D19
  have e := hfa.symm.trans m19
  cases e
  refine ⟨fd19, fun s v => ?_, fun base _ _ => ?_⟩
  · obtain ⟨oc, od, kV, doc, pm, an, cdv, ct, osl, rfl, lk, hcd⟩ := F19.ex
    exact .of_eq rfl
  · have cInteger := cl_mk (P := P) (w := w) (K := K) (mg := mg) (base := base) F0 m0 b0 (ok_integer F0 B)
    have cNum := cl_mk (P := P) (w := w) (K := K) (mg := mg) (base := base) F1 m1 b1 (ok_numBelow F1 B cInteger)
    have cTup := cl_mk (P := P) (w := w) (K := K) (mg := mg) (base := base) F2 m2 b2 (ok_tupOf F2 B)
    have cAsc := cl_mk (P := P) (w := w) (K := K) (mg := mg) (base := base) F3 m3 b3 (ok_asc F3 B cNum)
    have cTable := cl_mk (P := P) (w := w) (K := K) (mg := mg) (base := base) F4 m4 b4 (ok_table F4 B g_MAX_DEMANDS g_MAX_OFFERS cTup cInteger cAsc)
    have cDeck := cl_mk (P := P) (w := w) (K := K) (mg := mg) (base := base) F5 m5 b5 (ok_deck F5 B)
    have cNext := cl_mk (P := P) (w := w) (K := K) (mg := mg) (base := base) F6 m6 b6 (ok_next F6 B)
    have cOne := cl_mk (P := P) (w := w) (K := K) (mg := mg) (base := base) F7 m7 b7 (ok_one F7 B cNext)
    have cSame := cl_mk (P := P) (w := w) (K := K) (mg := mg) (base := base) F8 m8 b8 (ok_sameB F8 B)
    have cWhole := cl_mk (P := P) (w := w) (K := K) (mg := mg) (base := base) F9 m9 b9 (ok_whole F9 B)
    have cOdd := cl_mk (P := P) (w := w) (K := K) (mg := mg) (base := base) F10 m10 b10 (ok_odd F10 B cNext)
    have cB0 := cl_mk (P := P) (w := w) (K := K) (mg := mg) (base := base) F11 m11 b11 (ok_bent0)
    have cB1 := cl_mk (P := P) (w := w) (K := K) (mg := mg) (base := base) F11 m11 b11 (ok_bent1 (δ := 0) F11 B cNext cOdd cB0)
    have cB2 := cl_mk (P := P) (w := w) (K := K) (mg := mg) (base := base) F11 m11 b11 (ok_bent1 (δ := 1) F11 B cNext cOdd cB1)
    have cB3 := cl_mk (P := P) (w := w) (K := K) (mg := mg) (base := base) F11 m11 b11 (ok_bent1 (δ := 2) F11 B cNext cOdd cB2)
    have cB4 := cl_mk (P := P) (w := w) (K := K) (mg := mg) (base := base) F11 m11 b11 (ok_bent1 (δ := 3) F11 B cNext cOdd cB3)
    have cPart := cl_mk (P := P) (w := w) (K := K) (mg := mg) (base := base) F12 m12 b12 (ok_part F12 B cNext)
    have cShuf := cl_mk (P := P) (w := w) (K := K) (mg := mg) (base := base) F13 m13 b13 (ok_shuf F13 B cNext)
    have cInt := cl_mk (P := P) (w := w) (K := K) (mg := mg) (base := base) F14 m14 b14 (ok_intervals F14 B cNext cShuf)
    have cAr := cl_mk (P := P) (w := w) (K := K) (mg := mg) (base := base) F15 m15 b15 (ok_around F15 B cNext cShuf cPart)
    have cAny := cl_mk (P := P) (w := w) (K := K) (mg := mg) (base := base) F16 m16 b16 (ok_any F16 B cNext cOne cPart)
    have cTab := cl_mk (P := P) (w := w) (K := K) (mg := mg) (base := base) F17 m17 b17 (ok_mktab F17 B cNext cInt cAr cAny)
    have cLawTab := cl_mk (P := P) (w := w) (K := K) (mg := mg) (base := base) F18 m18 b18 (ok_lawtab F18 B cWhole)
    exact ok_law F19 B cDeck cTab cB4 cOdd cSame cTable cLawTab
end L02

set_option Elab.async false
set_option linter.all false
open PySem PySem.W PyProof.Rows
set_option maxRecDepth 100000 in
set_option maxHeartbeats 0 in
theorem PySem.Challenge.cw_payorder_k02_tables_or_not_holds : PySem.Challenge.rw_payorder_k02_tables_or_not.Holds := by
  w_on; o_law; k_head; (case hw => w_witness2)
  k_fill
  refine Pb.walk_G (l := PySem.Challenge.rw_payorder_k02_tables_or_not) (n := 63) (k := 7) (x := "_law_script") (sp := fun w => Pb.spLaw _) rfl (by decide) rfl ⟨rfl, by decide, by decide⟩ (fun w h Y => PySem.W.kIn_of Y) ?F (fun _ _ a ns hl _ hS => ⟨a, ns, rfl, hS, hl, fun _ => rfl⟩)
  case F =>
    intro w mg fa h KX G hmg
    have B : Pb.Bn mg := by
      refine' ⟨PySem.W.mg_none_of KX G ?z0, PySem.W.mg_none_of KX G ?z1, PySem.W.mg_none_of KX G ?z2, PySem.W.mg_none_of KX G ?z3, PySem.W.mg_none_of KX G ?z4, PySem.W.mg_none_of KX G ?z5, PySem.W.mg_none_of KX G ?z6, PySem.W.mg_none_of KX G ?z7, PySem.W.mg_none_of KX G ?z8, PySem.W.mg_none_of KX G ?z9, PySem.W.mg_none_of KX G ?z10, PySem.W.mg_none_of KX G ?z11, PySem.W.mg_none_of KX G ?z12, PySem.W.mg_none_of KX G ?z13, PySem.W.mg_none_of KX G ?z14⟩
      (case z0 => k_is)
      (case z1 => k_is)
      (case z2 => k_is)
      (case z3 => k_is)
      (case z4 => k_is)
      (case z5 => k_is)
      (case z6 => k_is)
      (case z7 => k_is)
      (case z8 => k_is)
      (case z9 => k_is)
      (case z10 => k_is)
      (case z11 => k_is)
      (case z12 => k_is)
      (case z13 => k_is)
      (case z14 => k_is)
    have c0 : ∃ t, mg "MAX_DEMANDS" = some (.int 10 t) := by
      refine' Pb.ct_mk KX G ?a ?e
      (case a => k_is)
      (case e => exact ⟨_, rfl⟩)
    have c1 : ∃ t, mg "MAX_OFFERS" = some (.int 10 t) := by
      refine' Pb.ct_mk KX G ?a ?e
      (case a => k_is)
      (case e => exact ⟨_, rfl⟩)
    refine' L02.all_mk KX G hmg B c0 c1  (Pb.df_mk KX G ?a0 ?l0 ?c0 ?k0) (Pb.df_mk KX G ?a1 ?l1 ?c1 ?k1) (Pb.df_mk KX G ?a2 ?l2 ?c2 ?k2) (Pb.df_mk KX G ?a3 ?l3 ?c3 ?k3) (Pb.df_mk KX G ?a4 ?l4 ?c4 ?k4) (Pb.df_mk KX G ?a5 ?l5 ?c5 ?k5) (Pb.df_mk KX G ?a6 ?l6 ?c6 ?k6) (Pb.df_mk KX G ?a7 ?l7 ?c7 ?k7) (Pb.df_mk KX G ?a8 ?l8 ?c8 ?k8) (Pb.df_mk KX G ?a9 ?l9 ?c9 ?k9) (Pb.df_mk KX G ?a10 ?l10 ?c10 ?k10) (Pb.df_mk KX G ?a11 ?l11 ?c11 ?k11) (Pb.df_mk KX G ?a12 ?l12 ?c12 ?k12) (Pb.df_mk KX G ?a13 ?l13 ?c13 ?k13) (Pb.df_mk KX G ?a14 ?l14 ?c14 ?k14) (Pb.df_mk KX G ?a15 ?l15 ?c15 ?k15) (Pb.df_mk KX G ?a16 ?l16 ?c16 ?k16) (Pb.df_mk KX G ?a17 ?l17 ?c17 ?k17) (Pb.df_mk KX G ?a18 ?l18 ?c18 ?k18) (Pb.df_mk KX G ?a19 ?l19 ?c19 ?k19)
    (case a0 => k_is); (case l0 => k_is); (case c0 => k_is); (case k0 => k_is)
    (case a1 => k_is); (case l1 => k_is); (case c1 => k_is); (case k1 => k_is)
    (case a2 => k_is); (case l2 => k_is); (case c2 => k_is); (case k2 => k_is)
    (case a3 => k_is); (case l3 => k_is); (case c3 => k_is); (case k3 => k_is)
    (case a4 => k_is); (case l4 => k_is); (case c4 => k_is); (case k4 => k_is)
    (case a5 => k_is); (case l5 => k_is); (case c5 => k_is); (case k5 => k_is)
    (case a6 => k_is); (case l6 => k_is); (case c6 => k_is); (case k6 => k_is)
    (case a7 => k_is); (case l7 => k_is); (case c7 => k_is); (case k7 => k_is)
    (case a8 => k_is); (case l8 => k_is); (case c8 => k_is); (case k8 => k_is)
    (case a9 => k_is); (case l9 => k_is); (case c9 => k_is); (case k9 => k_is)
    (case a10 => k_is); (case l10 => k_is); (case c10 => k_is); (case k10 => k_is)
    (case a11 => k_is); (case l11 => k_is); (case c11 => k_is); (case k11 => k_is)
    (case a12 => k_is); (case l12 => k_is); (case c12 => k_is); (case k12 => k_is)
    (case a13 => k_is); (case l13 => k_is); (case c13 => k_is); (case k13 => k_is)
    (case a14 => k_is); (case l14 => k_is); (case c14 => k_is); (case k14 => k_is)
    (case a15 => k_is); (case l15 => k_is); (case c15 => k_is); (case k15 => k_is)
    (case a16 => k_is); (case l16 => k_is); (case c16 => k_is); (case k16 => k_is)
    (case a17 => k_is); (case l17 => k_is); (case c17 => k_is); (case k17 => k_is)
    (case a18 => k_is); (case l18 => k_is); (case c18 => k_is); (case k18 => k_is)
    (case a19 => k_is); (case l19 => k_is); (case c19 => k_is); (case k19 => k_is)
