import PyProof.Rows.All
import Wide.All
import OpenK.AllK
import Wide.FinOn
import HandS.ForMost
import HandS.Evl
import HandS.IsInst
import HandS.TupAny
import HandS.TupMul
import HandS.Conv
import HandS.EndBits
import HandS.SetFor
import HandS.Style
import HandS.Strs
import PyProof.NeKinds
import PyProof.ReprLen
import PyProof.ReprRoads
import HandS.SortInts
import PyProof.TupleOfSeq
import KE.KRevSl
import HandS.ExcValue
import KE.GoesMore
import PyProof.EnumMake
import HandS.Small
import HandS.ExcIs
import HandS.ExcInit
import HandS.Walk
import HandS.WordsExc
import HandS.ExcField
import HandS.HotCalls
import HandS.Zip
import HandS.Rev
import HandS.WideBits
import HandS.Wide
import KE.SortData
import KE.SortKeyHeap
import HandS.CallLocal
import KE.KTupSum
import PyProof.Rows.SetFrom
import HandS.Dict
import HandS.More
import HandS.DictComp
import KE.KTurns
import PyProof.AutoSeq1
import HandS.Star
import HandS.Set
import HandS.Text
import HandS.StrMore
import HandS.FStr
import HandS.Codes
import PyProof.StrBlock2
import HandS.TupLe
import KE.LtData
import PyProof.ListOps
import HandS.Deep
import PySem.Challenge.RW_payorder_k67_invalid_texts
set_option Elab.async false
set_option linter.all false
set_option maxRecDepth 100000
/-! Pb: what all laws of the program share. -/
namespace Pb
open PySem PySem.Spec PyProof.Rows L2

/-- the built-in names that are still the built-in ones -/
structure Bn (mg : Str → Option Value) : Prop where
  isinstance : mg "isinstance" = none
  len : mg "len" = none
  abs : mg "abs" = none
  range : mg "range" = none
  tuple : mg "tuple" = none
  list : mg "list" = none
  int : mg "int" = none
  bool : mg "bool" = none
  str : mg "str" = none
  dict : mg "dict" = none
  sorted : mg "sorted" = none
  set : mg "set" = none
  repr : mg "repr" = none
  all : mg "all" = none
  enumerate : mg "enumerate" = none

theorem bt_int : bootBuiltins "int" = some (.type "int") := by decide +kernel
theorem bt_bool : bootBuiltins "bool" = some (.type "bool") := by decide +kernel
theorem bt_str : bootBuiltins "str" = some (.type "str") := by decide +kernel
theorem bt_list : bootBuiltins "list" = some (.type "list") := by decide +kernel
theorem bt_tuple : bootBuiltins "tuple" = some (.type "tuple") := by decide +kernel
theorem bt_dict : bootBuiltins "dict" = some (.type "dict") := by decide +kernel
theorem bt_set : bootBuiltins "set" = some (.type "set") := by decide +kernel
theorem bt_isinstance : bootBuiltins "isinstance" = some (.builtin "isinstance") := by decide +kernel
theorem bt_len : bootBuiltins "len" = some (.builtin "len") := by decide +kernel
theorem bt_abs : bootBuiltins "abs" = some (.builtin "abs") := by decide +kernel
theorem bt_sorted : bootBuiltins "sorted" = some (.builtin "sorted") := by decide +kernel
theorem bt_all : bootBuiltins "all" = some (.builtin "all") := by decide +kernel
section
variable {X : Cx}
theorem pe_ty {x : Str} {pos : Pos} {T : String} (hg : Gl X x) (hm : X.mg x = none) (hv : bootBuiltins x = some (.type T)) (hn : x ≠ "__name__" := by decide) (hd : (x == ("__debug__" : Str)) = false := by decide) :
    PE X (.Name x pos) (tC (.ty T)) := pe_bltn hg hm hv rfl hn hd
theorem pe_gc2 {x : Str} {pos : Pos} {i : Int} (hg : Gl X x) (hm : ∃ t, X.mg x = some (.int i t)) (hd : (x == ("__debug__" : Str)) = false := by decide) : PE X (.Name x pos) (tC (.int i)) := by
  obtain ⟨t, h⟩ := hm
  exact pe_glob hg h ⟨_, rfl⟩ hd
end

section
variable {X : Cx} {K : PySem.W.Frag}
theorem call_len_seqK (h : X.K = K) : CallR X (.builtin "len") (Evl.rLenS K) := h ▸ call_len_seq
end
/-- a def of the text, its promise and all that a caller asks -/
structure Cl (P : Program) (w : World) (K : PySem.W.Frag) (mg : Str → Option Value) (base : Heap) (k : Nat) (x : Str) (ps : List Str) (sp : Sp) : Prop where
  ex : ∃ (f : Addr) (fd : FuncData), FnOk P w K mg base CX0 k f fd ps sp ∧ mg x = some (.ref f) ∧ PySem.W.keepIn K (.ref f) = true ∧ Binds K fd ps []
section
variable {X : Cx} {j k : Nat} {x : Str} {ps : List Str} {sp : Sp} {e : Expr} {es : List Expr} {t : TA} {p pos : Pos}
theorem pe_k (c : Cl X.prog X.w X.K X.mg X.base k x ps sp) (hr : Room j X.A) (hk : k ≤ j) (hg : Gl X x) (ha : PA X (e :: es) t)
    (hdb : (x == ("__debug__" : Str)) = false := by decide) (he : starEach (e :: es) X.env = (false, eval e X.env) :: starEach es X.env := by rfl) (hpl : (backTo pos (starEach es X.env)).any (·.1) = false := by rfl) :
    PE X (.Call (.Name x p) (e :: es) [] pos) (tCall sp [] E0 t) := by
  obtain ⟨f, fd, F, hm, kp, b⟩ := c.ex
  exact pe_call F (hr.mono hk) hg hm kp b .nil pass0 ha hdb he hpl
end

/-! ### a list against [], a tuple against () -/
def rNe0 (K : PySem.W.Frag) : R2 := fun x y H Q => ∃ a b xs, x = .ref a ∧ y = .ref b ∧ SqL K H a xs ∧ SqL K H b [] ∧ Q (.bl (!xs.isEmpty)) H
def rEq0 (K : PySem.W.Frag) : R2 := fun x y H Q => ∃ a b xs, x = .ref a ∧ y = .ref b ∧ SqL K H a xs ∧ SqL K H b [] ∧ Q (.bl xs.isEmpty) H
def rEq0T (K : PySem.W.Frag) : R2 := fun x y H Q => ∃ a b xs, x = .ref a ∧ y = .ref b ∧ SqT K H a xs ∧ SqT K H b [] ∧ Q (.bl xs.isEmpty) H
section
variable {X : Cx}
theorem op_ne0 (hu : X.A.units + 64 < cLine) : OpR X (compareOp .NotEq) (rNe0 X.K) := by
  intro pins s σ H x y v u Q I rx ry h
  obtain ⟨a, b, xs, rfl, rfl, h1, h2, q⟩ := h
  cases rx
  cases ry
  obtain ⟨its, rv, hl, _⟩ := I.list h1
  obtain ⟨its2, rv2, hl2, _⟩ := I.list h2
  cases rv2
  have hu' : X.A.units < cLine := by omega
  cases rv with
  | nil => exact SeqAt.RcNeAt.lists (e := fun _ => true) hl.isList hl2.isList rfl hu' (fun j h1 _ => absurd h1 (Nat.not_lt_zero _)) _ _ _ _ ⟨.bl _, H, I, rfl, q⟩
  | cons r1 r2 => exact SeqAt.RcNeAt.lists_lengths hl.isList hl2.isList (by simp) hu' _ _ _ _ ⟨.bl _, H, I, rfl, q⟩
theorem op_eq0 (hu : X.A.units + 64 < cLine) : OpR X (compareOp .Eq) (rEq0 X.K) := by
  intro pins s σ H x y v u Q I rx ry h
  obtain ⟨a, b, xs, rfl, rfl, h1, h2, q⟩ := h
  cases rx
  cases ry
  obtain ⟨its, rv, hl, _⟩ := I.list h1
  obtain ⟨its2, rv2, hl2, _⟩ := I.list h2
  cases rv2
  have hu' : X.A.units < cLine := by omega
  cases rv with
  | nil => exact SeqAt.RcAt.lists (e := fun _ => true) hl.isList hl2.isList rfl hu' (fun j h1 _ => absurd h1 (Nat.not_lt_zero _)) _ _ _ _ ⟨.bl _, H, I, rfl, q⟩
  | cons r1 r2 => exact SeqAt.RcAt.lists_lengths hl.isList hl2.isList (by simp) hu' _ _ _ _ ⟨.bl _, H, I, rfl, q⟩
theorem op_eq0T (hu : X.A.units + 64 < cLine) : OpR X (compareOp .Eq) (rEq0T X.K) := by
  intro pins s σ H x y v u Q I rx ry h
  obtain ⟨a, b, xs, rfl, rfl, h1, h2, q⟩ := h
  cases rx
  cases ry
  obtain ⟨its, rv, hl, _⟩ := I.tuple h1
  obtain ⟨its2, rv2, hl2, _⟩ := I.tuple h2
  cases rv2
  have hu' : X.A.units < cLine := by omega
  refine SeqAt.RcAt.tuples (e := fun _ => true) hl hl2 hu' (fun j _ h2 => absurd h2 (Nat.not_lt_zero _)) _ _ _ _ ⟨.bl _, H, I, ?_, q⟩
  cases rv with
  | nil => rfl
  | cons r1 r2 => rfl
end

/-! ### heaps -/
theorem sz {n : Nat} (h : n ≤ 1000) : n ≤ sizeLine := Nat.le_of_lt (small1000 h)
theorem same_upd {H : Hp} {p : Addr} {o : HO} (h : H p = none) : Same H (upd H p o) := fun b x e => by
  rw [upd_ne (ne_of_none e h)]
  exact e
theorem Same.tq {K : PySem.W.Frag} {H H' : Hp} {a : Addr} {xs : List V} (e : Same H H') (h : SqT K H a xs) : SqT K H' a xs := by
  rcases h with (h | ⟨o, h⟩) | h
  · exact .inl (.inl (e _ _ h))
  · exact .inl (.inr ⟨o, e _ _ h⟩)
  · exact .inr h
theorem seqIndex_nat {n j : Nat} (h : j < n) : seqIndex? (j : Int) n = some j := by
  unfold seqIndex?
  simp
  omega
/-- the heap without the deck's two changing lists -/
def msk (d b : Addr) (H : Hp) : Hp := fun a => if a = d ∨ a = b then none else H a
theorem msk_ne {d b a : Addr} {H : Hp} (h1 : a ≠ d) (h2 : a ≠ b) : msk d b H a = H a := by
  unfold msk
  rw [if_neg (fun z => z.elim h1 h2)]
theorem msk_some {d b a : Addr} {H : Hp} {o : HO} (h : msk d b H a = some o) : a ≠ d ∧ a ≠ b ∧ H a = some o := by
  unfold msk at h
  split at h
  · cases h
  · rename_i q
    exact ⟨fun z => q (.inl z), fun z => q (.inr z), h⟩
theorem msk_sub {d b : Addr} {H : Hp} : Same (msk d b H) H := fun _ _ e => (msk_some e).2.2
theorem msk_none {d b a : Addr} {H : Hp} (h : H a = none) : msk d b H a = none := by
  unfold msk
  split
  · rfl
  · exact h
theorem msk_new {d b p : Addr} {H : Hp} {o : HO} (h1 : p ≠ d) (h2 : p ≠ b) : msk d b (upd H p o) = upd (msk d b H) p o := by
  funext a
  by_cases e : a = p
  · subst e
    rw [msk_ne h1 h2, upd_same, upd_same]
  · rw [upd_ne e]
    unfold msk
    rw [upd_ne e]
theorem msk_d {d b : Addr} {H : Hp} {o : HO} : msk d b (upd H d o) = msk d b H := by
  funext a
  unfold msk
  split
  · rfl
  · rename_i q
    rw [upd_ne fun z => q (.inl z)]
theorem msk_b {d b : Addr} {H : Hp} {o : HO} : msk d b (upd H b o) = msk d b H := by
  funext a
  unfold msk
  split
  · rfl
  · rename_i q
    rw [upd_ne fun z => q (.inr z)]
theorem msk_same {d b : Addr} {H H' : Hp} (h : Same H H') : Same (msk d b H) (msk d b H') := fun a o e => by
  obtain ⟨h1, h2, h3⟩ := msk_some e
  rw [msk_ne h1 h2]
  exact h _ _ h3

/-- the deck: its list at d, the large cells at b, all cells at c, n mixed draws so far -/
structure Dk (d b c : Addr) (n : Int) (H : Hp) : Prop where
  db : d ≠ b
  dc : d ≠ c
  bc : b ≠ c
  n0 : 0 ≤ n
  at_d : H d = some (.lst [.ref b, .ref c, .int n])
  at_b : ∃ bs : List Int, H b = some (.lst (bs.map V.int))
  at_c : ∃ cs : List Int, H c = some (.lst (cs.map V.int)) ∧ cs ≠ [] ∧ cs.length ≤ 1000
theorem Dk.same {d b c : Addr} {n : Int} {H H' : Hp} (h : Dk d b c n H) (s : Same H H') : Dk d b c n H' := by
  obtain ⟨x1, x2, x3, x4, x5, ⟨bs, x6⟩, cs, x7, x8⟩ := h
  exact ⟨x1, x2, x3, x4, s _ _ x5, ⟨bs, s _ _ x6⟩, cs, s _ _ x7, x8⟩
/-- what a draw leaves -/
structure Dr (d b c : Addr) (n : Int) (H : Hp) (n' : Int) (H' : Hp) : Prop where
  dk : Dk d b c n' H'
  le : n' ≤ n
  sm : Same (msk d b H) (msk d b H')
/-- _law_next(deck, many): some number below many -/
def spNext : Sp := fun vs H Q _ => ∃ (d b c : Addr) (n m : Int), vs = [.ref d, .int m] ∧ Dk d b c n H ∧ n < 2 ^ 60 ∧ 0 < m ∧ m < 1073741824 ∧
  ∀ (v n' : Int) (H' : Hp), 0 ≤ v → v < m → Dr d b c (n + 1) H n' H' → Q (.int v) H'
end Pb

set_option Elab.async false
set_option linter.all false
set_option maxRecDepth 100000
namespace Pb
open PySem PySem.Spec PyProof.Rows L2
/-! ### data with small leaves, and how long its text is at most -/
mutual
def okD : PyData → Bool
  | .none => true
  | .bool _ => true
  | .int i => decide (i.natAbs < 10 ^ 80)
  | .str x => decide (x.length ≤ 100) && x.cps.toList.all fun c => decide (c < 16 ^ 8)
  | .list xs => decide (xs.length ≤ 60) && okAll xs
  | .tuple xs => decide (xs.length ≤ 60) && okAll xs
  | .dict kvs => kvs.isEmpty
def okAll : List PyData → Bool
  | [] => true
  | x :: xs => okD x && okAll xs
end
mutual
def wt : PyData → Nat
  | .none => 4
  | .bool _ => 5
  | .int _ => 81
  | .str _ => 2000
  | .list xs => wtAll xs + 3
  | .tuple xs => wtAll xs + 3
  | .dict _ => 3
def wtAll : List PyData → Nat
  | [] => 0
  | x :: xs => wt x + 2 + wtAll xs
end
theorem okAll_iff : ∀ {xs : List PyData}, okAll xs = true ↔ ∀ x ∈ xs, okD x = true
  | [] => ⟨fun _ _ h => absurd h List.not_mem_nil, fun _ => rfl⟩
  | x :: xs => by
    simp only [okAll, Bool.and_eq_true, List.mem_cons, okAll_iff (xs := xs)]
    exact ⟨fun h y hy => hy.elim (fun e => e ▸ h.1) (h.2 y), fun h => ⟨h x (.inl rfl), fun y hy => h y (.inr hy)⟩⟩
mutual
/-- no list in it -/
def nl : PyData → Bool
  | .list _ => false
  | .tuple xs => nlAll xs
  | _ => true
def nlAll : List PyData → Bool
  | [] => true
  | x :: xs => nl x && nlAll xs
end
/-! ### data in the heap -/
/-- a dict's value: a number, None, a tuple of numbers -/
inductive Fl (K : PySem.W.Frag) (H : Hp) : V → PyData → Prop
  | non : Fl K H .non .none
  | int (i : Int) : Fl K H (.int i) (.int i)
  | tup {a : Addr} (ns : List Int) : SqT K H a (ns.map V.int) → Fl K H (.ref a) (.tuple (ns.map PyData.int))
/-- a dict's entries -/
inductive Kvs (K : PySem.W.Frag) (H : Hp) : List (Key × V) → List (PyData × PyData) → Prop
  | nil : Kvs K H [] []
  | cons {i : Int} {v : V} {d : PyData} {ks : List (Key × V)} {kvs : List (PyData × PyData)} : Fl K H v d → Kvs K H ks kvs → Kvs K H ((Sum.inl i, v) :: ks) ((.int i, d) :: kvs)
theorem Fl.mono {K : PySem.W.Frag} {H H' : Hp} {v : V} {d : PyData} (h : Fl K H v d) (s : Same H H') : Fl K H' v d := by
  cases h with
  | non => exact .non
  | int i => exact .int i
  | tup ns h => exact .tup ns (Same.tq s h)
theorem Kvs.mono {K : PySem.W.Frag} {H H' : Hp} : ∀ {ks : List (Key × V)} {kvs : List (PyData × PyData)}, Kvs K H ks kvs → Same H H' → Kvs K H' ks kvs
  | _, _, .nil, _ => .nil
  | _, _, .cons h k, s => .cons (h.mono s) (Kvs.mono k s)
theorem Kvs.len {K : PySem.W.Frag} {H : Hp} : ∀ {ks : List (Key × V)} {kvs : List (PyData × PyData)}, Kvs K H ks kvs → ks.length = kvs.length
  | _, _, .nil => rfl
  | _, _, .cons _ k => by rw [List.length_cons, List.length_cons, Kvs.len k]
mutual
inductive Da (K : PySem.W.Frag) (H : Hp) : V → PyData → Prop
  | non : Da K H .non .none
  | bl (b : Bool) : Da K H (.bl b) (.bool b)
  | int (i : Int) : Da K H (.int i) (.int i)
  | str (x : Str) : Da K H (.str x) (.str x)
  | lst {a : Addr} {xs : List V} {ds : List PyData} : SqL K H a xs → DaAll K H xs ds → Da K H (.ref a) (.list ds)
  | tup {a : Addr} {xs : List V} {ds : List PyData} : SqT K H a xs → DaAll K H xs ds → Da K H (.ref a) (.tuple ds)
  | emp {a : Addr} : H a = some (.dK []) → Da K H (.ref a) (.dict [])
  | dic {a : Addr} {o : Obj} {ks : List (Key × V)} {kvs : List (PyData × PyData)} : H a = some (.frz o (.dK ks)) → Kvs K H ks kvs → Da K H (.ref a) (.dict ((.none, .none) :: kvs))
inductive DaAll (K : PySem.W.Frag) (H : Hp) : List V → List PyData → Prop
  | nil : DaAll K H [] []
  | cons {v : V} {vs : List V} {d : PyData} {ds : List PyData} : Da K H v d → DaAll K H vs ds → DaAll K H (v :: vs) (d :: ds)
end
section
variable {K : PySem.W.Frag} {H H' : Hp}
mutual
theorem Da.same (s : Same H H') : ∀ (d : PyData) (v : V), Da K H v d → Da K H' v d
  | .none, _, h => by
    cases h
    exact .non
  | .bool b, _, h => by
    cases h
    exact .bl b
  | .int i, _, h => by
    cases h
    exact .int i
  | .str x, _, h => by
    cases h
    exact .str x
  | .list ds, _, h => by
    cases h with
    | lst h1 h2 => exact .lst (s.seq h1) (DaAll.same s ds _ h2)
  | .tuple ds, _, h => by
    cases h with
    | tup h1 h2 => exact .tup (Same.tq s h1) (DaAll.same s ds _ h2)
  | .dict _, _, h => by
    cases h with
    | emp h1 => exact .emp (s _ _ h1)
    | dic h1 h2 => exact .dic (s _ _ h1) (h2.mono s)
theorem DaAll.same (s : Same H H') : ∀ (ds : List PyData) (vs : List V), DaAll K H vs ds → DaAll K H' vs ds
  | [], _, h => by
    cases h
    exact .nil
  | d :: ds, _, h => by
    cases h with
    | cons h1 h2 => exact .cons (Da.same s d _ h1) (DaAll.same s ds _ h2)
end
theorem Da.mono {v : V} {d : PyData} (h : Da K H v d) (s : Same H H') : Da K H' v d := Da.same s d v h
theorem DaAll.mono {vs : List V} {ds : List PyData} (h : DaAll K H vs ds) (s : Same H H') : DaAll K H' vs ds := DaAll.same s ds vs h
theorem DaAll.len : ∀ {vs : List V} {ds : List PyData}, DaAll K H vs ds → vs.length = ds.length
  | [], _, h => by
    cases h
    rfl
  | v :: vs, _, h => by
    cases h with
    | cons h1 h2 =>
      rw [List.length_cons, List.length_cons, DaAll.len h2]
theorem DaAll.get : ∀ {vs : List V} {ds : List PyData} {i : Nat} {v : V}, DaAll K H vs ds → vs[i]? = some v → ∃ d, ds[i]? = some d ∧ Da K H v d
  | [], _, _, _, h, e => by simp at e
  | x :: vs, _, i, v, h, e => by
    cases h with
    | cons h1 h2 =>
      cases i with
      | zero =>
        simp at e
        subst e
        exact ⟨_, rfl, h1⟩
      | succ i => exact DaAll.get (i := i) h2 (by simpa using e)
theorem DaAll.append : ∀ {vs ws : List V} {ds es : List PyData}, DaAll K H vs ds → DaAll K H ws es → DaAll K H (vs ++ ws) (ds ++ es)
  | [], _, _, _, h, k => by
    cases h
    exact k
  | _ :: _, _, _, _, h, k => by
    cases h with
    | cons h1 h2 => exact .cons h1 (DaAll.append h2 k)
theorem DaAll.ints : ∀ ns : List Int, DaAll K H (ns.map V.int) (ns.map PyData.int)
  | [] => .nil
  | n :: ns => .cons (.int n) (DaAll.ints ns)
theorem DaAll.drop : ∀ (n : Nat) {vs : List V} {ds : List PyData}, DaAll K H vs ds → DaAll K H (vs.drop n) (ds.drop n)
  | 0, _, _, h => h
  | n + 1, [], _, h => by
    cases h
    exact .nil
  | n + 1, _ :: _, _, h => by
    cases h with
    | cons h1 h2 => exact DaAll.drop n h2
theorem DaAll.take : ∀ (n : Nat) {vs : List V} {ds : List PyData}, DaAll K H vs ds → DaAll K H (vs.take n) (ds.take n)
  | 0, _, _, _ => .nil
  | n + 1, [], _, h => by
    cases h
    exact .nil
  | n + 1, _ :: _, _, h => by
    cases h with
    | cons h1 h2 => exact .cons h1 (DaAll.take n h2)
theorem DaAll.rev : ∀ {vs : List V} {ds : List PyData}, DaAll K H vs ds → DaAll K H vs.reverse ds.reverse
  | [], _, h => by
    cases h
    exact .nil
  | _ :: _, _, h => by
    cases h with
    | cons h1 h2 =>
      rw [List.reverse_cons, List.reverse_cons]
      exact (DaAll.rev h2).append (.cons h1 .nil)
end

/-! ### isinstance -/
def tyN : PyData → String
  | .none => "NoneType"
  | .bool _ => "bool"
  | .int _ => "int"
  | .str _ => "str"
  | .list _ => "list"
  | .tuple _ => "tuple"
  | .dict _ => "dict"
theorem Da.ty {K : PySem.W.Frag} {H : Hp} : ∀ {v : V} {d : PyData}, Da K H v d → TyX K H v (.type (tyN d))
  | _, _, .non => .base .non
  | _, _, .bl b => .base (.bl b)
  | _, _, .int i => .base (.int i)
  | _, _, .str x => .base (.str x)
  | _, _, .lst h _ => by
    rcases h with (h | ⟨o, h⟩) | h
    · exact .base (.lst h)
    · exact .base (.frz h)
    · obtain ⟨o, its, n, ho, hc, _⟩ := h
      exact .kList ho hc
  | _, _, .tup h _ => by
    rcases h with (h | ⟨o, h⟩) | h
    · exact .base (.tup h)
    · exact .fTuple h
    · obtain ⟨o, its, n, ho, hc, _⟩ := h
      exact .kTuple ho hc
  | _, _, .emp h => .base (.dK h)
  | _, _, .dic h _ => .fDict h
/-- whether isinstance(d, T) is true -/
def isN (T a : String) : Bool := a == T || (T == "int" && a == "bool")
def isI (T : String) (d : PyData) : Bool := isN T (tyN d)
theorem kit_isN : ∀ a ∈ ["NoneType", "bool", "int", "str", "list", "tuple", "dict"], ∀ T ∈ ["int", "bool", "tuple", "list", "dict", "str"], kitB a T = some (isN T a) := by decide +kernel
theorem kit_isI (T : String) (d : PyData) (hT : T ∈ ["int", "bool", "tuple", "list", "dict", "str"]) : kitB (tyN d) T = some (isI T d) :=
  kit_isN (tyN d) (by cases d <;> simp [tyN]) T hT
section
variable {K : PySem.W.Frag} {σ : L2.St} {H : Hp} {ta : TE} {x : V} {d : PyData}
theorem isi_of {T : String} {Q : VK} (h : Da K H x d) (q : Q (.bl (isI T d)) H) (hT : T ∈ ["int", "bool", "tuple", "list", "dict", "str"] := by decide) : rIsi K [x, .ty T] H Q :=
  ⟨x, .ty T, _, _, _, rfl, .ty T, h.ty, kit_ty (kit_isI T d hT), q⟩
theorem ev_isi {T : String} (ha : Evl.Ev ta σ H x) (h : Da K H x d) (hT : T ∈ ["int", "bool", "tuple", "list", "dict", "str"] := by decide) :
    Evl.Ev (tCB (rIsi K) (tCons ta (tCons (tC (.ty T)) tNil))) σ H (.bl (isI T d)) := fun H1 e Q q =>
  ha H1 e _ fun H2 e2 => isi_of (h.mono (Same.trans e e2)) (q H2 e2) hT
end

/-! ### repr -/
section
variable {X : Cx} {pins : List (Addr × Obj)} {σ : L2.St} {H : Hp} {s : Shared}
theorem noSys (I : Inv X pins σ H s) {a : Addr} (h : H a = some (.dK [])) : (a == sysModules) = false := (I.hok a _ h).2.1
mutual
theorem Da.reads (I : Inv X pins σ H s) : ∀ (d : PyData) (v : V) (u : Value), okD d = true → Da X.K H v d → RelV v u → ∃ as, Reads s.heap u d as ∧ (nl d = true → sysModules ∉ as)
  | .none, _, _, _, h, r => by
    cases h
    cases r
    exact ⟨_, Reads.none, fun _ => List.not_mem_nil⟩
  | .bool b, _, _, _, h, r => by
    cases h
    cases r
    exact ⟨_, Reads.bool b, fun _ => List.not_mem_nil⟩
  | .int i, _, _, _, h, r => by
    cases h
    obtain ⟨t, rfl⟩ := r
    exact ⟨_, Reads.int i t, fun _ => List.not_mem_nil⟩
  | .str x, _, _, _, h, r => by
    cases h
    obtain ⟨t, rfl⟩ := r
    exact ⟨_, Reads.str x t, fun _ => List.not_mem_nil⟩
  | .list ds, _, _, ok, h, r => by
    cases h with
    | lst hs ha =>
      cases r
      obtain ⟨its, rv, ⟨o, n, ho, hc, _, hd⟩, _⟩ := I.list hs
      obtain ⟨as, hr, _⟩ := Da.readsAll I ds _ its (by simp only [okD, Bool.and_eq_true] at ok; exact ok.2) ha rv
      exact ⟨_, Reads.list ho hc hd hr, fun z => nomatch z⟩
  | .tuple ds, _, _, ok, h, r => by
    cases h with
    | tup hs ha =>
      cases r
      obtain ⟨its, rv, ⟨o, ho, hc, n, hd⟩, _⟩ := I.tuple hs
      obtain ⟨as, hr, hn⟩ := Da.readsAll I ds _ its (by simp only [okD, Bool.and_eq_true] at ok; exact ok.2) ha rv
      exact ⟨_, Reads.tuple ho hc hd hr, hn⟩
  | .dict kvs, _, _, ok, h, r => by
    cases h with
    | emp h1 =>
      cases r
      have ns := noSys I h1
      obtain ⟨_, _, vs, k, o, es, ep, e1, e2, e3, _, e4, _⟩ := I.hok _ _ h1
      cases k
      have e5 : es.toList = [] := by
        generalize es.toList = l at e4
        cases e4
        rfl
      refine ⟨_, Reads.dict (kvs := []) (as := []) (bs := []) e1 e2.1 e3 (by rw [e5]; exact .nil) (by rw [e5]; exact .nil), fun _ z => ?_⟩
      rcases List.mem_cons.mp z with z | z
      · rw [← z] at ns
        simp at ns
      · exact absurd z List.not_mem_nil
    | dic h1 h2 => cases ok
theorem Da.readsAll (I : Inv X pins σ H s) : ∀ (ds : List PyData) (vs : List V) (us : List Value), okAll ds = true → DaAll X.K H vs ds → Vals vs us → ∃ as, ReadsAll s.heap us ds as ∧ (nlAll ds = true → sysModules ∉ as)
  | [], _, _, _, h, r => by
    cases h
    cases r
    exact ⟨_, ReadsAll.nil, fun _ => List.not_mem_nil⟩
  | d :: ds, _, _, ok, h, r => by
    simp only [okAll, Bool.and_eq_true] at ok
    cases h with
    | cons h1 h2 =>
      cases r with
      | cons r1 r2 =>
        obtain ⟨as, q1, n1⟩ := Da.reads I d _ _ ok.1 h1 r1
        obtain ⟨bs, q2, n2⟩ := Da.readsAll I ds _ _ ok.2 h2 r2
        refine ⟨_, ReadsAll.cons q1 q2, fun z => ?_⟩
        simp only [nlAll, Bool.and_eq_true] at z
        intro m
        rcases List.mem_append.mp m with m | m
        · exact n1 z.1 m
        · exact n2 z.2 m
end
end
end Pb

set_option Elab.async false
set_option linter.all false
set_option maxRecDepth 100000
namespace Pb
open PySem PySem.Spec PyProof.Rows L2
section
variable {X : Cx}
/-- sorted(t), a tuple of ints -/
def rSortT (K : PySem.W.Frag) : List V → Hp → VK → Prop := fun vs H Q => ∃ (a : Addr) (ns : List Int), vs = [V.ref a] ∧ SqT K H a (ns.map V.int) ∧
  ∀ (ns' : List Int) (p : Addr), ns'.Perm ns → ns'.Pairwise (· ≤ ·) → H p = none → Q (.ref p) (upd H p (.lst (ns'.map V.int)))
theorem cr_sortT : CallR X (.builtin "sorted") (rSortT X.K) := by
  intro pins s σ H vs us Q I r h
  obtain ⟨a, ns, rfl, hs, q⟩ := h
  obtain ⟨its, rv, ⟨o, ho, hcl, n, hd⟩, hz⟩ := I.tuple hs
  rw [Vals.ref1 r]
  have hi := rv.ints
  have hzl : its.length ≤ sizeLine := by
    rw [← rv.length]
    exact hz
  refine Calls.call_function_entry kind_sorted plain_sorted entry_sorted (args_sorted1 _) ?_
  unfold Builtin.«sorted»
  refine wpAny_bind (m := checkCount "sorted" 1 1 _) (wpAny_pure ?_)
  refine wpAny_bind (wpAny_collect_seq a (T := "tuple") (.inr rfl) ho hcl hd (fun h' k => ?_) (by rw [List.size_toArray]; exact hzl))
  rw [show its.toArray.toList = its by simp]
  refine wpAny_bind (wpAny_newList ?_ hzl)
  have hoL : (h'.push (seqObj "list" its.toArray 0)).get? h'.objs.size = some (seqObj "list" its.toArray 0) := Heap.get?_push_size _ rfl
  refine wpAny_bind (wpAny_holding (wpAny_call_entry (s := { s with heap := h'.push (seqObj "list" its.toArray 0) }) slot_list_sort ⟨_, hoL, rfl⟩ entry_list_sort
    (SrtO.list_sort_ord (s := { s with heap := h'.push (seqObj "list" its.toArray 0) }) SrtO.swo_int hoL hzl (fun h2 => SrtO.ints_sortable hi h2) fun out h1 h2 => ⟨_, rfl, ?_⟩) (args_list_sort _)))
  refine wpAny_pure ⟨_, rfl, ?_⟩
  obtain ⟨k1, k2, k3⟩ := SrtO.ints_out hi h1 h2
  obtain ⟨ep, he'⟩ := PyProof.Rows.sortedHeap_at (vs := its) (out := out.toArray) hoL
  have hlen : ((out.map SrtO.iv).map V.int).length ≤ sizeLine := by
    rw [List.length_map, k2.length_eq]
    rw [List.length_map] at hz
    exact hz
  have hnew : s.heap.get? h'.objs.size = none := by
    cases e : s.heap.get? h'.objs.size with
    | none => rfl
    | some u => exact absurd (Heap.lt_size (k _ _ e)) (Nat.lt_irrefl _)
  have hn : H h'.objs.size = none := I.hok.gone hnew
  exact ⟨.ref _, upd H h'.objs.size (.lst ((out.map SrtO.iv).map V.int)), I.laidN (t' := s.toks) (fun b u e => by
    have e1 := k b u e
    rw [PyProof.Rows.sortedHeap_old (Nat.ne_of_lt (Heap.lt_size e1)) (by rw [size_push']; exact Nat.lt_succ_of_lt (Heap.lt_size e1))]
    exact Heap.get?_push_of_some _ e1) hnew hn ⟨hlen, out, ep, vals_of_ints k1, he'⟩, rfl, q _ _ k2 k3 hn⟩
end
/-! ### t[::-1] -/
section
variable {prog : Program} {w : World} {A : Around} {E : Value → Shared → Prop} {s : Shared}
end
section
variable {X : Cx}
end
end Pb

set_option Elab.async false
set_option linter.all false
set_option maxRecDepth 100000
namespace Pb
open PySem PySem.Spec PyProof.Rows L2
open PySem.AutoSeq1 (wpAny_loadPart')
/-! ### enumerate(t), t a tuple -/
section
variable {prog : Program} {w : World} {A : Around} {E : Value → Shared → Prop} {s : Shared}
end
section
variable {prog : Program} {w : World} {A : Around} {E : Value → Shared → Prop} {s : Shared}
end
end Pb

set_option Elab.async false
set_option linter.all false
set_option maxRecDepth 100000
namespace Pb
open PySem PySem.Spec PyProof.Rows L2
/-! ### own exceptions: made without arguments; isinstance with a tuple of classes -/
section
variable {X : Cx}
end
end Pb

set_option Elab.async false
set_option linter.all false
set_option maxRecDepth 100000
namespace Pb
/-! from P2 -/
section
open PySem PySem.Spec PyProof.Rows L2
/-- _law_deck(script): a deck whose three lists are new -/
def spDeck (K : PySem.W.Frag) : Sp := fun vs H Q _ => ∃ (a : Addr) (ns : List Int), vs = [.ref a] ∧ SqL K H a (ns.map V.int) ∧ ns.length ≤ 63 ∧
  ∀ (d b c : Addr) (H' : Hp), Dk d b c 0 H' → H d = none → H b = none → Same H (msk d b H') → Q (.ref d) H'
theorem given_ints (n : Nat) (f : Nat → Bool) (g : Nat → Int) : Evl.given n f (fun i => .int (g i)) = (((List.range n).filter f).map g).map V.int := by
  unfold Evl.given
  rw [List.map_map]
  rfl
theorem ints_at {ns : List Int} {i : Nat} {x : V} (h : (ns.map V.int)[i]? = some x) : x = .int (ns.getD i 0) := by
  rw [List.getElem?_map] at h
  cases e : ns[i]? with
  | none =>
    rw [e] at h
    cases h
  | some y =>
    rw [e] at h
    rw [List.getD_eq_getElem?_getD, e]
    exact (Option.some.inj h).symm
end
/-! from P5 -/
section
open PySem PySem.Spec PyProof.Rows L2
/-- a def that changes nothing and hands back a value -/
def spV (R : List V → Hp → V → Prop) : Sp := fun vs H Q _ => ∃ z, R vs H z ∧ Evl.RetV z H Q
theorem spV_of {R : List V → Hp → V → Prop} {vs : List V} {H : Hp} {z : V} (h : ∀ H1, Evl.Ex H H1 → R vs H1 z) : Evl.SpV (spV R) vs H z := fun H1 e Q q E => ⟨z, h H1 e, q⟩
section
variable {K : PySem.W.Frag} {σ : L2.St} {H : Hp} {ta tb tc : TE} {x y v : V} {r r' : R2}
theorem ev_len' {xs : List V} {p : Addr} (ha : Evl.Ev ta σ H (.ref p)) (h : SqL K H p xs ∨ SqT K H p xs) : Evl.Ev (tCB (Evl.rLenS K) (tCons ta tNil)) σ H (.int (xs.length : Int)) := fun H1 e Q q =>
  ha H1 e _ fun H2 e2 => ⟨p, xs, rfl, h.elim (fun h => .inl (Evl.ex_l (e.trans e2) h)) (fun h => .inr (Evl.ex_t (e.trans e2) h)), q H2 e2⟩
end
/-! ### integers, ascending tuples, tables -/
def isInt (d : PyData) : Bool := isI "int" d && !isI "bool" d
theorem isInt_iff {d : PyData} : isInt d = true ↔ ∃ i, d = .int i := by
  cases d <;> simp [isInt, isI, isN, tyN]
def numBelow : PyData → Int → Bool
  | .int i, c => decide (0 ≤ i) && decide (i < c)
  | _, _ => false
def ascFrom : Int → Int → List PyData → Bool
  | _, _, [] => true
  | l, c, .int i :: r => decide (0 ≤ i) && decide (i < c) && decide (l < i) && ascFrom i c r
  | _, _, _ :: _ => false
def asc : PyData → Int → Bool
  | .tuple ds, c => ascFrom (-1) c ds
  | _, _ => false
section
variable (K : PySem.W.Frag)
end
end
/-! from P6 -/
section
open PySem PySem.Spec PyProof.Rows L2
section
variable {K : PySem.W.Frag} {σ : L2.St} {H : Hp} {t : TT} {te : TE}
end
end
/-! from P7 -/
section
open PySem PySem.Spec PyProof.Rows L2
/-! ### ascending, and sorted without repeats -/
theorem all_ints : ∀ {ds : List PyData}, (∀ d ∈ ds, isInt d = true) → ∃ ns : List Int, ds = ns.map PyData.int
  | [], _ => ⟨[], rfl⟩
  | d :: ds, h => by
    obtain ⟨n, rfl⟩ := isInt_iff.mp (h d List.mem_cons_self)
    obtain ⟨ns, rfl⟩ := all_ints fun x hx => h x (List.mem_cons_of_mem _ hx)
    exact ⟨n :: ns, rfl⟩
theorem strict_eq {a b : List Int} (ha : a.Pairwise (· < ·)) (hb : b.Pairwise (· < ·)) (h : ∀ k, k ∈ a ↔ k ∈ b) : a = b := by
  have na : a.Nodup := ha.imp fun h e => by omega
  have nb : b.Nodup := hb.imp fun h e => by omega
  exact List.Perm.eq_of_pairwise (le := (· ≤ ·)) (fun x y _ _ h1 h2 => Int.le_antisymm h1 h2) (ha.imp fun h => Int.le_of_lt h) (hb.imp fun h => Int.le_of_lt h) ((List.perm_ext_iff_of_nodup na nb).mpr h)
theorem canLay_ints : ∀ ns : List Int, PyData.canLayAll0 (ns.map PyData.int) = true
  | [] => rfl
  | n :: ns => by simp only [List.map_cons, PyData.canLayAll0, PyData.canLay0, canLay_ints ns, Bool.and_self]
theorem depth_ints : ∀ ns : List Int, PyData.depthAll (ns.map PyData.int) = 0
  | [] => rfl
  | n :: ns => by simp only [List.map_cons, PyData.depthAll, PyData.depth, depth_ints ns, Nat.max_self]
theorem shaped_ints (ns : List Int) : SeqAt.shaped (.list (ns.map PyData.int)) = true := by
  simp only [SeqAt.shaped, PyData.canLay0, canLay_ints, PyData.depth, depth_ints, Bool.true_and]
  decide
theorem eqv_ints : ∀ ns ms : List Int, PyData.eqvAll (ns.map PyData.int) (ms.map PyData.int) = decide (ns = ms)
  | [], [] => rfl
  | [], _ :: _ => rfl
  | _ :: _, [] => rfl
  | n :: ns, m :: ms => by
    simp only [List.map_cons, PyData.eqvAll, PyData.eqv, eqv_ints ns ms, List.cons.injEq]
    by_cases h1 : n = m <;> by_cases h2 : ns = ms <;> simp [h1, h2]
section
variable {K : PySem.W.Frag} {σ : L2.St} {H : Hp} {ta : TE}
end
end
/-! from P8 -/
section
open PySem PySem.Spec PyProof.Rows L2
/-! ### draws, one after another -/
section
variable {d b c D p a : Addr} {n m n' n1 n2 k : Int} {H H' H1 H2 : Hp} {o : HO}
theorem Dk.off (h : Dk d b c n H) (hD : H D = none) : D ≠ d ∧ D ≠ b ∧ D ≠ c := by
  obtain ⟨bs, hb⟩ := h.at_b
  obtain ⟨cs, hc, _⟩ := h.at_c
  refine ⟨fun z => ?_, fun z => ?_, fun z => ?_⟩
  · rw [z, h.at_d] at hD
    cases hD
  · rw [z, hb] at hD
    cases hD
  · rw [z, hc] at hD
    cases hD
theorem Dk.put (h : Dk d b c n H) (h1 : D ≠ d ∧ D ≠ b ∧ D ≠ c) : Dk d b c n (upd H D o) := by
  obtain ⟨x1, x2, x3, x4, x5, ⟨bs, x6⟩, cs, x7, x8⟩ := h
  refine ⟨x1, x2, x3, x4, ?_, ⟨bs, ?_⟩, cs, ?_, x8⟩
  · rw [upd_ne h1.1.symm]
    exact x5
  · rw [upd_ne h1.2.1.symm]
    exact x6
  · rw [upd_ne h1.2.2.symm]
    exact x7
theorem Dr.refl (h : Dk d b c n H) : Dr d b c n H n H := ⟨h, Int.le_refl _, Same.refl _⟩
theorem Dr.step (h1 : Dr d b c m H n1 H1) (h2 : Dr d b c (n1 + k) H1 n2 H2) : Dr d b c (m + k) H n2 H2 := ⟨h2.dk, by have := h1.le; have := h2.le; omega, h1.sm.trans h2.sm⟩
theorem Dr.new (h : Dr d b c m H n' H') (hp : H' p = none) : Dr d b c m H n' (upd H' p o) := ⟨h.dk.same (same_upd hp), h.le, h.sm.trans (msk_same (same_upd hp))⟩
theorem Dr.more (h : Dr d b c m H n' H') (s : Same H' H1) : Dr d b c m H n' H1 := ⟨h.dk.same s, h.le, h.sm.trans (msk_same s)⟩
theorem Dr.put (h : Dr d b c m H n' H') (h0 : Dk d b c n H) (hD : H D = none) : Dr d b c m H n' (upd H' D o) := by
  have x := h0.off hD
  refine ⟨h.dk.put x, h.le, fun a u e => ?_⟩
  have ne : a ≠ D := fun z => by
    rw [z, msk_none hD] at e
    cases e
  rw [msk_new x.1 x.2.1, upd_ne ne]
  exact h.sm a u e
theorem Dr.at (h : Dr d b c m H n' H') (x : a ≠ d ∧ a ≠ b ∧ a ≠ c) (e : H a = some o) : H' a = some o := by
  have q := h.sm a o (by rw [msk_ne x.1 x.2.1]; exact e)
  exact (msk_some q).2.2
theorem Dr.wide (h : Dr d b c m H n' H') (hm : m ≤ k) : Dr d b c k H n' H' := ⟨h.dk, Int.le_trans h.le hm, h.sm⟩
theorem Same.mskL {K : PySem.W.Frag} {xs : List V} (h : SqL K (msk d b H) a xs) : SqL K H a xs := Same.seq msk_sub h
theorem Same.mskT {K : PySem.W.Frag} {xs : List V} (h : SqT K (msk d b H) a xs) : SqT K H a xs := Same.tq msk_sub h
theorem at_msk (x : a ≠ d ∧ a ≠ b ∧ a ≠ c) (e : H a = some o) : msk d b H a = some o := by
  rw [msk_ne x.1 x.2.1]
  exact e
end
/-- _law_part(deck, items, share): some of the ints, in their order, as a new tuple -/
def spPart (K : PySem.W.Frag) : Sp := fun vs H Q _ => ∃ (d b c a : Addr) (n sh : Int) (ns : List Int), vs = [.ref d, .ref a, .int sh] ∧ Dk d b c n H ∧ n < 2 ^ 50 ∧ ns.length ≤ 1000 ∧
  (SqL K (msk d b H) a (ns.map V.int) ∨ SqT K (msk d b H) a (ns.map V.int)) ∧
  ∀ (p : Addr) (ms : List Int) (n' : Int) (H' : Hp), ms.Sublist ns → Dr d b c (n + ns.length) H n' H' → SqT K (msk d b H') p (ms.map V.int) → Q (.ref p) H'
def upto (n : Nat) : List Int := (List.range n).map fun i => ((i : Nat) : Int)
/-- _law_shuffled(deck, count): an order of the numbers below count, as a new tuple -/
def spShuf (K : PySem.W.Frag) : Sp := fun vs H Q _ => ∃ (d b c : Addr) (n : Int) (m : Nat), vs = [.ref d, .int m] ∧ Dk d b c n H ∧ n < 2 ^ 50 ∧ m ≤ 1000 ∧
  ∀ (p : Addr) (os : List Int) (n' : Int) (H' : Hp), os.Perm (upto m) → Dr d b c (n + m) H n' H' → SqT K (msk d b H') p (os.map V.int) → Q (.ref p) H'
/-- _law_one(deck, some): one of the items of a list -/
def spOne (K : PySem.W.Frag) : Sp := fun vs H Q _ => ∃ (d b c a : Addr) (n : Int) (xs : List V), vs = [.ref d, .ref a] ∧ Dk d b c n H ∧ n < 2 ^ 50 ∧ xs ≠ [] ∧ xs.length ≤ 1000 ∧ SqL K (msk d b H) a xs ∧
  ∀ (x : V) (n' : Int) (H' : Hp), x ∈ xs → Dr d b c (n + 1) H n' H' → Q x H'
theorem rgV_ints (m : Nat) : rgV 0 (m : Int) = (upto m).map V.int := by
  unfold rgV upto
  rw [List.map_map]
  congr 1
  · funext i
    show V.int (0 + (i : Int)) = V.int (i : Int)
    rw [Int.zero_add]
theorem ints_len (m : Nat) : (upto m).length = m := by
  unfold upto
  rw [List.length_map, List.length_range]
theorem mem_ints {m : Nat} {i : Int} : i ∈ upto m ↔ 0 ≤ i ∧ i < m := by
  unfold upto
  rw [List.mem_map]
  constructor
  · rintro ⟨j, hj, rfl⟩
    have := List.mem_range.mp hj
    omega
  · rintro ⟨h1, h2⟩
    exact ⟨i.toNat, List.mem_range.mpr (by omega), by omega⟩
theorem ints_strict (m : Nat) : (upto m).Pairwise (· < ·) := by
  unfold upto
  rw [List.pairwise_map]
  exact List.pairwise_lt_range.imp fun h => by omega
end
/-! from P9 -/
section
theorem perm_erase {α : Type} : ∀ (l : List α) (j : Nat) (h : j < l.length), (l[j] :: l.eraseIdx j).Perm l
  | x :: l, 0, _ => List.Perm.refl _
  | x :: l, j + 1, h => by
    have ih := perm_erase l j (by simpa using h)
    exact (List.Perm.swap x _ _).trans (ih.cons x)
theorem map_erase {α β : Type} (f : α → β) : ∀ (l : List α) (j : Nat), (l.map f).eraseIdx j = (l.eraseIdx j).map f
  | [], _ => rfl
  | x :: l, 0 => rfl
  | x :: l, j + 1 => by
    rw [List.map_cons, List.eraseIdx_cons_succ, List.eraseIdx_cons_succ, List.map_cons, map_erase f l j]
end
/-! from P10 -/
section
open PySem PySem.Spec PyProof.Rows L2
theorem pe_bmK {X : Cx} {K : PySem.W.Frag} {e : Expr} {T : String} {r : V → List V → Hp → VK → Prop} {to : TE} {t : TA} (hK : X.K = K) (h : PE X e (tBM X.K T r to t)) : PE X e (tBM K T r to t) := hK ▸ h
/-! ### heaps without some addresses -/
def hs (S : List Addr) (H : Hp) : Hp := fun a => if a ∈ S then none else H a
section
variable {S : List Addr} {H H' : Hp} {a p d b : Addr} {o : HO}
theorem hs_out (h : a ∉ S) : hs S H a = H a := by
  unfold hs
  rw [if_neg h]
theorem hs_some (h : hs S H a = some o) : a ∉ S ∧ H a = some o := by
  unfold hs at h
  split at h
  · cases h
  · rename_i q
    exact ⟨q, h⟩
theorem hs_sub : Same (hs S H) H := fun _ _ e => (hs_some e).2
theorem hs_mono (s : Same H H') : Same (hs S H) (hs S H') := fun a o e => by
  obtain ⟨h1, h2⟩ := hs_some e
  rw [hs_out h1]
  exact s _ _ h2
theorem hs_put (h : a ∈ S) : hs S (upd H a o) = hs S H := by
  funext x
  unfold hs
  split
  · rfl
  · rename_i q
    rw [upd_ne fun z => q (by rw [z]; exact h)]
theorem hs_msk (s : Same (msk d b H) (msk d b H')) (h1 : d ∈ S) (h2 : b ∈ S) : Same (hs S H) (hs S H') := fun a o e => by
  obtain ⟨x1, x2⟩ := hs_some e
  have q := s a o (by rw [msk_ne (fun z => x1 (by rw [z]; exact h1)) (fun z => x1 (by rw [z]; exact h2))]; exact x2)
  rw [hs_out x1]
  exact (msk_some q).2.2
theorem hs_to_msk (h1 : d ∈ S) (h2 : b ∈ S) : Same (hs S H) (msk d b H) := fun a o e => by
  obtain ⟨x1, x2⟩ := hs_some e
  rw [msk_ne (fun z => x1 (by rw [z]; exact h1)) (fun z => x1 (by rw [z]; exact h2))]
  exact x2
theorem hs_at (h : a ∉ S) (e : H a = some o) : hs S H a = some o := by
  rw [hs_out h]
  exact e
theorem msk_to_hs {T : List Addr} (h : ∀ x ∈ S, x ∈ T) : Same (hs T H) (hs S H) := fun a o e => by
  obtain ⟨x1, x2⟩ := hs_some e
  rw [hs_out fun z => x1 (h a z)]
  exact x2
end
/-! ### offers and tables as data -/
def offD (o : List Int) : PyData := .tuple (o.map PyData.int)
def tabD (n : Int) (os : List (List Int)) : PyData := .tuple [.int n, .tuple (os.map offD)]
def OffOk (n : Int) (o : List Int) : Prop := (∀ i ∈ o, 0 ≤ i ∧ i < n) ∧ o.Pairwise (· < ·)
theorem nodup_len : ∀ {l r : List Int}, l.Nodup → (∀ i ∈ l, i ∈ r) → l.length ≤ r.length
  | [], _, _, _ => Nat.zero_le _
  | x :: l, r, nd, h => by
    have hx := h x List.mem_cons_self
    obtain ⟨n1, n2⟩ := List.nodup_cons.mp nd
    have ih := nodup_len (r := r.erase x) n2 fun i hi => (List.mem_erase_of_ne (fun e : i = x => n1 (by rw [← e]; exact hi))).mpr (h i (List.mem_cons_of_mem _ hi))
    rw [List.length_erase_of_mem hx] at ih
    have := List.length_pos_of_mem hx
    rw [List.length_cons]
    omega
theorem OffOk.len {m : Nat} {o : List Int} (h : OffOk m o) : o.length ≤ m := by
  have q := nodup_len (l := o) (r := upto m) (h.2.imp fun h e => by omega) fun i hi => mem_ints.mpr (h.1 i hi)
  rw [ints_len] at q
  exact q
theorem off_sub {m : Nat} {o : List Int} (h : o.Sublist (upto m)) : OffOk m o := ⟨fun i hi => mem_ints.mp (h.subset hi), (ints_strict m).sublist h⟩
theorem strict_of_le {o : List Int} (h : o.Pairwise (· ≤ ·)) (nd : o.Nodup) : o.Pairwise (· < ·) := by
  have := List.Pairwise.and h nd
  exact this.imp fun ⟨h1, h2⟩ => by omega
/-- a sorted arrangement of some of an order's numbers -/
theorem off_sorted {m : Nat} {ord ms o : List Int} (hp : ord.Perm (upto m)) (hs : ms.Sublist ord) (ho : o.Perm ms) (hl : o.Pairwise (· ≤ ·)) : OffOk m o := by
  have nd : ord.Nodup := hp.nodup_iff.mpr ((ints_strict m).imp fun h e => by omega)
  refine ⟨fun i hi => mem_ints.mp (hp.mem_iff.mp (hs.subset (ho.mem_iff.mp hi))), strict_of_le hl (ho.nodup_iff.mpr (nd.sublist hs))⟩
theorem cut_ints (ns : List Int) (lo hi : Option Int) : ∃ ms : List Int, cutV (ns.map V.int) lo hi = ms.map V.int ∧ ms.Sublist ns :=
  ⟨(ns.drop (HT.sIx (ns.map V.int).length 0 lo)).take (HT.sIx (ns.map V.int).length (ns.map V.int).length hi - HT.sIx (ns.map V.int).length 0 lo), by
    unfold cutV
    rw [List.map_take, List.map_drop], (List.take_sublist _ _).trans (List.drop_sublist _ _)⟩
theorem DaAll.mem {K : PySem.W.Frag} {H : Hp} {vs : List V} {ds : List PyData} {x : V} (h : DaAll K H vs ds) (hx : x ∈ vs) : ∃ e ∈ ds, Da K H x e := by
  obtain ⟨i, hi⟩ := List.getElem?_of_mem hx
  obtain ⟨e, he, hd⟩ := DaAll.get h hi
  exact ⟨e, List.mem_of_getElem? he, hd⟩
/-! ### what an expression may give -/
def Ew (te : TE) (σ : L2.St) (H : Hp) (P : V → Hp → Prop) : Prop := ∀ Q : VK, (∀ v H', P v H' → Q v H') → te σ H Q
/-- found.append(e), found in slot i at fo -/
theorem s_appP {K : PySem.W.Frag} {te : TE} {σ : L2.St} {H : Hp} {D : Ends} {i : Nat} {fo : Addr} {refs : List V} (P : V → Hp → Prop) (hi : σ[i]? = some (some (.ref fo))) (ef : H fo = some (.lst refs)) (h : Ew te σ H P)
    (k : ∀ v H', P v H' → ∃ xs, H' fo = some (.lst xs) ∧ xs.length < sizeLine ∧ D.nx σ (upd H' fo (.lst (xs ++ [v])))) : tDrop (tBM K "list" rAppend (tVar i) (tCons te tNil)) D σ H :=
  ⟨.ref fo, hi, .inl ⟨rfl, _, SqL.of ef⟩, h _ fun v H' hP => by
    obtain ⟨xs, h1, h2, h3⟩ := k v H' hP
    exact ⟨fo, xs, v, rfl, rfl, h1, h2, h3⟩⟩
/-- what stands between two turns: found holds offers -/
structure Fnd (K : PySem.W.Frag) (d b c fo : Addr) (m : Nat) (N : Int) (H1 : Hp) (i : Nat) (H' : Hp) : Prop where
  ex : ∃ (refs : List V) (os : List (List Int)) (n' : Int), H' fo = some (.lst refs) ∧ DaAll K (hs [d, b, fo] H') refs (os.map offD) ∧ os.length = i ∧ (∀ o ∈ os, OffOk m o) ∧ Dr d b c N H1 n' H'
theorem Fnd.len {K : PySem.W.Frag} {d b c fo : Addr} {m : Nat} {N : Int} {H1 : Hp} {i : Nat} {H' : Hp} {refs : List V} {os : List (List Int)} (h : DaAll K (hs [d, b, fo] H') refs (os.map offD)) (hl : os.length = i) : refs.length = i := by
  rw [DaAll.len h, List.length_map, hl]
/-- one more offer -/
theorem Fnd.add {K : PySem.W.Frag} {d b c fo : Addr} {m : Nat} {N N' n : Int} {H1 H2 H' : Hp} {i : Nat} {v : V} {o : List Int} {refs : List V} {os : List (List Int)} (hD1 : Dk d b c n H1) (hfo : H1 fo = none) (hda : DaAll K (hs [d, b, fo] H2) refs (os.map offD)) (hl : os.length = i)
    (hok : ∀ o ∈ os, OffOk m o) (hsm : Same (hs [d, b, fo] H2) (hs [d, b, fo] H')) (n' : Int) (dr : Dr d b c N H1 n' H') (hN : N ≤ N') (ho : OffOk m o) (hv : Da K (hs [d, b, fo] H') v (offD o)) : Fnd K d b c fo m N' H1 (i + 1) (upd H' fo (.lst (refs ++ [v]))) := by
  refine ⟨refs ++ [v], os ++ [o], n', upd_same, ?_, by rw [List.length_append, hl]; rfl, fun x hx => ?_, (dr.put hD1 hfo).wide hN⟩
  · rw [hs_put (by simp), List.map_append]
    exact (hda.mono hsm).append (.cons hv .nil)
  · rcases List.mem_append.mp hx with hx | hx
    · exact hok x hx
    · have e : x = o := by simpa using hx
      rw [e]
      exact ho
/-- tuple(sorted(t)) -/
theorem srt {K : PySem.W.Frag} {Q : VK} {H : Hp} {a : Addr} {m : Nat} {ord ms : List Int} (hp : ord.Perm (upto m)) (hs : ms.Sublist ord) (h : SqT K H a (ms.map V.int))
    (k : ∀ (l : Addr) (o : List Int) (H' : Hp), Same H H' → H l = none → H' l = some (.tup (o.map V.int)) → OffOk m o → Q (.ref l) H') :
    rSortT K [V.ref a] H fun x H1 => ∃ p ys, [x] = [V.ref p] ∧ ((SqL K H1 p ys ∧ ∀ l, H1 l = none → Q (.ref l) (upd H1 l (.tup ys))) ∨ (SqT K H1 p ys ∧ Q (.ref p) H1)) :=
  ⟨a, ms, rfl, h, fun o p ho hl hp' => ⟨p, o.map V.int, rfl, .inl ⟨SqL.of upd_same, fun l hl2 => k l o _ ((same_upd hp').trans (same_upd hl2)) ((same_upd hp').free hl2) upd_same (off_sorted hp hs ho hl)⟩⟩⟩
theorem da_off {K : PySem.W.Frag} {H : Hp} {l : Addr} {o : List Int} (h : SqT K H l (o.map V.int)) : Da K H (.ref l) (offD o) := .tup h (DaAll.ints o)
/-- a table's makers: (deck, demands, offers) -/
def spMk (K : PySem.W.Frag) : Sp := fun vs H Q _ => ∃ (d b c : Addr) (n : Int) (m k : Nat), vs = [.ref d, .int m, .int k] ∧ Dk d b c n H ∧ n < 2 ^ 40 ∧ 1 ≤ m ∧ m ≤ 10 ∧ k ≤ 10 ∧
  ∀ (v : V) (os : List (List Int)) (n' : Int) (H' : Hp), Dr d b c (n + 1000) H n' H' → os.length = k → (∀ o ∈ os, OffOk m o) → Da K (msk d b H') v (tabD m os) → Q v H'
/-- return (demands, tuple(found)) -/
theorem mk_end {K : PySem.W.Frag} {d b c fo : Addr} {N n n' : Int} {H H' : Hp} {m : Nat} {refs : List V} {os : List (List Int)} {Q : VK} (dr : Dr d b c N H n' H') (hf : H' fo = some (.lst refs)) (hd : DaAll K (msk d b H') refs (os.map offD))
    (q : ∀ (v : V) (H2 : Hp), Dr d b c N H n' H2 → Da K (msk d b H2) v (tabD m os) → Q v H2) :
    ∃ p ys, [V.ref fo] = [.ref p] ∧ ((SqL K H' p ys ∧ ∀ l, H' l = none → [V.int m, V.ref l].length ≤ sizeLine ∧ ∀ t, upd H' l (.tup ys) t = none → Q (.ref t) (upd (upd H' l (.tup ys)) t (.tup [V.int m, V.ref l]))) ∨ (SqT K H' p ys ∧ [V.int m, V.ref p].length ≤ sizeLine ∧ ∀ t, H' t = none → Q (.ref t) (upd H' t (.tup [V.int m, V.ref p])))) := by
  refine ⟨fo, refs, rfl, .inl ⟨SqL.of hf, fun l hl => ⟨sz (n := 2) (by decide), fun t ht => ?_⟩⟩⟩
  have d1 := dr.new (o := .tup refs) hl
  have d2 := d1.new (o := .tup [V.int m, V.ref l]) ht
  have o1 := dr.dk.off hl
  have o2 := d1.dk.off ht
  have s1 : Same (msk d b H') (msk d b (upd H' l (.tup refs))) := msk_same (same_upd hl)
  have s2 : Same (msk d b (upd H' l (.tup refs))) (msk d b (upd (upd H' l (.tup refs)) t (.tup [V.int m, V.ref l]))) := msk_same (same_upd ht)
  refine q _ _ d2 (.tup (SqT.of (at_msk o2 upd_same)) (.cons (.int _) (.cons (.tup (SqT.of (s2 _ _ (at_msk o1 upd_same))) (hd.mono (s1.trans s2))) .nil)))
end
/-! from P11 -/
section
open PySem PySem.Spec PyProof.Rows L2
theorem sqT_hs {K : PySem.W.Frag} {d b fo p : Addr} {H : Hp} {xs refs : List V} (hp : SqT K (msk d b H) p xs) (ef : H fo = some (.lst refs)) : SqT K (hs [d, b, fo] H) p xs := by
  rcases hp with (hp | ⟨ob, hp⟩) | hp
  · obtain ⟨z1, z2, z3⟩ := msk_some hp
    have pf : p ≠ fo := fun z => by
      rw [z, ef] at z3
      cases z3
    exact .inl (.inl (hs_at (by simp [z1, z2, pf]) z3))
  · obtain ⟨z1, z2, z3⟩ := msk_some hp
    have pf : p ≠ fo := fun z => by
      rw [z, ef] at z3
      cases z3
    exact .inl (.inr ⟨ob, hs_at (by simp [z1, z2, pf]) z3⟩)
  · exact .inr hp
end
/-! from P12 -/
section
open PySem PySem.Spec PyProof.Rows L2
theorem Dr.free {d b c D : Addr} {m n' : Int} {H H' : Hp} (h : Dr d b c m H n' H') (hD : H' D = none) : H D = none := by
  cases e : H D with
  | none => rfl
  | some o =>
    have x := h.dk.off hD
    rw [h.at x e] at hD
    cases hD
theorem sz2 : 2 ≤ sizeLine := Pb.sz (by decide)
theorem cut_whole {xs : List V} {lo hi : Option Int} (h : HT.sIx xs.length 0 lo = 0 ∧ HT.sIx xs.length xs.length hi = xs.length) : cutV xs lo hi = xs := by
  unfold cutV
  rw [h.1, h.2]
  simp
theorem slA_msk {K : PySem.W.Frag} {d b c a : Addr} {n : Int} {H : Hp} {xs : List V} {lo hi : Option Int} {Q : VK} (hD : Dk d b c n H) (h : SqT K (msk d b H) a xs) (k : ∀ (p : Addr) (H' : Hp), Same H H' → SqT K (msk d b H') p (cutV xs lo hi) → Q (.ref p) H') : rSlA K (.ref a) lo hi H Q := by
  refine ⟨a, xs, rfl, Same.mskT h, fun w => k a H (Same.refl _) ?_, fun _ p hp => k p _ (same_upd hp) (SqT.of (at_msk (hD.off hp) upd_same))⟩
  rw [cut_whole w]
  exact h
theorem cut_from {ns : List Int} {sz : Nat} (h : sz ≤ ns.length) : cutV (ns.map V.int) (some (sz : Int)) none = (ns.drop sz).map V.int := by
  unfold cutV
  rw [HT.sIx_nat, HT.sIx_none, List.length_map, Nat.min_eq_left h, ← List.map_drop, ← List.map_take]
  congr 1
  exact List.take_of_length_le (by rw [List.length_drop]; omega)
/-- two neighbours among the first ones and some of the others, sorted -/
theorem off_around {m : Nat} {ord ms o : List Int} {i j sz : Nat} (hp : ord.Perm (upto m)) (hsz : sz ≤ ord.length) (h3 : 3 ≤ sz) (hi : i < sz) (hj : j = (i + 1) % sz) (hjl : j < ord.length) (hil : i < ord.length) (hs : ms.Sublist (ord.drop sz)) (ho : o.Perm ([ord[i], ord[j]] ++ ms)) (hl : o.Pairwise (· ≤ ·)) : OffOk m o := by
  have nd : ord.Nodup := hp.nodup_iff.mpr ((ints_strict m).imp fun h e => by omega)
  have jlt : j < sz := by
    rw [hj]
    exact Nat.mod_lt _ (by omega)
  have ij : i ≠ j := by
    rw [hj]
    by_cases e : i + 1 < sz
    · rw [Nat.mod_eq_of_lt e]
      omega
    · have : i + 1 = sz := by omega
      rw [this, Nat.mod_self]
      omega
  have nd2 : (ord.take sz ++ ord.drop sz).Nodup := by
    rw [List.take_append_drop]
    exact nd
  obtain ⟨_, _, disj⟩ := List.nodup_append.mp nd2
  have mt : ∀ (x : Nat) (hx : x < ord.length), x < sz → ord[x] ∈ ord.take sz := fun x hx hs => by
    have : (ord.take sz)[x]'(by rw [List.length_take]; omega) = ord[x] := List.getElem_take
    rw [← this]
    exact List.getElem_mem _
  have ndm : ms.Nodup := nd.sublist (hs.trans (List.drop_sublist _ _))
  have nms : ∀ (x : Nat) (hx : x < ord.length), x < sz → ord[x] ∉ ms := fun x hx hxs hm => disj _ (mt x hx hxs) _ (hs.subset hm) rfl
  have nda : ([ord[i], ord[j]] ++ ms).Nodup := by
    rw [List.cons_append, List.singleton_append, List.nodup_cons, List.nodup_cons, List.mem_cons]
    refine ⟨fun z => z.elim (fun z => ij ((List.getElem_inj nd).mp z)) (nms i hil hi), nms j hjl jlt, ndm⟩
  refine ⟨fun x hx => mem_ints.mp (hp.mem_iff.mp ?_), strict_of_le hl (ho.nodup_iff.mpr nda)⟩
  rcases List.mem_append.mp (ho.mem_iff.mp hx) with z | z
  · rcases List.mem_cons.mp z with z | z
    · rw [z]
      exact List.getElem_mem _
    · have e : x = ord[j] := by simpa using z
      rw [e]
      exact List.getElem_mem _
  · exact (hs.trans (List.drop_sublist _ _)).subset z
theorem DaAll.erase {K : PySem.W.Frag} {H : Hp} : ∀ {vs : List V} {ds : List PyData} (j : Nat), DaAll K H vs ds → DaAll K H (vs.eraseIdx j) (ds.eraseIdx j)
  | [], _, _, h => by
    cases h
    exact .nil
  | _ :: _, _, 0, h => by
    cases h with
    | cons h1 h2 => exact h2
  | _ :: _, _, j + 1, h => by
    cases h with
    | cons h1 h2 => exact .cons h1 (DaAll.erase j h2)
end
/-! from P13 -/
section
open PySem PySem.Spec PyProof.Rows L2
/-- _law_table(deck, demands, offers): a table -/
def spTable (K : PySem.W.Frag) : Sp := fun vs H Q _ => ∃ (d b c : Addr) (n : Int) (m k : Nat), vs = [.ref d, .int m, .int k] ∧ Dk d b c n H ∧ n < 2 ^ 39 ∧ 1 ≤ m ∧ m ≤ 10 ∧ k ≤ 10 ∧
  ∀ (v : V) (m' : Nat) (os : List (List Int)) (n' : Int) (H' : Hp), Dr d b c (n + 1003) H n' H' → 1 ≤ m' → m' ≤ m → os.length ≤ k → (∀ o ∈ os, OffOk m' o) → Da K (msk d b H') v (tabD m' os) → Q v H'
/-- the values of _law_odd -/
def oddL : List PyData := [.none, .bool true, .bool false, .int 0, .int 1, .int (-1), .int 2, .int 8, .int 16, .int (10 ^ 12), .int (10 ^ 12 + 1), .int (10 ^ 59), .str "", .str "0", .str "order", .tuple [], .tuple [.int 0],
  .tuple [.int 0, .int 1], .list [], .dict [], .list [.int 0], .tuple [.bool true], .tuple [.tuple []]]
/-- the deck, and addresses S (the deck's two lists among them) that are tracked and left out of all data -/
structure Ck (S : List Addr) (d b c : Addr) (n : Int) (H : Hp) : Prop where
  dk : Dk d b c n H
  hd : d ∈ S
  hb : b ∈ S
  tr : ∀ s ∈ S, ∃ o, H s = some o
theorem Ck.same {S : List Addr} {d b c : Addr} {n : Int} {H H' : Hp} (h : Ck S d b c n H) (s : Same H H') : Ck S d b c n H' := ⟨h.dk.same s, h.hd, h.hb, fun x hx => (h.tr x hx).elim fun o e => ⟨o, s _ _ e⟩⟩
theorem Ck.out {S : List Addr} {d b c p : Addr} {n : Int} {H : Hp} (h : Ck S d b c n H) (hp : H p = none) : p ∉ S := fun z => by
  obtain ⟨o, e⟩ := h.tr p z
  rw [hp] at e
  cases e
theorem Ck.dr {S : List Addr} {d b c : Addr} {n m n' : Int} {H H' : Hp} (h : Ck S d b c n H) (dr : Dr d b c m H n' H') : Ck S d b c n' H' := ⟨dr.dk, h.hd, h.hb, fun x hx => by
  by_cases e1 : x = d
  · rw [e1]
    exact ⟨_, dr.dk.at_d⟩
  · by_cases e2 : x = b
    · rw [e2]
      exact dr.dk.at_b.elim fun bs e => ⟨_, e⟩
    · obtain ⟨o, e⟩ := h.tr x hx
      exact ⟨o, (msk_some (dr.sm x o (by rw [msk_ne e1 e2]; exact e))).2.2⟩⟩
theorem Ck.sm {S : List Addr} {d b c : Addr} {n m n' : Int} {H H' : Hp} (h : Ck S d b c n H) (dr : Dr d b c m H n' H') : Same (hs S H) (hs S H') := hs_msk dr.sm h.hd h.hb
theorem Ck.two {d b c : Addr} {n : Int} {H : Hp} (h : Dk d b c n H) : Ck [d, b] d b c n H := ⟨h, by simp, by simp, fun s hs => by
  rcases List.mem_cons.mp hs with rfl | hs
  · exact ⟨_, h.at_d⟩
  · have e : s = b := by simpa using hs
    rw [e]
    exact h.at_b.elim fun bs e => ⟨_, e⟩⟩
theorem msk_hs {d b : Addr} {H : Hp} : msk d b H = hs [d, b] H := by
  funext a
  unfold msk hs
  simp
def spOdd (K : PySem.W.Frag) : Sp := fun vs H Q _ => ∃ (S : List Addr) (d b c : Addr) (n : Int), vs = [.ref d] ∧ Ck S d b c n H ∧ n < 2 ^ 50 ∧
  ∀ (v : V) (e : PyData) (n' : Int) (H' : Hp), e ∈ oddL → Dr d b c (n + 1) H n' H' → Da K (hs S H') v e → Q v H'
def oddA (t1 t2 : Addr) : List V := [V.non, V.bl true, V.bl false, V.int 0, V.int 1, V.int (-1), V.int 2, V.int 8, V.int 16, V.int (10 ^ Int.toNat 12), V.int (10 ^ Int.toNat 12 + 1), V.int (10 ^ Int.toNat 59), V.str "", V.str "0", V.str "order", V.ref t1, V.ref t2]
theorem q_asgP {te : TE} {σ : L2.St} {H : Hp} {D : Ends} {tz : TS} {i : Nat} (P : V → Hp → Prop) (h : Ew te σ H P) (k : ∀ v H', P v H' → tz D (σ.set i (some v)) H') : tSeq (tAsg te (gName i)) tz D σ H := h _ k
/-- o stands at p, apart from the deck and from S -/
structure Nw (S : List Addr) (d b c : Addr) (H : Hp) (p : Addr) (o : HO) : Prop where
  at_p : H p = some o
  off : p ≠ d ∧ p ≠ b ∧ p ≠ c
  out : p ∉ S
section
variable {K : PySem.W.Frag} {S : List Addr} {d b c p : Addr} {n : Int} {H H' : Hp} {o : HO} {xs : List V}
theorem Nw.new (h : Ck S d b c n H) (hp : H p = none) : Nw S d b c (upd H p o) p o := ⟨upd_same, h.dk.off hp, h.out hp⟩
theorem Nw.mono (h : Nw S d b c H p o) (s : Same H H') : Nw S d b c H' p o := ⟨s _ _ h.at_p, h.off, h.out⟩
theorem Nw.tup (h : Nw S d b c H p (.tup xs)) : SqT K (hs S H) p xs := SqT.of (hs_at h.out h.at_p)
theorem Nw.lst (h : Nw S d b c H p (.lst xs)) : SqL K (hs S H) p xs := SqL.of (hs_at h.out h.at_p)
theorem Nw.emp (h : Nw S d b c H p (.dK [])) : Da K (hs S H) (.ref p) (.dict []) := .emp (hs_at h.out h.at_p)
end
end
/-! from P14 -/
section
open PySem PySem.Spec PyProof.Rows L2
/-! ### plain data: small ints and tuples -/
mutual
def pl : PyData → Bool
  | .int i => decide (i.natAbs ≤ 100)
  | .tuple xs => decide (xs.length ≤ 12) && plAll xs
  | _ => false
def plAll : List PyData → Bool
  | [] => true
  | x :: xs => pl x && plAll xs
end
theorem mem_depth : ∀ {xs : List PyData} {x : PyData}, x ∈ xs → x.depth ≤ PyData.depthAll xs
  | [], _, h => absurd h List.not_mem_nil
  | y :: ys, x, h => by
    simp only [PyData.depthAll]
    rcases List.mem_cons.mp h with rfl | h
    · omega
    · have := mem_depth h
      omega
/-- what _law_bent makes of e -/
structure Bnt (e e' : PyData) : Prop where
  ok : okD e' = true
  w : wt e' ≤ 2 * wt e + 2200
  dp : e'.depth ≤ e.depth + 2
  nd : e'.hasDict = true → nl e' = true
/-! ### cuts of any list -/
def cutG {α : Type} (xs : List α) (lo hi : Option Int) : List α := (xs.drop (HT.sIx xs.length 0 lo)).take (HT.sIx xs.length xs.length hi - HT.sIx xs.length 0 lo)
theorem cutG_sub {α : Type} (xs : List α) (lo hi : Option Int) : (cutG xs lo hi).Sublist xs := (List.take_sublist _ _).trans (List.drop_sublist _ _)
theorem DaAll.cut {K : PySem.W.Frag} {H : Hp} {vs : List V} {ds : List PyData} (h : DaAll K H vs ds) (lo hi : Option Int) : DaAll K H (cutV vs lo hi) (cutG ds lo hi) := by
  unfold cutV cutG
  rw [DaAll.len h]
  exact (h.drop _).take _
theorem cutG_take {α : Type} {xs : List α} {j : Nat} (h : j ≤ xs.length) : cutG xs none (some (j : Int)) = xs.take j := by
  unfold cutG
  rw [HT.sIx_nat, HT.sIx_none, Nat.min_eq_left h, List.drop_zero, Nat.sub_zero]
theorem cutG_drop {α : Type} {xs : List α} {j : Nat} (h : j ≤ xs.length) : cutG xs (some (j : Int)) none = xs.drop j := by
  unfold cutG
  rw [HT.sIx_nat, HT.sIx_none, Nat.min_eq_left h]
  exact List.take_of_length_le (by rw [List.length_drop]; omega)
end
/-! from P15 -/
section
open PySem PySem.Spec PyProof.Rows L2
end
/-! from P16 -/
section
open PySem PySem.Spec PyProof.Rows L2
/-! ### the law's own call: nothing is being shown there -/
section
variable {P : Program} {w : World} {K : PySem.W.Frag} {mg : Str → Option Value} {base : Heap}
/-- what FnOk says, of a call where nothing is being shown -/
def RunG (P : Program) (w : World) (K : PySem.W.Frag) (mg : Str → Option Value) (base : Heap) (k : Nat) (f : Addr) (fd : FuncData) (ps : List Str) (sp : Sp) : Prop :=
  ∀ (A : Around) (fr : List Env) (t : Shared) (H : Hp) (ar : Args) (us : List Value) (vs : List V) (Q : VK), A.guards = some [] → Room k A → Env0 P w K mg base A fr t H → BindsTo t fd ar (ps.zip us) → Vals vs us → sp vs H Q E0 →
    codeAny (model P w) A (.call (.ref f) ar) (CR CX0 fr P w H t Q E0) t
theorem runG_of {x qual : Str} {st : Stmt} {f : Addr} {fd : FuncData} {N ps : List Str} {k : Nat} {sp : Sp} (F : Fun K x qual st f fd) (S : FnScope N ps (defScope st)) (len : ∀ vs H Q E, sp vs H Q E → vs.length = ps.length)
    (body : ∀ (cdv : Value) (A : Around) (fr : List Env) (t : Shared) (H : Hp) (vs : List V) (Q : VK), (A.deeper (envOfC qual (defScope st) t.heap.objs.size f cdv)).guards = some [] → Room k (A.deeper (envOfC qual (defScope st) t.heap.objs.size f cdv)) → sp vs H Q E0 →
      ∃ r, PSs (cxOf CX0 P w K mg base N qual (defScope st) f cdv A fr t H E0).nox (defBody st) r ∧ r { nx := fun _ H' => Q .non H', rt := Q } (start N vs) H) : RunG P w K mg base (k + 1) f fd ps sp := by
  obtain ⟨oc, od, kV, doc, pm, an, cdv, ct, osl, rfl, lk, hcd⟩ := F.ex
  intro A fr t H ar us vs Q hg hr e0 hb rv hsp
  have hlen := len _ _ _ _ hsp
  have hK : K.In t.heap := e0.mod.kin.keeps fun b o e => (e0.bs b o e).1
  have hlim : t.heap.NoLimit := e0.mod.nolimit.keeps fun b o e => (e0.bs b o e).1
  have kinds : ∀ y ∈ ps.zip us, (defScope st).names.lookup y.1 = some .local ∨ ((defScope st).names.lookup y.1 = some .cell ∧ ((cellsFrom (t.heap.objs.size + 1) (defScope st).names []).lookup y.1).isSome = true) := fun ⟨nm, u⟩ hy =>
    (S.par nm (List.of_mem_zip hy).1).elim .inl fun z => .inr ⟨z, PySem.W.cellsFrom_some _ _ _ (.inl z)⟩
  refine codeAny_call_function hr.depth (hK _ _ lk) rfl S.co S.gen rfl (PySem.W.codeRec_of hK hcd) (hb _ _ _ _ ?_)
  refine wpAny_newFunctionEnv_cells S.kind kinds fun env he t1 nf => ?_
  subst he
  refine ⟨hlim.keeps nf.toInCall.keep, codeAny_func ?_⟩
  obtain ⟨r, hr1, hr2⟩ := body cdv A fr t H vs Q (by rw [← hg]; rfl) (hr.deeper _) hsp
  have I0 : Inv (cxOf CX0 P w K mg base N qual (defScope st) f cdv A fr t H E0) [] (start N vs) H t1 := inv_start S hr.hd e0 hlen rv nf
  refine wpAny_mono (hr1.nox.run [] t1 (start N vs) H _ I0 hr2) (fun fl t2 h2 => ?_) fun _ _ z => z
  cases fl with
  | ret u =>
    obtain ⟨v, σ', H', J, rv', q⟩ := h2
    exact ⟨v, H', J.os, J.bare, J.base, J.hok, rv', q⟩
  | next =>
    obtain ⟨σ', H', J, q⟩ := h2
    exact ⟨.non, H', J.os, J.bare, J.base, J.hok, rfl, q⟩
  | brk => exact h2.elim fun _ z => z.elim fun _ y => y.2.elim
  | cont => exact h2.elim fun _ z => z.elim fun _ y => y.2.elim
end
end
/-! from P17 -/
section
open PySem PySem.Spec PyProof.Rows L2
/-! ### expressions that make data, the deck apart -/
section
variable (K : PySem.W.Frag) (S : List Addr) (d b c : Addr)
end
section
variable {K : PySem.W.Frag} {S : List Addr} {d b c : Addr} {σ : L2.St} {H : Hp} {ta tb te : TE} {tr : TA} {e : PyData} {es fs : List PyData}
end
/-! ### good values -/
structure Gd (e : PyData) : Prop where
  ok : okD e = true
  w : wt e ≤ 1000000
  dp : e.depth ≤ 12
  nd : e.hasDict = true → nl e = true
/-- good items -/
structure GdL (L : List PyData) : Prop where
  ok : okAll L = true
  len : L.length ≤ 60
  w : wtAll L ≤ 100000
  dp : PyData.depthAll L ≤ 8
  nd : PyData.hasDictAll L = false
/-! ### tables are plain -/
end
/-! from P18 -/
section
open PySem PySem.Spec PyProof.Rows L2
/-- the law: True -/
def spLaw (K : PySem.W.Frag) : Sp := fun vs H Q _ => ∃ (a : Addr) (ns : List Int), vs = [.ref a] ∧ SqL K H a (ns.map V.int) ∧ ns.length ≤ 63 ∧ ∀ H', Q (.bl true) H'
end
/-! from P19 -/
section
open PySem PySem.Spec PyProof.Rows L2
/-- the def x of the text, as the top has left it -/
def Df (K : PySem.W.Frag) (mg : Str → Option Value) (x : Str) (st : Stmt) : Prop := ∃ (f : Addr) (fd : FuncData), Fun K x x st f fd ∧ mg x = some (.ref f)
theorem df_mk {K : PySem.W.Frag} {h : Heap} {mg : Str → Option Value} {x : Str} {st : Stmt} {f : Addr} {od an : Option Addr} {sl : Array (Option Value)} {oc kV dc pm cd ct : Value} (X : K.In h) (G : h.Ns mainGlobals mg) (a : PySem.W.nsIn K mainGlobals x = some (some (.ref f)))
    (l : K.lookup f = some ⟨oc, od, .func (PySem.W.fnOf x x (defArgs st) (defBody st) (defScope st) .none kV dc pm an cd ct), sl⟩) (c : PySem.W.codeIn K cd x = true) (k : PySem.W.keepIn K (.ref f) = true) : Df K mg x st := ⟨f, _, fun_mk (st := st) l c k, PySem.W.mg_of X G a⟩
theorem ct_mk {K : PySem.W.Frag} {h : Heap} {mg : Str → Option Value} {x : Str} {v : Value} {i : Int} (X : K.In h) (G : h.Ns mainGlobals mg) (a : PySem.W.nsIn K mainGlobals x = some (some v)) (e : ∃ t, v = .int i t) : ∃ t, mg x = some (.int i t) := e.elim fun t z => ⟨t, z ▸ PySem.W.mg_of X G a⟩
theorem cl_mk {P : Program} {w : World} {K : PySem.W.Frag} {mg : Str → Option Value} {base : Heap} {x : Str} {st : Stmt} {f : Addr} {fd : FuncData} {ps : List Str} {sp : Sp} {k : Nat} (F : Fun K x x st f fd) (g : mg x = some (.ref f)) (b : Binds K fd ps []) (ok : FnOk P w K mg base CX0 k f fd ps sp) : Cl P w K mg base k x ps sp := ⟨f, fd, ok, g, F.kp, b⟩
end
end Pb

set_option Elab.async false
set_option linter.all false
set_option maxRecDepth 100000
namespace Pb
open PySem PySem.Spec PyProof.Rows L2
/-! ### what _law_same needs -/
/-- o[i], o a list or a tuple -/
def rIxA (K : PySem.W.Frag) : R2 := fun x y H Q => ∃ p xs i v, x = .ref p ∧ y = .int i ∧ (SqL K H p xs ∨ SqT K H p xs) ∧ atI xs i = some v ∧ Q v H
theorem ix_any {X : Cx} : IxR X (rIxA X.K) := fun va sl pins s σ H x y v u Q I rx ry ⟨p, xs, i, z, e1, e2, h, ha, q⟩ hs =>
  h.elim (fun h => ix_list va sl pins s σ H x y v u Q I rx ry ⟨p, xs, i, z, e1, e2, h, ha, q⟩ hs) (fun h => ix_tup va sl pins s σ H x y v u Q I rx ry ⟨p, xs, i, z, e1, e2, h, ha, q⟩ hs)
theorem ix_anyK {X : Cx} {K : PySem.W.Frag} (h : X.K = K) : IxR X (rIxA K) := h ▸ ix_any
section
variable {K : PySem.W.Frag} {σ : L2.St} {H : Hp} {ta tb : TE} {x : V} {d : PyData}
theorem Same.sq {H' : Hp} {a : Addr} {xs : List V} (s : Same H H') (h : SqL K H a xs ∨ SqT K H a xs) : SqL K H' a xs ∨ SqT K H' a xs := h.imp (Evl.ex_l s) (Evl.ex_t s)
theorem rv_ixA {p : Addr} {xs : List V} {i : Int} {v : V} (h : SqL K H p xs ∨ SqT K H p xs) (ha : atI xs i = some v) : Evl.RV (rIxA K) (.ref p) (.int i) H v := fun H1 e _ q =>
  ⟨p, xs, i, v, rfl, rfl, Same.sq e h, ha, q H1 (Evl.Ex.refl H1)⟩
theorem ev_isi2 {T U : String} (ha : Evl.Ev ta σ H x) (h : Da K H x d) (hT : T ∈ ["int", "bool", "tuple", "list", "dict", "str"] := by decide) (hU : U ∈ ["int", "bool", "tuple", "list", "dict", "str"] := by decide) :
    Evl.Ev (tCB (rIsiT K) (tCons ta (tCons (tTup (tCons (tC (.ty T)) (tCons (tC (.ty U)) tNil))) tNil))) σ H (.bl (isI T d || isI U d)) := fun H1 e Q q =>
  ha H1 e _ fun H2 e2 => ⟨Pb.sz (n := 2) (by decide), fun p hp => by
    have s3 : Same H2 (upd H2 p (.tup [.ty T, .ty U])) := same_upd hp
    refine ⟨x, p, [.ty T, .ty U], .type (tyN d), [.type T, .type U], isI T d || isI U d, rfl, upd_same, .cons (.ty _) (.cons (.ty _) .nil), (h.mono (Same.trans (Same.trans e e2) s3)).ty, ?_, q _ (e2.trans s3)⟩
    refine kitAny_cons (b := isI T d) (kit_ty (kit_isI T d hT)) (fun z => ?_) (fun z => by rw [z]; rfl)
    refine kitAny_cons (b := isI U d) (kit_ty (kit_isI U d hU)) (fun y => ?_) (fun y => by rw [y, Bool.or_true])
    rw [z, y]
    rfl⟩
theorem ev_isN (ha : Evl.Ev ta σ H x) : Evl.Ev (tOp (fun x y H Q => y = .non ∧ Q (.bl (decide (x = .non))) H) ta (tC .non)) σ H (.bl (decide (x = .non))) := fun H1 e Q q =>
  ha H1 e _ fun H2 e2 => ⟨rfl, q H2 e2⟩
/-- a new list against [] -/
theorem ev_eq0 {xs : List V} (ha : Evl.EvL ta σ H xs) : Evl.Ev (tOp (rEq0 K) ta (tLst tNil)) σ H (.bl xs.isEmpty) :=
  Evl.ev_opLL ha (Evl.el_lst Evl.ea_nil (by simp)) fun p q H1 h1 h2 _ H2 e _ k => ⟨p, q, xs, rfl, rfl, SqL.of (e _ _ h1), SqL.of (e _ _ h2), k H2 (Evl.Ex.refl _)⟩
end
/-- a list or a tuple in the heap -/
theorem Da.seq {K : PySem.W.Frag} {H : Hp} {x : V} {e : PyData} (h : Da K H x e) (hs : (isI "tuple" e || isI "list" e) = true) : ∃ a xs es, x = .ref a ∧ (SqL K H a xs ∨ SqT K H a xs) ∧ DaAll K H xs es ∧ (e = .list es ∨ e = .tuple es) := by
  cases h with
  | lst h1 h2 => exact ⟨_, _, _, rfl, .inl h1, h2, .inl rfl⟩
  | tup h1 h2 => exact ⟨_, _, _, rfl, .inr h1, h2, .inr rfl⟩
  | non => simp [isI, isN, tyN] at hs
  | bl => simp [isI, isN, tyN] at hs
  | int => simp [isI, isN, tyN] at hs
  | str => simp [isI, isN, tyN] at hs
  | emp => simp [isI, isN, tyN] at hs
  | dic => simp [isI, isN, tyN] at hs
end Pb

set_option Elab.async false
set_option linter.all false
set_option maxRecDepth 100000
namespace Pb
open PySem PySem.Spec PyProof.Rows L2
/-! ### readings that give data, apart from the addresses S -/
/-- the addresses S are in use -/
def Tr (S : List Addr) (H : Hp) : Prop := ∀ s ∈ S, ∃ o, H s = some o
theorem Tr.same {S : List Addr} {H H' : Hp} (h : Tr S H) (s : Same H H') : Tr S H' := fun x hx => (h x hx).elim fun o e => ⟨o, s _ _ e⟩
theorem Tr.out {S : List Addr} {H : Hp} {p : Addr} (h : Tr S H) (hp : H p = none) : p ∉ S := fun z => by
  obtain ⟨o, e⟩ := h p z
  rw [hp] at e
  cases e
section
variable (K : PySem.W.Frag) (S : List Addr)
def EvD (te : TE) (σ : L2.St) (H : Hp) (e : PyData) : Prop := ∀ H1, Same H H1 → Tr S H1 → ∀ Q : VK, (∀ v H2, Same H1 H2 → Da K (hs S H2) v e → Q v H2) → te σ H1 Q
/-- data in, data out -/
def spD (R : List PyData → PyData → Prop) : Sp := fun vs H Q _ => ∃ S ds e, Tr S H ∧ DaAll K (hs S H) vs ds ∧ R ds e ∧ ∀ v H', Same H H' → Da K (hs S H') v e → Q v H'
end
section
variable {K : PySem.W.Frag} {S : List Addr} {σ : L2.St} {H H' : Hp} {te tb : TE} {ta : TA} {v : V} {e : PyData} {es : List PyData}
theorem EvD.mono (h : EvD K S te σ H e) (s : Same H H') : EvD K S te σ H' e := fun H1 s1 tr Q q => h H1 (s.trans s1) tr Q q
end
/-! ### enumerate of a tuple in a comprehension -/
theorem pg_tupK {X : Cx} {K : PySem.W.Frag} {pos : Pos} {es : List Expr} {k : Nat} {t : TGs} {n : Nat} (hK : X.K = K) (hc : X.calm = true) (h : PGs X es t)
    (hn : (assignEach es X.env).length = n := by rfl) (hst : (assignEach es X.env).findIdx? (·.1) = none := by rfl) : PG X (.Tuple es k pos) (gTup K n t) := hK ▸ pg_tup hc h hn hst
section
variable {K : PySem.W.Frag} {σ : L2.St} {H : Hp} {t : TT} {te : TE}
end
/-! ### comprehensions whose items are new data -/
theorem hs_cons_sub {D : Addr} {S : List Addr} {H : Hp} : Same (hs (D :: S) H) (hs S H) := fun a o e => by
  obtain ⟨h1, h2⟩ := hs_some e
  rw [hs_out (fun z => h1 (List.mem_cons_of_mem _ z))]
  exact h2
/-- D is new -/
theorem hs_cons_new {D : Addr} {S : List Addr} {H : Hp} {o : HO} (h : H D = none) : Same (hs S H) (hs (D :: S) (upd H D o)) := fun a u e => by
  obtain ⟨h1, h2⟩ := hs_some e
  have ne : a ≠ D := fun z => by
    rw [z, h] at h2
    cases h2
  rw [hs_out (by simp [ne, h1]), upd_ne ne]
  exact h2
section
variable {K : PySem.W.Frag} {S : List Addr} {σ : L2.St} {H : Hp} {te : TE} {ta : TA}
end
end Pb

set_option Elab.async false
set_option linter.all false
set_option maxRecDepth 100000
namespace Pb
open PySem PySem.Spec PyProof.Rows L2
/-! ### tables -/
end Pb

set_option Elab.async false
set_option linter.all false
set_option maxRecDepth 100000
namespace Pb
open PySem PySem.Spec PyProof.Rows L2
/-! ### own exception classes that nothing is written in -/
abbrev veT : List Value := [.type "ValueError", .type "Exception", .type "BaseException", .type "object"]
structure Ec0 (K : PySem.W.Frag) (mg : Str → Option Value) (x : Str) (C : Addr) : Prop where
  g : mg x = some (.ref C)
  x : PySem.W.excIn K C veT "ValueError.__new__" = true
  k : PySem.W.keepIn K (.ref C) = true
  b : PySem.W.subIn K (.ref C) (.type "BaseException") = some true
  t : PySem.W.typeIn K (.ref C) = some (.type "type")
end Pb

set_option Elab.async false
set_option linter.all false
set_option maxRecDepth 100000
namespace Pb
open PySem PySem.Spec PyProof.Rows L2
/-! ### the caught error's class asked for -/
section
variable {X : Cx} {a : Addr} {oe : Obj} {cls : Value} {d : Option Addr} {pn : List (Addr × Obj)}
end
structure EcT (K : PySem.W.Frag) (mg : Str → Option Value) (O C C2 C3 : Addr) : Prop where
  gO : mg "OrderError" = some (.ref O)
  T : Ec0 K mg "NoOffers" C
  xc : ExcC K C
  em : PySem.W.exmOne K (.ref C) (.ref O) = some true
  g2 : mg "NoOffer" = some (.ref C2)
  g3 : mg "NoDemands" = some (.ref C3)
  k1 : PySem.W.kitOne K (.ref C) (.ref C) = some true
  k2 : PySem.W.kitAny K (.ref C) [.ref C2, .ref C3] = some false
/-- a def of the text that may raise -/
structure ClX (P : Program) (w : World) (K : PySem.W.Frag) (mg : Str → Option Value) (base : Heap) (k : Nat) (x : Str) (ps : List Str) (sp : Sp) : Prop where
  ex : ∃ (f : Addr) (fd : FuncData), FnOk P w K mg base (L2.CX P w) k f fd ps sp ∧ mg x = some (.ref f) ∧ PySem.W.keepIn K (.ref f) = true ∧ Binds K fd ps []
section
variable {X : Cx} {j k : Nat} {x : Str} {ps : List Str} {sp : Sp} {e : Expr} {es : List Expr} {t : TA} {p pos : Pos} {W : WX}
end
end Pb

set_option Elab.async false
set_option linter.all false
set_option maxRecDepth 100000
namespace Pb
open PySem PySem.Spec PyProof.Rows L2
/-! ### a list that grows in a loop -/
structure Gro (K : PySem.W.Frag) (S : List Addr) (fo : Addr) (H1 : Hp) (es : List PyData) (H' : Hp) : Prop where
  at_fo : ∃ ds, H' fo = some (.lst ds) ∧ DaAll K (hs (fo :: S) H') ds es
  old : ∀ a o, a ≠ fo → H1 a = some o → H' a = some o
  tr : Tr (fo :: S) H'
section
variable {K : PySem.W.Frag} {S : List Addr} {fo : Addr} {H H1 H' : Hp} {es : List PyData} {e : PyData} {te ta : TE} {σ : L2.St} {D : Ends} {i : Nat}
/-- the list just made -/
theorem Gro.new (tr : Tr S H) (hf : H fo = none) : Gro K S fo (upd H fo (.lst [])) [] (upd H fo (.lst [])) := ⟨⟨[], upd_same, .nil⟩, fun _ _ _ e => e, fun x hx => by
  rcases List.mem_cons.mp hx with rfl | hx
  · exact ⟨_, upd_same⟩
  · exact tr.same (same_upd hf) x hx⟩
theorem Gro.more {H2 : Hp} (g : Gro K S fo H1 es H') (s : Same H' H2) : Gro K S fo H1 es H2 := by
  obtain ⟨⟨ds, e1, e2⟩, old, tr⟩ := g
  exact ⟨⟨ds, s _ _ e1, e2.mono (hs_mono s)⟩, fun a o n e => s _ _ (old a o n e), tr.same s⟩
theorem Gro.sm (g : Gro K S fo H1 es H') : Same (hs (fo :: S) H1) (hs (fo :: S) H') := fun a o e => by
  obtain ⟨h1, h2⟩ := hs_some e
  exact hs_at h1 (g.old a o (fun z => h1 (by simp [z])) h2)
/-- it is data, at last -/
theorem Gro.da (g : Gro K S fo H1 es H') (hf : fo ∉ S) : Da K (hs S H') (.ref fo) (.list es) := by
  obtain ⟨⟨ds, e1, e2⟩, old, tr⟩ := g
  exact .lst (SqL.of (hs_at hf e1)) (e2.mono hs_cons_sub)
theorem Gro.trS (g : Gro K S fo H1 es H') : Tr S H' := fun x hx => g.tr x (List.mem_cons_of_mem _ hx)
/-- all that stood before the list was made still stands -/
theorem Gro.same (g : Gro K S fo (upd H fo (.lst [])) es H') (hf : H fo = none) : Same H H' := fun a o e => by
  have ne : a ≠ fo := fun z => by
    rw [z, hf] at e
    cases e
  exact g.old a o ne (by rw [upd_ne ne]; exact e)
end
end Pb

set_option Elab.async false
set_option linter.all false
set_option maxRecDepth 100000
namespace Pb
open PySem PySem.Spec PyProof.Rows L2
/-! ### the facts of a law's classes -/
section
variable {K : PySem.W.Frag} {C D O : Addr} {b : Bool}
theorem kit_ref (ne : (Value.ref C == Value.ref D) = false) (i : PySem.W.isClsIn K D = true) (t : PySem.W.typeIn K (.ref D) = some (.type "type")) (s : PySem.W.subIn K (.ref C) (.ref D) = some b) : PySem.W.kitOne K (.ref C) (.ref D) = some b := by
  have i' : (PySem.W.clsIn K D).isSome = true := i
  have e2 : ((PySem.W.clsIn K D).isSome && PySem.W.typeIn K (.ref D) == some (.type "type")) = true := by rw [i', t] <;> rfl
  show (if (Value.ref C == Value.ref D) = true then some true else PySem.W.kitCls K (.ref C) (.ref D)) = some b
  rw [if_neg (by rw [ne]; decide)]
  show (if ((PySem.W.clsIn K D).isSome && PySem.W.typeIn K (.ref D) == some (.type "type")) = true then PySem.W.subIn K (.ref C) (.ref D) else none) = some b
  rw [if_pos e2]
  exact s
theorem kit_self : PySem.W.kitOne K (.ref C) (.ref C) = some true := by
  show (if (Value.ref C == Value.ref C) = true then some true else PySem.W.kitCls K (.ref C) (.ref C)) = some true
  rw [if_pos (by simp)]
end
theorem clx_mk {P : Program} {w : World} {K : PySem.W.Frag} {mg : Str → Option Value} {base : Heap} {x : Str} {st : Stmt} {f : Addr} {fd : FuncData} {ps : List Str} {sp : Sp} {k : Nat} (F : Fun K x x st f fd) (g : mg x = some (.ref f)) (b : Binds K fd ps []) (ok : FnOk P w K mg base (L2.CX P w) k f fd ps sp) : ClX P w K mg base k x ps sp := ⟨f, fd, ok, g, F.kp, b⟩
end Pb

set_option Elab.async false
set_option linter.all false
set_option maxRecDepth 100000
namespace Pb
open PySem PySem.Spec PyProof.Rows L2
open L2H (RoomH PinOk cxH inv_startH)
open PySem.W (Frag findIn subIn specialIn takesIn hasDictIn mroIn InstAt KitX clsIn)
/-! ### a caught error of an own class, with or without a dict: its class, its fields, handed on to a def -/
section
variable {prog : Program} {w : World} {A : Around} {E : Value → Shared → Prop} {s : Shared} {K : Frag} {x D : Addr} {ox : Obj} {od : Option Obj}
theorem find_cls (C : ExcC K D) : PySem.W.findObj K D od "__class__" = some (.bind (.builtin "getset_descriptor.__get__") (.builtin "object.__class__")) := by
  obtain ⟨cd, hc, _⟩ := PySem.W.any_some C.hd
  simp [PySem.W.findObj, hc, C.ha, C.hn, C.ht]
theorem ask_class {Q : Option Value → Shared → Prop} (C : ExcC K D) (X : K.In s.heap) (I : InstAt s.heap x ox D od) (h : Q (some (.ref D)) { s with toks := s.toks + 1 }) : wpAny (model prog w) A (getAttr? (.ref x) "__class__") Q E s := by
  obtain ⟨hp, g, d, t, os⟩ := s
  have a0 := I.type (M := model prog w)
  have a1 := PySem.W.looks_findIn (M := model prog w) X C.hg
  have a2 := PySem.W.looks_findIn (M := model prog w) X C.hk
  have a3 := PySem.W.looks_find (M := model prog w) X I (find_cls C)
  have z2 : (Value.builtin "BaseException.__getattribute__" == Value.builtin "object.__getattribute__") = false := by decide +kernel
  have z1 : (onTheHeap (Value.ref D) && Value.builtin "BaseException.__getattribute__" == Value.builtin "object.__getattribute__") = false := by
    rw [z2]
    rfl
  unfold getAttr? getAttrBy? getAttrBy
  refine wpAny_bind (wpAny_mkText (wpAny_bind (wpAny_attempt (wpAny_holding (wpAny_bind (a0.at (wpAny_bind (a1.at ?_))))))))
  show wpAny _ _ (if (onTheHeap (Value.ref D) && Value.builtin "BaseException.__getattribute__" == Value.builtin "object.__getattribute__") = true then _ else _) _ _ _
  rw [z1, if_neg Bool.false_ne_true]
  unfold getAttrByItsOwn hookBefore
  refine wpAny_bind ?_
  rw [if_pos (show onTheHeap (Value.ref D) = true from rfl)]
  refine a2.at (wpAny_bind (wpAny_attempt (wpAny_holding ?_)))
  unfold callGetattribute
  rw [show (false && onTheHeap (Value.builtin "BaseException.__getattribute__")) = false from rfl, if_neg Bool.false_ne_true]
  unfold boundAndCalled
  rw [PySem.F.excAttr_ValueError.ga.bind (.ref x)]
  refine wpAny_bind (wpAny_pure ?_)
  show wpAny _ _ (call (.builtin "BaseException.__getattribute__") [.ref x, .str "__class__" t]) _ _ _
  refine wpAny_call (codeAny_call_builtin PySem.F.excAttr_ValueError.ga.plain PySem.F.entry_bexc_ga ?_)
  refine @PySem.W.check_slot (model prog w) _ _ ⟨hp, g, d, t + 1, os⟩ "BaseException.__getattribute__" "BaseException" "__getattribute__" (.ref x) [.str "__class__" t] [] _ (by decide +kernel) (by decide +kernel) (a0.andThen (PySem.W.looks_subIn X C.hs)) (PySem.F.args_bexc_ga (.ref x) (.str "__class__" t)) ?_
  unfold Builtin.«object.__getattribute__»
  refine wpAny_bind (wpAny_of_eq (a := ((Value.ref x : Value), [Value.str "__class__" t])) (by first | rfl | (simp only [slotArgs]; rfl)) (wpAny_bind (wpAny_pure (wpAny_bind (a0.at (wpAny_bind (a3.at ?_)))))))
  show wpAny _ _ (holding [Value.builtin "object.__class__"] (call (.builtin "getset_descriptor.__get__") [.builtin "object.__class__", .ref x, .ref D]) >>= ret) _ _ _
  refine wpAny_bind (wpAny_holding (wpAny_call (PySem.W.class_get (s := ⟨hp, g, d, t + 1, os⟩) (ox := ox) (od := od) X I C.hm (wpAny_pure ?_))))
  show wpAny _ _ (handedOut (.ref D)) _ _ _
  rw [PySem.W.handedOut_of (v := .ref D) rfl]
  first
    | exact wpAny_pure (wpAny_pure h)
    | exact wpAny_pure h
    | exact wpAny_pure (wpAny_bind (wpAny_pure (wpAny_pure h)))
theorem kit_err (C : ExcC K D) : KitX K (.ref x) (.ref D) (fun h => InstAt h x ox D od) where
  ty := fun _ _ _ I => I.type
  it := fun M h X _ => by
    obtain ⟨cd, hc, _⟩ := PySem.W.any_some C.hd
    unfold clsIn at hc
    split at hc
    · rename_i lk
      intro A' Q' E' s' kp q
      unfold isType loadHead
      exact wpAny_bind (wpAny_loadPart (kp _ _ (X _ _ lk)) (wpAny_pure q))
    · cases hc
  ne := (PySem.W.handS_kitx_exc (x := x) (ox := ox) C.hg C.hk C.hs C.hd C.ha C.hn C.ht C.hm).ne
  ca := fun X I k => ask_class C X I k
end
/-- its dict, where it has one, is an exception's dict -/
def XdAt (H : Hp) (d : Option Addr) (fs : List (Str × V)) : Prop := match d with
  | none => fs = []
  | some dd => H dd = some (.xd fs)
def rIsP (K : Frag) (a : Addr) (cls : Value) (d : Option Addr) : List V → Hp → VK → Prop := fun xs H Q => ∃ (D C : Addr) (b : Bool) (fs : List (Str × V)), cls = .ref D ∧ ExcC K D ∧ XdAt H d fs ∧ xs = [.ref a, .ref C] ∧ PySem.W.kitOne K (.ref D) (.ref C) = some b ∧ Q (.bl b) H
section
variable {X : Cx} {a : Addr} {oe : Obj} {cls : Value} {d : Option Addr} {pins : List (Addr × Obj)} {σ : L2.St} {H : Hp} {s : Shared}
theorem pin_inst {D : Addr} {fs : List (Str × V)} (hp : (a, oe) ∈ X.pn) (hz : Zc (.ref D) d oe) (hf : ∃ vs, oe.data = .fields vs) (I : Inv X pins σ H s) (hx : XdAt H d fs) : ∃ od, InstAt s.heap a oe D od := by
  obtain ⟨ga, _⟩ := I.pin (a, oe) (List.mem_append_left _ hp)
  obtain ⟨vs, hd⟩ := hf
  cases d with
  | none => exact ⟨none, ga, hz.1, by unfold PySem.W.notCls; rw [hd] <;> rfl, by rw [hz.2]; trivial⟩
  | some dd =>
    obtain ⟨mA, hns, _⟩ := (show ObjOk X.prog X.w H s.heap dd (.xd fs) from I.hok dd _ hx)
    obtain ⟨od, ho, _⟩ := lookIn_ns hns
    exact ⟨some od, ga, hz.1, by unfold PySem.W.notCls; rw [hd] <;> rfl, by rw [hz.2]; exact ho⟩
theorem call_isP (hp : (a, oe) ∈ X.pn) (hz : Zc cls d oe) (hf : ∃ vs, oe.data = .fields vs) : CallR X (.builtin "isinstance") (rIsP X.K a cls d) := by
  intro pins s σ H xs us Q I r ⟨D, C, b, fs, ec, xc, hx, ex, e, q⟩
  subst ec ex
  obtain ⟨u1, u2, rfl, r1, r2⟩ := vals2 r
  obtain rfl : u1 = Value.ref a := r1
  obtain rfl : u2 = Value.ref C := r2
  obtain ⟨od, J⟩ := pin_inst hp hz hf I hx
  exact PySem.W.kia_one (H := fun h => InstAt h a oe D od) (kit_err xc) I.kIn J e (fun z => nomatch z) fun tk => ⟨.bl b, H, I.kept (t' := tk) fun _ _ z => z, rfl, q⟩
/-- err.n -/
theorem pe_xfP {C : Addr} {e : Expr} {te : TE} {pos : Pos} {n : Str} (hp : (a, oe) ∈ X.pn) (T : XfC X.K C) (hno : findIn X.K (.ref C) n = some none) (hz : Zc cls d oe) (hf : ∃ vs, oe.data = .fields vs) (he : PE X e te)
    (hb : attributeBase e n X.env (eval e X.env) = eval e X.env := by rfl) : PE X (.Attribute e n pos) (tXf a cls d C n te) := by
  refine ⟨fun pins s σ H Q I h => attr_of hb (thn (he.run pins s σ H _ I h) fun u s1 ⟨x, H1, I1, rx, ex, ec, dd, fs, v, ed, ea, l, q⟩ => ?_)⟩
  subst ex ec ed
  obtain rfl : u = Value.ref a := rx
  obtain ⟨ga, _⟩ := I1.pin (a, oe) (List.mem_append_left _ hp)
  obtain ⟨vs, hd⟩ := hf
  obtain ⟨mA, hns, hr⟩ := (show ObjOk X.prog X.w H1 s1.heap dd (.xd fs) from I1.hok dd _ ea)
  obtain ⟨od, ho, hl⟩ := lookIn_ns hns
  obtain ⟨u, hu, ru⟩ := RelO.some_of (v := v) (o := mA n) (by rw [← l]; exact hr n)
  exact HandSPX.exc_get (x := a) (ox := oe) (od := some od) I1.kIn ⟨ga, hz.1, by unfold PySem.W.notCls; rw [hd] <;> rfl, by rw [hz.2]; exact ho⟩ T.ga T.gg T.exC (PySem.W.findObj_own T.hdC hno rfl (by rw [hl, hu])) (handed_of ru) ⟨v, H1, I1.tok _, ru, q⟩
end
/-! ### a def that the caught error is handed to -/
abbrev SpE := Addr → Value → Option Addr → Sp
structure FnE (P : Program) (w : World) (K : Frag) (mg : Str → Option Value) (base : Heap) (k : Nat) (f : Addr) (fd : FuncData) (ps : List Str) (sp : SpE) : Prop where
  len : ∀ a cls d vs H Q E, sp a cls d vs H Q E → vs.length = ps.length
  run : ∀ (A : Around) (outer : List Env) (s : Shared) (H : Hp) (args : Args) (us : List Value) (vs : List V) (Q : VK) (E : XK) (p : Addr × Obj) (cls : Value) (d : Option Addr), RoomH k A → Zc cls d p.2 → (∃ fl, p.2.data = .fields fl) → PinOk outer H s p → Env0 P w K mg base A outer s H →
    BindsTo s fd args (ps.zip us) → Vals vs us → sp p.1 cls d vs H Q E → codeAny (model P w) A (.call (.ref f) args) (CR CX0 outer P w H s Q E) s
theorem Fun.okE {P : Program} {w : World} {K : Frag} {mg : Str → Option Value} {base : Heap} {x qual : Str} {st : Stmt} {f : Addr} {fd : FuncData} {N ps : List Str} {k : Nat} {sp : SpE} (F : Fun K x qual st f fd) (S : FnScope N ps (defScope st)) (len : ∀ a cls d vs H Q E, sp a cls d vs H Q E → vs.length = ps.length)
    (hbody : ∀ (cdv : Value) (A : Around) (outer : List Env) (s : Shared) (H : Hp) (vs : List V) (Q : VK) (E : XK) (p : Addr × Obj) (cls : Value) (d : Option Addr), Zc cls d p.2 → (∃ fl, p.2.data = .fields fl) → RoomH k (A.deeper (envOfC qual (defScope st) s.heap.objs.size f cdv)) → sp p.1 cls d vs H Q E →
      ∃ t, PSs (cxH CX0 P w K mg base N qual (defScope st) f cdv A outer s H E p).nox (defBody st) t ∧ t { nx := fun _ H' => Q .non H', rt := Q } (L2.start N vs) H) : FnE P w K mg base (k + 1) f fd ps sp := by
  obtain ⟨oc, od, kV, doc, pm, an, cdv, ct, osl, rfl, lk, hcd⟩ := F.ex
  refine ⟨len, fun A outer s H args us vs Q E p cls d hr hz hfl hpin e0 hb r hsp => ?_⟩
  have hl := len _ _ _ _ _ _ _ hsp
  have kx : K.In s.heap := e0.mod.kin.keeps fun b o e => (e0.bs b o e).1
  refine codeAny_call_function hr.depth (kx _ _ lk) rfl S.co S.gen rfl (PySem.W.codeRec_of kx hcd) (hb _ _ _ _ (wpAny_newFunctionEnv_cells S.kind (fun ⟨n, v⟩ hy => ?_) fun env he s1 x => ?_))
  · rcases S.par n (List.of_mem_zip hy).1 with y | y
    · exact .inl y
    · exact .inr ⟨y, PySem.W.cellsFrom_some _ _ _ (.inl y)⟩
  · subst he
    refine ⟨(e0.mod.nolimit.keeps fun b o e => (e0.bs b o e).1).keeps x.toInCall.keep, codeAny_func ?_⟩
    obtain ⟨t, ht, hq⟩ := hbody cdv A outer s H vs Q E p cls d hz hfl (hr.deeper _) hsp
    have I : Inv (cxH CX0 P w K mg base N qual (defScope st) f cdv A outer s H E p) [] (L2.start N vs) H s1 := inv_startH S hpin e0 hl r x
    refine wpAny_mono (ht.nox.run [] s1 (L2.start N vs) H _ I hq) (fun fl s' z => ?_) fun e s' z => z
    cases fl with
    | ret u =>
      obtain ⟨v, σ', H', J, rv, q⟩ := z
      exact ⟨v, H', J.os, J.bare, J.base, J.hok, rv, q⟩
    | next =>
      obtain ⟨σ', H', J, q⟩ := z
      exact ⟨.non, H', J.os, J.bare, J.base, J.hok, rfl, q⟩
    | brk =>
      obtain ⟨_, _, _, q⟩ := z
      exact q.elim
    | cont =>
      obtain ⟨_, _, _, q⟩ := z
      exact q.elim
structure ClE (P : Program) (w : World) (K : Frag) (mg : Str → Option Value) (base : Heap) (k : Nat) (x : Str) (ps : List Str) (sp : SpE) : Prop where
  ex : ∃ (f : Addr) (fd : FuncData), FnE P w K mg base k f fd ps sp ∧ mg x = some (.ref f) ∧ PySem.W.keepIn K (.ref f) = true ∧ Binds K fd ps []
section
variable {X : Cx} {a : Addr} {oe : Obj} {cls : Value} {d : Option Addr} {k : Nat} {x : Str} {ps : List Str} {sp : SpE} {e : Expr} {es : List Expr} {t : TA} {p pos : Pos}
end
end Pb

set_option Elab.async false
set_option linter.all false
set_option maxRecDepth 100000
namespace Pb
open PySem PySem.Spec PyProof.Rows L2
/-! ### own exception classes with def __init__(self, v): self.f = v -/
def inS (st : Stmt) : Stmt := match st with
  | .ClassDef _ _ _ body _ _ _ _ _ _ _ => body.getD 0 (.Pass ⟨0, 0, 0, 0⟩)
  | _ => .Pass ⟨0, 0, 0, 0⟩
def spInit (C : Addr) (f : Str) : Sp := fun vs H Q _ => ∃ a y, vs = [.ref a, y] ∧ H a = some (exo a C none) ∧ ∀ dx, H dx = none → dx ≠ a → Q .non (upd (upd H dx (exd dx [(f, y)])) a (exo a C (some dx)))
structure EcI (P : Program) (w : World) (K : PySem.W.Frag) (mg : Str → Option Value) (base : Heap) (x : Str) (C : Addr) (f : Str) : Prop where
  T : OexC K C
  g : mg x = some (.ref C)
  no : PySem.W.findIn K (.ref C) f = some none
  xc : ExcC K C
  ini : ∃ (fI : Addr) (fd : FuncData) (v : Str), PySem.W.findIn K (.ref C) "__init__" = some (some (.ref fI)) ∧ PySem.W.typeIn K (.ref fI) = some (.type "function") ∧ FnOk P w K mg base CX0 1 fI fd ["self", v] (spInit C f) ∧ Binds K fd ["self", v] []
theorem ExcC.xf {K : PySem.W.Frag} {C : Addr} (h : ExcC K C) : XfC K C := ⟨h.hg, h.hk, h.hs, h.hd⟩
/-- a reading closed under weaker wishes -/
def tCl (te : TE) : TE := fun σ H Q => ∃ P : VK, te σ H P ∧ ∀ y H1, P y H1 → Q y H1
theorem pe_cl {X : Cx} {e : Expr} {te : TE} (he : PE X e te) : PE X e (tCl te) := ⟨fun pins s σ H Q I ⟨P, h, k⟩ => thn (he.run pins s σ H P I h) fun u s1 ⟨x, H1, I1, r, q⟩ => ⟨x, H1, I1, r, k x H1 q⟩⟩
theorem hp_init {H : Hp} {a d : Addr} {C : Addr} {f : Str} {y : V} (ha : H a = none) (hda : d ≠ a) : upd (del (upd (upd (upd H a (exo a C none)) d (exd d [(f, y)])) a (exo a C (some d))) a) d (.xd [(f, y)]) = upd H d (.xd [(f, y)]) := by
  funext b
  by_cases h1 : b = d
  · rw [h1, upd_same, upd_same]
  · rw [upd_ne h1, upd_ne h1]
    by_cases h2 : b = a
    · rw [h2, del_same, ha]
    · rw [del_ne h2, upd_ne h2, upd_ne h1, upd_ne h2]
theorem pmk_eci {X : Cx} {x f : Str} {C : Addr} {e : Expr} {te : TE} {p pos : Pos} (T : EcI X.prog X.w X.K X.mg X.base x C f) (hr : Room 2 X.A) (hg : Gl X x) (he : PE X e te) (hdb : (x == ("__debug__" : Str)) = false := by decide) (hs : starEach [e] X.env = (false, eval e X.env) :: starEach [] X.env := by rfl) :
    PMk X (.Call (.Name x p) [e] [] pos) (fun σ H Q => te σ H fun y H1 => ∀ d, H1 d = none → Q (.ref C) (some d) (upd H1 d (.xd [(f, y)]))) := by
  obtain ⟨fI, fd, v, iC, tI, F1, hb⟩ := T.ini
  have mk := pmk_oex (X := X) (p := p) (pos := pos) (x := x) (es := []) T.T iC tI F1 hr hb (dvs := []) .nil pass0 hg T.g (pa_cons (pe_cl he) pa_nil (hs := hs)) hdb hs rfl
  intro pins s σ H Q I h
  refine mk pins s σ H Q I ⟨_, h, fun y H1 q => ⟨by simp, fun a ha => ⟨a, y, rfl, upd_same, fun d hd hda => ⟨rfl, d, [(f, y)], upd_same, ?_, ?_, ?_⟩⟩⟩⟩
  · rw [upd_ne hda, upd_same]
  · rw [upd_ne hda] at hd
    exact hd
  · rw [hp_init ha hda]
    rw [upd_ne hda] at hd
    exact q d hd
end Pb

set_option Elab.async false
set_option linter.all false
set_option maxRecDepth 100000
namespace Pb
open PySem PySem.Spec PyProof.Rows L2
/-! ### data in; data or an error out -/
inductive Out where
  | ret (e : PyData)
  | exc (x : Str)
  | excF (x f : Str) (e : PyData)
section
variable (K : PySem.W.Frag) (cl : Str → Addr)
/-- what an outcome asks of the two wishes -/
def OutOk (S : List Addr) (H : Hp) (Q : VK) (E : XK) : Out → Prop
  | .ret e => ∀ v H', Same H H' → Da K (hs S H') v e → Q v H'
  | .exc x => ∀ H', Same H H' → E (.ref (cl x)) none H'
  | .excF x f e => ∀ v d H', Same H H' → H' d = some (.xd [(f, v)]) → Da K (hs S H') v e → E (.ref (cl x)) (some d) H'
end
section
variable {K : PySem.W.Frag} {cl : Str → Addr} {S : List Addr} {H H1 : Hp} {Q : VK} {E : XK} {x f : Str} {e : PyData} {y : V}
theorem da_two {v : List V} {a b : PyData} (h : DaAll K H v [a, b]) : ∃ x y, v = [x, y] ∧ Da K H x a ∧ Da K H y b := by
  cases h with
  | cons h1 h2 =>
    cases h2 with
    | cons h3 h4 =>
      cases h4
      exact ⟨_, _, rfl, h1, h3⟩
end
def intOf : PyData → Int
  | .int i => i
  | _ => 0
end Pb

set_option Elab.async false
set_option linter.all false
set_option maxRecDepth 100000
namespace Pb
open PySem PySem.Spec PyProof.Rows L2
section
variable {K : PySem.W.Frag} {S : List Addr} {σ : L2.St} {H : Hp} {te ta tb : TE} {es fs : List PyData}
end
/-! ### the changed tables -/
def intsOf : PyData → List Int
  | .tuple ds => ds.map intOf
  | _ => []
theorem intsOf_off (ms : List Int) : intsOf (offD ms) = ms := by
  show (ms.map PyData.int).map intOf = ms
  rw [List.map_map]
  exact List.map_id ms
end Pb

set_option Elab.async false
set_option linter.all false
set_option maxRecDepth 100000
namespace Pb
open PySem PySem.Spec PyProof.Rows L2
/-! ### what a refusal is told as -/
abbrev rzX : List Str := ["NoDemand", "NoDemands", "NoOffer", "TooMany"]
abbrev rzC : List Str := ["NoDemand", "NoDemands", "NoOffer", "TooMany", "NoOffers"]
structure Ec3 (K : PySem.W.Frag) (mg : Str → Option Value) (cl : Str → Addr) : Prop where
  g : ∀ x ∈ rzC, mg x = some (.ref (cl x))
  xc : ∀ x ∈ rzX, ExcC K (cl x)
  kt : ∀ x ∈ rzX, ∀ c ∈ rzC, PySem.W.kitOne K (.ref (cl x)) (.ref (cl c)) = some (decide (x = c))
  f1 : PySem.W.findIn K (.ref (cl "NoDemand")) "demand" = some none
  f2 : PySem.W.findIn K (.ref (cl "NoOffer")) "offer" = some none
  f3 : PySem.W.findIn K (.ref (cl "TooMany")) "limit" = some none
/-- the error that an outcome lets out -/
def ErrIs (K : PySem.W.Frag) (cl : Str → Addr) (S : List Addr) (H : Hp) (cls : Value) (d : Option Addr) : Out → Prop
  | .ret _ => False
  | .exc x => x = "NoDemands" ∧ cls = .ref (cl x) ∧ d = none
  | .excF x f e => (x, f) ∈ [(("NoDemand" : Str), ("demand" : Str)), ("NoOffer", "offer"), ("TooMany", "limit")] ∧ cls = .ref (cl x) ∧ ∃ dd v, d = some dd ∧ H dd = some (.xd [(f, v)]) ∧ Da K (hs S H) v e
section
variable {K : PySem.W.Frag} {mg : Str → Option Value} {cl : Str → Addr} {S : List Addr} {H : Hp} {cls : Value} {d : Option Addr} {o : Out} {σ : L2.St} {a : Addr}
/-- its class's name, its fields -/
theorem ErrIs.kind (h : ErrIs K cl S H cls d o) : ∃ x ∈ rzX, ∃ fs, cls = .ref (cl x) ∧ XdAt H d fs ∧ ((o = .exc x ∧ x = "NoDemands") ∨ ∃ f e v, o = .excF x f e ∧ (x, f) ∈ [(("NoDemand" : Str), ("demand" : Str)), ("NoOffer", "offer"), ("TooMany", "limit")] ∧ fs = [(f, v)] ∧ Da K (hs S H) v e ∧ ∃ dd, d = some dd) := by
  cases o with
  | ret e => exact h.elim
  | exc x =>
    obtain ⟨rfl, h2, rfl⟩ := h
    exact ⟨_, by decide, [], h2, rfl, .inl ⟨rfl, rfl⟩⟩
  | excF x f e =>
    obtain ⟨h1, h2, dd, v, rfl, h3, h4⟩ := h
    refine ⟨x, ?_, [(f, v)], h2, h3, .inr ⟨f, e, v, rfl, h1, rfl, h4, dd, rfl⟩⟩
    simp only [List.mem_cons, Prod.mk.injEq, List.not_mem_nil, or_false] at h1
    rcases h1 with ⟨rfl, _⟩ | ⟨rfl, _⟩ | ⟨rfl, _⟩ <;> decide
theorem XdAt.same {H' : Hp} {fs : List (Str × V)} (h : XdAt H d fs) (s : Same H H') : XdAt H' d fs := by
  cases d with
  | none => exact h
  | some dd => exact s _ _ h
end
end Pb

set_option Elab.async false
set_option linter.all false
set_option maxRecDepth 100000
namespace Pb
open PySem PySem.Spec PyProof.Rows L2
/-- how many are smaller -/
def cntLt (ms : List Int) (x : Int) : Nat := (ms.filter fun m => decide (m < x)).length
theorem cnt_cons (m : Int) (ms : List Int) (x : Int) : cntLt (m :: ms) x = (if m < x then 1 else 0) + cntLt ms x := by
  unfold cntLt
  rw [List.filter_cons]
  by_cases h : m < x
  · simp [h]
    omega
  · simp [h]
theorem cnt_le {x y : Int} (h : x < y) : ∀ ms, cntLt ms x ≤ cntLt ms y
  | [] => Nat.le_refl _
  | m :: ms => by
    have := cnt_le h ms
    rw [cnt_cons, cnt_cons]
    split <;> split <;> omega
theorem cnt_lt {x y : Int} (h : x < y) : ∀ ms, x ∈ ms → cntLt ms x < cntLt ms y
  | [], hx => absurd hx List.not_mem_nil
  | m :: ms, hx => by
    rw [cnt_cons, cnt_cons]
    rcases List.mem_cons.mp hx with rfl | hx
    · have := cnt_le h ms
      rw [if_neg (by omega), if_pos h]
      omega
    · have := cnt_lt h ms hx
      split <;> split <;> omega
end Pb

set_option Elab.async false
set_option linter.all false
set_option maxRecDepth 100000
namespace Pb
open PySem PySem.Spec PyProof.Rows L2
/-! ### a def's slots by data: what a slot holds, and what stands in the heap -/
inductive Sl where
  | no
  | val (d : PyData)
  | own (es : List PyData)
  | deck (d : Addr)
  | exn (a : Addr) (d : Option Addr) (fs : List (Str × PyData))
  | plt (ns : List Int)
abbrev Rho := List Sl
/-- a locked tuple of numbers -/
def PlO (X : Hp) (o : Option V) (ns : List Int) : Prop := ∃ a b, o = some (.ref a) ∧ X a = some (.frz b (.tup (ns.map V.int))) ∧ b.dict = none
theorem PlO.mono {X Y : Hp} {o : Option V} {ns : List Int} (h : PlO X o ns) (s : Same X Y) : PlO Y o ns := by
  obtain ⟨a, b, e, h1, h2⟩ := h
  exact ⟨a, b, e, s _ _ h1, h2⟩
/-- a caught error's dict -/
def XdO (K : PySem.W.Frag) (X : Hp) : Option Addr → List (Str × PyData) → Prop
  | none, [] => True
  | some dd, [(f, e)] => ∃ v, X dd = some (.xd [(f, v)]) ∧ Da K X v e
  | _, _ => False
theorem XdO.mono {K : PySem.W.Frag} {X Y : Hp} {d : Option Addr} {fs : List (Str × PyData)} (h : XdO K X d fs) (s : Same X Y) : XdO K Y d fs := by
  match d, fs, h with
  | none, [], _ => trivial
  | some dd, [(f, e)], ⟨v, h1, h2⟩ => exact ⟨v, s _ _ h1, h2.mono s⟩
def SlOk (K : PySem.W.Frag) (T ow : List Addr) (H : Hp) (o : Option V) : Sl → Prop
  | .no => True
  | .val d => ∃ v, o = some v ∧ Da K (hs T H) v d
  | .own es => ∃ fo vs, o = some (.ref fo) ∧ fo ∈ ow ∧ H fo = some (.lst vs) ∧ DaAll K (hs T H) vs es
  | .deck d => o = some (.ref d)
  | .exn a d fs => o = some (.ref a) ∧ XdO K (hs T H) d fs
  | .plt ns => PlO (hs T H) o ns
structure SimO (K : PySem.W.Frag) (S : List Addr) (H0 : Hp) (G : Hp → Prop) (T ow : List Addr) (ρ : Rho) (σ : L2.St) (H : Hp) : Prop where
  len : σ.length = ρ.length
  slot : ∀ (i : Nat) (s : Sl), ρ[i]? = some s → ∃ o, σ[i]? = some o ∧ SlOk K T ow H o s
  inj : ∀ (i j : Nat) (es es' : List PyData), i ≠ j → ρ[i]? = some (.own es) → ρ[j]? = some (.own es') → σ[i]? ≠ σ[j]?
  old : Same H0 H
  new : ∀ a ∈ ow, H0 a = none
  sub : ∀ a ∈ S, a ∈ T
  owT : ∀ a ∈ ow, a ∈ T
  tr : Tr T H
  trS : Tr S H0
  mo : ∀ H H', Same H H' → G H → G H'
  fr : G (hs T H)
  lsT : ∀ a ∈ T, a ∈ S ∨ ∃ xs, H a = some (.lst xs)
def Sim (K : PySem.W.Frag) (S : List Addr) (H0 : Hp) (G : Hp → Prop) (ρ : Rho) (σ : L2.St) (H : Hp) : Prop := ∃ T ow, SimO K S H0 G T ow ρ σ H
theorem SlOk.move {K : PySem.W.Frag} {T T' ow ow' : List Addr} {H H' : Hp} {o : Option V} {s : Sl} (h : SlOk K T ow H o s) (sm : Same (hs T H) (hs T' H')) (kp : ∀ fo vs, o = some (.ref fo) → fo ∈ ow → H fo = some (.lst vs) → fo ∈ ow' ∧ H' fo = some (.lst vs)) : SlOk K T' ow' H' o s := by
  cases s with
  | no => trivial
  | deck d => exact h
  | exn a d fs => exact ⟨h.1, h.2.mono sm⟩
  | plt ns => exact PlO.mono h sm
  | val d =>
    obtain ⟨v, e, hd⟩ := h
    exact ⟨v, e, hd.mono sm⟩
  | own es =>
    obtain ⟨fo, vs, e, h1, h2, h3⟩ := h
    obtain ⟨k1, k2⟩ := kp fo vs e h1 h2
    exact ⟨fo, vs, e, k1, k2, h3.mono sm⟩
section
variable {K : PySem.W.Frag} {S : List Addr} {H0 : Hp} {G : Hp → Prop} {T ow : List Addr} {ρ : Rho} {σ : L2.St} {H H' : Hp}
theorem SimO.mono (h : SimO K S H0 G T ow ρ σ H) (s : Same H H') : SimO K S H0 G T ow ρ σ H' :=
  { len := h.len, inj := h.inj, new := h.new, sub := h.sub, owT := h.owT, trS := h.trS, mo := h.mo,
    slot := fun i sl e => by
      obtain ⟨o, ho, hs'⟩ := h.slot i sl e
      exact ⟨o, ho, hs'.move (hs_mono s) fun fo vs _ k1 k2 => ⟨k1, s _ _ k2⟩⟩
    old := h.old.trans s
    tr := h.tr.same s
    lsT := fun a ha => (h.lsT a ha).imp id fun ⟨xs, e⟩ => ⟨xs, s _ _ e⟩
    fr := h.mo _ _ (hs_mono s) h.fr }
theorem SimO.sim (h : SimO K S H0 G T ow ρ σ H) : Sim K S H0 G ρ σ H := ⟨T, ow, h⟩
theorem SimO.weak {G' : Hp → Prop} (h : SimO K S H0 G T ow ρ σ H) (mo : ∀ H H', Same H H' → G' H → G' H') (hg : G' (hs T H)) : SimO K S H0 G' T ow ρ σ H :=
  { len := h.len, slot := h.slot, inj := h.inj, old := h.old, new := h.new, sub := h.sub, owT := h.owT, tr := h.tr, trS := h.trS, mo := mo, fr := hg, lsT := h.lsT }
/-- one slot set to what is no list of its own -/
theorem SimO.put (h : SimO K S H0 G T ow ρ σ H) {i : Nat} {o : Option V} {s : Sl} (hs' : SlOk K T ow H o s) (hn : ∀ es, s ≠ .own es) : SimO K S H0 G T ow (ρ.set i s) (σ.set i o) H :=
  { old := h.old, new := h.new, sub := h.sub, owT := h.owT, tr := h.tr, trS := h.trS, mo := h.mo, fr := h.fr, lsT := h.lsT,
    len := by rw [List.length_set, List.length_set, h.len]
    slot := fun j sl e => by
      by_cases hj : i = j
      · subst hj
        rw [List.getElem?_set] at e
        simp only [if_true] at e
        split at e
        · rename_i hl
          cases e
          refine ⟨o, ?_, hs'⟩
          rw [List.getElem?_set_self (by rw [h.len]; exact hl)]
        · cases e
      · rw [List.getElem?_set_ne hj] at e ⊢
        exact h.slot j sl e
    inj := fun a b es es' hab e1 e2 => by
      have ha : i ≠ a := fun z => by
        subst z
        rw [List.getElem?_set] at e1
        simp only [if_true] at e1
        split at e1
        · exact hn es (Option.some.inj e1)
        · cases e1
      have hb : i ≠ b := fun z => by
        subst z
        rw [List.getElem?_set] at e2
        simp only [if_true] at e2
        split at e2
        · exact hn es' (Option.some.inj e2)
        · cases e2
      rw [List.getElem?_set_ne ha] at e1 ⊢
      rw [List.getElem?_set_ne hb] at e2 ⊢
      exact h.inj a b es es' hab e1 e2 }
theorem SimO.setV (h : SimO K S H0 G T ow ρ σ H) {i : Nat} {v : V} {d : PyData} (hd : Da K (hs T H) v d) : SimO K S H0 G T ow (ρ.set i (.val d)) (σ.set i (some v)) H := h.put ⟨v, rfl, hd⟩ (fun _ z => by cases z)
theorem SimO.setN (h : SimO K S H0 G T ow ρ σ H) {i : Nat} {o : Option V} : SimO K S H0 G T ow (ρ.set i .no) (σ.set i o) H := h.put trivial (fun _ z => by cases z)
def wipeR (ρ : Rho) : List Nat → Rho
  | [] => ρ
  | v :: vs => (wipeR ρ vs).set v .no
theorem SimO.wipe (h : SimO K S H0 G T ow ρ σ H) : ∀ vs, SimO K S H0 G T ow (wipeR ρ vs) (L2.wipe σ vs) H
  | [] => h
  | v :: vs => (SimO.wipe h vs).setN
/-- one more hidden address -/
theorem SimO.hide (h : SimO K S H0 G T ow ρ σ H) {D : Addr} (hD : H D = none) {vs : List V} : SimO K S H0 G (D :: T) ow ρ σ (upd H D (.lst vs)) :=
  { len := h.len, inj := h.inj, new := h.new, trS := h.trS, mo := h.mo,
    sub := fun a ha => List.mem_cons_of_mem _ (h.sub a ha)
    owT := fun a ha => List.mem_cons_of_mem _ (h.owT a ha)
    old := h.old.trans (same_upd hD)
    slot := fun i sl e => by
      obtain ⟨o, ho, hs'⟩ := h.slot i sl e
      exact ⟨o, ho, hs'.move (hs_cons_new hD) fun fo vs _ k1 k2 => ⟨k1, same_upd hD _ _ k2⟩⟩
    tr := fun x hx => by
      rcases List.mem_cons.mp hx with rfl | hx
      · exact ⟨_, upd_same⟩
      · exact h.tr.same (same_upd hD) x hx
    lsT := fun x hx => by
      rcases List.mem_cons.mp hx with rfl | hx
      · exact .inr ⟨_, upd_same⟩
      · exact (h.lsT x hx).imp id fun ⟨xs, e⟩ => ⟨xs, same_upd hD _ _ e⟩
    fr := h.mo _ _ (hs_cons_new hD) h.fr }
/-- a new list in a slot -/
theorem SimO.setO (h : SimO K S H0 G T ow ρ σ H) {i : Nat} {p : Addr} {vs : List V} {es : List PyData} (hp : H p = none) (s : Same H H') (hp' : H' p = some (.lst vs)) (hd : DaAll K (hs (p :: T) H') vs es) :
    SimO K S H0 G (p :: T) (p :: ow) (ρ.set i (.own es)) (σ.set i (some (.ref p))) H' := by
  have sm : Same (hs T H) (hs (p :: T) H') := fun a o e => by
    obtain ⟨h1, h2⟩ := hs_some e
    have ne : a ≠ p := fun z => by
      rw [z, hp] at h2
      cases h2
    rw [hs_out (by simp [ne, h1])]
    exact s _ _ h2
  have kp : ∀ {o : Option V} (fo : Addr) (vs : List V), o = some (.ref fo) → fo ∈ ow → H fo = some (.lst vs) → fo ∈ p :: ow ∧ H' fo = some (.lst vs) := fun fo vs _ k1 k2 => ⟨List.mem_cons_of_mem _ k1, s _ _ k2⟩
  have pno : ∀ (j : Nat) (es' : List PyData), ρ[j]? = some (.own es') → σ[j]? ≠ some (some (.ref p)) := fun j es' e z => by
    obtain ⟨o, ho, fo, ws, e1, _, e3, _⟩ := h.slot j _ e
    rw [ho] at z
    cases z
    cases e1
    rw [hp] at e3
    cases e3
  refine { len := by rw [List.length_set, List.length_set, h.len], old := h.old.trans s, trS := h.trS, mo := h.mo, fr := h.mo _ _ sm h.fr, sub := fun a ha => List.mem_cons_of_mem _ (h.sub a ha), owT := ?owT, new := ?new, tr := ?tr, slot := ?slot, inj := ?inj, lsT := ?lsT }
  case lsT =>
    intro x hx
    rcases List.mem_cons.mp hx with rfl | hx
    · exact .inr ⟨_, hp'⟩
    · exact (h.lsT x hx).imp id fun ⟨xs, e⟩ => ⟨xs, s _ _ e⟩
  case owT =>
    intro a ha
    rcases List.mem_cons.mp ha with rfl | ha
    · exact List.mem_cons_self
    · exact List.mem_cons_of_mem _ (h.owT a ha)
  case new =>
    intro a ha
    rcases List.mem_cons.mp ha with rfl | ha
    · exact h.old.free hp
    · exact h.new a ha
  case tr =>
    intro x hx
    rcases List.mem_cons.mp hx with rfl | hx
    · exact ⟨_, hp'⟩
    · exact h.tr.same s x hx
  case slot =>
    intro j sl e
    by_cases hj : i = j
    · subst hj
      rw [List.getElem?_set] at e
      simp only [if_true] at e
      split at e
      · rename_i hl
        cases e
        refine ⟨some (.ref p), by rw [List.getElem?_set_self (by rw [h.len]; exact hl)], p, vs, rfl, List.mem_cons_self, hp', hd⟩
      · cases e
    · rw [List.getElem?_set_ne hj] at e ⊢
      obtain ⟨o, ho, hs'⟩ := h.slot j sl e
      exact ⟨o, ho, hs'.move sm kp⟩
  case inj =>
    intro a b es1 es2 hab e1 e2
    by_cases ha : i = a
    · subst ha
      rw [List.getElem?_set_ne hab] at e2 ⊢
      intro z
      have hl : i < ρ.length := by
        rw [List.getElem?_set] at e1
        simp only [if_true] at e1
        split at e1
        · assumption
        · cases e1
      rw [List.getElem?_set_self (by rw [h.len]; exact hl)] at z
      exact pno b es2 e2 z.symm
    · rw [List.getElem?_set_ne ha] at e1 ⊢
      by_cases hb : i = b
      · subst hb
        have hl : i < ρ.length := by
          rw [List.getElem?_set] at e2
          simp only [if_true] at e2
          split at e2
          · assumption
          · cases e2
        rw [List.getElem?_set_self (by rw [h.len]; exact hl)]
        exact pno a es1 e1
      · rw [List.getElem?_set_ne hb] at e2 ⊢
        exact h.inj a b es1 es2 hab e1 e2
/-- the list of a slot changed -/
theorem SimO.chg (h : SimO K S H0 G T ow ρ σ H) {i : Nat} {fo : Addr} {es es' : List PyData} {vs' : List V} (he : ρ[i]? = some (.own es)) (hσ : σ[i]? = some (some (.ref fo))) (hd : DaAll K (hs T H) vs' es') :
    SimO K S H0 G T ow (ρ.set i (.own es')) σ (upd H fo (.lst vs')) := by
  obtain ⟨o, ho, fo', ws, e1, e2, e3, e4⟩ := h.slot i _ he
  rw [hσ] at ho
  cases ho
  cases e1
  have hl : i < ρ.length := (List.getElem?_eq_some_iff.mp he).1
  have hT : fo ∈ T := h.owT fo e2
  have hsE : ∀ {o : HO}, hs T (upd H fo o) = hs T H := fun {o} => hs_put hT
  refine { len := by rw [List.length_set, h.len], new := h.new, sub := h.sub, owT := h.owT, trS := h.trS, mo := h.mo, lsT := ?lsT, old := ?old, tr := ?tr, slot := ?slot, inj := ?inj, fr := by rw [hsE]; exact h.fr }
  case lsT =>
    intro x hx
    by_cases z : x = fo
    · rw [z]
      exact .inr ⟨_, upd_same⟩
    · exact (h.lsT x hx).imp id fun ⟨xs, e⟩ => ⟨xs, by rw [upd_ne z]; exact e⟩
  case old =>
    intro a o e
    have ne : a ≠ fo := fun z => by
      rw [z, h.new fo e2] at e
      cases e
    rw [upd_ne ne]
    exact h.old _ _ e
  case tr =>
    intro x hx
    by_cases z : x = fo
    · rw [z]
      exact ⟨_, upd_same⟩
    · rw [upd_ne z]
      exact h.tr x hx
  case slot =>
    intro j sl e
    by_cases hj : i = j
    · subst hj
      rw [List.getElem?_set_self hl] at e
      cases e
      exact ⟨_, hσ, fo, vs', rfl, e2, upd_same, by rw [hsE]; exact hd⟩
    · rw [List.getElem?_set_ne hj] at e
      obtain ⟨o, ho, hs'⟩ := h.slot j sl e
      refine ⟨o, ho, ?_⟩
      cases sl with
      | no => trivial
      | deck d => exact hs'
      | exn a d fs => exact ⟨hs'.1, by rw [hsE]; exact hs'.2⟩
      | plt ns => exact (show PlO _ o ns by rw [hsE]; exact hs')
      | val d =>
        obtain ⟨v, ev, hv⟩ := hs'
        exact ⟨v, ev, by rw [hsE]; exact hv⟩
      | own fs =>
        obtain ⟨fo2, ws2, q1, q2, q3, q4⟩ := hs'
        have ne : fo2 ≠ fo := fun z => by
          refine h.inj j i _ _ (fun z => hj z.symm) e he ?_
          rw [ho, hσ, q1, z]
        exact ⟨fo2, ws2, q1, q2, by rw [upd_ne ne]; exact q3, by rw [hsE]; exact q4⟩
  case inj =>
    intro a b es1 es2 hab e1' e2'
    have un : ∀ (c : Nat) (es3 : List PyData), (ρ.set i (.own es'))[c]? = some (.own es3) → ∃ es4, ρ[c]? = some (.own es4) := fun c es3 e => by
      by_cases hc : i = c
      · subst hc
        exact ⟨_, he⟩
      · rw [List.getElem?_set_ne hc] at e
        exact ⟨_, e⟩
    obtain ⟨_, g1⟩ := un a _ e1'
    obtain ⟨_, g2⟩ := un b _ e2'
    exact h.inj a b _ _ hab g1 g2
/-- a list of its own from here on not changed any more -/
theorem SimO.freeze (h : SimO K S H0 G T ow ρ σ H) {i : Nat} {es : List PyData} (he : ρ[i]? = some (.own es)) : ∃ T' ow', SimO K S H0 G T' ow' (ρ.set i (.val (.list es))) σ H := by
  obtain ⟨o, ho, fo, ws, e1, e2, e3, e4⟩ := h.slot i _ he
  subst e1
  have hl : i < ρ.length := (List.getElem?_eq_some_iff.mp he).1
  have sm : Same (hs T H) (hs (T.filter (· ≠ fo)) H) := msk_to_hs fun x hx => (List.mem_filter.mp hx).1
  have fT : fo ∉ T.filter (· ≠ fo) := fun z => by simpa using (List.mem_filter.mp z).2
  refine ⟨T.filter (· ≠ fo), ow.filter (· ≠ fo), { len := by rw [List.length_set, h.len], old := h.old, trS := h.trS, mo := h.mo, fr := h.mo _ _ sm h.fr, new := fun a ha => h.new a (List.mem_filter.mp ha).1, tr := fun x hx => h.tr x (List.mem_filter.mp hx).1, lsT := fun x hx => h.lsT x (List.mem_filter.mp hx).1, sub := ?sub, owT := ?owT, slot := ?slot, inj := ?inj }⟩
  case sub =>
    intro a ha
    refine List.mem_filter.mpr ⟨h.sub a ha, ?_⟩
    have ne : a ≠ fo := fun z => by
      obtain ⟨o, eo⟩ := h.trS a ha
      rw [z, h.new fo e2] at eo
      cases eo
    simpa using ne
  case owT =>
    intro a ha
    obtain ⟨k1, k2⟩ := List.mem_filter.mp ha
    exact List.mem_filter.mpr ⟨h.owT a k1, k2⟩
  case slot =>
    intro j sl e
    by_cases hj : i = j
    · subst hj
      rw [List.getElem?_set_self hl] at e
      cases e
      exact ⟨_, ho, .ref fo, rfl, .lst (SqL.of (hs_at fT e3)) (e4.mono sm)⟩
    · rw [List.getElem?_set_ne hj] at e
      obtain ⟨o', ho', hs'⟩ := h.slot j sl e
      refine ⟨o', ho', ?_⟩
      cases sl with
      | no => trivial
      | deck d => exact hs'
      | exn a d fs => exact ⟨hs'.1, hs'.2.mono sm⟩
      | plt ns => exact PlO.mono hs' sm
      | val d =>
        obtain ⟨v, ev, hv⟩ := hs'
        exact ⟨v, ev, hv.mono sm⟩
      | own fs =>
        obtain ⟨fo2, ws2, q1, q2, q3, q4⟩ := hs'
        have ne : fo2 ≠ fo := fun z => by
          refine h.inj j i _ _ (fun z => hj z.symm) e he ?_
          rw [ho', ho, q1, z]
        exact ⟨fo2, ws2, q1, List.mem_filter.mpr ⟨q2, by simpa using ne⟩, q3, q4.mono sm⟩
  case inj =>
    intro a b es1 es2 hab e1' e2'
    have un : ∀ (c : Nat) (es3 : List PyData), (ρ.set i (.val (.list es)))[c]? = some (.own es3) → ρ[c]? = some (.own es3) := fun c es3 e => by
      by_cases hc : i = c
      · subst hc
        rw [List.getElem?_set_self hl] at e
        cases e
      · rw [List.getElem?_set_ne hc] at e
        exact e
    exact h.inj a b _ _ hab (un a _ e1') (un b _ e2')
end
end Pb

set_option Elab.async false
set_option linter.all false
set_option maxRecDepth 100000
namespace Pb
open PySem PySem.Spec PyProof.Rows L2
/-! ### readings as functions of the slots' data -/
/-- data, or a list of its own that is read -/
def Dv (K : PySem.W.Frag) (T : List Addr) (H : Hp) (v : V) (e : PyData) : Prop := Da K (hs T H) v e ∨ ∃ p xs es, v = .ref p ∧ e = .list es ∧ H p = some (.lst xs) ∧ DaAll K (hs T H) xs es
section
variable {K : PySem.W.Frag} {T : List Addr} {H H' : Hp} {v : V} {e : PyData}
theorem Dv.mono (h : Dv K T H v e) (s : Same H H') : Dv K T H' v e := by
  rcases h with h | ⟨p, xs, es, h1, h2, h3, h4⟩
  · exact .inl (h.mono (hs_mono s))
  · exact .inr ⟨p, xs, es, h1, h2, s _ _ h3, h4.mono (hs_mono s)⟩
theorem Dv.da (h : Dv K T H v e) : Da K H v e := by
  rcases h with h | ⟨p, xs, es, rfl, rfl, h3, h4⟩
  · exact h.mono hs_sub
  · exact .lst (SqL.of h3) (h4.mono hs_sub)
theorem Dv.lst {es : List PyData} (h : Dv K T H v (.list es)) : ∃ p xs, v = .ref p ∧ SqL K H p xs ∧ DaAll K (hs T H) xs es := by
  rcases h with h | ⟨p, xs, es', rfl, e, h3, h4⟩
  · cases h with
    | @lst a xs _ h1 h2 => exact ⟨a, xs, rfl, Same.seq hs_sub h1, h2⟩
  · cases e
    exact ⟨p, xs, rfl, SqL.of h3, h4⟩
theorem Dv.tup {es : List PyData} (h : Dv K T H v (.tuple es)) : ∃ p xs, v = .ref p ∧ SqT K H p xs ∧ DaAll K (hs T H) xs es ∧ Da K (hs T H) v (.tuple es) := by
  rcases h with h | ⟨p, xs, es', rfl, e, h3, h4⟩
  · have h' := h
    cases h with
    | @tup a xs _ h1 h2 => exact ⟨a, xs, rfl, Same.tq hs_sub h1, h2, h'⟩
  · cases e
theorem Dv.int {i : Int} (h : Dv K T H v (.int i)) : v = .int i := by
  rcases h with h | ⟨p, xs, es', rfl, e, h3, h4⟩
  · cases h
    rfl
  · cases e
theorem Dv.bl {b : Bool} (h : Dv K T H v (.bool b)) : v = .bl b := by
  rcases h with h | ⟨p, xs, es', rfl, e, h3, h4⟩
  · cases h
    rfl
  · cases e
theorem Dv.str {x : Str} (h : Dv K T H v (.str x)) : v = .str x := by
  rcases h with h | ⟨p, xs, es', rfl, e, h3, h4⟩
  · cases h
    rfl
  · cases e
theorem Dv.non (h : Dv K T H v .none) : v = .non := by
  rcases h with h | ⟨p, xs, es', rfl, e, h3, h4⟩
  · cases h
    rfl
  · cases e
end
inductive DvAll (K : PySem.W.Frag) (T : List Addr) (H : Hp) : List V → List PyData → Prop
  | nil : DvAll K T H [] []
  | cons {v : V} {vs : List V} {d : PyData} {ds : List PyData} : Dv K T H v d → DvAll K T H vs ds → DvAll K T H (v :: vs) (d :: ds)
theorem DvAll.mono {K : PySem.W.Frag} {T : List Addr} {H H' : Hp} : ∀ {vs : List V} {ds : List PyData}, DvAll K T H vs ds → Same H H' → DvAll K T H' vs ds
  | _, _, .nil, _ => .nil
  | _, _, .cons h1 h2, s => .cons (h1.mono s) (DvAll.mono h2 s)
section
variable (K : PySem.W.Frag)
def EvS (te : TE) (φ : Rho → Option PyData) : Prop := ∀ S H0 G T ow ρ σ H e, SimO K S H0 G T ow ρ σ H → φ ρ = some e → ∀ Q : VK, (∀ v H', Same H H' → Da K (hs T H') v e → Q v H') → te σ H Q
def EvTr (te : TE) (φ : Rho → Option PyData) : Prop := ∀ S H0 G T ow ρ σ H e, SimO K S H0 G T ow ρ σ H → φ ρ = some e → ∀ Q : VK, (∀ v H', Same H H' → Dv K T H' v e → Q v H') → te σ H Q
/-- a new list -/
def EvF (te : TE) (φ : Rho → Option (List PyData)) : Prop := ∀ S H0 G T ow ρ σ H es, SimO K S H0 G T ow ρ σ H → φ ρ = some es → ∀ Q : VK, (∀ p vs H', Same H H' → H p = none → H' p = some (.lst vs) → DaAll K (hs (p :: T) H') vs es → Q (.ref p) H') → te σ H Q
/-- a list whose items are told (new, or of a slot) -/
def EvLi (te : TE) (φ : Rho → Option (List PyData)) : Prop := ∀ S H0 G T ow ρ σ H es, SimO K S H0 G T ow ρ σ H → φ ρ = some es → ∀ Q : VK, (∀ p vs H', Same H H' → H' p = some (.lst vs) → DaAll K (hs T H') vs es → Q (.ref p) H') → te σ H Q
def TeP (tt : TT) (β : Rho → Option Bool) : Prop := ∀ S H0 G T ow ρ σ H b, SimO K S H0 G T ow ρ σ H → β ρ = some b → ∀ Q : Bool → Hp → Prop, (∀ H', Same H H' → Q b H') → tt σ H Q
def EvAS (ta : TA) (φ : Rho → Option (List PyData)) : Prop := ∀ S H0 G T ow ρ σ H es, SimO K S H0 G T ow ρ σ H → φ ρ = some es → ∀ Q : List V → Hp → Prop, (∀ vs H', Same H H' → DaAll K (hs T H') vs es → Q vs H') → ta σ H Q
def EvAT (ta : TA) (φ : Rho → Option (List PyData)) : Prop := ∀ S H0 G T ow ρ σ H es, SimO K S H0 G T ow ρ σ H → φ ρ = some es → ∀ Q : List V → Hp → Prop, (∀ vs H', Same H H' → DvAll K T H' vs es → Q vs H') → ta σ H Q
def EvOI (to : TO) (φ : Rho → Option (Option Int)) : Prop := ∀ S H0 G T ow ρ σ H o, SimO K S H0 G T ow ρ σ H → φ ρ = some o → ∀ Q : Option Int → Hp → Prop, (∀ H', Same H H' → Q o H') → to σ H Q
/-- an operation's, a builtin's reading -/
def OpS (r : R2) (f : PyData → PyData → Option PyData) : Prop := ∀ T H x y d1 d2 e, Tr T H → Dv K T H x d1 → Dv K T H y d2 → f d1 d2 = some e → ∀ Q : VK, (∀ v H', Same H H' → Da K (hs T H') v e → Q v H') → r x y H Q
def UnS (r : V → Hp → VK → Prop) (f : PyData → Option PyData) : Prop := ∀ T H x d e, Tr T H → Dv K T H x d → f d = some e → ∀ Q : VK, (∀ v H', Same H H' → Da K (hs T H') v e → Q v H') → r x H Q
def CbS (r : List V → Hp → VK → Prop) (f : List PyData → Option PyData) : Prop := ∀ T H xs ds e, Tr T H → DvAll K T H xs ds → f ds = some e → ∀ Q : VK, (∀ v H', Same H H' → Da K (hs T H') v e → Q v H') → r xs H Q
/-- a builtin that makes a list -/
def CbF (r : List V → Hp → VK → Prop) (f : List PyData → Option (List PyData)) : Prop := ∀ T H xs ds es, Tr T H → DvAll K T H xs ds → f ds = some es → ∀ Q : VK, (∀ p vs H', Same H H' → H p = none → H' p = some (.lst vs) → DaAll K (hs (p :: T) H') vs es → Q (.ref p) H') → r xs H Q
end
section
variable {K : PySem.W.Frag}
def rv (ρ : Rho) (i : Nat) : Option PyData := match ρ[i]? with
  | some (.val d) => some d
  | _ => none
def ro (ρ : Rho) (i : Nat) : Option (List PyData) := match ρ[i]? with
  | some (.own es) => some es
  | _ => none
/-! the readings' own words -/
def eVar (i : Nat) : Rho → Option PyData := fun ρ => rv ρ i
def lOwn (i : Nat) : Rho → Option (List PyData) := fun ρ => ro ρ i
def eInt (i : Int) : Rho → Option PyData := fun _ => some (.int i)
def eBl (b : Bool) : Rho → Option PyData := fun _ => some (.bool b)
def eStr (x : Str) : Rho → Option PyData := fun _ => some (.str x)
def eNon : Rho → Option PyData := fun _ => some .none
def eL (φ : Rho → Option (List PyData)) : Rho → Option PyData := fun ρ => (φ ρ).map .list
def aNil : Rho → Option (List PyData) := fun _ => some []
def aCons (φ : Rho → Option PyData) (φs : Rho → Option (List PyData)) : Rho → Option (List PyData) := fun ρ => (φ ρ).bind fun x => (φs ρ).map (x :: ·)
def lim (es : List PyData) : Option (List PyData) := if es.length ≤ 100000 then some es else none
def eTup (φs : Rho → Option (List PyData)) : Rho → Option PyData := fun ρ => ((φs ρ).bind lim).map .tuple
def lLst (φs : Rho → Option (List PyData)) : Rho → Option (List PyData) := fun ρ => (φs ρ).bind lim
def eOp (f : PyData → PyData → Option PyData) (φ ψ : Rho → Option PyData) : Rho → Option PyData := fun ρ => (φ ρ).bind fun x => (ψ ρ).bind fun y => f x y
def eUn (f : PyData → Option PyData) (φ : Rho → Option PyData) : Rho → Option PyData := fun ρ => (φ ρ).bind f
def eCb (f : List PyData → Option PyData) (φs : Rho → Option (List PyData)) : Rho → Option PyData := fun ρ => (φs ρ).bind f
def lCb (f : List PyData → Option (List PyData)) (φs : Rho → Option (List PyData)) : Rho → Option (List PyData) := fun ρ => (φs ρ).bind f
def lCat (φ ψ : Rho → Option (List PyData)) : Rho → Option (List PyData) := fun ρ => (φ ρ).bind fun x => (ψ ρ).bind fun y => lim (x ++ y)
def asB : PyData → Option Bool
  | .bool b => some b
  | _ => none
def asI : PyData → Option Int
  | .int i => some i
  | _ => none
def eAnd (φ ψ : Rho → Option PyData) : Rho → Option PyData := fun ρ => ((φ ρ).bind asB).bind fun c => if c then ψ ρ else some (.bool false)
def eNot (φ : Rho → Option PyData) : Rho → Option PyData := fun ρ => ((φ ρ).bind asB).map fun c => .bool (!c)
def bTest (φ : Rho → Option PyData) : Rho → Option Bool := fun ρ => (φ ρ).bind asB
def bYes : Rho → Option Bool := fun _ => some true
def bAnd (β γ : Rho → Option Bool) : Rho → Option Bool := fun ρ => (β ρ).bind fun c => if c then γ ρ else some false
def bOr (β γ : Rho → Option Bool) : Rho → Option Bool := fun ρ => (β ρ).bind fun c => if c then some true else γ ρ
def bNot (β : Rho → Option Bool) : Rho → Option Bool := fun ρ => (β ρ).map (!·)
def eIf (β : Rho → Option Bool) (φ ψ : Rho → Option PyData) : Rho → Option PyData := fun ρ => (β ρ).bind fun c => if c then φ ρ else ψ ρ
def eChain (f g : PyData → PyData → Option PyData) (φ ψ χ : Rho → Option PyData) : Rho → Option PyData := fun ρ => (φ ρ).bind fun x => (ψ ρ).bind fun y => ((f x y).bind asB).bind fun c => if c then (χ ρ).bind fun z => g y z else some (.bool false)
def oNone : Rho → Option (Option Int) := fun _ => some none
def oSome (φ : Rho → Option PyData) : Rho → Option (Option Int) := fun ρ => ((φ ρ).bind asI).map some
theorem rv_some {ρ : Rho} {i : Nat} {d : PyData} (h : rv ρ i = some d) : ρ[i]? = some (.val d) := by
  unfold rv at h
  split at h
  · rename_i e
    cases h
    exact e
  · cases h
theorem ro_some {ρ : Rho} {i : Nat} {d : List PyData} (h : ro ρ i = some d) : ρ[i]? = some (.own d) := by
  unfold ro at h
  split at h
  · rename_i e
    cases h
    exact e
  · cases h
theorem EvS.t {te : TE} {φ : Rho → Option PyData} (h : EvS K te φ) : EvTr K te φ := fun S H0 G T ow ρ σ H e sm he Q q => h S H0 G T ow ρ σ H e sm he Q fun v H' s hd => q v H' s (.inl hd)
theorem EvF.s {te : TE} {φ : Rho → Option (List PyData)} (h : EvF K te φ) : EvS K te (eL φ) := fun S H0 G T ow ρ σ H e sm he Q q => by
  obtain ⟨es, h1, rfl⟩ := Option.map_eq_some_iff.mp he
  exact h S H0 G T ow ρ σ H es sm h1 Q fun p vs H' s hp hp' hd => q (.ref p) H' s (.lst (SqL.of (hs_at (sm.tr.out hp) hp')) (hd.mono hs_cons_sub))
theorem EvF.l {te : TE} {φ : Rho → Option (List PyData)} (h : EvF K te φ) : EvLi K te φ := fun S H0 G T ow ρ σ H es sm he Q q =>
  h S H0 G T ow ρ σ H es sm he Q fun p vs H' s hp hp' hd => q p vs H' s hp' (hd.mono hs_cons_sub)
theorem EvLi.t {te : TE} {φ : Rho → Option (List PyData)} (h : EvLi K te φ) : EvTr K te (eL φ) := fun S H0 G T ow ρ σ H e sm he Q q => by
  obtain ⟨es, h1, rfl⟩ := Option.map_eq_some_iff.mp he
  exact h S H0 G T ow ρ σ H es sm h1 Q fun p vs H' s hp' hd => q (.ref p) H' s (.inr ⟨p, vs, es, rfl, rfl, hp', hd⟩)
/-! names and constants -/
theorem xs_var (i : Nat) : EvS K (tVar i) (eVar i) := fun S H0 G T ow ρ σ H e sm he Q q => by
  obtain ⟨o, ho, v, rfl, hd⟩ := sm.slot i _ (rv_some he)
  exact ⟨v, ho, q v H (Same.refl _) hd⟩
theorem xl_own (i : Nat) : EvLi K (tVar i) (lOwn i) := fun S H0 G T ow ρ σ H es sm he Q q => by
  obtain ⟨o, ho, fo, vs, rfl, _, h2, h3⟩ := sm.slot i _ (ro_some he)
  exact ⟨_, ho, q fo vs H (Same.refl _) h2 h3⟩
theorem xs_int (i : Int) : EvS K (tC (.int i)) (eInt i) := fun S H0 G T ow ρ σ H e sm he Q q => by
  cases he
  exact q _ H (Same.refl _) (.int i)
theorem xs_bl (b : Bool) : EvS K (tC (.bl b)) (eBl b) := fun S H0 G T ow ρ σ H e sm he Q q => by
  cases he
  exact q _ H (Same.refl _) (.bl b)
theorem xs_str (x : Str) : EvS K (tC (.str x)) (eStr x) := fun S H0 G T ow ρ σ H e sm he Q q => by
  cases he
  exact q _ H (Same.refl _) (.str x)
theorem xs_non : EvS K (tC .non) eNon := fun S H0 G T ow ρ σ H e sm he Q q => by
  cases he
  exact q _ H (Same.refl _) .non
/-! arguments -/
theorem xa_nil : EvAS K tNil aNil := fun S H0 G T ow ρ σ H e sm he Q q => by
  cases he
  exact q [] H (Same.refl _) .nil
theorem xa_cons {te : TE} {ta : TA} {φ : Rho → Option PyData} {φs : Rho → Option (List PyData)} (h : EvS K te φ) (hr : EvAS K ta φs) : EvAS K (tCons te ta) (aCons φ φs) := fun S H0 G T ow ρ σ H es sm he Q q => by
  obtain ⟨x, h1, h2⟩ := Option.bind_eq_some_iff.mp he
  obtain ⟨xs, h3, rfl⟩ := Option.map_eq_some_iff.mp h2
  exact h S H0 G T ow ρ σ H x sm h1 _ fun v H1 s1 hv => hr S H0 G T ow ρ σ H1 xs (sm.mono s1) h3 _ fun vs H2 s2 hvs => q (v :: vs) H2 (s1.trans s2) (.cons (hv.mono (hs_mono s2)) hvs)
theorem xt_nil : EvAT K tNil aNil := fun S H0 G T ow ρ σ H e sm he Q q => by
  cases he
  exact q [] H (Same.refl _) .nil
theorem xt_cons {te : TE} {ta : TA} {φ : Rho → Option PyData} {φs : Rho → Option (List PyData)} (h : EvTr K te φ) (hr : EvAT K ta φs) : EvAT K (tCons te ta) (aCons φ φs) := fun S H0 G T ow ρ σ H es sm he Q q => by
  obtain ⟨x, h1, h2⟩ := Option.bind_eq_some_iff.mp he
  obtain ⟨xs, h3, rfl⟩ := Option.map_eq_some_iff.mp h2
  exact h S H0 G T ow ρ σ H x sm h1 _ fun v H1 s1 hv => hr S H0 G T ow ρ σ H1 xs (sm.mono s1) h3 _ fun vs H2 s2 hvs => q (v :: vs) H2 (s1.trans s2) (.cons (hv.mono s2) hvs)
/-! displays -/
theorem lim_some {es fs : List PyData} (h : lim es = some fs) : es.length ≤ 100000 ∧ fs = es := by
  unfold lim at h
  split at h
  · rename_i z
    cases h
    exact ⟨z, rfl⟩
  · cases h
theorem xs_tup {ta : TA} {φs : Rho → Option (List PyData)} (h : EvAS K ta φs) : EvS K (tTup ta) (eTup φs) := fun S H0 G T ow ρ σ H e sm he Q q => by
  obtain ⟨es, h1, rfl⟩ := Option.map_eq_some_iff.mp he
  obtain ⟨xs, h2, h3⟩ := Option.bind_eq_some_iff.mp h1
  obtain ⟨hl, rfl⟩ := lim_some h3
  exact h S H0 G T ow ρ σ H es sm h2 _ fun vs H2 s2 hvs => ⟨Evl.sz_of (by rw [DaAll.len hvs]; exact hl), fun p hp => q (.ref p) _ (s2.trans (same_upd hp)) (.tup (SqT.of (hs_at ((sm.tr.same s2).out hp) upd_same)) (hvs.mono (hs_mono (same_upd hp))))⟩
theorem xf_lst {ta : TA} {φs : Rho → Option (List PyData)} (h : EvAS K ta φs) : EvF K (tLst ta) (lLst φs) := fun S H0 G T ow ρ σ H es sm he Q q => by
  obtain ⟨xs, h2, h3⟩ := Option.bind_eq_some_iff.mp he
  obtain ⟨hl, rfl⟩ := lim_some h3
  exact h S H0 G T ow ρ σ H es sm h2 _ fun vs H2 s2 hvs => ⟨Evl.sz_of (by rw [DaAll.len hvs]; exact hl), fun p hp => q p vs _ (s2.trans (same_upd hp)) (s2.free hp) upd_same (hvs.mono (hs_cons_new hp))⟩
/-! operations -/
theorem xs_op {r : R2} {f : PyData → PyData → Option PyData} {ta tb : TE} {φ ψ : Rho → Option PyData} (hr : OpS K r f) (ha : EvTr K ta φ) (hb : EvTr K tb ψ) : EvS K (tOp r ta tb) (eOp f φ ψ) := fun S H0 G T ow ρ σ H e sm he Q q => by
  obtain ⟨x, h1, h2⟩ := Option.bind_eq_some_iff.mp he
  obtain ⟨y, h3, h4⟩ := Option.bind_eq_some_iff.mp h2
  exact ha S H0 G T ow ρ σ H x sm h1 _ fun v H1 s1 hv => hb S H0 G T ow ρ σ H1 y (sm.mono s1) h3 _ fun u H2 s2 hu => hr T H2 v u x y e (sm.tr.same (s1.trans s2)) (hv.mono s2) hu h4 _ fun z H3 s3 hz => q z H3 ((s1.trans s2).trans s3) hz
theorem xs_un {r : V → Hp → VK → Prop} {f : PyData → Option PyData} {ta : TE} {φ : Rho → Option PyData} (hr : UnS K r f) (ha : EvTr K ta φ) : EvS K (tUn r ta) (eUn f φ) := fun S H0 G T ow ρ σ H e sm he Q q => by
  obtain ⟨x, h1, h2⟩ := Option.bind_eq_some_iff.mp he
  exact ha S H0 G T ow ρ σ H x sm h1 _ fun v H1 s1 hv => hr T H1 v x e (sm.tr.same s1) hv h2 _ fun z H3 s3 hz => q z H3 (s1.trans s3) hz
theorem xs_cb {r : List V → Hp → VK → Prop} {f : List PyData → Option PyData} {ta : TA} {φs : Rho → Option (List PyData)} (hr : CbS K r f) (ha : EvAT K ta φs) : EvS K (tCB r ta) (eCb f φs) := fun S H0 G T ow ρ σ H e sm he Q q => by
  obtain ⟨xs, h1, h2⟩ := Option.bind_eq_some_iff.mp he
  exact ha S H0 G T ow ρ σ H xs sm h1 _ fun vs H1 s1 hv => hr T H1 vs xs e (sm.tr.same s1) hv h2 _ fun z H3 s3 hz => q z H3 (s1.trans s3) hz
theorem xf_cb {r : List V → Hp → VK → Prop} {f : List PyData → Option (List PyData)} {ta : TA} {φs : Rho → Option (List PyData)} (hr : CbF K r f) (ha : EvAT K ta φs) : EvF K (tCB r ta) (lCb f φs) := fun S H0 G T ow ρ σ H e sm he Q q => by
  obtain ⟨xs, h1, h2⟩ := Option.bind_eq_some_iff.mp he
  exact ha S H0 G T ow ρ σ H xs sm h1 _ fun vs H1 s1 hv => hr T H1 vs xs e (sm.tr.same s1) hv h2 _ fun p ws H3 s3 hp hp' hz => q p ws H3 (s1.trans s3) (s1.free hp) hp' hz
/-- list + list -/
theorem xf_cat {ta tb : TE} {φ ψ : Rho → Option (List PyData)} (ha : EvLi K ta φ) (hb : EvLi K tb ψ) : EvF K (tOp rCat ta tb) (lCat φ ψ) := fun S H0 G T ow ρ σ H e sm he Q q => by
  obtain ⟨x, h1, h2⟩ := Option.bind_eq_some_iff.mp he
  obtain ⟨y, h3, h4⟩ := Option.bind_eq_some_iff.mp h2
  obtain ⟨hl, rfl⟩ := lim_some h4
  refine ha S H0 G T ow ρ σ H x sm h1 _ fun a vs H1 s1 ha1 hv => hb S H0 G T ow ρ σ H1 y (sm.mono s1) h3 _ fun b us H2 s2 hb2 hu => ⟨a, b, vs, us, rfl, rfl, s2 _ _ ha1, hb2, ?_, fun p hp => ?_⟩
  · refine Evl.sz_of ?_
    rw [DaAll.len hv, DaAll.len hu, ← List.length_append]
    exact hl
  · exact q p _ _ ((s1.trans s2).trans (same_upd hp)) ((s1.trans s2).free hp) upd_same (((hv.mono (hs_mono s2)).append hu).mono (hs_cons_new hp))
/-! calls of defs -/
def RF (g : List PyData → Option PyData) : List PyData → PyData → Prop := fun ds e => g ds = some e
theorem xs_call {g : List PyData → Option PyData} {ta : TA} {φs : Rho → Option (List PyData)} {E : XK} (ha : EvAS K ta φs) : EvS K (tCall (spD K (RF g)) [] E ta) (eCb g φs) := fun S H0 G T ow ρ σ H e sm he Q q => by
  obtain ⟨xs, h1, h2⟩ := Option.bind_eq_some_iff.mp he
  refine ha S H0 G T ow ρ σ H xs sm h1 _ fun vs H1 s1 hv => ?_
  show spD K (RF g) (vs ++ []) H1 Q E
  rw [List.append_nil]
  exact ⟨T, xs, e, sm.tr.same s1, hv, h2, fun v H2 s2 hd => q v H2 (s1.trans s2) hd⟩
/-! truth values -/
theorem asB_some {d : PyData} {b : Bool} (h : asB d = some b) : d = .bool b := by
  cases d <;> simp [asB] at h
  rw [h]
theorem xs_and {ta tb : TE} {φ ψ : Rho → Option PyData} (ha : EvTr K ta φ) (hb : EvS K tb ψ) : EvS K (tAndV ta tb) (eAnd φ ψ) := fun S H0 G T ow ρ σ H e sm he Q q => by
  obtain ⟨c, h1, h2⟩ := Option.bind_eq_some_iff.mp he
  obtain ⟨x, h3, h4⟩ := Option.bind_eq_some_iff.mp h1
  obtain rfl := asB_some h4
  refine ha S H0 G T ow ρ σ H _ sm h3 _ fun v H1 s1 hv => ⟨c, hv.bl, ?_⟩
  cases c with
  | true => exact hb S H0 G T ow ρ σ H1 e (sm.mono s1) (by simpa using h2) _ fun u H2 s2 hu => q u H2 (s1.trans s2) hu
  | false =>
    have : e = .bool false := by simpa using h2.symm
    subst this
    exact q _ H1 s1 (.bl false)
theorem xs_not {ta : TE} {φ : Rho → Option PyData} (ha : EvTr K ta φ) : EvS K (tNotV ta) (eNot φ) := fun S H0 G T ow ρ σ H e sm he Q q => by
  obtain ⟨c, h1, rfl⟩ := Option.map_eq_some_iff.mp he
  obtain ⟨x, h3, h4⟩ := Option.bind_eq_some_iff.mp h1
  obtain rfl := asB_some h4
  exact ha S H0 G T ow ρ σ H _ sm h3 _ fun v H1 s1 hv => ⟨c, hv.bl, q _ H1 s1 (.bl _)⟩
theorem tt_test {ta : TE} {φ : Rho → Option PyData} (ha : EvTr K ta φ) : TeP K (tTest ta) (bTest φ) := fun S H0 G T ow ρ σ H b sm he Q q => by
  obtain ⟨x, h3, h4⟩ := Option.bind_eq_some_iff.mp he
  obtain rfl := asB_some h4
  exact ha S H0 G T ow ρ σ H _ sm h3 _ fun v H1 s1 hv => ⟨b, hv.bl, q H1 s1⟩
theorem tt_B {ta : TE} {φ : Rho → Option PyData} (ha : EvTr K ta φ) : TeP K (tB ta) (bTest φ) := fun S H0 G T ow ρ σ H b sm he Q q => by
  obtain ⟨x, h3, h4⟩ := Option.bind_eq_some_iff.mp he
  obtain rfl := asB_some h4
  exact ha S H0 G T ow ρ σ H _ sm h3 _ fun v H1 s1 hv => ⟨b, hv.bl, q H1 s1⟩
theorem tt_yes : TeP K tYes bYes := fun S H0 G T ow ρ σ H b sm he Q q => by
  cases he
  exact q H (Same.refl _)
theorem tt_and {t u : TT} {β γ : Rho → Option Bool} (ha : TeP K t β) (hb : TeP K u γ) : TeP K (tAnd t u) (bAnd β γ) := fun S H0 G T ow ρ σ H b sm he Q q => by
  obtain ⟨c, h1, h2⟩ := Option.bind_eq_some_iff.mp he
  refine ha S H0 G T ow ρ σ H c sm h1 _ fun H1 s1 => ?_
  cases c with
  | true =>
    show u σ H1 Q
    exact hb S H0 G T ow ρ σ H1 b (sm.mono s1) (by simpa using h2) _ fun H2 s2 => q H2 (s1.trans s2)
  | false =>
    have : b = false := by simpa using h2.symm
    subst this
    exact q H1 s1
theorem tt_or {t u : TT} {β γ : Rho → Option Bool} (ha : TeP K t β) (hb : TeP K u γ) : TeP K (tOr t u) (bOr β γ) := fun S H0 G T ow ρ σ H b sm he Q q => by
  obtain ⟨c, h1, h2⟩ := Option.bind_eq_some_iff.mp he
  refine ha S H0 G T ow ρ σ H c sm h1 _ fun H1 s1 => ?_
  cases c with
  | false =>
    show u σ H1 Q
    exact hb S H0 G T ow ρ σ H1 b (sm.mono s1) (by simpa using h2) _ fun H2 s2 => q H2 (s1.trans s2)
  | true =>
    have : b = true := by simpa using h2.symm
    subst this
    exact q H1 s1
theorem tt_not {t : TT} {β : Rho → Option Bool} (ha : TeP K t β) : TeP K (tNot t) (bNot β) := fun S H0 G T ow ρ σ H b sm he Q q => by
  obtain ⟨c, h1, rfl⟩ := Option.map_eq_some_iff.mp he
  exact ha S H0 G T ow ρ σ H c sm h1 _ fun H1 s1 => q H1 s1
theorem xs_ifE {t : TT} {ta tb : TE} {β : Rho → Option Bool} {φ ψ : Rho → Option PyData} (ht : TeP K t β) (ha : EvS K ta φ) (hb : EvS K tb ψ) : EvS K (tIf t ta tb) (eIf β φ ψ) := fun S H0 G T ow ρ σ H e sm he Q q => by
  obtain ⟨c, h1, h2⟩ := Option.bind_eq_some_iff.mp he
  refine ht S H0 G T ow ρ σ H c sm h1 _ fun H1 s1 => ?_
  cases c with
  | true => exact ha S H0 G T ow ρ σ H1 e (sm.mono s1) (by simpa using h2) _ fun u H2 s2 hu => q u H2 (s1.trans s2) hu
  | false => exact hb S H0 G T ow ρ σ H1 e (sm.mono s1) (by simpa using h2) _ fun u H2 s2 hu => q u H2 (s1.trans s2) hu
/-- a < b < c -/
theorem xs_chain {r r' : R2} {f g : PyData → PyData → Option PyData} {ta tb tc : TE} {φ ψ χ : Rho → Option PyData} (hr : OpS K r f) (hr' : OpS K r' g) (ha : EvTr K ta φ) (hb : EvTr K tb ψ) (hc : EvTr K tc χ) :
    EvS K (tChain r r' ta tb tc) (eChain f g φ ψ χ) := fun S H0 G T ow ρ σ H e sm he Q q => by
  obtain ⟨x, h1, h2⟩ := Option.bind_eq_some_iff.mp he
  obtain ⟨y, h3, h4⟩ := Option.bind_eq_some_iff.mp h2
  obtain ⟨c, h5, h6⟩ := Option.bind_eq_some_iff.mp h4
  obtain ⟨w, h7, h8⟩ := Option.bind_eq_some_iff.mp h5
  obtain rfl := asB_some h8
  refine ha S H0 G T ow ρ σ H x sm h1 _ fun v H1 s1 hv => hb S H0 G T ow ρ σ H1 y (sm.mono s1) h3 _ fun u H2 s2 hu => hr T H2 v u x y _ (sm.tr.same (s1.trans s2)) (hv.mono s2) hu h7 _ fun z H3 s3 hz => ⟨c, ?_, ?_⟩
  · cases hz
    rfl
  · cases c with
    | true =>
      obtain ⟨d, h9, h10⟩ := Option.bind_eq_some_iff.mp (show (χ ρ).bind _ = some e by simpa using h6)
      exact hc S H0 G T ow ρ σ H3 d (sm.mono ((s1.trans s2).trans s3)) h9 _ fun k H4 s4 hk => hr' T H4 u k y d e (sm.tr.same (((s1.trans s2).trans s3).trans s4)) (hu.mono (s3.trans s4)) hk h10 _ fun z' H5 s5 hz' => q z' H5 ((((s1.trans s2).trans s3).trans s4).trans s5) hz'
    | false =>
      have : e = .bool false := by simpa using h6.symm
      subst this
      exact q _ H3 ((s1.trans s2).trans s3) (.bl false)
/-! slices -/
theorem xo_none : EvOI K tNoPart oNone := fun S H0 G T ow ρ σ H o sm he Q q => by
  cases he
  exact q H (Same.refl _)
theorem asI_some {d : PyData} {i : Int} (h : asI d = some i) : d = .int i := by
  cases d <;> simp [asI] at h
  rw [h]
theorem xo_some {te : TE} {φ : Rho → Option PyData} (h : EvTr K te φ) : EvOI K (tPart te) (oSome φ) := fun S H0 G T ow ρ σ H o sm he Q q => by
  obtain ⟨i, h1, rfl⟩ := Option.map_eq_some_iff.mp he
  obtain ⟨x, h3, h4⟩ := Option.bind_eq_some_iff.mp h1
  obtain rfl := asI_some h4
  exact h S H0 G T ow ρ σ H _ sm h3 _ fun v H1 s1 hv => ⟨i, hv.int, q H1 s1⟩
end
end Pb

set_option Elab.async false
set_option linter.all false
set_option maxRecDepth 100000
namespace Pb
open PySem PySem.Spec PyProof.Rows L2
/-! ### targets -/
section
variable (K : PySem.W.Frag)
def TgP (g : TG) (js : List Nat) (τ : PyData → Rho → Option Rho) : Prop := ∀ S H0 G T ow ρ σ H x e ρ', SimO K S H0 G T ow ρ σ H → Da K (hs T H) x e → τ e ρ = some ρ' → ∀ Q : L2.St → Hp → Prop,
  (∀ σ', SimO K S H0 G T ow ρ' σ' H → (∀ vs : List Nat, (∀ j ∈ js, j ∈ vs) → L2.wipe σ' vs = L2.wipe σ vs) → Q σ' H) → g x σ H Q
def TgsP (g : TGs) (js : List Nat) (τ : List PyData → Rho → Option Rho) : Prop := ∀ S H0 G T ow ρ σ H xs es ρ', SimO K S H0 G T ow ρ σ H → DaAll K (hs T H) xs es → τ es ρ = some ρ' → ∀ Q : L2.St → Hp → Prop,
  (∀ σ', SimO K S H0 G T ow ρ' σ' H → (∀ vs : List Nat, (∀ j ∈ js, j ∈ vs) → L2.wipe σ' vs = L2.wipe σ vs) → Q σ' H) → g xs σ H Q
end
def gN (i : Nat) : PyData → Rho → Option Rho := fun e ρ => some (ρ.set i (.val e))
def gT (τ : List PyData → Rho → Option Rho) : PyData → Rho → Option Rho
  | .tuple es, ρ => τ es ρ
  | _, _ => none
def g0 : List PyData → Rho → Option Rho
  | [], ρ => some ρ
  | _, _ => none
def gC (τ : PyData → Rho → Option Rho) (τs : List PyData → Rho → Option Rho) : List PyData → Rho → Option Rho
  | e :: es, ρ => (τ e ρ).bind (τs es)
  | [], _ => none
theorem wipe_set {i : Nat} {o : Option V} : ∀ (σ : L2.St) (vs : List Nat), i ∈ vs → L2.wipe (σ.set i o) vs = L2.wipe σ vs
  | _, [], h => absurd h List.not_mem_nil
  | σ, v :: vs, h => by
    unfold L2.wipe
    by_cases hv : i ∈ vs
    · rw [wipe_set σ vs hv]
    · have e : v = i := by
        rcases List.mem_cons.mp h with z | z
        · exact z.symm
        · exact absurd z hv
      subst e
      have : ∀ (us : List Nat), v ∉ us → L2.wipe (σ.set v o) us = (L2.wipe σ us).set v o := by
        intro us
        induction us with
        | nil => intro _; rfl
        | cons u us ih =>
          intro hu
          unfold L2.wipe
          rw [ih (fun z => hu (List.mem_cons_of_mem _ z)), List.set_comm]
          exact fun z => hu (by rw [z]; exact List.mem_cons_self)
      rw [this vs hv, List.set_set]
theorem wipe_wipe (σ : L2.St) : ∀ (vs us : List Nat), (∀ j ∈ vs, j ∈ us) → L2.wipe (L2.wipe σ vs) us = L2.wipe σ us
  | [], us, _ => rfl
  | v :: vs, us, h => by
    show L2.wipe ((L2.wipe σ vs).set v none) us = _
    rw [wipe_set _ us (h v List.mem_cons_self), wipe_wipe σ vs us fun j hj => h j (List.mem_cons_of_mem _ hj)]
section
variable {K : PySem.W.Frag}
theorem tg_name (i : Nat) : TgP K (gName i) [i] (gN i) := fun S H0 G T ow ρ σ H x e ρ' sm hd he Q q => by
  cases he
  exact q _ (sm.setV hd) fun vs h => wipe_set _ _ (h i List.mem_cons_self)
theorem tgs_nil : TgsP K gNil [] g0 := fun S H0 G T ow ρ σ H xs es ρ' sm hd he Q q => by
  cases es with
  | nil =>
    cases he
    cases hd
    exact ⟨rfl, q σ sm fun _ _ => rfl⟩
  | cons _ _ => cases he
theorem tgs_cons {g : TG} {gs : TGs} {js ks : List Nat} {τ : PyData → Rho → Option Rho} {τs : List PyData → Rho → Option Rho} (h : TgP K g js τ) (hs' : TgsP K gs ks τs) : TgsP K (gCons g gs) (js ++ ks) (gC τ τs) := fun S H0 G T ow ρ σ H xs es ρ' sm hd he Q q => by
  cases es with
  | nil => cases he
  | cons e es =>
    obtain ⟨ρ1, h1, h2⟩ := Option.bind_eq_some_iff.mp he
    cases hd with
    | cons d1 d2 => exact ⟨_, _, rfl, h S H0 G T ow ρ σ H _ e ρ1 sm d1 h1 _ fun σ1 sm1 w1 => hs' S H0 G T ow ρ1 σ1 H _ es ρ' sm1 d2 h2 _ fun σ2 sm2 w2 => q σ2 sm2 fun vs hv => (w2 vs fun j hj => hv j (List.mem_append_right _ hj)).trans (w1 vs fun j hj => hv j (List.mem_append_left _ hj))⟩
theorem tg_tup {gs : TGs} {js : List Nat} {n : Nat} {τs : List PyData → Rho → Option Rho} (h : TgsP K gs js τs) (hn : ∀ es ρ ρ', τs es ρ = some ρ' → es.length = n) : TgP K (gTup K n gs) js (gT τs) := fun S H0 G T ow ρ σ H x e ρ' sm hd he Q q => by
  cases e with
  | tuple es =>
    cases hd with
    | @tup a xs _ h1 h2 => exact ⟨a, xs, rfl, Same.tq hs_sub h1, by rw [DaAll.len h2]; exact hn _ _ _ he, h S H0 G T ow ρ σ H xs es ρ' sm h2 he Q q⟩
  | _ => cases he
theorem g0_len : ∀ es ρ ρ', g0 es ρ = some ρ' → es.length = 0
  | [], _, _, _ => rfl
  | _ :: _, _, _, h => by cases h
theorem gC_len {τ : PyData → Rho → Option Rho} {τs : List PyData → Rho → Option Rho} {n : Nat} (h : ∀ es ρ ρ', τs es ρ = some ρ' → es.length = n) : ∀ es ρ ρ', gC τ τs es ρ = some ρ' → es.length = n + 1
  | [], _, _, z => by cases z
  | e :: es, ρ, ρ', z => by
    obtain ⟨ρ1, h1, h2⟩ := Option.bind_eq_some_iff.mp z
    rw [List.length_cons, h es ρ1 ρ' h2]
end
/-! ### what is walked -/
structure ItOk (K : PySem.W.Frag) (T : List Addr) (H1 : Hp) (J : It) (es : List PyData) : Prop where
  ex : ∃ (F Gw : Hp → Prop) (Yw : Nat → Hp → V → Hp → Prop), (∀ H H', Same H H' → F H → F H') ∧ F (hs T H1) ∧ Walk J es.length Gw Yw ∧ (∀ T' H2, F (hs T' H2) → Gw H2) ∧
    (∀ T' H2 i x H', F (hs T' H2) → Tr T' H2 → i < es.length → Yw i H2 x H' → Same H2 H' ∧ ∃ e, es[i]? = some e ∧ Da K (hs T' H') x e)
section
variable (K : PySem.W.Frag)
def ItP (wi : TI) (φ : Rho → Option (List PyData)) : Prop := ∀ S H0 G T ow ρ σ H es, SimO K S H0 G T ow ρ σ H → φ ρ = some es → ∀ R : It → Hp → Prop, (∀ J H1, Same H H1 → ItOk K T H1 J es → R J H1) → wi σ H R
end
def asL : PyData → Option (List PyData)
  | .list es => some es
  | _ => none
def asT : PyData → Option (List PyData)
  | .tuple es => some es
  | _ => none
def enumD (es : List PyData) : List PyData := es.zipIdx.map fun p => .tuple [.int (p.2 : Int), p.1]
def zipD (es fs : List PyData) : List PyData := (es.zip fs).map fun p => .tuple [p.1, p.2]
def rngD (lo hi : Int) : List PyData := (List.range (hi - lo).toNat).map fun (i : Nat) => .int (lo + (i : Int))
def small (i : Int) : Bool := decide (-(2 ^ 62) ≤ i ∧ i < 2 ^ 62)
def iL (φ : Rho → Option PyData) : Rho → Option (List PyData) := fun ρ => (φ ρ).bind asL
def iT (φ : Rho → Option PyData) : Rho → Option (List PyData) := fun ρ => (φ ρ).bind asT
def iR (φ : Rho → Option PyData) : Rho → Option (List PyData) := fun ρ => ((φ ρ).bind asI).bind fun j => if small j then some (rngD 0 j) else none
def iR2 (φ ψ : Rho → Option PyData) : Rho → Option (List PyData) := fun ρ => ((φ ρ).bind asI).bind fun i => ((ψ ρ).bind asI).bind fun j => if small i && small j then some (rngD i j) else none
def iET (φ : Rho → Option PyData) : Rho → Option (List PyData) := fun ρ => ((φ ρ).bind asT).map enumD
section
variable {K : PySem.W.Frag}
theorem asL_some {d : PyData} {es : List PyData} (h : asL d = some es) : d = .list es := by
  cases d <;> simp [asL] at h
  rw [h]
theorem asT_some {d : PyData} {es : List PyData} (h : asT d = some es) : d = .tuple es := by
  cases d <;> simp [asT] at h
  rw [h]
theorem rngD_len {lo hi : Int} : (rngD lo hi).length = (hi - lo).toNat := by simp [rngD]
theorem it_range {T : List Addr} {H1 : Hp} {lo hi : Int} : ItOk K T H1 (Itr lo (hi - lo).toNat) (rngD lo hi) := ⟨fun _ => True, fun _ => True, _, fun _ _ _ _ => trivial, trivial, by rw [rngD_len]; exact walk_range, fun _ _ _ => trivial, fun T' H2 i x H' _ _ hi y => by
  obtain ⟨rfl, rfl⟩ := y
  refine ⟨Same.refl _, .int (lo + i), ?_, .int _⟩
  rw [rngD_len] at hi
  simp [rngD, hi]⟩
theorem it_tup {T : List Addr} {H1 : Hp} {a : Addr} {xs : List V} {es : List PyData} (h : SqT K (hs T H1) a xs) (hd : DaAll K (hs T H1) xs es) : ItOk K T H1 (Itt K a) es :=
  ⟨fun H => SqT K H a xs ∧ DaAll K H xs es, _, _, fun H H' s h => ⟨Same.tq s h.1, h.2.mono s⟩, ⟨h, hd⟩, by rw [← DaAll.len hd]; exact walk_tup, fun T' H2 h => Same.tq hs_sub h.1, fun T' H2 i x H' h _ hi y => by
    obtain ⟨rfl, e⟩ := y
    obtain ⟨d, h1, h2⟩ := DaAll.get h.2 e
    exact ⟨Same.refl _, d, h1, h2⟩⟩
theorem it_lst {T : List Addr} {H1 : Hp} {a : Addr} {xs : List V} {es : List PyData} (h : SqL K (hs T H1) a xs) (hd : DaAll K (hs T H1) xs es) : ItOk K T H1 (Itl K a) es :=
  ⟨fun H => SqL K H a xs ∧ DaAll K H xs es, _, _, fun H H' s h => ⟨Same.seq s h.1, h.2.mono s⟩, ⟨h, hd⟩, by rw [← DaAll.len hd]; exact walk_list, fun T' H2 h => Same.seq hs_sub h.1, fun T' H2 i x H' h _ hi y => by
    obtain ⟨rfl, e⟩ := y
    obtain ⟨d, h1, h2⟩ := DaAll.get h.2 e
    exact ⟨Same.refl _, d, h1, h2⟩⟩
theorem enumD_len {es : List PyData} : (enumD es).length = es.length := by simp [enumD]
theorem da_pair {T : List Addr} {H2 : Hp} {t : Addr} {x y : V} {d e : PyData} (tr : Tr T H2) (ht : H2 t = none) (h1 : Da K (hs T H2) x d) (h2 : Da K (hs T H2) y e) : Da K (hs T (upd H2 t (.tup [x, y]))) (.ref t) (.tuple [d, e]) :=
  .tup (SqT.of (hs_at (tr.out ht) upd_same)) (.cons (h1.mono (hs_mono (same_upd ht))) (.cons (h2.mono (hs_mono (same_upd ht))) .nil))
theorem wi_tup {te : TE} {φ : Rho → Option PyData} (h : EvS K te φ) : ItP K (iTup K te) (iT φ) := fun S H0 G T ow ρ σ H es sm he R q => by
  obtain ⟨x, h1, h2⟩ := Option.bind_eq_some_iff.mp he
  obtain rfl := asT_some h2
  refine h S H0 G T ow ρ σ H _ sm h1 _ fun v H1 s1 hv => ?_
  cases hv with
  | @tup a xs _ k1 k2 => exact ⟨a, rfl, ⟨xs, Same.tq hs_sub k1⟩, q _ H1 s1 (it_tup k1 k2)⟩
theorem wi_lst {te : TE} {φ : Rho → Option PyData} (h : EvS K te φ) : ItP K (iList K te) (iL φ) := fun S H0 G T ow ρ σ H es sm he R q => by
  obtain ⟨x, h1, h2⟩ := Option.bind_eq_some_iff.mp he
  obtain rfl := asL_some h2
  refine h S H0 G T ow ρ σ H _ sm h1 _ fun v H1 s1 hv => ?_
  cases hv with
  | @lst a xs _ k1 k2 => exact ⟨a, rfl, ⟨xs, Same.seq hs_sub k1⟩, q _ H1 s1 (it_lst k1 k2)⟩
theorem small_iff {i : Int} (h : small i = true) : -(2 ^ 62) ≤ i ∧ i < 2 ^ 62 := of_decide_eq_true h
theorem wi_rng {te : TE} {φ : Rho → Option PyData} (h : EvTr K te φ) : ItP K (iRng1 (tCons te tNil)) (iR φ) := fun S H0 G T ow ρ σ H es sm he R q => by
  obtain ⟨j, h1, h2⟩ := Option.bind_eq_some_iff.mp he
  obtain ⟨x, h3, h4⟩ := Option.bind_eq_some_iff.mp h1
  obtain rfl := asI_some h4
  split at h2
  · rename_i hz
    cases h2
    obtain ⟨z1, z2⟩ := small_iff hz
    refine h S H0 G T ow ρ σ H _ sm h3 _ fun v H1 s1 hv => ⟨j, by rw [hv.int], z1, z2, ?_⟩
    have e : (j - 0).toNat = j.toNat := by rw [Int.sub_zero]
    exact q _ H1 s1 (e ▸ it_range)
  · cases h2
theorem wi_rng2 {ta tb : TE} {φ ψ : Rho → Option PyData} (ha : EvTr K ta φ) (hb : EvTr K tb ψ) : ItP K (iRng2 (tCons ta (tCons tb tNil))) (iR2 φ ψ) := fun S H0 G T ow ρ σ H es sm he R q => by
  obtain ⟨i, h1, h2⟩ := Option.bind_eq_some_iff.mp he
  obtain ⟨x, h3, h4⟩ := Option.bind_eq_some_iff.mp h1
  obtain rfl := asI_some h4
  obtain ⟨j, h5, h6⟩ := Option.bind_eq_some_iff.mp h2
  obtain ⟨y, h7, h8⟩ := Option.bind_eq_some_iff.mp h5
  obtain rfl := asI_some h8
  split at h6
  · rename_i hz
    cases h6
    rw [Bool.and_eq_true] at hz
    obtain ⟨z1, z2⟩ := small_iff hz.1
    obtain ⟨z3, z4⟩ := small_iff hz.2
    refine ha S H0 G T ow ρ σ H _ sm h3 _ fun v H1 s1 hv => hb S H0 G T ow ρ σ H1 _ (sm.mono s1) h7 _ fun u H2 s2 hu => ⟨i, j, by rw [hv.int, hu.int], ⟨z1, z2, z3, z4⟩, q _ H2 (s1.trans s2) it_range⟩
  · cases h6
end
/-! ### comprehensions -/
def lcR (τ : PyData → Rho → Option Rho) (β : Rho → Option Bool) (φ : Rho → Option PyData) (ρ : Rho) : List PyData → Option (List PyData)
  | [] => some []
  | e :: es => (τ e ρ).bind fun ρ' => (β ρ').bind fun c => if c then (φ ρ').bind fun y => (lcR τ β φ ρ es).map (y :: ·) else lcR τ β φ ρ es
def lLc (vs : List Nat) (it : Rho → Option (List PyData)) (τ : PyData → Rho → Option Rho) (β : Rho → Option Bool) (φ : Rho → Option PyData) : Rho → Option (List PyData) := fun ρ => ((it ρ).bind lim).bind fun es => lcR τ β φ (wipeR ρ vs) es
section
variable {K : PySem.W.Frag}
theorem xf_lc {wi : TI} {g : TG} {tt : TT} {te : TE} {vs js : List Nat} {it : Rho → Option (List PyData)} {τ : PyData → Rho → Option Rho} {β : Rho → Option Bool} {φ : Rho → Option PyData} (hi : ItP K wi it) (hg : TgP K g js τ) (ht : TeP K tt β) (he : EvS K te φ) (hj : ∀ j ∈ js, j ∈ vs := by decide) :
    EvF K (tLc wi g tt te vs) (lLc vs it τ β φ) := fun S H0 G T ow ρ σ H ys sm hy Q q => by
  obtain ⟨es', h0, h1⟩ := Option.bind_eq_some_iff.mp hy
  obtain ⟨es, h2, h3⟩ := Option.bind_eq_some_iff.mp h0
  obtain ⟨hl, rfl⟩ := lim_some h3
  refine hi S H0 G T ow ρ σ H _ sm h2 _ fun J H1 s1 ⟨F, Gw, Yw, mo, f0, wk, hG, hY⟩ D hD => ?_
  have smW := (sm.mono s1).wipe vs
  refine lc_it wk (fun i H' => ∃ (acc : List V) (ys1 ys2 : List PyData), H' D = some (.lst acc) ∧ DaAll K (hs (D :: T) H') acc ys1 ∧ ys = ys1 ++ ys2 ∧ ys1.length ≤ i ∧ lcR τ β φ (wipeR ρ vs) (es'.drop i) = some ys2 ∧
      SimO K S H0 (fun X => G X ∧ F X) (D :: T) ow (wipeR ρ vs) (L2.wipe σ vs) H' ∧ (∀ a o, a ≠ D → H1 a = some o → H' a = some o)) ?_ ?_ ?_ ?_
  · refine ⟨[], [], ys, upd_same, .nil, rfl, Nat.le_refl _, by simpa using h1, ?_, fun a o hne e => by rw [upd_ne hne]; exact e⟩
    have hh := smW.hide (D := D) (vs := []) hD
    exact hh.weak (fun H H' s h => ⟨sm.mo _ _ s h.1, mo _ _ s h.2⟩) ⟨hh.fr, mo _ _ (hs_cons_new hD) f0⟩
  · rintro i H' _ ⟨acc, ys1, ys2, _, _, _, _, _, sm', _⟩
    exact hG _ _ sm'.fr.2
  · rintro i x H2 H3 hlt ⟨acc, ys1, ys2, e1, e2, rfl, e3, e4, sm', old⟩ y
    obtain ⟨s3, e, he3, hx⟩ := hY _ H2 i x H3 sm'.fr.2 sm'.tr hlt y
    have dr : es'.drop i = e :: es'.drop (i + 1) := by
      rw [List.drop_eq_getElem_cons hlt]
      congr 1
      rw [List.getElem?_eq_getElem hlt] at he3
      exact Option.some.inj he3
    rw [dr] at e4
    obtain ⟨ρ', k1, k2⟩ := Option.bind_eq_some_iff.mp e4
    obtain ⟨c, k3, k4⟩ := Option.bind_eq_some_iff.mp k2
    have sm3 := sm'.mono s3
    refine hg S H0 _ _ ow _ _ H3 x e ρ' sm3 hx k1 _ fun σ2 sm4 wp => ⟨?_, ?_⟩
    · rw [wp vs hj, wipe_wipe σ vs vs fun _ h => h]
    · refine ht S H0 _ _ ow ρ' σ2 H3 c sm4 k3 _ fun H4 s4 => ?_
      have s24 := s3.trans s4
      cases c with
      | true =>
        rw [if_pos rfl]
        obtain ⟨z, k5, k6⟩ := Option.bind_eq_some_iff.mp (show (φ ρ').bind _ = some ys2 by simpa using k4)
        obtain ⟨zs, k7, rfl⟩ := Option.map_eq_some_iff.mp k6
        refine he S H0 _ _ ow ρ' σ2 H4 z (sm4.mono s4) k5 _ fun v H5 s5 hv => ?_
        have s25 := s24.trans s5
        have sm5 := sm'.mono s25
        have la := DaAll.len e2
        refine ⟨acc, s25 _ _ e1, Evl.sz_lt (by omega), acc ++ [v], ys1 ++ [z], zs, upd_same, ?_, by simp, by simp; omega, k7, ?_, fun a o hne ea => ?_⟩
        · rw [hs_put List.mem_cons_self]
          exact (e2.mono (hs_mono s25)).append (.cons hv .nil)
        · have hDo : D ∉ ow := fun z => by
            obtain ⟨o, eo⟩ := sm.tr D (sm.owT D z)
            rw [s1 _ _ eo] at hD
            cases hD
          exact
            { len := sm5.len, inj := sm5.inj, new := sm5.new, sub := sm5.sub, owT := sm5.owT, trS := sm5.trS, mo := sm5.mo,
              old := fun a o ea => by
                have ne : a ≠ D := fun z => by
                  rw [z] at ea
                  rw [s1 _ _ (sm.old _ _ ea)] at hD
                  cases hD
                rw [upd_ne ne]
                exact sm5.old _ _ ea
              tr := fun a ha => by
                by_cases z : a = D
                · rw [z]
                  exact ⟨_, upd_same⟩
                · rw [upd_ne z]
                  exact sm5.tr a ha
              fr := by
                rw [hs_put List.mem_cons_self]
                exact sm5.fr
              lsT := fun a ha => by
                by_cases z : a = D
                · rw [z]
                  exact .inr ⟨_, upd_same⟩
                · exact (sm5.lsT a ha).imp id fun ⟨xs, e⟩ => ⟨xs, by rw [upd_ne z]; exact e⟩
              slot := fun j sl ej => by
                obtain ⟨o, ho, hs'⟩ := sm5.slot j sl ej
                refine ⟨o, ho, hs'.move (by rw [hs_put List.mem_cons_self]; exact Same.refl _) fun fo ws eo m1 m2 => ⟨m1, ?_⟩⟩
                have ne : fo ≠ D := fun z => by
                  rw [z] at m1
                  exact hDo m1
                rw [upd_ne ne]
                exact m2 }
        · rw [upd_ne hne]
          exact s25 _ _ (old a o hne ea)
      | false =>
        rw [if_neg Bool.false_ne_true]
        refine ⟨acc, ys1, ys2, s24 _ _ e1, e2.mono (hs_mono s24), rfl, by omega, by simpa using k4, sm'.mono s24, fun a o hne ea => s24 _ _ (old a o hne ea)⟩
  · rintro H' ⟨acc, ys1, ys2, e1, e2, rfl, _, e4, sm', old⟩
    rw [List.drop_length] at e4
    cases e4
    rw [List.append_nil] at q
    exact q D acc H' (fun a o ea => old a o (fun z => by rw [z, s1.free hD] at ea; cases ea) (s1 _ _ ea)) (s1.free hD) e1 e2
end
end Pb

set_option Elab.async false
set_option linter.all false
set_option maxRecDepth 100000
namespace Pb
open PySem PySem.Spec PyProof.Rows L2
/-! ### statements -/
inductive Res where
  | nx (ρ : Rho)
  | rt (d : PyData)
  | bk (ρ : Rho)
  | ct (ρ : Rho)
  | ex (o : Out)
section
variable (K : PySem.W.Frag) (cl : Str → Addr)
def EndOk (S : List Addr) (H0 : Hp) (G : Hp → Prop) (D : Ends) (E : XK) : Res → Prop
  | .nx ρ => ∀ σ H, Sim K S H0 G ρ σ H → D.nx σ H
  | .rt d => ∀ v H, Same H0 H → Da K (hs S H) v d → D.rt v H
  | .bk ρ => ∀ σ H, Sim K S H0 G ρ σ H → D.bk σ H
  | .ct ρ => ∀ σ H, Sim K S H0 G ρ σ H → D.ct σ H
  | .ex o => OutOk K cl S H0 (fun _ _ => False) E o
def StP (E : XK) (ts : TS) (ψ : Rho → Option Res) : Prop := ∀ S H0 G ρ σ H r, Sim K S H0 G ρ σ H → ψ ρ = some r → ∀ D : Ends, EndOk K cl S H0 G D E r → ts D σ H
end
def thenR (r : Res) (ψ : Rho → Option Res) : Option Res := match r with
  | .nx ρ => ψ ρ
  | r => some r
def sSeq (ψ χ : Rho → Option Res) : Rho → Option Res := fun ρ => (ψ ρ).bind fun r => thenR r χ
def sNil : Rho → Option Res := fun ρ => some (.nx ρ)
def sNever : Rho → Option Res := fun _ => none
def sIf (β : Rho → Option Bool) (ψ χ : Rho → Option Res) : Rho → Option Res := fun ρ => (β ρ).bind fun c => if c then ψ ρ else χ ρ
def sSet (τ : PyData → Rho → Option Rho) (φ : Rho → Option PyData) : Rho → Option Res := fun ρ => (φ ρ).bind fun e => (τ e ρ).map .nx
def sOwn (i : Nat) (φ : Rho → Option (List PyData)) : Rho → Option Res := fun ρ => (φ ρ).map fun es => .nx (ρ.set i (.own es))
def sRet (φ : Rho → Option PyData) : Rho → Option Res := fun ρ => (φ ρ).map .rt
def sBrk : Rho → Option Res := fun ρ => some (.bk ρ)
def sApp (i : Nat) (φ : Rho → Option PyData) : Rho → Option Res := fun ρ => (ro ρ i).bind fun es => if es.length < 100000 then (φ ρ).map fun e => .nx (ρ.set i (.own (es ++ [e]))) else none
def sFrz (i : Nat) (ψ : Rho → Option Res) : Rho → Option Res := fun ρ => (ro ρ i).bind fun es => ψ (ρ.set i (.val (.list es)))
def sPar (i j : Nat) (φs : Rho → Option (List PyData)) : Rho → Option Res := fun ρ => (φs ρ).bind fun es => match es with
  | [a, b] => some (.nx ((ρ.set i (.val a)).set j (.val b)))
  | _ => none
def forR (b : PyData → Rho → Option Res) : List PyData → Rho → Option Res
  | [], ρ => some (.nx ρ)
  | e :: es, ρ => (b e ρ).bind fun r => match r with
    | .nx ρ' => forR b es ρ'
    | .ct ρ' => forR b es ρ'
    | .bk ρ' => some (.nx ρ')
    | r => some r
def sFor (it : Rho → Option (List PyData)) (τ : PyData → Rho → Option Rho) (ψ : Rho → Option Res) : Rho → Option Res := fun ρ => (it ρ).bind fun es => forR (fun e ρ => (τ e ρ).bind ψ) es ρ
def whR (β : Rho → Option Bool) (ψ : Rho → Option Res) : Nat → Rho → Option Res
  | 0, _ => none
  | n + 1, ρ => (β ρ).bind fun c => if c then (ψ ρ).bind fun r => match r with
    | .nx ρ' => whR β ψ n ρ'
    | .ct ρ' => whR β ψ n ρ'
    | .bk ρ' => some (.nx ρ')
    | r => some r
    else some (.nx ρ)
section
variable {K : PySem.W.Frag} {cl : Str → Addr} {E : XK}
theorem ss_nil : StP K cl E tNext sNil := fun S H0 G ρ σ H r sm he D q => by
  cases he
  exact q σ H sm
theorem ss_seq {t u : TS} {ψ χ : Rho → Option Res} (h : StP K cl E t ψ) (k : StP K cl E u χ) : StP K cl E (tSeq t u) (sSeq ψ χ) := fun S H0 G ρ σ H r sm he D q => by
  obtain ⟨r1, h1, h2⟩ := Option.bind_eq_some_iff.mp he
  refine h S H0 G ρ σ H r1 sm h1 _ ?_
  cases r1 with
  | nx ρ' => exact fun σ' H' sm' => k S H0 G ρ' σ' H' r sm' h2 D q
  | rt d =>
    cases h2
    exact q
  | bk ρ' =>
    cases h2
    exact q
  | ct ρ' =>
    cases h2
    exact q
  | ex o =>
    cases h2
    exact q
theorem ss_if {c : TT} {t u : TS} {β : Rho → Option Bool} {ψ χ : Rho → Option Res} (hc : TeP K c β) (h : StP K cl E t ψ) (k : StP K cl E u χ) : StP K cl E (tIfS c t u) (sIf β ψ χ) := fun S H0 G ρ σ H r ⟨T, ow, sm⟩ he D q => by
  obtain ⟨b, h1, h2⟩ := Option.bind_eq_some_iff.mp he
  refine hc S H0 G T ow ρ σ H b sm h1 _ fun H1 s1 => ?_
  cases b with
  | true => exact h S H0 G ρ σ H1 r (sm.mono s1).sim (by simpa using h2) D q
  | false => exact k S H0 G ρ σ H1 r (sm.mono s1).sim (by simpa using h2) D q
theorem ss_set {te : TE} {g : TG} {js : List Nat} {φ : Rho → Option PyData} {τ : PyData → Rho → Option Rho} (h : EvS K te φ) (hg : TgP K g js τ) : StP K cl E (tAsg te g) (sSet τ φ) := fun S H0 G ρ σ H r ⟨T, ow, sm⟩ he D q => by
  obtain ⟨e, h1, h2⟩ := Option.bind_eq_some_iff.mp he
  obtain ⟨ρ', h3, rfl⟩ := Option.map_eq_some_iff.mp h2
  exact h S H0 G T ow ρ σ H e sm h1 _ fun v H1 s1 hv => hg S H0 G T ow ρ σ H1 v e ρ' (sm.mono s1) hv h3 _ fun σ' sm' _ => q σ' H1 sm'.sim
theorem ss_own {te : TE} {i : Nat} {φ : Rho → Option (List PyData)} (h : EvF K te φ) : StP K cl E (tAsg te (gName i)) (sOwn i φ) := fun S H0 G ρ σ H r ⟨T, ow, sm⟩ he D q => by
  obtain ⟨es, h1, rfl⟩ := Option.map_eq_some_iff.mp he
  exact h S H0 G T ow ρ σ H es sm h1 _ fun p vs H1 s1 hp hp' hd => q _ H1 (sm.setO hp s1 hp' hd).sim
theorem ss_ret {te : TE} {φ : Rho → Option PyData} (h : EvS K te φ) : StP K cl E (tRet te) (sRet φ) := fun S H0 G ρ σ H r ⟨T, ow, sm⟩ he D q => by
  obtain ⟨e, h1, rfl⟩ := Option.map_eq_some_iff.mp he
  exact h S H0 G T ow ρ σ H e sm h1 _ fun v H1 s1 hv => q v H1 (sm.old.trans s1) (hv.mono (msk_to_hs sm.sub))
theorem ss_brk : StP K cl E tBreak sBrk := fun S H0 G ρ σ H r sm he D q => by
  cases he
  exact q σ H sm
theorem ss_frz {ts : TS} {i : Nat} {ψ : Rho → Option Res} (h : StP K cl E ts ψ) : StP K cl E ts (sFrz i ψ) := fun S H0 G ρ σ H r ⟨T, ow, sm⟩ he D q => by
  obtain ⟨es, h1, h2⟩ := Option.bind_eq_some_iff.mp he
  exact h S H0 G _ σ H r (sm.freeze (ro_some h1)) h2 D q
/-- x.append(e) -/
theorem ss_app {te : TE} {i : Nat} {φ : Rho → Option PyData} (h : EvS K te φ) : StP K cl E (tDrop (tBM K "list" rAppend (tVar i) (tCons te tNil))) (sApp i φ) := fun S H0 G ρ σ H r ⟨T, ow, sm⟩ he D q => by
  obtain ⟨es, h1, h2⟩ := Option.bind_eq_some_iff.mp he
  split at h2
  · rename_i hl
    obtain ⟨e, h3, rfl⟩ := Option.map_eq_some_iff.mp h2
    obtain ⟨o, ho, fo, vs, rfl, _, k2, k3⟩ := sm.slot i _ (ro_some h1)
    refine ⟨.ref fo, ho, .inl ⟨rfl, _, SqL.of k2⟩, h S H0 G T ow ρ σ H e sm h3 _ fun v H1 s1 hv => ⟨fo, vs, v, rfl, rfl, s1 _ _ k2, Evl.sz_lt (by rw [DaAll.len k3]; exact hl), ?_⟩⟩
    exact q σ _ ((sm.mono s1).chg (ro_some h1) ho ((k3.mono (hs_mono s1)).append (.cons hv .nil))).sim
  · cases h2
/-- for -/
theorem ss_for {wi : TI} {g : TG} {tb : TS} {js : List Nat} {it : Rho → Option (List PyData)} {τ : PyData → Rho → Option Rho} {ψ : Rho → Option Res} (hi : ItP K wi it) (hg : TgP K g js τ) (hb : StP K cl E tb ψ) : StP K cl E (tFor wi g tb) (sFor it τ ψ) := fun S H0 G ρ σ H r ⟨T, ow, sm⟩ he D q => by
  obtain ⟨es, h1, h2⟩ := Option.bind_eq_some_iff.mp he
  refine hi S H0 G T ow ρ σ H es sm h1 _ fun J H1 s1 ⟨F, Gw, Yw, mo, f0, wk, hG, hY⟩ => ?_
  have wkn : ∀ {ρ' : Rho} {σ' : L2.St} {H' : Hp}, Sim K S H0 (fun X => G X ∧ F X) ρ' σ' H' → Sim K S H0 G ρ' σ' H' := fun ⟨T', ow', sm'⟩ => ⟨T', ow', sm'.weak sm.mo sm'.fr.1⟩
  refine for_it wk (fun i σ' H' => ∃ ρ', Sim K S H0 (fun X => G X ∧ F X) ρ' σ' H' ∧ forR (fun e ρ => (τ e ρ).bind ψ) (es.drop i) ρ' = some r) ?_ ?_ ?_ ?_
  · exact ⟨ρ, ⟨T, ow, (sm.mono s1).weak (fun H H' s h => ⟨sm.mo _ _ s h.1, mo _ _ s h.2⟩) ⟨(sm.mono s1).fr, f0⟩⟩, h2⟩
  · rintro i σ' H' _ ⟨ρ', ⟨T', ow', sm'⟩, _⟩
    exact hG _ _ sm'.fr.2
  · rintro i x σ' H2 H3 hlt ⟨ρ', ⟨T', ow', sm'⟩, e4⟩ y
    obtain ⟨s3, e, he3, hx⟩ := hY _ H2 i x H3 sm'.fr.2 sm'.tr hlt y
    have dr : es.drop i = e :: es.drop (i + 1) := by
      rw [List.drop_eq_getElem_cons hlt]
      congr 1
      rw [List.getElem?_eq_getElem hlt] at he3
      exact Option.some.inj he3
    rw [dr] at e4
    obtain ⟨r1, k1, k2⟩ := Option.bind_eq_some_iff.mp e4
    obtain ⟨ρ2, k3, k4⟩ := Option.bind_eq_some_iff.mp k1
    refine hg S H0 _ _ ow' _ _ H3 x e ρ2 (sm'.mono s3) hx k3 _ fun σ2 sm4 _ => hb S H0 _ ρ2 σ2 H3 r1 sm4.sim k4 _ ?_
    cases r1 with
    | nx ρ3 => exact fun σ5 H5 sm5 => ⟨ρ3, sm5, k2⟩
    | ct ρ3 => exact fun σ5 H5 sm5 => ⟨ρ3, sm5, k2⟩
    | bk ρ3 =>
      cases k2
      exact fun σ5 H5 sm5 => q σ5 H5 (wkn sm5)
    | rt d =>
      cases k2
      exact q
    | ex o =>
      cases k2
      exact q
  · rintro σ' H' ⟨ρ', sm', e4⟩
    rw [List.drop_length] at e4
    cases e4
    exact q σ' H' (wkn sm')
/-- while, with a number of turns that is enough -/
def sWhile (n : Nat) (β : Rho → Option Bool) (ψ : Rho → Option Res) : Rho → Option Res := fun ρ => whR β ψ n ρ
end
/-! ### a def -/
def rho0 (n : Nat) (ds : List PyData) : Rho := ds.map .val ++ List.replicate (n - ds.length) .no
def runF (n np : Nat) (ψ : Rho → Option Res) (ds : List PyData) : Option PyData := if ds.length = np then match ψ (rho0 n ds) with
  | some (.rt e) => some e
  | some (.nx _) => some .none
  | _ => none
  else none
section
variable {K : PySem.W.Frag}
theorem sim_start {S : List Addr} {H : Hp} {N : List Str} {vs : List V} {ds : List PyData} (tr : Tr S H) (h : DaAll K (hs S H) vs ds) : SimO K S H (fun _ => True) S [] (rho0 N.length ds) (start N vs) H := by
  have hl := DaAll.len h
  refine { len := ?_, slot := ?_, inj := ?_, old := Same.refl _, new := fun a ha => absurd ha List.not_mem_nil, sub := fun _ h => h, owT := fun a ha => absurd ha List.not_mem_nil, tr := tr, trS := tr, mo := fun _ _ _ _ => trivial, fr := trivial, lsT := fun a ha => .inl ha }
  · simp [rho0, L2.start, hl]
  · intro i s e
    unfold rho0 at e
    unfold L2.start
    by_cases hi : i < ds.length
    · rw [List.getElem?_append_left (by simpa using hi)] at e
      rw [List.getElem?_append_left (by simpa [hl] using hi)]
      rw [List.getElem?_map] at e ⊢
      obtain ⟨d, hd, rfl⟩ := Option.map_eq_some_iff.mp e
      have hv : vs[i]? = some (vs[i]'(by omega)) := List.getElem?_eq_getElem (by omega)
      obtain ⟨d', h1, h2⟩ := DaAll.get h hv
      rw [hd] at h1
      cases h1
      exact ⟨some _, by rw [hv]; rfl, _, rfl, h2⟩
    · rw [List.getElem?_append_right (by simp; omega)] at e
      rw [List.getElem?_append_right (by simp; omega)]
      rw [List.getElem?_replicate] at e
      split at e
      · rename_i hlt
        cases e
        refine ⟨none, ?_, trivial⟩
        rw [List.getElem?_replicate, if_pos]
        simp [hl] at hlt ⊢
        exact hlt
      · cases e
  · intro i j es es' _ e
    unfold rho0 at e
    by_cases hi : i < ds.length
    · rw [List.getElem?_append_left (by simpa using hi), List.getElem?_map] at e
      obtain ⟨d, hd, z⟩ := Option.map_eq_some_iff.mp e
      cases z
    · rw [List.getElem?_append_right (by simp; omega), List.getElem?_replicate] at e
      split at e
      · cases e
      · cases e
theorem run_start {S : List Addr} {H : Hp} {N : List Str} {vs : List V} {ds : List PyData} {np : Nat} {cl : Str → Addr} {E : XK} {t : TS} {ψ : Rho → Option Res} {e : PyData} {Q : VK} (h : StP K cl E t ψ) (tr : Tr S H) (ha : DaAll K (hs S H) vs ds) (he : runF N.length np ψ ds = some e)
    (q : ∀ v H', Same H H' → Da K (hs S H') v e → Q v H') : t { nx := fun _ H' => Q .non H', rt := Q } (start N vs) H := by
  unfold runF at he
  split at he
  · split at he
    · rename_i hr
      cases he
      exact h S H _ _ _ H _ (sim_start tr ha).sim hr _ q
    · rename_i ρ' hr
      cases he
      exact h S H _ _ _ H _ (sim_start tr ha).sim hr _ (fun σ' H' ⟨T, ow, sm⟩ => q .non H' sm.old .non)
    · cases he
  · cases he
end
section
variable {P : Program} {w : World} {K : PySem.W.Frag} {mg : Str → Option Value} {base : Heap}
theorem fn_pure {x qual : Str} {st : Stmt} {f : Addr} {fd : FuncData} {N ps : List Str} {k : Nat} {ψ : Rho → Option Res} {cl : Str → Addr} (F : Fun K x qual st f fd) (S : FnScope N ps (defScope st))
    (hbody : ∀ (cdv : Value) (A : Around) (outer : List Env) (s : Shared) (H : Hp) (E : XK), Room k (A.deeper (envOfC qual (defScope st) s.heap.objs.size f cdv)) →
      ∃ t, PSs (cxOf CX0 P w K mg base N qual (defScope st) f cdv A outer s H E).nox (defBody st) t ∧ StP K cl E0 t ψ) : FnOk P w K mg base CX0 (k + 1) f fd ps (spD K (RF (runF N.length ps.length ψ))) := by
  refine F.ok S (fun vs H Q E h => ?_) (fun cdv A outer s H vs Q E hr h => ?_)
  · obtain ⟨T, ds, e, _, ha, he, _⟩ := h
    rw [DaAll.len ha]
    unfold RF runF at he
    split at he
    · assumption
    · cases he
  · obtain ⟨T, ds, e, tr, ha, he, q⟩ := h
    obtain ⟨t, h1, h2⟩ := hbody cdv A outer s H E hr
    exact ⟨t, h1, run_start h2 tr ha he q⟩
end
end Pb

set_option Elab.async false
set_option linter.all false
set_option maxRecDepth 100000
namespace Pb
open PySem PySem.Spec PyProof.Rows L2
/-! ### operations on data -/
def fI (g : Int → Int → PyData) : PyData → PyData → Option PyData
  | .int i, .int j => some (g i j)
  | _, _ => none
def fIC (c : Int → Int → Bool) (g : Int → Int → PyData) : PyData → PyData → Option PyData
  | .int i, .int j => if c i j then some (g i j) else none
  | _, _ => none
abbrev fAdd := fI fun i j => .int (i + j)
abbrev fSub := fI fun i j => .int (i - j)
abbrev fLt := fI fun i j => .bool (decide (i < j))
abbrev fLe := fI fun i j => .bool (decide (i ≤ j))
abbrev fGt := fI fun i j => .bool (decide (j < i))
abbrev fGe := fI fun i j => .bool (decide (j ≤ i))
def cPow (i j : Int) : Bool := decide (0 ≤ j ∧ j ≤ 1000000 ∧ i.natAbs < 2 ^ 64)
def cMod (_ j : Int) : Bool := decide (0 < j)
abbrev fPow := fIC cPow fun i j => .int (i ^ j.toNat)
abbrev fMod := fIC cMod fun i j => .int (i % j)
section
variable {K : PySem.W.Frag}
theorem os_I0 {g : Int → Int → V} {h : Int → Int → PyData} (hd : ∀ i j H, Da K H (g i j) (h i j)) : OpS K (rI0 g) (fI h) := fun T H x y d1 d2 e tr h1 h2 he Q q => by
  unfold fI at he
  split at he
  · rename_i i j
    cases he
    exact ⟨i, j, h1.int, h2.int, q _ H (Same.refl _) (hd i j _)⟩
  · cases he
theorem os_I {C : Int → Int → Prop} {c : Int → Int → Bool} {g : Int → Int → V} {h : Int → Int → PyData} (hc : ∀ i j, c i j = true → C i j) (hd : ∀ i j H, Da K H (g i j) (h i j)) : OpS K (rI C g) (fIC c h) := fun T H x y d1 d2 e tr h1 h2 he Q q => by
  unfold fIC at he
  split at he
  · rename_i i j
    split at he
    · rename_i hz
      cases he
      exact ⟨i, j, h1.int, h2.int, hc i j hz, q _ H (Same.refl _) (hd i j _)⟩
    · cases he
  · cases he
theorem os_add : OpS K (rI0 fun i j => .int (i + j)) fAdd := os_I0 fun _ _ _ => .int _
theorem os_sub : OpS K (rI0 fun i j => .int (i - j)) fSub := os_I0 fun _ _ _ => .int _
theorem os_lt : OpS K (rI0 fun i j => .bl (decide (i < j))) fLt := os_I0 fun _ _ _ => .bl _
theorem os_le : OpS K (rI0 fun i j => .bl (decide (i ≤ j))) fLe := os_I0 fun _ _ _ => .bl _
theorem os_gt : OpS K (rI0 fun i j => .bl (decide (j < i))) fGt := os_I0 fun _ _ _ => .bl _
theorem os_ge : OpS K (rI0 fun i j => .bl (decide (j ≤ i))) fGe := os_I0 fun _ _ _ => .bl _
theorem os_pow : OpS K (rI CPow fun i j => .int (i ^ j.toNat)) fPow := os_I (fun i j h => by have := of_decide_eq_true h; exact this) fun _ _ _ => .int _
def fNeg : PyData → Option PyData
  | .int i => some (.int (-i))
  | _ => none
theorem us_neg : UnS K (rU fun i => .int (-i)) fNeg := fun T H x d e tr h1 he Q q => by
  unfold fNeg at he
  split at he
  · cases he
    exact ⟨_, h1.int, q _ H (Same.refl _) (.int _)⟩
  · cases he
/-! == of scalars, of data -/
def fEq : PyData → PyData → Option PyData
  | .int i, .int j => some (.bool (decide (i = j)))
  | .bool i, .bool j => some (.bool (decide (i = j)))
  | .str i, .str j => some (.bool (decide (i = j)))
  | .none, .none => some (.bool true)
  | _, _ => none
def fNe : PyData → PyData → Option PyData
  | .int i, .int j => some (.bool (!decide (i = j)))
  | .bool i, .bool j => some (.bool (!decide (i = j)))
  | .str i, .str j => some (.bool (!decide (i = j)))
  | .none, .none => some (.bool false)
  | _, _ => none
theorem dec_eqV {α : Type} [DecidableEq α] (f : α → V) (hf : ∀ a b, f a = f b → a = b) (a b : α) : decide (f a = f b) = decide (a = b) := by
  by_cases h : a = b
  · rw [h, decide_eq_true rfl, decide_eq_true rfl]
  · rw [decide_eq_false h, decide_eq_false fun z => h (hf a b z)]
theorem os_eq : OpS K rEq fEq := fun T H x y d1 d2 e tr h1 h2 he Q q => by
  unfold fEq at he
  split at he
  · cases he
    rw [h1.int, h2.int]
    refine ⟨rfl, ?_⟩
    rw [dec_eqV V.int (fun a b z => by cases z; rfl)]
    exact q _ H (Same.refl _) (.bl _)
  · cases he
    rw [h1.bl, h2.bl]
    refine ⟨rfl, ?_⟩
    rw [dec_eqV V.bl (fun a b z => by cases z; rfl)]
    exact q _ H (Same.refl _) (.bl _)
  · cases he
    rw [h1.str, h2.str]
    refine ⟨rfl, ?_⟩
    rw [dec_eqV V.str (fun a b z => by cases z; rfl)]
    exact q _ H (Same.refl _) (.bl _)
  · cases he
    rw [h1.non, h2.non]
    exact ⟨rfl, q _ H (Same.refl _) (.bl _)⟩
  · cases he
theorem os_ne : OpS K rNe fNe := fun T H x y d1 d2 e tr h1 h2 he Q q => by
  unfold fNe at he
  split at he
  · cases he
    rw [h1.int, h2.int]
    refine ⟨rfl, ?_⟩
    rw [dec_eqV V.int (fun a b z => by cases z; rfl)]
    exact q _ H (Same.refl _) (.bl _)
  · cases he
    rw [h1.bl, h2.bl]
    refine ⟨rfl, ?_⟩
    rw [dec_eqV V.bl (fun a b z => by cases z; rfl)]
    exact q _ H (Same.refl _) (.bl _)
  · cases he
    rw [h1.str, h2.str]
    refine ⟨rfl, ?_⟩
    rw [dec_eqV V.str (fun a b z => by cases z; rfl)]
    exact q _ H (Same.refl _) (.bl _)
  · cases he
    rw [h1.non, h2.non]
    exact ⟨rfl, q _ H (Same.refl _) (.bl _)⟩
  · cases he
mutual
theorem Da.dp' {H : Hp} : ∀ (d : PyData) (v : V), Da K H v d → d.hasDict = false → Dp K H v d
  | .none, _, h, _ => by
    cases h
    exact .non
  | .bool b, _, h, _ => by
    cases h
    exact .bl b
  | .int i, _, h, _ => by
    cases h
    exact .int i
  | .str x, _, h, _ => by
    cases h
    exact .str x
  | .list ds, _, h, hd => by
    cases h with
    | lst h1 h2 => exact .lst h1 (DaAll.dp' ds _ h2 (by simpa only [PyData.hasDict] using hd))
  | .tuple ds, _, h, hd => by
    cases h with
    | tup h1 h2 => exact .tup h1 (DaAll.dp' ds _ h2 (by simpa only [PyData.hasDict] using hd))
  | .dict _, _, _, hd => by simp [PyData.hasDict] at hd
theorem DaAll.dp' {H : Hp} : ∀ (ds : List PyData) (vs : List V), DaAll K H vs ds → PyData.hasDictAll ds = false → DpAll K H vs ds
  | [], _, h, _ => by
    cases h
    exact .nil
  | d :: ds, _, h, hd => by
    simp only [PyData.hasDictAll, Bool.or_eq_false_iff] at hd
    cases h with
    | cons h1 h2 => exact .cons (Da.dp' d _ h1 hd.1) (DaAll.dp' ds _ h2 hd.2)
end
/-- what may be compared -/
def okE (d : PyData) : Bool := SeqAt.shaped d && !d.hasDict
def fEqD (d e : PyData) : Option PyData := if okE d && okE e then some (.bool (PyData.eqv d e)) else none
def fNeD (d e : PyData) : Option PyData := if okE d && okE e then some (.bool (!PyData.eqv d e)) else none
theorem okE_iff {d : PyData} (h : okE d = true) : SeqAt.shaped d = true ∧ d.hasDict = false := by
  simpa [okE] using h
theorem os_neD : OpS K (rNeD K) fNeD := fun T H x y d1 d2 e tr h1 h2 he Q q => by
  unfold fNeD at he
  split at he
  · rename_i hz
    rw [Bool.and_eq_true] at hz
    obtain ⟨a1, a2⟩ := okE_iff hz.1
    obtain ⟨b1, b2⟩ := okE_iff hz.2
    cases he
    exact ⟨d1, d2, h1.da.dp' _ _ a2, h2.da.dp' _ _ b2, a1, b1, q _ H (Same.refl _) (.bl _)⟩
  · cases he
/-- is None -/
def isNoneD : PyData → Bool
  | .none => true
  | _ => false
def fIsN (d e : PyData) : Option PyData := match e with
  | .none => some (.bool (isNoneD d))
  | _ => none
theorem Da.non_iff {H : Hp} {v : V} {d : PyData} (h : Da K H v d) : decide (v = V.non) = isNoneD d := by
  cases h <;> rfl
theorem os_isN : OpS K (fun x y H Q => y = .non ∧ Q (.bl (decide (x = .non))) H) fIsN := fun T H x y d1 d2 e tr h1 h2 he Q q => by
  unfold fIsN at he
  split at he
  · cases he
    refine ⟨h2.non, ?_⟩
    rw [h1.da.non_iff]
    exact q _ H (Same.refl _) (.bl _)
  · cases he
/-! in -/
def flatD : PyData → Bool
  | .none => true
  | .bool _ => true
  | .int _ => true
  | .str _ => true
  | _ => false
theorem Da.flat {H : Hp} {v : V} {d : PyData} (h : Da K H v d) (hd : flatD d = true) : flatV v = true := by
  cases h <;> first | rfl | cases hd
theorem eqV_eqv {H : Hp} {x y : V} {d e : PyData} (h : Da K H x d) (h' : Da K H y e) (hd : flatD d = true) (he : flatD e = true) : eqV x y = PyData.eqv d e := by
  cases h <;> cases h' <;> first | rfl | (cases hd; done) | (cases he; done) | skip
  all_goals first | rfl | cases hd | cases he
def seqD : PyData → Option (List PyData)
  | .list es => some es
  | .tuple es => some es
  | _ => none
def inL (d : PyData) (es : List PyData) : Bool := es.any fun y => PyData.eqv y d
def fIn (d e : PyData) : Option PyData := (seqD e).bind fun es => if flatD d && es.all flatD then some (.bool (inL d es)) else none
def fNin (d e : PyData) : Option PyData := (seqD e).bind fun es => if flatD d && es.all flatD then some (.bool (!inL d es)) else none
theorem DaAll.flat {H : Hp} : ∀ {vs : List V} {es : List PyData}, DaAll K H vs es → es.all flatD = true → vs.all flatV = true
  | [], _, _, _ => rfl
  | v :: vs, _, h, hf => by
    cases h with
    | cons h1 h2 =>
      simp only [List.all_cons, Bool.and_eq_true] at hf ⊢
      exact ⟨h1.flat hf.1, DaAll.flat h2 hf.2⟩
theorem inV_inL {H : Hp} {x : V} {d : PyData} (hx : Da K H x d) (hd : flatD d = true) : ∀ {vs : List V} {es : List PyData}, DaAll K H vs es → es.all flatD = true → inV x vs = inL d es
  | [], _, h, _ => by
    cases h
    rfl
  | v :: vs, _, h, hf => by
    cases h with
    | cons h1 h2 =>
      simp only [List.all_cons, Bool.and_eq_true] at hf
      have ih := inV_inL hx hd h2 hf.2
      unfold inV inL at ih ⊢
      rw [List.any_cons, List.any_cons, ih, eqV_eqv h1 hx hf.1 hd]
theorem seq_of {T : List Addr} {H : Hp} {y : V} {e : PyData} {es : List PyData} (h : Dv K T H y e) (hs' : seqD e = some es) : ∃ p xs, y = .ref p ∧ (SqL K H p xs ∨ SqT K H p xs) ∧ DaAll K (hs T H) xs es := by
  cases e with
  | list fs =>
    cases hs'
    obtain ⟨p, xs, h1, h2, h3⟩ := h.lst
    exact ⟨p, xs, h1, .inl h2, h3⟩
  | tuple fs =>
    cases hs'
    obtain ⟨p, xs, h1, h2, h3, _⟩ := h.tup
    exact ⟨p, xs, h1, .inr h2, h3⟩
  | _ => cases hs'
theorem os_nin : OpS K (rIn K true) fNin := fun T H x y d1 d2 e tr h1 h2 he Q q => by
  obtain ⟨es, k1, k2⟩ := Option.bind_eq_some_iff.mp he
  split at k2
  · rename_i hz
    rw [Bool.and_eq_true] at hz
    cases k2
    obtain ⟨p, xs, rfl, hq, hd⟩ := seq_of h2 k1
    have hd' := hd.mono hs_sub
    refine ⟨p, xs, rfl, hq, h1.da.flat hz.1, hd'.flat hz.2, ?_⟩
    rw [inV_inL h1.da hz.1 hd' hz.2]
    exact q _ H (Same.refl _) (.bl _)
  · cases k2
/-! items, slices, + -/
theorem atI_da {H : Hp} {vs : List V} {es : List PyData} {i : Int} {e : PyData} (h : DaAll K H vs es) (he : atI es i = some e) : ∃ v, atI vs i = some v ∧ Da K H v e := by
  unfold atI at he ⊢
  rw [DaAll.len h]
  cases hj : ixN es.length i with
  | none =>
    rw [hj] at he
    cases he
  | some j =>
    rw [hj] at he
    have he' : es[j]? = some e := he
    have hlt : j < vs.length := by
      rw [DaAll.len h]
      exact (List.getElem?_eq_some_iff.mp he').1
    obtain ⟨d, h1, h2⟩ := DaAll.get h (List.getElem?_eq_getElem hlt)
    rw [he'] at h1
    cases h1
    exact ⟨vs[j], List.getElem?_eq_getElem hlt, h2⟩
def fIxL : PyData → PyData → Option PyData
  | .list es, .int i => atI es i
  | _, _ => none
def fIxT : PyData → PyData → Option PyData
  | .tuple es, .int i => atI es i
  | _, _ => none
theorem os_ixL : OpS K (rIxL K) fIxL := fun T H x y d1 d2 e tr h1 h2 he Q q => by
  unfold fIxL at he
  split at he
  · obtain ⟨p, xs, rfl, hq, hd⟩ := h1.lst
    obtain ⟨v, k1, k2⟩ := atI_da hd he
    exact ⟨p, xs, _, v, rfl, h2.int, hq, k1, q v H (Same.refl _) k2⟩
  · cases he
theorem os_ixT : OpS K (rIxT K) fIxT := fun T H x y d1 d2 e tr h1 h2 he Q q => by
  unfold fIxT at he
  split at he
  · obtain ⟨p, xs, rfl, hq, hd, _⟩ := h1.tup
    obtain ⟨v, k1, k2⟩ := atI_da hd he
    exact ⟨p, xs, _, v, rfl, h2.int, hq, k1, q v H (Same.refl _) k2⟩
  · cases he
def fCat : PyData → PyData → Option PyData
  | .tuple es, .tuple fs => if es.length + fs.length ≤ 100000 then some (.tuple (es ++ fs)) else none
  | _, _ => none
def eSlT (φ : Rho → Option PyData) (lo hi : Rho → Option (Option Int)) : Rho → Option PyData := fun ρ => ((φ ρ).bind asT).bind fun es => (lo ρ).bind fun l => (hi ρ).map fun h => .tuple (cutG es l h)
def lSl (φ : Rho → Option PyData) (lo hi : Rho → Option (Option Int)) : Rho → Option (List PyData) := fun ρ => ((φ ρ).bind asL).bind fun es => (lo ρ).bind fun l => (hi ρ).map fun h => cutG es l h
theorem cutG_whole {α : Type} {xs : List α} {lo hi : Option Int} (h : HT.sIx xs.length 0 lo = 0 ∧ HT.sIx xs.length xs.length hi = xs.length) : cutG xs lo hi = xs := by
  unfold cutG
  rw [h.1, h.2]
  simp
theorem xs_slT {te : TE} {tl th : TO} {φ : Rho → Option PyData} {lo hi : Rho → Option (Option Int)} (h : EvTr K te φ) (hl : EvOI K tl lo) (hh : EvOI K th hi) : EvS K (tSl (rSlA K) te tl th) (eSlT φ lo hi) := fun S H0 G T ow ρ σ H e sm he Q q => by
  obtain ⟨es, h1, h2⟩ := Option.bind_eq_some_iff.mp he
  obtain ⟨x, h3, h4⟩ := Option.bind_eq_some_iff.mp h1
  obtain rfl := asT_some h4
  obtain ⟨l, h5, h6⟩ := Option.bind_eq_some_iff.mp h2
  obtain ⟨u, h7, rfl⟩ := Option.map_eq_some_iff.mp h6
  refine h S H0 G T ow ρ σ H _ sm h3 _ fun v H1 s1 hv => hl S H0 G T ow ρ σ H1 l (sm.mono s1) h5 _ fun H2 s2 => hh S H0 G T ow ρ σ H2 u (sm.mono (s1.trans s2)) h7 _ fun H3 s3 => ?_
  obtain ⟨p, xs, rfl, hq, hd, hD⟩ := (hv.mono (s2.trans s3)).tup
  have ll := DaAll.len hd
  have s13 := (s1.trans s2).trans s3
  refine ⟨p, xs, rfl, hq, fun z => ?_, fun z t ht => ?_⟩
  · rw [ll] at z
    rw [cutG_whole z] at q
    exact q _ H3 s13 hD
  · exact q _ _ (s13.trans (same_upd ht)) (.tup (SqT.of (hs_at ((sm.tr.same s13).out ht) upd_same)) ((hd.cut l u).mono (hs_mono (same_upd ht))))
theorem xf_sl {te : TE} {tl th : TO} {φ : Rho → Option PyData} {lo hi : Rho → Option (Option Int)} (h : EvTr K te φ) (hl : EvOI K tl lo) (hh : EvOI K th hi) : EvF K (tSl (rSlL K) te tl th) (lSl φ lo hi) := fun S H0 G T ow ρ σ H ys sm he Q q => by
  obtain ⟨es, h1, h2⟩ := Option.bind_eq_some_iff.mp he
  obtain ⟨x, h3, h4⟩ := Option.bind_eq_some_iff.mp h1
  obtain rfl := asL_some h4
  obtain ⟨l, h5, h6⟩ := Option.bind_eq_some_iff.mp h2
  obtain ⟨u, h7, rfl⟩ := Option.map_eq_some_iff.mp h6
  refine h S H0 G T ow ρ σ H _ sm h3 _ fun v H1 s1 hv => hl S H0 G T ow ρ σ H1 l (sm.mono s1) h5 _ fun H2 s2 => hh S H0 G T ow ρ σ H2 u (sm.mono (s1.trans s2)) h7 _ fun H3 s3 => ?_
  obtain ⟨p, xs, rfl, hq, hd⟩ := (hv.mono (s2.trans s3)).lst
  have s13 := (s1.trans s2).trans s3
  exact ⟨p, xs, rfl, hq, fun t ht => q t _ _ (s13.trans (same_upd ht)) (s13.free ht) upd_same ((hd.cut l u).mono (hs_cons_new ht))⟩
def lRev (φ : Rho → Option PyData) : Rho → Option (List PyData) := fun ρ => ((φ ρ).bind asL).map List.reverse
theorem xf_rev {te : TE} {φ : Rho → Option PyData} (h : EvTr K te φ) : EvF K (tRevL K te) (lRev φ) := fun S H0 G T ow ρ σ H ys sm he Q q => by
  obtain ⟨es, h1, rfl⟩ := Option.map_eq_some_iff.mp he
  obtain ⟨x, h3, h4⟩ := Option.bind_eq_some_iff.mp h1
  obtain rfl := asL_some h4
  refine h S H0 G T ow ρ σ H _ sm h3 _ fun v H1 s1 hv => ?_
  obtain ⟨p, xs, rfl, hq, hd⟩ := hv.lst
  exact ⟨p, xs, rfl, hq, fun t ht => q t _ _ (s1.trans (same_upd ht)) (s1.free ht) upd_same (hd.rev.mono (hs_cons_new ht))⟩
/-! builtins -/
def fLen : List PyData → Option PyData
  | [d] => (seqD d).map fun es => .int (es.length : Int)
  | _ => none
theorem cs_len : CbS K (fun xs H Q => ∃ p ys, xs = [.ref p] ∧ (SqL K H p ys ∨ SqT K H p ys) ∧ Q (.int ys.length) H) fLen := fun T H xs ds e tr h he Q q => by
  unfold fLen at he
  split at he
  · obtain ⟨es, k1, rfl⟩ := Option.map_eq_some_iff.mp he
    cases h with
    | cons h1 h2 =>
      cases h2
      obtain ⟨p, ys, rfl, hq, hd⟩ := seq_of h1 k1
      refine ⟨p, ys, rfl, hq, ?_⟩
      rw [DaAll.len hd]
      exact q _ H (Same.refl _) (.int _)
  · cases he
def fIsi (T : String) : PyData → Option PyData := fun d => some (.bool (isI T d))
theorem xs_isi {ta : TE} {φ : Rho → Option PyData} {T : String} (h : EvTr K ta φ) (hT : T ∈ ["int", "bool", "tuple", "list", "dict", "str"] := by decide) : EvS K (tCB (rIsi K) (tCons ta (tCons (tC (.ty T)) tNil))) (eUn (fIsi T) φ) := fun S H0 G T' ow ρ σ H e sm he Q q => by
  obtain ⟨x, h1, h2⟩ := Option.bind_eq_some_iff.mp he
  cases h2
  exact h S H0 G T' ow ρ σ H x sm h1 _ fun v H1 s1 hv => isi_of hv.da (q _ H1 s1 (.bl _)) hT
def fTupOf : List PyData → Option PyData
  | [.list es] => some (.tuple es)
  | [.tuple es] => some (.tuple es)
  | _ => none
theorem cs_tupOf : CbS K (fun xs H Q => ∃ p ys, xs = [.ref p] ∧ ((SqL K H p ys ∧ ∀ l, H l = none → Q (.ref l) (upd H l (.tup ys))) ∨ (SqT K H p ys ∧ Q (.ref p) H))) fTupOf := fun T H xs ds e tr h he Q q => by
  unfold fTupOf at he
  split at he
  · cases he
    cases h with
    | cons h1 h2 =>
      cases h2
      obtain ⟨p, ys, rfl, hq, hd⟩ := h1.lst
      exact ⟨p, ys, rfl, .inl ⟨hq, fun l hl => q _ _ (same_upd hl) (.tup (SqT.of (hs_at (tr.out hl) upd_same)) (hd.mono (hs_mono (same_upd hl))))⟩⟩
  · cases he
    cases h with
    | cons h1 h2 =>
      cases h2
      obtain ⟨p, ys, rfl, hq, hd, hD⟩ := h1.tup
      exact ⟨p, ys, rfl, .inr ⟨hq, q _ H (Same.refl _) hD⟩⟩
  · cases he
def fListOf : List PyData → Option (List PyData)
  | [d] => seqD d
  | _ => none
/-- lists of truth values, of intsD -/
def bools : List PyData → Option (List Bool)
  | [] => some []
  | .bool b :: es => (bools es).map (b :: ·)
  | _ => none
def intsD : List PyData → Option (List Int)
  | [] => some []
  | .int b :: es => (intsD es).map (b :: ·)
  | _ => none
theorem bools_v {H : Hp} : ∀ {es : List PyData} {vs : List V} {bs : List Bool}, DaAll K H vs es → bools es = some bs → vs = bs.map V.bl
  | [], _, _, h, e => by
    cases h
    cases e
    rfl
  | .bool b :: es, _, bs, h, e => by
    obtain ⟨cs, h1, rfl⟩ := Option.map_eq_some_iff.mp e
    cases h with
    | cons k1 k2 =>
      cases k1
      rw [bools_v k2 h1]
      rfl
  | .none :: _, _, _, _, e => by cases e
  | .int _ :: _, _, _, _, e => by cases e
  | .str _ :: _, _, _, _, e => by cases e
  | .list _ :: _, _, _, _, e => by cases e
  | .tuple _ :: _, _, _, _, e => by cases e
  | .dict _ :: _, _, _, _, e => by cases e
theorem ints_v {H : Hp} : ∀ {es : List PyData} {vs : List V} {bs : List Int}, DaAll K H vs es → intsD es = some bs → vs = bs.map V.int
  | [], _, _, h, e => by
    cases h
    cases e
    rfl
  | .int b :: es, _, bs, h, e => by
    obtain ⟨cs, h1, rfl⟩ := Option.map_eq_some_iff.mp e
    cases h with
    | cons k1 k2 =>
      cases k1
      rw [ints_v k2 h1]
      rfl
  | .none :: _, _, _, _, e => by cases e
  | .bool _ :: _, _, _, _, e => by cases e
  | .str _ :: _, _, _, _, e => by cases e
  | .list _ :: _, _, _, _, e => by cases e
  | .tuple _ :: _, _, _, _, e => by cases e
  | .dict _ :: _, _, _, _, e => by cases e
theorem bools_map : ∀ bs : List Bool, bools (bs.map .bool) = some bs
  | [] => rfl
  | b :: bs => by
    show (bools (bs.map .bool)).map (b :: ·) = _
    rw [bools_map bs]
    rfl
theorem ints_map : ∀ bs : List Int, intsD (bs.map .int) = some bs
  | [] => rfl
  | b :: bs => by
    show (intsD (bs.map .int)).map (b :: ·) = _
    rw [ints_map bs]
    rfl
def fAll : List PyData → Option PyData
  | [.list es] => (bools es).map fun bs => .bool (bs.all id)
  | _ => none
theorem cs_all : CbS K (rAll K) fAll := fun T H xs ds e tr h he Q q => by
  unfold fAll at he
  split at he
  · obtain ⟨bs, k1, rfl⟩ := Option.map_eq_some_iff.mp he
    cases h with
    | cons h1 h2 =>
      cases h2
      obtain ⟨p, ys, rfl, hq, hd⟩ := h1.lst
      rw [bools_v hd k1] at hq
      exact ⟨p, bs, rfl, hq, q _ H (Same.refl _) (.bl _)⟩
  · cases he
def fSum : List PyData → Option PyData
  | [.list es] => (intsD es).map fun ns => .int ns.sum
  | _ => none
theorem foldl_min : ∀ (ns : List Int) (n : Int), (ns.foldl min n = n ∨ ns.foldl min n ∈ ns) ∧ ns.foldl min n ≤ n ∧ ∀ y ∈ ns, ns.foldl min n ≤ y
  | [], n => ⟨.inl rfl, Int.le_refl _, fun y hy => absurd hy List.not_mem_nil⟩
  | m :: ns, n => by
    obtain ⟨h1, h2, h3⟩ := foldl_min ns (min n m)
    simp only [List.foldl_cons]
    refine ⟨?_, by omega, fun y hy => ?_⟩
    · rcases h1 with h1 | h1
      · rw [h1]
        by_cases z : n ≤ m
        · left
          omega
        · right
          rw [show min n m = m by omega]
          exact List.mem_cons_self
      · exact .inr (List.mem_cons_of_mem _ h1)
    · rcases List.mem_cons.mp hy with rfl | hy
      · omega
      · exact h3 y hy
theorem DaAll.emp {H : Hp} {vs : List V} {es : List PyData} (h : DaAll K H vs es) : es.isEmpty = vs.isEmpty := by
  cases h <;> rfl
end
end Pb

set_option Elab.async false
set_option linter.all false
set_option maxRecDepth 100000
namespace Pb
open PySem PySem.Spec PyProof.Rows L2
/-! ### rules over K, whatever the block -/
section
variable {X : Cx} {K : PySem.W.Frag}
theorem opK {f : Value → Value → Sem Value} (r : PySem.W.Frag → R2) (hK : X.K = K) (h : OpR X f (r X.K)) : OpR X f (r K) := hK ▸ h
theorem ixK (r : PySem.W.Frag → R2) (hK : X.K = K) (h : IxR X (r X.K)) : IxR X (r K) := hK ▸ h
theorem crK {f : Value} (r : PySem.W.Frag → List V → Hp → VK → Prop) (hK : X.K = K) (h : CallR X f (r X.K)) : CallR X f (r K) := hK ▸ h
theorem slK (r : PySem.W.Frag → V → Option Int → Option Int → Hp → VK → Prop) (hK : X.K = K) (h : L2.SlR X (r X.K)) : L2.SlR X (r K) := hK ▸ h
theorem piK {tg it : Expr} (r : PySem.W.Frag → TI) (hK : X.K = K) (h : PI X tg it (r X.K)) : PI X tg it (r K) := hK ▸ h
theorem peK {e : Expr} (r : PySem.W.Frag → TE) (hK : X.K = K) (h : PE X e (r X.K)) : PE X e (r K) := hK ▸ h
end
structure Bx (mg : Str → Option Value) : Prop extends Bn mg where
  sum : mg "sum" = none
  min : mg "min" = none
  max : mg "max" = none
  zip : mg "zip" = none
  reversed : mg "reversed" = none
  any : mg "any" = none
  valueError : mg "ValueError" = none
section
variable {K : PySem.W.Frag}
/-! zip, reversed -/
theorem walk_zipT {a b : Addr} {xs ys : List V} {n : Nat} (hn : n = Nat.min xs.length ys.length) : Walk (RZ.ItzT K a b) n (fun H => SqT K H a xs ∧ SqT K H b ys) (YPair (fun i => xs[i]?) (fun i => ys[i]?)) := by
  subst hn
  refine ⟨fun i _ hi q => ?_, fun _ q => ⟨xs, ys, q.1, q.2, ?_⟩, fun i H v H' _ q y => ?_⟩
  · have hi' : i < xs.length ∧ i < ys.length := by
      have : Nat.min xs.length ys.length ≤ xs.length := Nat.min_le_left _ _
      have : Nat.min xs.length ys.length ≤ ys.length := Nat.min_le_right _ _
      omega
    exact ⟨xs, ys, xs[i]'hi'.1, ys[i]'hi'.2, q.1, q.2, by simp [hi'.1], by simp [hi'.2]⟩
  · show xs.length ≤ min xs.length ys.length ∨ ys.length ≤ min xs.length ys.length
    omega
  · obtain ⟨T, x, z, h1, h2, h3, h4, h5⟩ := y
    exact ⟨T, x, z, h1, h2, h3, h4 xs q.1, h5 ys q.2⟩
theorem zipD_len {es fs : List PyData} : (zipD es fs).length = min es.length fs.length := by simp [zipD]
theorem zipD_get {es fs : List PyData} {i : Nat} {d e : PyData} (h : es[i]? = some d) (h' : fs[i]? = some e) : (zipD es fs)[i]? = some (.tuple [d, e]) := by
  have z : (es.zip fs)[i]? = some (d, e) := List.getElem?_zip_eq_some.mpr ⟨h, h'⟩
  simp [zipD, z]
def iZT (φ ψ : Rho → Option PyData) : Rho → Option (List PyData) := fun ρ => ((φ ρ).bind asT).bind fun es => ((ψ ρ).bind asT).map fun fs => zipD es fs
theorem wi_zipT {ta tb : TE} {φ ψ : Rho → Option PyData} (ha : EvS K ta φ) (hb : EvS K tb ψ) : ItP K (RZ.iZipA K (tCons ta (tCons tb tNil))) (iZT φ ψ) := fun S H0 G T ow ρ σ H es sm he R q => by
  obtain ⟨xs, h1, h2⟩ := Option.bind_eq_some_iff.mp he
  obtain ⟨x, h3, h4⟩ := Option.bind_eq_some_iff.mp h1
  obtain rfl := asT_some h4
  obtain ⟨ys, h5, rfl⟩ := Option.map_eq_some_iff.mp h2
  obtain ⟨y, h6, h7⟩ := Option.bind_eq_some_iff.mp h5
  obtain rfl := asT_some h7
  refine ha S H0 G T ow ρ σ H _ sm h3 _ fun v H1 s1 hv => hb S H0 G T ow ρ σ H1 _ (sm.mono s1) h6 _ fun u H2 s2 hu => ?_
  have hv' := hv.mono (hs_mono s2)
  cases hv' with
  | @tup a vs _ k1 k2 =>
    cases hu with
    | @tup b us _ k3 k4 =>
      refine ⟨a, b, vs, us, rfl, .inr ⟨Same.tq hs_sub k1, Same.tq hs_sub k3, q _ H2 (s1.trans s2) ?_⟩⟩
      refine ⟨fun H => (SqT K H a vs ∧ DaAll K H vs xs) ∧ (SqT K H b us ∧ DaAll K H us ys), _, _, fun H H' s h => ⟨⟨Same.tq s h.1.1, h.1.2.mono s⟩, ⟨Same.tq s h.2.1, h.2.2.mono s⟩⟩, ⟨⟨k1, k2⟩, ⟨k3, k4⟩⟩, walk_zipT (by rw [zipD_len, DaAll.len k2, DaAll.len k4]), fun T' H2 h => ⟨Same.tq hs_sub h.1.1, Same.tq hs_sub h.2.1⟩, fun T' H2 i x H' h tr hi y => ?_⟩
      obtain ⟨t, x1, x2, rfl, ht, rfl, e1, e2⟩ := y
      obtain ⟨d, d1, d2⟩ := DaAll.get h.1.2 e1
      obtain ⟨d', d3, d4⟩ := DaAll.get h.2.2 e2
      exact ⟨same_upd ht, _, zipD_get d1 d3, da_pair tr ht d2 d4⟩
/-! ranges as values -/
def lRg (φ : Rho → Option PyData) : Rho → Option (List PyData) := fun ρ => ((φ ρ).bind asI).bind fun j => if decide (0 ≤ j ∧ j ≤ 100000) then some (rngD 0 j) else none
theorem rg_da {H : Hp} {a b : Int} : DaAll K H (rgV a b) (rngD a b) := by
  unfold rgV rngD
  generalize List.range (b - a).toNat = l
  induction l with
  | nil => exact .nil
  | cons x l ih => exact .cons (.int _) ih
theorem xf_rg {te : TE} {φ : Rho → Option PyData} (h : EvTr K te φ) : EvF K (tLstRg (tRg1 te)) (lRg φ) := fun S H0 G T ow ρ σ H ys sm he Q q => by
  obtain ⟨j, h1, h2⟩ := Option.bind_eq_some_iff.mp he
  obtain ⟨x, h3, h4⟩ := Option.bind_eq_some_iff.mp h1
  obtain rfl := asI_some h4
  split at h2
  · rename_i hz
    have hz' := of_decide_eq_true hz
    cases h2
    exact h S H0 G T ow ρ σ H _ sm h3 _ fun v H1 s1 hv => ⟨j, hv.int, RgOk.of_le (by omega) (by omega) (by omega) (by omega), fun p hp => q p _ _ (s1.trans (same_upd hp)) (s1.free hp) upd_same rg_da⟩
  · cases h2
/-! sorted -/
def sortI (ns : List Int) : List Int := ns.mergeSort fun a b => decide (a ≤ b)
theorem sortI_perm {ns : List Int} : (sortI ns).Perm ns := List.mergeSort_perm ns _
theorem sortI_le {ns : List Int} : (sortI ns).Pairwise (· ≤ ·) := by
  have := List.pairwise_mergeSort (le := fun a b : Int => decide (a ≤ b)) (fun a b c h1 h2 => by simp at h1 h2 ⊢; omega) (fun a b => by simp; omega) ns
  exact this.imp fun h => of_decide_eq_true h
theorem sorted_uniq : ∀ {l r : List Int}, l.Perm r → l.Pairwise (· ≤ ·) → r.Pairwise (· ≤ ·) → l = r := by
  intro l
  induction l with
  | nil =>
    intro r h _ _
    exact h.nil_eq
  | cons x l ih =>
    intro r h h1 h2
    cases r with
    | nil => exact absurd h.length_eq (by simp)
    | cons y r =>
      have hx := (List.pairwise_cons.mp h1)
      have hy := (List.pairwise_cons.mp h2)
      have e : x = y := by
        have m1 : x ∈ y :: r := h.mem_iff.mp List.mem_cons_self
        have m2 : y ∈ x :: l := h.mem_iff.mpr List.mem_cons_self
        have a1 : y ≤ x := by
          rcases List.mem_cons.mp m1 with z | z
          · omega
          · exact hy.1 x z
        have a2 : x ≤ y := by
          rcases List.mem_cons.mp m2 with z | z
          · omega
          · exact hx.1 y z
        omega
      subst e
      rw [ih (List.perm_cons x |>.mp h) hx.2 hy.2]
/-! x op= e -/
def sAug (i : Nat) (f : PyData → PyData → Option PyData) (φ : Rho → Option PyData) : Rho → Option Res := fun ρ => (rv ρ i).bind fun x => (φ ρ).bind fun y => (f x y).map fun z => .nx (ρ.set i (.val z))
end
end Pb

set_option Elab.async false
set_option linter.all false
set_option maxRecDepth 100000
namespace Pb
open PySem PySem.Spec PyProof.Rows L2
/-! ### readings that draw: what is wished of every number drawn -/
theorem SimO.base {K : PySem.W.Frag} {S : List Addr} {H0 : Hp} {G : Hp → Prop} {T ow : List Addr} {ρ : Rho} {σ : L2.St} {H : Hp} (h : SimO K S H0 G T ow ρ σ H) (hS : ∀ a ∈ S, ∃ xs, H a = some (.lst xs)) : SimO K [] (fun _ => none) G T ow ρ σ H :=
  { len := h.len, slot := h.slot, inj := h.inj, old := fun _ _ e => (by cases e), new := fun _ _ => rfl, sub := fun _ h => absurd h List.not_mem_nil, owT := h.owT, tr := h.tr, trS := fun _ h => absurd h List.not_mem_nil, mo := h.mo, fr := h.fr, lsT := fun a ha => (h.lsT a ha).elim (fun z => .inr (hS a z)) .inr }
structure SimW (K : PySem.W.Frag) (S : List Addr) (H0 : Hp) (d b c : Addr) (n : Int) (G : Hp → Prop) (T ow : List Addr) (ρ : Rho) (σ : L2.St) (H : Hp) : Prop where
  co : SimO K [] (fun _ => none) G T ow ρ σ H
  ck : Ck T d b c n H
  old : Same (msk d b H0) (msk d b H)
  new : ∀ a ∈ ow, H0 a = none ∧ a ≠ d ∧ a ≠ b ∧ a ≠ c
  sub : ∀ a ∈ S, a ∈ T
  trS : Tr S H0
section
variable {K : PySem.W.Frag} {S : List Addr} {H0 : Hp} {d b c : Addr} {n n' : Int} {G : Hp → Prop} {T ow : List Addr} {ρ : Rho} {σ : L2.St} {H H' : Hp}
theorem SimW.mono (h : SimW K S H0 d b c n G T ow ρ σ H) (s : Same H H') : SimW K S H0 d b c n G T ow ρ σ H' :=
  ⟨h.co.mono s, h.ck.same s, h.old.trans (msk_same s), h.new, h.sub, h.trS⟩
theorem SimW.draw {N : Int} (h : SimW K S H0 d b c n G T ow ρ σ H) (dr : Dr d b c N H n' H') : SimW K S H0 d b c n' G T ow ρ σ H' := by
  have sm := h.ck.sm dr
  refine ⟨?_, h.ck.dr dr, h.old.trans dr.sm, h.new, h.sub, h.trS⟩
  exact
    { len := h.co.len, inj := h.co.inj, old := fun _ _ e => (by cases e), new := fun _ _ => rfl, sub := fun _ h => absurd h List.not_mem_nil, owT := h.co.owT, tr := (h.ck.dr dr).tr, trS := fun _ h => absurd h List.not_mem_nil, mo := h.co.mo, fr := h.co.mo _ _ sm h.co.fr,
      lsT := fun a ha => .inr (by
        by_cases z1 : a = d
        · rw [z1]
          exact ⟨_, dr.dk.at_d⟩
        · by_cases z2 : a = b
          · rw [z2]
            obtain ⟨bs, e⟩ := dr.dk.at_b
            exact ⟨_, e⟩
          · rcases h.co.lsT a ha with y | ⟨xs, e⟩
            · exact absurd y List.not_mem_nil
            · have := dr.sm a _ (by rw [msk_ne z1 z2]; exact e)
              rw [msk_ne z1 z2] at this
              exact ⟨xs, this⟩),
      slot := fun i sl e => by
        obtain ⟨o, ho, hs'⟩ := h.co.slot i sl e
        exact ⟨o, ho, hs'.move sm fun fo vs _ k1 k2 => ⟨k1, dr.at (h.new fo k1).2 k2⟩⟩ }
/-- as a pure statement sees it -/
theorem SimW.pure (h : SimW K S H0 d b c n G T ow ρ σ H) : SimO K (d :: b :: S) (hs ow H) G T ow ρ σ H := by
  have inS : ∀ a ∈ d :: b :: S, a ∉ ow := fun a ha z => by
    obtain ⟨z1, z2, z3, _⟩ := h.new a z
    rcases List.mem_cons.mp ha with rfl | ha
    · exact z2 rfl
    · rcases List.mem_cons.mp ha with rfl | ha
      · exact z3 rfl
      · obtain ⟨o, eo⟩ := h.trS a ha
        rw [z1] at eo
        cases eo
  exact
    { len := h.co.len, slot := h.co.slot, inj := h.co.inj, owT := h.co.owT, tr := h.co.tr, mo := h.co.mo, fr := h.co.fr, old := hs_sub, lsT := fun a ha => (h.co.lsT a ha).elim (fun z => absurd z List.not_mem_nil) .inr
      new := fun a ha => by
        unfold hs
        rw [if_pos ha]
      sub := fun a ha => by
        rcases List.mem_cons.mp ha with rfl | ha
        · exact h.ck.hd
        · rcases List.mem_cons.mp ha with rfl | ha
          · exact h.ck.hb
          · exact h.sub a ha
      trS := fun a ha => by
        have hT : a ∈ T := by
          rcases List.mem_cons.mp ha with rfl | ha
          · exact h.ck.hd
          · rcases List.mem_cons.mp ha with rfl | ha
            · exact h.ck.hb
            · exact h.sub a ha
        obtain ⟨o, eo⟩ := h.co.tr a hT
        exact ⟨o, hs_at (inS a ha) eo⟩ }
theorem SimW.back {T' ow' : List Addr} {ρ' : Rho} {σ' : L2.St} {G' : Hp → Prop} (h : SimW K S H0 d b c n G T ow ρ σ H) (k : SimO K (d :: b :: S) (hs ow H) G' T' ow' ρ' σ' H') : SimW K S H0 d b c n G' T' ow' ρ' σ' H' := by
  have dno : d ∉ ow := fun z => (h.new d z).2.1 rfl
  have bno : b ∉ ow := fun z => (h.new b z).2.2.1 rfl
  have cno : c ∉ ow := fun z => (h.new c z).2.2.2 rfl
  have dk : Dk d b c n (hs ow H) := by
    obtain ⟨e1, e2, e3, e4, e5, ⟨bs, e6⟩, ⟨cs, e7, e8⟩⟩ := h.ck.dk
    exact ⟨e1, e2, e3, e4, hs_at dno e5, ⟨bs, hs_at bno e6⟩, ⟨cs, hs_at cno e7, e8⟩⟩
  have dk' := dk.same k.old
  have hS : ∀ a ∈ d :: b :: S, ∃ xs, H' a = some (.lst xs) := fun a ha => by
    rcases List.mem_cons.mp ha with rfl | ha
    · exact ⟨_, dk'.at_d⟩
    · rcases List.mem_cons.mp ha with rfl | ha
      · obtain ⟨bs, e⟩ := dk'.at_b
        exact ⟨_, e⟩
      · rcases h.co.lsT a (h.sub a ha) with y | ⟨xs, e⟩
        · exact absurd y List.not_mem_nil
        · have : a ∉ ow := fun z => by
            obtain ⟨o, eo⟩ := h.trS a ha
            rw [(h.new a z).1] at eo
            cases eo
          exact ⟨xs, k.old _ _ (hs_at this e)⟩
  refine ⟨k.base hS, ⟨dk', k.sub d (by simp), k.sub b (by simp), k.tr⟩, ?_, ?_, fun a ha => k.sub a (by simp [ha]), h.trS⟩
  · intro a o e
    have e1 := h.old a o e
    obtain ⟨z1, z2, z3⟩ := msk_some e1
    obtain ⟨_, _, y3⟩ := msk_some e
    have : a ∉ ow := fun z => by
      rw [(h.new a z).1] at y3
      cases y3
    rw [msk_ne z1 z2]
    exact k.old _ _ (hs_at this z3)
  · intro a ha
    have ea := k.new a ha
    have ne : ∀ x o, hs ow H x = some o → a ≠ x := fun x o e z => by
      rw [← z, ea] at e
      cases e
    have n1 := ne d _ dk.at_d
    obtain ⟨bs, e6⟩ := dk.at_b
    obtain ⟨cs, e7, _⟩ := dk.at_c
    have n2 := ne b _ e6
    have n3 := ne c _ e7
    refine ⟨?_, n1, n2, n3⟩
    by_cases z : a ∈ ow
    · exact (h.new a z).1
    · rw [hs_out z] at ea
      cases e : H0 a with
      | none => rfl
      | some o =>
        have := h.old a o (by rw [msk_ne n1 n2]; exact e)
        rw [msk_ne n1 n2, ea] at this
        cases this
end
section
variable (K : PySem.W.Frag) (d : Addr)
def EvW (te : TE) (Φ : Rho → Int → (PyData → Int → Prop) → Prop) : Prop := ∀ S H0 b c n G T ow ρ σ H P, SimW K S H0 d b c n G T ow ρ σ H → Φ ρ n P → ∀ Q : VK, (∀ v e n' H', P e n' → Dr d b c n' H n' H' → Da K (hs T H') v e → Q v H') → te σ H Q
def EvAW (ta : TA) (Φ : Rho → Int → (List PyData → Int → Prop) → Prop) : Prop := ∀ S H0 b c n G T ow ρ σ H P, SimW K S H0 d b c n G T ow ρ σ H → Φ ρ n P → ∀ Q : List V → Hp → Prop, (∀ vs es n' H', P es n' → Dr d b c n' H n' H' → DaAll K (hs T H') vs es → Q vs H') → ta σ H Q
/-- a list that is new -/
def EvFW (te : TE) (Φ : Rho → Int → (List PyData → Int → Prop) → Prop) : Prop := ∀ S H0 b c n G T ow ρ σ H P, SimW K S H0 d b c n G T ow ρ σ H → Φ ρ n P → ∀ Q : VK, (∀ p vs es n' H', P es n' → Dr d b c n' H n' H' → H p = none → H' p = some (.lst vs) → DaAll K (hs (p :: T) H') vs es → Q (.ref p) H') → te σ H Q
end
/-! words -/
def wP (φ : Rho → Option PyData) : Rho → Int → (PyData → Int → Prop) → Prop := fun ρ n P => ∃ e, φ ρ = some e ∧ P e n
def wNil : Rho → Int → (List PyData → Int → Prop) → Prop := fun _ n P => P [] n
def wCons (Φ : Rho → Int → (PyData → Int → Prop) → Prop) (Φs : Rho → Int → (List PyData → Int → Prop) → Prop) : Rho → Int → (List PyData → Int → Prop) → Prop := fun ρ n P => Φ ρ n fun x n1 => Φs ρ n1 fun xs n2 => P (x :: xs) n2
def wfLst (Φs : Rho → Int → (List PyData → Int → Prop) → Prop) : Rho → Int → (List PyData → Int → Prop) → Prop := fun ρ n P => Φs ρ n fun es n1 => ∃ fs, lim es = some fs ∧ P fs n1
def wfP (φ : Rho → Option (List PyData)) : Rho → Int → (List PyData → Int → Prop) → Prop := fun ρ n P => ∃ es, φ ρ = some es ∧ P es n
def wL (Φ : Rho → Int → (List PyData → Int → Prop) → Prop) : Rho → Int → (PyData → Int → Prop) → Prop := fun ρ n P => Φ ρ n fun es n1 => P (.list es) n1
def wOp (f : PyData → PyData → Option PyData) (Φ Ψ : Rho → Int → (PyData → Int → Prop) → Prop) : Rho → Int → (PyData → Int → Prop) → Prop := fun ρ n P => Φ ρ n fun x n1 => Ψ ρ n1 fun y n2 => ∃ e, f x y = some e ∧ P e n2
def wCb (f : List PyData → Option PyData) (Φs : Rho → Int → (List PyData → Int → Prop) → Prop) : Rho → Int → (PyData → Int → Prop) → Prop := fun ρ n P => Φs ρ n fun es n1 => ∃ e, f es = some e ∧ P e n1
def wDraw (d : Addr) (i : Nat) (W : Addr → List PyData → Int → (PyData → Int → Prop) → Prop) (Φs : Rho → Int → (List PyData → Int → Prop) → Prop) : Rho → Int → (PyData → Int → Prop) → Prop := fun ρ n P => ρ[i]? = some (.deck d) ∧ Φs ρ n fun es n1 => W d es n1 P
def wfCat (Φ Ψ : Rho → Int → (List PyData → Int → Prop) → Prop) : Rho → Int → (List PyData → Int → Prop) → Prop := fun ρ n P => Φ ρ n fun x n1 => Ψ ρ n1 fun y n2 => ∃ e, lim (x ++ y) = some e ∧ P e n2
/-- a def that draws: its deck first -/
def spW (K : PySem.W.Frag) (W : Addr → List PyData → Int → (PyData → Int → Prop) → Prop) : Sp := fun vs H Q _ => ∃ (S : List Addr) (d b c : Addr) (n : Int) (ws : List V) (ds : List PyData) (P : PyData → Int → Prop), vs = .ref d :: ws ∧ Ck S d b c n H ∧ (∀ a ∈ S, ∃ xs, H a = some (.lst xs)) ∧ DaAll K (hs S H) ws ds ∧ W d ds n P ∧
  ∀ v e n' H', P e n' → Same (msk d b H) (msk d b H') → Dk d b c n' H' → Da K (hs S H') v e → Q v H'
theorem Dr.pure {d b c : Addr} {n : Int} {H H' : Hp} (dk : Dk d b c n H) (s : Same H H') : Dr d b c n H n H' := (Dr.refl dk).more s
theorem Dr.then {d b c : Addr} {n1 n2 : Int} {H H1 H2 : Hp} (h : Dr d b c n1 H n1 H1) (k : Dr d b c n2 H1 n2 H2) : Dr d b c n2 H n2 H2 := ⟨k.dk, Int.le_refl _, h.sm.trans k.sm⟩
section
variable {K : PySem.W.Frag} {d : Addr}
theorem EvS.w {te : TE} {φ : Rho → Option PyData} (h : EvS K te φ) : EvW K d te (wP φ) := fun S H0 b c n G T ow ρ σ H P sm ⟨e, h1, h2⟩ Q q =>
  h _ _ G T ow ρ σ H e sm.co h1 Q fun v H' s hd => q v e n H' h2 (.pure sm.ck.dk s) hd
theorem EvF.w {te : TE} {φ : Rho → Option (List PyData)} (h : EvF K te φ) : EvFW K d te (wfP φ) := fun S H0 b c n G T ow ρ σ H P sm ⟨e, h1, h2⟩ Q q =>
  h _ _ G T ow ρ σ H e sm.co h1 Q fun p vs H' s hp hp' hd => q p vs e n H' h2 (.pure sm.ck.dk s) hp hp' hd
theorem EvFW.s {te : TE} {Φ : Rho → Int → (List PyData → Int → Prop) → Prop} (h : EvFW K d te Φ) : EvW K d te (wL Φ) := fun S H0 b c n G T ow ρ σ H P sm h1 Q q =>
  h S H0 b c n G T ow ρ σ H _ sm h1 Q fun p vs es n' H' hP dr hp hp' hd => q (.ref p) (.list es) n' H' hP dr (.lst (SqL.of (hs_at (sm.co.tr.out hp) hp')) (hd.mono hs_cons_sub))
theorem wa_nil : EvAW K d tNil wNil := fun S H0 b c n G T ow ρ σ H P sm h1 Q q => q [] [] n H h1 (.pure sm.ck.dk (Same.refl _)) .nil
theorem wa_cons {te : TE} {ta : TA} {Φ : Rho → Int → (PyData → Int → Prop) → Prop} {Φs : Rho → Int → (List PyData → Int → Prop) → Prop} (h : EvW K d te Φ) (hr : EvAW K d ta Φs) : EvAW K d (tCons te ta) (wCons Φ Φs) := fun S H0 b c n G T ow ρ σ H P sm h1 Q q =>
  h S H0 b c n G T ow ρ σ H _ sm h1 _ fun v e n1 H1 hP d1 hv => hr S H0 b c n1 G T ow ρ σ H1 _ (sm.draw d1) hP _ fun vs es n2 H2 hP2 d2 hvs => q (v :: vs) (e :: es) n2 H2 hP2 (d1.then d2) (.cons (hv.mono ((sm.draw d1).ck.sm d2)) hvs)
theorem xfw_lst {ta : TA} {Φs : Rho → Int → (List PyData → Int → Prop) → Prop} (h : EvAW K d ta Φs) : EvFW K d (tLst ta) (wfLst Φs) := fun S H0 b c n G T ow ρ σ H P sm h1 Q q =>
  h S H0 b c n G T ow ρ σ H _ sm h1 _ fun vs es n1 H1 ⟨fs, hl, hP⟩ d1 hvs => by
    obtain ⟨hl, rfl⟩ := lim_some hl
    exact ⟨Evl.sz_of (by rw [DaAll.len hvs]; exact hl), fun p hp => q p vs _ n1 _ hP (d1.new hp) (d1.free hp) upd_same (hvs.mono (hs_cons_new hp))⟩
theorem xw_op {r : R2} {f : PyData → PyData → Option PyData} {ta tb : TE} {Φ Ψ : Rho → Int → (PyData → Int → Prop) → Prop} (hr : OpS K r f) (ha : EvW K d ta Φ) (hb : EvW K d tb Ψ) : EvW K d (tOp r ta tb) (wOp f Φ Ψ) := fun S H0 b c n G T ow ρ σ H P sm h1 Q q =>
  ha S H0 b c n G T ow ρ σ H _ sm h1 _ fun v x n1 H1 hP d1 hv => hb S H0 b c n1 G T ow ρ σ H1 _ (sm.draw d1) hP _ fun u y n2 H2 ⟨e, he, hP2⟩ d2 hu =>
    hr T H2 v u x y e (sm.draw (d1.then d2)).co.tr (.inl (hv.mono ((sm.draw d1).ck.sm d2))) (.inl hu) he _ fun z H3 s3 hz => q z e n2 H3 hP2 ((d1.then d2).more s3) hz
/-- a list whose items are told: new, or of a slot -/
def EvLW (K : PySem.W.Frag) (d : Addr) (te : TE) (Φ : Rho → Int → (List PyData → Int → Prop) → Prop) : Prop := ∀ S H0 b c n G T ow ρ σ H P, SimW K S H0 d b c n G T ow ρ σ H → Φ ρ n P → ∀ Q : VK, (∀ p vs es n' H', P es n' → Dr d b c n' H n' H' → (p ≠ d ∧ p ≠ b ∧ p ≠ c) → H' p = some (.lst vs) → DaAll K (hs T H') vs es → Q (.ref p) H') → te σ H Q
theorem EvFW.l {te : TE} {Φ : Rho → Int → (List PyData → Int → Prop) → Prop} (h : EvFW K d te Φ) : EvLW K d te Φ := fun S H0 b c n G T ow ρ σ H P sm h1 Q q =>
  h S H0 b c n G T ow ρ σ H _ sm h1 Q fun p vs es n' H' hP dr hp hp' hd => q p vs es n' H' hP dr (sm.ck.dk.off hp) hp' (hd.mono hs_cons_sub)
theorem xlw_own (i : Nat) : EvLW K d (tVar i) (wfP (lOwn i)) := fun S H0 b c n G T ow ρ σ H P sm ⟨es, h1, h2⟩ Q q => by
  obtain ⟨o, ho, fo, vs, rfl, k1, k2, k3⟩ := sm.co.slot i _ (ro_some h1)
  exact ⟨_, ho, q fo vs es n H h2 (.pure sm.ck.dk (Same.refl _)) (sm.new fo k1).2 k2 k3⟩
theorem xfw_cat {ta tb : TE} {Φ Ψ : Rho → Int → (List PyData → Int → Prop) → Prop} (ha : EvLW K d ta Φ) (hb : EvLW K d tb Ψ) : EvFW K d (tOp rCat ta tb) (wfCat Φ Ψ) := fun S H0 b c n G T ow ρ σ H P sm h1 Q q =>
  ha S H0 b c n G T ow ρ σ H _ sm h1 _ fun p vs es n1 H1 hP d1 off hp' hd => hb S H0 b c n1 G T ow ρ σ H1 _ (sm.draw d1) hP _ fun p2 us fs n2 H2 ⟨e, he, hP2⟩ d2 off2 hp2' hd2 => by
    obtain ⟨hl, rfl⟩ := lim_some he
    refine ⟨p, p2, vs, us, rfl, rfl, d2.at off hp', hp2', ?_, fun t ht => ?_⟩
    · refine Evl.sz_of ?_
      rw [DaAll.len hd, DaAll.len hd2, ← List.length_append]
      exact hl
    · have d12 := d1.then d2
      exact q t _ _ n2 _ hP2 (d12.new ht) (d12.free ht) upd_same (((hd.mono ((sm.draw d1).ck.sm d2)).append hd2).mono (hs_cons_new ht))
theorem xw_draw {W : Addr → List PyData → Int → (PyData → Int → Prop) → Prop} {i : Nat} {ta : TA} {Φs : Rho → Int → (List PyData → Int → Prop) → Prop} {E : XK} (ha : EvAW K d ta Φs) : EvW K d (tCall (spW K W) [] E (tCons (tVar i) ta)) (wDraw d i W Φs) := fun S H0 b c n G T ow ρ σ H P sm ⟨h0, h1⟩ Q q => by
  obtain ⟨o, ho, eo⟩ := sm.co.slot i _ h0
  have eo' : o = some (.ref d) := eo
  subst eo'
  refine ⟨.ref d, ho, ha S H0 b c n G T ow ρ σ H _ sm h1 _ fun vs es n1 H1 hP d1 hvs => ?_⟩
  show spW K W ((.ref d :: vs) ++ []) H1 Q E
  rw [List.append_nil]
  exact ⟨T, d, b, c, n1, vs, es, P, rfl, (sm.draw d1).ck, fun a ha => ((sm.draw d1).co.lsT a ha).elim (fun z => absurd z List.not_mem_nil) id, hvs, hP, fun v e n' H' hP' hm hk hd => q v e n' H' hP' (d1.then ⟨hk, Int.le_refl _, hm⟩) hd⟩
/-! statements -/
def SimS (K : PySem.W.Frag) (S : List Addr) (H0 : Hp) (d b c : Addr) (n : Int) (G : Hp → Prop) (ρ : Rho) (σ : L2.St) (H : Hp) : Prop := ∃ T ow, SimW K S H0 d b c n G T ow ρ σ H
end
section
variable (K : PySem.W.Frag) (d : Addr)
def EndW (S : List Addr) (H0 : Hp) (b c : Addr) (G : Hp → Prop) (D : Ends) (n : Int) : Res → Prop
  | .nx ρ => ∀ σ H, SimS K S H0 d b c n G ρ σ H → D.nx σ H
  | .rt e => ∀ v H, Same (msk d b H0) (msk d b H) → Dk d b c n H → Da K (hs S H) v e → D.rt v H
  | .bk ρ => ∀ σ H, SimS K S H0 d b c n G ρ σ H → D.bk σ H
  | .ct ρ => ∀ σ H, SimS K S H0 d b c n G ρ σ H → D.ct σ H
  | .ex _ => False
def StW (ts : TS) (Ψ : Rho → Int → (Res → Int → Prop) → Prop) : Prop := ∀ S H0 b c n G ρ σ H P, SimS K S H0 d b c n G ρ σ H → Ψ ρ n P → ∀ D : Ends, (∀ r n', P r n' → EndW K d S H0 b c G D n' r) → ts D σ H
end
def twP (ψ : Rho → Option Res) : Rho → Int → (Res → Int → Prop) → Prop := fun ρ n P => ∃ r, ψ ρ = some r ∧ P r n
def thenW (r : Res) (n : Int) (Χ : Rho → Int → (Res → Int → Prop) → Prop) (P : Res → Int → Prop) : Prop := match r with
  | .nx ρ => Χ ρ n P
  | r => P r n
def twSeq (Ψ Χ : Rho → Int → (Res → Int → Prop) → Prop) : Rho → Int → (Res → Int → Prop) → Prop := fun ρ n P => Ψ ρ n fun r n1 => thenW r n1 Χ P
def twIf (β : Rho → Option Bool) (Ψ Χ : Rho → Int → (Res → Int → Prop) → Prop) : Rho → Int → (Res → Int → Prop) → Prop := fun ρ n P => ∃ c, β ρ = some c ∧ if c then Ψ ρ n P else Χ ρ n P
def twSet (τ : PyData → Rho → Option Rho) (Φ : Rho → Int → (PyData → Int → Prop) → Prop) : Rho → Int → (Res → Int → Prop) → Prop := fun ρ n P => Φ ρ n fun e n1 => ∃ ρ', τ e ρ = some ρ' ∧ P (.nx ρ') n1
def twOwn (i : Nat) (Φ : Rho → Int → (List PyData → Int → Prop) → Prop) : Rho → Int → (Res → Int → Prop) → Prop := fun ρ n P => Φ ρ n fun es n1 => P (.nx (ρ.set i (.own es))) n1
def twRet (Φ : Rho → Int → (PyData → Int → Prop) → Prop) : Rho → Int → (Res → Int → Prop) → Prop := fun ρ n P => Φ ρ n fun e n1 => P (.rt e) n1
def twPar (i j : Nat) (Φs : Rho → Int → (List PyData → Int → Prop) → Prop) : Rho → Int → (Res → Int → Prop) → Prop := fun ρ n P => Φs ρ n fun es n1 => ∃ a b, es = [a, b] ∧ P (.nx ((ρ.set i (.val a)).set j (.val b))) n1
def forW (B : PyData → Rho → Int → (Res → Int → Prop) → Prop) : List PyData → Rho → Int → (Res → Int → Prop) → Prop
  | [], ρ, n, P => P (.nx ρ) n
  | e :: es, ρ, n, P => B e ρ n fun r n1 => match r with
    | .nx ρ' => forW B es ρ' n1 P
    | .ct ρ' => forW B es ρ' n1 P
    | .bk ρ' => P (.nx ρ') n1
    | r => P r n1
def twFor (it : Rho → Option (List PyData)) (τ : PyData → Rho → Option Rho) (Ψ : Rho → Int → (Res → Int → Prop) → Prop) : Rho → Int → (Res → Int → Prop) → Prop := fun ρ n P => ∃ es, it ρ = some es ∧ forW (fun e ρ n P => ∃ ρ', τ e ρ = some ρ' ∧ Ψ ρ' n P) es ρ n P
section
variable {K : PySem.W.Frag} {d : Addr}
theorem StP.w {cl : Str → Addr} {E : XK} {ts : TS} {ψ : Rho → Option Res} (h : StP K cl E ts ψ) : StW K d ts (twP ψ) := fun S H0 b c n G ρ σ H P ⟨T, ow, sm⟩ ⟨r, h1, h2⟩ D q => by
  refine h (d :: b :: S) (hs ow H) G ρ σ H r ⟨T, ow, sm.pure⟩ h1 D ?_
  have e := q r n h2
  cases r with
  | nx ρ' => exact fun σ' H' ⟨T', ow', k⟩ => e σ' H' ⟨T', ow', sm.back k⟩
  | bk ρ' => exact fun σ' H' ⟨T', ow', k⟩ => e σ' H' ⟨T', ow', sm.back k⟩
  | ct ρ' => exact fun σ' H' ⟨T', ow', k⟩ => e σ' H' ⟨T', ow', sm.back k⟩
  | ex o => exact e.elim
  | rt x =>
    intro v H' s hv
    have dno : d ∉ ow := fun z => (sm.new d z).2.1 rfl
    have bno : b ∉ ow := fun z => (sm.new b z).2.2.1 rfl
    have cno : c ∉ ow := fun z => (sm.new c z).2.2.2 rfl
    refine e v H' ?_ ?_ (hv.mono (msk_to_hs fun a ha => by simp [ha]))
    · intro a o ea
      have e1 := sm.old a o ea
      obtain ⟨z1, z2, z3⟩ := msk_some e1
      obtain ⟨_, _, y3⟩ := msk_some ea
      have : a ∉ ow := fun z => by
        rw [(sm.new a z).1] at y3
        cases y3
      rw [msk_ne z1 z2]
      exact s _ _ (hs_at this z3)
    · obtain ⟨e1, e2, e3, e4, e5, ⟨bs, e6⟩, ⟨cs, e7, e8⟩⟩ := sm.ck.dk
      exact ⟨e1, e2, e3, e4, s _ _ (hs_at dno e5), ⟨bs, s _ _ (hs_at bno e6)⟩, ⟨cs, s _ _ (hs_at cno e7), e8⟩⟩
theorem sw_seq {t u : TS} {Ψ Χ : Rho → Int → (Res → Int → Prop) → Prop} (h : StW K d t Ψ) (k : StW K d u Χ) : StW K d (tSeq t u) (twSeq Ψ Χ) := fun S H0 b c n G ρ σ H P sm h1 D q => by
  refine h S H0 b c n G ρ σ H _ sm h1 _ fun r n1 hr => ?_
  cases r with
  | nx ρ' => exact fun σ' H' sm' => k S H0 b c n1 G ρ' σ' H' P sm' hr D q
  | rt e => exact q _ _ hr
  | bk ρ' => exact q _ _ hr
  | ct ρ' => exact q _ _ hr
  | ex o => exact q _ _ hr
theorem sw_if {t : TT} {u v : TS} {β : Rho → Option Bool} {Ψ Χ : Rho → Int → (Res → Int → Prop) → Prop} (ht : TeP K t β) (h : StW K d u Ψ) (k : StW K d v Χ) : StW K d (tIfS t u v) (twIf β Ψ Χ) := fun S H0 b c n G ρ σ H P ⟨T, ow, sm⟩ ⟨x, h1, h2⟩ D q => by
  refine ht _ _ G T ow ρ σ H x sm.co h1 _ fun H1 s1 => ?_
  cases x with
  | true => exact h S H0 b c n G ρ σ H1 P ⟨T, ow, sm.mono s1⟩ (by simpa using h2) D q
  | false => exact k S H0 b c n G ρ σ H1 P ⟨T, ow, sm.mono s1⟩ (by simpa using h2) D q
theorem SimW.putV {K : PySem.W.Frag} {S : List Addr} {H0 : Hp} {d b c : Addr} {n : Int} {G : Hp → Prop} {T ow : List Addr} {ρ ρ' : Rho} {σ σ' : L2.St} {H : Hp} (h : SimW K S H0 d b c n G T ow ρ σ H) (k : SimO K [] (fun _ => none) G T ow ρ' σ' H) : SimW K S H0 d b c n G T ow ρ' σ' H := ⟨k, h.ck, h.old, h.new, h.sub, h.trS⟩
theorem sw_set {te : TE} {g : TG} {js : List Nat} {Φ : Rho → Int → (PyData → Int → Prop) → Prop} {τ : PyData → Rho → Option Rho} (h : EvW K d te Φ) (hg : TgP K g js τ) : StW K d (tAsg te g) (twSet τ Φ) := fun S H0 b c n G ρ σ H P ⟨T, ow, sm⟩ h1 D q =>
  h S H0 b c n G T ow ρ σ H _ sm h1 _ fun v e n1 H1 ⟨ρ', h2, h3⟩ d1 hv => hg _ _ G T ow ρ σ H1 v e ρ' (sm.draw d1).co hv h2 _ fun σ' sm' _ => q _ n1 h3 σ' H1 ⟨T, ow, (sm.draw d1).putV sm'⟩
theorem sw_par {ta : TA} {i j : Nat} {Φs : Rho → Int → (List PyData → Int → Prop) → Prop} (h : EvAW K d ta Φs) : StW K d (tPar i j ta) (twPar i j Φs) := fun S H0 b c n G ρ σ H P ⟨T, ow, sm⟩ h1 D q =>
  h S H0 b c n G T ow ρ σ H _ sm h1 _ fun vs es n1 H1 ⟨x, y, e, hP⟩ d1 hv => by
    subst e
    cases hv with
    | cons k1 hv =>
      cases hv with
      | cons k2 hv =>
        cases hv
        exact ⟨_, _, rfl, q _ n1 hP _ H1 ⟨T, ow, (sm.draw d1).putV (((sm.draw d1).co.setV k1).setV k2)⟩⟩
theorem sw_ret {te : TE} {Φ : Rho → Int → (PyData → Int → Prop) → Prop} (h : EvW K d te Φ) : StW K d (tRet te) (twRet Φ) := fun S H0 b c n G ρ σ H P ⟨T, ow, sm⟩ h1 D q =>
  h S H0 b c n G T ow ρ σ H _ sm h1 _ fun v e n1 H1 hP d1 hv => q _ n1 hP v H1 (sm.old.trans d1.sm) d1.dk (hv.mono (msk_to_hs sm.sub))
theorem sw_own {te : TE} {i : Nat} {Φ : Rho → Int → (List PyData → Int → Prop) → Prop} (h : EvFW K d te Φ) : StW K d (tAsg te (gName i)) (twOwn i Φ) := fun S H0 b c n G ρ σ H P ⟨T, ow, sm⟩ h1 D q =>
  h S H0 b c n G T ow ρ σ H _ sm h1 _ fun p vs es n1 H1 hP d1 hp hp' hd => by
    refine q _ n1 hP _ H1 ⟨p :: T, p :: ow, ?_⟩
    have off := sm.ck.dk.off hp
    have smT := sm.ck.sm d1
    have smP : Same (hs T H) (hs (p :: T) H1) := fun a o e => by
      obtain ⟨h1, h2⟩ := hs_some e
      have ne : a ≠ p := fun z => by
        rw [z, hp] at h2
        cases h2
      have := smT a o e
      rw [hs_out h1] at this
      rw [hs_out (by simp [ne, h1])]
      exact this
    have w1 := sm.draw d1
    have pno : ∀ (j : Nat) (es' : List PyData), ρ[j]? = some (.own es') → σ[j]? ≠ some (some (.ref p)) := fun j es' e z => by
      obtain ⟨o, ho, fo, ws, e1, _, e3, _⟩ := sm.co.slot j _ e
      rw [ho] at z
      cases z
      cases e1
      rw [hp] at e3
      cases e3
    have H0p : H0 p = none := by
      cases e : H0 p with
      | none => rfl
      | some o =>
        have := sm.old p o (by rw [msk_ne off.1 off.2.1]; exact e)
        rw [msk_ne off.1 off.2.1, hp] at this
        cases this
    have trP : Tr (p :: T) H1 := fun x hx => by
      rcases List.mem_cons.mp hx with rfl | hx
      · exact ⟨_, hp'⟩
      · exact w1.co.tr x hx
    refine ⟨?_, ⟨d1.dk, List.mem_cons_of_mem _ sm.ck.hd, List.mem_cons_of_mem _ sm.ck.hb, trP⟩, sm.old.trans d1.sm, ?_, fun a ha => List.mem_cons_of_mem _ (sm.sub a ha), sm.trS⟩
    · refine { len := by rw [List.length_set, List.length_set, sm.co.len], old := fun _ _ e => (by cases e), new := fun _ _ => rfl, sub := fun _ h => absurd h List.not_mem_nil, trS := fun _ h => absurd h List.not_mem_nil, mo := sm.co.mo, fr := sm.co.mo _ _ smP sm.co.fr, tr := trP, owT := ?owT, slot := ?slot, inj := ?inj, lsT := ?lsT }
      case lsT =>
        intro x hx
        rcases List.mem_cons.mp hx with rfl | hx
        · exact .inr ⟨_, hp'⟩
        · exact w1.co.lsT x hx
      case owT =>
        intro a ha
        rcases List.mem_cons.mp ha with rfl | ha
        · exact List.mem_cons_self
        · exact List.mem_cons_of_mem _ (sm.co.owT a ha)
      case slot =>
        intro j sl e
        by_cases hj : i = j
        · subst hj
          rw [List.getElem?_set] at e
          simp only [if_true] at e
          split at e
          · rename_i hl
            cases e
            refine ⟨some (.ref p), by rw [List.getElem?_set_self (by rw [sm.co.len]; exact hl)], p, vs, rfl, List.mem_cons_self, hp', hd⟩
          · cases e
        · rw [List.getElem?_set_ne hj] at e ⊢
          obtain ⟨o, ho, hs'⟩ := sm.co.slot j sl e
          exact ⟨o, ho, hs'.move smP fun fo ws _ k1 k2 => ⟨List.mem_cons_of_mem _ k1, d1.at (sm.new fo k1).2 k2⟩⟩
      case inj =>
        intro a b es1 es2 hab e1 e2
        by_cases ha : i = a
        · subst ha
          rw [List.getElem?_set_ne hab] at e2 ⊢
          intro z
          have hl : i < ρ.length := by
            rw [List.getElem?_set] at e1
            simp only [if_true] at e1
            split at e1
            · assumption
            · cases e1
          rw [List.getElem?_set_self (by rw [sm.co.len]; exact hl)] at z
          exact pno b es2 e2 z.symm
        · rw [List.getElem?_set_ne ha] at e1 ⊢
          by_cases hb : i = b
          · subst hb
            have hl : i < ρ.length := by
              rw [List.getElem?_set] at e2
              simp only [if_true] at e2
              split at e2
              · assumption
              · cases e2
            rw [List.getElem?_set_self (by rw [sm.co.len]; exact hl)]
            exact pno a es1 e1
          · rw [List.getElem?_set_ne hb] at e2 ⊢
            exact sm.co.inj a b es1 es2 hab e1 e2
    · intro a ha
      rcases List.mem_cons.mp ha with rfl | ha
      · exact ⟨H0p, off⟩
      · exact sm.new a ha
/-- for -/
theorem SimW.weak {K : PySem.W.Frag} {S : List Addr} {H0 : Hp} {d b c : Addr} {n : Int} {G G' : Hp → Prop} {T ow : List Addr} {ρ : Rho} {σ : L2.St} {H : Hp} (h : SimW K S H0 d b c n G T ow ρ σ H) (mo : ∀ H H', Same H H' → G' H → G' H') (hg : G' (hs T H)) : SimW K S H0 d b c n G' T ow ρ σ H := ⟨h.co.weak mo hg, h.ck, h.old, h.new, h.sub, h.trS⟩
theorem for_core {g : TG} {tb : TS} {js : List Nat} {τ : PyData → Rho → Option Rho} {Ψ : Rho → Int → (Res → Int → Prop) → Prop} (hg : TgP K g js τ) (hb : StW K d tb Ψ) {S : List Addr} {H0 : Hp} {b c : Addr} {n : Int} {G : Hp → Prop} {T ow : List Addr} {ρ : Rho} {σ : L2.St} {H1 : Hp} {P : Res → Int → Prop} {D : Ends} {J : It} {es : List PyData}
    (sm : SimW K S H0 d b c n G T ow ρ σ H1) (it : ItOk K T H1 J es) (h2 : forW (fun e ρ n P => ∃ ρ', τ e ρ = some ρ' ∧ Ψ ρ' n P) es ρ n P) (q : ∀ r n', P r n' → EndW K d S H0 b c G D n' r) :
    ∃ W : Nat → Nat → L2.St → Hp → Prop, (∃ m, W 0 m σ H1) ∧ ∀ i m σ H, W i m σ H → (J.stop i H ∧ D.nx σ H) ∨ (J.go i H ∧ ∃ N : L2.St → Hp → Prop, (∀ σ' H', N σ' H' → ∃ m', m' < m ∧ W (i + 1) m' σ' H') ∧ ∀ x H', J.yld i H x H' → g x σ H' fun σ2 H2 => tb { D with nx := N, ct := N, bk := D.nx } σ2 H2) := by
  obtain ⟨F, Gw, Yw, mo, f0, wk, hG, hY⟩ := it
  have wkn : ∀ {ρ' : Rho} {σ' : L2.St} {H' : Hp} {n' : Int}, SimS K S H0 d b c n' (fun X => G X ∧ F X) ρ' σ' H' → SimS K S H0 d b c n' G ρ' σ' H' := fun ⟨T', ow', sm'⟩ => ⟨T', ow', sm'.weak sm.co.mo sm'.co.fr.1⟩
  refine for_it wk (fun i σ' H' => ∃ ρ' n', SimS K S H0 d b c n' (fun X => G X ∧ F X) ρ' σ' H' ∧ forW (fun e ρ n P => ∃ ρ', τ e ρ = some ρ' ∧ Ψ ρ' n P) (es.drop i) ρ' n' P) ?_ ?_ ?_ ?_
  · exact ⟨ρ, n, ⟨T, ow, sm.weak (fun H H' s h => ⟨sm.co.mo _ _ s h.1, mo _ _ s h.2⟩) ⟨sm.co.fr, f0⟩⟩, h2⟩
  · rintro i σ' H' _ ⟨ρ', n', ⟨T', ow', sm'⟩, _⟩
    exact hG _ _ sm'.co.fr.2
  · rintro i x σ' H2 H3 hlt ⟨ρ', n', ⟨T', ow', sm'⟩, e4⟩ y
    obtain ⟨s3, e, he3, hx⟩ := hY _ H2 i x H3 sm'.co.fr.2 sm'.co.tr hlt y
    have dr : es.drop i = e :: es.drop (i + 1) := by
      rw [List.drop_eq_getElem_cons hlt]
      congr 1
      rw [List.getElem?_eq_getElem hlt] at he3
      exact Option.some.inj he3
    rw [dr] at e4
    obtain ⟨ρ2, k3, k4⟩ := e4
    refine hg _ _ _ _ ow' _ _ H3 x e ρ2 (sm'.mono s3).co hx k3 _ fun σ2 sm4 _ => hb S H0 b c n' _ ρ2 σ2 H3 _ ⟨T', ow', (sm'.mono s3).putV sm4⟩ k4 _ fun r1 n1 k2 => ?_
    cases r1 with
    | nx ρ3 => exact fun σ5 H5 sm5 => ⟨ρ3, n1, sm5, k2⟩
    | ct ρ3 => exact fun σ5 H5 sm5 => ⟨ρ3, n1, sm5, k2⟩
    | bk ρ3 => exact fun σ5 H5 sm5 => q _ _ k2 σ5 H5 (wkn sm5)
    | rt x => exact q _ _ k2
    | ex o => exact q _ _ k2
  · rintro σ' H' ⟨ρ', n', sm', e4⟩
    rw [List.drop_length] at e4
    exact q _ _ e4 σ' H' (wkn sm')
theorem sw_for {wi : TI} {g : TG} {tb : TS} {js : List Nat} {it : Rho → Option (List PyData)} {τ : PyData → Rho → Option Rho} {Ψ : Rho → Int → (Res → Int → Prop) → Prop} (hi : ItP K wi it) (hg : TgP K g js τ) (hb : StW K d tb Ψ) : StW K d (tFor wi g tb) (twFor it τ Ψ) := fun S H0 b c n G ρ σ H P ⟨T, ow, sm⟩ ⟨es, h1, h2⟩ D q =>
  hi _ _ G T ow ρ σ H es sm.co h1 _ fun J H1 s1 ok => for_core hg hb (sm.mono s1) ok h2 q
end
end Pb

set_option Elab.async false
set_option linter.all false
set_option maxRecDepth 100000
namespace Pb
open PySem PySem.Spec PyProof.Rows L2
/-! ### repr -/
/-! ### the law -/
section
variable {P : Program} {w : World} {K : PySem.W.Frag} {mg : Str → Option Value} {base : Heap}
def rhoL (n : Nat) (d : Addr) : Rho := .no :: .deck d :: List.replicate (n - 2) .no
theorem fn_law {x qual : Str} {st : Stmt} {f : Addr} {fd : FuncData} {N : List Str} {k : Nat} {Ψ : Addr → Rho → Int → (Res → Int → Prop) → Prop} (F : Fun K x qual st f fd) (S : FnScope N ["_law_script"] (defScope st)) (hN : 2 ≤ N.length)
    (hbody : ∀ (cdv : Value) (A : Around) (fr : List Env) (t : Shared) (H : Hp), (A.deeper (envOfC qual (defScope st) t.heap.objs.size f cdv)).guards = some [] → Room k (A.deeper (envOfC qual (defScope st) t.heap.objs.size f cdv)) →
      ∃ r, PSs (cxOf CX0 P w K mg base N qual (defScope st) f cdv A fr t H E0).nox (defBody st) (tSeq (tAsg (tCall (spDeck K) [] E0 (tCons (tVar 0) tNil)) (gName 1)) r) ∧ ∀ d, StW K d r (Ψ d))
    (hP : ∀ d, Ψ d (rhoL N.length d) 0 fun r _ => r = .rt (.bool true)) : RunG P w K mg base (k + 1) f fd ["_law_script"] (spLaw K) := by
  refine runG_of F S (fun vs H Q E h => ?_) (fun cdv A fr t H vs Q hg hr h => ?_)
  · obtain ⟨a, ns, rfl, _⟩ := h
    rfl
  · obtain ⟨a, ns, rfl, hS, hl, q⟩ := h
    obtain ⟨r, h1, h2⟩ := hbody cdv A fr t H hg hr
    refine ⟨_, h1, ?_⟩
    refine ⟨.ref a, rfl, a, ns, rfl, hS, hl, fun d b c H1 dk hd hb hs' => ?_⟩
    refine h2 d [] (fun _ => none) b c 0 (fun _ => True) (rhoL N.length d) _ H1 _ ⟨[d, b], [], ?_⟩ (hP d) _ fun r n' hr' => ?_
    · refine ⟨?_, Ck.two dk, fun _ _ e => (by
        have := (msk_some e).2.2
        cases this), fun a ha => absurd ha List.not_mem_nil, fun a ha => absurd ha List.not_mem_nil, fun a ha => absurd ha List.not_mem_nil⟩
      obtain ⟨m, hm⟩ : ∃ m, N.length = m + 2 := ⟨N.length - 2, by omega⟩
      have e1 : start N [V.ref a] = some (.ref a) :: none :: List.replicate m none := by
        unfold L2.start
        rw [hm]
        show [some (V.ref a)] ++ List.replicate (m + 1) none = _
        rw [List.replicate_succ]
        rfl
      have e2 : rhoL N.length d = .no :: .deck d :: List.replicate m .no := by
        unfold rhoL
        rw [hm]
        rfl
      rw [e1, e2]
      refine { len := by simp, slot := ?slot, inj := ?inj, old := fun _ _ e => (by cases e), new := fun _ _ => rfl, sub := fun _ h => absurd h List.not_mem_nil, owT := fun _ h => absurd h List.not_mem_nil, tr := (Ck.two dk).tr, trS := fun _ h => absurd h List.not_mem_nil, mo := fun _ _ _ _ => trivial, fr := trivial, lsT := ?lsT }
      case lsT =>
        intro x hx
        simp only [List.mem_cons, List.not_mem_nil, or_false] at hx
        rcases hx with rfl | rfl
        · exact .inr ⟨_, dk.at_d⟩
        · obtain ⟨bs, e⟩ := dk.at_b
          exact .inr ⟨_, e⟩
      case slot =>
        intro i s e
        match i, e with
        | 0, e =>
          cases e
          exact ⟨_, rfl, trivial⟩
        | 1, e =>
          cases e
          exact ⟨_, rfl, rfl⟩
        | i + 2, e =>
          have e' : (List.replicate m Sl.no)[i]? = some s := e
          rw [List.getElem?_replicate] at e'
          split at e'
          · rename_i hlt
            cases e'
            refine ⟨none, ?_, trivial⟩
            show (List.replicate m (none : Option V))[i]? = some none
            rw [List.getElem?_replicate, if_pos hlt]
          · cases e'
      case inj =>
        intro i j es es' _ e
        match i, e with
        | 0, e => cases e
        | 1, e => cases e
        | i + 2, e =>
          have e' : (List.replicate m Sl.no)[i]? = some (.own es) := e
          rw [List.getElem?_replicate] at e'
          split at e'
          · cases e'
          · cases e'
    · subst hr'
      intro v H' _ _ hv
      cases hv
      exact q H'
end
/-! ### the earlier contracts as transformers -/
theorem fnok_weaker {P : Program} {w : World} {K : PySem.W.Frag} {mg : Str → Option Value} {base : Heap} {cx : CXT} {k : Nat} {f : Addr} {fd : FuncData} {ps : List Str} {sp sp' : Sp} (h : FnOk P w K mg base cx k f fd ps sp) (hs' : ∀ vs H Q E, sp' vs H Q E → sp vs H Q E) : FnOk P w K mg base cx k f fd ps sp' :=
  ⟨fun vs H Q E z => h.len vs H Q E (hs' vs H Q E z), fun A outer s H args us vs Q E hr e0 hb rv hsp => h.run A outer s H args us vs Q E hr e0 hb rv (hs' vs H Q E hsp)⟩
theorem Cl.weaker {P : Program} {w : World} {K : PySem.W.Frag} {mg : Str → Option Value} {base : Heap} {k : Nat} {x : Str} {ps : List Str} {sp sp' : Sp} (h : Cl P w K mg base k x ps sp) (hs' : ∀ vs H Q E, sp' vs H Q E → sp vs H Q E) : Cl P w K mg base k x ps sp' := by
  obtain ⟨f, fd, h1, h2, h3, h4⟩ := h.ex
  exact ⟨f, fd, fnok_weaker h1 hs', h2, h3, h4⟩
def WNext : Addr → List PyData → Int → (PyData → Int → Prop) → Prop := fun _ ds n P => ∃ m : Int, ds = [.int m] ∧ n < 2 ^ 50 ∧ 0 < m ∧ m < 1073741824 ∧ ∀ v n' : Int, 0 ≤ v → v < m → n' ≤ n + 1 → P (.int v) n'
def WOdd : Addr → List PyData → Int → (PyData → Int → Prop) → Prop := fun _ ds n P => ds = [] ∧ n < 2 ^ 50 ∧ ∀ e n', e ∈ oddL → n' ≤ n + 1 → P e n'
def WTable : Addr → List PyData → Int → (PyData → Int → Prop) → Prop := fun _ ds n P => ∃ m k : Nat, ds = [.int m, .int k] ∧ n < 2 ^ 39 ∧ 1 ≤ m ∧ m ≤ 10 ∧ k ≤ 10 ∧ ∀ (m' : Nat) (os : List (List Int)) (n' : Int), 1 ≤ m' → m' ≤ m → os.length ≤ k → (∀ o ∈ os, OffOk m' o) → n' ≤ n + 1003 → P (tabD m' os) n'
def WMk : Addr → List PyData → Int → (PyData → Int → Prop) → Prop := fun _ ds n P => ∃ m k : Nat, ds = [.int m, .int k] ∧ n < 2 ^ 40 ∧ 1 ≤ m ∧ m ≤ 10 ∧ k ≤ 10 ∧ ∀ (os : List (List Int)) (n' : Int), os.length = k → (∀ o ∈ os, OffOk m o) → n' ≤ n + 1000 → P (tabD m os) n'
def WPart : Addr → List PyData → Int → (PyData → Int → Prop) → Prop := fun _ ds n P => ∃ (x : PyData) (ns : List Int) (sh : Int), ds = [x, .int sh] ∧ (x = .list (ns.map .int) ∨ x = .tuple (ns.map .int)) ∧ n < 2 ^ 50 ∧ ns.length ≤ 1000 ∧ ∀ (ms : List Int) n', ms.Sublist ns → n' ≤ n + ns.length → P (offD ms) n'
def WShuf : Addr → List PyData → Int → (PyData → Int → Prop) → Prop := fun _ ds n P => ∃ m : Nat, ds = [.int m] ∧ n < 2 ^ 50 ∧ m ≤ 1000 ∧ ∀ (os : List Int) n', os.Perm (upto m) → n' ≤ n + m → P (offD os) n'
section
variable {K : PySem.W.Frag}
theorem da_ints_of {H : Hp} {a : Addr} {ns : List Int} (h : SqT K H a (ns.map V.int)) : Da K H (.ref a) (offD ns) := .tup h (DaAll.ints ns)
theorem one_arg {H : Hp} {ws : List V} {x : PyData} (h : DaAll K H ws [x]) : ∃ v, ws = [v] ∧ Da K H v x := by
  cases h with
  | cons h1 h2 =>
    cases h2
    exact ⟨_, rfl, h1⟩
theorem SqT.apart {S T : List Addr} {H : Hp} {a : Addr} {xs : List V} (hl : ∀ a ∈ S, ∃ xs, H a = some (.lst xs)) (h1 : SqT K (hs T H) a xs) : SqT K (hs S H) a xs := by
  rcases h1 with (h1 | ⟨o, h1⟩) | h1
  · refine .inl (.inl (hs_at (fun z => ?_) (hs_some h1).2))
    obtain ⟨xs, e⟩ := hl a z
    rw [(hs_some h1).2] at e
    cases e
  · refine .inl (.inr ⟨o, hs_at (fun z => ?_) (hs_some h1).2⟩)
    obtain ⟨xs, e⟩ := hl a z
    rw [(hs_some h1).2] at e
    cases e
  · exact .inr h1
theorem Kvs.apart {S T : List Addr} {H : Hp} (hl : ∀ a ∈ S, ∃ xs, H a = some (.lst xs)) : ∀ {ks : List (Key × V)} {kvs : List (PyData × PyData)}, Kvs K (hs T H) ks kvs → Kvs K (hs S H) ks kvs
  | _, _, .nil => .nil
  | _, _, .cons h k => .cons (by
    cases h with
    | non => exact .non
    | int i => exact .int i
    | tup ns h => exact .tup ns (SqT.apart hl h)) (Kvs.apart hl k)
mutual
theorem Da.apart {S T : List Addr} {H : Hp} (hl : ∀ a ∈ S, ∃ xs, H a = some (.lst xs)) : ∀ (e : PyData) (v : V), Da K (hs T H) v e → nl e = true → Da K (hs S H) v e
  | .none, _, h, _ => by
    cases h
    exact .non
  | .bool b, _, h, _ => by
    cases h
    exact .bl b
  | .int i, _, h, _ => by
    cases h
    exact .int i
  | .str x, _, h, _ => by
    cases h
    exact .str x
  | .list ds, _, _, hn => by simp [nl] at hn
  | .tuple ds, _, h, hn => by
    cases h with
    | @tup a xs _ h1 h2 =>
      refine .tup ?_ (DaAll.apart hl ds _ h2 (by simpa only [nl] using hn))
      rcases h1 with (h1 | ⟨o, h1⟩) | h1
      · refine .inl (.inl (hs_at (fun z => ?_) (hs_some h1).2))
        obtain ⟨xs, e⟩ := hl a z
        rw [(hs_some h1).2] at e
        cases e
      · refine .inl (.inr ⟨o, hs_at (fun z => ?_) (hs_some h1).2⟩)
        obtain ⟨xs, e⟩ := hl a z
        rw [(hs_some h1).2] at e
        cases e
      · exact .inr h1
  | .dict _, _, h, _ => by
    cases h with
    | @emp a h1 =>
      refine .emp (hs_at (fun z => ?_) (hs_some h1).2)
      obtain ⟨xs, e⟩ := hl a z
      rw [(hs_some h1).2] at e
      cases e
    | @dic a o ks _ h1 h2 =>
      refine .dic (hs_at (fun z => ?_) (hs_some h1).2) (Kvs.apart hl h2)
      obtain ⟨xs, e⟩ := hl a z
      rw [(hs_some h1).2] at e
      cases e
theorem DaAll.apart {S T : List Addr} {H : Hp} (hl : ∀ a ∈ S, ∃ xs, H a = some (.lst xs)) : ∀ (es : List PyData) (vs : List V), DaAll K (hs T H) vs es → nlAll es = true → DaAll K (hs S H) vs es
  | [], _, h, _ => by
    cases h
    exact .nil
  | e :: es, _, h, hn => by
    simp only [nlAll, Bool.and_eq_true] at hn
    cases h with
    | cons h1 h2 => exact .cons (Da.apart hl e _ h1 hn.1) (DaAll.apart hl es _ h2 hn.2)
end
theorem nlAll_iff : ∀ {es : List PyData}, nlAll es = true ↔ ∀ e ∈ es, nl e = true
  | [] => ⟨fun _ _ h => absurd h List.not_mem_nil, fun _ => rfl⟩
  | x :: xs => by
    simp only [nlAll, Bool.and_eq_true, List.mem_cons, nlAll_iff (es := xs)]
    exact ⟨fun h y hy => hy.elim (fun e => e ▸ h.1) (h.2 y), fun h => ⟨h x (.inl rfl), fun y hy => h y (.inr hy)⟩⟩
theorem nl_off (o : List Int) : nl (offD o) = true := by
  show nlAll (o.map .int) = true
  refine nlAll_iff.mpr fun e he => ?_
  obtain ⟨i, _, rfl⟩ := List.mem_map.mp he
  rfl
theorem nl_tab (n : Int) (os : List (List Int)) : nl (tabD n os) = true := by
  show (true && (nlAll (os.map offD) && true)) = true
  rw [Bool.true_and, Bool.and_true]
  refine nlAll_iff.mpr fun e he => ?_
  obtain ⟨o, _, rfl⟩ := List.mem_map.mp he
  exact nl_off o
theorem ls_dr {S : List Addr} {d b c : Addr} {n n' N : Int} {H H' : Hp} (ls : ∀ a ∈ S, ∃ xs, H a = some (.lst xs)) (dr : Dr d b c N H n' H') : ∀ a ∈ S, ∃ xs, H' a = some (.lst xs) := fun a ha => by
  by_cases z1 : a = d
  · rw [z1]
    exact ⟨_, dr.dk.at_d⟩
  · by_cases z2 : a = b
    · rw [z2]
      obtain ⟨bs, e⟩ := dr.dk.at_b
      exact ⟨_, e⟩
    · obtain ⟨xs, e⟩ := ls a ha
      have := dr.sm a _ (by rw [msk_ne z1 z2]; exact e)
      rw [msk_ne z1 z2] at this
      exact ⟨xs, this⟩
theorem apart {S : List Addr} {d b c : Addr} {n n' N : Int} {H H' : Hp} {v : V} {e : PyData} (ck : Ck S d b c n H) (ls : ∀ a ∈ S, ∃ xs, H a = some (.lst xs)) (dr : Dr d b c N H n' H') (h : Da K (msk d b H') v e) (hn : nl e = true) : Da K (hs S H') v e := by
  rw [msk_hs] at h
  exact Da.apart (ls_dr (c := c) (n := n) ls dr) e v h hn
theorem w_part : ∀ vs H Q E, spW K WPart vs H Q E → spPart K vs H Q E := by
  rintro vs H Q E ⟨S, d, b, c, n, ws, ds, P, rfl, ck, ls, da, ⟨x, ns, sh, rfl, hx, h1, h2, h3⟩, q⟩
  obtain ⟨u, y, rfl, hu, hy⟩ := da_two da
  cases hy
  have fin : ∀ (p : Addr) (ms : List Int) (n' : Int) (H' : Hp), ms.Sublist ns → Dr d b c (n + ns.length) H n' H' → SqT K (msk d b H') p (ms.map V.int) → Q (.ref p) H' := fun p ms n' H' g1 dr g2 =>
    q _ _ n' H' (h3 ms n' g1 dr.le) dr.sm dr.dk (apart ck ls dr (da_ints_of g2) (nl_off ms))
  rcases hx with rfl | rfl
  · cases hu with
    | @lst a xs _ k1 k2 =>
      obtain rfl := ints_v k2 (ints_map ns)
      exact ⟨d, b, c, a, n, sh, ns, rfl, ck.dk, h1, h2, .inl (Same.seq (hs_to_msk ck.hd ck.hb) k1), fin⟩
  · cases hu with
    | @tup a xs _ k1 k2 =>
      obtain rfl := ints_v k2 (ints_map ns)
      exact ⟨d, b, c, a, n, sh, ns, rfl, ck.dk, h1, h2, .inr (Same.tq (hs_to_msk ck.hd ck.hb) k1), fin⟩
theorem w_next : ∀ vs H Q E, spW K WNext vs H Q E → spNext vs H Q E := by
  rintro vs H Q E ⟨S, d, b, c, n, ws, ds, P, rfl, ck, ls, da, ⟨m, rfl, h1, h2, h3, h4⟩, q⟩
  obtain ⟨v, rfl, hv⟩ := one_arg da
  cases hv
  exact ⟨d, b, c, n, m, rfl, ck.dk, by omega, h2, h3, fun v n' H' g1 g2 dr => q _ _ n' H' (h4 v n' g1 g2 dr.le) dr.sm dr.dk (.int _)⟩
theorem w_odd : ∀ vs H Q E, spW K WOdd vs H Q E → spOdd K vs H Q E := by
  rintro vs H Q E ⟨S, d, b, c, n, ws, ds, P, rfl, ck, ls, da, ⟨rfl, h1, h4⟩, q⟩
  cases da
  exact ⟨S, d, b, c, n, rfl, ck, h1, fun v e n' H' g1 dr hv => q v e n' H' (h4 e n' g1 dr.le) dr.sm dr.dk hv⟩
theorem w_table : ∀ vs H Q E, spW K WTable vs H Q E → spTable K vs H Q E := by
  rintro vs H Q E ⟨S, d, b, c, n, ws, ds, P, rfl, ck, ls, da, ⟨m, k, rfl, h1, h2, h3, h4, h5⟩, q⟩
  obtain ⟨x, y, rfl, hx, hy⟩ := da_two da
  cases hx
  cases hy
  exact ⟨d, b, c, n, m, k, rfl, ck.dk, h1, h2, h3, h4, fun v m' os n' H' dr g1 g2 g3 g4 hv => q v _ n' H' (h5 m' os n' g1 g2 g3 g4 dr.le) dr.sm dr.dk (apart ck ls dr hv (nl_tab _ _))⟩
theorem w_mk : ∀ vs H Q E, spW K WMk vs H Q E → spMk K vs H Q E := by
  rintro vs H Q E ⟨S, d, b, c, n, ws, ds, P, rfl, ck, ls, da, ⟨m, k, rfl, h1, h2, h3, h4, h5⟩, q⟩
  obtain ⟨x, y, rfl, hx, hy⟩ := da_two da
  cases hx
  cases hy
  exact ⟨d, b, c, n, m, k, rfl, ck.dk, h1, h2, h3, h4, fun v os n' H' dr g1 g2 hv => q v _ n' H' (h5 os n' g1 g2 dr.le) dr.sm dr.dk (apart ck ls dr hv (nl_tab _ _))⟩
theorem w_shuf : ∀ vs H Q E, spW K WShuf vs H Q E → spShuf K vs H Q E := by
  rintro vs H Q E ⟨S, d, b, c, n, ws, ds, P, rfl, ck, ls, da, ⟨m, rfl, h1, h2, h3⟩, q⟩
  obtain ⟨v, rfl, hv⟩ := one_arg da
  cases hv
  exact ⟨d, b, c, n, m, rfl, ck.dk, h1, h2, fun p os n' H' g1 dr g2 => q _ _ n' H' (h3 os n' g1 dr.le) dr.sm dr.dk (apart ck ls dr (da_ints_of g2) (nl_off os))⟩
end
end Pb

set_option Elab.async false
set_option linter.all false
set_option maxRecDepth 100000
namespace Pb
open PySem PySem.Spec PyProof.Rows L2
/-! ### calls by a relation, tests that draw, comprehensions that draw -/
def wbP (β : Rho → Option Bool) : Rho → Int → (Bool → Int → Prop) → Prop := fun ρ n P => ∃ c, β ρ = some c ∧ P c n
section
variable (K : PySem.W.Frag) (d : Addr)
def TeW (tt : TT) (Β : Rho → Int → (Bool → Int → Prop) → Prop) : Prop := ∀ S H0 b c n G T ow ρ σ H P, SimW K S H0 d b c n G T ow ρ σ H → Β ρ n P → ∀ Q : Bool → Hp → Prop, (∀ x n' H', P x n' → Dr d b c n' H n' H' → Q x H') → tt σ H Q
end
section
variable {K : PySem.W.Frag} {d : Addr}
theorem TeP.w {tt : TT} {β : Rho → Option Bool} (h : TeP K tt β) : TeW K d tt (wbP β) := fun S H0 b c n G T ow ρ σ H P sm ⟨x, h1, h2⟩ Q q => h _ _ G T ow ρ σ H x sm.co h1 _ fun H1 s1 => q x n H1 h2 (.pure sm.ck.dk s1)
/-- [e for x in ..], e drawn, over what is pure -/
def lcW (τ : PyData → Rho → Option Rho) (β : Rho → Option Bool) (Φ : Rho → Int → (PyData → Int → Prop) → Prop) (ρ : Rho) : List PyData → Int → (List PyData → Int → Prop) → Prop
  | [], n, P => P [] n
  | e :: es, n, P => ∃ ρ', τ e ρ = some ρ' ∧ ∃ c, β ρ' = some c ∧ if c then Φ ρ' n fun y n1 => lcW τ β Φ ρ es n1 fun ys n2 => P (y :: ys) n2 else lcW τ β Φ ρ es n P
def wfLc (vs : List Nat) (it : Rho → Option (List PyData)) (τ : PyData → Rho → Option Rho) (β : Rho → Option Bool) (Φ : Rho → Int → (PyData → Int → Prop) → Prop) : Rho → Int → (List PyData → Int → Prop) → Prop := fun ρ n P => ∃ es, (it ρ).bind lim = some es ∧ lcW τ β Φ (wipeR ρ vs) es n P
theorem xfw_lc {wi : TI} {g : TG} {tt : TT} {te : TE} {vs js : List Nat} {it : Rho → Option (List PyData)} {τ : PyData → Rho → Option Rho} {β : Rho → Option Bool} {Φ : Rho → Int → (PyData → Int → Prop) → Prop} (hi : ItP K wi it) (hg : TgP K g js τ) (ht : TeP K tt β) (he : EvW K d te Φ) (hj : ∀ j ∈ js, j ∈ vs := by decide) :
    EvFW K d (tLc wi g tt te vs) (wfLc vs it τ β Φ) := fun S H0 b c n G T ow ρ σ H P sm ⟨es, h0, h1⟩ Q q => by
  obtain ⟨es', h2, h3⟩ := Option.bind_eq_some_iff.mp h0
  obtain ⟨hl, e0⟩ := lim_some h3
  subst e0
  refine hi _ _ G T ow ρ σ H _ sm.co h2 _ fun J H1 s1 ⟨F, Gw, Yw, mo, f0, wk, hG, hY⟩ D hD => ?_
  have sm1 := sm.mono s1
  have offD' := sm1.ck.dk.off hD
  have hD0 : H D = none := s1.free hD
  -- with the new list hidden
  have W0 : SimW K S H0 d b c n (fun X => G X ∧ F X) (D :: T) ow (wipeR ρ vs) (L2.wipe σ vs) (upd H1 D (.lst [])) := by
    have hh := (sm1.co.wipe vs).hide (D := D) (vs := []) hD
    exact ⟨hh.weak (fun H H' s h => ⟨sm.co.mo _ _ s h.1, mo _ _ s h.2⟩) ⟨hh.fr, mo _ _ (hs_cons_new hD) f0⟩, ⟨sm1.ck.dk.same (same_upd hD), List.mem_cons_of_mem _ sm.ck.hd, List.mem_cons_of_mem _ sm.ck.hb, hh.tr⟩, sm1.old.trans (msk_same (same_upd hD)), sm.new, fun a ha => List.mem_cons_of_mem _ (sm.sub a ha), sm.trS⟩
  have hDo : D ∉ ow := fun z => by
    obtain ⟨o, eo⟩ := sm1.co.tr D (sm1.co.owT D z)
    rw [hD] at eo
    cases eo
  refine lc_it wk (fun i H' => ∃ (acc : List V) (ys1 : List PyData) (n1 : Int), H' D = some (.lst acc) ∧ DaAll K (hs (D :: T) H') acc ys1 ∧ ys1.length ≤ i ∧ lcW τ β Φ (wipeR ρ vs) (es.drop i) n1 (fun ys2 n2 => P (ys1 ++ ys2) n2) ∧
      SimW K S H0 d b c n1 (fun X => G X ∧ F X) (D :: T) ow (wipeR ρ vs) (L2.wipe σ vs) H' ∧ (∀ a o, a ≠ D → a ≠ d → a ≠ b → H1 a = some o → H' a = some o)) ?_ ?_ ?_ ?_
  · exact ⟨[], [], n, upd_same, .nil, Nat.le_refl _, by simpa using h1, W0, fun a o hne _ _ e => by rw [upd_ne hne]; exact e⟩
  · rintro i H' _ ⟨acc, ys1, n1, _, _, _, _, sm', _⟩
    exact hG _ _ sm'.co.fr.2
  · rintro i x H2 H3 hlt ⟨acc, ys1, n1, e1, e2, e3, e4, sm', old⟩ y
    obtain ⟨s3, e, he3, hx⟩ := hY _ H2 i x H3 sm'.co.fr.2 sm'.co.tr hlt y
    have dr : es.drop i = e :: es.drop (i + 1) := by
      rw [List.drop_eq_getElem_cons hlt]
      congr 1
      rw [List.getElem?_eq_getElem hlt] at he3
      exact Option.some.inj he3
    rw [dr] at e4
    obtain ⟨ρ', k1, x', k3, k4⟩ := e4
    have sm3 := sm'.mono s3
    refine hg _ _ _ _ ow _ _ H3 x e ρ' sm3.co hx k1 _ fun σ2 sm4 wp => ⟨?_, ?_⟩
    · rw [wp vs hj, wipe_wipe σ vs vs fun _ h => h]
    · refine ht _ _ _ _ ow ρ' σ2 H3 x' sm4 k3 _ fun H4 s4 => ?_
      have s24 := s3.trans s4
      have sm4w : SimW K S H0 d b c n1 (fun X => G X ∧ F X) (D :: T) ow ρ' σ2 H4 := (sm3.putV sm4).mono s4
      cases x' with
      | true =>
        rw [if_pos rfl]
        refine he S H0 b c n1 _ _ ow ρ' σ2 H4 _ sm4w (by simpa using k4) _ fun v z n2 H5 hz d5 hv => ?_
        have d25 : Dr d b c n2 H2 n2 H5 := (Dr.pure sm'.ck.dk s24).then d5
        have sm5 := sm'.draw d25
        have la := DaAll.len e2
        have eD := d25.at offD' e1
        refine ⟨acc, eD, Evl.sz_lt (by omega), acc ++ [v], ys1 ++ [z], n2, upd_same, ?_, by simp; omega, by simpa using hz, ?_, fun a o hne h1' h2' ea => ?_⟩
        · rw [hs_put List.mem_cons_self]
          exact (e2.mono (sm'.ck.sm d25)).append (.cons hv .nil)
        · have dkP : Dk d b c n2 (upd H5 D (.lst (acc ++ [v]))) := sm5.ck.dk.put offD'
          have trP : Tr (D :: T) (upd H5 D (.lst (acc ++ [v]))) := fun a ha => by
            by_cases z : a = D
            · rw [z]
              exact ⟨_, upd_same⟩
            · rw [upd_ne z]
              exact sm5.co.tr a ha
          refine ⟨?_, ⟨dkP, sm5.ck.hd, sm5.ck.hb, trP⟩, ?_, sm5.new, sm5.sub, sm5.trS⟩
          · exact
              { len := sm5.co.len, inj := sm5.co.inj, new := sm5.co.new, sub := sm5.co.sub, owT := sm5.co.owT, trS := sm5.co.trS, mo := sm5.co.mo, old := fun _ _ e => (by cases e), tr := trP,
                fr := by
                  rw [hs_put List.mem_cons_self]
                  exact sm5.co.fr
                lsT := fun a ha => by
                  by_cases z : a = D
                  · rw [z]
                    exact .inr ⟨_, upd_same⟩
                  · exact (sm5.co.lsT a ha).imp id fun ⟨xs, e⟩ => ⟨xs, by rw [upd_ne z]; exact e⟩
                slot := fun j sl ej => by
                  obtain ⟨o, ho, hs'⟩ := sm5.co.slot j sl ej
                  refine ⟨o, ho, hs'.move (by rw [hs_put List.mem_cons_self]; exact Same.refl _) fun fo ws eo m1 m2 => ⟨m1, ?_⟩⟩
                  have ne : fo ≠ D := fun z => by
                    rw [z] at m1
                    exact hDo m1
                  rw [upd_ne ne]
                  exact m2 }
          · intro a o ea
            have := sm5.old a o ea
            obtain ⟨z1, z2, z3⟩ := msk_some this
            have ne : a ≠ D := fun z => by
              have w := sm.old a o ea
              rw [msk_ne z1 z2, z, hD0] at w
              cases w
            rw [msk_ne z1 z2, upd_ne ne]
            exact z3
        · rw [upd_ne hne]
          have := d25.sm a o (by rw [msk_ne h1' h2']; exact old a o hne h1' h2' ea)
          rw [msk_ne h1' h2'] at this
          exact this
      | false =>
        rw [if_neg Bool.false_ne_true]
        exact ⟨acc, ys1, n1, s24 _ _ e1, e2.mono (hs_mono s24), by omega, by simpa using k4, sm'.mono s24, fun a o hne h1' h2' ea => s24 _ _ (old a o hne h1' h2' ea)⟩
  · rintro H' ⟨acc, ys1, n1, e1, e2, _, e4, sm', old⟩
    rw [List.drop_length] at e4
    have e4' : P (ys1 ++ []) n1 := e4
    rw [List.append_nil] at e4'
    refine q D acc ys1 n1 H' e4' ⟨sm'.ck.dk, Int.le_refl _, fun a o ea => ?_⟩ hD0 e1 e2
    obtain ⟨z1, z2, z3⟩ := msk_some ea
    rw [msk_ne z1 z2]
    refine old a o (fun z => ?_) z1 z2 (s1 _ _ z3)
    rw [z, hD0] at z3
    cases z3
def twFrz (i : Nat) (Ψ : Rho → Int → (Res → Int → Prop) → Prop) : Rho → Int → (Res → Int → Prop) → Prop := fun ρ n P => ∃ es, ro ρ i = some es ∧ Ψ (ρ.set i (.val (.list es))) n P
theorem sw_frz {ts : TS} {i : Nat} {Ψ : Rho → Int → (Res → Int → Prop) → Prop} (h : StW K d ts Ψ) : StW K d ts (twFrz i Ψ) := fun S H0 b c n G ρ σ H P ⟨T, ow, sm⟩ ⟨es, h1, h2⟩ D q => by
  obtain ⟨T', ow', k⟩ := sm.pure.freeze (ro_some h1)
  exact h S H0 b c n G _ σ H P ⟨T', ow', sm.back k⟩ h2 D q
end
end Pb

set_option Elab.async false
set_option linter.all false
set_option maxRecDepth 100000
namespace Pb
open PySem PySem.Spec PyProof.Rows L2
section
/-- the law's call, from its promise where nothing is being shown -/
theorem law_runS {P : Program} {w : World} {K : PySem.W.Frag} {mg mb : Str → Option Value} {k : Nat} {fa a : Addr} {fd : FuncData} {x : Str} {sp : Sp} {t : Shared} {us : List Value} {ns : List Int}
    (hK : K.In t.heap) (gl : t.heap.Ns mainGlobals mg) (bl : t.heap.Ns builtinsNs mb) (bb : ∀ y : Str, y ≠ "__name__" → mb y = bootBuiltins y) (lim : t.heap.NoLimit) (sy : ∃ mm, t.heap.Ns sysModules mm) (gn : t.gens = #[])
    (hobj : t.heap.get? a = some { cls := .type "list", data := .seq us.toArray }) (hi : IntsAre us ns) (hz : ns.length ≤ sizeLine) (hr : Room k callerA)
    (F : ∀ base : Heap, K.In base → base.Ns mainGlobals mg → (∃ mm, base.Ns sysModules mm) → RunG P w K mg base k fa fd [x] sp) (hbind : ∀ (s : Shared) (u : Value), BindsTo s fd ⟨[u], []⟩ [(x, u)])
    (hsp : ∀ H : Hp, Only H → SqL K H a (ns.map V.int) → sp [.ref a] H (fun v _ => v = .bl true) E0) :
    codeAny (model P w) callerA (.call (.ref fa) ⟨[.ref a], []⟩) (fun r t' => r = .ok (.ret (.bool true)) ∧ OldK t.heap t'.heap ∧ t'.os = t.os ∧ AllBare t'.gens) t := by
  have rv := vals_ints hi
  have hlen := hi.length
  have main : ∀ H : Hp, Only H → SqL K H a (ns.map V.int) → HOk P w H t.heap → (∀ b, H b ≠ none → b = a) → (H a ≠ none → K.lookup a = none) →
      codeAny (model P w) callerA (.call (.ref fa) ⟨[.ref a], []⟩) (fun r t' => r = .ok (.ret (.bool true)) ∧ OldK t.heap t'.heap ∧ t'.os = t.os ∧ AllBare t'.gens) t := by
    intro H hO hS hok onlyA notK
    have keepB : ∀ {b : Addr} {ob : Obj}, t.heap.get? b = some ob → H b = none → (hidT t.heap H).get? b = some ob := fun e z => hidT_get e z
    have dictOut : ∀ {b : Addr} {ob : Obj} {es : Array DictEntry} {ep : Nat}, t.heap.get? b = some ob → ob.data = .dict es ep → H b = none := fun {b ob es ep} e dd => by
      cases z : H b with
      | none => rfl
      | some u =>
        obtain rfl : b = a := onlyA b (by rw [z]; simp)
        rw [hobj] at e
        cases e
        cases (show Data.seq us.toArray _ = Data.dict es ep from dd)
    have nsB : ∀ {b : Addr} {m : Str → Option Value}, t.heap.Ns b m → (hidT t.heap H).Ns b m := fun {b m} ⟨ob, es, ep, e, dd, rest⟩ => ⟨ob, es, ep, keepB e (dictOut e dd), dd, rest⟩
    have kB : K.In (hidT t.heap H) := fun b ob e => keepB (hK b ob e) (by
      cases z : H b with
      | none => rfl
      | some u =>
        obtain rfl : b = a := onlyA b (by rw [z]; simp)
        rw [notK (by rw [z]; simp)] at e
        cases e)
    have modB : Mod K mg (hidT t.heap H) := ⟨kB, nsB gl, ⟨mb, nsB bl, bb⟩, lim.elim fun mc z => ⟨mc, nsB z.1, z.2⟩⟩
    have env : Env0 P w K mg (hidT t.heap H) callerA [] t H := ⟨rfl, modB, fun b ob e => of_hidT e, Nat.le_of_eq (hidT_size _ _), trivial, fun b hb => absurd (show b ∈ ([] : List Addr) from hb) List.not_mem_nil, hok, .of_eq gn⟩
    refine codeAny_mono (F _ kB (nsB gl) (sy.elim fun mm z => ⟨mm, nsB z⟩) callerA [] t H ⟨[.ref a], []⟩ [.ref a] [.ref a] _ rfl hr env (hbind t (.ref a)) (.cons rfl .nil) (hsp H hO hS)) fun r t' res => ?_
    cases r with
    | error e => exact res.elim
    | ok fl =>
      cases fl with
      | ret u =>
        obtain ⟨v, H', hos, hbare, un, hok', rel, veq⟩ := res
        obtain rfl : v = .bl true := veq
        obtain rfl : u = Value.bool true := rel
        refine ⟨rfl, OldK.of_keep fun b ob e => ?_, hos, hbare⟩
        cases z : H b with
        | none => exact un.keep b ob e z (fun y => absurd (show b ∈ ([] : List Addr) from y) List.not_mem_nil) List.not_mem_nil
        | some u =>
          rcases hO b with y | ⟨o1, xs, y⟩
          · rw [z] at y
            cases y
          · have e1 := (hok b _ y).1
            have e2 := (hok' b _ (un.frzs b o1 _ y)).1
            rw [e] at e1
            cases e1
            exact e2
      | next => exact res.elim
      | brk => exact res.elim
      | cont => exact res.elim
  cases hk : K.lookup a with
  | some ob =>
    have e := hK a ob hk
    rw [hobj] at e
    cases e
    exact main (fun _ => none) (fun _ => .inl rfl) (.inr ⟨_, us.toArray, _, hk, rfl, rfl, rfl, by rw [List.size_toArray, hlen]; exact hz, by simpa using rv⟩) (fun b u z => nomatch (show (none : Option HO) = some u from z)) (fun b z => absurd rfl z) fun z => absurd rfl z
  | none =>
    refine main (fun b => if b = a then some (.frz { cls := .type "list", data := .seq us.toArray } (.lst (ns.map V.int))) else none) (fun b => ?_) (.inl (.inr ⟨_, if_pos rfl⟩)) (fun b u z => ?_) (fun b z => Decidable.byContradiction fun nb => z (if_neg nb)) fun _ => hk
    · by_cases hb : b = a
      · exact .inr ⟨_, _, if_pos hb⟩
      · exact .inl (if_neg hb)
    · by_cases hb : b = a
      · cases (if_pos hb).symm.trans z
        subst hb
        exact ⟨hobj, by rw [List.length_map]; exact hz, us, _, rv, hobj⟩
      · cases (if_neg hb).symm.trans z
theorem walk_S {l : PySem.W.OpenLaw} {n k : Nat} {q : Program} {loose : List Str} {XP : (Str → Option Value) → Heap → Prop} {YP : World → Heap → Prop} {d : DefRec} {K : Params → PySem.W.Frag} {sp : World → Sp} {x : Str}
    (hq : importsNone q = true) (hn : l.most = some n) (hn2 : n ≤ sizeLine) (hdf : d.params.defaults = []) (hr : Room k callerA) (hY : ∀ (w : World) (h : Heap), YP w h → (K w.params).In h)
    (F : ∀ (w : World) (mg : Str → Option Value) (fa : Addr) (h : Heap), (K w.params).In h → h.Ns mainGlobals mg → mg d.name = some (.ref fa) →
      ∃ fd : FuncData, (∀ (s : Shared) (u : Value), BindsTo s fd ⟨[u], []⟩ [(x, u)]) ∧ ∀ base : Heap, (K w.params).In base → base.Ns mainGlobals mg → (∃ mm, base.Ns sysModules mm) → RunG l.prog w (K w.params) mg base k fa fd [x] (sp w))
    (hsp : ∀ (w : World) (H : Hp) (a : Addr) (ns : List Int), ns.length ≤ n → Only H → SqL (K w.params) H a (ns.map V.int) → sp w [.ref a] H (fun v _ => v = .bl true) E0) :
    PySem.W.WalkO q loose XP YP l.row.toRowW d [] (fun f vs => PySem.call f vs) := by
  refine Att.attach_call hn hdf fun w t0 t mg mb fa ob pm cd doc a us ns G Y _ _ _ hmg hobj hi hlen hg => ?_
  have hK := hY w _ Y
  obtain ⟨fd, hb, hF⟩ := F w mg fa _ hK G.T.g hmg
  exact law_runS hK G.T.g G.T.b G.T.builtins G.T.nolimit ((G.T.seer hq).mods.elim fun mm z => ⟨mm, z.1⟩) hg hobj hi (Nat.le_trans hlen hn2) hr hF hb fun H hO hS => hsp w H a ns hlen hO hS
end
section
variable {X : Cx} {pins : List (Addr × Obj)} {σ : L2.St} {H : Hp} {s : Shared}
end
structure Gs (e : PyData) : Prop where
  ok : okD e = true
  w : wt e ≤ 1000000
  dp : e.depth ≤ 20
theorem Gd.gs {e : PyData} (h : Gd e) : Gs e := ⟨h.ok, h.w, by have := h.dp; omega⟩
end Pb

set_option Elab.async false
set_option linter.all false
set_option maxRecDepth 100000
namespace Pb
open PySem PySem.Spec PyProof.Rows L2
/-! ### words for the pure part -/
theorem iR_of {φ : Rho → Option PyData} {ρ : Rho} {j : Int} (h : φ ρ = some (.int j)) (hj : -(2 ^ 62) ≤ j ∧ j < 2 ^ 62) : iR φ ρ = some (rngD 0 j) := by
  unfold iR
  rw [h]
  show (if small j = true then some (rngD 0 j) else none) = _
  rw [if_pos (show small j = true from decide_eq_true hj)]
theorem lRg_of {φ : Rho → Option PyData} {ρ : Rho} {j : Int} (h : φ ρ = some (.int j)) (h0 : 0 ≤ j) (h1 : j ≤ 100000) : lRg φ ρ = some (rngD 0 j) := by
  unfold lRg
  rw [h]
  show (if decide (0 ≤ j ∧ j ≤ 100000) = true then some (rngD 0 j) else none) = _
  rw [if_pos (decide_eq_true ⟨h0, h1⟩)]
theorem rng_ints (m : Nat) : rngD 0 (m : Int) = (upto m).map .int := by
  unfold rngD upto
  rw [Int.sub_zero, Int.toNat_natCast, List.map_map]
  congr 1
  funext i
  show PyData.int (0 + (i : Int)) = PyData.int (i : Int)
  rw [Int.zero_add]
def loopPost (Q : Rho → Int → Prop) (P : Res → Int → Prop) : Res → Int → Prop := fun r n1 => match r with
  | .nx ρ' => Q ρ' n1
  | .ct ρ' => Q ρ' n1
  | .bk ρ' => P (.nx ρ') n1
  | r => P r n1
theorem forW_ind {B : PyData → Rho → Int → (Res → Int → Prop) → Prop} {P : Res → Int → Prop} (I : List PyData → Rho → Int → Prop) (h0 : ∀ ρ n, I [] ρ n → P (.nx ρ) n)
    (hs' : ∀ e es ρ n, I (e :: es) ρ n → ∀ Q : Rho → Int → Prop, (∀ ρ' n', I es ρ' n' → Q ρ' n') → B e ρ n (loopPost Q P)) : ∀ es ρ n, I es ρ n → forW B es ρ n P
  | [], ρ, n, h => h0 ρ n h
  | e :: es, ρ, n, h => hs' e es ρ n h (fun ρ' n' => forW B es ρ' n' P) fun ρ' n' k => forW_ind I h0 hs' es ρ' n' k
theorem tab1 (n : Int) (os : List (List Int)) : fIxT (tabD n os) (.int 1) = some (.tuple (os.map offD)) := rfl
end Pb

set_option Elab.async false
set_option linter.all false
set_option maxRecDepth 100000
namespace Pb
open PySem PySem.Spec PyProof.Rows L2
theorem oex_cls {K : PySem.W.Frag} {C : Addr} {nm q N bs bm sn sub ab col dd k0 k1 k2 k3 k5} (l : K.lookup C = some (excClassObj nm q C N bs bm true sn sub ab col dd k0 k1 k2 k3 k5 "ValueError.__new__")) (r : PySem.HandSPX.refsVE bm = true) :
    ∃ nm q N bs bm sn sub ab col dd k0 k1 k2 k3 k5, K.lookup C = some (excClassObj nm q C N bs bm true sn sub ab col dd k0 k1 k2 k3 k5 "ValueError.__new__") ∧ PySem.HandSPX.refsVE bm = true := ⟨nm, q, N, bs, bm, sn, sub, ab, col, dd, k0, k1, k2, k3, k5, l, r⟩
/-- a class's own __init__ -/
def Di (K : PySem.W.Frag) (C : Addr) (qual : Str) (st : Stmt) : Prop := ∃ (f : Addr) (fd : FuncData), PySem.W.findIn K (.ref C) "__init__" = some (some (.ref f)) ∧ PySem.W.typeIn K (.ref f) = some (.type "function") ∧ Fun K "__init__" qual st f fd
theorem di_mk {K : PySem.W.Frag} {C : Addr} {qual : Str} {st : Stmt} {f : Addr} {od an : Option Addr} {sl : Array (Option Value)} {oc kV dc pm cd ct : Value} (a : PySem.W.findIn K (.ref C) "__init__" = some (some (.ref f))) (t : PySem.W.typeIn K (.ref f) = some (.type "function"))
    (l : K.lookup f = some ⟨oc, od, .func (PySem.W.fnOf "__init__" qual (defArgs st) (defBody st) (defScope st) .none kV dc pm an cd ct), sl⟩) (c : PySem.W.codeIn K cd qual = true) (k : PySem.W.keepIn K (.ref f) = true) : Di K C qual st := ⟨f, _, a, t, fun_mk (st := st) l c k⟩
end Pb

set_option Elab.async false
set_option linter.all false
set_option maxRecDepth 100000
namespace Pb
open PySem PySem.Spec PyProof.Rows L2
/-! ### defs that raise -/
section
variable (K : PySem.W.Frag) (cl : Str → Addr)
/-- what an outcome asks of the two wishes; an error's dict is no hidden address -/
def OutY (S : List Addr) (H : Hp) (Q : VK) (E : XK) : Out → Prop
  | .ret e => ∀ v H', Same H H' → Da K (hs S H') v e → Q v H'
  | .exc x => ∀ H', Same H H' → E (.ref (cl x)) none H'
  | .excF x f e => ∀ v d H', Same H H' → hs S H' d = some (.xd [(f, v)]) → Da K (hs S H') v e → E (.ref (cl x)) (some d) H'
def spY (g : List PyData → Option Out) : Sp := fun vs H Q E => ∃ S ds o, Tr S H ∧ DaAll K (hs S H) vs ds ∧ g ds = some o ∧ OutY K cl S H Q E o
end
inductive Rx where
  | ok (r : Res)
  | ex (o : Out) (ρ : Rho)
section
variable (K : PySem.W.Frag) (cl : Str → Addr)
def WxOk (S : List Addr) (H0 : Hp) (G : Hp → Prop) (W : WX) (ρ : Rho) : Out → Prop
  | .ret _ => False
  | .exc x => ∀ T ow σ H, SimO K S H0 G T ow ρ σ H → W (.ref (cl x)) none σ H
  | .excF x f e => ∀ T ow σ H v d, SimO K S H0 G T ow ρ σ H → hs T H d = some (.xd [(f, v)]) → Da K (hs T H) v e → W (.ref (cl x)) (some d) σ H
def EndX (S : List Addr) (H0 : Hp) (G : Hp → Prop) (D : Ends) (W : WX) : Rx → Prop
  | .ok r => EndOk K cl S H0 G D E0 r
  | .ex o ρ => WxOk K cl S H0 G W ρ o
def StX (W : WX) (ts : TS) (ψ : Rho → Option Rx) : Prop := ∀ S H0 G ρ σ H r, Sim K S H0 G ρ σ H → ψ ρ = some r → ∀ D : Ends, EndX K cl S H0 G D W r → ts D σ H
end
def xP (ψ : Rho → Option Res) : Rho → Option Rx := fun ρ => (ψ ρ).map .ok
def thenX (r : Rx) (χ : Rho → Option Rx) : Option Rx := match r with
  | .ok (.nx ρ) => χ ρ
  | r => some r
def xSeq (ψ χ : Rho → Option Rx) : Rho → Option Rx := fun ρ => (ψ ρ).bind fun r => thenX r χ
def xIf (β : Rho → Option Bool) (ψ χ : Rho → Option Rx) : Rho → Option Rx := fun ρ => (β ρ).bind fun c => if c then ψ ρ else χ ρ
def xRaise1 (x f : Str) (φ : Rho → Option PyData) : Rho → Option Rx := fun ρ => (φ ρ).map fun e => .ex (.excF x f e) ρ
def outR (o : Out) (ρ : Rho) (k : PyData → Res) : Rx := match o with
  | .ret e => .ok (k e)
  | o => .ex o ρ
section
variable {K : PySem.W.Frag} {cl : Str → Addr} {W : WX}
theorem StP.x {ts : TS} {ψ : Rho → Option Res} (h : StP K cl E0 ts ψ) : StX K cl W ts (xP ψ) := fun S H0 G ρ σ H r sm he D q => by
  obtain ⟨r', h1, rfl⟩ := Option.map_eq_some_iff.mp he
  exact h S H0 G ρ σ H r' sm h1 D q
theorem sx_seq {t u : TS} {ψ χ : Rho → Option Rx} (h : StX K cl W t ψ) (k : StX K cl W u χ) : StX K cl W (tSeq t u) (xSeq ψ χ) := fun S H0 G ρ σ H r sm he D q => by
  obtain ⟨r1, h1, h2⟩ := Option.bind_eq_some_iff.mp he
  refine h S H0 G ρ σ H r1 sm h1 _ ?_
  cases r1 with
  | ok r1 =>
    cases r1 with
    | nx ρ' => exact fun σ' H' sm' => k S H0 G ρ' σ' H' r sm' h2 D q
    | rt d =>
      cases h2
      exact q
    | bk ρ' =>
      cases h2
      exact q
    | ct ρ' =>
      cases h2
      exact q
    | ex o =>
      cases h2
      exact q
  | ex o ρ' =>
    cases h2
    exact q
theorem sx_if {c : TT} {t u : TS} {β : Rho → Option Bool} {ψ χ : Rho → Option Rx} (hc : TeP K c β) (h : StX K cl W t ψ) (k : StX K cl W u χ) : StX K cl W (tIfS c t u) (xIf β ψ χ) := fun S H0 G ρ σ H r ⟨T, ow, sm⟩ he D q => by
  obtain ⟨b, h1, h2⟩ := Option.bind_eq_some_iff.mp he
  refine hc S H0 G T ow ρ σ H b sm h1 _ fun H1 s1 => ?_
  cases b with
  | true => exact h S H0 G ρ σ H1 r (sm.mono s1).sim (by simpa using h2) D q
  | false => exact k S H0 G ρ σ H1 r (sm.mono s1).sim (by simpa using h2) D q
theorem sx_raise1 {x f : Str} {te : TE} {φ : Rho → Option PyData} (h : EvS K te φ) : StX K cl W (fun _ σ H => te σ H fun y H1 => ∀ d, H1 d = none → W (.ref (cl x)) (some d) σ (upd H1 d (.xd [(f, y)]))) (xRaise1 x f φ) := fun S H0 G ρ σ H r ⟨T, ow, sm⟩ he D q => by
  obtain ⟨e, h1, rfl⟩ := Option.map_eq_some_iff.mp he
  exact h S H0 G T ow ρ σ H e sm h1 _ fun v H1 s1 hv d hd => q T ow σ _ v d (sm.mono (s1.trans (same_upd hd))) (hs_at ((sm.tr.same s1).out hd) upd_same) (hv.mono (hs_mono (same_upd hd)))
theorem callS_core {g : List PyData → Option Out} {ta : TA} {φs : Rho → Option (List PyData)} (ha : EvAS K ta φs) {S : List Addr} {H0 : Hp} {G : Hp → Prop} {T ow : List Addr} {ρ : Rho} {σ : L2.St} {H : Hp} {o : Out} {Q : VK} (sm : SimO K S H0 G T ow ρ σ H) (he : (φs ρ).bind g = some o)
    (hr : ∀ e, o = .ret e → ∀ v H', Same H H' → Da K (hs T H') v e → Q v H') (hx : (∀ e, o ≠ .ret e) → WxOk K cl S H0 G W ρ o) : tCallS (spY K cl g) (WE W) ta σ H Q := by
  obtain ⟨xs, h1, h2⟩ := Option.bind_eq_some_iff.mp he
  refine ha S H0 G T ow ρ σ H xs sm h1 _ fun vs H1 s1 hv => ⟨T, xs, o, sm.tr.same s1, hv, h2, ?_⟩
  cases o with
  | ret e => exact fun v H' s hd => hr e rfl v H' (s1.trans s) hd
  | exc x => exact fun H' s => hx (fun e z => by cases z) T ow σ H' (sm.mono (s1.trans s))
  | excF x f e => exact fun v d H' s hd hv => hx (fun e z => by cases z) T ow σ H' v d (sm.mono (s1.trans s)) hd hv
end
/-! a while that may raise -/
/-! a def that may raise -/
def runX (n np : Nat) (ψ : Rho → Option Rx) (ds : List PyData) : Option Out := if ds.length = np then match ψ (rho0 n ds) with
  | some (.ok (.rt e)) => some (.ret e)
  | some (.ok (.nx _)) => some (.ret .none)
  | some (.ex (.exc x) _) => some (.exc x)
  | some (.ex (.excF x f e) _) => some (.excF x f e)
  | _ => none
  else none
section
variable {P : Program} {w : World} {K : PySem.W.Frag} {mg : Str → Option Value} {base : Heap}
theorem fn_raise {x qual : Str} {st : Stmt} {f : Addr} {fd : FuncData} {N ps : List Str} {k : Nat} {ψ : Rho → Option Rx} {cl : Str → Addr} (F : Fun K x qual st f fd) (S : FnScope N ps (defScope st))
    (hbody : ∀ (cdv : Value) (A : Around) (outer : List Env) (s : Shared) (H : Hp) (E : XK), Room k (A.deeper (envOfC qual (defScope st) s.heap.objs.size f cdv)) →
      ∃ t, PSs (cxOf (L2.CX P w) P w K mg base N qual (defScope st) f cdv A outer s H E) (defBody st) t ∧ StX K cl (fun cls d _ H => E cls d H) t ψ) : FnOk P w K mg base (L2.CX P w) (k + 1) f fd ps (spY K cl (runX N.length ps.length ψ)) := by
  refine F.okX S (fun vs H Q E h => ?_) (fun cdv A outer s H vs Q E hr h => ?_)
  · obtain ⟨T, ds, o, _, ha, he, _⟩ := h
    rw [DaAll.len ha]
    unfold runX at he
    split at he
    · assumption
    · cases he
  · obtain ⟨T, ds, o, tr, ha, he, q⟩ := h
    obtain ⟨t, h1, h2⟩ := hbody cdv A outer s H E hr
    refine ⟨t, h1, ?_⟩
    have s0 : SimO K T H (fun _ => True) T [] (rho0 N.length ds) (start N vs) H := sim_start tr ha
    unfold runX at he
    split at he
    · split at he
      · rename_i hr'
        cases he
        exact h2 T H _ _ _ H _ s0.sim hr' _ q
      · rename_i ρ' hr'
        cases he
        exact h2 T H _ _ _ H _ s0.sim hr' _ (fun σ' H' ⟨T', ow', sm'⟩ => q .non H' sm'.old .non)
      · rename_i x' ρ' hr'
        cases he
        exact h2 T H _ _ _ H _ s0.sim hr' _ (fun T' ow' σ' H' sm' => q H' sm'.old)
      · rename_i x' f' e' ρ' hr'
        cases he
        refine h2 T H _ _ _ H _ s0.sim hr' _ (fun T' ow' σ' H' v d sm' hd hv => q v d H' sm'.old ?_ (hv.mono (msk_to_hs sm'.sub)))
        exact msk_to_hs sm'.sub _ _ hd
      · cases he
    · cases he
end
/-! ### try .. except X as e, and what is told -/
section
variable (K : PySem.W.Frag) (cl : Str → Addr)
def StQ (ts : TS) (Ψ : Rho → (Res → Prop) → Prop) : Prop := ∀ S H0 G ρ σ H P, Sim K S H0 G ρ σ H → Ψ ρ P → ∀ D : Ends, (∀ r, P r → EndOk K cl S H0 G D E0 r) → ts D σ H
end
def qP (ψ : Rho → Option Res) : Rho → (Res → Prop) → Prop := fun ρ P => ∃ r, ψ ρ = some r ∧ P r
def qSeq (Ψ Χ : Rho → (Res → Prop) → Prop) : Rho → (Res → Prop) → Prop := fun ρ P => Ψ ρ fun r => match r with
  | .nx ρ' => Χ ρ' P
  | r => P r
def clr (i : Nat) : Res → Res
  | .nx ρ => .nx (ρ.set i .no)
  | .bk ρ => .bk (ρ.set i .no)
  | .ct ρ => .ct (ρ.set i .no)
  | r => r
/-- the suite, for an error of the class x with these fields -/
def qTry (i : Nat) (xs : List Str) (ψ : Rho → Option Rx) (χ : Addr → Option Addr → Str → Rho → Option Res) : Rho → (Res → Prop) → Prop := fun ρ P => ∃ rx, ψ ρ = some rx ∧ match rx with
  | .ok r => P r
  | .ex (.exc x) ρ' => x ∈ xs ∧ ∀ a, ∃ r, χ a none x (ρ'.set i (.exn a none [])) = some r ∧ P (clr i r)
  | .ex (.excF x f e) ρ' => x ∈ xs ∧ ∀ a dd, ∃ r, χ a (some dd) x (ρ'.set i (.exn a (some dd) [(f, e)])) = some r ∧ P (clr i r)
  | .ex (.ret _) _ => False
section
variable {K : PySem.W.Frag} {cl : Str → Addr}
theorem StP.q {ts : TS} {ψ : Rho → Option Res} (h : StP K cl E0 ts ψ) : StQ K cl ts (qP ψ) := fun S H0 G ρ σ H P sm ⟨r, h1, h2⟩ D q => h S H0 G ρ σ H r sm h1 D (q r h2)
theorem sq_seq {t u : TS} {Ψ Χ : Rho → (Res → Prop) → Prop} (h : StQ K cl t Ψ) (k : StQ K cl u Χ) : StQ K cl (tSeq t u) (qSeq Ψ Χ) := fun S H0 G ρ σ H P sm h1 D q => by
  refine h S H0 G ρ σ H _ sm h1 _ fun r hr => ?_
  cases r with
  | nx ρ' => exact fun σ' H' sm' => k S H0 G ρ' σ' H' P sm' hr D q
  | rt e => exact q _ hr
  | bk ρ' => exact q _ hr
  | ct ρ' => exact q _ hr
  | ex o => exact q _ hr
theorem sq_try {c : Value} {i : Nat} {xs : List Str} {tb : WX → TS} {ts : Addr → Value → Option Addr → TS} {ψ : Rho → Option Rx} {χ : Addr → Option Addr → Str → Rho → Option Res} (hm : ∀ x ∈ xs, PySem.W.exmOne K (.ref (cl x)) c = some true)
    (hb : ∀ W, StX K cl W (tb W) ψ) (hh : ∀ a cls d, ∀ x ∈ xs, cls = .ref (cl x) → StP K cl E0 (ts a cls d) (χ a d x)) : StQ K cl (fun D σ H => tb (wAs K c i ts (fun _ _ _ _ => False) D) D σ H) (qTry i xs ψ χ) := fun S H0 G ρ σ H P sm ⟨rx, h1, h2⟩ D q => by
  have fin : ∀ r, P (clr i r) → EndOk K cl S H0 G { nx := fun σ' H' => D.nx (σ'.set i none) H', rt := D.rt, bk := fun σ' H' => D.bk (σ'.set i none) H', ct := fun σ' H' => D.ct (σ'.set i none) H' } E0 r := fun r hr => by
    have e := q _ hr
    cases r with
    | nx ρ' => exact fun σ' H' ⟨T, ow, sm'⟩ => e _ H' ⟨T, ow, sm'.setN⟩
    | bk ρ' => exact fun σ' H' ⟨T, ow, sm'⟩ => e _ H' ⟨T, ow, sm'.setN⟩
    | ct ρ' => exact fun σ' H' ⟨T, ow, sm'⟩ => e _ H' ⟨T, ow, sm'.setN⟩
    | rt x => exact e
    | ex o => exact e
  refine hb _ S H0 G ρ σ H rx sm h1 D ?_
  match rx, h2 with
  | .ok r, h2 => exact q r h2
  | .ex (.exc x) ρ', ⟨hx, h3⟩ =>
    intro T ow σ' H' sm'
    refine ⟨true, hm x hx, fun _ a ha => ?_, fun z => nomatch z⟩
    obtain ⟨r, k1, k2⟩ := h3 a
    exact hh a _ none x hx rfl S H0 G _ _ H' r ⟨T, ow, sm'.put (o := some (.ref a)) (s := .exn a none []) ⟨rfl, trivial⟩ (fun _ z => by cases z)⟩ k1 _ (fin r k2)
  | .ex (.excF x f e) ρ', ⟨hx, h3⟩ =>
    intro T ow σ' H' v d sm' hd hv
    refine ⟨true, hm x hx, fun _ a ha => ?_, fun z => nomatch z⟩
    obtain ⟨r, k1, k2⟩ := h3 a d
    exact hh a _ (some d) x hx rfl S H0 G _ _ H' r ⟨T, ow, sm'.put (o := some (.ref a)) (s := .exn a (some d) [(f, e)]) ⟨rfl, v, hd, hv⟩ (fun _ z => by cases z)⟩ k1 _ (fin r k2)
/-- isinstance(err, C) -/
def rxn (ρ : Rho) (i : Nat) (a : Addr) (d : Option Addr) : Option (List (Str × PyData)) := match ρ[i]? with
  | some (.exn a' d' fs) => if a' = a ∧ d' = d then some fs else none
  | _ => none
theorem rxn_some {ρ : Rho} {i : Nat} {a : Addr} {d : Option Addr} {fs : List (Str × PyData)} (h : rxn ρ i a d = some fs) : ρ[i]? = some (.exn a d fs) := by
  unfold rxn at h
  split at h
  · rename_i e
    split at h
    · rename_i z
      cases h
      rw [e, z.1, z.2]
    · cases h
  · cases h
def eIsE (a : Addr) (d : Option Addr) (i : Nat) (x c : Str) : Rho → Option PyData := fun ρ => (rxn ρ i a d).map fun _ => .bool (decide (x = c))
def eFld (a : Addr) (d : Option Addr) (i : Nat) (f : Str) : Rho → Option PyData := fun ρ => (rxn ρ i a d).bind fun fs => match fs with
  | [(g, e)] => if g = f then some e else none
  | _ => none
theorem xd_at {X H : Hp} {d : Option Addr} {fs : List (Str × PyData)} (h : XdO K X d fs) (s : Same X H) : ∃ gs, XdAt H d gs := by
  match d, fs, h with
  | none, [], _ => exact ⟨[], rfl⟩
  | some dd, [(f, e)], ⟨v, h1, _⟩ => exact ⟨[(f, v)], s _ _ h1⟩
theorem xs_isE {a : Addr} {cls : Value} {d : Option Addr} {i : Nat} {x c : Str} (hc : cls = .ref (cl x)) (xc : ExcC K (cl x)) (kt : PySem.W.kitOne K (.ref (cl x)) (.ref (cl c)) = some (decide (x = c))) : EvS K (tCB (rIsP K a cls d) (tCons (tVar i) (tCons (tC (.ref (cl c))) tNil))) (eIsE a d i x c) := fun S H0 G T ow ρ σ H e sm he Q q => by
  subst hc
  obtain ⟨fs, h1, rfl⟩ := Option.map_eq_some_iff.mp he
  obtain ⟨o, ho, rfl, hx⟩ := sm.slot i _ (rxn_some h1)
  obtain ⟨gs, hg⟩ := xd_at hx hs_sub
  exact ⟨_, ho, cl x, cl c, _, gs, rfl, xc, hg, rfl, kt, q _ H (Same.refl _) (.bl _)⟩
theorem xs_fld {a : Addr} {cls : Value} {d : Option Addr} {i : Nat} {x c f : Str} (hc : cls = .ref (cl x)) : EvS K (tXf a cls d (cl c) f (tVar i)) (fun ρ => if x = c then eFld a d i f ρ else none) := fun S H0 G T ow ρ σ H e sm he Q q => by
  split at he
  · rename_i hxc
    subst hxc hc
    obtain ⟨fs, h1, h2⟩ := Option.bind_eq_some_iff.mp he
    obtain ⟨o, ho, rfl, hx⟩ := sm.slot i _ (rxn_some h1)
    split at h2
    · rename_i g e'
      split at h2
      · rename_i hz
        cases h2
        subst hz
        match d, hx with
        | some dd, ⟨v, k1, k2⟩ => exact ⟨_, ho, rfl, rfl, dd, _, v, rfl, hs_sub _ _ k1, by simp [List.lookup], q v H (Same.refl _) k2⟩
      · cases h2
    · cases h2
  · cases he
/-- a def whose result is told by a wish -/
def spQ (K : PySem.W.Frag) (Wt : List PyData → (PyData → Prop) → Prop) : Sp := fun vs H Q _ => ∃ (S : List Addr) (ds : List PyData) (P : PyData → Prop), Tr S H ∧ DaAll K (hs S H) vs ds ∧ Wt ds P ∧ ∀ v e H', P e → Same H H' → Da K (hs S H') v e → Q v H'
def runQ (n np : Nat) (Ψ : Rho → (Res → Prop) → Prop) (ds : List PyData) (P : PyData → Prop) : Prop := ds.length = np ∧ Ψ (rho0 n ds) fun r => match r with
  | .rt e => P e
  | .nx _ => P .none
  | _ => False
theorem fn_told {P : Program} {w : World} {mg : Str → Option Value} {base : Heap} {x qual : Str} {st : Stmt} {f : Addr} {fd : FuncData} {N ps : List Str} {k : Nat} {Ψ : Rho → (Res → Prop) → Prop} (F : Fun K x qual st f fd) (S : FnScope N ps (defScope st))
    (hbody : ∀ (cdv : Value) (A : Around) (outer : List Env) (s : Shared) (H : Hp) (E : XK), Room k (A.deeper (envOfC qual (defScope st) s.heap.objs.size f cdv)) →
      ∃ t, PSs (cxOf CX0 P w K mg base N qual (defScope st) f cdv A outer s H E).nox (defBody st) t ∧ StQ K cl t Ψ) : FnOk P w K mg base CX0 (k + 1) f fd ps (spQ K (runQ N.length ps.length Ψ)) := by
  refine F.ok S (fun vs H Q E h => ?_) (fun cdv A outer s H vs Q E hr h => ?_)
  · obtain ⟨T, ds, P, _, ha, he, _⟩ := h
    rw [DaAll.len ha]
    exact he.1
  · obtain ⟨T, ds, PP, tr, ha, he, q⟩ := h
    obtain ⟨t, h1, h2⟩ := hbody cdv A outer s H E hr
    refine ⟨t, h1, h2 T H _ _ _ H _ (sim_start tr ha).sim he.2 _ fun r hr' => ?_⟩
    cases r with
    | rt e => exact fun v H' s hv => q v e H' hr' s hv
    | nx ρ' => exact fun σ' H' ⟨T', ow', sm'⟩ => q .non .none H' hr' sm'.old .non
    | bk ρ' => exact hr'.elim
    | ct ρ' => exact hr'.elim
    | ex o => exact hr'.elim
end
end Pb

set_option Elab.async false
set_option linter.all false
set_option maxRecDepth 100000
namespace Pb
open PySem PySem.Spec PyProof.Rows L2
open PySem.W (Frag findIn InstAt KitX)
/-- isinstance(err, (c1, c2, ..)), err with or without a dict -/
def rIsPT (K : Frag) (a : Addr) (cls : Value) (d : Option Addr) : List V → Hp → VK → Prop := fun xs H Q => ∃ (D tp : Addr) (cs : List V) (us : List Value) (b : Bool) (fs : List (Str × V)), cls = .ref D ∧ ExcC K D ∧ XdAt H d fs ∧ xs = [.ref a, .ref tp] ∧ H tp = some (.tup cs) ∧ Paired ClsV cs us ∧ PySem.W.kitAny K (.ref D) us = some b ∧ Q (.bl b) H
theorem call_isPT {X : Cx} {a : Addr} {oe : Obj} {cls : Value} {d : Option Addr} (hp : (a, oe) ∈ X.pn) (hz : Zc cls d oe) (hf : ∃ vs, oe.data = .fields vs) : CallR X (.builtin "isinstance") (rIsPT X.K a cls d) := by
  intro pins s σ H xs us Q I r ⟨D, tp, cs, ws, b, fs, ec, xc, hx, ex, hT, k, e, q⟩
  subst ec ex
  obtain ⟨u1, u2, rfl, r1, r2⟩ := vals2 r
  obtain rfl : u1 = Value.ref a := r1
  obtain rfl : u2 = Value.ref tp := r2
  obtain ⟨od, J⟩ := pin_inst hp hz hf I hx
  obtain ⟨_, its, rv, o, h1, h2, n, h3⟩ := (show ObjOk X.prog X.w H s.heap tp (.tup cs) from I.hok tp _ hT)
  obtain rfl := ClsV.all k rv
  obtain ⟨oc', od', dt, sl⟩ := o
  obtain rfl : oc' = .type "tuple" := h2
  obtain rfl : dt = _ := h3
  exact PySem.W.kia_tup (H := fun h => InstAt h a oe D od) (kit_err xc) I.kIn J h1 e (fun z => nomatch z) fun tk => ⟨.bl b, H, I.kept (t' := tk) fun _ _ z => z, rfl, q⟩
def eIsT (a : Addr) (d : Option Addr) (i : Nat) (x : Str) (cs : List Str) : Rho → Option PyData := fun ρ => (rxn ρ i a d).map fun _ => .bool (decide (x ∈ cs))
section
variable {K : Frag} {cl : Str → Addr}
/-- int(b) -/
def fInt1 : List PyData → Option PyData
  | [.int i] => some (.int i)
  | [.bool k] => some (.int (if k then 1 else 0))
  | _ => none
theorem cs_int1 : CbS K (fun xs H Q => (∃ i, xs = [.int i] ∧ Q (.int i) H) ∨ ∃ k, xs = [.bl k] ∧ Q (.int (if k then 1 else 0)) H) fInt1 := fun T H xs ds e tr h he Q q => by
  unfold fInt1 at he
  split at he
  · cases he
    cases h with
    | cons h1 h2 =>
      cases h2
      exact .inl ⟨_, by rw [h1.int], q _ H (Same.refl _) (.int _)⟩
  · cases he
    cases h with
    | cons h1 h2 =>
      cases h2
      exact .inr ⟨_, by rw [h1.bl], q _ H (Same.refl _) (.int _)⟩
  · cases he
end
end Pb

set_option Elab.async false
set_option linter.all false
set_option maxRecDepth 100000
namespace Pb
open PySem PySem.Spec PyProof.Rows L2
/-! ### draws below more -/
def spNextW : Sp := fun vs H Q _ => ∃ (d b c : Addr) (n m : Int), vs = [.ref d, .int m] ∧ Dk d b c n H ∧ n < 2 ^ 60 ∧ 0 < m ∧ m < 2 ^ 60 ∧
  ∀ (v n' : Int) (H' : Hp), 0 ≤ v → v < m → Dr d b c (n + 1) H n' H' → Q (.int v) H'
theorem nextW_next : ∀ vs H Q E, spNext vs H Q E → spNextW vs H Q E := by
  rintro vs H Q E ⟨d, b, c, n, m, rfl, h1, h2, h3, h4, q⟩
  exact ⟨d, b, c, n, m, rfl, h1, h2, h3, by omega, q⟩
def WNextW : Addr → List PyData → Int → (PyData → Int → Prop) → Prop := fun _ ds n P => ∃ m : Int, ds = [.int m] ∧ n < 2 ^ 50 ∧ 0 < m ∧ m < 2 ^ 60 ∧ ∀ v n' : Int, 0 ≤ v → v < m → n' ≤ n + 1 → P (.int v) n'
theorem w_nextW {K : PySem.W.Frag} : ∀ vs H Q E, spW K WNextW vs H Q E → spNextW vs H Q E := by
  rintro vs H Q E ⟨S, d, b, c, n, ws, ds, P, rfl, ck, ls, da, ⟨m, rfl, h1, h2, h3, h4⟩, q⟩
  obtain ⟨v, rfl, hv⟩ := one_arg da
  cases hv
  exact ⟨d, b, c, n, m, rfl, ck.dk, by omega, h2, h3, fun v n' H' g1 g2 dr => q _ _ n' H' (h4 v n' g1 g2 dr.le) dr.sm dr.dk (.int _)⟩
/-! ### a def that draws -/
def rhoW (n : Nat) (d : Addr) (ds : List PyData) : Rho := (rho0 n (.none :: ds)).set 0 (.deck d)
def runW (n np : Nat) (Ψ : Addr → Rho → Int → (Res → Int → Prop) → Prop) (d : Addr) (ds : List PyData) (k : Int) (P : PyData → Int → Prop) : Prop := ds.length + 1 = np ∧ Ψ d (rhoW n d ds) k fun r k' => match r with
  | .rt e => P e k'
  | .nx _ => P .none k'
  | _ => False
section
variable {P : Program} {w : World} {K : PySem.W.Frag} {mg : Str → Option Value} {base : Heap}
theorem fn_draw {x qual : Str} {st : Stmt} {f : Addr} {fd : FuncData} {N ps : List Str} {k : Nat} {Ψ : Addr → Rho → Int → (Res → Int → Prop) → Prop} (F : Fun K x qual st f fd) (S : FnScope N ps (defScope st))
    (hbody : ∀ (cdv : Value) (A : Around) (outer : List Env) (s : Shared) (H : Hp) (E : XK), Room k (A.deeper (envOfC qual (defScope st) s.heap.objs.size f cdv)) →
      ∃ t, PSs (cxOf CX0 P w K mg base N qual (defScope st) f cdv A outer s H E).nox (defBody st) t ∧ ∀ d, StW K d t (Ψ d)) : FnOk P w K mg base CX0 (k + 1) f fd ps (spW K (runW N.length ps.length Ψ)) := by
  refine F.ok S (fun vs H Q E h => ?_) (fun cdv A outer s H vs Q E hr h => ?_)
  · obtain ⟨T, d, b, c, n, ws, ds, PP, rfl, ck, ls, da, he, q⟩ := h
    rw [List.length_cons, DaAll.len da]
    exact he.1
  · obtain ⟨T, d, b, c, n, ws, ds, PP, rfl, ck, ls, da, he, q⟩ := h
    obtain ⟨t, h1, h2⟩ := hbody cdv A outer s H E hr
    refine ⟨t, h1, ?_⟩
    have tr : Tr T H := ck.tr
    have s0 : SimO K T H (fun _ => True) T [] (rho0 N.length (.none :: ds)) (start N (.non :: ws)) H := sim_start tr (.cons .non da)
    have s1 : SimO K [] (fun _ => none) (fun _ => True) T [] (rhoW N.length d ds) (start N (.ref d :: ws)) H := (s0.base ls).put (i := 0) (o := some (.ref d)) (s := .deck d) rfl (fun _ z => by cases z)
    have sw : SimW K T H d b c n (fun _ => True) T [] (rhoW N.length d ds) (start N (.ref d :: ws)) H := ⟨s1, ck, Same.refl _, fun a ha => absurd ha List.not_mem_nil, fun _ h => h, tr⟩
    refine h2 d T H b c n _ _ _ H _ ⟨T, [], sw⟩ he.2 _ fun r n' hr' => ?_
    cases r with
    | rt e => exact fun v H' s dk hv => q v e n' H' hr' s dk hv
    | nx ρ' => exact fun σ' H' ⟨T', ow', sm'⟩ => q .non .none n' H' hr' sm'.old sm'.ck.dk .non
    | bk ρ' => exact hr'.elim
    | ct ρ' => exact hr'.elim
    | ex o => exact hr'.elim
end
end Pb
namespace Pb
open PySem PySem.Spec PyProof.Rows L2
end Pb

set_option Elab.async false
set_option linter.all false
set_option maxRecDepth 100000
namespace Pb
open PySem PySem.Spec PyProof.Rows L2
/-! ### sorted(set(t)) -/
def insU (x : Int) : List Int → List Int
  | [] => [x]
  | y :: ys => if x < y then x :: y :: ys else if x = y then y :: ys else y :: insU x ys
def sortU (ns : List Int) : List Int := ns.foldr insU []
theorem insU_mem {x k : Int} : ∀ {l : List Int}, k ∈ insU x l ↔ k = x ∨ k ∈ l
  | [] => by simp [insU]
  | y :: ys => by
    unfold insU
    split
    · simp
    · split
      · rename_i h
        subst h
        simp
      · simp only [List.mem_cons, insU_mem (l := ys)]
        constructor
        · rintro (h | h | h)
          · exact .inr (.inl h)
          · exact .inl h
          · exact .inr (.inr h)
        · rintro (h | h | h)
          · exact .inr (.inl h)
          · exact .inl h
          · exact .inr (.inr h)
theorem insU_lt {x : Int} : ∀ {l : List Int}, l.Pairwise (· < ·) → (insU x l).Pairwise (· < ·)
  | [], _ => by simp [insU]
  | y :: ys, h => by
    obtain ⟨h1, h2⟩ := List.pairwise_cons.mp h
    unfold insU
    split
    · rename_i hx
      refine List.pairwise_cons.mpr ⟨fun z hz => ?_, h⟩
      rcases List.mem_cons.mp hz with rfl | hz
      · exact hx
      · have := h1 z hz
        omega
    · split
      · exact h
      · refine List.pairwise_cons.mpr ⟨fun z hz => ?_, insU_lt h2⟩
        rcases insU_mem.mp hz with rfl | hz
        · omega
        · exact h1 z hz
theorem sortU_mem {k : Int} : ∀ {l : List Int}, k ∈ sortU l ↔ k ∈ l
  | [] => Iff.rfl
  | x :: l => by
    show k ∈ insU x (sortU l) ↔ _
    rw [insU_mem, sortU_mem (l := l), List.mem_cons]
theorem sortU_lt : ∀ {l : List Int}, (sortU l).Pairwise (· < ·)
  | [] => .nil
  | x :: l => insU_lt (sortU_lt (l := l))
def lSortU (φ : Rho → Option PyData) : Rho → Option (List PyData) := fun ρ => ((φ ρ).bind asT).bind fun es => (intsD es).bind fun ns => if ns.length < 64 then some ((sortU ns).map .int) else none
/-! against [], () -/
def fNe0 : PyData → PyData → Option PyData
  | .list es, .list [] => some (.bool (!es.isEmpty))
  | _, _ => none
def fEq0 : PyData → PyData → Option PyData
  | .list es, .list [] => some (.bool es.isEmpty)
  | _, _ => none
def fEq0T : PyData → PyData → Option PyData
  | .tuple es, .tuple [] => some (.bool es.isEmpty)
  | _, _ => none
section
variable {K : PySem.W.Frag}
theorem os_ne0 : OpS K (rNe0 K) fNe0 := fun T H x y d1 d2 e tr h1 h2 he Q q => by
  unfold fNe0 at he
  split at he
  · cases he
    obtain ⟨p, xs, rfl, hq, hd⟩ := h1.lst
    obtain ⟨p', ys, rfl, hq', hd'⟩ := h2.lst
    cases hd'
    refine ⟨p, p', xs, rfl, rfl, hq, hq', ?_⟩
    rw [← DaAll.emp hd]
    exact q _ H (Same.refl _) (.bl _)
  · cases he
theorem os_eq0 : OpS K (rEq0 K) fEq0 := fun T H x y d1 d2 e tr h1 h2 he Q q => by
  unfold fEq0 at he
  split at he
  · cases he
    obtain ⟨p, xs, rfl, hq, hd⟩ := h1.lst
    obtain ⟨p', ys, rfl, hq', hd'⟩ := h2.lst
    cases hd'
    refine ⟨p, p', xs, rfl, rfl, hq, hq', ?_⟩
    rw [← DaAll.emp hd]
    exact q _ H (Same.refl _) (.bl _)
  · cases he
theorem os_eq0T : OpS K (rEq0T K) fEq0T := fun T H x y d1 d2 e tr h1 h2 he Q q => by
  unfold fEq0T at he
  split at he
  · cases he
    obtain ⟨p, xs, rfl, hq, hd, _⟩ := h1.tup
    obtain ⟨p', ys, rfl, hq', hd', _⟩ := h2.tup
    cases hd'
    refine ⟨p, p', xs, rfl, rfl, hq, hq', ?_⟩
    rw [← DaAll.emp hd]
    exact q _ H (Same.refl _) (.bl _)
  · cases he
end
end Pb

set_option Elab.async false
set_option linter.all false
set_option maxRecDepth 100000
namespace Pb
open PySem PySem.Spec PyProof.Rows L2
/-! ### comprehensions and loops, pure -/
theorem lcR_of {τ : PyData → Rho → Option Rho} {β : Rho → Option Bool} {φ : Rho → Option PyData} {ρ : Rho} (b : PyData → Bool) (v : PyData → PyData) : ∀ {es : List PyData}, (∀ e ∈ es, ∃ ρ', τ e ρ = some ρ' ∧ β ρ' = some (b e) ∧ (b e = true → φ ρ' = some (v e))) → lcR τ β φ ρ es = some ((es.filter b).map v)
  | [], _ => rfl
  | e :: es, h => by
    obtain ⟨ρ', h1, h2, h3⟩ := h e List.mem_cons_self
    have ih := lcR_of b v (es := es) fun x hx => h x (List.mem_cons_of_mem _ hx)
    unfold lcR
    rw [h1]
    show ((β ρ').bind fun c => if c then (φ ρ').bind fun y => (lcR τ β φ ρ es).map (y :: ·) else lcR τ β φ ρ es) = _
    rw [h2]
    show (if b e = true then (φ ρ').bind fun y => (lcR τ β φ ρ es).map (y :: ·) else lcR τ β φ ρ es) = _
    cases hb : b e with
    | true =>
      rw [if_pos rfl, h3 hb, ih, List.filter_cons, if_pos hb]
      rfl
    | false =>
      rw [if_neg Bool.false_ne_true, ih, List.filter_cons, if_neg (by rw [hb]; exact Bool.false_ne_true)]
/-- the same over what is walked -/
theorem lLc_of {vs : List Nat} {it : Rho → Option (List PyData)} {τ : PyData → Rho → Option Rho} {β : Rho → Option Bool} {φ : Rho → Option PyData} {ρ : Rho} {es : List PyData} (b : PyData → Bool) (v : PyData → PyData) (hi : it ρ = some es) (hl : es.length ≤ 100000)
    (h : ∀ e ∈ es, ∃ ρ', τ e (wipeR ρ vs) = some ρ' ∧ β ρ' = some (b e) ∧ (b e = true → φ ρ' = some (v e))) : lLc vs it τ β φ ρ = some ((es.filter b).map v) := by
  unfold lLc
  rw [hi]
  show ((lim es).bind _) = _
  unfold lim
  rw [if_pos hl]
  exact lcR_of b v h
/-- a loop that runs through: what stands between two turns is a function of what is left -/
theorem forR_run {B : PyData → Rho → Option Res} (I : List PyData → Rho → Prop) (hs' : ∀ e es ρ, I (e :: es) ρ → ∃ ρ', B e ρ = some (.nx ρ') ∧ I es ρ') : ∀ es ρ, I es ρ → ∃ ρ', forR B es ρ = some (.nx ρ') ∧ I [] ρ'
  | [], ρ, h => ⟨ρ, rfl, h⟩
  | e :: es, ρ, h => by
    obtain ⟨ρ1, h1, h2⟩ := hs' e es ρ h
    obtain ⟨ρ2, h3, h4⟩ := forR_run I hs' es ρ1 h2
    refine ⟨ρ2, ?_, h4⟩
    unfold forR
    rw [h1]
    exact h3
/-! ### masks -/
/-- the bits of o -/
def maskN (o : List Int) : Nat := (o.map fun i => 2 ^ i.toNat).sum
theorem testBit_add_pow {a i j : Nat} (h : a.testBit i = false) : (a + 2 ^ i).testBit j = (a.testBit j || decide (i = j)) := by
  rw [Nat.add_comm]
  rcases Nat.lt_trichotomy i j with hl | rfl | hg
  · have hm : a % 2 ^ (i + 1) < 2 ^ i := by
      have e : a % 2 ^ (i + 1) = a % 2 ^ i + 2 ^ i * (a / 2 ^ i % 2) := Nat.mod_pow_succ
      have z : a / 2 ^ i % 2 = 0 := by
        have h' := h
        rw [Nat.testBit_eq_decide_div_mod_eq] at h'
        have := of_decide_eq_false h'
        omega
      rw [e, z]
      have := Nat.mod_lt a (Nat.two_pow_pos i)
      omega
    have d : (2 ^ i + a) / 2 ^ (i + 1) = a / 2 ^ (i + 1) := by
      have p2 : 2 ^ (i + 1) = 2 ^ i + 2 ^ i := by rw [Nat.pow_succ]; omega
      have da := Nat.div_add_mod a (2 ^ (i + 1))
      rw [Nat.div_eq_iff (Nat.two_pow_pos (i + 1))]
      rw [Nat.mul_comm] at da
      omega
    obtain ⟨k, rfl⟩ := Nat.exists_eq_add_of_lt hl
    have t : ∀ b : Nat, b.testBit (i + k + 1) = (b / 2 ^ (i + 1)).testBit k := by
      intro b
      rw [Nat.testBit_div_two_pow]
      congr 1
      omega
    rw [t, t, d]
    have : decide (i = i + k + 1) = false := decide_eq_false (by omega)
    rw [this, Bool.or_false]
  · rw [Nat.testBit_two_pow_add_eq, h]
    simp
  · rw [Nat.testBit_two_pow_add_gt hg]
    have : decide (i = j) = false := decide_eq_false (by omega)
    rw [this, Bool.or_false]
theorem testBit_maskN : ∀ {o : List Int}, o.Nodup → (∀ i ∈ o, 0 ≤ i) → ∀ j : Nat, (maskN o).testBit j = decide ((j : Int) ∈ o)
  | [], _, _, j => by
    show (0 : Nat).testBit j = _
    rw [Nat.zero_testBit]
    exact (decide_eq_false List.not_mem_nil).symm
  | i :: o, hn, hp, j => by
    have hn' := List.nodup_cons.1 hn
    have ih := testBit_maskN hn'.2 (fun x hx => hp x (List.mem_cons_of_mem _ hx))
    have hi := hp i List.mem_cons_self
    have e : maskN (i :: o) = maskN o + 2 ^ i.toNat := by
      show 2 ^ i.toNat + (o.map fun i => 2 ^ i.toNat).sum = _
      rw [Nat.add_comm]
      rfl
    rw [e, testBit_add_pow (by rw [ih, Int.toNat_of_nonneg hi]; exact decide_eq_false hn'.1), ih]
    by_cases hj : i = (j : Int)
    · subst hj
      simp
    · have h1 : decide (i.toNat = j) = false := decide_eq_false (by omega)
      have h2 : ¬ (j : Int) = i := fun h => hj h.symm
      rw [h1, Bool.or_false]
      simp [h2]
end Pb

set_option Elab.async false
set_option linter.all false
set_option maxRecDepth 100000
namespace Pb
open PySem PySem.Spec PyProof.Rows L2
/-! ### _law_same of twice the same data -/
end Pb

set_option Elab.async false
set_option linter.all false
set_option maxRecDepth 100000
namespace Pb
open PySem PySem.Spec PyProof.Rows L2
/-! ### evaluation, a word each -/
section
variable {β γ : Rho → Option Bool} {φ ψ' χ' : Rho → Option PyData} {ψ χ : Rho → Option Res} {ρ ρ' : Rho} {b c : Bool} {e x y : PyData} {r : Res}
theorem sIf_t (h : β ρ = some true) : sIf β ψ χ ρ = ψ ρ := by
  unfold sIf
  rw [h]
  rfl
theorem sIf_f (h : β ρ = some false) : sIf β ψ χ ρ = χ ρ := by
  unfold sIf
  rw [h]
  rfl
theorem sSeq_nx (h : ψ ρ = some (.nx ρ')) : sSeq ψ χ ρ = χ ρ' := by
  unfold sSeq
  rw [h]
  rfl
theorem sSeq_rt (h : ψ ρ = some (.rt e)) : sSeq ψ χ ρ = some (.rt e) := by
  unfold sSeq
  rw [h]
  rfl
theorem sRet_of (h : φ ρ = some e) : sRet φ ρ = some (.rt e) := by
  unfold sRet
  rw [h]
  rfl
theorem sSet_of {i : Nat} (h : φ ρ = some e) : sSet (gN i) φ ρ = some (.nx (ρ.set i (.val e))) := by
  unfold sSet
  rw [h]
  rfl
theorem bOr_t (h : β ρ = some true) : bOr β γ ρ = some true := by
  unfold bOr
  rw [h]
  rfl
theorem bOr_f (h : β ρ = some false) : bOr β γ ρ = γ ρ := by
  unfold bOr
  rw [h]
  rfl
theorem bAnd_of (h : β ρ = some b) (k : γ ρ = some c) : bAnd β γ ρ = some (b && c) := by
  unfold bAnd
  rw [h]
  cases b
  · rfl
  · exact k
theorem bNot_of (h : β ρ = some b) : bNot β ρ = some (!b) := by
  unfold bNot
  rw [h]
  rfl
theorem bTest_of (h : φ ρ = some (.bool b)) : bTest φ ρ = some b := by
  unfold bTest
  rw [h]
  rfl
theorem eOp_of {f : PyData → PyData → Option PyData} {o : Option PyData} (h : φ ρ = some x) (k : ψ' ρ = some y) (z : f x y = o) : eOp f φ ψ' ρ = o := by
  unfold eOp
  rw [h, k]
  exact z
theorem eCb_of {f : List PyData → Option PyData} {φs : Rho → Option (List PyData)} {xs : List PyData} {o : Option PyData} (h : φs ρ = some xs) (z : f xs = o) : eCb f φs ρ = o := by
  unfold eCb
  rw [h]
  exact z
theorem aCons_of {φs : Rho → Option (List PyData)} {xs : List PyData} (h : φ ρ = some x) (h' : φs ρ = some xs) : aCons φ φs ρ = some (x :: xs) := by
  unfold aCons
  rw [h, h']
  rfl
theorem eL_of {φs : Rho → Option (List PyData)} {xs : List PyData} (h : φs ρ = some xs) : eL φs ρ = some (.list xs) := by
  unfold eL
  rw [h]
  rfl
theorem runF_of {n np : Nat} {ds : List PyData} (hl : ds.length = np) (h : ψ (rho0 n ds) = some (.rt e)) : runF n np ψ ds = some e := by
  unfold runF
  rw [if_pos hl, h]
theorem runX_excF {n np : Nat} {ds : List PyData} {ξ : Rho → Option Rx} {x f : Str} (hl : ds.length = np) (h : ξ (rho0 n ds) = some (.ex (.excF x f e) ρ)) : runX n np ξ ds = some (.excF x f e) := by
  unfold runX
  rw [if_pos hl, h]
theorem runX_ret {n np : Nat} {ds : List PyData} {ξ : Rho → Option Rx} (hl : ds.length = np) (h : ξ (rho0 n ds) = some (.ok (.rt e))) : runX n np ξ ds = some (.ret e) := by
  unfold runX
  rw [if_pos hl, h]
theorem xSeq_ex {ξ ζ : Rho → Option Rx} {o : Out} (h : ξ ρ = some (.ex o ρ')) : xSeq ξ ζ ρ = some (.ex o ρ') := by
  unfold xSeq
  rw [h]
  rfl
theorem xSeq_nx {ξ ζ : Rho → Option Rx} (h : ξ ρ = some (.ok (.nx ρ'))) : xSeq ξ ζ ρ = ζ ρ' := by
  unfold xSeq
  rw [h]
  rfl
theorem xIf_t {ξ ζ : Rho → Option Rx} (h : β ρ = some true) : xIf β ξ ζ ρ = ξ ρ := by
  unfold xIf
  rw [h]
  rfl
theorem xIf_f {ξ ζ : Rho → Option Rx} (h : β ρ = some false) : xIf β ξ ζ ρ = ζ ρ := by
  unfold xIf
  rw [h]
  rfl
theorem xP_of (h : ψ ρ = some r) : xP ψ ρ = some (.ok r) := by
  unfold xP
  rw [h]
  rfl
theorem intsD_ints : ∀ ns : List Int, intsD (ns.map PyData.int) = some ns
  | [] => rfl
  | n :: ns => by
    show (intsD (ns.map PyData.int)).map (n :: ·) = _
    rw [intsD_ints ns]
    rfl
theorem hasDict_ints : ∀ ns : List Int, PyData.hasDictAll (ns.map PyData.int) = false
  | [] => rfl
  | n :: ns => by
    simp only [List.map_cons, PyData.hasDictAll, PyData.hasDict, Bool.false_or, hasDict_ints ns]
end
end Pb

set_option Elab.async false
set_option linter.all false
set_option maxRecDepth 100000
namespace Pb
open PySem PySem.Spec PyProof.Rows L2
/-! ### masks: the words -/
/-- one after the other -/
def chain : List Int → Bool
  | x :: y :: l => decide (Builtin.bitAnd x y = x) && chain (y :: l)
  | _ => true
end Pb

set_option Elab.async false
set_option linter.all false
set_option maxRecDepth 100000
namespace Pb
open PySem PySem.Spec PyProof.Rows L2
/-! ### further rules: xs[i] = e, * of lists and tuples, max and min of two, any, chains of three, len(set(..)), remove, extend -/
section
variable {K : PySem.W.Frag} {cl : Str → Addr} {E : XK}
theorem DaAll.setAt {H : Hp} {v : V} {e : PyData} (hv : Da K H v e) : ∀ {vs : List V} {es : List PyData} (j : Nat), DaAll K H vs es → DaAll K H (vs.set j v) (es.set j e)
  | _, _, _, .nil => .nil
  | _, _, 0, .cons _ h => .cons hv h
  | _, _, j + 1, .cons h1 h => .cons h1 (DaAll.setAt hv j h)
def sPut (i : Nat) (φi φ : Rho → Option PyData) : Rho → Option Res := fun ρ => (φ ρ).bind fun e => (ro ρ i).bind fun es => ((φi ρ).bind asI).bind fun k => (ixN es.length k).map fun j => .nx (ρ.set i (.own (es.set j e)))
theorem ss_put {te ti : TE} {i : Nat} {φ φi : Rho → Option PyData} (h : EvS K te φ) (hi : EvTr K ti φi) : StP K cl E (tAsg te (gSub (tVar i) ti rSetL)) (sPut i φi φ) := fun S H0 G ρ σ H r ⟨T, ow, sm⟩ he D q => by
  obtain ⟨e, h1, h2⟩ := Option.bind_eq_some_iff.mp he
  obtain ⟨es, h3, h4⟩ := Option.bind_eq_some_iff.mp h2
  obtain ⟨k, h5, h6⟩ := Option.bind_eq_some_iff.mp h4
  obtain ⟨x, h7, h8⟩ := Option.bind_eq_some_iff.mp h5
  obtain rfl := asI_some h8
  obtain ⟨j, h9, rfl⟩ := Option.map_eq_some_iff.mp h6
  obtain ⟨o, ho, fo, vs, rfl, _, k2, k3⟩ := sm.slot i _ (ro_some h3)
  refine h S H0 G T ow ρ σ H e sm h1 _ fun v H1 s1 hv => ⟨.ref fo, ho, hi S H0 G T ow ρ σ H1 _ (sm.mono s1) h7 _ fun u H2 s2 hu => ⟨fo, vs, k, j, rfl, hu.int, (s1.trans s2) _ _ k2, ?_, ?_⟩⟩
  · rw [DaAll.len k3]
    exact h9
  · exact q σ _ ((sm.mono (s1.trans s2)).chg (ro_some h3) ho (DaAll.setAt (hv.mono (hs_mono s2)) j (k3.mono (hs_mono (s1.trans s2))))).sim
/-- xs * k -/
theorem DaAll.repF {H : Hp} {vs : List V} {es : List PyData} (h : DaAll K H vs es) : ∀ n : Nat, DaAll K H (List.replicate n vs).flatten (List.replicate n es).flatten
  | 0 => .nil
  | n + 1 => by
    rw [List.replicate_succ, List.replicate_succ, List.flatten_cons, List.flatten_cons]
    exact h.append (DaAll.repF h n)
def repOk (n : Nat) (k : Int) : Bool := decide (0 ≤ k ∧ k ≤ 1000 ∧ n ≤ 100)
end
section
variable {X : Cx}
end
end Pb
namespace Pb
open PySem PySem.Spec PyProof.Rows L2
section
variable {X : Cx}
end
section
variable {K : PySem.W.Frag}
def fMin2 : List PyData → Option PyData
  | [.int i, .int j] => some (.int (if j < i then j else i))
  | _ => none
def fMax2 : List PyData → Option PyData
  | [.int i, .int j] => some (.int (if j > i then j else i))
  | _ => none
end
/-! a < b < c < d -/
section
variable {X : Cx}
end
section
variable {K : PySem.W.Frag}
end
end Pb

set_option Elab.async false
set_option linter.all false
set_option maxRecDepth 100000
namespace Pb
open PySem PySem.Spec PyProof.Rows L2
/-! ### len(set(t)) -/
theorem nodup_sortI {l : List Int} (h : l.Nodup) : (sortI l).Pairwise (· < ·) := by
  have h1 := sortI_le (ns := l)
  have h2 : (sortI l).Nodup := (sortI_perm (ns := l)).nodup_iff.mpr h
  exact (h1.and h2).imp fun ⟨a, b⟩ => by omega
theorem nodup_same_len {l r : List Int} (h : l.Nodup) (h' : r.Nodup) (hm : ∀ k, k ∈ l ↔ k ∈ r) : l.length = r.length := by
  have e : sortI l = sortI r := strict_eq (nodup_sortI h) (nodup_sortI h') fun k => by rw [sortI_perm.mem_iff, sortI_perm.mem_iff, hm]
  rw [← (sortI_perm (ns := l)).length_eq, e, (sortI_perm (ns := r)).length_eq]
theorem sortU_nodup {l : List Int} : (sortU l).Nodup := sortU_lt.imp fun h => by omega
def tLenSetT (K : PySem.W.Frag) (ta : TE) : TE := fun σ H Q => ta σ H fun x H1 => ∃ (l : Addr) (ns : List Int), x = .ref l ∧ SqT K H1 l (ns.map V.int) ∧ ns.length ≤ 1000 ∧ Q (.int ((sortU ns).length : Nat)) H1
theorem pe_lenSetT {X : Cx} {a : Expr} {ta : TE} {p p2 q pos : Pos} (gl : Gl X "len") (ml : X.mg "len" = none) (gs : Gl X "set") (ms : X.mg "set" = none) (ha : PE X a ta) (hc : X.calm = true := by rfl)
    (na : starEach [a] X.env = (false, eval a X.env) :: starEach [] X.env := by rfl) : PE X (.Call (.Name "len" p) [.Call (.Name "set" p2) [a] [] q] [] pos) (tLenSetT X.K ta) := by
  refine ⟨fun pins s σ H QQ II hh => ?_⟩
  refine Call_ (ld_blt II gl ml boot_len ?_)
  refine PyProof.Rows.callWith_builtin1 (PyProof.Rows.args_cons ?_ rfl) rfl rfl
  refine Call_ (ld_blt II gs ms boot_set ?_)
  refine PyProof.Rows.callWith_type1 (PyProof.Rows.args_cons (thn (ha.run pins s σ H _ II hh) fun v s1 ⟨x, H1, I1, r1, q1⟩ => PyProof.Rows.args_nil ?_) na) na rfl
  obtain ⟨l, ns, rfl, hq, hl, q1⟩ := q1
  cases r1
  obtain ⟨its, rv, pt, hz⟩ := I1.tuple hq
  have hi : IntsAre its.toArray.toList ns := ints_of_vals rv
  refine call_set_tupI ns (I1.ok.hd hc) (show s1.heap.IsTuple l its.toArray from pt) hi (by unfold scanBound; omega) fun h' tk c R1 hcn k => ?_
  refine PyProof.Rows.args_nil ?_
  obtain ⟨o, es, ep, t, ho, hex, hd, _, hnd, hmem, hsz, hf, hn, _⟩ := R1
  have I2 : Inv X pins σ H1 { s1 with heap := h', toks := tk } := I1.kept fun b o e => k b o e
  have ec : c = (sortU ns).length := by
    rw [← hn, ← Array.length_toList, ← List.length_map (f := keyOf)]
    exact nodup_same_len hnd sortU_nodup fun k => by rw [← hmem, sortU_mem, decide_eq_true_eq]
  exact call_len_set ho hex hd hf (by rw [hn]; omega) ⟨.int ((sortU ns).length : Nat), H1, I2.tok _, ⟨_, by rw [hn, ec]⟩, q1⟩
def fLenSet : PyData → Option PyData
  | .tuple es => (intsD es).bind fun ns => if ns.length ≤ 1000 then some (.int ((sortU ns).length : Nat)) else none
  | _ => none
section
variable {K : PySem.W.Frag} {cl : Str → Addr} {E : XK}
theorem xs_lenSet {te : TE} {φ : Rho → Option PyData} (h : EvTr K te φ) : EvS K (tLenSetT K te) (eUn fLenSet φ) := fun S H0 G T ow ρ σ H e sm he Q q => by
  obtain ⟨x, h1, h2⟩ := Option.bind_eq_some_iff.mp he
  refine h S H0 G T ow ρ σ H x sm h1 _ fun v H1 s1 hv => ?_
  unfold fLenSet at h2
  split at h2
  · obtain ⟨ns, h3, h4⟩ := Option.bind_eq_some_iff.mp h2
    split at h4
    · rename_i hl
      cases h4
      obtain ⟨p, xs, rfl, hq, hd, _⟩ := hv.tup
      rw [ints_v hd h3] at hq
      exact ⟨p, ns, rfl, hq, hl, q _ H1 s1 (.int _)⟩
    · cases h4
  · cases h2
/-! ### a, b = .., .. with lists of their own -/
theorem SimO.hideN {S : List Addr} {H0 : Hp} {G : Hp → Prop} {T ow : List Addr} {ρ : Rho} {σ : L2.St} {H H' : Hp} (h : SimO K S H0 G T ow ρ σ H) {D : Addr} {vs : List V} (hD : H D = none) (s : Same H H') (hD' : H' D = some (.lst vs)) : SimO K S H0 G (D :: T) ow ρ σ H' := by
  have sm : Same (hs T H) (hs (D :: T) H') := fun a o e => by
    obtain ⟨h1, h2⟩ := hs_some e
    have ne : a ≠ D := fun z => by
      rw [z, hD] at h2
      cases h2
    rw [hs_out (by simp [ne, h1])]
    exact s _ _ h2
  exact
  { len := h.len, inj := h.inj, new := h.new, trS := h.trS, mo := h.mo,
    sub := fun a ha => List.mem_cons_of_mem _ (h.sub a ha)
    owT := fun a ha => List.mem_cons_of_mem _ (h.owT a ha)
    old := h.old.trans s
    slot := fun i sl e => by
      obtain ⟨o, ho, hs'⟩ := h.slot i sl e
      exact ⟨o, ho, hs'.move sm fun fo vs _ k1 k2 => ⟨k1, s _ _ k2⟩⟩
    tr := fun x hx => by
      rcases List.mem_cons.mp hx with rfl | hx
      · exact ⟨_, hD'⟩
      · exact h.tr.same s x hx
    lsT := fun x hx => by
      rcases List.mem_cons.mp hx with rfl | hx
      · exact .inr ⟨_, hD'⟩
      · exact (h.lsT x hx).imp id fun ⟨xs, e⟩ => ⟨xs, s _ _ e⟩
    fr := h.mo _ _ sm h.fr }
def sParOO (i j : Nat) (φ ψ : Rho → Option (List PyData)) : Rho → Option Res := fun ρ => (φ ρ).bind fun es => (ψ ρ).map fun fs => .nx ((ρ.set i (.own es)).set j (.own fs))
theorem ss_parOO {ta tb : TE} {i j : Nat} {φ ψ : Rho → Option (List PyData)} (h : EvF K ta φ) (k : EvF K tb ψ) : StP K cl E (tPar i j (tCons ta (tCons tb tNil))) (sParOO i j φ ψ) := fun S H0 G ρ σ H r ⟨T, ow, sm⟩ he D q => by
  obtain ⟨es, h1, h2⟩ := Option.bind_eq_some_iff.mp he
  obtain ⟨fs, h3, rfl⟩ := Option.map_eq_some_iff.mp h2
  refine h S H0 G T ow ρ σ H es sm h1 _ fun p vs H1 s1 hp hp' hd => k S H0 G (p :: T) ow ρ σ H1 fs (sm.hideN hp s1 hp') h3 _ fun p2 us H2 s2 hp2 hp2' hd2 => ⟨_, _, rfl, ?_⟩
  exact q _ H2 ((sm.setO (i := i) hp s1 hp' hd).setO (i := j) hp2 s2 hp2' hd2).sim
/-! ### xs.remove(k), xs.extend(ys) of lists of their own -/
def sExt (i : Nat) (φ : Rho → Option (List PyData)) : Rho → Option Res := fun ρ => (ro ρ i).bind fun es => (φ ρ).bind fun fs => if es.length + fs.length ≤ 100000 then some (.nx (ρ.set i (.own (es ++ fs)))) else none
end
/-! ### statements that draw, further -/
section
variable {K : PySem.W.Frag} {d : Addr}
/-- x.append(e), e drawn -/
def twApp (i : Nat) (Φ : Rho → Int → (PyData → Int → Prop) → Prop) : Rho → Int → (Res → Int → Prop) → Prop := fun ρ n P => ∃ es, ro ρ i = some es ∧ es.length < 100000 ∧ Φ ρ n fun e n1 => P (.nx (ρ.set i (.own (es ++ [e])))) n1
theorem sw_app {te : TE} {i : Nat} {Φ : Rho → Int → (PyData → Int → Prop) → Prop} (h : EvW K d te Φ) : StW K d (tDrop (tBM K "list" rAppend (tVar i) (tCons te tNil))) (twApp i Φ) := fun S H0 b c n G ρ σ H P ⟨T, ow, sm⟩ ⟨es, h1, hl, h2⟩ D q => by
  obtain ⟨o, ho, fo, vs, rfl, k1, k2, k3⟩ := sm.co.slot i _ (ro_some h1)
  refine ⟨.ref fo, ho, .inl ⟨rfl, _, SqL.of k2⟩, h S H0 b c n G T ow ρ σ H _ sm h2 _ fun v e n1 H1 hP d1 hv => ⟨fo, vs, v, rfl, rfl, d1.at (sm.new fo k1).2 k2, Evl.sz_lt (by rw [DaAll.len k3]; exact hl), ?_⟩⟩
  have w1 := sm.draw d1
  exact q _ n1 hP σ _ ⟨T, ow, w1.back (w1.pure.chg (ro_some h1) ho ((k3.mono (sm.ck.sm d1)).append (.cons hv .nil)))⟩
end
end Pb

set_option Elab.async false
set_option linter.all false
set_option maxRecDepth 100000
namespace Pb
open PySem PySem.Spec PyProof.Rows L2
/-! ### t[-2::-1] -/
section
variable {prog : Program} {w : World} {A : Around} {E : Value → Shared → Prop} {s : Shared}
end
section
variable {X : Cx}
end
section
variable {K : PySem.W.Frag}
end
/-! ### further words that draw -/
section
variable {K : PySem.W.Frag} {d : Addr}
end
section
variable {K : PySem.W.Frag} {cl : Str → Addr} {E : XK} {d : Addr}
/-! a, b = e, f where a name is a cell: a tuple is made and unpacked -/
end
end Pb

set_option Elab.async false
set_option linter.all false
set_option maxRecDepth 100000
namespace Pb
open PySem PySem.Spec PyProof.Rows L2
/-! ### sorted(xs) of data, sorted(xs, key=len) -/
section
variable {X : Cx}
end
/-! readings -/
section
variable {K : PySem.W.Frag}
/-- sorted(t), a tuple of ints -/
def fSortT : List PyData → Option (List PyData)
  | [.tuple es] => (intsD es).map fun ns => (sortI ns).map .int
  | _ => none
theorem cf_sortT : CbF K (rSortT K) fSortT := fun T H xs ds es tr h he Q q => by
  unfold fSortT at he
  split at he
  · obtain ⟨ns, k1, rfl⟩ := Option.map_eq_some_iff.mp he
    cases h with
    | cons h1 h2 =>
      cases h2
      obtain ⟨p, ys, rfl, hq, hd, _⟩ := h1.tup
      rw [ints_v hd k1] at hq
      refine ⟨p, ns, rfl, hq, fun ns' p' hp hs' hn => ?_⟩
      have e : ns' = sortI ns := sorted_uniq (hp.trans sortI_perm.symm) hs' sortI_le
      subst e
      exact q p' _ _ (same_upd hn) hn upd_same (DaAll.ints _)
  · cases he
end
end Pb

set_option Elab.async false
set_option linter.all false
set_option maxRecDepth 100000
namespace Pb
open PySem PySem.Spec PyProof.Rows L2
/-! ### [e for x in .. if .. for y in .. if ..] -/
section
variable {K : PySem.W.Frag} {S : List Addr} {H0 : Hp} {G : Hp → Prop} {T ow : List Addr} {ρ : Rho} {σ : L2.St} {H : Hp} {D : Addr}
end
end Pb

set_option Elab.async false
set_option linter.all false
set_option maxRecDepth 100000
namespace Pb
open PySem PySem.Spec PyProof.Rows L2
/-! ### a call that reads lists of their own, and answers what is no list -/
section
variable {K : PySem.W.Frag}
/-! ### a list of its own read as data for the time of one reading -/
end
end Pb

set_option Elab.async false
set_option linter.all false
set_option maxRecDepth 100000
namespace Pb
open PySem PySem.Spec PyProof.Rows L2
/-! ### ints and bools as numbers -/
section
variable {X : Cx}
end
/-! ### data of a bounded width -/
mutual
def bg (L B : Nat) : PyData → Bool
  | .int i => decide (i.natAbs ≤ B)
  | .tuple xs => decide (xs.length ≤ L) && bgAll L B xs
  | .list xs => decide (xs.length ≤ L) && bgAll L B xs
  | .none => true
  | .bool _ => true
  | .str x => okD (.str x)
  | .dict kvs => okD (.dict kvs)
def bgAll (L B : Nat) : List PyData → Bool
  | [] => true
  | x :: xs => bg L B x && bgAll L B xs
end
mutual
theorem bg_ok {L B : Nat} (hL : L ≤ 60) (hB : B < 10 ^ 80) : ∀ e : PyData, bg L B e = true → okD e = true
  | .int i, h => by
    simp only [bg, okD, decide_eq_true_eq] at h ⊢
    exact Nat.lt_of_le_of_lt h hB
  | .tuple xs, h => by
    simp only [bg, okD, Bool.and_eq_true, decide_eq_true_eq] at h ⊢
    exact ⟨Nat.le_trans h.1 hL, bg_okAll hL hB xs h.2⟩
  | .list xs, h => by
    simp only [bg, okD, Bool.and_eq_true, decide_eq_true_eq] at h ⊢
    exact ⟨Nat.le_trans h.1 hL, bg_okAll hL hB xs h.2⟩
  | .none, _ => rfl
  | .bool _, _ => rfl
  | .str x, h => by simpa only [bg] using h
  | .dict kvs, h => by simpa only [bg] using h
theorem bg_okAll {L B : Nat} (hL : L ≤ 60) (hB : B < 10 ^ 80) : ∀ xs : List PyData, bgAll L B xs = true → okAll xs = true
  | [], _ => rfl
  | x :: xs, h => by
    simp only [bgAll, okAll, Bool.and_eq_true] at h ⊢
    exact ⟨bg_ok hL hB x h.1, bg_okAll hL hB xs h.2⟩
end
mutual
theorem bg_mono {L B L' B' : Nat} (hL : L ≤ L') (hB : B ≤ B') : ∀ e : PyData, bg L B e = true → bg L' B' e = true
  | .int i, h => by
    simp only [bg, decide_eq_true_eq] at h ⊢
    exact Nat.le_trans h hB
  | .tuple xs, h => by
    simp only [bg, Bool.and_eq_true, decide_eq_true_eq] at h ⊢
    exact ⟨Nat.le_trans h.1 hL, bg_monoAll hL hB xs h.2⟩
  | .list xs, h => by
    simp only [bg, Bool.and_eq_true, decide_eq_true_eq] at h ⊢
    exact ⟨Nat.le_trans h.1 hL, bg_monoAll hL hB xs h.2⟩
  | .none, _ => rfl
  | .bool _, _ => rfl
  | .str x, h => by simpa only [bg] using h
  | .dict kvs, h => by simpa only [bg] using h
theorem bg_monoAll {L B L' B' : Nat} (hL : L ≤ L') (hB : B ≤ B') : ∀ xs : List PyData, bgAll L B xs = true → bgAll L' B' xs = true
  | [], _ => rfl
  | x :: xs, h => by
    simp only [bgAll, Bool.and_eq_true] at h ⊢
    exact ⟨bg_mono hL hB x h.1, bg_monoAll hL hB xs h.2⟩
end
/-- what _law_bent makes of e, any data of width L and ints up to B -/
structure BntG (L B : Nat) (e e' : PyData) : Prop where
  g : bg (L + 1) (B + 1) e' = true
  w : wt e' ≤ 2 * wt e + 2200
  dp : e'.depth ≤ e.depth + 2
end Pb

set_option Elab.async false
set_option linter.all false
set_option maxRecDepth 100000
namespace Pb
open PySem PySem.Spec PyProof.Rows L2
section
variable {K : PySem.W.Frag} {d : Addr}
end
end Pb

set_option Elab.async false
set_option linter.all false
set_option maxRecDepth 100000
namespace Pb
open PySem PySem.Spec PyProof.Rows L2
section
variable {K : PySem.W.Frag} {S : List Addr} {H0 : Hp} {G : Hp → Prop} {T ow : List Addr} {ρ : Rho} {σ : L2.St} {H H' : Hp}
/-- a new list is tracked, no slot has it yet -/
theorem SimO.keep (h : SimO K S H0 G T ow ρ σ H) {p : Addr} {vs : List V} {es : List PyData} (hp : H p = none) (s : Same H H') (hp' : H' p = some (.lst vs)) (hd : DaAll K (hs (p :: T) H') vs es) : SimO K S H0 G (p :: T) (p :: ow) ρ σ H' := by
  have k := h.setO (i := ρ.length) hp s hp' hd
  rw [List.set_eq_of_length_le (Nat.le_refl _), List.set_eq_of_length_le (by rw [h.len]; exact Nat.le_refl _)] at k
  exact k
end
section
variable {K : PySem.W.Frag} {d : Addr}
end
end Pb

set_option Elab.async false
set_option linter.all false
set_option maxRecDepth 100000
namespace Pb
open PySem PySem.Spec PyProof.Rows L2
def whW (β : Rho → Option Bool) (Ψ : Rho → Int → (Res → Int → Prop) → Prop) : Nat → Rho → Int → (Res → Int → Prop) → Prop
  | 0, _, _, _ => False
  | m + 1, ρ, n, P => ∃ c, β ρ = some c ∧ if c then Ψ ρ n fun r n1 => match r with
    | .nx ρ' => whW β Ψ m ρ' n1 P
    | .ct ρ' => whW β Ψ m ρ' n1 P
    | .bk ρ' => P (.nx ρ') n1
    | r => P r n1
    else P (.nx ρ) n
/-- while, its body drawing -/
def twWhile (m : Nat) (β : Rho → Option Bool) (Ψ : Rho → Int → (Res → Int → Prop) → Prop) : Rho → Int → (Res → Int → Prop) → Prop := whW β Ψ m
section
variable {K : PySem.W.Frag} {d : Addr}
end
end Pb

set_option Elab.async false
set_option linter.all false
set_option maxRecDepth 100000
namespace Pb
open PySem PySem.Spec PyProof.Rows L2
open L2H (RoomH cxH)
/-! ### defs whose last parameter is an error that is being handled -/
/-- what an error's fields look like -/
def XdSh (d : Option Addr) (fs : List (Str × PyData)) : Prop := (d = none ∧ fs = []) ∨ ∃ dd f e, d = some dd ∧ fs = [(f, e)]
theorem XdO.sh {K : PySem.W.Frag} {X : Hp} {d : Option Addr} {fs : List (Str × PyData)} (h : XdO K X d fs) : XdSh d fs := by
  match d, fs, h with
  | none, [], _ => exact .inl ⟨rfl, rfl⟩
  | some dd, [(f, e)], _ => exact .inr ⟨dd, f, e, rfl, rfl⟩
section
variable {P : Program} {w : World} {K : PySem.W.Frag} {mg : Str → Option Value} {base : Heap}
theorem ClE.weaker {k : Nat} {x : Str} {ps : List Str} {sp sp' : SpE} (h : ClE P w K mg base k x ps sp) (hs' : ∀ a cls d vs H Q E, sp' a cls d vs H Q E → sp a cls d vs H Q E) : ClE P w K mg base k x ps sp' := by
  obtain ⟨f, fd, h1, h2, h3, h4⟩ := h.ex
  exact ⟨f, fd, ⟨fun a cls d vs H Q E z => h1.len a cls d vs H Q E (hs' _ _ _ _ _ _ _ z), fun A outer s H args us vs Q E p cls d hr hz hf hp e0 hb rv hsp => h1.run A outer s H args us vs Q E p cls d hr hz hf hp e0 hb rv (hs' _ _ _ _ _ _ _ hsp)⟩, h2, h3, h4⟩
end
section
variable {K : PySem.W.Frag} {cl : Str → Addr}
end
end Pb

set_option Elab.async false
set_option linter.all false
set_option maxRecDepth 100000
namespace Pb
open PySem PySem.Spec PyProof.Rows L2
/-! ### expressions that may raise -/
section
variable (K : PySem.W.Frag) (cl : Str → Addr) (W : WX)
def EvX (te : TE) (ξ : Rho → Option Out) : Prop := ∀ S H0 G T ow ρ σ H o, SimO K S H0 G T ow ρ σ H → ξ ρ = some o → ∀ Q : VK, (∀ e, o = .ret e → ∀ v H', Same H H' → Da K (hs T H') v e → Q v H') → ((∀ e, o ≠ .ret e) → WxOk K cl S H0 G W ρ o) → te σ H Q
end
def xSetX (i : Nat) (ξ : Rho → Option Out) : Rho → Option Rx := fun ρ => (ξ ρ).map fun o => outR o ρ fun e => .nx (ρ.set i (.val e))
section
variable {K : PySem.W.Frag} {cl : Str → Addr} {W : WX}
theorem sx_setX {te : TE} {i : Nat} {ξ : Rho → Option Out} (h : EvX K cl W te ξ) : StX K cl W (tAsg te (gName i)) (xSetX i ξ) := fun S H0 G ρ σ H r ⟨T, ow, sm⟩ he D q => by
  obtain ⟨o, h1, rfl⟩ := Option.map_eq_some_iff.mp he
  refine h S H0 G T ow ρ σ H o sm h1 _ (fun e eo v H' s hd => ?_) (fun hne => ?_)
  · subst eo
    exact q _ H' ((sm.mono s).setV hd).sim
  · cases o with
    | ret e => exact absurd rfl (hne e)
    | exc x => exact q
    | excF x f e => exact q
end
end Pb

set_option Elab.async false
set_option linter.all false
set_option maxRecDepth 100000
namespace Pb
open PySem PySem.Spec PyProof.Rows L2
open PySem.W (Frag findIn InstAt KitX)
open L2H (RoomH cxH)
/-! ### isinstance(err, ValueError) -/
def rIsPV (K : Frag) (a : Addr) (cls : Value) (d : Option Addr) : List V → Hp → VK → Prop := fun xs H Q => ∃ (D : Addr) (T : String) (b : Bool) (fs : List (Str × V)), cls = .ref D ∧ ExcC K D ∧ XdAt H d fs ∧ xs = [.ref a, .ty T] ∧ PySem.W.kitOne K (.ref D) (.type T) = some b ∧ Q (.bl b) H
theorem call_isPV {X : Cx} {a : Addr} {oe : Obj} {cls : Value} {d : Option Addr} (hp : (a, oe) ∈ X.pn) (hz : Zc cls d oe) (hf : ∃ vs, oe.data = .fields vs) : CallR X (.builtin "isinstance") (rIsPV X.K a cls d) := by
  intro pins s σ H xs us Q I r ⟨D, T, b, fs, ec, xc, hx, ex, e, q⟩
  subst ec ex
  obtain ⟨u1, u2, rfl, r1, r2⟩ := vals2 r
  obtain rfl : u1 = Value.ref a := r1
  obtain rfl : u2 = Value.type T := r2
  obtain ⟨od, J⟩ := pin_inst hp hz hf I hx
  exact PySem.W.kia_one (H := fun h => InstAt h a oe D od) (kit_err xc) I.kIn J e (fun z => nomatch z) fun tk => ⟨.bl b, H, I.kept (t' := tk) fun _ _ z => z, rfl, q⟩
theorem bt_ValueError : bootBuiltins "ValueError" = some (.type "ValueError") := by decide +kernel
theorem kit_tyv {K : Frag} {C : Addr} {T : String} {b : Bool} (hm : PySem.W.kitMeta T = true) (h : PySem.W.subIn K (.ref C) (.type T) = some b) : PySem.W.kitOne K (.ref C) (.type T) = some b := by
  show (if (Value.ref C == Value.type T) = true then some true else PySem.W.kitCls K (.ref C) (.type T)) = some b
  rw [if_neg (show ¬ (Value.ref C == Value.type T) = true from fun z => by cases z)]
  show (if PySem.W.kitMeta T = true then PySem.W.subIn K (.ref C) (.type T) else none) = some b
  rw [if_pos hm]
  exact h
theorem meta_VE : PySem.W.kitMeta "ValueError" = true := by decide +kernel
def eIsV (a : Addr) (d : Option Addr) (i : Nat) : Rho → Option PyData := fun ρ => (rxn ρ i a d).map fun _ => .bool true
/-- err.f where the error is of class c -/
def eFldC (x c : Str) (a : Addr) (d : Option Addr) (i : Nat) (f : Str) : Rho → Option PyData := fun ρ => if x = c then eFld a d i f ρ else none
section
variable {K : PySem.W.Frag} {cl : Str → Addr}
theorem xs_isV {a : Addr} {cls : Value} {d : Option Addr} {i : Nat} {x : Str} (hc : cls = .ref (cl x)) (xc : ExcC K (cl x)) (kt : PySem.W.kitOne K (.ref (cl x)) (.type "ValueError") = some true) : EvS K (tCB (rIsPV K a cls d) (tCons (tVar i) (tCons (tC (.ty "ValueError")) tNil))) (eIsV a d i) := fun S H0 G T ow ρ σ H e sm he Q q => by
  subst hc
  obtain ⟨fs, h1, rfl⟩ := Option.map_eq_some_iff.mp he
  obtain ⟨o, ho, rfl, hx⟩ := sm.slot i _ (rxn_some h1)
  obtain ⟨gs, hg⟩ := xd_at hx hs_sub
  exact ⟨_, ho, cl x, "ValueError", _, gs, rfl, xc, hg, rfl, kt, q _ H (Same.refl _) (.bl _)⟩
theorem xs_fldC {a : Addr} {cls : Value} {d : Option Addr} {i : Nat} {x c f : Str} (hc : cls = .ref (cl x)) : EvS K (tXf a cls d (cl c) f (tVar i)) (eFldC x c a d i f) := xs_fld hc
end
/-! ### a def of a slot called -/
section
variable {X : Cx} {CX : CXT} {k j i : Nat} {f : Addr} {fd : FuncData} {ps : List Str} {sp : Sp} {E : L2.St → XK} {W : WX} {x : Str} {p pos : Pos} {e : Expr} {es : List Expr} {t : TA}
end
section
variable {K : PySem.W.Frag} {cl : Str → Addr} {W : WX}
end
/-! ### a def whose first parameter is a def -/
section
variable {K : PySem.W.Frag} {cl : Str → Addr}
end
end Pb

set_option Elab.async false
set_option linter.all false
set_option maxRecDepth 100000
namespace Pb
open PySem PySem.Spec PyProof.Rows L2
/-! ### xs[i] -= e -/
end Pb

set_option Elab.async false
set_option linter.all false
set_option maxRecDepth 100000
namespace Pb
open PySem PySem.Spec PyProof.Rows L2
/-! ### sum of a tuple -/
def fSumT : List PyData → Option PyData
  | [.tuple es] => (intsD es).map fun ns => .int ns.sum
  | _ => none
end Pb

set_option Elab.async false
set_option linter.all false
set_option maxRecDepth 100000
namespace Pb
open PySem PySem.Spec PyProof.Rows L2
/-! ### what does not look at a slot -/
def atR (i : Nat) (b : Addr) : Res → Res
  | .nx ρ => .nx (ρ.set i (.deck b))
  | .bk ρ => .bk (ρ.set i (.deck b))
  | .ct ρ => .ct (ρ.set i (.deck b))
  | r => r
def BlS (i : Nat) (ψ : Rho → Option Res) : Prop := ∀ (a b : Addr) (ρ : Rho), ψ (ρ.set i (.deck b)) = (ψ (ρ.set i (.deck a))).map (atR i b)
section
variable {i : Nat} {φ χ : Rho → Option PyData} {φs : Rho → Option (List PyData)} {β γ : Rho → Option Bool} {ψ ξ : Rho → Option Res}
theorem BlS.self (k : BlS i ψ) {a : Addr} {ρ ρ' : Rho} (h : ψ (ρ.set i (.deck a)) = some (.nx ρ')) : ρ'.set i (.deck a) = ρ' := by
  have := k a a ρ
  rw [h] at this
  injection this with this
  injection this with this
  exact this.symm
end
/-! ### a walk over a list of a slot that the body leaves alone -/
section
variable {K : PySem.W.Frag} {S : List Addr} {H0 : Hp} {G : Hp → Prop} {T ow : List Addr} {ρ : Rho} {σ : L2.St} {H : Hp}
end
end Pb

set_option Elab.async false
set_option linter.all false
set_option maxRecDepth 100000
namespace Pb
open PySem PySem.Spec PyProof.Rows L2
/-! ### a, b, c = [..], [..], [..] -/
end Pb

set_option Elab.async false
set_option linter.all false
set_option maxRecDepth 100000
namespace Pb
open PySem PySem.Spec PyProof.Rows L2
/-! ### walking what is a list or a tuple -/
end Pb

set_option Elab.async false
set_option linter.all false
set_option maxRecDepth 100000
namespace Pb
open PySem PySem.Spec PyProof.Rows L2
/-! ### sorted(set(l)), l a list of ints -/
section
variable {X : Cx}
def rSetL (K : PySem.W.Frag) (w : World) : List V → Hp → VK → Prop := fun xs H Q => ∃ (l : Addr) (ns : List Int), xs = [.ref l] ∧ SqL K H l (ns.map V.int) ∧ ns.length ≤ 1000 ∧
  ∀ (p : Addr) (c : Nat), c ≤ ns.length → H p = none → Q (.ref p) (upd H p (SetO w p (fun j => decide (j ∈ ns)) c))
/-- the set just made -/
abbrev oSet (w : World) : Obj := { cls := .type "set", dict := none, data := .set #[] 0 (.fresh 0 0 (!w.params.followText "set-order")) }
set_option maxHeartbeats 3200000 in
theorem set_of_list {P : Program} {w : World} {A : Around} {E : Value → Shared → Prop} {s : Shared} {l : Addr} {its : Array Value} (ns : List Int) {Q : Value → Shared → Prop} (hh : A.handled = none) (hl : s.heap.IsList l its) (hi : IntsAre its.toList ns) (hb : ns.length + 1 < scanBound)
    (h : ∀ (h' : Heap) (tk c : Nat), SetR w h' s.heap.objs.size (fun j => decide (j ∈ ns)) c → c ≤ ns.length → (∀ b o, s.heap.get? b = some o → h'.get? b = some o) → Q (.ref s.heap.objs.size) { s with heap := h', toks := tk }) :
    wpAny (model P w) A (call (.type "set") [.ref l]) Q E s := by
  have sz : its.size = ns.length := by
    have := IntsAre.length hi
    rwa [Array.length_toList] at this
  obtain ⟨c, tl, hmro⟩ := PySem.F.called_set.mro
  have hmade := PySem.F.called_set.made
  have hsub := PySem.F.called_set.sub
  have h1 := PySem.F.called_set.notType
  have h2 := PySem.F.called_set.canCreate
  have hct := PySem.F.typeCall_set_1 (.ref l)
  refine wpAny_call (codeAny_of_tree ?_)
  show wpAny _ _ (callAny (.type "set") _) _ _ _
  refine wpAny_pure ⟨Code.quiet_builtin _ (by decide +kernel), codeAny_builtin PySem.F.entry_type_call ?_⟩
  rw [Around.under_plain (weight_type_call_type "set" [.ref l] []) rfl]
  repeat (any_goals (first | assumption | wp_step))
  refine codeAny_mono (code_set_led1 (.ref l) (E := E) (Q₁ := fun o s₁ => o = .ref s.heap.objs.size ∧ s₁ = { s with heap := s.heap.push (oSet w) }) ⟨rfl, rfl⟩) fun r s₁ hr => ?_
  match r, hr with
  | .error e, hr => exact hr
  | .ok (.ret obj), hr =>
    obtain ⟨rfl, rfl⟩ := hr
    have hS : (s.heap.push (oSet w)).get? s.heap.objs.size = some (oSet w) := Heap.get?_push_size _ rfl
    have hT : Shared.TypeIs { s with heap := s.heap.push (oSet w) } (.ref s.heap.objs.size) "set" := ⟨_, hS, rfl⟩
    have hli := PySem.F.called_set.init.lookup
    have hbi := PySem.F.called_set.init.bind (.ref s.heap.objs.size)
    repeat (any_goals (first | assumption | wp_step))
    refine codeAny_mono (codeAny_call_builtin (R := wants (fun r s₂ => r = .none ∧ ∃ h' tk c, s₂ = { s with heap := h', toks := tk } ∧ SetR w h' s.heap.objs.size (fun j => decide (j ∈ ns)) c ∧ c ≤ ns.length ∧ (∀ b o, s.heap.get? b = some o → h'.get? b = some o)) E)
      PySem.F.called_set.init.plain PySem.F.entry_set_init (check_set_init_1 hT ?_)) fun r₂ s₂ hr₂ => ?_
    · obtain ⟨⟨ocls, odict, odata, oslots⟩, hol, hcl, nl, hdl⟩ := hl
      simp only at hcl hdl
      subst hcl hdl
      have hol' : (s.heap.push (oSet w)).get? l = some { cls := .type "list", dict := odict, data := .seq its nl, slots := oslots } := Heap.get?_push_of_some _ hol
      have hsls := PySem.F.sub_list_set
      have hslf := PySem.F.sub_list_frozenset
      have hne : (Value.type "list" == Value.type "dict") = false := by decide
      have hl1 : (s.heap.push (oSet w)).IsList l its := ⟨_, hol', rfl, nl, rfl⟩
      unfold Builtin.«set.__init__» noKeywords Builtin.Frozenset.updateFrom
      generalize hPI : pyIter = PI
      wp_walk
      subst hPI
      have lt : l < s.heap.objs.size := Heap.lt_size hol
      have zz : (s.heap.push (oSet w)).objs.size = s.heap.objs.size + 1 := Heap.size_push ..
      refine wpAny_pyIter_list hl1 (wpAny_bind (wpAny_runValue ?_))
      refine set_update_ints ((Walks.list (by simp [hh]) _ l (by rw [zz]; exact Nat.ne_of_lt (Nat.lt_succ_of_lt lt)) its).toS) s.heap.objs.size (by rw [zz]; simp only [List.mem_cons, List.not_mem_nil, or_false, not_or]; exact ⟨Nat.ne_of_lt (Nat.lt_succ_self _), Nat.ne_of_gt lt⟩) ns sz hb (fun i v hv => ?_) (its.size - 0) 0 _ (by omega) (Nat.zero_le _) ⟨⟨_, Heap.get?_push_size _ rfl, rfl, rfl⟩, (hl1.push _)⟩ ⟨0, Nat.le_refl 0, setR_new_at (Heap.get?_push_of_some _ hS)⟩ fun s' c' hm hc' hS' => ?_
      · have hi' : i < ns.length := by
          rw [← sz]
          exact (Array.getElem?_eq_some_iff.mp hv).1
        obtain ⟨t, e⟩ := PyProof.Rows.IntsAre.int_at hi i v (by rw [Array.getElem?_toList]; exact hv)
        refine ⟨ns[i], t, List.getElem?_eq_getElem hi', ?_⟩
        rw [e, List.getD_eq_getElem?_getD, List.getElem?_eq_getElem hi']
        rfl
      · obtain ⟨h', g2, d', tk', os'⟩ := s'
        obtain rfl : g2 = s.gens := hm.gens
        obtain rfl : d' = s.drawn := hm.drawn
        obtain rfl : os' = s.os := hm.os
        show wpAny _ _ _ _ _ _
        refine wpAny_pure ?_
        show wpAny _ _ (ret Value.none) _ _ _
        refine wpAny_pure ⟨rfl, h', tk', c', rfl, hS', by omega, fun b o e => hm.heap b o ?_ (Heap.get?_push_of_some _ (Heap.get?_push_of_some _ e))⟩
        have hb0 : b < s.heap.objs.size := Heap.lt_size e
        rw [zz]
        simp only [List.mem_cons, List.not_mem_nil, or_false, not_or]
        exact ⟨Nat.ne_of_lt hb0, Nat.ne_of_lt (Nat.lt_succ_of_lt hb0)⟩
    · match r₂, hr₂ with
      | .error e, hr₂ => exact hr₂
      | .ok (.ret r), hr₂ =>
        obtain ⟨rfl, h', tk, c', rfl, hS', hc', hk'⟩ := hr₂
        repeat (any_goals (first | assumption | wp_step))
        exact h _ _ _ hS' hc' hk'
theorem cr_setL (hc : X.calm = true) : CallR X (.type "set") (rSetL X.K X.w) := by
  intro pins s σ H xs us Q I r h
  obtain ⟨l, ns, rfl, hx, hl, q⟩ := h
  rw [Vals.ref1 r]
  obtain ⟨its, rv, pt, hz⟩ := I.list hx
  have hi : IntsAre its.toArray.toList ns := ints_of_vals rv
  refine set_of_list ns (I.ok.hd hc) pt.isList hi (by unfold scanBound; omega) fun h' tk c R1 hcn k => ?_
  exact ⟨.ref _, upd H s.heap.objs.size (SetO X.w s.heap.objs.size (fun j => decide (j ∈ ns)) c), I.laid (t' := tk) k (Nat.le_refl _) (setO_new R1), rfl, q _ c hcn (I.hok.fresh (Nat.le_refl _))⟩
end
section
variable {K : PySem.W.Frag} {d : Addr}
/-- of a list just drawn -/
def wfSortU (Φ : Rho → Int → (List PyData → Int → Prop) → Prop) : Rho → Int → (List PyData → Int → Prop) → Prop := fun ρ n P => Φ ρ n fun es n1 => ∃ ns, intsD es = some ns ∧ ns.length < 64 ∧ P ((sortU ns).map .int) n1
/-! ### a comprehension over a range whose bound is drawn -/
def wfLcR (vs : List Nat) (it : Rho → Int → (PyData → Int → Prop) → Prop) (τ : PyData → Rho → Option Rho) (β : Rho → Option Bool) (Φ : Rho → Int → (PyData → Int → Prop) → Prop) : Rho → Int → (List PyData → Int → Prop) → Prop := fun ρ n P => it ρ n fun x n1 => ∃ j, x = .int j ∧ small j = true ∧ j ≤ 100000 ∧ lcW τ β Φ (wipeR ρ vs) (rngD 0 j) n1 P
end
end Pb

set_option Elab.async false
set_option linter.all false
set_option maxRecDepth 100000
namespace Pb
open PySem PySem.Spec PyProof.Rows L2
/-! ### for whose body may raise -/
def forX (b : PyData → Rho → Option Rx) : List PyData → Rho → Option Rx
  | [], ρ => some (.ok (.nx ρ))
  | e :: es, ρ => (b e ρ).bind fun r => match r with
    | .ok (.nx ρ') => forX b es ρ'
    | .ok (.ct ρ') => forX b es ρ'
    | .ok (.bk ρ') => some (.ok (.nx ρ'))
    | r => some r
def xFor (it : Rho → Option (List PyData)) (τ : PyData → Rho → Option Rho) (ξ : Rho → Option Rx) : Rho → Option Rx := fun ρ => (it ρ).bind fun es => forX (fun e ρ => (τ e ρ).bind ξ) es ρ
section
variable {K : PySem.W.Frag} {cl : Str → Addr} {W : WX}
theorem WxOk.weak {S : List Addr} {H0 : Hp} {G G' : Hp → Prop} {ρ : Rho} {o : Out} (mo : ∀ H H', Same H H' → G H → G H') (hg : ∀ H, G' H → G H) (h : WxOk K cl S H0 G W ρ o) : WxOk K cl S H0 G' W ρ o := by
  cases o with
  | ret _ => exact h
  | exc x => exact fun T ow σ H sm => h T ow σ H (sm.weak mo (hg _ sm.fr))
  | excF x f e => exact fun T ow σ H v d sm h1 h2 => h T ow σ H v d (sm.weak mo (hg _ sm.fr)) h1 h2
theorem sx_for {wi : TI} {g : TG} {tb : TS} {js : List Nat} {it : Rho → Option (List PyData)} {τ : PyData → Rho → Option Rho} {ξ : Rho → Option Rx} (hi : ItP K wi it) (hg : TgP K g js τ) (hb : StX K cl W tb ξ) : StX K cl W (tFor wi g tb) (xFor it τ ξ) := fun S H0 G ρ σ H r ⟨T, ow, sm⟩ he D q => by
  obtain ⟨es, h1, h2⟩ := Option.bind_eq_some_iff.mp he
  refine hi S H0 G T ow ρ σ H es sm h1 _ fun J H1 s1 ⟨F, Gw, Yw, mo, f0, wk, hG, hY⟩ => ?_
  have wkn : ∀ {ρ' : Rho} {σ' : L2.St} {H' : Hp}, Sim K S H0 (fun X => G X ∧ F X) ρ' σ' H' → Sim K S H0 G ρ' σ' H' := fun ⟨T', ow', sm'⟩ => ⟨T', ow', sm'.weak sm.mo sm'.fr.1⟩
  refine for_it wk (fun i σ' H' => ∃ ρ', Sim K S H0 (fun X => G X ∧ F X) ρ' σ' H' ∧ forX (fun e ρ => (τ e ρ).bind ξ) (es.drop i) ρ' = some r) ?_ ?_ ?_ ?_
  · exact ⟨ρ, ⟨T, ow, (sm.mono s1).weak (fun H H' s h => ⟨sm.mo _ _ s h.1, mo _ _ s h.2⟩) ⟨(sm.mono s1).fr, f0⟩⟩, h2⟩
  · rintro i σ' H' _ ⟨ρ', ⟨T', ow', sm'⟩, _⟩
    exact hG _ _ sm'.fr.2
  · rintro i x σ' H2 H3 hlt ⟨ρ', ⟨T', ow', sm'⟩, e4⟩ y
    obtain ⟨s3, e, he3, hx⟩ := hY _ H2 i x H3 sm'.fr.2 sm'.tr hlt y
    have dr : es.drop i = e :: es.drop (i + 1) := by
      rw [List.drop_eq_getElem_cons hlt]
      congr 1
      rw [List.getElem?_eq_getElem hlt] at he3
      exact Option.some.inj he3
    rw [dr] at e4
    obtain ⟨r1, k1, k2⟩ := Option.bind_eq_some_iff.mp e4
    obtain ⟨ρ2, k3, k4⟩ := Option.bind_eq_some_iff.mp k1
    refine hg S H0 _ _ ow' _ _ H3 x e ρ2 (sm'.mono s3) hx k3 _ fun σ2 sm4 _ => hb S H0 _ ρ2 σ2 H3 r1 sm4.sim k4 _ ?_
    cases r1 with
    | ok r1 =>
      cases r1 with
      | nx ρ3 => exact fun σ5 H5 sm5 => ⟨ρ3, sm5, k2⟩
      | ct ρ3 => exact fun σ5 H5 sm5 => ⟨ρ3, sm5, k2⟩
      | bk ρ3 =>
        cases k2
        exact fun σ5 H5 sm5 => q σ5 H5 (wkn sm5)
      | rt d =>
        cases k2
        exact q
      | ex o =>
        cases k2
        exact q
    | ex o ρ3 =>
      cases k2
      exact WxOk.weak sm.mo (fun _ h => h.1) q
  · rintro σ' H' ⟨ρ', sm', e4⟩
    rw [List.drop_length] at e4
    cases e4
    exact q σ' H' (wkn sm')
end
theorem pi_nox {X : Cx} {tg it : Expr} {wi : TI} (h : PI X.nox tg it wi) : PI X tg it wi := ⟨fun pins s σ H R I hw => wpAny_mono (h.run pins s σ H R (I.wish _) hw) (fun _ _ z => wpAny_mono z (fun _ _ ⟨a, fp, tn, J, H', e, I', t, t0, f, r⟩ => ⟨a, fp, tn, J, H', e, I'.unwish, t, t0, f, r⟩) fun _ _ z => False.elim z) fun _ _ z => False.elim z⟩
theorem xFor_of {it : Rho → Option (List PyData)} {τ : PyData → Rho → Option Rho} {ξ : Rho → Option Rx} {ρ : Rho} {es : List PyData} {r : Option Rx} (h : it ρ = some es) (k : forX (fun e ρ => (τ e ρ).bind ξ) es ρ = r) : xFor it τ ξ ρ = r := by
  unfold xFor
  rw [h]
  exact k
theorem forX_nx {B : PyData → Rho → Option Rx} {e : PyData} {es : List PyData} {ρ ρ' : Rho} (h : B e ρ = some (.ok (.nx ρ'))) : forX B (e :: es) ρ = forX B es ρ' := by
  show (B e ρ).bind _ = _
  rw [h]
  rfl
theorem forX_ex {B : PyData → Rho → Option Rx} {e : PyData} {es : List PyData} {ρ ρ' : Rho} {o : Out} (h : B e ρ = some (.ex o ρ')) : forX B (e :: es) ρ = some (.ex o ρ') := by
  show (B e ρ).bind _ = _
  rw [h]
  rfl
end Pb

set_option Elab.async false
set_option linter.all false
set_option maxRecDepth 100000
namespace Pb
open PySem PySem.Spec PyProof.Rows L2
/-! ### dicts: locked for good, they are data -/
section
variable {X : Cx}
end
def kI : PyData → Int
  | .int i => i
  | _ => 0
def dAt (kvs : List (PyData × PyData)) (k : Int) : Option PyData := (kvs.find? fun p => decide (kI p.1 = k)).map (·.2)
def dPut (kvs : List (PyData × PyData)) (k : Int) (d : PyData) : List (PyData × PyData) :=
  if (kvs.any fun p => decide (kI p.1 = k)) = true then kvs.map (fun p => if kI p.1 = k then (p.1, d) else p) else kvs ++ [(.int k, d)]
/-- a dict as data: its first entry is a mark -/
def dicD (kvs : List (PyData × PyData)) : PyData := .dict ((.none, .none) :: kvs)
def flB : PyData → Bool
  | .none => true
  | .int _ => true
  | .tuple ds => ds.all fun d => match d with
    | .int _ => true
    | _ => false
  | _ => false
section
variable {K : PySem.W.Frag} {H H' : Hp}
theorem DaAll.ints_of : ∀ {vs : List V} {ds : List PyData}, DaAll K H vs ds → (ds.all fun d => match d with | .int _ => true | _ => false) = true → ∃ ns : List Int, vs = ns.map V.int ∧ ds = ns.map PyData.int
  | _, _, .nil, _ => ⟨[], rfl, rfl⟩
  | _, _, .cons h k, hb => by
    rw [List.all_cons, Bool.and_eq_true] at hb
    obtain ⟨ns, rfl, rfl⟩ := DaAll.ints_of k hb.2
    cases h with
    | int i => exact ⟨i :: ns, rfl, rfl⟩
    | _ => cases hb.1
theorem Fl.of {v : V} {d : PyData} (h : Da K H v d) (hb : flB d = true) : Fl K H v d := by
  cases h with
  | non => exact .non
  | int i => exact .int i
  | tup h1 h2 =>
    obtain ⟨ns, rfl, rfl⟩ := DaAll.ints_of h2 hb
    exact .tup ns h1
  | _ => cases hb
theorem Fl.da {v : V} {d : PyData} (h : Fl K H v d) : Da K H v d := by
  cases h with
  | non => exact .non
  | int i => exact .int i
  | tup ns h => exact .tup h (DaAll.ints ns)
theorem Kvs.at : ∀ {ks : List (Key × V)} {kvs : List (PyData × PyData)}, Kvs K H ks kvs → ∀ k : Int, (dAt kvs k = none ∧ valV ks (Sum.inl k) = none) ∨ ∃ d v, dAt kvs k = some d ∧ valV ks (Sum.inl k) = some v ∧ Fl K H v d
  | _, _, .nil, k => .inl ⟨rfl, rfl⟩
  | _, _, @Kvs.cons _ _ i v d ks kvs h r, k => by
    by_cases e : i = k
    · subst e
      exact .inr ⟨d, v, by simp [dAt, kI], valV_pos rfl, h⟩
    · have e1 : dAt ((.int i, d) :: kvs) k = dAt kvs k := by simp [dAt, kI, e]
      have e2 : valV ((Sum.inl i, v) :: ks) (Sum.inl k) = valV ks (Sum.inl k) := valV_neg (p := (Sum.inl i, v)) (by simpa using e)
      rw [e1, e2]
      exact Kvs.at r k
theorem Kvs.any : ∀ {ks : List (Key × V)} {kvs : List (PyData × PyData)}, Kvs K H ks kvs → ∀ k : Int, (ks.any fun kv => decide (kv.1 = Sum.inl k)) = kvs.any fun p => decide (kI p.1 = k)
  | _, _, .nil, k => rfl
  | _, _, @Kvs.cons _ _ i v d ks kvs h r, k => by
    rw [List.any_cons, List.any_cons, Kvs.any r k]
    congr 1
    show decide (Sum.inl i = (Sum.inl k : Key)) = decide (i = k)
    rw [decide_eq_decide]
    exact ⟨Sum.inl.inj, fun z => by rw [z]⟩
theorem Kvs.map {k : Int} {v : V} {d : PyData} (fl : Fl K H v d) : ∀ {ks : List (Key × V)} {kvs : List (PyData × PyData)}, Kvs K H ks kvs → Kvs K H (ks.map fun kv => if kv.1 = Sum.inl k then (kv.1, v) else kv) (kvs.map fun p => if kI p.1 = k then (p.1, d) else p)
  | _, _, .nil => .nil
  | _, _, @Kvs.cons _ _ i u e ks kvs h r => by
    rw [List.map_cons, List.map_cons]
    by_cases z : i = k
    · rw [if_pos (show (Sum.inl i : Key) = Sum.inl k by rw [z]), if_pos (show kI (.int i) = k from z)]
      exact .cons fl (Kvs.map fl r)
    · rw [if_neg (show ¬ (Sum.inl i : Key) = Sum.inl k from fun q => z (Sum.inl.inj q)), if_neg (show ¬ kI (.int i) = k from z)]
      exact .cons h (Kvs.map fl r)
theorem Kvs.snoc {k : Int} {v : V} {d : PyData} (fl : Fl K H v d) : ∀ {ks : List (Key × V)} {kvs : List (PyData × PyData)}, Kvs K H ks kvs → Kvs K H (ks ++ [(Sum.inl k, v)]) (kvs ++ [(.int k, d)])
  | _, _, .nil => .cons fl .nil
  | _, _, .cons h r => .cons h (Kvs.snoc fl r)
theorem Kvs.put {k : Int} {v : V} {d : PyData} (fl : Fl K H v d) {ks : List (Key × V)} {kvs : List (PyData × PyData)} (h : Kvs K H ks kvs) : Kvs K H (putK ks (Sum.inl k) v) (dPut kvs k d) := by
  unfold putK dPut
  rw [h.any k]
  by_cases z : (kvs.any fun p => decide (kI p.1 = k)) = true
  · rw [if_pos z, if_pos z]
    exact Kvs.map fl h
  · rw [if_neg z, if_neg z]
    exact Kvs.snoc fl h
theorem Kvs.key : ∀ {ks : List (Key × V)} {kvs : List (PyData × PyData)}, Kvs K H ks kvs → ∀ {i : Nat} {k : Key} {v : V}, ks[i]? = some (k, v) → ∃ n : Int, k = Sum.inl n ∧ (kvs.map (·.1))[i]? = some (.int n)
  | _, _, .nil, i, k, v, e => by simp at e
  | _, _, @Kvs.cons _ _ n _ _ _ _ h r, i, k, v, e => by
    cases i with
    | zero =>
      simp only [List.getElem?_cons_zero, Option.some.injEq, Prod.mk.injEq] at e
      exact ⟨n, e.1.symm, rfl⟩
    | succ i => exact Kvs.key r (by simpa using e)
theorem Kvs.ints : ∀ {ks : List (Key × V)} {kvs : List (PyData × PyData)}, Kvs K H ks kvs → DaAll K H' (ks.map fun kv => kV kv.1) (kvs.map (·.1))
  | _, _, .nil => .nil
  | _, _, .cons h r => .cons (.int _) (Kvs.ints r)
/-! without one dict -/
theorem SqL.off {Y : Hp} {a b : Addr} {xs : List V} {o : Obj} {ks : List (Key × V)} (hXY : ∀ b o, b ≠ a → H b = some o → Y b = some o) (ha : H a = some (.frz o (.dK ks))) (h : SqL K H b xs) : SqL K Y b xs := by
  have ne : ∀ u, H b = some u → u ≠ .frz o (.dK ks) → b ≠ a := fun u e hn z => by
    rw [z, ha] at e
    exact hn (Option.some.inj e).symm
  rcases h with (h | ⟨o', h⟩) | h
  · exact .inl (.inl (hXY b _ (ne _ h (fun z => by cases z)) h))
  · exact .inl (.inr ⟨o', hXY b _ (ne _ h (fun z => by cases z)) h⟩)
  · exact .inr h
theorem SqT.off {Y : Hp} {a b : Addr} {xs : List V} {o : Obj} {ks : List (Key × V)} (hXY : ∀ b o, b ≠ a → H b = some o → Y b = some o) (ha : H a = some (.frz o (.dK ks))) (h : SqT K H b xs) : SqT K Y b xs := by
  have ne : ∀ u, H b = some u → u ≠ .frz o (.dK ks) → b ≠ a := fun u e hn z => by
    rw [z, ha] at e
    exact hn (Option.some.inj e).symm
  rcases h with (h | ⟨o', h⟩) | h
  · exact .inl (.inl (hXY b _ (ne _ h (fun z => by cases z)) h))
  · exact .inl (.inr ⟨o', hXY b _ (ne _ h (fun z => by cases z)) h⟩)
  · exact .inr h
mutual
theorem Da.off {Y : Hp} {a : Addr} {o : Obj} {ks : List (Key × V)} (hXY : ∀ b o, b ≠ a → H b = some o → Y b = some o) (ha : H a = some (.frz o (.dK ks))) : ∀ (e : PyData) (v : V), Da K H v e → e.hasDict = false → Da K Y v e
  | .none, _, h, _ => by
    cases h
    exact .non
  | .bool b, _, h, _ => by
    cases h
    exact .bl b
  | .int i, _, h, _ => by
    cases h
    exact .int i
  | .str x, _, h, _ => by
    cases h
    exact .str x
  | .list ds, _, h, hn => by
    cases h with
    | lst h1 h2 => exact .lst (SqL.off hXY ha h1) (DaAll.off hXY ha ds _ h2 (by simpa only [PyData.hasDict] using hn))
  | .tuple ds, _, h, hn => by
    cases h with
    | tup h1 h2 => exact .tup (SqT.off hXY ha h1) (DaAll.off hXY ha ds _ h2 (by simpa only [PyData.hasDict] using hn))
  | .dict _, _, h, hn => by simp [PyData.hasDict] at hn
theorem DaAll.off {Y : Hp} {a : Addr} {o : Obj} {ks : List (Key × V)} (hXY : ∀ b o, b ≠ a → H b = some o → Y b = some o) (ha : H a = some (.frz o (.dK ks))) : ∀ (es : List PyData) (vs : List V), DaAll K H vs es → PyData.hasDictAll es = false → DaAll K Y vs es
  | [], _, h, _ => by
    cases h
    exact .nil
  | e :: es, _, h, hn => by
    simp only [PyData.hasDictAll, Bool.or_eq_false_iff] at hn
    cases h with
    | cons h1 h2 => exact .cons (Da.off hXY ha e _ h1 hn.1) (DaAll.off hXY ha es _ h2 hn.2)
end
end
/-! ### reading them -/
section
variable {K : PySem.W.Frag}
/-! ### new dicts -/
end
end Pb

set_option Elab.async false
set_option linter.all false
set_option maxRecDepth 100000
namespace Pb
open PySem PySem.Spec PyProof.Rows L2
/-! ### a dict of its own in a slot -/
structure SimDO (K : PySem.W.Frag) (S : List Addr) (H0 : Hp) (G : Hp → Prop) (c : Nat) (a : Addr) (ks : List (Key × V)) (kvs : List (PyData × PyData)) (Hx : Hp) (T ow : List Addr) (ρ : Rho) (σ : L2.St) (H : Hp) : Prop where
  so : SimO K (a :: S) Hx G T ow (ρ.set c (.deck a)) σ H
  rc : ρ[c]? = some (.val (dicD kvs))
  ha : H a = some (.dK ks)
  kv : Kvs K (hs T H) ks kvs
  hx : Same H0 Hx
  h0 : H0 a = none
  tS : Tr S H0
section
variable {K : PySem.W.Frag} {S : List Addr} {H0 : Hp} {G : Hp → Prop} {c : Nat} {a : Addr} {ks : List (Key × V)} {kvs : List (PyData × PyData)} {Hx : Hp} {T ow : List Addr} {ρ : Rho} {σ : L2.St} {H H' : Hp}
theorem SimDO.mono (h : SimDO K S H0 G c a ks kvs Hx T ow ρ σ H) (s : Same H H') : SimDO K S H0 G c a ks kvs Hx T ow ρ σ H' :=
  { so := h.so.mono s, rc := h.rc, ha := s _ _ h.ha, kv := h.kv.mono (hs_mono s), hx := h.hx, h0 := h.h0, tS := h.tS }
theorem SimDO.weak {G' : Hp → Prop} (h : SimDO K S H0 G c a ks kvs Hx T ow ρ σ H) (mo : ∀ H H', Same H H' → G' H → G' H') (hg : G' (hs T H)) : SimDO K S H0 G' c a ks kvs Hx T ow ρ σ H :=
  { so := h.so.weak mo hg, rc := h.rc, ha := h.ha, kv := h.kv, hx := h.hx, h0 := h.h0, tS := h.tS }
theorem SimDO.lt (h : SimDO K S H0 G c a ks kvs Hx T ow ρ σ H) : c < ρ.length := (List.getElem?_eq_some_iff.mp h.rc).1
theorem SimDO.at (h : SimDO K S H0 G c a ks kvs Hx T ow ρ σ H) : σ[c]? = some (some (.ref a)) := by
  obtain ⟨o, ho, e⟩ := h.so.slot c (.deck a) (by rw [List.getElem?_set_self h.lt])
  rw [ho, show o = some (.ref a) from e]
theorem SimDO.back {od : Obj} (h : SimDO K S H0 G c a ks kvs Hx T ow ρ σ H) (s : Same (upd H a (.frz od (.dK ks))) H') : Same H (upd H' a (.dK ks)) := fun b o e => by
  by_cases z : b = a
  · rw [z, h.ha] at e
    rw [z, upd_same]
    exact e
  · rw [upd_ne z]
    exact s _ _ (by rw [upd_ne z]; exact e)
end
/-! ### statements -/
section
variable (K : PySem.W.Frag) (cl : Str → Addr)
end
section
variable {K : PySem.W.Frag} {cl : Str → Addr} {E : XK} {c : Nat}
/-! the way in, the way out -/
end
end Pb

set_option Elab.async false
set_option linter.all false
set_option maxRecDepth 100000
namespace Pb
open PySem PySem.Spec PyProof.Rows L2
end Pb

set_option Elab.async false
set_option linter.all false
set_option maxRecDepth 100000
namespace Pb
open PySem PySem.Spec PyProof.Rows L2
/-! ### zip of a list and a tuple -/
section
variable {K : PySem.W.Frag}
end
end Pb

set_option Elab.async false
set_option linter.all false
set_option maxRecDepth 100000
namespace Pb
open PySem PySem.Spec PyProof.Rows L2
section
variable {K : PySem.W.Frag}
end
end Pb

set_option Elab.async false
set_option linter.all false
set_option maxRecDepth 100000
namespace Pb
open PySem PySem.Spec PyProof.Rows L2
end Pb

set_option Elab.async false
set_option linter.all false
namespace Pb
open PySem PySem.Spec PyProof.Rows L2 PyProof
/-! xs.extend(a list of any place) -/
section
variable {K : PySem.W.Frag} {cl : Str → Addr} {E : XK}
end
end Pb

set_option Elab.async false
set_option linter.all false
set_option maxRecDepth 100000
namespace Pb
open PySem PySem.Spec PyProof.Rows L2
section
variable {P : Program} {w : World} {K : PySem.W.Frag} {mg : Str → Option Value} {base : Heap}
def q_is_integer : List PyData → Option PyData := runF 1 1
  ((sRet (eAnd (eUn (fIsi "int") (eVar 0)) (eNot (eUn (fIsi "bool") (eVar 0))))))
def q_is_number_below : List PyData → Option PyData := runF 2 2
  ((sRet (eAnd (eCb q_is_integer (aCons (eVar 0) aNil)) (eChain fLe fLt (eInt 0) (eVar 0) (eVar 1)))))
def q_is_tuple_of : List PyData → Option PyData := runF 2 2
  ((sRet (eAnd (eUn (fIsi "tuple") (eVar 0)) (eOp fEq (eCb fLen (aCons (eVar 0) aNil)) (eVar 1)))))
def q_is_distinct_below : List PyData → Option PyData := runF 3 2
  ((sSeq (sIf (bNot (bTest (eUn (fIsi "tuple") (eVar 0)))) (sRet (eBl false)) sNil)
  (sSeq (sIf (bNot (bTest (eCb fAll (aCons (eL (lLc [2] (iT (eVar 0)) (gN 2) bYes (eCb q_is_number_below (aCons (eVar 2) (aCons (eVar 1) aNil))))) aNil)))) (sRet (eBl false)) sNil)
  (sRet (eOp fEq (eUn fLenSet (eVar 0)) (eCb fLen (aCons (eVar 0) aNil)))))))
def q__law_whole : List PyData → Option PyData := runF 1 1
  ((sRet (eAnd (eUn (fIsi "int") (eVar 0)) (eNot (eUn (fIsi "bool") (eVar 0))))))
end
end Pb

set_option Elab.async false
set_option linter.all false
set_option maxRecDepth 100000
namespace Pb
open PySem PySem.Spec PyProof.Rows L2
/-! ### small defs evaluated -/
theorem q_num (x : PyData) (c : Int) : q_is_number_below [x, .int c] = some (.bool (numBelow x c)) := by
  cases x with
  | int i =>
    show (match (((if decide (0 ≤ i) = true then some (PyData.bool (decide (i < c))) else some (.bool false)) : Option PyData).map Res.rt) with
      | some (.rt e) => some e
      | some (.nx _) => some .none
      | _ => none) = some (.bool (decide (0 ≤ i) && decide (i < c)))
    cases decide (0 ≤ i) <;> rfl
  | none => rfl
  | bool _ => rfl
  | str _ => rfl
  | list _ => rfl
  | tuple _ => rfl
  | dict _ => rfl
theorem num_iff {x : PyData} {c : Int} : numBelow x c = true ↔ ∃ i : Int, x = .int i ∧ 0 ≤ i ∧ i < c := by
  cases x with
  | int i =>
    show (decide (0 ≤ i) && decide (i < c)) = true ↔ _
    simp only [Bool.and_eq_true, decide_eq_true_eq]
    exact ⟨fun h => ⟨i, rfl, h⟩, fun ⟨j, e, h⟩ => by cases e; exact h⟩
  | _ => exact ⟨fun h => (by cases h), fun ⟨_, e, _⟩ => (by cases e)⟩
/-- a tuple of n things -/
def tupLen : PyData → Int → Bool
  | .tuple es, n => decide ((es.length : Int) = n)
  | _, _ => false
theorem q_tupOf (x : PyData) (n : Int) : q_is_tuple_of [x, .int n] = some (.bool (tupLen x n)) := by
  cases x <;> rfl
/-! ### comprehensions over data: tests alone, values alone -/
theorem lLc_map {vs : List Nat} {it : Rho → Option (List PyData)} {τ : PyData → Rho → Option Rho} {φ : Rho → Option PyData} {ρ : Rho} {es : List PyData} (v : PyData → PyData) (hi : it ρ = some es) (hl : es.length ≤ 100000)
    (h : ∀ e ∈ es, ∃ ρ', τ e (wipeR ρ vs) = some ρ' ∧ φ ρ' = some (v e)) : lLc vs it τ bYes φ ρ = some (es.map v) := by
  have := lLc_of (vs := vs) (it := it) (τ := τ) (β := bYes) (φ := φ) (ρ := ρ) (fun _ => true) v hi hl fun e he => by
    obtain ⟨ρ', h1, h2⟩ := h e he
    exact ⟨ρ', h1, rfl, fun _ => h2⟩
  rw [this, List.filter_eq_self.mpr fun _ _ => rfl]
/-- all([..]) -/
theorem fAll_map (b : PyData → Bool) (es : List PyData) : fAll [.list (es.map fun e => .bool (b e))] = some (.bool (es.all b)) := by
  have e : (es.map fun e => PyData.bool (b e)) = (es.map b).map PyData.bool := by rw [List.map_map]; rfl
  show ((bools (es.map fun e => PyData.bool (b e))).map fun bs => PyData.bool (bs.all id)) = _
  rw [e, bools_map]
  show some (PyData.bool ((es.map b).all id)) = _
  rw [List.all_map]
  rfl
theorem inL_ints {d : Int} : ∀ o : List Int, inL (.int d) (o.map PyData.int) = decide (d ∈ o)
  | [] => rfl
  | x :: o => by
    show (PyData.eqv (.int x) (.int d) || inL (.int d) (o.map PyData.int)) = _
    rw [inL_ints o]
    have e : PyData.eqv (.int x) (.int d) = decide (x = d) := by
      simp only [PyData.eqv]
      first | rfl | (by_cases h : x = d <;> simp [h])
    rw [e, Bool.eq_iff_iff, Bool.or_eq_true, decide_eq_true_iff, decide_eq_true_iff, decide_eq_true_iff, List.mem_cons]
    exact ⟨fun h => h.imp Eq.symm id, fun h => h.imp Eq.symm id⟩
theorem flat_ints : ∀ o : List Int, (o.map PyData.int).all flatD = true
  | [] => rfl
  | _ :: o => flat_ints o
def lstD (a : List Int) : PyData := .list (a.map PyData.int)
theorem fIn_tup (d : Int) (o : List Int) : fIn (.int d) (offD o) = some (.bool (decide (d ∈ o))) := by
  show (if (true && (o.map PyData.int).all flatD) = true then _ else _) = _
  rw [flat_ints, Bool.true_and, if_pos rfl, inL_ints]
theorem okL {ds : List PyData} (h : okD (.tuple ds) = true) : ds.length ≤ 60 := by
  simp only [okD, Bool.and_eq_true, decide_eq_true_eq] at h
  exact h.1
theorem okAll_mem {ds : List PyData} (h : okAll ds = true) : ∀ x ∈ ds, okD x = true := by
  induction ds with
  | nil => exact fun x hx => absurd hx List.not_mem_nil
  | cons d ds ih =>
    simp only [okAll, Bool.and_eq_true] at h
    intro x hx
    rcases List.mem_cons.mp hx with rfl | hx
    · exact h.1
    · exact ih h.2 x hx
theorem okT_mem {ds : List PyData} (h : okD (.tuple ds) = true) : ∀ x ∈ ds, okD x = true := by
  simp only [okD, Bool.and_eq_true, decide_eq_true_eq] at h
  exact okAll_mem h.2
/-! ### is_distinct_below -/
theorem sortU_len_le : ∀ {ns : List Int}, (sortU ns).length ≤ ns.length
  | [] => Nat.le_refl _
  | x :: ns => by
    have ih := sortU_len_le (ns := ns)
    have : ∀ l : List Int, (insU x l).length ≤ l.length + 1 := by
      intro l
      induction l with
      | nil => simp [insU]
      | cons y l ih =>
        unfold insU
        split
        · simp
        · split
          · simp
          · simp only [List.length_cons]
            omega
    have := this (sortU ns)
    show (insU x (sortU ns)).length ≤ _
    rw [List.length_cons]
    omega
theorem insU_len_eq {x : Int} : ∀ {l : List Int}, (insU x l).length = l.length + 1 → x ∉ l ∨ ¬ l.Pairwise (· < ·)
  | [], _ => .inl List.not_mem_nil
  | y :: l, h => by
    by_cases hp : (y :: l).Pairwise (· < ·)
    · obtain ⟨h1, h2⟩ := List.pairwise_cons.mp hp
      unfold insU at h
      split at h
      · rename_i hx
        refine .inl fun hm => ?_
        rcases List.mem_cons.mp hm with rfl | hm
        · omega
        · have := h1 x hm
          omega
      · split at h
        · simp at h
        · rename_i ne
          simp only [List.length_cons] at h
          rcases insU_len_eq (x := x) (l := l) (by omega) with k | k
          · exact .inl fun hm => (List.mem_cons.mp hm).elim ne k
          · exact absurd h2 k
    · exact .inr hp
theorem sortU_len_iff : ∀ {ns : List Int}, (sortU ns).length = ns.length ↔ ns.Nodup
  | [] => by simp [sortU]
  | x :: ns => by
    constructor
    · intro h
      have h' : (insU x (sortU ns)).length = ns.length + 1 := h
      have le := sortU_len_le (ns := ns)
      have le2 : (insU x (sortU ns)).length ≤ (sortU ns).length + 1 := by
        have : ∀ l : List Int, (insU x l).length ≤ l.length + 1 := by
          intro l
          induction l with
          | nil => simp [insU]
          | cons y l ih =>
            unfold insU
            split
            · simp
            · split
              · simp
              · simp only [List.length_cons]
                omega
        exact this _
      have e1 : (sortU ns).length = ns.length := by omega
      refine List.nodup_cons.mpr ⟨?_, sortU_len_iff.mp e1⟩
      rcases insU_len_eq (x := x) (l := sortU ns) (by omega) with k | k
      · exact fun z => k (sortU_mem.mpr z)
      · exact absurd sortU_lt k
    · intro h
      exact nodup_same_len sortU_nodup h fun k => sortU_mem
def distB (x : PyData) (c : Int) : Bool := match x with
  | .tuple es => (es.all fun e => numBelow e c) && match intsD es with
    | some ns => decide (ns.Nodup)
    | none => false
  | _ => false
theorem dist_iff {x : PyData} {c : Int} : distB x c = true ↔ ∃ ns : List Int, x = offD ns ∧ (∀ i ∈ ns, 0 ≤ i ∧ i < c) ∧ ns.Nodup := by
  cases x with
  | tuple es =>
    simp only [distB, Bool.and_eq_true]
    constructor
    · rintro ⟨h1, h2⟩
      obtain ⟨ns, rfl⟩ := all_ints (ds := es) fun e he => by
        obtain ⟨i, rfl, _⟩ := num_iff.mp (List.all_eq_true.mp h1 e he)
        exact isInt_iff.mpr ⟨i, rfl⟩
      rw [intsD_ints] at h2
      refine ⟨ns, rfl, fun i hi => ?_, of_decide_eq_true h2⟩
      obtain ⟨j, e, hj⟩ := num_iff.mp (List.all_eq_true.mp h1 _ (List.mem_map_of_mem hi))
      cases e
      exact hj
    · rintro ⟨ns, e, h1, h2⟩
      cases e
      refine ⟨List.all_eq_true.mpr fun e he => ?_, ?_⟩
      · obtain ⟨i, hi, rfl⟩ := List.mem_map.mp he
        exact num_iff.mpr ⟨i, rfl, h1 i hi⟩
      · rw [intsD_ints]
        exact decide_eq_true h2
  | _ => exact ⟨fun h => (by cases h), fun ⟨_, e, _⟩ => (by cases e)⟩
theorem lenSet_ints {ns : List Int} (h : ns.length ≤ 1000) : fLenSet (offD ns) = some (.int ((sortU ns).length : Nat)) := by
  show (Option.bind (intsD (ns.map PyData.int)) _) = _
  rw [intsD_ints]
  show (if ns.length ≤ 1000 then _ else _) = _
  rw [if_pos h]
theorem fEq_int (i j : Int) : fEq (.int i) (.int j) = some (.bool (decide (i = j))) := rfl
theorem q_dist {x : PyData} (c : Int) (ok : okD x = true) : q_is_distinct_below [x, .int c] = some (.bool (distB x c)) := by
  cases x with
  | tuple es =>
    have hl := okL ok
    refine runF_of rfl ((sSeq_nx ((sIf_f rfl).trans rfl)).trans ?_)
    have k : lLc [2] (iT (eVar 0)) (gN 2) bYes (eCb q_is_number_below (aCons (eVar 2) (aCons (eVar 1) aNil))) [.val (.tuple es), .val (.int c), .no] = some (es.map fun e => .bool (numBelow e c)) :=
      lLc_map _ rfl (by omega) fun e _ => ⟨_, rfl, eCb_of (aCons_of rfl (aCons_of rfl rfl)) (q_num e c)⟩
    have k2 := bNot_of (bTest_of (φ := eCb fAll (aCons (eL (lLc [2] (iT (eVar 0)) (gN 2) bYes (eCb q_is_number_below (aCons (eVar 2) (aCons (eVar 1) aNil))))) aNil)) (eCb_of (aCons_of (eL_of k) rfl) (fAll_map (fun e => numBelow e c) es)))
    cases ha : es.all fun e => numBelow e c with
    | false =>
      rw [ha] at k2
      refine (sSeq_rt ((sIf_t k2).trans rfl)).trans ?_
      simp only [distB, ha, Bool.false_and]
    | true =>
      rw [ha] at k2
      refine (sSeq_nx ((sIf_f k2).trans rfl)).trans (sRet_of ?_)
      obtain ⟨ns, rfl⟩ := all_ints (ds := es) fun e he => by
        obtain ⟨i, rfl, _⟩ := num_iff.mp (List.all_eq_true.mp ha e he)
        exact isInt_iff.mpr ⟨i, rfl⟩
      rw [List.length_map] at hl
      refine (eOp_of (f := fEq) (x := .int ((sortU ns).length : Nat)) (y := .int (ns.length : Nat)) (lenSet_ints (by omega)) ?_ (fEq_int _ _)).trans ?_
      · show some (PyData.int (((ns.map PyData.int).length : Nat) : Int)) = _
        rw [List.length_map]
      · simp only [distB, ha, Bool.true_and, intsD_ints]
        congr 2
        rw [Bool.eq_iff_iff, decide_eq_true_iff, decide_eq_true_iff, ← sortU_len_iff]
        omega
  | _ => rfl
end Pb

set_option Elab.async false
set_option linter.all false
set_option maxRecDepth 100000
namespace Pb
open PySem PySem.Spec PyProof.Rows L2
/-! ### loops that check each item -/
/-! ### enumerate, items -/
theorem mem_enumD {xs : List PyData} {e : PyData} : e ∈ enumD xs ↔ ∃ (k : Nat) (x : PyData), xs[k]? = some x ∧ e = .tuple [.int (k : Int), x] := by
  unfold enumD
  rw [List.mem_map]
  constructor
  · rintro ⟨⟨x, k⟩, h, rfl⟩
    exact ⟨k, x, List.mem_zipIdx_iff_getElem?.mp h, rfl⟩
  · rintro ⟨k, x, h, rfl⟩
    exact ⟨(x, k), List.mem_zipIdx_iff_getElem?.mpr h, rfl⟩
theorem ixT_at {xs : List PyData} {k : Nat} {x : PyData} (h : xs[k]? = some x) : fIxT (.tuple xs) (.int (k : Int)) = some x := atI_nat h
theorem ixL_at {xs : List PyData} {k : Nat} {x : PyData} (h : xs[k]? = some x) : fIxL (.list xs) (.int (k : Int)) = some x := atI_nat h
theorem ixT_int {ns : List Int} {k : Nat} {i : Int} (h : ns[k]? = some i) : fIxT (offD ns) (.int (k : Int)) = some (.int i) := ixT_at (by rw [List.getElem?_map, h]; rfl)
theorem ixT_off {os : List (List Int)} {k : Nat} {o : List Int} (h : os[k]? = some o) : fIxT (.tuple (os.map offD)) (.int (k : Int)) = some (offD o) := ixT_at (by rw [List.getElem?_map, h]; rfl)
theorem len_off (ns : List Int) : fLen [offD ns] = some (.int (ns.length : Nat)) := by
  show some (PyData.int (((ns.map PyData.int).length : Nat) : Int)) = _
  rw [List.length_map]
theorem len_offs (os : List (List Int)) : fLen [.tuple (os.map offD)] = some (.int (os.length : Nat)) := by
  show some (PyData.int (((os.map offD).length : Nat) : Int)) = _
  rw [List.length_map]
end Pb

set_option Elab.async false
set_option linter.all false
set_option maxRecDepth 100000
namespace Pb
open PySem PySem.Spec PyProof.Rows L2
/-! ### data of a bounded size -/
structure Gw (W D : Nat) (e : PyData) : Prop where
  ok : okD e = true
  w : wt e ≤ W
  dp : e.depth ≤ D
theorem Gw.mono {W W' D D' : Nat} {e : PyData} (h : Gw W D e) (hW : W ≤ W' := by omega) (hD : D ≤ D' := by omega) : Gw W' D' e := ⟨h.ok, Nat.le_trans h.w hW, Nat.le_trans h.dp hD⟩
theorem Gw.gs {W D : Nat} {e : PyData} (h : Gw W D e) (hW : W ≤ 1000000 := by decide) (hD : D ≤ 20 := by decide) : Gs e := ⟨h.ok, Nat.le_trans h.w hW, Nat.le_trans h.dp hD⟩
/-! ### a well-formed table -/
structure Tb (m : Nat) (os : List (List Int)) : Prop where
  m1 : 1 ≤ m
  m10 : m ≤ 10
  len : os.length ≤ 10
  off : ∀ o ∈ os, OffOk m o
theorem cutG_map {α β : Type} (f : α → β) (xs : List α) (lo hi : Option Int) : cutG (xs.map f) lo hi = (cutG xs lo hi).map f := by
  unfold cutG
  rw [List.length_map, List.map_take, List.map_drop]
theorem eTup2_of {φ ψ : Rho → Option PyData} {ρ : Rho} {x y : PyData} (h : φ ρ = some x) (k : ψ ρ = some y) : eTup (aCons φ (aCons ψ aNil)) ρ = some (.tuple [x, y]) := by
  unfold eTup
  rw [aCons_of h (aCons_of k rfl)]
  rfl
theorem lim_of {xs : List PyData} (hl : xs.length ≤ 100000) : lim xs = some xs := by
  unfold lim
  rw [if_pos hl]
theorem lLst_of {φs : Rho → Option (List PyData)} {ρ : Rho} {xs : List PyData} (h : φs ρ = some xs) (hl : xs.length ≤ 100000) : lLst φs ρ = some xs := by
  unfold lLst
  rw [h]
  show lim xs = _
  unfold lim
  rw [if_pos hl]
theorem lCat_of {φ ψ : Rho → Option (List PyData)} {ρ : Rho} {xs ys : List PyData} (h : φ ρ = some xs) (k : ψ ρ = some ys) (hl : xs.length + ys.length ≤ 100000) : lCat φ ψ ρ = some (xs ++ ys) := by
  unfold lCat
  rw [h, k]
  show lim (xs ++ ys) = _
  unfold lim
  rw [if_pos (by simpa using hl)]
end Pb

set_option Elab.async false
set_option linter.all false
set_option maxRecDepth 100000
namespace Pb
open PySem PySem.Spec PyProof.Rows L2
section
variable {P : Program} {w : World} {K : PySem.W.Frag} {mg : Str → Option Value} {base : Heap}
def q_is_order : List PyData → Option PyData := runF 2 2
  ((sRet (eAnd (eCb Pb.q_is_distinct_below (aCons (eVar 0) (aCons (eVar 1) aNil))) (eOp fEq (eCb fLen (aCons (eVar 0) aNil)) (eVar 1)))))
end
end Pb

set_option Elab.async false
set_option linter.all false
set_option maxRecDepth 100000
namespace Pb
open PySem PySem.Spec PyProof.Rows L2
theorem eAnd_t {φ ψ : Rho → Option PyData} {ρ : Rho} (h : φ ρ = some (.bool true)) : eAnd φ ψ ρ = ψ ρ := by
  unfold eAnd
  rw [h]
  rfl
theorem eAnd_f {φ ψ : Rho → Option PyData} {ρ : Rho} (h : φ ρ = some (.bool false)) : eAnd φ ψ ρ = some (.bool false) := by
  unfold eAnd
  rw [h]
  rfl
/-! ### orders -/
def OrdP (m : Nat) (ns : List Int) : Prop := (∀ i ∈ ns, 0 ≤ i ∧ i < (m : Int)) ∧ ns.Nodup ∧ ns.length = m
theorem sub_full {l r : List Int} (h : l.Nodup) (hl : r.length ≤ l.length) (hs : ∀ i ∈ l, i ∈ r) : ∀ i ∈ r, i ∈ l := by
  intro i hi
  by_cases z : i ∈ l
  · exact z
  · have := nodup_len (l := i :: l) (r := r) (List.nodup_cons.mpr ⟨z, h⟩) fun j hj => by
      rcases List.mem_cons.mp hj with rfl | hj
      · exact hi
      · exact hs j hj
    rw [List.length_cons] at this
    omega
theorem upto_nodup (m : Nat) : (upto m).Nodup := (ints_strict m).imp fun h => by omega
theorem ord_iff {m : Nat} {ns : List Int} : OrdP m ns ↔ sortI ns = upto m := by
  constructor
  · rintro ⟨h1, h2, h3⟩
    refine strict_eq (nodup_sortI h2) (ints_strict m) fun k => ?_
    rw [sortI_perm.mem_iff]
    exact ⟨fun hk => mem_ints.mpr (h1 k hk), sub_full h2 (by rw [ints_len]; omega) (fun i hi => mem_ints.mpr (h1 i hi)) k⟩
  · intro h
    have p : ns.Perm (upto m) := by
      rw [← h]
      exact sortI_perm.symm
    exact ⟨fun i hi => mem_ints.mp (p.mem_iff.mp hi), p.nodup_iff.mpr (upto_nodup m), by rw [p.length_eq, ints_len]⟩
def ordB (x : PyData) (m : Nat) : Bool := match x with
  | .tuple es => distB (.tuple es) m && decide ((es.length : Int) = (m : Int))
  | _ => false
theorem ord_true {x : PyData} {m : Nat} : ordB x m = true ↔ ∃ ns, x = offD ns ∧ OrdP m ns := by
  cases x with
  | tuple es =>
    simp only [ordB, Bool.and_eq_true, decide_eq_true_eq, dist_iff]
    constructor
    · rintro ⟨⟨ns, e, h1, h2⟩, h3⟩
      refine ⟨ns, e, h1, h2, ?_⟩
      injection e with e
      rw [e, List.length_map] at h3
      omega
    · rintro ⟨ns, e, h1, h2, h3⟩
      refine ⟨⟨ns, e, h1, h2⟩, ?_⟩
      injection e with e
      rw [e, List.length_map]
      omega
  | _ => exact ⟨fun h => (by cases h), fun ⟨_, e, _⟩ => (by cases e)⟩
theorem q_order {x : PyData} (m : Nat) (ok : okD x = true) : q_is_order [x, .int (m : Nat)] = some (.bool (ordB x m)) := by
  have a : eCb Pb.q_is_distinct_below (aCons (eVar 0) (aCons (eVar 1) aNil)) (rho0 2 [x, .int (m : Nat)]) = some (.bool (distB x m)) := eCb_of (aCons_of rfl (aCons_of rfl rfl)) (q_dist (m : Int) ok)
  refine runF_of rfl (sRet_of ?_)
  cases hd : distB x m with
  | false =>
    rw [hd] at a
    refine (eAnd_f a).trans ?_
    cases x with
    | tuple es => simp only [ordB, hd, Bool.false_and]
    | _ => rfl
  | true =>
    rw [hd] at a
    refine (eAnd_t a).trans ?_
    cases x with
    | tuple es =>
      simp only [ordB, hd, Bool.true_and]
      rfl
    | _ => cases hd
/-! ### simple demands -/
def pairB (a b : List Int) : Bool := !(!(a.filter fun i => !decide (i ∈ b)).isEmpty && !(b.filter fun i => !decide (i ∈ a)).isEmpty)
def partsL (os : List (List Int)) (ns : List Int) (d : Int) : List (List Int) := (os.filter fun o => decide (d ∈ o)).map fun o => o.filter fun i => decide (i ∈ ns)
def fineB (os : List (List Int)) (ns : List Int) (d : Int) : Bool := (partsL os ns d).all fun a => (partsL os ns d).all fun b => pairB a b
def incl (a b : List Int) : Bool := (a.filter fun i => !decide (i ∈ b)).isEmpty
theorem incl_iff {a b : List Int} : incl a b = true ↔ ∀ i ∈ a, i ∈ b := by
  unfold incl
  rw [List.isEmpty_iff, List.filter_eq_nil_iff]
  simp
theorem pairB_iff {a b : List Int} : pairB a b = true ↔ (∀ i ∈ a, i ∈ b) ∨ (∀ i ∈ b, i ∈ a) := by
  rw [← incl_iff, ← incl_iff]
  unfold pairB incl
  cases (a.filter fun i => !decide (i ∈ b)).isEmpty <;> cases (b.filter fun i => !decide (i ∈ a)).isEmpty <;> decide
theorem fineB_iff {os : List (List Int)} {ns : List Int} {d : Int} : fineB os ns d = true ↔ ∀ o ∈ os, ∀ o' ∈ os, d ∈ o → d ∈ o' → (∀ i ∈ o, i ∈ ns → i ∈ o') ∨ (∀ i ∈ o', i ∈ ns → i ∈ o) := by
  unfold fineB
  rw [List.all_eq_true]
  constructor
  · intro h o ho o' ho' hd hd'
    have h1 : (o.filter fun i => decide (i ∈ ns)) ∈ partsL os ns d := List.mem_map.mpr ⟨o, List.mem_filter.mpr ⟨ho, decide_eq_true hd⟩, rfl⟩
    have h2 : (o'.filter fun i => decide (i ∈ ns)) ∈ partsL os ns d := List.mem_map.mpr ⟨o', List.mem_filter.mpr ⟨ho', decide_eq_true hd'⟩, rfl⟩
    rcases pairB_iff.mp (List.all_eq_true.mp (h _ h1) _ h2) with k | k
    · exact .inl fun i hi hn => (List.mem_filter.mp (k i (List.mem_filter.mpr ⟨hi, decide_eq_true hn⟩))).1
    · exact .inr fun i hi hn => (List.mem_filter.mp (k i (List.mem_filter.mpr ⟨hi, decide_eq_true hn⟩))).1
  · intro h a ha
    rw [List.all_eq_true]
    intro b hb
    obtain ⟨o, h1, rfl⟩ := List.mem_map.mp ha
    obtain ⟨o', h2, rfl⟩ := List.mem_map.mp hb
    obtain ⟨g1, g2⟩ := List.mem_filter.mp h1
    obtain ⟨g3, g4⟩ := List.mem_filter.mp h2
    refine pairB_iff.mpr ?_
    rcases h o g1 o' g3 (of_decide_eq_true g2) (of_decide_eq_true g4) with k | k
    · exact .inl fun i hi => by
        obtain ⟨x, y⟩ := List.mem_filter.mp hi
        exact List.mem_filter.mpr ⟨k i x (of_decide_eq_true y), y⟩
    · exact .inr fun i hi => by
        obtain ⟨x, y⟩ := List.mem_filter.mp hi
        exact List.mem_filter.mpr ⟨k i x (of_decide_eq_true y), y⟩
theorem fineB_sub {os : List (List Int)} {ns ms : List Int} {d : Int} (h : fineB os ns d = true) (hs : ∀ i ∈ ms, i ∈ ns) : fineB os ms d = true := by
  rw [fineB_iff] at h ⊢
  intro o ho o' ho' hd hd'
  exact (h o ho o' ho' hd hd').imp (fun k i hi hn => k i hi (hs i hn)) (fun k i hi hn => k i hi (hs i hn))
end Pb

set_option Elab.async false
set_option linter.all false
set_option maxRecDepth 100000
namespace Pb
open PySem PySem.Spec PyProof.Rows L2
theorem lSl_of {φ : Rho → Option PyData} {lo hi : Rho → Option (Option Int)} {ρ : Rho} {es : List PyData} {l h : Option Int} (h1 : φ ρ = some (.list es)) (h2 : lo ρ = some l) (h3 : hi ρ = some h) : lSl φ lo hi ρ = some (cutG es l h) := by
  unfold lSl
  rw [h1]
  show ((lo ρ).bind fun l => (hi ρ).map fun h => cutG es l h) = _
  rw [h2, h3]
  rfl
/-- _law_is_nested -/
def nestB (os : List (List Int)) (ns : List Int) : Bool := (List.range ns.length).all fun k => fineB os (ns.drop k) (ns.getD k 0)
end Pb

set_option Elab.async false
set_option linter.all false
set_option maxRecDepth 100000
namespace Pb
open PySem PySem.Spec PyProof.Rows L2
/-! ### loops that return at the first hit -/
/-! ### covering offers -/
def covL (os : List (List Int)) (d : Int) : List Int := (os.zipIdx.filter fun p => decide (d ∈ p.1)).map fun p => ((p.2 : Nat) : Int)
theorem mem_covL {os : List (List Int)} {d k : Int} : k ∈ covL os d ↔ ∃ (j : Nat) (o : List Int), os[j]? = some o ∧ d ∈ o ∧ k = (j : Int) := by
  unfold covL
  rw [List.mem_map]
  constructor
  · rintro ⟨⟨o, j⟩, h, rfl⟩
    obtain ⟨h1, h2⟩ := List.mem_filter.mp h
    exact ⟨j, o, List.mem_zipIdx_iff_getElem?.mp h1, of_decide_eq_true h2, rfl⟩
  · rintro ⟨j, o, h1, h2, rfl⟩
    exact ⟨(o, j), List.mem_filter.mpr ⟨List.mem_zipIdx_iff_getElem?.mpr h1, decide_eq_true h2⟩, rfl⟩
def prD (p : Int × Int) : PyData := .tuple [.int p.1, .int p.2]
/-! ### conflicts -/
structure Conf (os : List (List Int)) (d : Int) (later : List Int) (i j a b : Int) (oa ob : List Int) : Prop where
  a0 : 0 ≤ a
  b0 : 0 ≤ b
  ha : os[a.toNat]? = some oa
  hb : os[b.toNat]? = some ob
  da : d ∈ oa
  db : d ∈ ob
  il : i ∈ later
  jl : j ∈ later
  ia : i ∈ oa
  ib : i ∉ ob
  jb : j ∈ ob
  ja : j ∉ oa
def offAt (os : List (List Int)) (a : Int) : List Int := os.getD a.toNat []
end Pb

set_option Elab.async false
set_option linter.all false
set_option maxRecDepth 100000
namespace Pb
open PySem PySem.Spec PyProof.Rows L2
/-! ### find_conflict, is_nested_order -/
theorem nestB_iff {os : List (List Int)} {ns : List Int} : nestB os ns = true ↔ ∀ j d, ns[j]? = some d → fineB os (ns.drop j) d = true := by
  unfold nestB
  rw [List.all_eq_true]
  constructor
  · intro h j d hd
    have := h j (List.mem_range.mpr (List.getElem?_eq_some_iff.mp hd).1)
    rwa [List.getD_eq_getElem?_getD, hd] at this
  · intro h k hk
    have hk' := List.mem_range.mp hk
    rw [List.getD_eq_getElem?_getD, List.getElem?_eq_getElem hk']
    exact h k _ (List.getElem?_eq_getElem hk')
end Pb

set_option Elab.async false
set_option linter.all false
set_option maxRecDepth 100000
namespace Pb
open PySem PySem.Spec PyProof.Rows L2
theorem whR_nx {β : Rho → Option Bool} {ψ : Rho → Option Res} {n : Nat} {ρ ρ' : Rho} (h : β ρ = some true) (hb : ψ ρ = some (.nx ρ')) : whR β ψ (n + 1) ρ = whR β ψ n ρ' := by
  show (β ρ).bind _ = _
  rw [h]
  show (ψ ρ).bind _ = _
  rw [hb]
  rfl
theorem whR_no {β : Rho → Option Bool} {ψ : Rho → Option Res} {n : Nat} {ρ : Rho} (h : β ρ = some false) : whR β ψ (n + 1) ρ = some (.nx ρ) := by
  show (β ρ).bind _ = _
  rw [h]
  rfl
end Pb

set_option Elab.async false
set_option linter.all false
set_option maxRecDepth 100000
namespace Pb
open PySem PySem.Spec PyProof.Rows L2
/-! ### what is told, and what is the same, as functions -/
theorem q_to_d {K : PySem.W.Frag} {t : List PyData → (PyData → Prop) → Prop} {g : List PyData → Option PyData} (h : ∀ ds e, g ds = some e → t ds (· = e)) : ∀ vs H Q E, spD K (RF g) vs H Q E → spQ K t vs H Q E := by
  rintro vs H Q E ⟨S, ds, e, tr, da, hg, q⟩
  exact ⟨S, ds, (· = e), tr, da, h ds e hg, fun v e' H' he s hd => by
    subst he
    exact q v H' s hd⟩
end Pb

set_option Elab.async false
set_option linter.all false
set_option maxRecDepth 100000
namespace Pb
open PySem PySem.Spec PyProof.Rows L2
theorem chain_le {φ ψ χ : Rho → Option PyData} {ρ : Rho} {a b c : Int} (h1 : φ ρ = some (.int a)) (h2 : ψ ρ = some (.int b)) (h3 : χ ρ = some (.int c)) : eChain fLe fLe φ ψ χ ρ = some (.bool (decide (a ≤ b) && decide (b ≤ c))) := by
  unfold eChain
  rw [h1, h2, h3]
  by_cases h : a ≤ b
  · show (if decide (a ≤ b) = true then some (PyData.bool (decide (b ≤ c))) else some (PyData.bool false)) = _
    rw [if_pos (decide_eq_true h), decide_eq_true h, Bool.true_and]
  · show (if decide (a ≤ b) = true then some (PyData.bool (decide (b ≤ c))) else some (PyData.bool false)) = _
    rw [if_neg (by simpa using h), decide_eq_false h, Bool.false_and]
theorem iR2_of {φ ψ : Rho → Option PyData} {ρ : Rho} {i j : Int} (h1 : φ ρ = some (.int i)) (h2 : ψ ρ = some (.int j)) (hi : small i = true) (hj : small j = true) : iR2 φ ψ ρ = some (rngD i j) := by
  unfold iR2
  rw [h1, h2]
  show (if small i && small j then some (rngD i j) else none) = _
  rw [hi, hj]
  rfl
theorem ixL_ints {vs : List Int} {j : Int} (h0 : 0 ≤ j) (h1 : j < vs.length) : ∃ v ∈ vs, fIxL (.list (vs.map PyData.int)) (.int j) = some (.int v) := by
  obtain ⟨k, rfl⟩ : ∃ k : Nat, j = (k : Int) := ⟨j.toNat, by omega⟩
  have hk : k < vs.length := by omega
  exact ⟨vs[k], List.getElem_mem hk, ixL_at (by rw [List.getElem?_map, List.getElem?_eq_getElem hk]; rfl)⟩
theorem lcW_yes {τ : PyData → Rho → Option Rho} {Φ : Rho → Int → (PyData → Int → Prop) → Prop} {ρ ρ' : Rho} {e : PyData} {es : List PyData} {n : Int} {P : List PyData → Int → Prop} (h : τ e ρ = some ρ') (k : Φ ρ' n fun y n1 => lcW τ bYes Φ ρ es n1 fun ys n2 => P (y :: ys) n2) : lcW τ bYes Φ ρ (e :: es) n P :=
  ⟨ρ', h, true, rfl, by rw [if_pos rfl]; exact k⟩
theorem ixT_last {xs : List PyData} {x : PyData} : fIxT (.tuple (xs ++ [x])) (.int (-1)) = some x := by
  show atI (xs ++ [x]) (-1) = some x
  unfold atI
  have : ixN (xs ++ [x]).length (-1) = some xs.length := by
    unfold ixN
    rw [if_neg (by decide), if_pos (by simp; omega), List.length_append]
    simp
    omega
  rw [this]
  show (xs ++ [x])[xs.length]? = some x
  simp
theorem sOwn_of {i : Nat} {φ : Rho → Option (List PyData)} {ρ : Rho} {es : List PyData} (h : φ ρ = some es) : sOwn i φ ρ = some (.nx (ρ.set i (.own es))) := by
  unfold sOwn
  rw [h]
  rfl
end Pb

set_option Elab.async false
set_option linter.all false
set_option maxRecDepth 100000
namespace Pb
open PySem PySem.Spec PyProof.Rows L2
section
variable {P : Program} {w : World} {K : PySem.W.Frag} {mg : Str → Option Value} {base : Heap}
def q_is_ascending_below : List PyData → Option PyData := runF 4 2
  ((sSeq (sIf (bNot (bTest (eUn (fIsi "tuple") (eVar 0)))) (sRet (eBl false)) sNil)
  (sSeq (sSet (gN 2) (eUn fNeg (eInt 1)))
  (sSeq (sFor (iT (eVar 0)) (gN 3) (sSeq (sIf (bOr (bNot (bTest (eCb Pb.q_is_number_below (aCons (eVar 3) (aCons (eVar 1) aNil))))) (bTest (eOp fLe (eVar 3) (eVar 2)))) (sRet (eBl false)) sNil)
  (sSet (gN 2) (eVar 3))))
  (sRet (eBl true))))))
def q__law_is_choice : List PyData → Option PyData := runF 3 2
  ((sSeq (sIf (bOr (bNot (bTest (eUn (fIsi "tuple") (eVar 1)))) (bTest (eOp fNe0 (eL (lLc [2] (iT (eVar 1)) (gN 2) (bNot (bTest (eCb Pb.q__law_whole (aCons (eVar 2) aNil)))) (eVar 2))) (eL (lLst aNil))))) (sRet (eBl false)) sNil)
  (sSeq (sIf (bTest (eOp fNe0 (eL (lLc [2] (iT (eVar 1)) (gN 2) (bNot (bTest (eChain fLe fLt (eInt 0) (eVar 2) (eCb fLen (aCons (eOp fIxT (eVar 0) (eInt 1)) aNil))))) (eVar 2))) (eL (lLst aNil)))) (sRet (eBl false)) sNil)
  (sRet (eOp fEqD (eL (lCb fListOf (aCons (eVar 1) aNil))) (eL (lSortU (eVar 1))))))))
end
end Pb

set_option Elab.async false
set_option linter.all false
set_option maxRecDepth 100000
namespace Pb
open PySem PySem.Spec PyProof.Rows L2
structure Asc (c : Int) (x : PyData) (ns : List Int) : Prop where
  eq : x = offD ns
  ran : ∀ i ∈ ns, 0 ≤ i ∧ i < c
  asc : ns.Pairwise (· < ·)
theorem off_inj {a b : List Int} (h : offD a = offD b) : a = b := by
  have : a.map PyData.int = b.map PyData.int := by injection h
  exact List.map_inj_right (fun x y z => by injection z) |>.mp this
abbrev aB : PyData → Rho → Option Res := fun e ρ => (gN 3 e ρ).bind (sSeq (sIf (bOr (bNot (bTest (eCb Pb.q_is_number_below (aCons (eVar 3) (aCons (eVar 1) aNil))))) (bTest (eOp fLe (eVar 3) (eVar 2)))) (sRet (eBl false)) sNil) (sSet (gN 2) (eVar 3)))
theorem asc_loop (x : PyData) (c : Int) : ∀ (xs : List PyData) (last : Int) (s3 : Sl), ∃ b : Bool, (b = true → ∃ ρ', forR aB xs [.val x, .val (.int c), .val (.int last), s3] = some (.nx ρ')) ∧ (b = false → forR aB xs [.val x, .val (.int c), .val (.int last), s3] = some (.rt (.bool false))) ∧
    (b = true ↔ ∃ ns : List Int, xs = ns.map PyData.int ∧ (∀ i ∈ ns, 0 ≤ i ∧ i < c ∧ last < i) ∧ ns.Pairwise (· < ·))
  | [], last, s3 => ⟨true, fun _ => ⟨_, rfl⟩, fun z => (by cases z), fun _ => ⟨[], rfl, fun _ z => absurd z List.not_mem_nil, .nil⟩, fun _ => rfl⟩
  | y :: ys, last, s3 => by
    have t1 : (bNot (bTest (eCb Pb.q_is_number_below (aCons (eVar 3) (aCons (eVar 1) aNil))))) [.val x, .val (.int c), .val (.int last), .val y] = some (!numBelow y c) := bNot_of (bTest_of (eCb_of (aCons_of rfl (aCons_of rfl rfl)) (q_num y c)))
    have no : ∀ {r : Res}, aB y [.val x, .val (.int c), .val (.int last), s3] = some (.rt (.bool false)) → forR aB (y :: ys) [.val x, .val (.int c), .val (.int last), s3] = some (.rt (.bool false)) := fun h => by
      unfold forR
      rw [h]
      rfl
    cases hb : numBelow y c with
    | false =>
      rw [hb] at t1
      refine ⟨false, fun z => (by cases z), fun _ => no (r := .rt .none) (sSeq_rt ((sIf_t (bOr_t t1)).trans rfl)), fun z => (by cases z), ?_⟩
      rintro ⟨ns, e, h1, _⟩
      cases ns with
      | nil => cases e
      | cons i ns =>
        injection e with e1 _
        subst e1
        have := h1 i List.mem_cons_self
        rw [num_iff.mpr ⟨i, rfl, this.1, this.2.1⟩] at hb
        cases hb
    | true =>
      rw [hb] at t1
      obtain ⟨i, rfl, i0, i1⟩ := num_iff.mp hb
      have t2 : (bTest (eOp fLe (eVar 3) (eVar 2))) [.val x, .val (.int c), .val (.int last), .val (.int i)] = some (decide (i ≤ last)) := rfl
      by_cases hl : i ≤ last
      · rw [decide_eq_true hl] at t2
        refine ⟨false, fun z => (by cases z), fun _ => no (r := .rt .none) (sSeq_rt ((sIf_t ((bOr_f t1).trans t2)).trans rfl)), fun z => (by cases z), ?_⟩
        rintro ⟨ns, e, h1, _⟩
        cases ns with
        | nil => cases e
        | cons j ns =>
          injection e with e1 _
          cases e1
          have := h1 i List.mem_cons_self
          omega
      · rw [decide_eq_false hl] at t2
        obtain ⟨b, k1, k2, k3⟩ := asc_loop x c ys i (.val (.int i))
        have st : aB (.int i) [.val x, .val (.int c), .val (.int last), s3] = some (.nx [.val x, .val (.int c), .val (.int i), .val (.int i)]) := (sSeq_nx ((sIf_f ((bOr_f t1).trans t2)).trans rfl)).trans rfl
        have go : forR aB (.int i :: ys) [.val x, .val (.int c), .val (.int last), s3] = forR aB ys [.val x, .val (.int c), .val (.int i), .val (.int i)] := by
          conv => lhs; unfold forR
          rw [st]
          rfl
        refine ⟨b, fun z => (k1 z).imp fun ρ' h => go.trans h, fun z => go.trans (k2 z), ?_⟩
        rw [k3]
        constructor
        · rintro ⟨ns, rfl, h1, h2⟩
          refine ⟨i :: ns, rfl, fun j hj => ?_, List.pairwise_cons.mpr ⟨fun j hj => (h1 j hj).2.2, h2⟩⟩
          rcases List.mem_cons.mp hj with rfl | hj
          · exact ⟨i0, i1, by omega⟩
          · have := h1 j hj
            omega
        · rintro ⟨ns, e, h1, h2⟩
          cases ns with
          | nil => cases e
          | cons j ns =>
            injection e with e1 e2
            cases e1
            refine ⟨ns, e2, fun k hk => ?_, (List.pairwise_cons.mp h2).2⟩
            have a := h1 k (List.mem_cons_of_mem _ hk)
            have b := (List.pairwise_cons.mp h2).1 k hk
            omega
theorem q_asc {x : PyData} {c : Int} : ∃ b : Bool, q_is_ascending_below [x, .int c] = some (.bool b) ∧ (b = true ↔ ∃ ns, Asc c x ns) := by
  have nt : (bNot (bTest (eUn (fIsi "tuple") (eVar 0)))) [.val x, .val (.int c), .no, .no] = some true → (∀ ns, x ≠ offD ns) → ∃ b : Bool, q_is_ascending_below [x, .int c] = some (.bool b) ∧ (b = true ↔ ∃ ns, Asc c x ns) := fun h k =>
    ⟨false, runF_of rfl (sSeq_rt ((sIf_t h).trans rfl)), fun z => (by cases z), fun ⟨ns, a⟩ => absurd a.eq (k ns)⟩
  cases x with
  | tuple xs =>
    have a1 : (bNot (bTest (eUn (fIsi "tuple") (eVar 0)))) [.val (.tuple xs), .val (.int c), .no, .no] = some false := rfl
    obtain ⟨b, k1, k2, k3⟩ := asc_loop (.tuple xs) c xs (-1) .no
    have ok3 : b = true ↔ ∃ ns, Asc c (.tuple xs) ns := by
      rw [k3]
      constructor
      · rintro ⟨ns, rfl, h1, h2⟩
        exact ⟨ns, rfl, fun i hi => by have := h1 i hi; omega, h2⟩
      · rintro ⟨ns, e, h1, h2⟩
        have e' : xs = ns.map PyData.int := by injection e
        exact ⟨ns, e', fun i hi => by have := h1 i hi; omega, h2⟩
    cases b with
    | true =>
      obtain ⟨ρ', h⟩ := k1 rfl
      refine ⟨true, runF_of rfl ((sSeq_nx ((sIf_f a1).trans rfl)).trans ((sSeq_nx (ρ' := [.val (.tuple xs), .val (.int c), .val (.int (-1)), .no]) rfl).trans ((sSeq_nx (ρ' := ρ') ?_).trans rfl))), ok3⟩
      exact h
    | false =>
      refine ⟨false, runF_of rfl ((sSeq_nx ((sIf_f a1).trans rfl)).trans ((sSeq_nx (ρ' := [.val (.tuple xs), .val (.int c), .val (.int (-1)), .no]) rfl).trans (sSeq_rt ?_))), ok3⟩
      exact k2 rfl
  | _ => exact nt rfl fun ns z => by cases z
theorem chain_lelt {φ ψ χ : Rho → Option PyData} {ρ : Rho} {a b c : Int} (h1 : φ ρ = some (.int a)) (h2 : ψ ρ = some (.int b)) (h3 : χ ρ = some (.int c)) : eChain fLe fLt φ ψ χ ρ = some (.bool (decide (a ≤ b) && decide (b < c))) := by
  unfold eChain
  rw [h1, h2, h3]
  by_cases h : a ≤ b
  · show (if decide (a ≤ b) = true then some (PyData.bool (decide (b < c))) else some (PyData.bool false)) = _
    rw [if_pos (decide_eq_true h), decide_eq_true h, Bool.true_and]
  · show (if decide (a ≤ b) = true then some (PyData.bool (decide (b < c))) else some (PyData.bool false)) = _
    rw [if_neg (by simpa using h), decide_eq_false h, Bool.false_and]
end Pb
namespace Pb
open PySem PySem.Spec PyProof.Rows L2
end Pb

set_option Elab.async false
set_option linter.all false
set_option maxRecDepth 100000
namespace Pb
open PySem PySem.Spec PyProof.Rows L2
section
variable {P : Program} {w : World} {K : PySem.W.Frag} {mg : Str → Option Value} {base : Heap}
def w__law_amount : Addr → List PyData → Int → (PyData → Int → Prop) → Prop := runW 1 1 fun d =>
  (twRet (wOp fIxL (wL (wfLst (wCons (wP (eInt 0)) (wCons (wP (eInt 1)) (wCons (wDraw d 0 WNextW (wCons (wP (eInt 4)) wNil)) (wCons (wDraw d 0 WNextW (wCons (wP (eInt 12)) wNil)) (wCons (wDraw d 0 WNextW (wCons (wP (eOp fAdd (eOp fPow (eInt 10) (eInt 12)) (eInt 1))) wNil)) (wCons (wP (eOp fPow (eInt 10) (eInt 12))) wNil)))))))) (wDraw d 0 WNextW (wCons (wP (eInt 6)) wNil))))
def w__law_data : Addr → List PyData → Int → (PyData → Int → Prop) → Prop := runW 6 2 fun d =>
  (twSeq (twSet (gN 2) (wOp fIxL (wL (wfP (lLst (aCons (eInt 3) (aCons (eInt 12) (aCons (eInt 0) aNil)))))) (wDraw d 0 WNextW (wCons (wP (eInt 3)) wNil))))
  (twSeq (twP (sSet (gN 3) (eOp fAdd (eOp fIxT (eVar 1) (eInt 0)) (eCb fLen (aCons (eOp fIxT (eVar 1) (eInt 1)) aNil)))))
  (twSeq (twSet (gN 4) (wL (wfLc [5] (iR (eVar 3)) (gN 5) bYes (wDraw d 0 WNextW (wCons (wP (eOp fAdd (eVar 2) (eInt 1))) wNil)))))
  (twSeq (twIf (bTest (eOp fEq (eVar 2) (eInt 0))) (twSet (gN 4) (wL (wfLc [5] (iR (eVar 3)) (gN 5) bYes (wDraw d 0 w__law_amount wNil)))) (twP sNil))
  (twP (sRet (eTup (aCons (eCb fTupOf (aCons (eL (lSl (eVar 4) (oSome (eOp fIxT (eVar 1) (eInt 0))) oNone)) aNil)) (aCons (eCb fTupOf (aCons (eL (lSl (eVar 4) oNone (oSome (eOp fIxT (eVar 1) (eInt 0))))) aNil)) aNil)))))))))
end
end Pb

set_option Elab.async false
set_option linter.all false
set_option maxRecDepth 100000
namespace Pb
open PySem PySem.Spec PyProof.Rows L2
theorem off_ints (o : List Int) : (o.map PyData.int).map intOf = o := by
  rw [List.map_map]
  exact List.map_id'' (fun _ => rfl) o
theorem cov_nodup (os : List (List Int)) (d : Int) : (covL os d).Nodup := by
  have e : covL os d = ((os.zipIdx.filter fun p => decide (d ∈ p.1)).map Prod.snd).map fun (k : Nat) => (k : Int) := by
    rw [List.map_map]
    rfl
  rw [e]
  refine List.Pairwise.map _ (fun a b h => by omega) (R := fun a b => a ≠ b) ?_
  have s : ((os.zipIdx.filter fun p => decide (d ∈ p.1)).map Prod.snd).Sublist (os.zipIdx.map Prod.snd) := (List.filter_sublist).map _
  rw [List.zipIdx_map_snd] at s
  exact List.Nodup.sublist s List.nodup_range'
theorem sPut_of {i : Nat} {φi φ : Rho → Option PyData} {ρ : Rho} {es : List PyData} {k : Int} {e : PyData} (h1 : φ ρ = some e) (h2 : ro ρ i = some es) (h3 : φi ρ = some (.int k)) (hk : 0 ≤ k ∧ k < (es.length : Int)) : sPut i φi φ ρ = some (.nx (ρ.set i (.own (es.set k.toNat e)))) := by
  unfold sPut
  rw [h1, h2, h3]
  show (ixN es.length k).map (fun j => Res.nx (ρ.set i (.own (es.set j e)))) = _
  unfold ixN
  rw [if_pos hk.1, if_pos hk.2]
  rfl
def In0 (M : Int) (ns : List Int) : Prop := ∀ i ∈ ns, 0 ≤ i ∧ i ≤ M
theorem In0.set {M : Int} {ns : List Int} (h : In0 M ns) {k : Nat} {v : Int} (hv : 0 ≤ v ∧ v ≤ M) : In0 M (ns.set k v) := fun i hi => by
  rcases List.mem_or_eq_of_mem_set hi with hi | rfl
  · exact h i hi
  · exact hv
theorem In0.get {M : Int} {ns : List Int} (h : In0 M ns) {k : Nat} (hk : k < ns.length) : 0 ≤ ns.getD k 0 ∧ ns.getD k 0 ≤ M := by
  rw [List.getD_eq_getElem?_getD, List.getElem?_eq_getElem hk]
  exact h _ (List.getElem_mem hk)
theorem amount {d : Addr} {n : Int} (hn : n < 2 ^ 45) {P : PyData → Int → Prop} (h : ∀ v n' : Int, 0 ≤ v → v ≤ (1000000000000 : Int) → n' ≤ n + 4 → P (.int v) n') : w__law_amount d [] n P := by
  refine ⟨rfl, ?_⟩
  refine ⟨_, rfl, _, rfl, rfl, _, rfl, 4, rfl, by omega, by omega, by omega, fun a n1 a0 a1 le1 => ?_⟩
  refine ⟨rfl, _, rfl, 12, rfl, by omega, by omega, by omega, fun b n2 b0 b1 le2 => ?_⟩
  refine ⟨rfl, _, rfl, 1000000000001, rfl, by omega, by omega, by omega, fun c n3 c0 c1 le3 => ?_⟩
  refine ⟨_, rfl, _, rfl, ?_⟩
  refine ⟨rfl, _, rfl, 6, rfl, by omega, by omega, by omega, fun j n4 j0 j6 le4 => ?_⟩
  obtain ⟨v, hv, e⟩ := ixL_ints (vs := [0, 1, a, b, c, 1000000000000]) j0 (by simpa using j6)
  simp only [List.mem_cons, List.not_mem_nil, or_false] at hv
  exact ⟨_, e, h v n4 (by omega) (by omega) (by omega)⟩
/-- a comprehension whose items are drawn ints -/
theorem lcW_ints {τ : PyData → Rho → Option Rho} {Φ : Rho → Int → (PyData → Int → Prop) → Prop} {ρ : Rho} {c B : Int} (c0 : 0 ≤ c) : ∀ {es : List PyData}, (∀ e ∈ es, ∀ (n : Int) (Q : PyData → Int → Prop), n < B → (∀ v n' : Int, 0 ≤ v → v ≤ (1000000000000 : Int) → n' ≤ n + c → Q (.int v) n') → ∃ ρ', τ e ρ = some ρ' ∧ Φ ρ' n Q) →
    ∀ {n : Int} {P : List PyData → Int → Prop}, n + c * es.length < B → (∀ (ks : List Int) (n' : Int), ks.length = es.length → In0 (1000000000000 : Int) ks → n' ≤ n + c * es.length → P (ks.map PyData.int) n') → lcW τ bYes Φ ρ es n P
  | [], _, n, P, _, h => h [] n rfl (fun _ z => absurd z List.not_mem_nil) (by simp)
  | e :: es, hs, n, P, hn, h => by
    have e1 : c * ((e :: es).length : Int) = c + c * (es.length : Int) := by
      rw [List.length_cons, Int.natCast_add, Int.mul_add]
      simp
      omega
    rw [e1] at hn h
    have cl : 0 ≤ c * (es.length : Int) := Int.mul_nonneg c0 (by omega)
    obtain ⟨ρ', h1, h2⟩ := hs e List.mem_cons_self n (fun y n1 => lcW τ bYes Φ ρ es n1 fun ys n2 => P (y :: ys) n2) (by omega) fun v n' v0 v1 le => by
      refine lcW_ints c0 (fun x hx => hs x (List.mem_cons_of_mem _ hx)) (by omega) fun ks n2 hl hk le2 => ?_
      exact h (v :: ks) n2 (by rw [List.length_cons, hl, List.length_cons]) (fun i hi => by
        rcases List.mem_cons.mp hi with rfl | hi
        · exact ⟨v0, v1⟩
        · exact hk i hi) (by omega)
    exact lcW_yes h1 h2
theorem take_ints {ks : List Int} {m : Nat} (h : m ≤ ks.length) : cutG (ks.map PyData.int) none (some (m : Int)) = (ks.take m).map PyData.int ∧ cutG (ks.map PyData.int) (some (m : Int)) none = (ks.drop m).map PyData.int := by
  constructor
  · rw [cutG_take (by rw [List.length_map]; exact h), List.map_take]
  · rw [cutG_drop (by rw [List.length_map]; exact h), List.map_drop]
theorem data {d : Addr} {m : Nat} {os : List (List Int)} (t : Tb m os) {n : Int} (hn : n < 2 ^ 40) {P : PyData → Int → Prop} (h : ∀ (ps qs : List Int) (n' : Int), ps.length = os.length → qs.length = m → In0 (1000000000000 : Int) ps → In0 (1000000000000 : Int) qs → n' ≤ n + 200 → P (.tuple [offD ps, offD qs]) n') : w__law_data d [tabD m os] n P := by
  have m10 := t.m10
  have ol := t.len
  refine ⟨rfl, ?_⟩
  refine ⟨[.int 3, .int 12, .int 0], rfl, rfl, _, rfl, 3, rfl, by omega, by omega, by omega, fun j n1 j0 j3 le1 => ?_⟩
  obtain ⟨w, hw, hwe⟩ := ixL_ints (vs := [3, 12, 0]) j0 (by simpa using j3)
  simp only [List.mem_cons, List.not_mem_nil, or_false] at hw
  refine ⟨_, hwe, _, rfl, ?_⟩
  refine ⟨.nx [.deck d, .val (tabD m os), .val (.int w), .val (.int ((m + os.length : Nat) : Int)), .no, .no], sSet_of (eOp_of (x := .int m) (y := .int (os.length : Nat)) rfl (eCb_of (aCons_of rfl rfl) (len_offs os)) ?_), ?_⟩
  · show some (PyData.int ((m : Int) + (os.length : Int))) = _
    rw [Int.natCast_add]
  have hi : ∀ s4 : Sl, ((iR (eVar 3)) [.deck d, .val (tabD m os), .val (.int w), .val (.int ((m + os.length : Nat) : Int)), s4, .no]).bind lim = some (rngD 0 ((m + os.length : Nat) : Int)) := fun s4 => by
    rw [iR_of (j := ((m + os.length : Nat) : Int)) rfl (by omega)]
    exact lim_of (by rw [rngD_len]; omega)
  have rl : (rngD 0 ((m + os.length : Nat) : Int)).length = m + os.length := by rw [rngD_len]; omega
  have fin : ∀ (ks : List Int) (n' : Int), ks.length = m + os.length → In0 (1000000000000 : Int) ks → n' ≤ n + 200 → (twP (sRet (eTup (aCons (eCb fTupOf (aCons (eL (lSl (eVar 4) (oSome (eOp fIxT (eVar 1) (eInt 0))) oNone)) aNil)) (aCons (eCb fTupOf (aCons (eL (lSl (eVar 4) oNone (oSome (eOp fIxT (eVar 1) (eInt 0))))) aNil)) aNil)))))
      [.deck d, .val (tabD m os), .val (.int w), .val (.int ((m + os.length : Nat) : Int)), .val (.list (ks.map PyData.int)), .no] n' fun r k' => match r with
        | .rt e => P e k'
        | .nx _ => P .none k'
        | _ => False := fun ks n' hl hk le => by
    have cut := take_ints (ks := ks) (m := m) (by omega)
    refine ⟨.rt (.tuple [offD (ks.drop m), offD (ks.take m)]), sRet_of (eTup2_of (eCb_of (aCons_of (eL_of ((lSl_of (es := ks.map PyData.int) (l := some (m : Int)) (h := none) rfl rfl rfl).trans (congrArg some cut.2))) rfl) rfl) (eCb_of (aCons_of (eL_of ((lSl_of (es := ks.map PyData.int) (l := none) (h := some (m : Int)) rfl rfl rfl).trans (congrArg some cut.1))) rfl) rfl)), ?_⟩
    exact h _ _ n' (by rw [List.length_drop]; omega) (by rw [List.length_take]; omega) (fun i hi => hk i (List.mem_of_mem_drop hi)) (fun i hi => hk i (List.mem_of_mem_take hi)) le
  refine ⟨_, hi .no, lcW_ints (c := 1) (B := 2 ^ 44) (by omega) (fun e he n2 Q hn2 hQ => ?_) (by rw [rl]; omega) fun ks n2 hl hk le2 => ?_⟩
  · exact ⟨_, rfl, rfl, _, rfl, w + 1, rfl, by omega, by omega, by omega, fun v n3 v0 v1 le3 => hQ v n3 v0 (by omega) (by omega)⟩
  refine ⟨_, rfl, ?_⟩
  rw [rl] at hl le2
  by_cases w0 : w = 0
  · refine ⟨true, bTest_of (eOp_of rfl rfl (by rw [w0]; rfl)), ?_⟩
    rw [if_pos rfl]
    refine ⟨_, hi (.val (.list (ks.map PyData.int))), lcW_ints (c := 4) (B := 2 ^ 44) (by omega) (fun e he n3 Q hn3 hQ => ?_) (by rw [rl]; omega) fun ks2 n3 hl2 hk2 le3 => ?_⟩
    · exact ⟨_, rfl, rfl, amount (by omega) hQ⟩
    refine ⟨_, rfl, ?_⟩
    rw [rl] at hl2 le3
    exact fin ks2 n3 hl2 hk2 (by omega)
  · refine ⟨false, bTest_of (eOp_of (x := .int w) (y := .int 0) rfl rfl (by rw [fEq_int, decide_eq_false w0])), ?_⟩
    rw [if_neg (by decide)]
    exact ⟨_, rfl, fin ks n2 hl hk (by omega)⟩
def Sm (ns : List Int) : Prop := ∀ i ∈ ns, i.natAbs < 10 ^ 80
theorem big13 : (10000000000000 : Nat) < 10 ^ 59 ∧ (10 : Nat) ^ 59 + 1 + 1 < 10 ^ 80 := by decide +kernel
theorem In0.sm {ns : List Int} (h : In0 (1000000000000 : Int) ns) : Sm ns := fun i hi => by
  have := h i hi
  have := big13
  omega
theorem eIf_of {β : Rho → Option Bool} {φ ψ : Rho → Option PyData} {ρ : Rho} {b : Bool} {x : PyData} (h : β ρ = some b) (k : (if b then φ ρ else ψ ρ) = some x) : eIf β φ ψ ρ = some x := by
  unfold eIf
  rw [h]
  exact k
/-! ### a def handed on and called -/
end Pb

set_option Elab.async false
set_option linter.all false
set_option maxRecDepth 100000
namespace Pb
open PySem PySem.Spec PyProof.Rows L2
section
variable {P : Program} {w : World} {K : PySem.W.Frag} {mg : Str → Option Value} {base : Heap}
def q__law_choice_cost : List PyData → Option PyData := runF 8 4
  ((sSeq (sOwn 4 (lLst aNil))
  (sSeq (sFor (iT (eVar 3)) (gN 5) (sExt 4 (lCb fListOf (aCons (eOp fIxT (eOp fIxT (eVar 0) (eInt 1)) (eVar 5)) aNil))))
  (sRet (eOp fAdd (eCb fSum (aCons (eL (lLc [5] (iT (eVar 3)) (gN 5) bYes (eOp fIxT (eVar 1) (eVar 5)))) aNil)) (eCb fSum (aCons (eL (lLc [6, 7] (iET (eVar 2)) (gT (gC (gN 6) (gC (gN 7) g0))) (bTest (eOp fNin (eVar 6) (eL (lOwn 4)))) (eVar 7))) aNil)))))))
end
end Pb

set_option Elab.async false
set_option linter.all false
set_option maxRecDepth 100000
namespace Pb
open PySem PySem.Spec PyProof.Rows L2
/-! ### choices and their costs -/
def paid (ns o : List Int) : Int := (o.map fun d => ns.getD d.toNat 0).sum
def coveredB (os : List (List Int)) (ks : List Int) (d : Int) : Bool := ks.any fun k => decide (d ∈ offAt os k)
def penL (qs : List Int) (b : Int → Bool) : Int := ((qs.zipIdx.filter fun p => !b ((p.2 : Nat) : Int)).map Prod.fst).sum
def costL (os : List (List Int)) (ps qs ks : List Int) : Int := paid ps ks + penL qs (coveredB os ks)
theorem sFor_of {it : Rho → Option (List PyData)} {τ : PyData → Rho → Option Rho} {ψ : Rho → Option Res} {ρ : Rho} {es : List PyData} {r : Option Res} (h : it ρ = some es) (k : forR (fun e ρ => (τ e ρ).bind ψ) es ρ = r) : sFor it τ ψ ρ = r := by
  unfold sFor
  rw [h]
  exact k
/-! the mask of what is covered -/
def orN (os : List (List Int)) (ks : List Int) (c : Nat) : Nat := ks.foldl (fun c k => c ||| maskN (offAt os k)) c
theorem orN_bit {m : Nat} {os : List (List Int)} (h : ∀ o ∈ os, OffOk m o) : ∀ (ks : List Int) (c j : Nat), (∀ k ∈ ks, 0 ≤ k ∧ k < (os.length : Int)) → (orN os ks c).testBit j = (c.testBit j || coveredB os ks (j : Int))
  | [], c, j, _ => by simp [orN, coveredB]
  | k :: ks, c, j, hk => by
    have ih := orN_bit h ks (c ||| maskN (offAt os k)) j fun x hx => hk x (List.mem_cons_of_mem _ hx)
    have kk := hk k List.mem_cons_self
    have oo : OffOk m (offAt os k) := h _ (by
      unfold offAt
      rw [List.getD_eq_getElem?_getD, List.getElem?_eq_getElem (by omega : k.toNat < os.length)]
      exact List.getElem_mem _)
    have e : orN os (k :: ks) c = orN os ks (c ||| maskN (offAt os k)) := rfl
    rw [e, ih, Nat.testBit_or, testBit_maskN (oo.2.imp fun h => by omega) (fun i hi => (oo.1 i hi).1)]
    simp only [coveredB, List.any_cons, Bool.or_assoc]
theorem offAt_get {os : List (List Int)} {k : Int} (h : 0 ≤ k ∧ k < (os.length : Int)) : os[k.toNat]? = some (offAt os k) := by
  unfold offAt
  rw [List.getD_eq_getElem?_getD, List.getElem?_eq_getElem (by omega : k.toNat < os.length)]
  rfl
theorem offAt_mem {os : List (List Int)} {k : Int} (h : 0 ≤ k ∧ k < (os.length : Int)) : offAt os k ∈ os := List.mem_of_getElem? (offAt_get h)
theorem sAug_of {i : Nat} {f : PyData → PyData → Option PyData} {φ : Rho → Option PyData} {ρ : Rho} {x y z : PyData} (h1 : rv ρ i = some x) (h2 : φ ρ = some y) (h3 : f x y = some z) : sAug i f φ ρ = some (.nx (ρ.set i (.val z))) := by
  unfold sAug
  rw [h1, h2]
  show (f x y).map _ = _
  rw [h3]
  rfl
/-! the law's own -/
end Pb

set_option Elab.async false
set_option linter.all false
set_option maxRecDepth 100000
namespace Pb
open PySem PySem.Spec PyProof.Rows L2
/-! ### values that may be bent and shown -/
structure Vd (W D L : Nat) (x : PyData) : Prop where
  w : wt x ≤ W
  dp : x.depth ≤ D
  g : bg L (10 ^ 59 + L) x = true
theorem big80 : (10 : Nat) ^ 59 + 61 < 10 ^ 80 := by decide +kernel
theorem Vd.mono {W D L W' D' L' : Nat} {x : PyData} (h : Vd W D L x) (hW : W ≤ W' := by omega) (hD : D ≤ D' := by omega) (hL : L ≤ L' := by omega) : Vd W' D' L' x := ⟨Nat.le_trans h.w hW, Nat.le_trans h.dp hD, bg_mono hL (by omega) x h.g⟩
theorem Vd.gw {W D L : Nat} {x : PyData} (h : Vd W D L x) (hL : L ≤ 60 := by decide) : Gw W D x := ⟨bg_ok hL (by have := big80; omega) x h.g, h.w, h.dp⟩
theorem part {d : Addr} {k : Nat} (hk : k ≤ 10) {n sh : Int} (hn : n < 2 ^ 45) {P : PyData → Int → Prop} (h : ∀ (ms : List Int) (n' : Int), OffOk k ms → n' ≤ n + 10 → P (offD ms) n') : WPart d [.list (rngD 0 (k : Int)), .int sh] n P := by
  refine ⟨_, upto k, sh, rfl, .inl (by rw [rng_ints]), by omega, by rw [ints_len]; omega, fun ms n' sub le => h ms n' ⟨fun i hi => mem_ints.mp (sub.subset hi), (ints_strict k).sublist sub⟩ ?_⟩
  rw [ints_len] at le
  omega
theorem Vd.in {W D L : Nat} {x : PyData} (h : Vd W D L x) (hW : W ≤ 100000 := by decide) (hD : D ≤ 10 := by decide) (hL : L ≤ 60 := by decide) : Gw 100000 10 x := (h.gw hL).mono hW hD
end Pb

set_option Elab.async false
set_option linter.all false
set_option maxRecDepth 100000
namespace Pb
open PySem PySem.Spec PyProof.Rows L2
theorem sum_bd {M : Int} (hM : 0 ≤ M) : ∀ {l : List Int}, (∀ i ∈ l, 0 ≤ i ∧ i ≤ M) → 0 ≤ l.sum ∧ l.sum ≤ (l.length : Int) * M
  | [], _ => ⟨Int.le_refl _, by simp⟩
  | x :: l, h => by
    have h1 := h x List.mem_cons_self
    have ih := sum_bd hM (l := l) fun i hi => h i (List.mem_cons_of_mem _ hi)
    rw [List.sum_cons, List.length_cons, Int.natCast_add, Int.add_mul]
    omega
theorem paid_bd {M : Int} (hM : 0 ≤ M) {ns o : List Int} (h : In0 M ns) (ho : ∀ d ∈ o, 0 ≤ d ∧ d < (ns.length : Int)) : 0 ≤ paid ns o ∧ paid ns o ≤ (o.length : Int) * M := by
  have := sum_bd hM (l := o.map fun d => ns.getD d.toNat 0) fun i hi => by
    obtain ⟨d, hd, rfl⟩ := List.mem_map.mp hi
    have := ho d hd
    exact h.get (by omega)
  rw [List.length_map] at this
  exact this
theorem pen_bd {M : Int} (hM : 0 ≤ M) {qs : List Int} (h : In0 M qs) (b : Int → Bool) : 0 ≤ penL qs b ∧ penL qs b ≤ (qs.length : Int) * M := by
  have s : ((qs.zipIdx.filter fun p => !b ((p.2 : Nat) : Int)).map Prod.fst).Sublist qs := by
    have := (List.filter_sublist (p := fun p : Int × Nat => !b ((p.2 : Nat) : Int)) (l := qs.zipIdx)).map Prod.fst
    rw [List.zipIdx_map_fst] at this
    exact this
  have k := sum_bd hM (l := (qs.zipIdx.filter fun p => !b ((p.2 : Nat) : Int)).map Prod.fst) fun i hi => h i (s.subset hi)
  have l := s.length_le
  refine ⟨k.1, Int.le_trans k.2 (Int.mul_le_mul_of_nonneg_right (by omega) hM)⟩
theorem cost_bd {m : Nat} {os : List (List Int)} {ps qs ns : List Int} (t : Tb m os) (hp : ps.length = os.length) (hq : qs.length = m) (h1 : In0 (1000000000000 : Int) ps) (h2 : In0 (1000000000000 : Int) qs) (hn : ∀ k ∈ ns, 0 ≤ k ∧ k < (os.length : Int)) (nl : ns.length ≤ 60) : 0 ≤ costL os ps qs ns ∧ costL os ps qs ns ≤ 100000000000000 := by
  have a := paid_bd (by decide) h1 (o := ns) fun d hd => by have := hn d hd; omega
  have b := pen_bd (by decide) h2 (coveredB os ns)
  have m10 := t.m10
  unfold costL
  omega
end Pb

set_option Elab.async false
set_option linter.all false
set_option maxRecDepth 100000
namespace Pb
open PySem PySem.Spec PyProof.Rows L2
section
variable {P : Program} {w : World} {K : PySem.W.Frag} {mg : Str → Option Value} {base : Heap}
end
end Pb

set_option Elab.async false
set_option linter.all false
set_option maxRecDepth 100000
namespace Pb
open PySem PySem.Spec PyProof.Rows L2
/-! ### payments along an order -/
def subAll (x : Int) (l ks : List Int) : List Int := ks.foldl (fun l k => l.set k.toNat (l.getD k.toNat 0 - x)) l
def payX (os : List (List Int)) (qs ls : List Int) (d : Int) : Int := ((covL os d).map fun k => ls.getD k.toNat 0).foldl min (qs.getD d.toNat 0)
def payGo (os : List (List Int)) (qs : List Int) : List Int → List Int → List Int → List Int × List Int
  | [], ls, fs => (ls, fs)
  | d :: so, ls, fs => payGo os qs so (subAll (payX os qs ls d) ls (covL os d)) (fs.set d.toNat (payX os qs ls d))
def payL (m : Nat) (os : List (List Int)) (ps qs so : List Int) : List Int := (payGo os qs so ps (List.replicate m 0)).2
theorem subAll_len {x : Int} : ∀ {ks l : List Int}, (subAll x l ks).length = l.length
  | [], _ => rfl
  | k :: ks, l => by
    show (subAll x (l.set k.toNat (l.getD k.toNat 0 - x)) ks).length = _
    rw [subAll_len, List.length_set]
/-! the law's -/
abbrev rP (m : Nat) (os : List (List Int)) (ps qs so ls fs : List Int) (s6 s7 s8 s9 : Sl) : Rho := [.val (tabD m os), .val (offD ps), .val (offD qs), .val (offD so), .own (ls.map PyData.int), .own (fs.map PyData.int), s6, s7, s8, s9]
abbrev inB : Rho → Option Res := sPut 4 (eVar 8) (eOp fSub (eOp fIxL (eL (lOwn 4)) (eVar 8)) (eOp fIxL (eL (lOwn 5)) (eVar 6)))
theorem cov_ran {os : List (List Int)} {d : Int} : ∀ k ∈ covL os d, 0 ≤ k ∧ k < (os.length : Int) := fun k hk => by
  obtain ⟨j, o, hj, _, rfl⟩ := mem_covL.mp hk
  have := (List.getElem?_eq_some_iff.mp hj).1
  omega
theorem set_getD {l : List Int} {k : Nat} {x : Int} (h : k < l.length) : (l.set k x).getD k 0 = x := by
  rw [List.getD_eq_getElem?_getD, List.getElem?_set_self h]
  rfl
/-! the program's -/
end Pb

set_option Elab.async false
set_option linter.all false
set_option maxRecDepth 100000
namespace Pb
open PySem PySem.Spec PyProof.Rows L2
section
variable {P : Program} {w : World} {K : PySem.W.Frag} {mg : Str → Option Value} {base : Heap}
def w__law_one : Addr → List PyData → Int → (PyData → Int → Prop) → Prop := runW 2 2 fun d =>
  (twRet (wOp fIxL (wP (eVar 1)) (wDraw d 0 WNextW (wCons (wP (eCb fLen (aCons (eVar 1) aNil))) wNil))))
end
end Pb

set_option Elab.async false
set_option linter.all false
set_option maxRecDepth 100000
namespace Pb
open PySem PySem.Spec PyProof.Rows L2
theorem oneD {d : Addr} {ns : List Int} (h0 : ns ≠ []) (hl : ns.length ≤ 1000) {n : Int} (hn : n < 2 ^ 49) {P : PyData → Int → Prop} (h : ∀ (i n' : Int), i ∈ ns → n' ≤ n + 1 → P (.int i) n') : w__law_one d [.list (ns.map PyData.int)] n P := by
  have lp : 0 < ns.length := List.length_pos_iff.mpr h0
  refine ⟨rfl, _, rfl, rfl, .int (ns.length : Nat), ?_, (ns.length : Int), rfl, by omega, by omega, by omega, fun v n' v0 v1 le => ?_⟩
  · refine eCb_of (aCons_of rfl rfl) ?_
    show some (PyData.int (((ns.map PyData.int).length : Nat) : Int)) = _
    rw [List.length_map]
  · obtain ⟨i, hi, e⟩ := ixL_ints v0 v1
    exact ⟨_, e, h i n' hi le⟩
theorem ixL_last {ns : List Int} {d : Int} : fIxL (.list ((ns ++ [d]).map PyData.int)) (.int (-1)) = some (.int d) := by
  rw [List.map_append]
  exact ixT_last
end Pb

set_option Elab.async false
set_option linter.all false
set_option maxRecDepth 100000
namespace Pb
open PySem PySem.Spec PyProof.Rows L2
/-! ### payments: bounds -/
theorem subAll_get {x : Int} : ∀ {ks l : List Int}, ks.Nodup → (∀ k ∈ ks, 0 ≤ k ∧ k < (l.length : Int)) → ∀ j : Nat, (subAll x l ks).getD j 0 = if (j : Int) ∈ ks then l.getD j 0 - x else l.getD j 0
  | [], l, _, _, j => by simp [subAll]
  | k :: ks, l, hn, hk, j => by
    obtain ⟨n1, n2⟩ := List.nodup_cons.mp hn
    have kk := hk k List.mem_cons_self
    have ih := subAll_get (x := x) (ks := ks) (l := l.set k.toNat (l.getD k.toNat 0 - x)) n2 (fun i hi => by rw [List.length_set]; exact hk i (List.mem_cons_of_mem _ hi)) j
    have e : subAll x l (k :: ks) = subAll x (l.set k.toNat (l.getD k.toNat 0 - x)) ks := rfl
    rw [e, ih]
    by_cases hj : k.toNat = j
    · have hjk : (j : Int) = k := by omega
      have hno : (j : Int) ∉ ks := by rw [hjk]; exact n1
      rw [if_neg hno, if_pos (by rw [hjk]; exact List.mem_cons_self), ← hj, set_getD (by omega)]
    · have g : (l.set k.toNat (l.getD k.toNat 0 - x)).getD j 0 = l.getD j 0 := by
        rw [List.getD_eq_getElem?_getD, List.getElem?_set_ne hj, ← List.getD_eq_getElem?_getD]
      have m : (j : Int) ∈ k :: ks ↔ (j : Int) ∈ ks := by
        rw [List.mem_cons]
        exact ⟨fun h => h.elim (fun z => absurd (by omega) hj) id, .inr⟩
      rw [g]
      by_cases hm : (j : Int) ∈ ks
      · rw [if_pos hm, if_pos (m.mpr hm)]
      · rw [if_neg hm, if_neg (fun z => hm (m.mp z))]
theorem sApp_of {i : Nat} {φ : Rho → Option PyData} {ρ : Rho} {es : List PyData} {e : PyData} (h1 : ro ρ i = some es) (hl : es.length < 100000) (h2 : φ ρ = some e) : sApp i φ ρ = some (.nx (ρ.set i (.own (es ++ [e])))) := by
  unfold sApp
  rw [h1]
  show (if es.length < 100000 then (φ ρ).map _ else none) = _
  rw [if_pos hl, h2]
  rfl
theorem payX_le {os : List (List Int)} {qs ls : List Int} {d : Int} : payX os qs ls d ≤ qs.getD d.toNat 0 ∧ ∀ k ∈ covL os d, payX os qs ls d ≤ ls.getD k.toNat 0 := by
  obtain ⟨_, h2, h3⟩ := foldl_min ((covL os d).map fun k => ls.getD k.toNat 0) (qs.getD d.toNat 0)
  exact ⟨h2, fun k hk => h3 _ (List.mem_map_of_mem hk)⟩
theorem payX_at {os : List (List Int)} {qs ls : List Int} {d : Int} : payX os qs ls d = qs.getD d.toNat 0 ∨ ∃ k ∈ covL os d, payX os qs ls d = ls.getD k.toNat 0 := by
  obtain ⟨h1, _, _⟩ := foldl_min ((covL os d).map fun k => ls.getD k.toNat 0) (qs.getD d.toNat 0)
  rcases h1 with h | h
  · exact .inl h
  · obtain ⟨k, hk, e⟩ := List.mem_map.mp h
    exact .inr ⟨k, hk, e.symm⟩
theorem in0_of {M : Int} {l : List Int} (h : ∀ j < l.length, 0 ≤ l.getD j 0 ∧ l.getD j 0 ≤ M) : In0 M l := fun i hi => by
  obtain ⟨j, hj⟩ := List.getElem?_of_mem hi
  have := h j (List.getElem?_eq_some_iff.mp hj).1
  rwa [List.getD_eq_getElem?_getD, hj] at this
theorem payX_in {M : Int} {os : List (List Int)} {qs ls : List Int} {d : Int} (ll : ls.length = os.length) (h1 : In0 M ls) (h2 : In0 M qs) (hd : 0 ≤ d ∧ d < (qs.length : Int)) : 0 ≤ payX os qs ls d ∧ payX os qs ls d ≤ M := by
  have q := h2.get (k := d.toNat) (by omega)
  have le := (payX_le (os := os) (qs := qs) (ls := ls) (d := d)).1
  refine ⟨?_, by omega⟩
  rcases payX_at (os := os) (qs := qs) (ls := ls) (d := d) with e | ⟨k, hk, e⟩
  · omega
  · have kk := cov_ran k hk
    have := h1.get (k := k.toNat) (by omega)
    omega
theorem left_in {M : Int} {os : List (List Int)} {qs ls : List Int} {d : Int} (ll : ls.length = os.length) (h1 : In0 M ls) (h2 : In0 M qs) (hd : 0 ≤ d ∧ d < (qs.length : Int)) : In0 M (subAll (payX os qs ls d) ls (covL os d)) := by
  have x0 := payX_in (os := os) ll h1 h2 hd
  refine in0_of fun j hj => ?_
  rw [subAll_len] at hj
  have g := h1.get (k := j) hj
  rw [subAll_get (cov_nodup os d) (fun k hk => by have := cov_ran k hk; omega)]
  split
  · rename_i hm
    have := (payX_le (os := os) (qs := qs) (ls := ls) (d := d)).2 _ hm
    rw [Int.toNat_natCast] at this
    omega
  · exact g
end Pb

set_option Elab.async false
set_option linter.all false
set_option maxRecDepth 100000
namespace Pb
open PySem PySem.Spec PyProof.Rows L2
section
variable {P : Program} {w : World} {K : PySem.W.Frag} {mg : Str → Option Value} {base : Heap}
def q_is_amount : List PyData → Option PyData := runF 1 1
  ((sRet (eCb Pb.q_is_number_below (aCons (eVar 0) (aCons (eOp fAdd (eInt 1000000000000) (eInt 1)) aNil)))))
def q__law_is_collection : List PyData → Option PyData := runF 9 4
  ((sSeq (sIf (bOr (bNot (bTest (eUn (fIsi "tuple") (eVar 3)))) (bOr (bTest (eOp fNe (eCb fLen (aCons (eVar 3) aNil)) (eOp fIxT (eVar 0) (eInt 0)))) (bTest (eOp fNe0 (eL (lLc [8] (iT (eVar 3)) (gN 8) (bNot (bTest (eCb Pb.q__law_whole (aCons (eVar 8) aNil)))) (eVar 8))) (eL (lLst aNil)))))) (sRet (eBl false)) sNil)
  (sSeq (sIf (bTest (eOp fNe0 (eL (lLc [4, 5] (iET (eVar 3)) (gT (gC (gN 4) (gC (gN 5) g0))) (bNot (bTest (eChain fLe fLe (eInt 0) (eVar 5) (eOp fIxT (eVar 2) (eVar 4))))) (eVar 4))) (eL (lLst aNil)))) (sRet (eBl false)) sNil)
  (sRet (eOp fEq0 (eL (lLc [6, 7] (iET (eOp fIxT (eVar 0) (eInt 1))) (gT (gC (gN 6) (gC (gN 7) g0))) (bTest (eOp fGt (eCb fSum (aCons (eL (lLc [4] (iT (eVar 7)) (gN 4) bYes (eOp fIxT (eVar 3) (eVar 4)))) aNil)) (eOp fIxT (eVar 1) (eVar 6)))) (eVar 6))) (eL (lLst aNil)))))))
end
end Pb

set_option Elab.async false
set_option linter.all false
set_option maxRecDepth 100000
namespace Pb
open PySem PySem.Spec PyProof.Rows L2
/-! ### collections -/
structure Coll (m : Nat) (os : List (List Int)) (ps qs : List Int) (x : PyData) (ns : List Int) : Prop where
  eq : x = offD ns
  len : ns.length = m
  own : ∀ (k : Nat) (i q : Int), ns[k]? = some i → qs[k]? = some q → 0 ≤ i ∧ i ≤ q
  pay : ∀ (k : Nat) (o : List Int) (p : Int), os[k]? = some o → ps[k]? = some p → paid ns o ≤ p
end Pb

set_option Elab.async false
set_option linter.all false
set_option maxRecDepth 100000
namespace Pb
open PySem PySem.Spec PyProof.Rows L2
/-! ### tuples of amounts -/
theorem q_amount (x : PyData) : q_is_amount [x] = some (.bool (numBelow x 1000000000001)) := runF_of rfl (sRet_of (eCb_of (aCons_of rfl (aCons_of rfl rfl)) (q_num x 1000000000001)))
/-! ### failures, checked -/
structure Fail (m : Nat) (os : List (List Int)) (so : List Int) (x : PyData) : Prop where
  ex : ∃ ps qs ns : List Int, x = .tuple [offD ps, offD qs, offD ns] ∧ ps.length = os.length ∧ qs.length = m ∧ In0 (1000000000000 : Int) ps ∧ In0 (1000000000000 : Int) qs ∧ Coll m os ps qs (offD ns) ns ∧ (payL m os ps qs so).sum < ns.sum
end Pb

set_option Elab.async false
set_option linter.all false
set_option maxRecDepth 100000
namespace Pb
open PySem PySem.Spec PyProof.Rows L2
section
variable {P : Program} {w : World} {K : PySem.W.Frag} {mg : Str → Option Value} {base : Heap}
def q__law_due : List PyData → Option PyData := runF 4 4
  ((sSeq (sIf (bOr (bNot (bTest (eUn (fIsi "tuple") (eVar 3)))) (bOr (bTest (eOp fNe (eCb fLen (aCons (eVar 3) aNil)) (eInt 3))) (bNot (bTest (eCb Pb.q__law_whole (aCons (eOp fIxT (eVar 3) (eInt 0)) aNil)))))) (sRet (eBl false)) sNil)
  (sSeq (sIf (bOr (bNot (bTest (eCb Pb.q__law_is_choice (aCons (eVar 0) (aCons (eOp fIxT (eVar 3) (eInt 1)) aNil))))) (bNot (bTest (eCb Pb.q__law_is_collection (aCons (eVar 0) (aCons (eVar 1) (aCons (eVar 2) (aCons (eOp fIxT (eVar 3) (eInt 2)) aNil)))))))) (sRet (eBl false)) sNil)
  (sRet (eChain fEq fEq (eCb Pb.q__law_choice_cost (aCons (eVar 0) (aCons (eVar 1) (aCons (eVar 2) (aCons (eOp fIxT (eVar 3) (eInt 1)) aNil))))) (eOp fIxT (eVar 3) (eInt 0)) (eCb fSumT (aCons (eOp fIxT (eVar 3) (eInt 2)) aNil)))))))
end
end Pb

set_option Elab.async false
set_option linter.all false
set_option maxRecDepth 100000
namespace Pb
open PySem PySem.Spec PyProof.Rows L2
/-! ### rows and their order -/
def rowD (bs : List Bool) (k : Int) : PyData := .tuple [.list (bs.map .bool), .int k]
def ltR : List Bool → List Bool → Int → Int → Bool
  | b :: bs, c :: cs, k, l => if b = c then ltR bs cs k l else c
  | _, _, k, l => decide (k < l)
theorem toks_lt {k l : Int} : ∀ {bs cs : List Bool}, bs.length = cs.length → lexLt itemOrd (W.keyToksAll (bs.map PyData.bool) ++ W.keyToksAll [.int k]) (W.keyToksAll (cs.map PyData.bool) ++ W.keyToksAll [.int l]) = ltR bs cs k l
  | [], [], _ => by
    show lexLt itemOrd (.inl 0 :: .inl 1 :: .inl k :: [.inl 0]) (.inl 0 :: .inl 1 :: .inl l :: [.inl 0]) = decide (k < l)
    rw [lex_self, lex_self, lex_cons]
    show (decide (k < l) || (!decide (l < k) && lexLt itemOrd [.inl 0] [.inl 0])) = _
    rw [lex_self]
    show (decide (k < l) || (!decide (l < k) && false)) = _
    simp
  | b :: bs, c :: cs, h => by
    have ih := toks_lt (k := k) (l := l) (bs := bs) (cs := cs) (by simpa using h)
    have e : ∀ (x : Bool) (xs : List Bool) (y : List (Int ⊕ List Nat)), W.keyToksAll ((x :: xs).map PyData.bool) ++ y = .inl 1 :: .inl (if x = true then 1 else 0) :: (W.keyToksAll (xs.map PyData.bool) ++ y) := fun x xs y => by
      simp [W.keyToksAll, W.keyToks]
    rw [e, e, lex_self]
    unfold ltR
    by_cases hbc : b = c
    · subst hbc
      rw [if_pos rfl, lex_self, ih]
    · rw [if_neg hbc]
      cases b <;> cases c
      · exact absurd rfl hbc
      · rw [lex_cons]
        rfl
      · rw [lex_cons]
        rfl
      · exact absurd rfl hbc
  | [], _ :: _, h => by simp at h
  | _ :: _, [], h => by simp at h
theorem row_le {bs cs : List Bool} {k l : Int} (h : bs.length = cs.length) : W.dataLe false id (rowD bs k) (rowD cs l) = !ltR cs bs l k := by
  show (!lexLt itemOrd (W.keyToks (rowD cs l)) (W.keyToks (rowD bs k))) = _
  have e : ∀ (x : List Bool) (j : Int), W.keyToks (rowD x j) = .inl 1 :: (W.keyToksAll (x.map PyData.bool) ++ W.keyToksAll [.int j]) := fun x j => by
    simp [rowD, W.keyToksAll, W.keyToks]
  rw [e, e, lex_self, toks_lt h.symm]
end Pb

set_option Elab.async false
set_option linter.all false
set_option maxRecDepth 100000
namespace Pb
open PySem PySem.Spec PyProof.Rows L2
/-! ### the second pass, as the law has it -/
theorem bAnd_t {α β : Rho → Option Bool} {ρ : Rho} {b : Bool} (h : α ρ = some true) (k : β ρ = some b) : bAnd α β ρ = some b := by
  unfold bAnd
  rw [h]
  exact k
theorem forR_nx {B : PyData → Rho → Option Res} {e : PyData} {es : List PyData} {ρ ρ' : Rho} (h : B e ρ = some (.nx ρ')) : forR B (e :: es) ρ = forR B es ρ' := by
  show (B e ρ).bind _ = _
  rw [h]
  rfl
end Pb

set_option Elab.async false
set_option linter.all false
set_option maxRecDepth 100000
namespace Pb
open PySem PySem.Spec PyProof.Rows L2
section
variable {P : Program} {w : World} {K : PySem.W.Frag} {mg : Str → Option Value} {base : Heap}
end
end Pb

set_option Elab.async false
set_option linter.all false
set_option maxRecDepth 100000
namespace Pf
open PySem PySem.Spec PyProof.Rows L2 Pb
section
variable {P : Program} {w : World} {K : PySem.W.Frag} {mg : Str → Option Value} {base : Heap}
def q__law_penalty : List PyData → Option PyData := runF 5 2
  ((sRet (eL (lLc [2, 3, 4] (iT (eOp fIxT (eVar 0) (eInt 0))) (gT (gC (gN 2) (gC (gN 3) (gC (gN 4) g0)))) (bTest (eChain fLe fLe (eVar 2) (eVar 1) (eVar 3))) (eVar 4)))))
def q__law_due : List PyData → Option PyData := runF 9 2
  ((sSeq (sOwn 2 (lLst aNil))
  (sSeq (sFor (iT (eOp fIxT (eVar 0) (eInt 1))) (gT (gC (gN 3) (gC (gN 4) (gC (gN 5) g0)))) (sApp 2 (eCb fTupOf (aCons (eL (lLc [8, 7] (iET (eVar 1)) (gT (gC (gN 8) (gC (gN 7) g0))) (bTest (eChain fLe fLe (eVar 3) (eVar 7) (eVar 4))) (eVar 8))) aNil))))
  (sSeq (sSet (gN 6) (eCb fTupOf (aCons (eL (lLc [3, 4, 5] (iT (eOp fIxT (eVar 0) (eInt 1))) (gT (gC (gN 3) (gC (gN 4) (gC (gN 5) g0)))) bYes (eVar 5))) aNil)))
  (sRet (eTup (aCons (eTup (aCons (eCb fLen (aCons (eVar 1) aNil)) (aCons (eCb fTupOf (aCons (eL (lOwn 2)) aNil)) aNil))) (aCons (eVar 6) (aCons (eCb fTupOf (aCons (eL (lLc [7] (iT (eVar 1)) (gN 7) bYes (eOp fIxL (eCb Pf.q__law_penalty (aCons (eVar 0) (aCons (eVar 7) aNil))) (eInt 0)))) aNil)) aNil)))))))))
def w__law_drawn : Addr → List PyData → Int → (PyData → Int → Prop) → Prop := runW 7 2 fun d =>
  (twSeq (twP (sOwn 2 (lLst aNil)))
  (twSeq (twFor (iT (eOp fIxT (eVar 1) (eInt 0))) (gT (gC (gN 3) (gC (gN 4) (gC (gN 5) g0)))) (twOwn 2 (wfCat (wfP (lOwn 2)) (wfLst (wCons (wP (eVar 3)) (wCons (wP (eVar 4)) (wCons (wOp fAdd (wP (eVar 3)) (wDraw d 0 WNextW (wCons (wP (eOp fAdd (eOp fSub (eVar 4) (eVar 3)) (eInt 1))) wNil))) wNil)))))))
  (twFrz 2 (twRet (wCb fTupOf (wCons (wL (wfSortU (wfLcR [6] (wOp fAdd (wP (eInt 1)) (wDraw d 0 WNextW (wCons (wP (eInt 10)) wNil))) (gN 6) bYes (wDraw d 0 Pb.w__law_one (wCons (wP (eVar 2)) wNil))))) wNil))))))
end
end Pf

set_option Elab.async false
set_option linter.all false
set_option maxRecDepth 100000
namespace Pf
open PySem PySem.Spec PyProof.Rows L2 Pb
/-! ### lines: triples, how they are drawn -/
abbrev T3 : Type := Int × Int × Int
def triD (t : T3) : PyData := .tuple [.int t.1, .int t.2.1, .int t.2.2]
def lineD (bs ss : List T3) : PyData := .tuple [.tuple (bs.map triD), .tuple (ss.map triD)]
/-- a span within 10 ** 13, with its amount -/
def Spn (t : T3) : Prop := 0 ≤ t.1 ∧ t.1 ≤ t.2.1 ∧ t.2.1 ≤ 10000000000000 ∧ 0 ≤ t.2.2 ∧ t.2.2 ≤ 1000000000000
structure Lin (bs ss : List T3) : Prop where
  b : ∀ t ∈ bs, Spn t
  s : ∀ t ∈ ss, Spn t
  b1 : 1 ≤ bs.length
  b6 : bs.length ≤ 6
  s10 : ss.length ≤ 10
  ord : bs.Pairwise fun x y => x.2.1 < y.1
end Pf

set_option Elab.async false
set_option linter.all false
set_option maxRecDepth 100000
namespace Pf
open PySem PySem.Spec PyProof.Rows L2 Pb
/-! ### words over lists that are told by something else -/
theorem lLc_at {α : Type} (D : α → PyData) (O : PyData → α) (hO : ∀ a, O (D a) = a) {vs : List Nat} {it : Rho → Option (List PyData)} {τ : PyData → Rho → Option Rho} {β : Rho → Option Bool} {φ : Rho → Option PyData} {ρ : Rho} {l : List α} (b : α → Bool) (v : α → PyData) (hi : it ρ = some (l.map D)) (hl : l.length ≤ 100000)
    (h : ∀ a ∈ l, ∃ ρ', τ (D a) (wipeR ρ vs) = some ρ' ∧ β ρ' = some (b a) ∧ (b a = true → φ ρ' = some (v a))) : lLc vs it τ β φ ρ = some ((l.filter b).map v) := by
  have := lLc_of (vs := vs) (it := it) (τ := τ) (β := β) (φ := φ) (ρ := ρ) (fun e => b (O e)) (fun e => v (O e)) hi (by rw [List.length_map]; exact hl) fun e he => by
    obtain ⟨a, ha, rfl⟩ := List.mem_map.mp he
    obtain ⟨ρ', h1, h2, h3⟩ := h a ha
    rw [hO]
    exact ⟨ρ', h1, h2, h3⟩
  rw [this, List.filter_map, List.map_map]
  have e1 : ((fun e => b (O e)) ∘ D) = b := funext fun a => by show b (O (D a)) = b a; rw [hO]
  have e2 : ((fun e => v (O e)) ∘ D) = v := funext fun a => by show v (O (D a)) = v a; rw [hO]
  rw [e1, e2]
/-- the spans around x -/
def inB (x : Int) (t : T3) : Bool := decide (t.1 ≤ x) && decide (x ≤ t.2.1)
theorem neD_lst (a b : List Int) : fNeD (lstD a) (lstD b) = some (.bool (!decide (a = b))) := by
  have ok : ∀ ks : List Int, okE (lstD ks) = true := fun ks => by
    unfold okE lstD
    rw [shaped_ints, PyData.hasDict, hasDict_ints]
    rfl
  unfold fNeD
  rw [ok, ok]
  show some (PyData.bool (!PyData.eqv (lstD a) (lstD b))) = _
  simp only [lstD, PyData.eqv, eqv_ints]
end Pf

set_option Elab.async false
set_option linter.all false
set_option maxRecDepth 100000
namespace Pf
open PySem PySem.Spec PyProof.Rows L2 Pb
/-! ### the table of a line at positions -/
def eD (p : Int × Nat) : PyData := .tuple [.int ((p.2 : Nat) : Int), .int p.1]
/-! ### positions, drawn -/
theorem lcW_from {τ : PyData → Rho → Option Rho} {Φ : Rho → Int → (PyData → Int → Prop) → Prop} {ρ : Rho} {ms : List Int} {B : Int} : ∀ {es : List PyData}, (∀ e ∈ es, ∀ (n : Int) (Q : PyData → Int → Prop), n < B → (∀ v ∈ ms, ∀ n' : Int, n' ≤ n + 1 → Q (.int v) n') → ∃ ρ', τ e ρ = some ρ' ∧ Φ ρ' n Q) →
    ∀ {n : Int} {P : List PyData → Int → Prop}, n + es.length < B → (∀ (ks : List Int) (n' : Int), ks.length = es.length → (∀ k ∈ ks, k ∈ ms) → n' ≤ n + es.length → P (ks.map PyData.int) n') → lcW τ bYes Φ ρ es n P
  | [], _, n, P, _, h => h [] n rfl (fun _ z => absurd z List.not_mem_nil) (by simp)
  | e :: es, hs, n, P, hn, h => by
    rw [List.length_cons] at hn
    obtain ⟨ρ', h1, h2⟩ := hs e List.mem_cons_self n (fun y n1 => lcW τ bYes Φ ρ es n1 fun ys n2 => P (y :: ys) n2) (by omega) fun v hv n1 le1 => by
      refine lcW_from (fun x hx => hs x (List.mem_cons_of_mem _ hx)) (by omega) fun ks n2 hl hk le2 => ?_
      exact h (v :: ks) n2 (by rw [List.length_cons, hl, List.length_cons]) (fun i hi => by
        rcases List.mem_cons.mp hi with rfl | hi
        · exact hv
        · exact hk i hi) (by rw [List.length_cons]; omega)
    exact lcW_yes h1 h2
theorem drawn {d : Addr} {bs ss : List T3} (l : Lin bs ss) {n : Int} (hn : n < 2 ^ 40) {P : PyData → Int → Prop} (h : ∀ (ns : List Int) (n' : Int), (∀ x ∈ ns, 0 ≤ x ∧ x ≤ 10000000000000) → ns.length ≤ 10 → n' ≤ n + 30 → P (offD ns) n') : w__law_drawn d [lineD bs ss] n P := by
  have b1 := l.b1
  have b6 := l.b6
  refine ⟨rfl, _, rfl, bs.map triD, rfl, forW_ind (fun es ρ k => ∃ (ts : List T3) (ms : List Int) (s3 s4 s5 : Sl), es = ts.map triD ∧ ρ = [.deck d, .val (lineD bs ss), .own (ms.map PyData.int), s3, s4, s5, .no] ∧ (∀ t ∈ ts, Spn t) ∧ (∀ x ∈ ms, 0 ≤ x ∧ x ≤ 10000000000000) ∧ ms.length + 3 * ts.length = 3 * bs.length ∧ k + ts.length ≤ n + 6) ?_ ?_ _ _ _ ⟨bs, [], .no, .no, .no, rfl, rfl, l.b, fun _ z => absurd z List.not_mem_nil, by simp, by omega⟩⟩
  · rintro ρ k ⟨ts, ms, s3, s4, s5, e0, rfl, hts, hms, hl, hk⟩
    have e1 : ts = [] := by
      cases ts with
      | nil => rfl
      | cons _ _ => cases e0
    subst e1
    simp only [List.length_nil] at hl hk
    have hp : ms ≠ [] := fun z => by rw [z] at hl; simp at hl; omega
    refine ⟨ms.map PyData.int, rfl, ?_⟩
    refine ⟨_, rfl, rfl, _, rfl, 10, rfl, by omega, by omega, by omega, fun q n2 q0 q9 le2 => ⟨_, rfl, 1 + q, rfl, decide_eq_true ⟨by omega, by omega⟩, by omega, ?_⟩⟩
    refine lcW_from (ms := ms) (B := 2 ^ 42) ?_ ?_ ?_
    · intro e _ n3 Q hn3 hQ
      exact ⟨_, rfl, rfl, _, rfl, oneD hp (by omega) (by omega) fun v n4 hv le4 => hQ v hv n4 le4⟩
    · rw [rngD_len]
      omega
    intro ks n3 kl hks le3
    rw [rngD_len] at kl le3
    refine ⟨ks, intsD_ints ks, by omega, _, rfl, ?_⟩
    have sl : (sortU ks).length ≤ ks.length := sortU_len_le
    exact h (sortU ks) n3 (fun x hx => hms x (hks x (sortU_mem.mp hx))) (by omega) (by omega)
  · rintro e es ρ k ⟨ts, ms, s3, s4, s5, e0, rfl, hts, hms, hl, hk⟩ Q ih
    cases ts with
    | nil => cases e0
    | cons t ts =>
      rw [List.map_cons] at e0
      injection e0 with e1 e2
      subst e1 e2
      rw [List.length_cons] at hl hk
      have sp := hts t List.mem_cons_self
      unfold Spn at sp
      refine ⟨_, rfl, ?_⟩
      refine ⟨_, rfl, _, rfl, _, rfl, _, rfl, rfl, .int (t.2.1 - t.1 + 1), rfl, t.2.1 - t.1 + 1, rfl, by omega, by omega, by omega, fun g n2 g0 g1 le2 => ⟨.int (t.1 + g), rfl, _, rfl, ms.map PyData.int ++ [.int t.1, .int t.2.1, .int (t.1 + g)], lim_of (by simp; omega), ?_⟩⟩
      refine ih _ _ ⟨ts, ms ++ [t.1, t.2.1, t.1 + g], _, _, _, rfl, by rw [List.map_append]; rfl, fun x hx => hts x (List.mem_cons_of_mem _ hx), fun x hx => ?_, by rw [List.length_append]; simp; omega, by omega⟩
      rcases List.mem_append.mp hx with hx | hx
      · exact hms x hx
      · simp only [List.mem_cons, List.not_mem_nil, or_false] at hx
        omega
end Pf

set_option Elab.async false
set_option linter.all false
set_option maxRecDepth 100000
namespace Pf
open PySem PySem.Spec PyProof.Rows L2 Pb
section
variable {P : Program} {w : World} {K : PySem.W.Frag} {mg : Str → Option Value} {base : Heap}
def q_is_vertex : List PyData → Option PyData := runF 2 2
  ((sRet (eCb Pb.q_is_number_below (aCons (eVar 1) (aCons (eOp fAdd (eCb fLen (aCons (eVar 0) aNil)) (eInt 1)) aNil)))))
def q_tree_distance : List PyData → Option PyData := runF 6 3
  ((sSeq (sFor (iT (eTup (aCons (eVar 1) (aCons (eVar 2) aNil)))) (gN 3) (sIf (bNot (bTest (eCb Pf.q_is_vertex (aCons (eVar 0) (aCons (eVar 3) aNil))))) sNever sNil))
  (sSeq (sSet (gN 4) (eInt 0))
  (sSeq (sWhile 100 (bTest (eOp fNe (eVar 1) (eVar 2))) (sSeq (sPar 1 2 (aCons (eCb fMin2 (aCons (eVar 1) (aCons (eVar 2) aNil))) (aCons (eCb fMax2 (aCons (eVar 1) (aCons (eVar 2) aNil))) aNil)))
  (sSeq (sSet (gT (gC (gN 2) (gC (gN 5) g0))) (eOp fIxT (eVar 0) (eOp fSub (eVar 2) (eInt 1))))
  (sAug 4 fAdd (eVar 5)))))
  (sRet (eVar 4))))))
end
end Pf

set_option Elab.async false
set_option linter.all false
set_option maxRecDepth 100000
namespace Pf
open PySem PySem.Spec PyProof.Rows L2 Pb
/-! ### trees and distances -/
def edgD (p : Int × Int) : PyData := .tuple [.int p.1, .int p.2]
def treeD (t : List (Int × Int)) : PyData := .tuple (t.map edgD)
structure Tre (t : List (Int × Int)) : Prop where
  len : t.length ≤ 9
  ok : ∀ (k : Nat) (e : Int × Int), t[k]? = some e → 0 ≤ e.1 ∧ e.1 ≤ (k : Int) ∧ 1 ≤ e.2 ∧ e.2 ≤ 1000000000000
/-- the way between two vertices -/
def td (t : List (Int × Int)) : Nat → Int → Int → Int
  | 0, _, _ => 0
  | n + 1, i, j => if i = j then 0 else (t.getD (max i j - 1).toNat (0, 0)).2 + td t n (min i j) (t.getD (max i j - 1).toNat (0, 0)).1
abbrev wT : Rho → Option Bool := (bTest (eOp fNe (eVar 1) (eVar 2)))
abbrev wB : Rho → Option Res := (sSeq (sPar 1 2 (aCons (eCb fMin2 (aCons (eVar 1) (aCons (eVar 2) aNil))) (aCons (eCb fMax2 (aCons (eVar 1) (aCons (eVar 2) aNil))) aNil)))
  (sSeq (sSet (gT (gC (gN 2) (gC (gN 5) g0))) (eOp fIxT (eVar 0) (eOp fSub (eVar 2) (eInt 1))))
  (sAug 4 fAdd (eVar 5))))
theorem min2 (i j : Int) : fMin2 [.int i, .int j] = some (.int (min i j)) := by
  show some (PyData.int _) = _
  congr 2
  split <;> omega
theorem max2 (i j : Int) : fMax2 [.int i, .int j] = some (.int (max i j)) := by
  show some (PyData.int _) = _
  congr 2
  split <;> omega
theorem sPar_of {i j : Nat} {φ ψ : Rho → Option PyData} {ρ : Rho} {x y : PyData} (h : φ ρ = some x) (k : ψ ρ = some y) : sPar i j (aCons φ (aCons ψ aNil)) ρ = some (.nx ((ρ.set i (.val x)).set j (.val y))) := by
  unfold sPar
  rw [aCons_of h (aCons_of k rfl)]
  rfl
theorem edge_at {t : List (Int × Int)} {k : Int} (h0 : 0 ≤ k) (h1 : k < (t.length : Int)) : fIxT (treeD t) (.int k) = some (edgD (t.getD k.toNat (0, 0))) := by
  have hk : k.toNat < t.length := by omega
  have := ixT_at (xs := t.map edgD) (k := k.toNat) (x := edgD (t.getD k.toNat (0, 0))) (by rw [List.getElem?_map, List.getElem?_eq_getElem hk, List.getD_eq_getElem?_getD, List.getElem?_eq_getElem hk]; rfl)
  rw [show ((k.toNat : Nat) : Int) = k by omega] at this
  exact this
theorem td_loop {t : List (Int × Int)} (h : Tre t) : ∀ (n : Nat) (i j acc : Int) (s3 s5 : Sl), 0 ≤ i → 0 ≤ j → i ≤ (t.length : Int) → j ≤ (t.length : Int) → (i + j).toNat < n → ∃ i' j' s5', whR wT wB n [.val (treeD t), .val (.int i), .val (.int j), s3, .val (.int acc), s5] = some (.nx [.val (treeD t), .val (.int i'), .val (.int j'), s3, .val (.int (acc + td t n i j)), s5'])
  | 0, i, j, acc, s3, s5, _, _, _, _, z => absurd z (Nat.not_lt_zero _)
  | n + 1, i, j, acc, s3, s5, i0, j0, i1, j1, z => by
    have tt : wT [.val (treeD t), .val (.int i), .val (.int j), s3, .val (.int acc), s5] = some (!decide (i = j)) := bTest_of rfl
    unfold td
    by_cases e : i = j
    · rw [show (!decide (i = j)) = false by simp [e]] at tt
      rw [if_pos e, Int.add_zero]
      exact ⟨i, j, s5, whR_no tt⟩
    · rw [show (!decide (i = j)) = true by simp [e]] at tt
      rw [if_neg e]
      have b1 : 1 ≤ max i j := by omega
      have hk : (max i j - 1).toNat < t.length := by omega
      have ed := h.ok (max i j - 1).toNat (t.getD (max i j - 1).toNat (0, 0)) (by rw [List.getD_eq_getElem?_getD, List.getElem?_eq_getElem hk]; rfl)
      generalize hE : t.getD (max i j - 1).toNat (0, 0) = E at ed
      have ea := edge_at (t := t) (k := max i j - 1) (by omega) (by omega)
      rw [hE] at ea
      have st : wB [.val (treeD t), .val (.int i), .val (.int j), s3, .val (.int acc), s5] = some (.nx [.val (treeD t), .val (.int (min i j)), .val (.int E.1), s3, .val (.int (acc + E.2)), .val (.int E.2)]) := by
        refine (sSeq_nx (sPar_of (eCb_of (aCons_of rfl (aCons_of rfl rfl)) (min2 i j)) (eCb_of (aCons_of rfl (aCons_of rfl rfl)) (max2 i j)))).trans ((sSeq_nx (ρ' := [.val (treeD t), .val (.int (min i j)), .val (.int E.1), s3, .val (.int acc), .val (.int E.2)]) ?_).trans ?_)
        · show sSet (gT (gC (gN 2) (gC (gN 5) g0))) (eOp fIxT (eVar 0) (eOp fSub (eVar 2) (eInt 1))) [.val (treeD t), .val (.int (min i j)), .val (.int (max i j)), s3, .val (.int acc), s5] = _
          unfold sSet
          rw [eOp_of (f := fIxT) (φ := eVar 0) (ψ' := eOp fSub (eVar 2) (eInt 1)) (x := treeD t) (y := .int (max i j - 1)) rfl (eOp_of (x := .int (max i j)) (y := .int 1) rfl rfl rfl) ea]
          rfl
        · exact sAug_of (i := 4) (f := fAdd) (φ := eVar 5) (ρ := [.val (treeD t), .val (.int (min i j)), .val (.int E.1), s3, .val (.int acc), .val (.int E.2)]) (z := .int (acc + E.2)) rfl rfl rfl
      obtain ⟨i', j', s5', k⟩ := td_loop h n (min i j) E.1 (acc + E.2) s3 (.val (.int E.2)) (by omega) ed.1 (by omega) (by omega) (by omega)
      exact ⟨i', j', s5', (whR_nx tt st).trans (by rw [k, Int.add_assoc])⟩
theorem q_vert {t : List (Int × Int)} (x : PyData) : q_is_vertex [treeD t, x] = some (.bool (numBelow x ((t.length : Int) + 1))) := by
  refine runF_of rfl (sRet_of (eCb_of (xs := [x, .int ((t.length : Int) + 1)]) (aCons_of rfl (aCons_of ?_ rfl)) (q_num x _)))
  refine eOp_of (x := .int (t.length : Nat)) (y := .int 1) (eCb_of (aCons_of rfl rfl) ?_) rfl rfl
  show some (PyData.int ((t.map edgD).length : Nat)) = _
  rw [List.length_map]
theorem vert_in {t : List (Int × Int)} {i : Int} (h0 : 0 ≤ i) (h1 : i ≤ (t.length : Int)) : numBelow (.int i) ((t.length : Int) + 1) = true := by
  show (decide (0 ≤ i) && decide (i < (t.length : Int) + 1)) = true
  rw [decide_eq_true h0, decide_eq_true (by omega)]
  rfl
theorem q_dist {t : List (Int × Int)} (h : Tre t) {i j : Int} (i0 : 0 ≤ i) (j0 : 0 ≤ j) (i1 : i ≤ (t.length : Int)) (j1 : j ≤ (t.length : Int)) : q_tree_distance [treeD t, .int i, .int j] = some (.int (td t 100 i j)) := by
  have l9 := h.len
  have lp : forR (fun e ρ => (gN 3 e ρ).bind (sIf (bNot (bTest (eCb Pf.q_is_vertex (aCons (eVar 0) (aCons (eVar 3) aNil))))) sNever sNil)) [.int i, .int j] [.val (treeD t), .val (.int i), .val (.int j), .no, .no, .no] = some (.nx [.val (treeD t), .val (.int i), .val (.int j), .val (.int j), .no, .no]) := by
    have st : ∀ (x : Int) (s3 : Sl), 0 ≤ x → x ≤ (t.length : Int) → (gN 3 (.int x) [.val (treeD t), .val (.int i), .val (.int j), s3, .no, .no]).bind (sIf (bNot (bTest (eCb Pf.q_is_vertex (aCons (eVar 0) (aCons (eVar 3) aNil))))) sNever sNil) = some (.nx [.val (treeD t), .val (.int i), .val (.int j), .val (.int x), .no, .no]) := fun x s3 x0 x1 => by
      have c : bNot (bTest (eCb Pf.q_is_vertex (aCons (eVar 0) (aCons (eVar 3) aNil)))) [.val (treeD t), .val (.int i), .val (.int j), .val (.int x), .no, .no] = some (!numBelow (.int x) ((t.length : Int) + 1)) := bNot_of (bTest_of (eCb_of (aCons_of rfl (aCons_of rfl rfl)) (q_vert (.int x))))
      rw [vert_in x0 x1] at c
      show sIf _ _ _ [.val (treeD t), .val (.int i), .val (.int j), .val (.int x), .no, .no] = _
      exact (sIf_f c).trans rfl
    exact (forR_nx (st i .no i0 i1)).trans ((forR_nx (st j _ j0 j1)).trans rfl)
  obtain ⟨i', j', s5', k⟩ := td_loop h 100 i j 0 (.val (.int j)) .no i0 j0 i1 j1 (by omega)
  rw [Int.zero_add] at k
  exact runF_of rfl ((sSeq_nx (sFor_of rfl lp)).trans ((sSeq_nx rfl).trans ((sSeq_nx (show sWhile 100 wT wB _ = _ from k)).trans rfl)))
end Pf

set_option Elab.async false
set_option linter.all false
set_option maxRecDepth 100000
namespace Pf
open PySem PySem.Spec PyProof.Rows L2 Pb
theorem Tre.at {t : List (Int × Int)} (h : Tre t) {k : Nat} (hk : k < t.length) : 0 ≤ (t.getD k (0, 0)).1 ∧ (t.getD k (0, 0)).1 ≤ (k : Int) ∧ 1 ≤ (t.getD k (0, 0)).2 ∧ (t.getD k (0, 0)).2 ≤ 1000000000000 :=
  h.ok k _ (by rw [List.getD_eq_getElem?_getD, List.getElem?_eq_getElem hk]; rfl)
/-! the law's rows -/
end Pf

set_option Elab.async false
set_option linter.all false
set_option maxRecDepth 100000
namespace Pf
open PySem PySem.Spec PyProof.Rows L2 Pb
/-! ### rows of distances: lists inside a list -/
structure Dst (H : Hp) (D : Addr) (rows : List (List Int)) (refs : List Addr) (H2 : Hp) : Prop where
  at_ : H2 D = some (.lst (refs.map V.ref))
  len : refs.length = rows.length
  row : ∀ (j : Nat) (r : Addr) (ro : List Int), refs[j]? = some r → rows[j]? = some ro → H2 r = some (.lst (ro.map V.int))
  nd : refs.Nodup
  off : D ∉ refs
  newD : H D = none
  new : ∀ r ∈ refs, H r = none
  sm : Same H H2
section
variable {H : Hp} {D : Addr} {rows : List (List Int)} {refs : List Addr} {H2 H3 : Hp}
theorem same_put {p : Addr} {o : HO} (s : Same H H2) (hp : H p = none) : Same H (upd H2 p o) := fun a x e => by
  have ne : a ≠ p := fun z => by
    rw [z, hp] at e
    cases e
  rw [upd_ne ne]
  exact s a x e
theorem Dst.put (d : Dst H D rows refs H2) {j : Nat} {r : Addr} {ro : List Int} (h1 : refs[j]? = some r) : Dst H D (rows.set j ro) refs (upd H2 r (.lst (ro.map V.int))) := by
  have hr : r ∈ refs := List.mem_of_getElem? h1
  have hj := (List.getElem?_eq_some_iff.mp h1).1
  refine ⟨?_, by rw [List.length_set]; exact d.len, fun j' r' ro' k1 k2 => ?_, d.nd, d.off, d.newD, d.new, same_put d.sm (d.new r hr)⟩
  · rw [upd_ne (show D ≠ r from fun z => d.off (by rw [z]; exact hr))]
    exact d.at_
  · by_cases e : j' = j
    · subst e
      rw [h1] at k1
      cases k1
      rw [List.getElem?_set_self (by rw [← d.len]; exact hj)] at k2
      cases k2
      exact upd_same
    · have ne : r' ≠ r := fun z => by
        subst z
        have hj' := (List.getElem?_eq_some_iff.mp k1)
        have hjj := (List.getElem?_eq_some_iff.mp h1)
        exact e ((List.getElem_inj d.nd).mp (hj'.2.trans hjj.2.symm))
      rw [upd_ne ne]
      rw [List.getElem?_set_ne (fun z => e z.symm)] at k2
      exact d.row j' r' ro' k1 k2
theorem Dst.add (d : Dst H D rows refs H2) {p : Addr} {ro : List Int} (hp : H2 p = some (.lst (ro.map V.int))) (np : H p = none) (h1 : p ∉ refs) (h2 : p ≠ D) : Dst H D (rows ++ [ro]) (refs ++ [p]) (upd H2 D (.lst (refs.map V.ref ++ [.ref p]))) := by
  refine ⟨by rw [List.map_append]; exact upd_same, by rw [List.length_append, List.length_append, d.len]; rfl, fun j r ro' k1 k2 => ?_, ?_, ?_, d.newD, fun r hr => ?_, same_put d.sm d.newD⟩
  · have hr : r ∈ refs ++ [p] := List.mem_of_getElem? k1
    have ne : r ≠ D := fun z => by
      subst z
      rcases List.mem_append.mp hr with z | z
      · exact d.off z
      · exact h2 (List.mem_singleton.mp z).symm
    rw [upd_ne ne]
    by_cases hj : j < refs.length
    · rw [List.getElem?_append_left hj] at k1
      rw [List.getElem?_append_left (by rw [← d.len]; exact hj)] at k2
      exact d.row j r ro' k1 k2
    · have hj' : j = refs.length := by
        have := (List.getElem?_eq_some_iff.mp k1).1
        rw [List.length_append] at this
        simp at this
        omega
      subst hj'
      rw [List.getElem?_append_right (Nat.le_refl _), Nat.sub_self] at k1
      rw [d.len, List.getElem?_append_right (Nat.le_refl _), Nat.sub_self] at k2
      cases k1
      cases k2
      exact hp
  · refine List.nodup_append.mpr ⟨d.nd, by simp, fun a ha b hb z => ?_⟩
    rw [List.mem_singleton] at hb
    subst hb
    subst z
    exact h1 ha
  · intro z
    rcases List.mem_append.mp z with z | z
    · exact d.off z
    · exact h2 (List.mem_singleton.mp z).symm
  · rcases List.mem_append.mp hr with z | z
    · exact d.new r z
    · rw [List.mem_singleton] at z
      subst z
      exact np
theorem Dst.da {K : PySem.W.Frag} {T : List Addr} (d : Dst H D rows refs H2) (tr : Tr T H) : Da K (hs T H2) (.ref D) (.list (rows.map lstD)) := by
  refine .lst (SqL.of (hs_at (tr.out d.newD) d.at_)) ?_
  have : ∀ (refs : List Addr) (rows : List (List Int)), refs.length = rows.length → (∀ r ∈ refs, H r = none) → (∀ (j : Nat) (r : Addr) (ro : List Int), refs[j]? = some r → rows[j]? = some ro → H2 r = some (.lst (ro.map V.int))) → DaAll K (hs T H2) (refs.map V.ref) (rows.map lstD) := by
    intro refs
    induction refs with
    | nil =>
      intro rows hl _ _
      cases rows with
      | nil => exact .nil
      | cons _ _ => simp at hl
    | cons r refs ih =>
      intro rows hl hn h
      cases rows with
      | nil => simp at hl
      | cons ro rows =>
        refine .cons (.lst (SqL.of (hs_at (tr.out (hn r List.mem_cons_self)) (h 0 r ro rfl rfl))) (DaAll.ints _)) (ih rows (by simpa using hl) (fun r hr => hn r (List.mem_cons_of_mem _ hr)) fun j r ro h1 h2 => h (j + 1) r ro h1 h2)
  exact this refs rows d.len d.new d.row
end
/-- the body of the law's def -/
abbrev distB (K : PySem.W.Frag) : TS := (tSeq
          (tAsg
            (tLc (iList K (tOp (rIxL K) (tVar 1) (tVar 3))) (gName 7) tYes
              (tOp (rI0 fun i j => V.int (i + j)) (tVar 7) (tVar 4))
              [7])
            (gName 5))
          (tSeq
            (tFor (RZ.iZipA K (tCons (tVar 1) (tCons (tVar 5) tNil)))
              (gTup K 2 (gCons (gName 6) (gCons (gName 7) gNil)))
              (tDrop (tBM K "list" rAppend (tVar 6) (tCons (tVar 7) tNil))))
            (tDrop
              (tBM K "list" rAppend (tVar 1) (tCons (tOp rCat (tVar 5) (tLst (tCons (tC (V.int 0)) tNil))) tNil)))))
end Pf

set_option Elab.async false
set_option linter.all false
set_option maxRecDepth 100000
namespace Pf
open PySem PySem.Spec PyProof.Rows L2 Pb
theorem Tre.take {t : List (Int × Int)} (h : Tre t) (i : Nat) : Tre (t.take i) := ⟨by rw [List.length_take]; have := h.len; omega, fun k e he => h.ok k e (by
  rw [List.getElem?_take] at he
  split at he
  · exact he
  · cases he)⟩
end Pf

set_option Elab.async false
set_option linter.all false
set_option maxRecDepth 100000
namespace Pb
open PySem PySem.Spec PyProof.Rows L2
section
variable {P : Program} {w : World} {K : PySem.W.Frag} {mg : Str → Option Value} {base : Heap}
end
end Pb

set_option Elab.async false
set_option linter.all false
set_option maxRecDepth 100000
namespace Pb
open PySem PySem.Spec PyProof.Rows L2
/-! ### words beside a dict -/
section
variable {ρ ρ' : Rho} {φ ψ χ : Rho → Option PyData} {e x y : PyData} {c i j : Nat}
end
/-! ### dicts of masks and prices -/
abbrev Dn : Type := List (Nat × Int)
def lkN (D : Dn) (c : Nat) : Option Int := (D.find? fun q => decide (q.1 = c)).map (·.2)
def ptN (D : Dn) (c : Nat) (v : Int) : Dn := if (D.any fun q => decide (q.1 = c)) = true then D.map (fun q => if q.1 = c then (q.1, v) else q) else D ++ [(c, v)]
def ksN (D : Dn) : List Nat := D.map (·.1)
theorem lk_mem {D : Dn} {c : Nat} {v : Int} (h : lkN D c = some v) : (c, v) ∈ D := by
  unfold lkN at h
  obtain ⟨q, h1, h2⟩ := Option.map_eq_some_iff.mp h
  have h3 := List.find?_some h1
  have : q.1 = c := by simpa using h3
  have e : q = (c, v) := by
    rw [← this, ← h2]
  rw [← e]
  exact List.mem_of_find?_eq_some h1
theorem ks_pt (D : Dn) (c : Nat) (v : Int) : ksN (ptN D c v) = if c ∈ ksN D then ksN D else ksN D ++ [c] := by
  have hm : (D.any fun q => decide (q.1 = c)) = decide (c ∈ ksN D) := by
    rw [Bool.eq_iff_iff, List.any_eq_true, decide_eq_true_iff]
    unfold ksN
    rw [List.mem_map]
    simp only [decide_eq_true_iff]
  unfold ptN
  rw [hm]
  by_cases h : c ∈ ksN D
  · rw [if_pos (decide_eq_true h), if_pos h]
    unfold ksN
    rw [List.map_map]
    refine List.map_congr_left fun q _ => ?_
    show (if q.1 = c then (q.1, v) else q).1 = q.1
    split <;> rfl
  · rw [if_neg (by simpa using h), if_neg h]
    unfold ksN
    rw [List.map_append]
    rfl
theorem nd_pt {D : Dn} (nd : (ksN D).Nodup) (c : Nat) (v : Int) : (ksN (ptN D c v)).Nodup := by
  rw [ks_pt]
  split
  · exact nd
  · rename_i h
    rw [List.nodup_append]
    exact ⟨nd, by simp, fun a ha b hb z => h (by rw [List.mem_singleton] at hb; rw [← hb, ← z]; exact ha)⟩
/-! ### one more offer -/
structure Stp (D W : Dn) (m : Nat) (p : Int) : Prop where
  fr : ∀ c x, lkN W c = some x → lkN D c = some x ∨ ∃ c0 v0, lkN D c0 = some v0 ∧ c0 ||| m = c ∧ x = v0 + p
  old : ∀ c x, lkN D c = some x → ∃ y, y ≤ x ∧ lkN W c = some y
  new : ∀ c x, lkN D c = some x → ∃ y, y ≤ x + p ∧ lkN W (c ||| m) = some y
  nd : (ksN W).Nodup
  len : W.length ≤ 2 * D.length
/-! ### the lowest prices by what is covered -/
def subs : Nat → List (List Int)
  | 0 => [[]]
  | n + 1 => subs n ++ (subs n).map (· ++ [(n : Int)])
theorem subs_in : ∀ {n : Nat} {ks : List Int}, ks ∈ subs n → OffOk n ks ∧ ks.length ≤ n
  | 0, ks, h => by
    rw [subs, List.mem_singleton] at h
    subst h
    exact ⟨⟨fun i hi => absurd hi List.not_mem_nil, List.Pairwise.nil⟩, Nat.le_refl _⟩
  | n + 1, ks, h => by
    rw [subs, List.mem_append] at h
    rcases h with h | h
    · obtain ⟨⟨h1, h2⟩, h3⟩ := subs_in h
      exact ⟨⟨fun i hi => by have := h1 i hi; omega, h2⟩, by omega⟩
    · obtain ⟨l, hl, rfl⟩ := List.mem_map.mp h
      obtain ⟨⟨h1, h2⟩, h3⟩ := subs_in hl
      refine ⟨⟨fun i hi => ?_, ?_⟩, by rw [List.length_append]; simp; omega⟩
      · rcases List.mem_append.mp hi with hi | hi
        · have := h1 i hi; omega
        · rw [List.mem_singleton] at hi; omega
      · rw [List.pairwise_append]
        exact ⟨h2, List.pairwise_singleton _ _, fun a ha b hb => by
          rw [List.mem_singleton] at hb
          have := h1 a ha
          omega⟩
theorem subs_all : ∀ {n : Nat} {ks : List Int}, OffOk n ks → ks ∈ subs n
  | 0, ks, h => by
    rw [subs, List.mem_singleton]
    cases ks with
    | nil => rfl
    | cons k ks =>
      have := h.1 k List.mem_cons_self
      omega
  | n + 1, ks, h => by
    rw [subs, List.mem_append]
    by_cases hm : (n : Int) ∈ ks
    · right
      obtain ⟨a, b, rfl⟩ := List.append_of_mem hm
      have hb : b = [] := by
        cases b with
        | nil => rfl
        | cons x b =>
          have p := h.2
          rw [List.pairwise_append] at p
          have h1 := (List.pairwise_cons.mp p.2.1).1 x List.mem_cons_self
          have h2 := h.1 x (by simp)
          omega
      subst hb
      refine List.mem_map.mpr ⟨a, subs_all ⟨fun i hi => ?_, ?_⟩, rfl⟩
      · have p := h.2
        rw [List.pairwise_append] at p
        have h1 := p.2.2 i hi (n : Int) List.mem_cons_self
        have h2 := h.1 i (List.mem_append_left _ hi)
        omega
      · have p := h.2
        rw [List.pairwise_append] at p
        exact p.1
    · left
      exact subs_all ⟨fun i hi => by
        have := h.1 i hi
        have : i ≠ (n : Int) := fun z => hm (by rw [← z]; exact hi)
        omega, h.2⟩
structure Low (os : List (List Int)) (ps : List Int) (n : Nat) (D : Dn) : Prop where
  fr : ∀ c x, lkN D c = some x → ∃ ks ∈ subs n, orN os ks 0 = c ∧ paid ps ks = x
  all : ∀ ks ∈ subs n, ∃ y, y ≤ paid ps ks ∧ lkN D (orN os ks 0) = some y
  nd : (ksN D).Nodup
  len : D.length ≤ 2 ^ n
theorem Low.zero (os : List (List Int)) (ps : List Int) : Low os ps 0 [(0, 0)] where
  fr := fun c x h => by
    have := lk_mem h
    rw [List.mem_singleton] at this
    cases this
    exact ⟨[], List.mem_singleton.mpr rfl, rfl, rfl⟩
  all := fun ks h => by
    rw [subs, List.mem_singleton] at h
    subst h
    exact ⟨0, Int.le_refl _, rfl⟩
  nd := by simp [ksN]
  len := by simp
/-! ### the lowest cost -/
structure IsLow (os : List (List Int)) (ps qs : List Int) (x : Int) : Prop where
  ex : ∃ ks, OffOk os.length ks ∧ costL os ps qs ks = x
  le : ∀ ks, OffOk os.length ks → x ≤ costL os ps qs ks
end Pb

set_option Elab.async false
set_option linter.all false
set_option maxRecDepth 100000
namespace Pb
open PySem PySem.Spec PyProof.Rows L2
end Pb

set_option Elab.async false
set_option linter.all false
set_option maxRecDepth 100000
namespace Pb
open PySem PySem.Spec PyProof.Rows L2
/-! ### the law's own lowest cost -/
end Pb

set_option Elab.async false
set_option linter.all false
set_option maxRecDepth 100000
namespace Pb
open PySem PySem.Spec PyProof.Rows L2
def offO (e : PyData) : List Int := match e with
  | .tuple ds => ds.map intOf
  | _ => []
theorem offO_D (o : List Int) : offO (offD o) = o := off_ints o
/-- the least of the costs of all choices -/
theorem IsLow.min {os : List (List Int)} {ps qs : List Int} {x y : Int} (h : IsLow os ps qs x) (hy : y ∈ (subs os.length).map (costL os ps qs)) (hl : ∀ z ∈ (subs os.length).map (costL os ps qs), y ≤ z) : y = x := by
  obtain ⟨ks, k1, rfl⟩ := List.mem_map.mp hy
  obtain ⟨ls, l1, l2⟩ := h.ex
  have a := h.le ks (subs_in k1).1
  have b := hl _ (List.mem_map.mpr ⟨ls, subs_all l1, rfl⟩)
  omega
theorem IsLow.bd {m : Nat} {os : List (List Int)} {ps qs : List Int} {x : Int} (t : Tb m os) (hp : ps.length = os.length) (hq : qs.length = m) (h1 : In0 (1000000000000 : Int) ps) (h2 : In0 (1000000000000 : Int) qs) (h : IsLow os ps qs x) : 0 ≤ x ∧ x ≤ 100000000000000 := by
  obtain ⟨ks, k1, rfl⟩ := h.ex
  exact cost_bd t hp hq h1 h2 k1.1 (by have := k1.len; have := t.len; omega)
end Pb

set_option Elab.async false
set_option linter.all false
set_option maxRecDepth 100000
namespace Pb
open PySem PySem.Spec PyProof.Rows L2
/-! ### one item of a row replaced, or left out -/
def wiL {α : Type} (ns : List α) (k : Nat) (x : α) : List α := ns.take k ++ [x] ++ ns.drop (k + 1)
section
variable {φ ψ χ : Rho → Option PyData} {ρ : Rho}
end
end Pb

set_option Elab.async false
set_option linter.all false
set_option maxRecDepth 100000
namespace Pb
open PySem PySem.Spec PyProof.Rows L2
/-! ### costs as functions of one amount -/
end Pb

set_option Elab.async false
set_option linter.all false
set_option maxRecDepth 100000
namespace Pb
open PySem PySem.Spec PyProof.Rows L2
/-! ### comparing data -/
/-! ### one offer less -/
/-- the lowest cost of a choice that covers a demand -/
structure IsCov (os : List (List Int)) (ps qs : List Int) (d : Nat) (l : Int) : Prop where
  ex : ∃ ks, OffOk os.length ks ∧ coveredB os ks (d : Int) = true ∧ costL os ps (wiL qs d 0) ks = l
  le : ∀ ks, OffOk os.length ks → coveredB os ks (d : Int) = true → l ≤ costL os ps (wiL qs d 0) ks
end Pb

set_option Elab.async false
set_option linter.all false
set_option maxRecDepth 100000
namespace Pb
open PySem PySem.Spec PyProof.Rows L2
section
variable {P : Program} {w : World} {K : PySem.W.Frag} {mg : Str → Option Value} {base : Heap}
def q__law_uncovered : List PyData → Option PyData := runF 3 1
  ((sRet (eL (lLc [1] (iR (eOp fIxT (eVar 0) (eInt 0))) (gN 1) (bTest (eOp fEq0 (eL (lLc [2] (iT (eOp fIxT (eVar 0) (eInt 1))) (gN 2) (bTest (eOp fIn (eVar 1) (eVar 2))) (eInt 1))) (eL (lLst aNil)))) (eVar 1)))))
def w__law_covered : Addr → List PyData → Int → (PyData → Int → Prop) → Prop := runW 5 2 fun d =>
  (twSeq (twP (sPar 2 3 (aCons (eCb Pb.q__law_uncovered (aCons (eVar 1) aNil)) (aCons (eOp fIxT (eVar 1) (eInt 1)) aNil))))
  (twSeq (twWhile 20 (bAnd (bTest (eOp fNe0 (eVar 2) (eL (lLst aNil)))) (bTest (eOp fLt (eCb fLen (aCons (eVar 3) aNil)) (eInt 10)))) (twSeq (twSet (gN 4) (wOp fAdd (wP (eInt 1)) (wDraw d 0 WNextW (wCons (wP (eCb fLen (aCons (eVar 2) aNil))) wNil))))
  (twSeq (twP (sSet (gN 3) (eOp fCat (eVar 3) (eTup (aCons (eCb fTupOf (aCons (eL (lSl (eVar 2) oNone (oSome (eVar 4)))) aNil)) aNil)))))
  (twP (sSet (gN 2) (eL (lSl (eVar 2) (oSome (eVar 4)) oNone)))))))
  (twP (sRet (eTup (aCons (eOp fIxT (eVar 1) (eInt 0)) (aCons (eVar 3) aNil)))))))
end
end Pb

set_option Elab.async false
set_option linter.all false
set_option maxRecDepth 100000
namespace Pb
open PySem PySem.Spec PyProof.Rows L2
theorem filter_any {α : Type} (l : List α) (b : α → Bool) : (l.filter b).isEmpty = !l.any b := by
  rw [Bool.eq_iff_iff, List.isEmpty_iff, List.filter_eq_nil_iff]
  simp
theorem upto_lt (m : Nat) : (upto m).Pairwise (· < ·) := by
  unfold upto
  refine List.Pairwise.map _ (fun a b h => ?_) (List.pairwise_lt_range (n := m))
  have : a < b := h
  show (a : Int) < (b : Int)
  omega
def uncB (os : List (List Int)) (i : Int) : Bool := !os.any fun o => decide (i ∈ o)
def uncL (m : Nat) (os : List (List Int)) : List Int := (upto m).filter (uncB os)
theorem unc_cov {os : List (List Int)} {i : Int} : uncB os i = true ↔ covL os i = [] := by
  unfold uncB
  rw [Bool.not_eq_true']
  constructor
  · intro h
    refine List.eq_nil_iff_forall_not_mem.mpr fun k hk => ?_
    obtain ⟨j, o, h1, h2, _⟩ := mem_covL.mp hk
    rw [List.any_eq_false] at h
    exact h o (List.mem_of_getElem? h1) (by simpa using h2)
  · intro h
    rw [List.any_eq_false]
    intro o ho z
    obtain ⟨j, hj⟩ := List.getElem?_of_mem ho
    have : (j : Int) ∈ covL os i := mem_covL.mpr ⟨j, o, hj, by simpa using z, rfl⟩
    rw [h] at this
    exact absurd this List.not_mem_nil
theorem q_unc {m : Nat} {os : List (List Int)} (t : Tb m os) : q__law_uncovered [tabD m os] = some (.list ((uncL m os).map PyData.int)) := by
  have m10 := t.m10
  have ol := t.len
  refine runF_of rfl (sRet_of (eL_of ?_))
  refine Pf.lLc_at PyData.int intOf (fun _ => rfl) (l := upto m) (uncB os) PyData.int ?_ (by rw [ints_len]; omega) fun i hi => ⟨_, rfl, ?_, fun _ => rfl⟩
  · rw [← rng_ints]
    exact iR_of (eOp_of (x := tabD m os) (y := .int 0) rfl rfl rfl) (by omega)
  · have k := Pf.lLc_at offD offO offO_D (vs := [2]) (it := iT (eOp fIxT (eVar 0) (eInt 1))) (τ := gN 2) (β := bTest (eOp fIn (eVar 1) (eVar 2))) (φ := eInt 1) (ρ := [.val (tabD m os), .val (.int i), .no]) (l := os) (fun o => decide (i ∈ o)) (fun _ => PyData.int 1) rfl (by omega) fun o _ => ⟨_, rfl, bTest_of (eOp_of rfl rfl (fIn_tup i o)), fun _ => rfl⟩
    refine bTest_of (eOp_of (y := .list []) (eL_of k) rfl ?_)
    show some (PyData.bool (((os.filter fun o => decide (i ∈ o)).map fun _ => PyData.int 1).isEmpty)) = _
    rw [List.isEmpty_map, filter_any]
    rfl
theorem unc_in {m : Nat} {os : List (List Int)} : (uncL m os).Pairwise (· < ·) ∧ (uncL m os).length ≤ m ∧ ∀ i ∈ uncL m os, (0 ≤ i ∧ i < (m : Int)) ∧ covL os i = [] := by
  refine ⟨(upto_lt m).filter _, ?_, fun i hi => ?_⟩
  · refine Nat.le_trans (List.length_filter_le _ _) ?_
    rw [ints_len]
    exact Nat.le_refl _
  · obtain ⟨h1, h2⟩ := List.mem_filter.mp hi
    exact ⟨mem_ints.mp h1, unc_cov.mp h2⟩
abbrev cT : Rho → Option Bool := bAnd (bTest (eOp fNe0 (eVar 2) (eL (lLst aNil)))) (bTest (eOp fLt (eCb fLen (aCons (eVar 3) aNil)) (eInt 10)))
abbrev cBd (d : Addr) : Rho → Int → (Res → Int → Prop) → Prop := (twSeq (twSet (gN 4) (wOp fAdd (wP (eInt 1)) (wDraw d 0 WNextW (wCons (wP (eCb fLen (aCons (eVar 2) aNil))) wNil))))
  (twSeq (twP (sSet (gN 3) (eOp fCat (eVar 3) (eTup (aCons (eCb fTupOf (aCons (eL (lSl (eVar 2) oNone (oSome (eVar 4)))) aNil)) aNil)))))
  (twP (sSet (gN 2) (eL (lSl (eVar 2) (oSome (eVar 4)) oNone))))))
abbrev rC (d : Addr) (m : Nat) (os : List (List Int)) (us : List Int) (os' : List (List Int)) (s4 : Sl) : Rho := [.deck d, .val (tabD m os), .val (.list (us.map PyData.int)), .val (.tuple (os'.map offD)), s4]
theorem cov_loop {d : Addr} {m : Nat} {os : List (List Int)} {P : Res → Int → Prop} {N : Int} (hN : N < 2 ^ 45) (h : ∀ (us : List Int) (os' : List (List Int)) (s4 : Sl) (n' : Int), Tb m os' → n' ≤ N → P (.nx (rC d m os us os' s4)) n') :
    ∀ (f : Nat) (us : List Int) (os' : List (List Int)) (s4 : Sl) (n : Int), us.length < f → us.length ≤ 100 → us.Pairwise (· < ·) → (∀ i ∈ us, 0 ≤ i ∧ i < (m : Int)) → Tb m os' → n + us.length ≤ N → whW cT (cBd d) f (rC d m os us os' s4) n P
  | 0, us, os', s4, n, hf, _, _, _, _, _ => absurd hf (Nat.not_lt_zero _)
  | f + 1, us, os', s4, n, hf, hu, hp, hr, t, hn => by
    have t1 : (bTest (eOp fNe0 (eVar 2) (eL (lLst aNil)))) (rC d m os us os' s4) = some (!(us.map PyData.int).isEmpty) := rfl
    have t2 : (bTest (eOp fLt (eCb fLen (aCons (eVar 3) aNil)) (eInt 10))) (rC d m os us os' s4) = some (decide ((os'.length : Int) < 10)) := bTest_of (eOp_of (eCb_of (aCons_of rfl rfl) (len_offs os')) rfl rfl)
    have tt := bAnd_of t1 t2
    rw [List.isEmpty_map] at tt
    refine ⟨_, tt, ?_⟩
    by_cases z : us ≠ [] ∧ os'.length < 10
    · have u0 : 0 < us.length := List.length_pos_iff.mpr z.1
      have e1 : us.isEmpty = false := by
        cases us with
        | nil => exact absurd rfl z.1
        | cons _ _ => rfl
      rw [e1, decide_eq_true (show (os'.length : Int) < 10 by omega), if_pos (show (!false && true) = true from rfl)]
      refine ⟨_, rfl, rfl, .int (us.length : Nat), ?_, (us.length : Nat), rfl, by omega, by omega, by omega, fun v n1 v0 v1 le1 => ⟨.int (1 + v), rfl, _, rfl, ?_⟩⟩
      · show some (PyData.int ((us.map PyData.int).length : Nat)) = _
        rw [List.length_map]
      obtain ⟨k, rfl⟩ : ∃ k : Nat, v = (k : Int) := ⟨v.toNat, by omega⟩
      have hk : k + 1 ≤ us.length := by omega
      have c1 : cutG (us.map PyData.int) none (some (1 + (k : Int))) = (us.take (k + 1)).map PyData.int := by
        rw [show 1 + (k : Int) = ((k + 1 : Nat) : Int) by omega, cutG_take (by rw [List.length_map]; exact hk), List.map_take]
      have c2 : cutG (us.map PyData.int) (some (1 + (k : Int))) none = (us.drop (k + 1)).map PyData.int := by
        rw [show 1 + (k : Int) = ((k + 1 : Nat) : Int) by omega, cutG_drop (by rw [List.length_map]; exact hk), List.map_drop]
      have tl := t.len
      have s3 : sSet (gN 3) (eOp fCat (eVar 3) (eTup (aCons (eCb fTupOf (aCons (eL (lSl (eVar 2) oNone (oSome (eVar 4)))) aNil)) aNil))) (rC d m os us os' (.val (.int (1 + (k : Int))))) = some (.nx (rC d m os us (os' ++ [us.take (k + 1)]) (.val (.int (1 + (k : Int)))))) := by
        have g1 : (eTup (aCons (eCb fTupOf (aCons (eL (lSl (eVar 2) oNone (oSome (eVar 4)))) aNil)) aNil)) (rC d m os us os' (.val (.int (1 + (k : Int))))) = some (.tuple [offD (us.take (k + 1))]) := by
          have := aCons_of (φ := eCb fTupOf (aCons (eL (lSl (eVar 2) oNone (oSome (eVar 4)))) aNil)) (ρ := rC d m os us os' (.val (.int (1 + (k : Int))))) (eCb_of (aCons_of (eL_of ((lSl_of (es := us.map PyData.int) (l := none) (h := some (1 + (k : Int))) rfl rfl rfl).trans (congrArg some c1))) rfl) rfl) (φs := aNil) rfl
          unfold eTup
          rw [this]
          rfl
        refine (sSet_of (eOp_of (x := .tuple (os'.map offD)) rfl g1 (show fCat _ _ = some (.tuple ((os' ++ [us.take (k + 1)]).map offD)) from ?_))).trans rfl
        show (if (os'.map offD).length + 1 ≤ 100000 then some (PyData.tuple (os'.map offD ++ [offD (us.take (k + 1))])) else none) = _
        rw [if_pos (by rw [List.length_map]; omega), List.map_append]
        rfl
      refine ⟨_, s3, ?_⟩
      refine ⟨.nx (rC d m os (us.drop (k + 1)) (os' ++ [us.take (k + 1)]) (.val (.int (1 + (k : Int))))), ?_, ?_⟩
      · exact sSet_of (eL_of ((lSl_of (es := us.map PyData.int) (l := some (1 + (k : Int))) (h := none) rfl rfl rfl).trans (congrArg some c2)))
      · refine cov_loop hN h f (us.drop (k + 1)) (os' ++ [us.take (k + 1)]) _ n1 (by rw [List.length_drop]; omega) (by rw [List.length_drop]; omega) (hp.sublist (List.drop_sublist _ _)) (fun i hi => hr i (List.mem_of_mem_drop hi)) ⟨t.m1, t.m10, by rw [List.length_append]; simp; omega, fun o ho => ?_⟩ (by rw [List.length_drop]; omega)
        rcases List.mem_append.mp ho with ho | ho
        · exact t.off o ho
        · simp only [List.mem_cons, List.not_mem_nil, or_false] at ho
          subst ho
          exact ⟨fun i hi => hr i (List.mem_of_mem_take hi), hp.sublist (List.take_sublist _ _)⟩
    · have e : (!us.isEmpty && decide ((os'.length : Int) < 10)) = false := by
        cases us with
        | nil => rfl
        | cons a l =>
          have : ¬ os'.length < 10 := fun w => z ⟨by simp, w⟩
          rw [decide_eq_false (by omega), Bool.and_false]
      rw [e, if_neg Bool.false_ne_true]
      exact h us os' s4 n t (by omega)
theorem covered {d : Addr} {m : Nat} {os : List (List Int)} (t : Tb m os) {n : Int} (hn : n < 2 ^ 40) {P : PyData → Int → Prop} (h : ∀ (os' : List (List Int)) (n' : Int), Tb m os' → n' ≤ n + 10 → P (tabD m os') n') : w__law_covered d [tabD m os] n P := by
  obtain ⟨up, ul, ur'⟩ := unc_in (m := m) (os := os)
  have hu := q_unc t
  have m10 := t.m10
  have ur : ∀ i ∈ uncL m os, 0 ≤ i ∧ i < (m : Int) := fun i hi => (ur' i hi).1
  generalize uncL m os = us at hu up ul ur
  refine ⟨rfl, .nx (rC d m os us os .no), ?_, ?_⟩
  · show sPar 2 3 (aCons (eCb q__law_uncovered (aCons (eVar 1) aNil)) (aCons (eOp fIxT (eVar 1) (eInt 1)) aNil)) [.deck d, .val (tabD m os), .no, .no, .no] = _
    unfold sPar
    rw [aCons_of (eCb_of (aCons_of rfl rfl) hu) (aCons_of (x := .tuple (os.map offD)) rfl rfl)]
    rfl
  · refine cov_loop (N := n + 10) (by omega) (fun us' os' s4 n' t' le => ?_) 20 us os .no n (by omega) (by omega) up ur t (by omega)
    exact ⟨_, rfl, h os' n' t' le⟩
end Pb

set_option Elab.async false
set_option linter.all false
set_option maxRecDepth 100000
namespace Pb
open PySem PySem.Spec PyProof.Rows L2
/-! ### covers -/
def cvB (m : Nat) (os : List (List Int)) (ks : List Int) : Bool := (upto m).all (coveredB os ks)
theorem cv_iff {m : Nat} {os : List (List Int)} {ks : List Int} : cvB m os ks = true ↔ ∀ d : Nat, d < m → coveredB os ks (d : Int) = true := by
  unfold cvB
  rw [List.all_eq_true]
  constructor
  · intro h d hd
    exact h (d : Int) (mem_ints.mpr ⟨by omega, by omega⟩)
  · intro h i hi
    have := mem_ints.mp hi
    have := h i.toNat (by omega)
    rw [show ((i.toNat : Nat) : Int) = i by omega] at this
    exact this
theorem cov_out {m : Nat} {os : List (List Int)} {ks : List Int} (h : ∀ o ∈ os, OffOk m o) (ok : OffOk os.length ks) {d : Nat} (hd : m ≤ d) : coveredB os ks (d : Int) = false := by
  unfold coveredB
  rw [List.any_eq_false]
  intro k hk z
  have := (h _ (offAt_mem (ok.1 k hk))).1 (d : Int) (by simpa using z)
  omega
theorem or_full {m : Nat} {os : List (List Int)} {ks : List Int} (h : ∀ o ∈ os, OffOk m o) (ok : OffOk os.length ks) : orN os ks 0 = 2 ^ m - 1 ↔ cvB m os ks = true := by
  rw [cv_iff]
  constructor
  · intro e d hd
    have := orN_bit h ks 0 d ok.1
    rw [e, Nat.testBit_two_pow_sub_one, decide_eq_true hd, Nat.zero_testBit, Bool.false_or] at this
    exact this.symm
  · intro hc
    refine Nat.eq_of_testBit_eq fun j => ?_
    rw [orN_bit h ks 0 j ok.1, Nat.testBit_two_pow_sub_one, Nat.zero_testBit, Bool.false_or]
    by_cases hj : j < m
    · rw [decide_eq_true hj, hc j hj]
    · rw [decide_eq_false hj, cov_out h ok (by omega)]
/-- the lowest sum of prices of a cover -/
structure IsCC (m : Nat) (os : List (List Int)) (ps : List Int) (x : Int) : Prop where
  ex : ∃ ks, OffOk os.length ks ∧ cvB m os ks = true ∧ paid ps ks = x
  le : ∀ ks, OffOk os.length ks → cvB m os ks = true → x ≤ paid ps ks
theorem all_ok (N : Nat) : OffOk N (upto N) := ⟨fun i hi => mem_ints.mp hi, ints_strict N⟩
theorem all_cov {m : Nat} {os : List (List Int)} (hu : uncL m os = []) : cvB m os (upto os.length) = true := by
  rw [cv_iff]
  intro d hd
  have nc : covL os (d : Int) ≠ [] := fun z => by
    have : (d : Int) ∈ uncL m os := List.mem_filter.mpr ⟨mem_ints.mpr ⟨by omega, by omega⟩, unc_cov.mpr z⟩
    rw [hu] at this
    exact absurd this List.not_mem_nil
  obtain ⟨k, hk⟩ := List.exists_mem_of_ne_nil _ nc
  obtain ⟨j, o, h1, h2, rfl⟩ := mem_covL.mp hk
  have hj := (List.getElem?_eq_some_iff.mp h1).1
  unfold coveredB
  rw [List.any_eq_true]
  refine ⟨(j : Int), mem_ints.mpr ⟨by omega, by omega⟩, ?_⟩
  have := offAt_get (os := os) (k := (j : Int)) ⟨by omega, by omega⟩
  rw [Int.toNat_natCast, h1] at this
  rw [← Option.some.inj this]
  simpa using h2
theorem Low.cc {m : Nat} {os : List (List Int)} {ps : List Int} {D : Dn} (ho : ∀ o ∈ os, OffOk m o) (hu : uncL m os = []) (h : Low os ps os.length D) : ∃ x, lkN D (2 ^ m - 1) = some x ∧ IsCC m os ps x := by
  have ok := all_ok os.length
  obtain ⟨y, h1, h2⟩ := h.all _ (subs_all ok)
  rw [(or_full ho ok).mpr (all_cov hu)] at h2
  refine ⟨y, h2, ?_, fun ks k1 k2 => ?_⟩
  · obtain ⟨ks, k1, k2, k3⟩ := h.fr _ _ h2
    have ok := (subs_in k1).1
    exact ⟨ks, ok, (or_full ho ok).mp k2, k3⟩
  · obtain ⟨z, z1, z2⟩ := h.all ks (subs_all k1)
    rw [(or_full ho k1).mpr k2, h2] at z2
    cases z2
    exact z1
/-! ### the law's own lowest sum -/
/-! ### the program -/
end Pb

set_option Elab.async false
set_option linter.all false
set_option maxRecDepth 100000
namespace Pb
open PySem PySem.Spec PyProof.Rows L2
section
variable {P : Program} {w : World} {K : PySem.W.Frag} {mg : Str → Option Value} {base : Heap}
end
end Pb

set_option Elab.async false
set_option linter.all false
set_option maxRecDepth 100000
namespace Pb
open PySem PySem.Spec PyProof.Rows L2
/-! ### simple in what is left, by masks -/
/-! ### the members of a mask -/
def bitW (m r : Nat) : List Nat := (List.range m).filter r.testBit
end Pb

set_option Elab.async false
set_option linter.all false
set_option maxRecDepth 100000
namespace Pb
open PySem PySem.Spec PyProof.Rows L2
/-! ### the numbers of nested orders by masks -/
theorem atI_last {xs : List PyData} {x : PyData} (h : xs.getLast? = some x) : fIxL (.list xs) (.int (-1)) = some x := by
  show atI xs (-1) = some x
  have ne : xs ≠ [] := fun z => by
    rw [z] at h
    cases h
  have pos : 0 < xs.length := List.length_pos_iff.mpr ne
  unfold atI ixN
  rw [if_neg (by omega), if_pos (by omega)]
  show xs[(-1 + (xs.length : Int)).toNat]? = some x
  rw [show (-1 + (xs.length : Int)).toNat = xs.length - 1 by omega, ← List.getLast?_eq_getElem?]
  exact h
end Pb

set_option Elab.async false
set_option linter.all false
set_option maxRecDepth 100000
namespace Pb
open PySem PySem.Spec PyProof.Rows L2
/-! ### one demand less in a mask -/
theorem nodup_lt : ∀ (n : Nat) (l : List Nat), l.Nodup → (∀ x ∈ l, x < n) → l.length ≤ n
  | 0, l, _, h => by
    cases l with
    | nil => exact Nat.le_refl _
    | cons x l => exact absurd (h x List.mem_cons_self) (Nat.not_lt_zero _)
  | n + 1, l, nd, h => by
    have := nodup_lt n (l.erase n) (nd.erase n) fun x hx => by
      have := (nd.mem_erase_iff.mp hx)
      have := h x this.2
      omega
    by_cases hm : n ∈ l
    · rw [List.length_erase_of_mem hm] at this
      omega
    · rw [List.erase_of_not_mem hm] at this
      omega
/-! ### what a dict of ways weighs -/
/-! ### the ways of the law -/
structure Okk (m k : Nat) (W : Dn) : Prop where
  nd : (ksN W).Nodup
  ok : ∀ c ∈ ksN W, c < 2 ^ m ∧ (bitW m (2 ^ m - 1 - c)).length + k = m
theorem Okk.len {m k : Nat} {W : Dn} (h : Okk m k W) : W.length ≤ 2 ^ m := by
  have := nodup_lt (2 ^ m) (ksN W) h.nd fun x hx => (h.ok x hx).1
  unfold ksN at this
  rw [List.length_map] at this
  exact this
theorem Okk.put {m k : Nat} {W : Dn} (h : Okk m k W) {c : Nat} (v : Int) (hc : c < 2 ^ m ∧ (bitW m (2 ^ m - 1 - c)).length + k = m) : Okk m k (ptN W c v) := ⟨nd_pt h.nd _ _, fun a ha => by
  rw [ks_pt] at ha
  split at ha
  · exact h.ok a ha
  · rcases List.mem_append.mp ha with ha | ha
    · exact h.ok a ha
    · rw [List.mem_singleton] at ha
      rw [ha]
      exact hc⟩
end Pb

set_option Elab.async false
set_option linter.all false
set_option maxRecDepth 100000
namespace Pl
open PySem PySem.Spec PyProof.Rows L2 Pb
section
variable {P : Program} {w : World} {K : PySem.W.Frag} {mg : Str → Option Value} {base : Heap}
def q__law_due : List PyData → Option PyData := runF 7 3
  ((sSeq (sIf (bNot (bTest (eCb Pb.q__law_whole (aCons (eVar 2) aNil)))) (sRet (eL (lLst (aCons (eStr "NoPosition") (aCons (eVar 2) aNil))))) sNil)
  (sSeq (sIf (bTest (eOp fEq0 (eL (lLc [3, 4, 5] (iT (eOp fIxT (eVar 0) (eInt 0))) (gT (gC (gN 3) (gC (gN 4) (gC (gN 5) g0)))) (bTest (eChain fLe fLe (eVar 3) (eVar 2) (eVar 4))) (eInt 1))) (eL (lLst aNil)))) (sRet (eL (lLst (aCons (eStr "NoPosition") (aCons (eVar 2) aNil))))) sNil)
  (sRet (eL (lLst (aCons (eStr "returned") (aCons (eOp fIxL (eL (lLc [3, 4, 6] (iT (eVar 1)) (gT (gC (gN 3) (gC (gN 4) (gC (gN 6) g0)))) (bTest (eChain fLe fLe (eVar 3) (eVar 2) (eVar 4))) (eVar 6))) (eInt 0)) aNil))))))))
end
end Pl

set_option Elab.async false
set_option linter.all false
set_option maxRecDepth 100000
namespace Pb
open PySem PySem.Spec PyProof.Rows L2
/-! ### payments along orders of wider tables -/
structure Tw (m : Nat) (os : List (List Int)) : Prop where
  m1 : 1 ≤ m
  m200 : m ≤ 200
  len : os.length ≤ 10
  off : ∀ o ∈ os, OffOk m o
end Pb

set_option Elab.async false
set_option linter.all false
set_option maxRecDepth 100000
namespace Pl
open PySem PySem.Spec PyProof.Rows L2 Pb Pf
/-! ### segments -/
structure SegOk (bs : List T3) (t : T3) : Prop where
  sp : Spn t
  dem : bs.any (Pf.inB t.1) = true
end Pl

set_option Elab.async false
set_option linter.all false
set_option maxRecDepth 100000
namespace Pl
open PySem PySem.Spec PyProof.Rows L2 Pb Pf
end Pl

set_option Elab.async false
set_option linter.all false
set_option maxRecDepth 100000
namespace Pl
open PySem PySem.Spec PyProof.Rows L2 Pb Pf
/-! ### what the segments pay -/
/-! ### rows -/
structure RowOk (t : T3) : Prop where
  le : t.1 ≤ t.2.1
  p0 : 0 ≤ t.2.2
  p1 : t.2.2 ≤ 1000000000000
end Pl

set_option Elab.async false
set_option linter.all false
set_option maxRecDepth 100000
namespace Pl
open PySem PySem.Spec PyProof.Rows L2 Pb Pf
/-! ### joined rows -/
theorem nil_snoc {α : Type} (l : List α) : l = [] ∨ ∃ (a : List α) (u : α), l = a ++ [u] := by
  cases l with
  | nil => exact .inl rfl
  | cons x l => exact .inr ⟨(x :: l).dropLast, (x :: l).getLast (by simp), (List.dropLast_concat_getLast (by simp)).symm⟩
/-! ### the rows of a line -/
end Pl

set_option Elab.async false
set_option linter.all false
set_option maxRecDepth 100000
namespace Pb
open PySem PySem.Spec PyProof.Rows L2
/-! ### what the payments along an order keep -/
def sIn (os : List (List Int)) (fs pre : List Int) (k : Nat) : Int := (pre.map fun e => if e ∈ os.getD k [] then fs.getD e.toNat 0 else 0).sum
theorem cov_mem {os : List (List Int)} {d : Int} {j : Nat} (hj : j < os.length) : (j : Int) ∈ covL os d ↔ d ∈ os.getD j [] := by
  rw [mem_covL, List.getD_eq_getElem?_getD, List.getElem?_eq_getElem hj]
  constructor
  · rintro ⟨i, o, h1, h2, h3⟩
    have : i = j := by omega
    subst this
    rw [List.getElem?_eq_getElem hj] at h1
    cases h1
    exact h2
  · intro h
    exact ⟨j, _, List.getElem?_eq_getElem hj, h, rfl⟩
structure PInv (M : Int) (os : List (List Int)) (ps qs pre ls fs : List Int) : Prop where
  ll : ls.length = os.length
  fl : fs.length = qs.length
  in0 : In0 M ls
  rg : ∀ e ∈ pre, 0 ≤ e ∧ e < (qs.length : Int)
  sum : ∀ k : Nat, k < os.length → ls.getD k 0 = ps.getD k 0 - sIn os fs pre k
  bd : ∀ e ∈ pre, 0 ≤ fs.getD e.toNat 0 ∧ fs.getD e.toNat 0 ≤ qs.getD e.toNat 0
  tg : ∀ a e b, pre = a ++ e :: b → fs.getD e.toNat 0 = qs.getD e.toNat 0 ∨ ∃ k : Nat, k < os.length ∧ e ∈ os.getD k [] ∧ ls.getD k 0 = 0 ∧ ∀ e' ∈ b, e' ∈ os.getD k [] → fs.getD e'.toNat 0 = 0
theorem set_ne {l : List Int} {i j : Nat} {x : Int} (h : i ≠ j) : (l.set i x).getD j 0 = l.getD j 0 := by
  rw [List.getD_eq_getElem?_getD, List.getElem?_set_ne h, ← List.getD_eq_getElem?_getD]
theorem PInv.step {M : Int} {os : List (List Int)} {ps qs pre ls fs : List Int} {d : Int} (h2 : In0 M qs) (h : PInv M os ps qs pre ls fs) (hd : 0 ≤ d ∧ d < (qs.length : Int)) (nd : d ∉ pre) : PInv M os ps qs (pre ++ [d]) (subAll (payX os qs ls d) ls (covL os d)) (fs.set d.toNat (payX os qs ls d)) := by
  have x0 := payX_in h.ll h.in0 h2 hd
  have xl := payX_le (os := os) (qs := qs) (ls := ls) (d := d)
  have xa := payX_at (os := os) (qs := qs) (ls := ls) (d := d)
  have li := left_in h.ll h.in0 h2 hd
  generalize payX os qs ls d = x at x0 xl xa li
  have ck : ∀ k ∈ covL os d, 0 ≤ k ∧ k < (ls.length : Int) := fun k hk => by
    have := cov_ran k hk
    have := h.ll
    omega
  have lg : ∀ j : Nat, j < os.length → (subAll x ls (covL os d)).getD j 0 = if d ∈ os.getD j [] then ls.getD j 0 - x else ls.getD j 0 := fun j hj => by
    rw [subAll_get (cov_nodup os d) ck j]
    by_cases hm : d ∈ os.getD j []
    · rw [if_pos hm, if_pos ((cov_mem hj).mpr hm)]
    · rw [if_neg hm, if_neg fun z => hm ((cov_mem hj).mp z)]
  have fo : ∀ e ∈ pre, (fs.set d.toNat x).getD e.toNat 0 = fs.getD e.toNat 0 := fun e he => set_ne fun z => by
    have := h.rg e he
    exact nd (by rw [show d = e by omega]; exact he)
  have fd : (fs.set d.toNat x).getD d.toNat 0 = x := set_getD (by have := h.fl; omega)
  refine ⟨by rw [subAll_len]; exact h.ll, by rw [List.length_set]; exact h.fl, li, fun e he => ?_, fun k hk => ?_, fun e he => ?_, fun a e b hab => ?_⟩
  · rcases List.mem_append.mp he with he | he
    · exact h.rg e he
    · rw [List.mem_singleton] at he
      rw [he]
      exact hd
  · have so : sIn os (fs.set d.toNat x) pre k = sIn os fs pre k := by
      unfold sIn
      congr 1
      exact List.map_congr_left fun e he => by rw [fo e he]
    have e1 : sIn os (fs.set d.toNat x) (pre ++ [d]) k = sIn os fs pre k + if d ∈ os.getD k [] then x else 0 := by
      rw [← so]
      unfold sIn
      rw [List.map_append, List.sum_append]
      simp only [List.map_cons, List.map_nil, List.sum_cons, List.sum_nil, Int.add_zero, fd]
    rw [lg k hk, e1, h.sum k hk]
    split <;> omega
  · rcases List.mem_append.mp he with he | he
    · rw [fo e he]
      exact h.bd e he
    · rw [List.mem_singleton] at he
      rw [he, fd]
      exact ⟨x0.1, xl.1⟩
  · rcases Pl.nil_snoc b with rfl | ⟨b', u, rfl⟩
    · have := List.append_inj' hab (by simp)
      have ed : e = d := by have := this.2; simp at this; exact this.symm
      subst ed
      rw [fd]
      rcases xa with xa | ⟨k, hk, xk⟩
      · exact .inl xa
      · obtain ⟨k0, k1⟩ := cov_ran k hk
        have hk' : ((k.toNat : Nat) : Int) = k := by omega
        have km : e ∈ os.getD k.toNat [] := (cov_mem (by omega)).mp (by rw [hk']; exact hk)
        exact .inr ⟨k.toNat, by omega, km, by rw [lg _ (by omega), if_pos km, xk]; omega, fun e' he' => absurd he' List.not_mem_nil⟩
    · have hab' : pre ++ [d] = (a ++ e :: b') ++ [u] := by rw [hab]; simp
      have := List.append_inj' hab' rfl
      have ed : u = d := by have := this.2; simp at this; exact this.symm
      subst ed
      have hp := this.1
      have ep : e ∈ pre := by rw [hp]; simp
      rw [fo e ep]
      rcases h.tg a e b' hp with t | ⟨k, k1, k2, k3, k4⟩
      · exact .inl t
      · refine .inr ⟨k, k1, k2, ?_, fun e' he' hm => ?_⟩
        · rw [lg k k1]
          split
          · rename_i hm
            have := xl.2 (k : Int) ((cov_mem k1).mpr hm)
            rw [Int.toNat_natCast] at this
            omega
          · exact k3
        · rcases List.mem_append.mp he' with he' | he'
          · rw [fo e' (by rw [hp]; simp [he'])]
            exact k4 e' he' hm
          · rw [List.mem_singleton] at he'
            subst he'
            rw [fd]
            have := xl.2 (k : Int) ((cov_mem k1).mpr hm)
            rw [Int.toNat_natCast] at this
            omega
theorem PInv.all {M : Int} {os : List (List Int)} {ps qs : List Int} (h2 : In0 M qs) : ∀ {post pre ls fs : List Int}, PInv M os ps qs pre ls fs → (∀ d ∈ post, 0 ≤ d ∧ d < (qs.length : Int)) → (pre ++ post).Nodup → PInv M os ps qs (pre ++ post) (payGo os qs post ls fs).1 (payGo os qs post ls fs).2
  | [], pre, ls, fs, h, _, _ => by rw [List.append_nil]; exact h
  | d :: post, pre, ls, fs, h, hs, nd => by
    have e : pre ++ d :: post = (pre ++ [d]) ++ post := by simp
    rw [e] at nd ⊢
    have nd' := (List.nodup_append.mp nd).1
    exact PInv.all h2 (h.step h2 (hs d List.mem_cons_self) fun z => (List.nodup_append.mp nd').2.2 d z d (by simp) rfl) (fun x hx => hs x (List.mem_cons_of_mem _ hx)) nd
end Pb

set_option Elab.async false
set_option linter.all false
set_option maxRecDepth 100000
namespace Pb
open PySem PySem.Spec PyProof.Rows L2
/-! ### sums over an order -/
theorem sum_perm {l r : List Int} (h : l.Perm r) : l.sum = r.sum := by
  induction h with
  | nil => rfl
  | cons x _ ih => rw [List.sum_cons, List.sum_cons, ih]
  | swap x y l => rw [List.sum_cons, List.sum_cons, List.sum_cons, List.sum_cons]; omega
  | trans _ _ h1 h2 => exact h1.trans h2
theorem sum_le {f g : Int → Int} : ∀ {l : List Int}, (∀ e ∈ l, f e ≤ g e) → (l.map f).sum ≤ (l.map g).sum
  | [], _ => Int.le_refl _
  | e :: l, h => by
    rw [List.map_cons, List.map_cons, List.sum_cons, List.sum_cons]
    have := h e List.mem_cons_self
    have := sum_le (l := l) fun x hx => h x (List.mem_cons_of_mem _ hx)
    omega
theorem sum_add {f g : Int → Int} : ∀ l : List Int, (l.map fun e => f e + g e).sum = (l.map f).sum + (l.map g).sum
  | [] => rfl
  | e :: l => by
    rw [List.map_cons, List.map_cons, List.map_cons, List.sum_cons, List.sum_cons, List.sum_cons, sum_add l]
    omega
theorem ord_perm {m : Nat} {so : List Int} (h : OrdP m so) : so.Perm (upto m) := by
  have nu : (upto m).Nodup := (ints_strict m).imp fun h => by omega
  rw [List.perm_ext_iff_of_nodup h.2.1 nu]
  intro a
  constructor
  · intro ha
    exact mem_ints.mpr (h.1 a ha)
  · intro ha
    exact sub_full h.2.1 (by rw [ints_len, h.2.2]; exact Nat.le_refl _) (fun i hi => mem_ints.mpr (h.1 i hi)) a ha
theorem pen_upto (b : Int → Bool) : ∀ (qs : List Int) (n : Nat), (((qs.zipIdx n).filter fun p => !b ((p.2 : Nat) : Int)).map Prod.fst).sum = ((List.range qs.length).map fun i => if b ((n + i : Nat) : Int) = true then 0 else qs.getD i 0).sum
  | [], n => rfl
  | q :: qs, n => by
    have ih := pen_upto b qs (n + 1)
    rw [List.zipIdx_cons, List.length_cons, List.range_succ_eq_map, List.map_cons, List.sum_cons, List.map_map]
    have e : ((fun i => if b ((n + i : Nat) : Int) = true then 0 else (q :: qs).getD i 0) ∘ Nat.succ) = fun i => if b ((n + 1 + i : Nat) : Int) = true then 0 else qs.getD i 0 := by
      funext i
      show (if b ((n + (i + 1) : Nat) : Int) = true then 0 else (q :: qs).getD (i + 1) 0) = _
      rw [show n + (i + 1) = n + 1 + i by omega, List.getD_cons_succ]
    rw [e, ← ih, List.filter_cons]
    show _ = (if b ((n + 0 : Nat) : Int) = true then 0 else (q :: qs).getD 0 0) + _
    rw [Nat.add_zero, List.getD_cons_zero]
    cases h : b ((n : Nat) : Int) with
    | true => simp [h]
    | false => simp [h]
theorem pen_ord {m : Nat} {qs so : List Int} {b : Int → Bool} (ho : OrdP m so) (hq : qs.length = m) : penL qs b = (so.map fun e => if b e = true then 0 else qs.getD e.toNat 0).sum := by
  unfold penL
  rw [pen_upto b qs 0, sum_perm ((ord_perm ho).map _), hq]
  unfold upto
  rw [List.map_map]
  congr 1
  refine List.map_congr_left fun i _ => ?_
  show _ = if b ((i : Nat) : Int) = true then 0 else qs.getD ((i : Nat) : Int).toNat 0
  rw [Int.toNat_natCast, Nat.zero_add]
theorem total_ord {m : Nat} {fs so : List Int} (ho : OrdP m so) (hf : fs.length = m) : fs.sum = (so.map fun e => fs.getD e.toNat 0).sum := by
  rw [sum_perm ((ord_perm ho).map _)]
  unfold upto
  rw [List.map_map]
  congr 1
  refine List.ext_getElem? fun k => ?_
  rw [List.getElem?_map]
  by_cases h : k < m
  · rw [List.getElem?_range h, List.getElem?_eq_getElem (by omega : k < fs.length)]
    show _ = some (fs.getD ((k : Nat) : Int).toNat 0)
    rw [Int.toNat_natCast, List.getD_eq_getElem?_getD, List.getElem?_eq_getElem (by omega : k < fs.length)]
    rfl
  · rw [List.getElem?_eq_none (by omega), List.getElem?_eq_none (by rw [List.length_range]; omega)]
    rfl
/-! ### what is known of the payments -/
structure PayF (os : List (List Int)) (ps qs so fs : List Int) : Prop where
  fl : fs.length = qs.length
  bd : ∀ e ∈ so, 0 ≤ fs.getD e.toNat 0 ∧ fs.getD e.toNat 0 ≤ qs.getD e.toNat 0
  le : ∀ k : Nat, k < os.length → sIn os fs so k ≤ ps.getD k 0
  tg : ∀ a e b, so = a ++ e :: b → fs.getD e.toNat 0 = qs.getD e.toNat 0 ∨ ∃ k : Nat, k < os.length ∧ e ∈ os.getD k [] ∧ sIn os fs so k = ps.getD k 0 ∧ ∀ e' ∈ b, e' ∈ os.getD k [] → fs.getD e'.toNat 0 = 0
theorem swap_sum (F : Int → Int → Int) : ∀ (ks so : List Int), (so.map fun e => (ks.map fun k => F k e).sum).sum = (ks.map fun k => (so.map fun e => F k e).sum).sum
  | [], so => by
    induction so with
    | nil => rfl
    | cons e so ih => rw [List.map_cons, List.sum_cons, ih]; rfl
  | k :: ks, so => by
    rw [List.map_cons, List.sum_cons, ← swap_sum F ks so, ← sum_add]
    rfl
/-- no choice costs less than what is paid -/
theorem weak {m : Nat} {os : List (List Int)} {ps qs so fs ks : List Int} (hq : qs.length = m) (ho : OrdP m so) (h : PayF os ps qs so fs) (hk : OffOk os.length ks) : fs.sum ≤ costL os ps qs ks := by
  unfold costL
  rw [pen_ord ho hq, total_ord ho (h.fl.trans hq)]
  have e1 : (so.map fun e => fs.getD e.toNat 0).sum ≤ (so.map fun e => (ks.map fun k => if e ∈ os.getD k.toNat [] then fs.getD e.toNat 0 else 0).sum + if coveredB os ks e = true then 0 else qs.getD e.toNat 0).sum := sum_le fun e he => by
    have b := h.bd e he
    have nn : ∀ l : List Int, 0 ≤ (l.map fun k => if e ∈ os.getD k.toNat [] then fs.getD e.toNat 0 else 0).sum := by
      intro l
      induction l with
      | nil => exact Int.le_refl _
      | cons k l ih =>
        rw [List.map_cons, List.sum_cons]
        split <;> omega
    cases hc : coveredB os ks e with
    | false =>
      rw [if_neg Bool.false_ne_true]
      have := nn ks
      omega
    | true =>
      rw [if_pos rfl, Int.add_zero]
      unfold coveredB at hc
      obtain ⟨k, k1, k2⟩ := List.any_eq_true.mp hc
      have k2' : e ∈ os.getD k.toNat [] := of_decide_eq_true k2
      obtain ⟨a, c, rfl⟩ := List.append_of_mem k1
      rw [List.map_append, List.sum_append, List.map_cons, List.sum_cons, if_pos k2']
      have := nn a
      have := nn c
      omega
  refine Int.le_trans e1 ?_
  rw [sum_add, swap_sum fun k e => if e ∈ os.getD k.toNat [] then fs.getD e.toNat 0 else 0]
  have e2 : (ks.map fun k => (so.map fun e => if e ∈ os.getD k.toNat [] then fs.getD e.toNat 0 else 0).sum).sum ≤ (ks.map fun k => ps.getD k.toNat 0).sum := sum_le fun k hk' => by
    have r := hk.1 k hk'
    exact h.le k.toNat (by omega)
  unfold paid
  omega
end Pb

set_option linter.all false
namespace BK
open Classical
/-! ### a family of sets without rings: each set of demands has a simple one (Brouwer and Kolen) -/
/-- what a way that starts in a, not in b, reaches by sets without d, outside of a -/
inductive Reach (E : List (List Int)) (d : Int) (a b : List Int) : Int → Prop
  | start {p : Int} : p ∈ a → p ∉ b → Reach E d a b p
  | step {p q : Int} {l : List Int} : Reach E d a b p → l ∈ E → d ∉ l → p ∈ l → q ∈ l → q ∉ a → Reach E d a b q
def NoWay (E : List (List Int)) : Prop := ∀ (i j : Nat) (a b : List Int), i < j → E[i]? = some a → E[j]? = some b → ∀ d, d ∈ a → d ∈ b → ∀ q, Reach E d a b q → q ∉ b
/-- in a set of demands -/
def SimpleIn (E : List (List Int)) (V : List Int) (x : Int) : Prop := ∀ a ∈ E, ∀ b ∈ E, x ∈ a → x ∈ b → (∀ y ∈ V, y ∈ a → y ∈ b) ∨ (∀ y ∈ V, y ∈ b → y ∈ a)
theorem exMax {α : Type} (f : α → Nat) (p : α → Prop) : ∀ (L : List α), (∃ x ∈ L, p x) → ∃ x ∈ L, p x ∧ ∀ y ∈ L, p y → f y ≤ f x
  | [], ⟨x, h, _⟩ => by cases h
  | x :: L, h => by
    by_cases k : ∃ y ∈ L, p y
    · obtain ⟨y, hy, py, my⟩ := exMax f p L k
      by_cases c : p x ∧ f y < f x
      · exact ⟨x, List.mem_cons_self, c.1, fun z hz pz => by
          rcases List.mem_cons.mp hz with rfl | hz
          · exact Nat.le_refl _
          · exact Nat.le_trans (my z hz pz) (Nat.le_of_lt c.2)⟩
      · refine ⟨y, List.mem_cons_of_mem _ hy, py, fun z hz pz => ?_⟩
        rcases List.mem_cons.mp hz with rfl | hz
        · exact Nat.le_of_not_lt fun q => c ⟨pz, q⟩
        · exact my z hz pz
    · obtain ⟨z, hz, pz⟩ := h
      rcases List.mem_cons.mp hz with rfl | hz
      · exact ⟨z, List.mem_cons_self, pz, fun y hy py => by
          rcases List.mem_cons.mp hy with rfl | hy
          · exact Nat.le_refl _
          · exact absurd ⟨y, hy, py⟩ k⟩
      · exact absurd ⟨z, hz, pz⟩ k
noncomputable def kp (V : List Int) (p : Int → Prop) : List Int := V.filter fun v => decide (p v)
noncomputable def cnt (V : List Int) (p : Int → Prop) : Nat := (kp V p).length
theorem mem_kp {V : List Int} {p : Int → Prop} {x : Int} : x ∈ kp V p ↔ x ∈ V ∧ p x := by
  unfold kp
  rw [List.mem_filter, decide_eq_true_iff]
theorem cnt_le {V : List Int} {p q : Int → Prop} (h : ∀ v ∈ V, p v → q v) : cnt V p ≤ cnt V q := by
  unfold cnt kp
  induction V with
  | nil => exact Nat.le_refl _
  | cons v V ih =>
    have ih' := ih fun u hu => h u (List.mem_cons_of_mem _ hu)
    have hv := h v List.mem_cons_self
    by_cases c : p v
    · rw [List.filter_cons_of_pos (by simpa using c), List.filter_cons_of_pos (by simpa using hv c), List.length_cons, List.length_cons]
      omega
    · rw [List.filter_cons_of_neg (by simpa using c)]
      by_cases e : q v
      · rw [List.filter_cons_of_pos (by simpa using e), List.length_cons]
        omega
      · rw [List.filter_cons_of_neg (by simpa using e)]
        exact ih'
theorem cnt_lt {V : List Int} {p q : Int → Prop} (h : ∀ v ∈ V, p v → q v) {x : Int} (hx : x ∈ V) (nx : ¬ p x) (qx : q x) : cnt V p < cnt V q := by
  unfold cnt kp
  induction V with
  | nil => cases hx
  | cons v V ih =>
    have hv := h v List.mem_cons_self
    have le : (V.filter fun v => decide (p v)).length ≤ (V.filter fun v => decide (q v)).length := cnt_le fun u hu => h u (List.mem_cons_of_mem _ hu)
    rcases List.mem_cons.mp hx with rfl | hx
    · rw [List.filter_cons_of_neg (by simpa using nx), List.filter_cons_of_pos (by simpa using qx), List.length_cons]
      omega
    · have ih' := ih (fun u hu => h u (List.mem_cons_of_mem _ hu)) hx
      by_cases c : p v
      · rw [List.filter_cons_of_pos (by simpa using c), List.filter_cons_of_pos (by simpa using hv c), List.length_cons, List.length_cons]
        omega
      · rw [List.filter_cons_of_neg (by simpa using c)]
        by_cases e : q v
        · rw [List.filter_cons_of_pos (by simpa using e), List.length_cons]
          omega
        · rw [List.filter_cons_of_neg (by simpa using e)]
          exact ih'
section
variable {E : List (List Int)} {V : List Int} {e : List Int} {t0 : Int}
/-- a set that misses a demand -/
def Pr (E : List (List Int)) (V : List Int) (l : List Int) : Prop := l ∈ E ∧ ∃ y ∈ V, y ∉ l
inductive Comp (E : List (List Int)) (V : List Int) (e : List Int) (t0 : Int) : Int → Prop
  | base : Comp E V e t0 t0
  | step {t u : Int} {l : List Int} : Comp E V e t0 t → Pr E V l → t ∈ l → u ∈ l → u ∈ V → u ∉ e → Comp E V e t0 u
theorem Comp.out (h0 : t0 ∈ V) (h1 : t0 ∉ e) {t : Int} (h : Comp E V e t0 t) : t ∈ V ∧ t ∉ e := by
  cases h with
  | base => exact ⟨h0, h1⟩
  | step _ _ _ _ h2 h3 => exact ⟨h2, h3⟩
/-- linked to the set f by sets whose part in e is one of f -/
inductive Lk (E : List (List Int)) (V : List Int) (e f : List Int) (t0 : Int) : Int → Prop
  | base {t : Int} : t ∈ f → Comp E V e t0 t → Lk E V e f t0 t
  | step {t u : Int} {l : List Int} : Lk E V e f t0 t → Pr E V l → (∀ y ∈ V, y ∈ e → y ∈ l → y ∈ f) → t ∈ l → u ∈ l → Comp E V e t0 u → Lk E V e f t0 u
theorem Lk.comp {f : List Int} {t : Int} (h : Lk E V e f t0 t) : Comp E V e t0 t := by
  cases h with
  | base _ h => exact h
  | step _ _ _ _ _ h => exact h
/-- a chain from t to m by sets without z, outside of e -/
inductive Ch (E : List (List Int)) (e : List Int) (z m : Int) : Int → Prop
  | base {t : Int} {l : List Int} : t ∉ e → l ∈ E → z ∉ l → t ∈ l → m ∈ l → Ch E e z m t
  | step {t u : Int} {l : List Int} : t ∉ e → l ∈ E → z ∉ l → t ∈ l → u ∈ l → Ch E e z m u → Ch E e z m t
theorem Ch.out {z m t : Int} (h : Ch E e z m t) : t ∉ e := by
  cases h with
  | base h => exact h
  | step h => exact h
theorem ch_reach {z m : Int} {g : List Int} (he : m ∈ e) (hg : m ∉ g) {t : Int} (h : Ch E e z m t) : Reach E z e g t := by
  induction h with
  | base h1 h2 h3 h4 h5 => exact .step (.start he hg) h2 h3 h5 h4 h1
  | step h1 h2 h3 h4 h5 _ ih => exact .step ih h2 h3 h5 h4 h1
theorem ch_reach2 {z m : Int} {g : List Int} (he : m ∈ e) (hg : m ∉ g) {t : Int} (h : Ch E e z m t) (r : Reach E z g e t) : Reach E z g e m := by
  induction h with
  | base h1 h2 h3 h4 h5 => exact .step r h2 h3 h4 h5 hg
  | @step t u l h1 h2 h3 h4 h5 h6 ih =>
    refine ih ?_
    by_cases c : u ∈ g
    · exact .start c h6.out
    · exact .step r h2 h3 h4 h5 c
theorem no_chain (nw : NoWay E) {g : List Int} (ge : g ∈ E) (ee : e ∈ E) {z m t : Int} (zg : z ∈ g) (ze : z ∈ e) (me : m ∈ e) (mg : m ∉ g) (tg : t ∈ g) (h : Ch E e z m t) : False := by
  obtain ⟨i, hi⟩ := List.mem_iff_getElem?.mp ge
  obtain ⟨j, hj⟩ := List.mem_iff_getElem?.mp ee
  have ne : i ≠ j := fun q => by
    rw [q, hj] at hi
    cases hi
    exact mg me
  rcases Nat.lt_or_gt_of_ne ne with lt | lt
  · exact nw i j g e lt hi hj z zg ze m (ch_reach2 me mg h (.start tg h.out)) me
  · exact nw j i e g lt hj hi z ze zg t (ch_reach me mg h) tg
theorem lk_chain {f : List Int} (h0 : t0 ∈ V) (h1 : t0 ∉ e) (fe : f ∈ E) {z m : Int} (zV : z ∈ V) (ze : z ∈ e) (zf : z ∉ f) (mf : m ∈ f) {t : Int} (h : Lk E V e f t0 t) : Ch E e z m t := by
  induction h with
  | base k1 k2 => exact .base (k2.out h0 h1).2 fe zf k1 mf
  | step k1 k2 k3 k4 k5 k6 ih => exact .step (k6.out h0 h1).2 k2.1 (fun q => zf (k3 z zV ze q)) k5 k4 ih
/-- the part in e of each set that meets the component is one of f -/
theorem traces (nw : NoWay E) (ee : e ∈ E) (h0 : t0 ∈ V) (h1 : t0 ∉ e) {f : List Int} (pf : Pr E V f) {tf : Int} (htf : tf ∈ f) (ctf : Comp E V e t0 tf)
    (mx : ∀ g, Pr E V g → (∃ t ∈ g, Comp E V e t0 t) → cnt V (fun y => y ∈ g ∧ y ∈ e) ≤ cnt V (fun y => y ∈ f ∧ y ∈ e))
    {g : List Int} (pg : Pr E V g) {x : Int} (xg : x ∈ g) (cx : Comp E V e t0 x) : ∀ y ∈ V, y ∈ e → y ∈ g → y ∈ f := by
  refine Classical.byContradiction fun bad => ?_
  have : ∃ g', Pr E V g' ∧ (∃ t ∈ g', Lk E V e f t0 t) ∧ ¬ ∀ y ∈ V, y ∈ e → y ∈ g' → y ∈ f := by
    refine Classical.byContradiction fun none => ?_
    have all : ∀ g', Pr E V g' → (∃ t ∈ g', Lk E V e f t0 t) → ∀ y ∈ V, y ∈ e → y ∈ g' → y ∈ f := fun g' p q => Classical.byContradiction fun w => none ⟨g', p, q, w⟩
    have iff : ∀ s, Comp E V e t0 s → (Lk E V e f t0 s ↔ Lk E V e f t0 t0) := fun s hs => by
      induction hs with
      | base => exact Iff.rfl
      | @step t u l k1 k2 k3 k4 k5 k6 ih =>
        have cu : Comp E V e t0 u := .step k1 k2 k3 k4 k5 k6
        exact ⟨fun w => ih.mp (.step w k2 (all l k2 ⟨u, k4, w⟩) k4 k3 k1), fun w => let w' := ih.mpr w; .step w' k2 (all l k2 ⟨t, k3, w'⟩) k3 k4 cu⟩
    exact bad (all g pg ⟨x, xg, (iff x cx).mpr ((iff tf ctf).mp (.base htf ctf))⟩)
  obtain ⟨g', pg', ⟨t, tg, lt⟩, nb⟩ := this
  have : ∃ z, z ∈ V ∧ z ∈ e ∧ z ∈ g' ∧ z ∉ f := Classical.byContradiction fun w => nb fun y y1 y2 y3 => Classical.byContradiction fun q => w ⟨y, y1, y2, y3, q⟩
  obtain ⟨z, z1, z2, z3, z4⟩ := this
  have : ∃ m, m ∈ V ∧ m ∈ e ∧ m ∈ f ∧ m ∉ g' := Classical.byContradiction fun w => by
    have le := mx g' pg' ⟨t, tg, lt.comp⟩
    have lt := cnt_lt (V := V) (p := fun y => y ∈ f ∧ y ∈ e) (q := fun y => y ∈ g' ∧ y ∈ e) (fun v v1 v2 => ⟨Classical.byContradiction fun q => w ⟨v, v1, v2.2, v2.1, q⟩, v2.2⟩) z1 (fun q => z4 q.1) ⟨z3, z2⟩
    omega
  obtain ⟨m, m1, m2, m3, m4⟩ := this
  exact no_chain nw pg'.1 ee z3 z2 m2 m4 tg (lk_chain h0 h1 pf.1 z1 z2 z4 m3 lt)
end
/-- outside of each set that misses a demand there is a simple one -/
theorem simple_out {E : List (List Int)} (nw : NoWay E) : ∀ (n : Nat) (V : List Int), V.length ≤ n → ∀ e0 ∈ E, (∃ t ∈ V, t ∉ e0) → ∃ x ∈ V, x ∉ e0 ∧ SimpleIn E V x := by
  intro n
  induction n with
  | zero =>
    intro V hV e0 he ⟨t, ht, _⟩
    cases V with
    | nil => cases ht
    | cons _ _ => simp at hV
  | succ n ih =>
    intro V hV e0 he0 hex
    obtain ⟨e, ee, ⟨pe, sub⟩, mxe⟩ := exMax (fun l => cnt V (fun y => y ∈ l)) (fun l => (∃ t ∈ V, t ∉ l) ∧ ∀ y ∈ V, y ∈ e0 → y ∈ l) E ⟨e0, he0, hex, fun _ _ h => h⟩
    obtain ⟨t0, h0, h1⟩ := pe
    by_cases hF : ∃ l ∈ E, (∃ y ∈ V, y ∉ l) ∧ ∃ t ∈ l, Comp E V e t0 t
    · obtain ⟨f, fe, ⟨pf, tf, htf, ctf⟩, mxf⟩ := exMax (fun l => cnt V (fun y => y ∈ l ∧ y ∈ e)) (fun l => (∃ y ∈ V, y ∉ l) ∧ ∃ t ∈ l, Comp E V e t0 t) E hF
      have hy : ∃ y, y ∈ V ∧ y ∈ e ∧ y ∉ f := Classical.byContradiction fun w => by
        have ef : ∀ y ∈ V, y ∈ e → y ∈ f := fun y y1 y2 => Classical.byContradiction fun q => w ⟨y, y1, y2, q⟩
        have le := mxe f fe ⟨pf, fun y y1 y2 => ef y y1 (sub y y1 y2)⟩
        have lt := cnt_lt (V := V) (p := fun y => y ∈ e) (q := fun y => y ∈ f) ef (ctf.out h0 h1).1 (ctf.out h0 h1).2 htf
        omega
      obtain ⟨y, y1, y2, y3⟩ := hy
      have tr := fun {g : List Int} (pg : Pr E V g) {x : Int} (xg : x ∈ g) (cx : Comp E V e t0 x) => traces nw ee h0 h1 ⟨fe, pf⟩ htf ctf (fun g p q => mxf g p.1 ⟨p.2, q⟩) pg xg cx
      have lt : (kp V fun v => Comp E V e t0 v ∨ (v ∈ e ∧ v ∈ f)).length < V.length := by
        have := cnt_lt (V := V) (p := fun v => Comp E V e t0 v ∨ (v ∈ e ∧ v ∈ f)) (q := fun _ => True) (fun _ _ _ => trivial) y1 (fun q => by
          rcases q with q | q
          · exact (q.out h0 h1).2 y2
          · exact y3 q.2) trivial
        refine Nat.lt_of_lt_of_le this ?_
        exact List.length_filter_le _ _
      obtain ⟨x, hx, xe, sx⟩ := ih (kp V fun v => Comp E V e t0 v ∨ (v ∈ e ∧ v ∈ f)) (by omega) e ee ⟨t0, mem_kp.mpr ⟨h0, .inl .base⟩, h1⟩
      obtain ⟨xV, xp⟩ := mem_kp.mp hx
      have cx : Comp E V e t0 x := by
        rcases xp with q | q
        · exact q
        · exact absurd q.1 xe
      refine ⟨x, xV, fun q => xe (sub x xV q), fun a ae b be xa xb => ?_⟩
      by_cases pa : ∃ y ∈ V, y ∉ a
      · by_cases pb : ∃ y ∈ V, y ∉ b
        · have inV : ∀ {g : List Int}, Pr E V g → x ∈ g → ∀ v ∈ V, v ∈ g → v ∈ kp V fun v => Comp E V e t0 v ∨ (v ∈ e ∧ v ∈ f) := fun {g} pg xg v v1 v2 => by
            refine mem_kp.mpr ⟨v1, ?_⟩
            by_cases c : v ∈ e
            · exact .inr ⟨c, tr pg xg cx v v1 c v2⟩
            · exact .inl (.step cx pg xg v2 v1 c)
          rcases sx a ae b be xa xb with k | k
          · exact .inl fun v v1 v2 => k v (inV ⟨ae, pa⟩ xa v v1 v2) v2
          · exact .inr fun v v1 v2 => k v (inV ⟨be, pb⟩ xb v v1 v2) v2
        · exact .inl fun v v1 _ => Classical.byContradiction fun q => pb ⟨v, v1, q⟩
      · exact .inr fun v v1 _ => Classical.byContradiction fun q => pa ⟨v, v1, q⟩
    · refine ⟨t0, h0, fun q => h1 (sub t0 h0 q), fun a ae b be xa xb => .inl fun v v1 _ => Classical.byContradiction fun q => ?_⟩
      exact hF ⟨b, be, ⟨v, v1, q⟩, t0, xb, .base⟩
theorem simple_ex {E : List (List Int)} (nw : NoWay E) {V : List Int} (hV : V ≠ []) : ∃ x ∈ V, SimpleIn E V x := by
  by_cases h : ∃ e ∈ E, ∃ t ∈ V, t ∉ e
  · obtain ⟨e, he, ht⟩ := h
    obtain ⟨x, h1, _, h2⟩ := simple_out nw V.length V (Nat.le_refl _) e he ht
    exact ⟨x, h1, h2⟩
  · obtain ⟨x, hx⟩ := List.exists_mem_of_ne_nil V hV
    exact ⟨x, hx, fun a ae b be _ _ => .inl fun v v1 _ => Classical.byContradiction fun q => h ⟨b, be, v, v1, q⟩⟩
end BK

set_option Elab.async false
set_option linter.all false
set_option maxRecDepth 100000
namespace Pb
open PySem PySem.Spec PyProof.Rows L2
/-! ### comprehensions clause by clause: [e for x in .. for y in .. for z in ..] -/
section
variable {Y : Cx}
/-- what stands behind the tests, as a transformer of heaps; the slots ws are let go -/
structure InOk (Y : Cx) (B : Sem Fin → Sem Fin) (ws : List Nat) (b : L2.St → Hp → (Hp → Prop) → Prop) : Prop where
  run : ∀ (pins : List (Addr × Obj)) (s : Shared) (σ : L2.St) (H : Hp) (Nx : Hp → Prop) (k : Sem Fin) (Q : Fin → Shared → Prop) (E : Value → Shared → Prop), Inv Y pins σ H s → b σ H Nx →
    (∀ s' H', Inv Y pins (wipe σ ws) H' s' → Nx H' → wpAny (model Y.prog Y.w) Y.A k Q E s') → wpAny (model Y.prog Y.w) Y.A (B k) Q E s
end
section
variable {elt t0 i0 t1 i1 t2 i2 : Expr} {f0 f1 f2 : List Expr} {scope : Scope} {pos : Pos}
end
end Pb

set_option Elab.async false
set_option linter.all false
set_option maxRecDepth 100000
namespace Pb
open PySem PySem.Spec PyProof.Rows L2
/-! ### readings of comprehensions clause by clause -/
section
variable {K : PySem.W.Frag} {S : List Addr} {H0 : Hp} {G : Hp → Prop} {T ow : List Addr} {ρ : Rho} {σ : L2.St} {H H' : Hp} {D : Addr}
/-- all but one address stays -/
def Kd (D : Addr) (H H' : Hp) : Prop := ∀ a o, a ≠ D → H a = some o → H' a = some o
theorem Kd.refl : Kd D H H := fun _ _ _ e => e
theorem Kd.same {H2 : Hp} (h : Kd D H H') (s : Same H' H2) : Kd D H H2 := fun a o n e => s _ _ (h a o n e)
theorem Kd.trans {H2 : Hp} (h : Kd D H H') (k : Kd D H' H2) : Kd D H H2 := fun a o n e => k a o n (h a o n e)
theorem Kd.upd {o : HO} (h : Kd D H H') : Kd D H (upd H' D o) := fun a u n e => by
  rw [upd_ne n]
  exact h a u n e
theorem Kd.hs (h : Kd D H H') : Same (hs (D :: T) H) (hs (D :: T) H') := fun a o e => by
  obtain ⟨z1, z2⟩ := hs_some e
  rw [hs_out z1]
  exact h a o (fun q => z1 (by rw [q]; exact List.mem_cons_self)) z2
/-! ### {x: None for x in ..} -/
/-! ### *x in a display -/
/-! ### beside a dict: a list of its own becomes data -/
theorem SimDO.freeze {c : Nat} {a : Addr} {ks : List (Key × V)} {kvs : List (PyData × PyData)} {Hx : Hp} (h : SimDO K S H0 G c a ks kvs Hx T ow ρ σ H) {i : Nat} {es : List PyData} (he : ρ[i]? = some (.own es)) : ∃ T' ow', SimDO K S H0 G c a ks kvs Hx T' ow' (ρ.set i (.val (.list es))) σ H := by
  have hi : c ≠ i := fun z => by
    rw [← z, h.rc] at he
    cases he
  obtain ⟨T', ow', so'⟩ := (h.so.weak (G' := fun X => G X ∧ Kvs K X ks kvs) (fun H H' s z => ⟨h.so.mo _ _ s z.1, z.2.mono s⟩) ⟨h.so.fr, h.kv⟩).freeze (i := i) (es := es) (by rw [List.getElem?_set_ne hi]; exact he)
  have so2 := so'.weak h.so.mo so'.fr.1
  rw [List.set_comm _ _ hi] at so2
  exact ⟨T', ow', { so := so2, rc := by rw [List.getElem?_set_ne (Ne.symm hi)]; exact h.rc, ha := h.ha, kv := so'.fr.2, hx := h.hx, h0 := h.h0, tS := h.tS }⟩
end
end Pb

set_option Elab.async false
set_option linter.all false
set_option maxRecDepth 100000
namespace Pb
open PySem PySem.Spec PyProof.Rows L2
/-! ### x is True -/
/-! ### drawn: a slice whose upper end is drawn, a list that a builtin makes of what is drawn -/
section
variable {K : PySem.W.Frag} {d : Addr}
end
end Pb

set_option Elab.async false
set_option linter.all false
set_option maxRecDepth 100000
namespace Pb
open PySem PySem.Spec PyProof.Rows L2
section
variable {P : Program} {w : World} {K : PySem.W.Frag} {mg : Str → Option Value} {base : Heap}
end
end Pb

set_option Elab.async false
set_option linter.all false
set_option maxRecDepth 100000
namespace Pb
open PySem PySem.Spec PyProof.Rows L2
/-! ### the search for a ring, apart from the program: what its dict and its layers keep -/
def keysOf (kvs : List (PyData × PyData)) : List Int := kvs.map fun p => kI p.1
theorem dAt_key {kvs : List (PyData × PyData)} {x : Int} : (dAt kvs x).isSome = true ↔ x ∈ keysOf kvs := by
  unfold dAt keysOf
  rw [Option.isSome_map, List.find?_isSome, List.mem_map]
  constructor
  · rintro ⟨p, h1, h2⟩
    exact ⟨p, h1, by simpa using h2⟩
  · rintro ⟨p, h1, h2⟩
    exact ⟨p, h1, by simpa using h2⟩
theorem dAt_no {kvs : List (PyData × PyData)} {x : Int} (h : x ∉ keysOf kvs) : dAt kvs x = none := by
  cases e : dAt kvs x with
  | none => rfl
  | some v => exact absurd (dAt_key.mp (by rw [e]; rfl)) h
theorem put_new {kvs : List (PyData × PyData)} {x : Int} {v : PyData} (h : x ∉ keysOf kvs) : dPut kvs x v = kvs ++ [(.int x, v)] := by
  unfold dPut
  rw [if_neg]
  intro z
  rw [List.any_eq_true] at z
  obtain ⟨p, h1, h2⟩ := z
  exact h (List.mem_map.mpr ⟨p, h1, by simpa using h2⟩)
theorem keys_put {kvs : List (PyData × PyData)} {x : Int} {v : PyData} (h : x ∉ keysOf kvs) : keysOf (dPut kvs x v) = keysOf kvs ++ [x] := by
  rw [put_new h]
  unfold keysOf
  rw [List.map_append]
  rfl
theorem dAt_put {kvs : List (PyData × PyData)} {x y : Int} {v : PyData} (h : x ∉ keysOf kvs) : dAt (dPut kvs x v) y = if y = x then some v else dAt kvs y := by
  rw [put_new h]
  unfold dAt
  rw [List.find?_append]
  by_cases e : y = x
  · subst e
    have : kvs.find? (fun p => decide (kI p.1 = y)) = none := by
      have := dAt_no h
      unfold dAt at this
      simpa using this
    rw [this, if_pos rfl]
    simp [kI]
  · rw [if_neg e]
    cases h1 : kvs.find? (fun p => decide (kI p.1 = y)) with
    | some p => simp
    | none => simp [kI, Ne.symm e]
theorem snoc_at {α : Type} {P : List α} {x y : α} {i : Nat} (h : (P ++ [x])[i]? = some y) : (i < P.length ∧ P[i]? = some y) ∨ (i = P.length ∧ y = x) := by
  by_cases hl : i < P.length
  · rw [List.getElem?_append_left hl] at h
    exact .inl ⟨hl, h⟩
  · rw [List.getElem?_append_right (by omega)] at h
    by_cases e : i - P.length = 0
    · rw [e] at h
      exact .inr ⟨by omega, by simpa using h.symm⟩
    · obtain ⟨k, hk⟩ : ∃ k, i - P.length = k + 1 := ⟨i - P.length - 1, by omega⟩
      rw [hk] at h
      simp at h
inductive Pth (kvs : List (PyData × PyData)) : Int → List Int → List Int → Prop
  | zero {x : Int} : dAt kvs x = some .none → Pth kvs x [x] []
  | succ {x d l : Int} {P U : List Int} : dAt kvs x = some (.tuple [.int d, .int l]) → Pth kvs d P U → Pth kvs x (P ++ [x]) (U ++ [l])
theorem Pth.put {kvs : List (PyData × PyData)} {r : Int} {v : PyData} (hr : r ∉ keysOf kvs) {x : Int} {P U : List Int} (h : Pth kvs x P U) : Pth (dPut kvs r v) x P U := by
  have ne : ∀ {y : Int} {u : PyData}, dAt kvs y = some u → dAt (dPut kvs r v) y = some u := fun {y u} e => by
    rw [dAt_put hr, if_neg]
    · exact e
    · intro z
      rw [← z] at hr
      rw [dAt_no hr] at e
      cases e
  induction h with
  | zero e => exact .zero (ne e)
  | succ e _ ih => exact .succ (ne e) ih
structure BI (m : Nat) (os : List (List Int)) (lk st en cl : List Int) (kvs : List (PyData × PyData)) (lv : Int → Nat) (n : Nat) (layer fol : List Int) (done : List (Int × Int × Int)) : Prop where
  nd : (keysOf kvs).Nodup
  rg : ∀ x ∈ keysOf kvs, 0 ≤ x ∧ x < (m : Int)
  st0 : ∀ x ∈ st, x ∈ keysOf kvs
  lay : ∀ x, x ∈ layer ↔ x ∈ keysOf kvs ∧ lv x = n
  fol : ∀ x, x ∈ fol ↔ x ∈ keysOf kvs ∧ lv x = n + 1
  le : ∀ x ∈ keysOf kvs, lv x ≤ n + 1
  src : ∀ x v, dAt kvs x = some v → (v = .none ∧ x ∈ st ∧ lv x = 0) ∨ ∃ d l, v = .tuple [.int d, .int l] ∧ d ∈ keysOf kvs ∧ lv x = lv d + 1 ∧ l ∈ lk ∧ d ∈ offAt os l ∧ x ∈ offAt os l ∧ x ∉ cl ∧ x ∉ en
  clo : ∀ x ∈ keysOf kvs, lv x < n → ∀ l ∈ lk, x ∈ offAt os l → ∀ r ∈ offAt os l, r ∈ cl ∨ (r ∈ keysOf kvs ∧ lv r ≤ lv x + 1)
  dn : ∀ d l r, (d, l, r) ∈ done → r ∈ cl ∨ (r ∈ keysOf kvs ∧ lv r ≤ n + 1)
structure Way (os : List (List Int)) (lk st en cl P U : List Int) : Prop where
  len : P.length = U.length + 1
  n1 : 1 ≤ U.length
  s0 : ∀ p, P[0]? = some p → p ∈ st
  lk : ∀ (i : Nat) (l p q : Int), U[i]? = some l → P[i]? = some p → P[i + 1]? = some q → l ∈ lk ∧ p ∈ offAt os l ∧ q ∈ offAt os l ∧ q ∉ cl
  ch : ∀ (i j : Nat) (l p : Int), U[i]? = some l → P[j]? = some p → p ∈ offAt os l → j = i ∨ j = i + 1
  nd : P.Nodup
  last : ∀ p, P[U.length]? = some p → p ∈ en
  mid : ∀ (i : Nat) (p : Int), i < U.length → P[i]? = some p → p ∉ en
section
variable {m : Nat} {os : List (List Int)} {lk st en cl : List Int} {kvs : List (PyData × PyData)} {lv : Int → Nat} {n : Nat} {layer fol : List Int} {done : List (Int × Int × Int)}
theorem BI.small (h : BI m os lk st en cl kvs lv n layer fol done) : kvs.length ≤ m := by
  have := nodup_len h.nd fun x hx => mem_ints.mpr (h.rg x hx)
  rw [ints_len] at this
  unfold keysOf at this
  rwa [List.length_map] at this
/-- a step to what was reached, or is closed -/
theorem BI.old (h : BI m os lk st en cl kvs lv n layer fol done) {d l r : Int} (hr : r ∈ keysOf kvs ∨ r ∈ cl) : BI m os lk st en cl kvs lv n layer fol (done ++ [(d, l, r)]) :=
  { nd := h.nd, rg := h.rg, st0 := h.st0, lay := h.lay, fol := h.fol, le := h.le, src := h.src, clo := h.clo
    dn := fun d' l' r' z => by
      rcases List.mem_append.mp z with z | z
      · exact h.dn d' l' r' z
      · simp only [List.mem_singleton, Prod.mk.injEq] at z
        obtain ⟨_, _, rfl⟩ := z
        rcases hr with hr | hr
        · exact .inr ⟨hr, h.le _ hr⟩
        · exact .inl hr }
theorem BI.new (h : BI m os lk st en cl kvs lv n layer fol done) {d l r : Int} (hd : d ∈ layer) (hl : l ∈ lk) (hdl : d ∈ offAt os l) (hrl : r ∈ offAt os l) (rm : 0 ≤ r ∧ r < (m : Int)) (hr : r ∉ keysOf kvs) (hc : r ∉ cl) (he : r ∉ en) :
    BI m os lk st en cl (dPut kvs r (.tuple [.int d, .int l])) (fun x => if x = r then n + 1 else lv x) n layer (fol ++ [r]) (done ++ [(d, l, r)]) := by
  have kk : ∀ x, x ∈ keysOf (dPut kvs r (.tuple [.int d, .int l])) ↔ x ∈ keysOf kvs ∨ x = r := fun x => by rw [keys_put hr, List.mem_append, List.mem_singleton]
  have ne : ∀ x ∈ keysOf kvs, x ≠ r := fun x hx z => hr (by rw [← z]; exact hx)
  exact
  { nd := by
      rw [keys_put hr, List.nodup_append]
      exact ⟨h.nd, by simp, fun a ha b hb e => ne a ha (by rw [e]; exact List.mem_singleton.mp hb)⟩
    rg := fun x hx => by
      rcases (kk x).mp hx with z | z
      · exact h.rg x z
      · rw [z]; exact rm
    st0 := fun x hx => (kk x).mpr (.inl (h.st0 x hx))
    lay := fun x => by
      rw [h.lay, kk]
      constructor
      · rintro ⟨a, b⟩
        exact ⟨.inl a, by rw [if_neg (ne x a)]; exact b⟩
      · rintro ⟨a | a, b⟩
        · rw [if_neg (ne x a)] at b
          exact ⟨a, b⟩
        · rw [if_pos a] at b
          omega
    fol := fun x => by
      rw [List.mem_append, List.mem_singleton, h.fol, kk]
      constructor
      · rintro (⟨a, b⟩ | a)
        · exact ⟨.inl a, by rw [if_neg (ne x a)]; exact b⟩
        · exact ⟨.inr a, by rw [if_pos a]⟩
      · rintro ⟨a | a, b⟩
        · rw [if_neg (ne x a)] at b
          exact .inl ⟨a, b⟩
        · exact .inr a
    le := fun x hx => by
      rcases (kk x).mp hx with z | z
      · rw [if_neg (ne x z)]
        exact h.le x z
      · rw [if_pos z]
        exact Nat.le_refl _
    src := fun x v e => by
      rw [dAt_put hr] at e
      by_cases z : x = r
      · rw [if_pos z] at e
        cases e
        have dk := (h.lay d).mp hd
        refine .inr ⟨d, l, rfl, (kk d).mpr (.inl dk.1), ?_, hl, hdl, by rw [z]; exact hrl, by rw [z]; exact hc, by rw [z]; exact he⟩
        rw [if_pos z, if_neg (ne d dk.1), dk.2]
      · rw [if_neg z] at e
        rcases h.src x v e with ⟨a, b, c⟩ | ⟨d', l', a, b, c, k⟩
        · exact .inl ⟨a, b, by rw [if_neg z]; exact c⟩
        · exact .inr ⟨d', l', a, (kk d').mpr (.inl b), by rw [if_neg z, if_neg (ne d' b)]; exact c, k⟩
    clo := fun x hx lt l' hl' hxl r' hr' => by
      rcases (kk x).mp hx with z | z
      · rw [if_neg (ne x z)] at lt ⊢
        rcases h.clo x z lt l' hl' hxl r' hr' with k | ⟨k1, k2⟩
        · exact .inl k
        · exact .inr ⟨(kk r').mpr (.inl k1), by rw [if_neg (ne r' k1)]; exact k2⟩
      · rw [if_pos z] at lt
        omega
    dn := fun d' l' r' z => by
      rcases List.mem_append.mp z with z | z
      · rcases h.dn d' l' r' z with k | ⟨k1, k2⟩
        · exact .inl k
        · exact .inr ⟨(kk r').mpr (.inl k1), by rw [if_neg (ne r' k1)]; exact k2⟩
      · simp only [List.mem_singleton, Prod.mk.injEq] at z
        obtain ⟨_, _, rfl⟩ := z
        exact .inr ⟨(kk _).mpr (.inr rfl), by rw [if_pos rfl]; exact Nat.le_refl _⟩ }
/-- a way back from each demand reached -/
theorem BI.path (h : BI m os lk st en cl kvs lv n layer fol done) : ∀ (k : Nat) (x : Int), x ∈ keysOf kvs → lv x = k → ∃ P U, Pth kvs x P U ∧ P.length = U.length + 1 ∧ U.length = k ∧ P[k]? = some x ∧ (∀ (i : Nat) (p : Int), P[i]? = some p → p ∈ keysOf kvs ∧ lv p = i) ∧ (∀ p, P[0]? = some p → p ∈ st) ∧
    (∀ (i : Nat) (l p q : Int), U[i]? = some l → P[i]? = some p → P[i + 1]? = some q → l ∈ lk ∧ p ∈ offAt os l ∧ q ∈ offAt os l ∧ q ∉ cl) ∧ ∀ (i : Nat) (p : Int), 1 ≤ i → P[i]? = some p → p ∉ en := by
  intro k
  induction k with
  | zero =>
    intro x hx e
    obtain ⟨v, hv⟩ := Option.isSome_iff_exists.mp (dAt_key.mpr hx)
    rcases h.src x v hv with ⟨rfl, b, c⟩ | ⟨d, l, _, _, c, _⟩
    · refine ⟨[x], [], .zero hv, rfl, rfl, rfl, fun i p z => ?_, fun p z => ?_, fun i l p q z => by simp at z, fun i p hi z => ?_⟩
      · cases i with
        | zero => cases z; exact ⟨hx, c⟩
        | succ i => simp at z
      · cases z
        exact b
      · obtain ⟨j, rfl⟩ : ∃ j, i = j + 1 := ⟨i - 1, by omega⟩
        simp at z
    · omega
  | succ k ih =>
    intro x hx e
    obtain ⟨v, hv⟩ := Option.isSome_iff_exists.mp (dAt_key.mpr hx)
    rcases h.src x v hv with ⟨_, _, c⟩ | ⟨d, l, rfl, hd, c, hl, hdl, hxl, hc, he⟩
    · omega
    · obtain ⟨P, U, p1, p2, p3, p4, p5, p6, p7, p8⟩ := ih d hd (by omega)
      refine ⟨P ++ [x], U ++ [l], .succ hv p1, by simp [p2], by simp [p3], ?_, fun i p z => ?_, fun p z => ?_, fun i l' p q z1 z2 z3 => ?_, fun i p hi z => ?_⟩
      · rw [List.getElem?_append_right (by omega), show k + 1 - P.length = 0 by omega]
        rfl
      · rcases snoc_at z with ⟨_, z⟩ | ⟨z1, rfl⟩
        · exact p5 i p z
        · exact ⟨hx, by omega⟩
      · rcases snoc_at z with ⟨_, z⟩ | ⟨z1, rfl⟩
        · exact p6 p z
        · omega
      · rcases snoc_at z1 with ⟨a1, a2⟩ | ⟨a1, rfl⟩
        · rcases snoc_at z2 with ⟨b1, b2⟩ | ⟨b1, b2⟩
          · rcases snoc_at z3 with ⟨c1, c2⟩ | ⟨c1, c2⟩
            · exact p7 i l' p q a2 b2 c2
            · omega
          · omega
        · rcases snoc_at z2 with ⟨b1, b2⟩ | ⟨b1, b2⟩
          · rcases snoc_at z3 with ⟨c1, c2⟩ | ⟨c1, rfl⟩
            · omega
            · have ei : i = k := by omega
              rw [ei, p4] at b2
              cases b2
              exact ⟨hl, hdl, hxl, hc⟩
          · omega
      · rcases snoc_at z with ⟨_, z⟩ | ⟨z1, rfl⟩
        · exact p8 i p hi z
        · exact he
/-- a step to an end -/
theorem BI.found (h : BI m os lk st en cl kvs lv n layer fol done) (hse : ∀ x ∈ st, x ∉ en) {d l r : Int} (hd : d ∈ layer) (hl : l ∈ lk) (hdl : d ∈ offAt os l) (hrl : r ∈ offAt os l) (hr : r ∉ keysOf kvs) (hc : r ∉ cl) (he : r ∈ en) :
    ∃ P U, Pth (dPut kvs r (.tuple [.int d, .int l])) r P U ∧ Way os lk st en cl P U ∧ U.length = n + 1 := by
  have dk := (h.lay d).mp hd
  obtain ⟨P, U, p1, p2, p3, p4, p5, p6, p7, p8⟩ := h.path n d dk.1 dk.2
  have ndP : P.Nodup := by
    refine List.pairwise_iff_getElem.mpr fun i j hi hj hij e => ?_
    have a := (p5 j _ (List.getElem?_eq_getElem hj)).2
    have b := (p5 i _ (List.getElem?_eq_getElem hi)).2
    rw [e] at b
    omega
  have q7 : ∀ (i : Nat) (l' p q : Int), (U ++ [l])[i]? = some l' → (P ++ [r])[i]? = some p → (P ++ [r])[i + 1]? = some q → l' ∈ lk ∧ p ∈ offAt os l' ∧ q ∈ offAt os l' ∧ q ∉ cl := fun i l' p q z1 z2 z3 => by
    rcases snoc_at z1 with ⟨a1, a2⟩ | ⟨a1, rfl⟩
    · rcases snoc_at z2 with ⟨b1, b2⟩ | ⟨b1, b2⟩
      · rcases snoc_at z3 with ⟨c1, c2⟩ | ⟨c1, c2⟩
        · exact p7 i l' p q a2 b2 c2
        · omega
      · omega
    · rcases snoc_at z2 with ⟨b1, b2⟩ | ⟨b1, b2⟩
      · rcases snoc_at z3 with ⟨c1, c2⟩ | ⟨c1, rfl⟩
        · omega
        · have ei : i = n := by omega
          rw [ei, p4] at b2
          cases b2
          exact ⟨hl, hdl, hrl, hc⟩
      · omega
  refine ⟨P ++ [r], U ++ [l], .succ (by rw [dAt_put hr, if_pos rfl]) (p1.put hr), ?_, by simp [p3]⟩
  refine { len := by simp [p2], n1 := by simp, s0 := fun p z => ?_, lk := q7, ch := ?_, nd := ?_, last := fun p z => ?_, mid := fun i p hi z => ?_ }
  · rcases snoc_at z with ⟨_, z⟩ | ⟨z1, rfl⟩
    · exact p6 p z
    · omega
  · intro i j l' p z1 z2 z3
    have iU : i < U.length + 1 := by
      have := (List.getElem?_eq_some_iff.mp z1).1
      simpa using this
    have jP : j < P.length + 1 := by
      have := (List.getElem?_eq_some_iff.mp z2).1
      simpa using this
    -- the two demands beside it
    obtain ⟨a, ha⟩ : ∃ a, (P ++ [r])[i]? = some a := ⟨_, List.getElem?_eq_getElem (by simp; omega)⟩
    obtain ⟨b, hb⟩ : ∃ b, (P ++ [r])[i + 1]? = some b := ⟨_, List.getElem?_eq_getElem (by simp; omega)⟩
    obtain ⟨k1, k2, k3, k4⟩ := q7 i l' a b z1 ha hb
    refine Classical.byContradiction fun w => ?_
    rcases Nat.lt_or_ge j i with lt | ge
    · -- p stands ahead
      rcases snoc_at z2 with ⟨b1, b2⟩ | ⟨b1, _⟩
      · obtain ⟨pk, plv⟩ := p5 j p b2
        rcases h.clo p pk (by omega) l' k1 z3 b k3 with c | ⟨c1, c2⟩
        · exact k4 c
        · rcases snoc_at hb with ⟨e1, e2⟩ | ⟨e1, rfl⟩
          · have := (p5 (i + 1) b e2).2
            omega
          · exact hr c1
      · omega
    · have gt : i + 1 < j := by omega
      rcases snoc_at ha with ⟨b1, b2⟩ | ⟨b1, _⟩
      · obtain ⟨ak, alv⟩ := p5 i a b2
        have pc : p ∉ cl := by
          obtain ⟨i', rfl⟩ : ∃ i', j = i' + 1 := ⟨j - 1, by omega⟩
          obtain ⟨l2, hl2⟩ : ∃ l2, (U ++ [l])[i']? = some l2 := ⟨_, List.getElem?_eq_getElem (by simp; omega)⟩
          obtain ⟨a2, ha2⟩ : ∃ a2, (P ++ [r])[i']? = some a2 := ⟨_, List.getElem?_eq_getElem (by simp; omega)⟩
          exact (q7 i' l2 a2 p hl2 ha2 z2).2.2.2
        rcases h.clo a ak (by omega) l' k1 k2 p z3 with c | ⟨c1, c2⟩
        · exact pc c
        · rcases snoc_at z2 with ⟨e1, e2⟩ | ⟨e1, rfl⟩
          · have := (p5 j p e2).2
            omega
          · exact hr c1
      · omega
  · rw [List.nodup_append]
    refine ⟨ndP, by simp, fun a ha b hb e => ?_⟩
    obtain ⟨i, hi⟩ := List.mem_iff_getElem?.mp ha
    exact hr (by rw [← List.mem_singleton.mp hb, ← e]; exact (p5 i a hi).1)
  · rcases snoc_at z with ⟨z1, z⟩ | ⟨z1, rfl⟩
    · simp at z1
      omega
    · exact he
  · rcases snoc_at z with ⟨z1, z⟩ | ⟨z1, rfl⟩
    · cases i with
      | zero => exact hse p (p6 p z)
      | succ i => exact p8 (i + 1) p (by omega) z
    · simp at hi
      omega
end
end Pb

set_option Elab.async false
set_option linter.all false
set_option maxRecDepth 100000
namespace Pb
open PySem PySem.Spec PyProof.Rows L2
/-! ### the search for a ring: what the program's defs give -/
end Pb

set_option Elab.async false
set_option linter.all false
set_option maxRecDepth 100000
namespace Pb
open PySem PySem.Spec PyProof.Rows L2
section
variable {m : Nat} {os : List (List Int)} {lk st en cl : List Int}
end
end Pb

set_option Elab.async false
set_option linter.all false
set_option maxRecDepth 100000
namespace Pb
open PySem PySem.Spec PyProof.Rows L2
/-! ### rings -/
structure RingP (m : Nat) (os : List (List Int)) (ds fs : List Int) : Prop where
  d1 : ∀ i ∈ ds, 0 ≤ i ∧ i < (m : Int)
  d2 : ds.Nodup
  f1 : ∀ i ∈ fs, 0 ≤ i ∧ i < (os.length : Int)
  f2 : fs.Nodup
  len : ds.length = fs.length
  len3 : 3 ≤ ds.length
  link : ∀ (k : Nat) (a b f : Int) (o : List Int), ds[k]? = some a → ds[(k + 1) % ds.length]? = some b → fs[k]? = some f → os[f.toNat]? = some o → ∀ d ∈ ds, (d ∈ o ↔ d = a ∨ d = b)
section
variable {m : Nat} {os : List (List Int)} {lk st en cl : List Int}
/-- the offers that do not cover a demand -/
def outL (os : List (List Int)) (d : Int) : List Int := (os.zipIdx.filter fun p => !decide (d ∈ p.1)).map fun p => ((p.2 : Nat) : Int)
end
end Pb

set_option Elab.async false
set_option linter.all false
set_option maxRecDepth 100000
namespace Pb
open PySem PySem.Spec PyProof.Rows L2
/-! ### orderable tables: greedy orders, stuck sets, rings -/
def Orderable (m : Nat) (os : List (List Int)) : Prop := ∃ ns, OrdP m ns ∧ nestB os ns = true
/-- a set of demands none of which is simple in it -/
structure Stuck (m : Nat) (os : List (List Int)) (rest : List Int) : Prop where
  ne : rest ≠ []
  rg : ∀ x ∈ rest, 0 ≤ x ∧ x < (m : Int)
  no : ∀ x ∈ rest, fineB os rest x = false
theorem fine_simple {os : List (List Int)} {V : List Int} {x : Int} : fineB os V x = true ↔ BK.SimpleIn os V x := by
  rw [fineB_iff]
  constructor
  · intro h a ha b hb xa xb
    rcases h a ha b hb xa xb with k | k
    · exact .inl fun y hy ya => k y ya hy
    · exact .inr fun y hy yb => k y yb hy
  · intro h a ha b hb xa xb
    rcases h a ha b hb xa xb with k | k
    · exact .inl fun y ya hy => k y hy ya
    · exact .inr fun y yb hy => k y hy yb
theorem Stuck.way {m : Nat} {os : List (List Int)} {rest : List Int} (h : Stuck m os rest) : ¬ BK.NoWay os := fun nw => by
  obtain ⟨x, hx, sx⟩ := BK.simple_ex nw h.ne
  have := h.no x hx
  rw [fine_simple.mpr sx] at this
  cases this
theorem Stuck.not {m : Nat} {os : List (List Int)} {rest : List Int} (h : Stuck m os rest) : ¬ Orderable m os := fun ⟨ns, ho, hn⟩ => by
  -- the first of them in the order
  have key : ∀ (k : Nat), k ≤ ns.length → (∀ x ∈ rest, x ∈ ns.drop k) → False := by
    intro k
    induction hj : ns.length - k generalizing k with
    | zero =>
      intro hk sub
      obtain ⟨x, hx⟩ := List.exists_mem_of_ne_nil rest h.ne
      have := sub x hx
      rw [List.drop_eq_nil_of_le (by omega)] at this
      cases this
    | succ j ih =>
      intro hk sub
      have lt : k < ns.length := by omega
      by_cases c : ns[k] ∈ rest
      · have f := nestB_iff.mp hn k _ (List.getElem?_eq_getElem lt)
        have := fineB_sub f sub
        rw [h.no _ c] at this
        cases this
      · refine ih (k + 1) (by omega) (by omega) fun x hx => ?_
        have := sub x hx
        rw [List.drop_eq_getElem_cons lt] at this
        rcases List.mem_cons.mp this with z | z
        · exact absurd (by rw [← z]; exact hx) c
        · exact z
  exact key 0 (Nat.zero_le _) fun x hx => by
    rw [List.drop_zero]
    exact sub_full (ho.2.1) (l := ns) (r := upto m) (by rw [ints_len, ho.2.2]; exact Nat.le_refl _) (fun i hi => mem_ints.mpr (ho.1 i hi)) x (mem_ints.mpr (h.rg x hx))
theorem RingP.stuck {m : Nat} {os : List (List Int)} {ds fs : List Int} (h : RingP m os ds fs) : Stuck m os ds := by
  have l3 := h.len3
  refine ⟨fun z => by rw [z] at l3; simp at l3, h.d1, fun x hx => ?_⟩
  obtain ⟨k, hk⟩ := List.mem_iff_getElem?.mp hx
  have kl := (List.getElem?_eq_some_iff.mp hk).1
  have fl : k < fs.length := by rw [← h.len]; exact kl
  -- the neighbours' places
  obtain ⟨p, hp, hpk⟩ : ∃ p, p < ds.length ∧ (p + 1) % ds.length = k := by
    by_cases z : k = 0
    · exact ⟨ds.length - 1, by omega, by rw [show ds.length - 1 + 1 = ds.length by omega, Nat.mod_self, z]⟩
    · exact ⟨k - 1, by omega, by rw [show k - 1 + 1 = k by omega, Nat.mod_eq_of_lt kl]⟩
  have nl : (k + 1) % ds.length < ds.length := Nat.mod_lt _ (by omega)
  have pk : p ≠ k := fun z => by
    rw [z] at hpk
    by_cases c : k + 1 < ds.length
    · rw [Nat.mod_eq_of_lt c] at hpk
      omega
    · rw [show k + 1 = ds.length by omega, Nat.mod_self] at hpk
      omega
  have nk : (k + 1) % ds.length ≠ k := fun z => by
    by_cases c : k + 1 < ds.length
    · rw [Nat.mod_eq_of_lt c] at z
      omega
    · rw [show k + 1 = ds.length by omega, Nat.mod_self] at z
      omega
  have np : (k + 1) % ds.length ≠ p := fun z => by
    by_cases c : k + 1 < ds.length
    · rw [Nat.mod_eq_of_lt c] at z
      rw [← z] at hpk
      by_cases c2 : k + 1 + 1 < ds.length
      · rw [Nat.mod_eq_of_lt c2] at hpk
        omega
      · rw [show k + 1 + 1 = ds.length by omega, Nat.mod_self] at hpk
        omega
    · rw [show k + 1 = ds.length by omega, Nat.mod_self] at z
      rw [← z, Nat.mod_eq_of_lt (by omega)] at hpk
      omega
  have idx : ∀ {i j : Nat} {y : Int}, ds[i]? = some y → ds[j]? = some y → i = j := fun {i j y} a b => by
    obtain ⟨hi, ei⟩ := List.getElem?_eq_some_iff.mp a
    obtain ⟨hj, ej⟩ := List.getElem?_eq_some_iff.mp b
    refine Classical.byContradiction fun c => ?_
    rcases Nat.lt_or_gt_of_ne c with lt | lt
    · exact List.pairwise_iff_getElem.mp h.d2 i j hi hj lt (ei.trans ej.symm)
    · exact List.pairwise_iff_getElem.mp h.d2 j i hj hi lt (ej.trans ei.symm)
  have pf : p < fs.length := by rw [← h.len]; exact hp
  have r1 := h.f1 _ (List.getElem_mem fl)
  have r2 := h.f1 _ (List.getElem_mem pf)
  have o1 : fs[k].toNat < os.length := by omega
  have o2 : fs[p].toNat < os.length := by omega
  have L1 := h.link k x _ _ _ hk (List.getElem?_eq_getElem nl) (List.getElem?_eq_getElem fl) (List.getElem?_eq_getElem o1)
  have L2 := h.link p _ x _ _ (List.getElem?_eq_getElem hp) (by rw [hpk]; exact hk) (List.getElem?_eq_getElem pf) (List.getElem?_eq_getElem o2)
  cases e : fineB os ds x with
  | false => rfl
  | true =>
    exfalso
    rcases fineB_iff.mp e _ (List.getElem_mem o1) _ (List.getElem_mem o2) ((L1 x hx).mpr (.inl rfl)) ((L2 x hx).mpr (.inr rfl)) with q | q
    · have m1 : ds[(k + 1) % ds.length] ∈ ds := List.getElem_mem nl
      rcases (L2 _ m1).mp (q _ ((L1 _ m1).mpr (.inr rfl)) m1) with z | z
      · exact np (idx (List.getElem?_eq_getElem nl) (by rw [z]; exact List.getElem?_eq_getElem hp))
      · exact nk (idx (List.getElem?_eq_getElem nl) (by rw [z]; exact hk))
    · have m1 : ds[p] ∈ ds := List.getElem_mem hp
      rcases (L1 _ m1).mp (q _ ((L2 _ m1).mpr (.inl rfl)) m1) with z | z
      · exact pk (idx (List.getElem?_eq_getElem hp) (by rw [z]; exact hk))
      · exact np (idx (List.getElem?_eq_getElem nl) (by rw [← z]; exact List.getElem?_eq_getElem hp))
/-! ### the law's order -/
/-! ### the program's order -/
end Pb

set_option Elab.async false
set_option linter.all false
set_option maxRecDepth 100000
namespace Pu
open PySem PySem.Spec PyProof.Rows L2 Pb
section
variable {P : Program} {w : World} {K : PySem.W.Frag} {mg : Str → Option Value} {base : Heap}
def q_links_neighbours : List PyData → Option PyData := runF 7 4
  ((sSeq (sSet (gN 4) (eTup (aCons (eOp fIxT (eVar 1) (eVar 2)) (aCons (eOp fIxT (eVar 1) (eOp fMod (eOp fAdd (eVar 2) (eInt 1)) (eCb fLen (aCons (eVar 1) aNil)))) aNil))))
  (sSeq (sSet (gN 5) (eOp fIxT (eOp fIxT (eVar 0) (eInt 1)) (eVar 3)))
  (sRet (eCb fAll (aCons (eL (lLc [6] (iT (eVar 1)) (gN 6) bYes (eOp fEq (eOp fIn (eVar 6) (eVar 5)) (eOp fIn (eVar 6) (eVar 4))))) aNil))))))
def q_is_ring : List PyData → Option PyData := runF 6 2
  ((sSeq (sIf (bNot (bTest (eCb Pb.q_is_tuple_of (aCons (eVar 1) (aCons (eInt 2) aNil))))) (sRet (eBl false)) sNil)
  (sSeq (sSet (gT (gC (gN 2) (gC (gN 3) g0))) (eVar 1))
  (sSeq (sIf (bOr (bNot (bTest (eCb Pb.q_is_distinct_below (aCons (eVar 2) (aCons (eOp fIxT (eVar 0) (eInt 0)) aNil))))) (bNot (bTest (eCb Pb.q_is_distinct_below (aCons (eVar 3) (aCons (eCb fLen (aCons (eOp fIxT (eVar 0) (eInt 1)) aNil)) aNil)))))) (sRet (eBl false)) sNil)
  (sSeq (sIf (bOr (bTest (eOp fNe (eCb fLen (aCons (eVar 2) aNil)) (eCb fLen (aCons (eVar 3) aNil)))) (bTest (eOp fLt (eCb fLen (aCons (eVar 2) aNil)) (eInt 3)))) (sRet (eBl false)) sNil)
  (sRet (eCb fAll (aCons (eL (lLc [4, 5] (iET (eVar 3)) (gT (gC (gN 4) (gC (gN 5) g0))) bYes (eCb q_links_neighbours (aCons (eVar 0) (aCons (eVar 2) (aCons (eVar 4) (aCons (eVar 5) aNil))))))) aNil))))))))
end
end Pu

set_option Elab.async false
set_option linter.all false
set_option maxRecDepth 100000
namespace Pu
open PySem PySem.Spec PyProof.Rows L2 Pb
/-! ### what a ring is -/
structure Ring (m : Nat) (os : List (List Int)) (x : PyData) (ds fs : List Int) : Prop where
  eq : x = .tuple [offD ds, offD fs]
  d1 : ∀ i ∈ ds, 0 ≤ i ∧ i < (m : Int)
  d2 : ds.Nodup
  f1 : ∀ i ∈ fs, 0 ≤ i ∧ i < (os.length : Int)
  f2 : fs.Nodup
  len : ds.length = fs.length
  len3 : 3 ≤ ds.length
  link : ∀ (k : Nat) (a b f : Int) (o : List Int), ds[k]? = some a → ds[(k + 1) % ds.length]? = some b → fs[k]? = some f → os[f.toNat]? = some o → ∀ d ∈ ds, (d ∈ o ↔ d = a ∨ d = b)
def linkB (os : List (List Int)) (ds : List Int) : PyData → Bool
  | .tuple [.int k, .int f] => match ds[k.toNat]?, ds[(k.toNat + 1) % ds.length]?, os[f.toNat]? with
    | some a, some b, some o => ds.all fun d => decide ((decide (d ∈ o)) = (decide (d ∈ [a, b])))
    | _, _, _ => false
  | _ => false
theorem q_links {m : Nat} {os : List (List Int)} {ds : List Int} {k : Nat} {f a b : Int} {o : List Int} (hl : ds.length ≤ 60) (hf : 0 ≤ f) (ha : ds[k]? = some a) (hb : ds[(k + 1) % ds.length]? = some b) (ho : os[f.toNat]? = some o) :
    q_links_neighbours [tabD m os, offD ds, .int (k : Nat), .int f] = some (.bool (linkB os ds (.tuple [.int (k : Nat), .int f]))) := by
  have e : linkB os ds (.tuple [.int (k : Nat), .int f]) = ds.all fun d => decide ((decide (d ∈ o)) = (decide (d ∈ [a, b]))) := by
    simp only [linkB, Int.toNat_natCast, ha, hb, ho]
  rw [e]
  have pos : 0 < ds.length := by
    cases ds with
    | nil => simp at ha
    | cons _ _ => simp
  obtain ⟨g, rfl⟩ : ∃ g : Nat, f = (g : Int) := ⟨f.toNat, by omega⟩
  rw [Int.toNat_natCast] at ho
  refine runF_of rfl ((sSeq_nx (ρ' := [.val (tabD m os), .val (offD ds), .val (.int (k : Nat)), .val (.int (g : Int)), .val (offD [a, b]), .no, .no]) (sSet_of ?_)).trans ((sSeq_nx (ρ' := [.val (tabD m os), .val (offD ds), .val (.int (k : Nat)), .val (.int (g : Int)), .val (offD [a, b]), .val (offD o), .no]) (sSet_of ?_)).trans (sRet_of ?_)))
  · have e1 : eOp fMod (eOp fAdd (eVar 2) (eInt 1)) (eCb fLen (aCons (eVar 1) aNil)) [.val (tabD m os), .val (offD ds), .val (.int (k : Nat)), .val (.int (g : Int)), .no, .no, .no] = some (.int (((k + 1) % ds.length : Nat) : Int)) := by
      refine eOp_of (x := .int ((k : Int) + 1)) (y := .int (ds.length : Nat)) rfl (eCb_of (aCons_of rfl rfl) (len_off ds)) ?_
      show (if decide ((0 : Int) < (ds.length : Int)) = true then some (PyData.int (((k : Int) + 1) % (ds.length : Int))) else none) = _
      rw [if_pos (decide_eq_true (by omega))]
      rfl
    have e2 := aCons_of (φ := eOp fIxT (eVar 1) (eVar 2)) (ρ := [.val (tabD m os), .val (offD ds), .val (.int (k : Nat)), .val (.int (g : Int)), .no, .no, .no]) (eOp_of rfl rfl (ixT_int ha)) (aCons_of (φs := aNil) (eOp_of (φ := eVar 1) rfl e1 (ixT_int hb)) rfl)
    show (((aCons _ (aCons _ aNil)) [.val (tabD m os), .val (offD ds), .val (.int (k : Nat)), .val (.int (g : Int)), .no, .no, .no]).bind lim).map PyData.tuple = _
    rw [e2]
    rfl
  · exact eOp_of (x := .tuple (os.map offD)) rfl rfl (ixT_off ho)
  · refine eCb_of (aCons_of (eL_of (lLc_map (es := ds.map PyData.int) (fun e => .bool (decide (decide (intOf e ∈ o) = decide (intOf e ∈ [a, b])))) rfl (by rw [List.length_map]; omega) fun e he => ?_)) rfl) ?_
    · obtain ⟨d, hd, rfl⟩ := List.mem_map.mp he
      exact ⟨_, rfl, eOp_of (eOp_of rfl rfl (fIn_tup d o)) (eOp_of rfl rfl (fIn_tup d [a, b])) rfl⟩
    · rw [fAll_map (fun e => decide (decide (intOf e ∈ o) = decide (intOf e ∈ [a, b]))), List.all_map]
      rfl
abbrev rP (m : Nat) (os : List (List Int)) (ds fs : List Int) : Rho := [.val (tabD m os), .val (.tuple [offD ds, offD fs]), .val (offD ds), .val (offD fs), .no, .no]
theorem links_all {m : Nat} {os : List (List Int)} {ds fs : List Int} (hl : ds.length ≤ 60) (e : ds.length = fs.length) (hf : ∀ i ∈ fs, 0 ≤ i ∧ i < (os.length : Int)) :
    eCb fAll (aCons (eL (lLc [4, 5] (iET (eVar 3)) (gT (gC (gN 4) (gC (gN 5) g0))) bYes (eCb q_links_neighbours (aCons (eVar 0) (aCons (eVar 2) (aCons (eVar 4) (aCons (eVar 5) aNil))))))) aNil) (rP m os ds fs) = some (.bool ((enumD (fs.map PyData.int)).all (linkB os ds))) := by
  refine eCb_of (aCons_of (eL_of (lLc_map (es := enumD (fs.map PyData.int)) (fun e => .bool (linkB os ds e)) rfl (by rw [enumD_len, List.length_map]; omega) fun x hx => ?_)) rfl) (fAll_map _ _)
  obtain ⟨k, y, h1, rfl⟩ := mem_enumD.mp hx
  rw [List.getElem?_map] at h1
  obtain ⟨f, h2, rfl⟩ := Option.map_eq_some_iff.mp h1
  have hk : k < ds.length := by
    have := (List.getElem?_eq_some_iff.mp h2).1
    omega
  have hm : (k + 1) % ds.length < ds.length := Nat.mod_lt _ (by omega)
  have ff := hf f (List.mem_of_getElem? h2)
  have ho : f.toNat < os.length := by omega
  exact ⟨_, rfl, eCb_of (aCons_of rfl (aCons_of rfl (aCons_of rfl (aCons_of rfl rfl)))) (q_links hl ff.1 (List.getElem?_eq_getElem hk) (List.getElem?_eq_getElem hm) (List.getElem?_eq_getElem ho))⟩
theorem link_iff {os : List (List Int)} {ds fs : List Int} (e : ds.length = fs.length) (hf : ∀ i ∈ fs, 0 ≤ i ∧ i < (os.length : Int)) : (enumD (fs.map PyData.int)).all (linkB os ds) = true ↔
    ∀ (k : Nat) (a b f : Int) (o : List Int), ds[k]? = some a → ds[(k + 1) % ds.length]? = some b → fs[k]? = some f → os[f.toNat]? = some o → ∀ d ∈ ds, (d ∈ o ↔ d = a ∨ d = b) := by
  rw [List.all_eq_true]
  constructor
  · intro h k a b f o ha hb hk ho d hd
    have := h _ (mem_enumD.mpr ⟨k, .int f, by rw [List.getElem?_map, hk]; rfl, rfl⟩)
    simp only [linkB, Int.toNat_natCast, ha, hb, ho, List.all_eq_true, decide_eq_true_eq, decide_eq_decide, List.mem_cons, List.not_mem_nil, or_false] at this
    exact this d hd
  · intro h x hx
    obtain ⟨k, y, h1, rfl⟩ := mem_enumD.mp hx
    rw [List.getElem?_map] at h1
    obtain ⟨f, h2, rfl⟩ := Option.map_eq_some_iff.mp h1
    have hk : k < ds.length := by
      have := (List.getElem?_eq_some_iff.mp h2).1
      omega
    have hm : (k + 1) % ds.length < ds.length := Nat.mod_lt _ (by omega)
    have ff := hf f (List.mem_of_getElem? h2)
    have ho : f.toNat < os.length := by omega
    have := h k _ _ f _ (List.getElem?_eq_getElem hk) (List.getElem?_eq_getElem hm) h2 (List.getElem?_eq_getElem ho)
    simp only [linkB, Int.toNat_natCast, List.getElem?_eq_getElem hk, List.getElem?_eq_getElem hm, List.getElem?_eq_getElem ho, List.all_eq_true, decide_eq_true_eq, decide_eq_decide, List.mem_cons, List.not_mem_nil, or_false]
    exact this
theorem off_inj {a b : List Int} (h : offD a = offD b) : a = b := by
  have : a.map PyData.int = b.map PyData.int := by injection h
  exact List.map_inj_right (fun x y z => by injection z) |>.mp this
/-- what the program answers -/
theorem prog {m : Nat} {os : List (List Int)} {x : PyData} (ok : okD x = true) : ∃ b : Bool, q_is_ring [tabD m os, x] = some (.bool b) ∧ (b = true ↔ ∃ ds fs, Ring m os x ds fs) := by
  by_cases h2 : tupLen x 2 = true
  · obtain ⟨D, F, rfl⟩ : ∃ D F, x = .tuple [D, F] := by
      match x, h2 with
      | .tuple [D, F], _ => exact ⟨D, F, rfl⟩
      | .tuple [], h => simp [tupLen] at h
      | .tuple [_], h => simp [tupLen] at h
      | .tuple (_ :: _ :: _ :: _), h =>
        simp only [tupLen, List.length_cons, decide_eq_true_eq] at h
        omega
    have okD1 : okD D = true := okT_mem ok D (by simp)
    have okF1 : okD F = true := okT_mem ok F (by simp)
    have c1 : (bOr (bNot (bTest (eCb q_is_distinct_below (aCons (eVar 2) (aCons (eOp fIxT (eVar 0) (eInt 0)) aNil))))) (bNot (bTest (eCb q_is_distinct_below (aCons (eVar 3) (aCons (eCb fLen (aCons (eOp fIxT (eVar 0) (eInt 1)) aNil)) aNil)))))) [.val (tabD m os), .val (.tuple [D, F]), .val D, .val F, .no, .no] = some (!(distB D m && distB F os.length)) := by
      have a := bNot_of (bTest_of (φ := eCb q_is_distinct_below (aCons (eVar 2) (aCons (eOp fIxT (eVar 0) (eInt 0)) aNil))) (ρ := [.val (tabD m os), .val (.tuple [D, F]), .val D, .val F, .no, .no]) (eCb_of (aCons_of rfl (aCons_of rfl rfl)) (q_dist (m : Int) okD1)))
      have b := bNot_of (bTest_of (φ := eCb q_is_distinct_below (aCons (eVar 3) (aCons (eCb fLen (aCons (eOp fIxT (eVar 0) (eInt 1)) aNil)) aNil))) (ρ := [.val (tabD m os), .val (.tuple [D, F]), .val D, .val F, .no, .no]) (eCb_of (aCons_of rfl (aCons_of (eCb_of (aCons_of (eOp_of (x := tabD m os) rfl rfl (tab1 m os)) rfl) (len_offs os)) rfl)) (q_dist ((os.length : Nat) : Int) okF1)))
      cases hd : distB D m with
      | false =>
        rw [hd] at a
        exact bOr_t a
      | true =>
        rw [hd] at a
        exact (bOr_f a).trans b
    have start : ∀ {r : Option Res}, (sSeq (sIf (bOr (bNot (bTest (eCb q_is_distinct_below (aCons (eVar 2) (aCons (eOp fIxT (eVar 0) (eInt 0)) aNil))))) (bNot (bTest (eCb q_is_distinct_below (aCons (eVar 3) (aCons (eCb fLen (aCons (eOp fIxT (eVar 0) (eInt 1)) aNil)) aNil)))))) (sRet (eBl false)) sNil)
        (sSeq (sIf (bOr (bTest (eOp fNe (eCb fLen (aCons (eVar 2) aNil)) (eCb fLen (aCons (eVar 3) aNil)))) (bTest (eOp fLt (eCb fLen (aCons (eVar 2) aNil)) (eInt 3)))) (sRet (eBl false)) sNil)
        (sRet (eCb fAll (aCons (eL (lLc [4, 5] (iET (eVar 3)) (gT (gC (gN 4) (gC (gN 5) g0))) bYes (eCb q_links_neighbours (aCons (eVar 0) (aCons (eVar 2) (aCons (eVar 4) (aCons (eVar 5) aNil))))))) aNil)))) ) [.val (tabD m os), .val (.tuple [D, F]), .val D, .val F, .no, .no] = r → (∀ b, r = some (.rt (.bool b)) → q_is_ring [tabD m os, .tuple [D, F]] = some (.bool b)) := fun h b hb =>
      runF_of rfl ((sSeq_nx ((sIf_f (bNot_of (bTest_of (eCb_of (aCons_of rfl (aCons_of rfl rfl)) (q_tupOf (.tuple [D, F]) 2))))).trans rfl)).trans ((sSeq_nx rfl).trans (h.trans hb)))
    by_cases hdf : (distB D m && distB F os.length) = true
    · rw [hdf] at c1
      rw [Bool.and_eq_true] at hdf
      obtain ⟨ds, rfl, d1, d2⟩ := dist_iff.mp hdf.1
      obtain ⟨fs, rfl, f1, f2⟩ := dist_iff.mp hdf.2
      have hl : ds.length ≤ 60 := by
        have := okL okD1
        rwa [List.length_map] at this
      have a1 : (bTest (eOp fNe (eCb fLen (aCons (eVar 2) aNil)) (eCb fLen (aCons (eVar 3) aNil)))) (rP m os ds fs) = some (!decide ((ds.length : Int) = (fs.length : Int))) := bTest_of (eOp_of (x := .int (ds.length : Nat)) (y := .int (fs.length : Nat)) (eCb_of (aCons_of rfl rfl) (len_off ds)) (eCb_of (aCons_of rfl rfl) (len_off fs)) rfl)
      have a2 : (bTest (eOp fLt (eCb fLen (aCons (eVar 2) aNil)) (eInt 3))) (rP m os ds fs) = some (decide ((ds.length : Int) < 3)) := bTest_of (eOp_of (x := .int (ds.length : Nat)) (eCb_of (aCons_of rfl rfl) (len_off ds)) rfl rfl)
      by_cases hlen : ds.length = fs.length ∧ 3 ≤ ds.length
      · rw [decide_eq_true (show (ds.length : Int) = (fs.length : Int) by omega)] at a1
        rw [decide_eq_false (show ¬ (ds.length : Int) < 3 by omega)] at a2
        refine ⟨_, start rfl _ ((sSeq_nx ((sIf_f c1).trans rfl)).trans ((sSeq_nx ((sIf_f ((bOr_f a1).trans a2)).trans rfl)).trans (sRet_of (links_all hl hlen.1 f1)))), ?_⟩
        rw [link_iff hlen.1 f1]
        constructor
        · intro h
          exact ⟨ds, fs, rfl, d1, d2, f1, f2, hlen.1, hlen.2, h⟩
        · rintro ⟨ds', fs', h⟩
          have e := h.eq
          injection e with e
          injection e with e1 e2
          injection e2 with e2 _
          obtain rfl := off_inj e1
          obtain rfl := off_inj e2
          exact h.link
      · refine ⟨false, start rfl _ ((sSeq_nx ((sIf_f c1).trans rfl)).trans (sSeq_rt ((sIf_t ?_).trans rfl))), ?_⟩
        · by_cases he : ds.length = fs.length
          · rw [decide_eq_true (show (ds.length : Int) = (fs.length : Int) by omega)] at a1
            rw [decide_eq_true (show (ds.length : Int) < 3 by omega)] at a2
            exact (bOr_f a1).trans a2
          · rw [decide_eq_false (show ¬ (ds.length : Int) = (fs.length : Int) by omega)] at a1
            exact bOr_t a1
        · refine ⟨fun z => (by cases z), ?_⟩
          rintro ⟨ds', fs', h⟩
          have e := h.eq
          injection e with e
          injection e with e1 e2
          injection e2 with e2 _
          obtain rfl := off_inj e1
          obtain rfl := off_inj e2
          exact absurd ⟨h.len, h.len3⟩ hlen
    · refine ⟨false, start rfl _ (sSeq_rt ((sIf_t ?_).trans rfl)), ?_⟩
      · rw [c1]
        cases hz : (distB D m && distB F os.length) with
        | true => exact absurd hz hdf
        | false => rfl
      · refine ⟨fun z => (by cases z), ?_⟩
        rintro ⟨ds', fs', h⟩
        have e := h.eq
        injection e with e
        injection e with e1 e2
        injection e2 with e2 _
        refine absurd ?_ hdf
        rw [Bool.and_eq_true]
        exact ⟨dist_iff.mpr ⟨ds', e1, h.d1, h.d2⟩, dist_iff.mpr ⟨fs', e2, h.f1, h.f2⟩⟩
  · refine ⟨false, runF_of rfl (sSeq_rt ((sIf_t (bNot_of (b := false) (bTest_of (eCb_of (aCons_of rfl (aCons_of rfl rfl)) ?_)))).trans rfl)), ?_⟩
    · exact (q_tupOf x 2).trans (by rw [Bool.not_eq_true] at h2; rw [h2])
    · refine ⟨fun z => (by cases z), ?_⟩
      rintro ⟨ds', fs', h⟩
      exact absurd (by rw [h.eq]; rfl) h2
end Pu

set_option Elab.async false
set_option linter.all false
set_option maxRecDepth 100000
namespace Pu
open PySem PySem.Spec PyProof.Rows L2 Pb
/-! ### what the law asks -/
abbrev r0 (T x D F : PyData) (s4 s5 s6 s7 s8 s9 s10 : Sl) : Rho := [.val T, .val x, .val D, .val F, s4, s5, s6, s7, s8, s9, s10]
end Pu

set_option Elab.async false
set_option linter.all false
set_option maxRecDepth 100000
namespace Pu
open PySem PySem.Spec PyProof.Rows L2 Pb
section
variable {P : Program} {w : World} {K : PySem.W.Frag} {mg : Str → Option Value} {base : Heap}
end
end Pu

set_option Elab.async false
set_option linter.all false
set_option maxRecDepth 100000
namespace Pu
open PySem PySem.Spec PyProof.Rows L2 Pb
section
variable {P : Program} {w : World} {K : PySem.W.Frag} {mg : Str → Option Value} {base : Heap}
def w__law_one : Addr → List PyData → Int → (PyData → Int → Prop) → Prop := runW 2 2 fun d =>
  (twRet (wOp fIxT (wP (eVar 1)) (wDraw d 0 WNextW (wCons (wP (eCb fLen (aCons (eVar 1) aNil))) wNil))))
end
end Pu

set_option Elab.async false
set_option linter.all false
set_option maxRecDepth 100000
/-! sorted(set(l)), any number of ints -/
namespace Pb
open PySem PySem.Spec PyProof.Rows L2
section
variable {P : Program} {w : World} {A : Around} {E : Value → Shared → Prop} {s : Shared} {a : Addr}
theorem sorted_many {S : Int → Bool} {n : Nat} {Q : Value → Shared → Prop} (R : SetR w s.heap a S n) (hh : A.handled = none)
    (hQ : ∀ s' p (out : Array Value) (c : Nat) (ns : List Int), (∀ b o, s.heap.get? b = some o → s'.heap.get? b = some o) → s'.gens = s.gens → s'.os = s.os → s.heap.objs.size ≤ p →
      s'.heap.get? p = some (seqObj "list" out c) → IntsAre out.toList ns → ns.Pairwise (· < ·) → (∀ k, k ∈ ns ↔ S k = true) → ns.length = n → n ≤ 4096 → Q (.ref p) s') :
    wpAny (model P w) A (call (.builtin "sorted") [.ref a]) Q E s := by
  obtain ⟨o, es, ep, t, ho, hex, hd, g, nd, hm, hb, hf, hn, hr, hl⟩ := R
  have n4 : n ≤ 4096 := by
    unfold scanBound at hb
    omega
  refine Calls.call_function_entry kind_sorted plain_sorted entry_sorted (args_sorted1 _) ?_
  unfold Builtin.«sorted»
  refine wpAny_bind (m := checkCount "sorted" 1 1 _) (wpAny_pure ?_)
  refine wpAny_bind (collect_set (A := A.in1) hh ⟨o, ho, hex.1, hd⟩ hf hb hr hl fun s1 vs keep size1 gens1 os1 pm => ?_)
  have vl : vs.length = n := by
    rw [pm.length_eq, List.length_map, Array.length_toList]
    exact hn
  have vi : ∀ v ∈ vs, ∃ i tk, v = Value.int i tk := fun v hv => by
    obtain ⟨e, he, q⟩ := List.mem_map.mp (pm.mem_iff.mp hv)
    obtain ⟨k, tk, h1, _⟩ := g e he
    exact ⟨k, tk, q ▸ h1⟩
  have hI := SrtO.ints_iv vi
  have pk : (vs.map SrtO.iv).Perm (es.toList.map keyOf) := by
    have h1 := pm.map SrtO.iv
    have h2 : (es.toList.map (·.2)).map SrtO.iv = es.toList.map keyOf := by
      rw [List.map_map]
      refine List.map_congr_left fun e he => ?_
      obtain ⟨k, tk, h1, _⟩ := g e he
      show SrtO.iv e.2 = Builtin.Re.reRawOf e.2
      rw [h1]
      rfl
    rwa [h2] at h1
  refine wpAny_bind (wpAny_newList ?_ (by rw [vl, sizeLine_eq]; omega))
  have ob : (s1.heap.push (seqObj "list" vs.toArray 0)).get? s1.heap.objs.size = some (seqObj "list" vs.toArray 0) := Heap.get?_push_size _ rfl
  refine wpAny_bind (wpAny_holding (wpAny_call_entry slot_list_sort ⟨_, ob, rfl⟩ entry_list_sort (SrtO.list_sort_ord SrtO.swo_int ob (by rw [vl, sizeLine_eq]; omega) (fun h2 => SrtO.ints_sortable hI h2) fun out h1 h2 => ⟨.none, rfl, ?_⟩) (args_list_sort _)))
  obtain ⟨k1, k2, k3⟩ := SrtO.ints_out hI h1 h2
  obtain ⟨c, hc⟩ := sortedHeap_at (vs := vs) (out := out.toArray) ob
  have pn := k2.trans pk
  refine wpAny_pure ⟨_, rfl, hQ _ s1.heap.objs.size out.toArray c (out.map SrtO.iv) (fun b u e => ?_) gens1 os1 size1 hc (by simpa using k1) (lt_of_le_nodup _ k3 (pn.nodup_iff.mpr nd)) (fun k => by rw [pn.mem_iff, ← hm k]) ?_ n4⟩
  · have q := keep b u e
    have lt := Heap.lt_size q
    show (sortedHeap (s1.heap.push (seqObj "list" vs.toArray 0)) s1.heap.objs.size vs out.toArray).get? b = some u
    rw [sortedHeap_old (Nat.ne_of_lt lt) (by rw [size_push']; exact Nat.lt_succ_of_lt lt)]
    exact Heap.get?_push_of_some _ q
  · rw [pn.length_eq, List.length_map, Array.length_toList]
    exact hn
end
section
variable {X : Cx}
def rSortedSetN (w : World) : List V → Hp → VK → Prop := fun vs H Q => ∃ (a : Addr) (S : Int → Bool) (n : Nat), vs = [V.ref a] ∧ H a = some (SetO w a S n) ∧
  ∀ (ns : List Int) (p : Addr), ns.Pairwise (· < ·) → (∀ k : Int, k ∈ ns ↔ S k = true) → ns.length = n → H p = none → Q (.ref p) (upd H p (.lst (ns.map V.int)))
theorem cr_sortedSetN (hc : X.calm = true) : CallR X (.builtin "sorted") (rSortedSetN X.w) := by
  intro pins s σ H vs us Q I r h
  obtain ⟨a, S, n, rfl, ha, q⟩ := h
  have R := setO_get I ha
  rw [Vals.ref1 r]
  refine sorted_many R (I.ok.hd hc) fun s' p out c ns keep gens1 os1 hp hg hi hs hm hl n4 => ?_
  have len : (ns.map V.int).length ≤ sizeLine := by rw [List.length_map, hl, sizeLine_eq]; omega
  have hn : H p = none := I.hok.fresh hp
  have J : Inv X pins σ (upd H p (.lst (ns.map V.int))) { s with heap := s'.heap, gens := s'.gens, drawn := s'.drawn, toks := s'.toks } :=
    I.call (ch := []) (Un.laid keep hp hn) (I.hok.laid keep hp ⟨len, out.toList, c, vals_of_ints hi, hg⟩) (by rw [gens1]; exact I.bare) (fun _ z => nomatch z)
  have e : s' = { s with heap := s'.heap, gens := s'.gens, drawn := s'.drawn, toks := s'.toks } := by
    cases s'
    cases s
    cases os1
    rfl
  rw [e]
  exact ⟨.ref p, _, J, rfl, q ns p hs hm hl hn⟩
end
/-- sorted(set(l)) of up to 1000 ints -/
def lSortUM (φ : Rho → Option PyData) : Rho → Option (List PyData) := fun ρ => ((φ ρ).bind asL).bind fun es => (intsD es).bind fun ns => if ns.length ≤ 1000 then some ((sortU ns).map .int) else none
theorem xf_sortUM {K : PySem.W.Frag} {w : World} {te : TE} {φ : Rho → Option PyData} (h : EvTr K te φ) : EvF K (tCB (rSortedSetN w) (tCons (tCB (rSetL K w) (tCons te tNil)) tNil)) (lSortUM φ) := fun S H0 G T ow ρ σ H es sm he Q q => by
  obtain ⟨ds, h1, h2⟩ := Option.bind_eq_some_iff.mp he
  obtain ⟨x, h3, h4⟩ := Option.bind_eq_some_iff.mp h1
  obtain rfl := asL_some h4
  obtain ⟨ns, h5, h6⟩ := Option.bind_eq_some_iff.mp h2
  split at h6
  · rename_i hl
    cases h6
    refine h S H0 G T ow ρ σ H _ sm h3 _ fun v H1 s1 hv => ?_
    obtain ⟨p, xs, rfl, hq, hd⟩ := hv.lst
    rw [ints_v hd h5] at hq
    refine ⟨p, ns, rfl, hq, by omega, fun t c hc ht => ⟨t, _, c, rfl, upd_same, fun ns' p' srt mem _ np' => ?_⟩⟩
    have e : ns' = sortU ns := strict_eq srt sortU_lt fun k => by rw [mem, sortU_mem, decide_eq_true_eq]
    subst e
    have s2 : Same H1 (upd H1 t (SetO w t (fun j => decide (j ∈ ns)) c)) := same_upd ht
    exact q p' _ _ ((s1.trans s2).trans (same_upd np')) ((s1.trans s2).free np') upd_same (DaAll.ints _)
  · cases h6
end Pb

set_option Elab.async false
set_option linter.all false
set_option maxRecDepth 100000
namespace Pb
open PySem PySem.Spec PyProof.Rows L2
/-! ### a comprehension over a drawn tuple -/
section
variable {K : PySem.W.Frag} {d : Addr}
theorem lcw_at {g : TG} {tt : TT} {te : TE} {vs js : List Nat} {τ : PyData → Rho → Option Rho} {β : Rho → Option Bool} {Φ : Rho → Int → (PyData → Int → Prop) → Prop} (hg : TgP K g js τ) (ht : TeP K tt β) (he : EvW K d te Φ) (hj : ∀ j ∈ js, j ∈ vs)
    {S : List Addr} {H0 : Hp} {b c : Addr} {n : Int} {G : Hp → Prop} {T ow : List Addr} {ρ : Rho} {σ : L2.St} {H : Hp} {P : List PyData → Int → Prop} {J : It} {es : List PyData} (sm : SimW K S H0 d b c n G T ow ρ σ H) (hJ : ItOk K T H J es) (hl : es.length ≤ 100000) (h1 : lcW τ β Φ (wipeR ρ vs) es n P) (Q : VK)
    (q : ∀ p vs es n' H', P es n' → Dr d b c n' H n' H' → H p = none → H' p = some (.lst vs) → DaAll K (hs (p :: T) H') vs es → Q (.ref p) H') : tLc (fun _ H R => R J H) g tt te vs σ H Q := by
  have s1 : Same H H := Same.refl _
  obtain ⟨F, Gw, Yw, mo, f0, wk, hG, hY⟩ := hJ
  intro D hD
  have sm1 := sm.mono s1
  have offD' := sm1.ck.dk.off hD
  have hD0 : H D = none := s1.free hD
  -- with the new list hidden
  have W0 : SimW K S H0 d b c n (fun X => G X ∧ F X) (D :: T) ow (wipeR ρ vs) (L2.wipe σ vs) (upd H D (.lst [])) := by
    have hh := (sm1.co.wipe vs).hide (D := D) (vs := []) hD
    exact ⟨hh.weak (fun H H' s h => ⟨sm.co.mo _ _ s h.1, mo _ _ s h.2⟩) ⟨hh.fr, mo _ _ (hs_cons_new hD) f0⟩, ⟨sm1.ck.dk.same (same_upd hD), List.mem_cons_of_mem _ sm.ck.hd, List.mem_cons_of_mem _ sm.ck.hb, hh.tr⟩, sm1.old.trans (msk_same (same_upd hD)), sm.new, fun a ha => List.mem_cons_of_mem _ (sm.sub a ha), sm.trS⟩
  have hDo : D ∉ ow := fun z => by
    obtain ⟨o, eo⟩ := sm1.co.tr D (sm1.co.owT D z)
    rw [hD] at eo
    cases eo
  refine lc_it wk (fun i H' => ∃ (acc : List V) (ys1 : List PyData) (n1 : Int), H' D = some (.lst acc) ∧ DaAll K (hs (D :: T) H') acc ys1 ∧ ys1.length ≤ i ∧ lcW τ β Φ (wipeR ρ vs) (es.drop i) n1 (fun ys2 n2 => P (ys1 ++ ys2) n2) ∧
      SimW K S H0 d b c n1 (fun X => G X ∧ F X) (D :: T) ow (wipeR ρ vs) (L2.wipe σ vs) H' ∧ (∀ a o, a ≠ D → a ≠ d → a ≠ b → H a = some o → H' a = some o)) ?_ ?_ ?_ ?_
  · exact ⟨[], [], n, upd_same, .nil, Nat.le_refl _, by simpa using h1, W0, fun a o hne _ _ e => by rw [upd_ne hne]; exact e⟩
  · rintro i H' _ ⟨acc, ys1, n1, _, _, _, _, sm', _⟩
    exact hG _ _ sm'.co.fr.2
  · rintro i x H2 H3 hlt ⟨acc, ys1, n1, e1, e2, e3, e4, sm', old⟩ y
    obtain ⟨s3, e, he3, hx⟩ := hY _ H2 i x H3 sm'.co.fr.2 sm'.co.tr hlt y
    have dr : es.drop i = e :: es.drop (i + 1) := by
      rw [List.drop_eq_getElem_cons hlt]
      congr 1
      rw [List.getElem?_eq_getElem hlt] at he3
      exact Option.some.inj he3
    rw [dr] at e4
    obtain ⟨ρ', k1, x', k3, k4⟩ := e4
    have sm3 := sm'.mono s3
    refine hg _ _ _ _ ow _ _ H3 x e ρ' sm3.co hx k1 _ fun σ2 sm4 wp => ⟨?_, ?_⟩
    · rw [wp vs hj, wipe_wipe σ vs vs fun _ h => h]
    · refine ht _ _ _ _ ow ρ' σ2 H3 x' sm4 k3 _ fun H4 s4 => ?_
      have s24 := s3.trans s4
      have sm4w : SimW K S H0 d b c n1 (fun X => G X ∧ F X) (D :: T) ow ρ' σ2 H4 := (sm3.putV sm4).mono s4
      cases x' with
      | true =>
        rw [if_pos rfl]
        refine he S H0 b c n1 _ _ ow ρ' σ2 H4 _ sm4w (by simpa using k4) _ fun v z n2 H5 hz d5 hv => ?_
        have d25 : Dr d b c n2 H2 n2 H5 := (Dr.pure sm'.ck.dk s24).then d5
        have sm5 := sm'.draw d25
        have la := DaAll.len e2
        have eD := d25.at offD' e1
        refine ⟨acc, eD, Evl.sz_lt (by omega), acc ++ [v], ys1 ++ [z], n2, upd_same, ?_, by simp; omega, by simpa using hz, ?_, fun a o hne h1' h2' ea => ?_⟩
        · rw [hs_put List.mem_cons_self]
          exact (e2.mono (sm'.ck.sm d25)).append (.cons hv .nil)
        · have dkP : Dk d b c n2 (upd H5 D (.lst (acc ++ [v]))) := sm5.ck.dk.put offD'
          have trP : Tr (D :: T) (upd H5 D (.lst (acc ++ [v]))) := fun a ha => by
            by_cases z : a = D
            · rw [z]
              exact ⟨_, upd_same⟩
            · rw [upd_ne z]
              exact sm5.co.tr a ha
          refine ⟨?_, ⟨dkP, sm5.ck.hd, sm5.ck.hb, trP⟩, ?_, sm5.new, sm5.sub, sm5.trS⟩
          · exact
              { len := sm5.co.len, inj := sm5.co.inj, new := sm5.co.new, sub := sm5.co.sub, owT := sm5.co.owT, trS := sm5.co.trS, mo := sm5.co.mo, old := fun _ _ e => (by cases e), tr := trP,
                fr := by
                  rw [hs_put List.mem_cons_self]
                  exact sm5.co.fr
                lsT := fun a ha => by
                  by_cases z : a = D
                  · rw [z]
                    exact .inr ⟨_, upd_same⟩
                  · exact (sm5.co.lsT a ha).imp id fun ⟨xs, e⟩ => ⟨xs, by rw [upd_ne z]; exact e⟩
                slot := fun j sl ej => by
                  obtain ⟨o, ho, hs'⟩ := sm5.co.slot j sl ej
                  refine ⟨o, ho, hs'.move (by rw [hs_put List.mem_cons_self]; exact Same.refl _) fun fo ws eo m1 m2 => ⟨m1, ?_⟩⟩
                  have ne : fo ≠ D := fun z => by
                    rw [z] at m1
                    exact hDo m1
                  rw [upd_ne ne]
                  exact m2 }
          · intro a o ea
            have := sm5.old a o ea
            obtain ⟨z1, z2, z3⟩ := msk_some this
            have ne : a ≠ D := fun z => by
              have w := sm.old a o ea
              rw [msk_ne z1 z2, z, hD0] at w
              cases w
            rw [msk_ne z1 z2, upd_ne ne]
            exact z3
        · rw [upd_ne hne]
          have := d25.sm a o (by rw [msk_ne h1' h2']; exact old a o hne h1' h2' ea)
          rw [msk_ne h1' h2'] at this
          exact this
      | false =>
        rw [if_neg Bool.false_ne_true]
        exact ⟨acc, ys1, n1, s24 _ _ e1, e2.mono (hs_mono s24), by omega, by simpa using k4, sm'.mono s24, fun a o hne h1' h2' ea => s24 _ _ (old a o hne h1' h2' ea)⟩
  · rintro H' ⟨acc, ys1, n1, e1, e2, _, e4, sm', old⟩
    rw [List.drop_length] at e4
    have e4' : P (ys1 ++ []) n1 := e4
    rw [List.append_nil] at e4'
    refine q D acc ys1 n1 H' e4' ⟨sm'.ck.dk, Int.le_refl _, fun a o ea => ?_⟩ hD0 e1 e2
    obtain ⟨z1, z2, z3⟩ := msk_some ea
    rw [msk_ne z1 z2]
    refine old a o (fun z => ?_) z1 z2 (s1 _ _ z3)
    rw [z, hD0] at z3
    cases z3
def wfLcT (vs : List Nat) (it : Rho → Int → (PyData → Int → Prop) → Prop) (τ : PyData → Rho → Option Rho) (β : Rho → Option Bool) (Φ : Rho → Int → (PyData → Int → Prop) → Prop) : Rho → Int → (List PyData → Int → Prop) → Prop := fun ρ n P => it ρ n fun x n1 => ∃ es, asT x = some es ∧ es.length ≤ 100000 ∧ lcW τ β Φ (wipeR ρ vs) es n1 P
theorem xfw_lcT {ti te : TE} {g : TG} {tt : TT} {vs js : List Nat} {it : Rho → Int → (PyData → Int → Prop) → Prop} {τ : PyData → Rho → Option Rho} {β : Rho → Option Bool} {Φ : Rho → Int → (PyData → Int → Prop) → Prop} (hi : EvW K d ti it) (hg : TgP K g js τ) (ht : TeP K tt β) (he : EvW K d te Φ) (hj : ∀ j ∈ js, j ∈ vs := by decide) :
    EvFW K d (tLc (iTup K ti) g tt te vs) (wfLcT vs it τ β Φ) := fun S H0 b c n G T ow ρ σ H P sm h1 Q q =>
  hi S H0 b c n G T ow ρ σ H _ sm h1 _ fun v e n1 H1 ⟨es, he1, hl, k⟩ d1 hv => by
    obtain rfl := asT_some he1
    cases hv with
    | @tup a xs _ k1 k2 =>
      exact ⟨a, rfl, ⟨xs, Same.tq hs_sub k1⟩, lcw_at hg ht he hj (sm.draw d1) (it_tup k1 k2) hl k Q fun p us fs n2 H2 hP d2 hp1 hp2 hd => q p us fs n2 H2 hP (d1.then d2) (d1.free hp1) hp2 hd⟩
end
end Pb

set_option Elab.async false
set_option linter.all false
set_option maxRecDepth 100000
namespace Pb
open PySem PySem.Spec PyProof.Rows L2
/-! ### locked tuples of numbers: known to have no dict, so that their methods are found -/
/-! in words -/
section
variable {K : PySem.W.Frag}
theorem PlO.da {X : Hp} {v : V} {ns : List Int} (h : PlO X (some v) ns) : Da K X v (offD ns) := by
  obtain ⟨a, b, e, h1, _⟩ := h
  cases e
  exact .tup (.inl (.inr ⟨b, h1⟩)) (DaAll.ints ns)
/-! drawn: a def that gives a locked tuple -/
variable {d : Addr}
/-! _law_shuffled gives a locked tuple -/
end
end Pb

set_option Elab.async false
set_option linter.all false
set_option maxRecDepth 100000
namespace Pb
open PySem PySem.Spec PyProof.Rows L2
/-! ### texts -/
section
variable {K : PySem.W.Frag}
/-- str(i) -/
def tx (i : Int) : Str := toString i
def fStrI : List PyData → Option PyData
  | [.int i] => if i.natAbs.log2 < 1920 then some (.str (tx i)) else none
  | _ => none
theorem cs_strI : CbS K (fun xs H Q => ∃ i, xs = [.int i] ∧ i.natAbs.log2 < 1920 ∧ Q (.str (toString i)) H) fStrI := fun T H xs ds e tr h he Q q => by
  unfold fStrI at he
  split at he
  · split at he
    · rename_i hl
      cases he
      cases h with
      | cons h1 h2 =>
        cases h2
        exact ⟨_, by rw [h1.int], hl, q _ H (Same.refl _) (.str _)⟩
    · cases he
  · cases he
/-- int(z) -/
def fIntS : List PyData → Option PyData
  | [.str a] => if a.length ≤ 640 then (PySem.intText? a).map PyData.int else none
  | _ => none
theorem cs_intS : CbS K (fun xs H Q => ∃ a n, xs = [.str a] ∧ PySem.intText? a = some n ∧ a.length ≤ 640 ∧ Q (.int n) H) fIntS := fun T H xs ds e tr h he Q q => by
  unfold fIntS at he
  split at he
  · rename_i a
    split at he
    · rename_i hl
      obtain ⟨n, h3, rfl⟩ := Option.map_eq_some_iff.mp he
      cases h with
      | cons h1 h2 =>
        cases h2
        exact ⟨a, n, by rw [h1.str], h3, hl, q _ H (Same.refl _) (.int _)⟩
    · cases he
  · cases he
/-- len(z) -/
def fLenS : List PyData → Option PyData
  | [.str a] => if a.length ≤ 100000 then some (.int (a.length : Nat)) else none
  | _ => none
theorem cs_lenS : CbS K (fun xs H Q => ∃ z, xs = [.str z] ∧ z.length ≤ sizeLine ∧ Q (.int z.length) H) fLenS := fun T H xs ds e tr h he Q q => by
  unfold fLenS at he
  split at he
  · rename_i a
    split at he
    · rename_i hl
      cases he
      cases h with
      | cons h1 h2 =>
        cases h2
        exact ⟨a, by rw [h1.str], Evl.sz_of hl, q _ H (Same.refl _) (.int _)⟩
    · cases he
  · cases he
/-- a + b -/
def fAddS : PyData → PyData → Option PyData
  | .str a, .str b => if a.length + b.length ≤ 100000 then some (.str (a ++ b)) else none
  | _, _ => none
/-- a + b of texts -/
def rCatTx : V → V → Hp → VK → Prop := fun x y H Q => ∃ i j, x = .str i ∧ y = .str j ∧ i.length + j.length ≤ sizeLine ∧ Q (.str (i ++ j)) H
theorem os_addS : OpS K rCatTx fAddS := fun T H x y d1 d2 e tr h1 h2 he Q q => by
  unfold fAddS at he
  split at he
  · rename_i a b
    split at he
    · rename_i hl
      cases he
      exact ⟨a, b, h1.str, h2.str, Evl.sz_of hl, q _ H (Same.refl _) (.str _)⟩
    · cases he
  · cases he
theorem op_addS {X : Cx} : OpR X (binaryOp .Add) rCatTx := op_add_str
/-- z[i] -/
def fIxS : PyData → PyData → Option PyData
  | .str z, .int i => if z.length ≤ 100000 then (atI z.cps.toList i).map fun c => .str ⟨#[c]⟩ else none
  | _, _ => none
theorem os_ixS : OpS K rIxS fIxS := fun T H x y d1 d2 e tr h1 h2 he Q q => by
  unfold fIxS at he
  split at he
  · rename_i z i
    split at he
    · rename_i hl
      obtain ⟨c, h3, rfl⟩ := Option.map_eq_some_iff.mp he
      exact ⟨z, i, c, h1.str, h2.int, Evl.sz_of hl, h3, q _ H (Same.refl _) (.str _)⟩
    · cases he
  · cases he
/-! methods -/
abbrev rTx0 (g : Str → V) : V → List V → Hp → VK → Prop := fun x xs H Q => ∃ a, x = .str a ∧ xs = [] ∧ True ∧ Q (g a) H
def fDig : PyData → Option PyData
  | .str a => some (.bool (Txt.isdigit a))
  | _ => none
def fAsc : PyData → Option PyData
  | .str a => some (.bool (Txt.isascii a))
  | _ => none
theorem xs_dig {td : TE} {φ : Rho → Option PyData} (h : EvTr K td φ) : EvS K (tBM0 K "str" (rTx0 fun a => .bl (Txt.isdigit a)) td) (eUn fDig φ) := fun S H0 G T ow ρ σ H e sm he Q q => by
  obtain ⟨x, h1, h2⟩ := Option.bind_eq_some_iff.mp he
  unfold fDig at h2
  split at h2
  · rename_i a
    cases h2
    refine h S H0 G T ow ρ σ H _ sm h1 _ fun v H1 s1 hv => ?_
    rw [hv.str]
    exact ⟨rfl, a, rfl, rfl, trivial, q _ H1 s1 (.bl _)⟩
  · cases h2
theorem xs_asc {td : TE} {φ : Rho → Option PyData} (h : EvTr K td φ) : EvS K (tBM0 K "str" (rTx0 fun a => .bl (Txt.isascii a)) td) (eUn fAsc φ) := fun S H0 G T ow ρ σ H e sm he Q q => by
  obtain ⟨x, h1, h2⟩ := Option.bind_eq_some_iff.mp he
  unfold fAsc at h2
  split at h2
  · rename_i a
    cases h2
    refine h S H0 G T ow ρ σ H _ sm h1 _ fun v H1 s1 hv => ?_
    rw [hv.str]
    exact ⟨rfl, a, rfl, rfl, trivial, q _ H1 s1 (.bl _)⟩
  · cases h2
def strsD : List PyData → Option (List Str)
  | [] => some []
  | .str a :: ds => (strsD ds).map (a :: ·)
  | _ :: _ => none
theorem strs_v {H : Hp} : ∀ {vs : List V} {ds : List PyData} {ys : List Str}, DaAll K H vs ds → strsD ds = some ys → vs = ys.map V.str
  | _, _, ys, .nil, h => by
    cases h
    rfl
  | _, d :: ds, ys, .cons h1 h2, h => by
    unfold strsD at h
    split at h
    · rename_i e
      cases e
    · rename_i a ds' e
      cases e
      obtain ⟨zs, h3, rfl⟩ := Option.map_eq_some_iff.mp h
      cases h1
      rw [strs_v h2 h3]
      rfl
    · cases h
theorem DaAll.strs {H : Hp} : ∀ ys : List Str, DaAll K H (ys.map V.str) (ys.map PyData.str)
  | [] => .nil
  | y :: ys => .cons (.str y) (DaAll.strs ys)
theorem strsD_map : ∀ ys : List Str, strsD (ys.map PyData.str) = some ys
  | [] => rfl
  | y :: ys => by
    show (strsD (ys.map PyData.str)).map (y :: ·) = _
    rw [strsD_map ys]
    rfl
abbrev rJoin (K : PySem.W.Frag) : V → List V → Hp → VK → Prop := fun x xs H Q => ∃ a p, ∃ ys : List Str, x = .str a ∧ xs = [.ref p] ∧ (SqL K H p (ys.map V.str) ∨ SqT K H p (ys.map V.str)) ∧
    (ys.map (·.length)).sum + ys.length * a.length ≤ 16777216 ∧ Q (.str (Txt.join a ys)) H
def fJoin : PyData → PyData → Option PyData
  | .str a, d => ((seqD d).bind strsD).bind fun ys => if (ys.map (·.length)).sum + ys.length * a.length ≤ 100000 then some (.str (Txt.join a ys)) else none
  | _, _ => none
theorem fJoin_of {a : Str} {ys : List Str} (h : (ys.map (·.length)).sum + ys.length * a.length ≤ 100000) : fJoin (.str a) (.list (ys.map PyData.str)) = some (.str (Txt.join a ys)) := by
  show ((strsD (ys.map PyData.str)).bind _) = _
  rw [strsD_map]
  show (if _ then _ else _) = _
  rw [if_pos h]
theorem mt_joinK {X : Cx} {K : PySem.W.Frag} (h : X.K = K) : MtR X "str.join" (rJoin K) := h ▸ mt_join
theorem xs_join {td ty : TE} {φ ψ : Rho → Option PyData} (h : EvS K td φ) (k : EvTr K ty ψ) : EvS K (tBM K "str" (rJoin K) td (tCons ty tNil)) (eOp fJoin φ ψ) := fun S H0 G T ow ρ σ H e sm he Q q => by
  obtain ⟨x, h1, h2⟩ := Option.bind_eq_some_iff.mp he
  obtain ⟨y, h3, h4⟩ := Option.bind_eq_some_iff.mp h2
  unfold fJoin at h4
  split at h4
  · rename_i d2 a
    obtain ⟨ys, h5, h6⟩ := Option.bind_eq_some_iff.mp h4
    obtain ⟨es, h7, h8⟩ := Option.bind_eq_some_iff.mp h5
    split at h6
    · rename_i hl
      cases h6
      refine h S H0 G T ow ρ σ H _ sm h1 _ fun v H1 s1 hv => ?_
      cases hv
      refine ⟨rfl, k S H0 G T ow ρ σ H1 _ (sm.mono s1) h3 _ fun u H2 s2 hu => ?_⟩
      obtain ⟨p, zs, rfl, hq, hd⟩ := seq_of hu h7
      rw [strs_v hd h8] at hq
      exact ⟨a, p, ys, rfl, rfl, hq, Nat.le_trans hl (by decide), q _ _ (s1.trans s2) (.str _)⟩
    · cases h6
  · cases h4
/-- z.split(sep): a new list -/
abbrev rSplit : V → List V → Hp → VK → Prop := fun x xs H Q => ∃ a b, x = .str a ∧ xs = [.str b] ∧ (b.length == 0) = false ∧ a.length + 2 ≤ sizeLine ∧ rNewStrs (Txt.split a b) H Q
def fSplit : PyData → PyData → Option (List PyData)
  | .str a, .str b => if (b.length == 0) = false ∧ a.length + 2 ≤ 100000 then some ((Txt.split a b).map PyData.str) else none
  | _, _ => none
def lSplit (φ ψ : Rho → Option PyData) : Rho → Option (List PyData) := fun ρ => (φ ρ).bind fun x => (ψ ρ).bind fun y => fSplit x y
theorem lSplit_of {φ ψ : Rho → Option PyData} {ρ : Rho} {a b : Str} (h : φ ρ = some (.str a)) (k : ψ ρ = some (.str b)) (hb : (b.length == 0) = false) (hl : a.length + 2 ≤ 100000) : lSplit φ ψ ρ = some ((Txt.split a b).map PyData.str) := by
  unfold lSplit
  rw [h, k]
  show (if _ then _ else _) = _
  rw [if_pos ⟨hb, hl⟩]
theorem xf_split {td ty : TE} {φ ψ : Rho → Option PyData} (h : EvS K td φ) (k : EvS K ty ψ) : EvF K (tBM K "str" rSplit td (tCons ty tNil)) (lSplit φ ψ) := fun S H0 G T ow ρ σ H es sm he Q q => by
  obtain ⟨x, h1, h2⟩ := Option.bind_eq_some_iff.mp he
  obtain ⟨y, h3, h4⟩ := Option.bind_eq_some_iff.mp h2
  unfold fSplit at h4
  split at h4
  · rename_i a b
    split at h4
    · rename_i hl
      cases h4
      refine h S H0 G T ow ρ σ H _ sm h1 _ fun v H1 s1 hv => ?_
      cases hv
      refine ⟨rfl, k S H0 G T ow ρ σ H1 _ (sm.mono s1) h3 _ fun u H2 s2 hu => ?_⟩
      cases hu
      refine ⟨a, b, rfl, rfl, hl.1, Evl.sz_of hl.2, fun p hp => ?_⟩
      have s3 := s1.trans s2
      exact q p _ _ (s3.trans (same_upd hp)) (s3.free hp) upd_same (DaAll.strs _)
    · cases h4
  · cases h4
/-! f'..{i}..' -/
end
end Pb

set_option Elab.async false
set_option linter.all false
set_option maxRecDepth 100000
namespace Pt
open PySem PySem.Spec PyProof.Rows L2 Pb
abbrev Am (x : Int) : Prop := 0 ≤ x ∧ x ≤ 1000000000000
theorem tl_tx {x : Int} (h : 0 ≤ x) : TL.tl (tx x) = TL.numL x.toNat := by
  have := TL.tl_num x.toNat
  rwa [Int.toNat_of_nonneg h] at this
theorem tx_len {x : Int} (h : Am x) : (tx x).length ≤ 13 := by
  rw [TL.len_tl, tl_tx h.1]
  exact TL.numL_len (by decide) (by have := h.2; have : x.toNat ≤ 1000000000000 := by omega
                                    exact Nat.lt_of_le_of_lt this (by decide))
theorem tx_log {x : Int} (h : Am x) : x.natAbs.log2 < 1920 := by
  have b : x.natAbs ≤ 1000000000000 := by have := h.1; have := h.2; omega
  by_cases z : x.natAbs = 0
  · rw [z]
    decide
  · exact (Nat.log2_lt z).mpr (Nat.lt_of_le_of_lt b (by decide +kernel))
theorem str_i {x : Int} (h : Am x) : fStrI [.int x] = some (.str (tx x)) := by
  show (if x.natAbs.log2 < 1920 then _ else _) = _
  rw [if_pos (tx_log h)]
end Pt

set_option Elab.async false
set_option linter.all false
set_option maxRecDepth 100000
namespace Pb
open PySem PySem.Spec PyProof.Rows L2
/-! ### _law_same of twice the same data, texts of any length -/
mutual
def okX : PyData → Bool
  | .list xs => decide (xs.length ≤ 60) && okXs xs
  | .tuple xs => decide (xs.length ≤ 60) && okXs xs
  | _ => true
def okXs : List PyData → Bool
  | [] => true
  | x :: xs => okX x && okXs xs
end
theorem okXs_iff : ∀ {es : List PyData}, okXs es = true → ∀ x ∈ es, okX x = true
  | [], _, x, h => absurd h List.not_mem_nil
  | y :: es, h, x, hx => by
    simp only [okXs, Bool.and_eq_true] at h
    rcases List.mem_cons.mp hx with rfl | hx
    · exact h.1
    · exact okXs_iff h.2 x hx
def rSameX (K : PySem.W.Frag) (δ : Nat) : List V → Hp → V → Prop := fun vs H z => ∃ x y e, vs = [x, y] ∧ Da K H x e ∧ Da K H y e ∧ e.depth < δ ∧ okX e = true ∧ e.hasDict = false ∧ z = .bl true
theorem seq_partsX {e : PyData} {es : List PyData} {δ : Nat} (h : e = .list es ∨ e = .tuple es) (hd : e.depth < δ + 1) (hok : okX e = true) (hnd : e.hasDict = false) : es.length ≤ 60 ∧ ∀ x ∈ es, x.depth < δ ∧ okX x = true ∧ x.hasDict = false := by
  have key : es.length ≤ 60 ∧ okXs es = true ∧ PyData.depthAll es < δ ∧ PyData.hasDictAll es = false := by
    rcases h with rfl | rfl <;> simp only [okX, Bool.and_eq_true, decide_eq_true_eq, PyData.depth, PyData.hasDict] at hok hd hnd <;> exact ⟨hok.1, hok.2, by omega, hnd⟩
  refine ⟨key.1, fun x hx => ⟨?_, okXs_iff key.2.1 x hx, ?_⟩⟩
  · have := mem_depth hx
    have := key.2.2.1
    omega
  · have z := key.2.2.2
    clear h hd hok hnd key
    induction es with
    | nil => exact absurd hx List.not_mem_nil
    | cons y es ih =>
      simp only [PyData.hasDictAll, Bool.or_eq_false_iff] at z
      rcases List.mem_cons.mp hx with rfl | hx
      · exact z.1
      · exact ih hx z.2
open Classical in
noncomputable def fSameX (δ : Nat) (ds : List PyData) : Option PyData := if ∃ a, ds = [a, a] ∧ a.depth < δ ∧ okX a = true ∧ a.hasDict = false then some (.bool true) else none
theorem fSameX_of {δ : Nat} {a : PyData} (h1 : a.depth < δ) (h2 : okX a = true) (h3 : a.hasDict = false) : fSameX δ [a, a] = some (.bool true) := by
  unfold fSameX
  rw [if_pos ⟨a, rfl, h1, h2, h3⟩]
def rSameDX (δ : Nat) : List PyData → PyData → Prop := fun es z => ∃ e, es = [e, e] ∧ e.depth < δ ∧ okX e = true ∧ e.hasDict = false ∧ z = .bool true
theorem w_sameX {K : PySem.W.Frag} {δ : Nat} : ∀ vs H Q E, spD K (rSameDX δ) vs H Q E → spV (rSameX K δ) vs H Q E := by
  rintro vs H Q E ⟨S, ds, z, tr, da, ⟨e, rfl, hd, ok, nd, rfl⟩, q⟩
  obtain ⟨x, y, rfl, hx, hy⟩ := da_two da
  exact ⟨.bl true, ⟨x, y, e, rfl, hx.mono hs_sub, hy.mono hs_sub, hd, ok, nd, rfl⟩, fun H3 e3 => q _ H3 e3 (.bl true)⟩
theorem same_to_fX {K : PySem.W.Frag} {δ : Nat} : ∀ vs H Q E, spD K (RF (fSameX δ)) vs H Q E → spD K (rSameDX δ) vs H Q E := by
  rintro vs H Q E ⟨S, ds, e, tr, da, hg, q⟩
  refine ⟨S, ds, e, tr, da, ?_, q⟩
  unfold RF fSameX at hg
  split at hg
  · rename_i h
    obtain ⟨a, rfl, h1, h2, h3⟩ := h
    cases hg
    exact ⟨a, rfl, h1, h2, h3, rfl⟩
  · cases hg
end Pb

set_option Elab.async false
set_option linter.all false
set_option maxRecDepth 100000
namespace Pb
open PySem PySem.Spec PyProof.Rows L2
/-! ### texts walked, cut, looked into -/
def sgD (c : Nat) : PyData := .str ⟨#[c]⟩
section
variable {K : PySem.W.Frag}
def asTx : PyData → Option Str
  | .str z => some z
  | _ => none
theorem asTx_some {x : PyData} {z : Str} (h : asTx x = some z) : x = .str z := by
  unfold asTx at h
  split at h
  · cases h
    rfl
  · cases h
/-- for s in z -/
def iSx (φ : Rho → Option PyData) : Rho → Option (List PyData) := fun ρ => ((φ ρ).bind asTx).map fun z => z.cps.toList.map sgD
theorem it_str {T : List Addr} {H1 : Hp} {z : Str} : ItOk K T H1 (Its z) (z.cps.toList.map sgD) :=
  ⟨fun _ => True, _, _, fun _ _ _ _ => trivial, trivial, by rw [List.length_map, Array.length_toList]; exact walk_str, fun _ _ _ => trivial, fun T' H2 i x H' _ _ hi y => by
    obtain ⟨rfl, c, e, rfl⟩ := y
    refine ⟨Same.refl _, sgD c, ?_, .str _⟩
    rw [List.getElem?_map, Array.getElem?_toList, e]
    rfl⟩
theorem wi_str {te : TE} {φ : Rho → Option PyData} (h : EvS K te φ) : ItP K (iStr te) (iSx φ) := fun S H0 G T ow ρ σ H es sm he R q => by
  obtain ⟨z, h1, rfl⟩ := Option.map_eq_some_iff.mp he
  obtain ⟨x, h2, h3⟩ := Option.bind_eq_some_iff.mp h1
  obtain rfl := asTx_some h3
  refine h S H0 G T ow ρ σ H _ sm h2 _ fun v H1 s1 hv => ?_
  cases hv
  exact ⟨z, rfl, q _ H1 s1 it_str⟩
/-- z[lo:hi] -/
def eSlX (φ : Rho → Option PyData) (lo hi : Rho → Option (Option Int)) : Rho → Option PyData := fun ρ => ((φ ρ).bind asTx).bind fun z => (lo ρ).bind fun l => (hi ρ).bind fun h => if z.length ≤ 100000 then some (.str (cutS z l h)) else none
theorem xs_slX {te : TE} {tl th : TO} {φ : Rho → Option PyData} {lo hi : Rho → Option (Option Int)} (h : EvTr K te φ) (hl : EvOI K tl lo) (hh : EvOI K th hi) : EvS K (tSl rSlS te tl th) (eSlX φ lo hi) := fun S H0 G T ow ρ σ H e sm he Q q => by
  obtain ⟨z, h1, h2⟩ := Option.bind_eq_some_iff.mp he
  obtain ⟨x, h3, h4⟩ := Option.bind_eq_some_iff.mp h1
  obtain rfl := asTx_some h4
  obtain ⟨l, h5, h6⟩ := Option.bind_eq_some_iff.mp h2
  obtain ⟨u, h7, h8⟩ := Option.bind_eq_some_iff.mp h6
  split at h8
  · rename_i hz
    cases h8
    refine h S H0 G T ow ρ σ H _ sm h3 _ fun v H1 s1 hv => hl S H0 G T ow ρ σ H1 l (sm.mono s1) h5 _ fun H2 s2 => hh S H0 G T ow ρ σ H2 u (sm.mono (s1.trans s2)) h7 _ fun H3 s3 => ?_
    exact ⟨z, hv.str, Evl.sz_of hz, q _ H3 ((s1.trans s2).trans s3) (.str _)⟩
  · cases h8
/-- s in z, s a sign -/
def sg1 (x : Str) : Option Nat := match x.cps.toList with
  | [c] => some c
  | _ => none
theorem sg1_some {x : Str} {c : Nat} (h : sg1 x = some c) : x = ⟨#[c]⟩ := by
  unfold sg1 at h
  split at h
  · rename_i d e
    cases h
    exact TL.ext_tl e
  · cases h
def fNinSg : PyData → PyData → Option PyData
  | .str x, .str z => (sg1 x).map fun c => .bool (!decide (c ∈ z.cps.toList))
  | _, _ => none
def rNinSg : V → V → Hp → VK → Prop := fun x y H Q => ∃ (c : Nat) (z : Str), x = .str ⟨#[c]⟩ ∧ y = .str z ∧ Q (.bl (!decide (c ∈ z.cps.toList))) H
theorem op_ninSg {X : Cx} : OpR X (compareOp .NotIn) rNinSg := op_notIn_sign
theorem os_ninSg : OpS K rNinSg fNinSg := fun T H x y d1 d2 e tr h1 h2 he Q q => by
  unfold fNinSg at he
  split at he
  · rename_i a z
    obtain ⟨c, h3, rfl⟩ := Option.map_eq_some_iff.mp he
    have := sg1_some h3
    subst this
    exact ⟨c, z, h1.str, h2.str, q _ H (Same.refl _) (.bl _)⟩
  · cases he
end
end Pb

set_option Elab.async false
set_option linter.all false
set_option maxRecDepth 100000
namespace Pt
open PySem PySem.Spec PyProof.Rows L2 Pb
/-! ### a number read from any text -/
def dgs (w : Str) : Bool := w.cps.toList.all fun c => decide (48 ≤ c) && decide (c ≤ 57)
def numB (w : Str) : Bool := dgs w && !w.cps.toList.isEmpty && decide (w.length ≤ 13) && !(decide (w.cps.toList.head? = some 48) && decide (1 < w.length))
def numT (w : Str) : Option Int := if numB w = true then some ((NumText.digitsVal w.cps.toList : Nat) : Int) else none
theorem len_cps (w : Str) : w.length = w.cps.toList.length := by simp [Str.length]
theorem dig_ascii {c : Nat} (h : c < 128) : Unicode.isDigit c = (decide (48 ≤ c) && decide (c ≤ 57)) := by
  have : ∀ c, c < 128 → Unicode.isDigit c = (decide (48 ≤ c) && decide (c ≤ 57)) := by decide +kernel
  exact this c h
theorem dig_sign {c : Nat} : (decide (c ∈ ("0123456789" : Str).cps.toList)) = (decide (48 ≤ c) && decide (c ≤ 57)) := by
  have e : ("0123456789" : Str).cps.toList = [48, 49, 50, 51, 52, 53, 54, 55, 56, 57] := by decide +kernel
  rw [e]
  simp only [List.mem_cons, List.not_mem_nil, or_false]
  rw [Bool.eq_iff_iff, Bool.and_eq_true, decide_eq_true_iff, decide_eq_true_iff, decide_eq_true_iff]
  omega
theorem asc_dig (w : Str) : (Txt.isascii w && Txt.isdigit w) = (dgs w && !w.cps.toList.isEmpty) := by
  unfold Txt.isascii Txt.isdigit dgs
  rw [← Array.all_toList, ← Array.all_toList, Bool.eq_iff_iff]
  simp only [Bool.and_eq_true, List.all_eq_true, decide_eq_true_eq, Bool.not_eq_true', List.isEmpty_eq_false_iff]
  constructor
  · rintro ⟨h1, h2, h3⟩
    refine ⟨fun c hc => ?_, fun z => ?_⟩
    · have := h3 c hc
      rw [dig_ascii (h1 c hc)] at this
      simpa using this
    · rw [len_cps, z] at h2
      simp at h2
  · rintro ⟨h1, h2⟩
    refine ⟨fun c hc => by have := h1 c hc; omega, ?_, fun c hc => ?_⟩
    · rw [len_cps]
      exact List.length_pos_iff.mpr h2
    · have := h1 c hc
      rw [dig_ascii (by omega)]
      simpa using this
theorem int_of {w : Str} (h : numB w = true) : intText? w = some ((NumText.digitsVal w.cps.toList : Nat) : Int) := by
  unfold numB at h
  simp only [Bool.and_eq_true, decide_eq_true_eq, Bool.not_eq_true'] at h
  have := SX.int_S (a := w.cps.toList) (by exact h.1.1.1) (fun z => by rw [z] at h; simp at h) (by have := h.1.2; rw [len_cps] at this; omega)
  rwa [SX.S_tl] at this
end Pt

set_option Elab.async false
set_option linter.all false
set_option maxRecDepth 100000
namespace Pt
open PySem PySem.Spec PyProof.Rows L2 Pb
/-! ### what any text splits into -/
theorem spl_len {s : Nat} : ∀ (l acc : List Nat), (∀ p ∈ TL.spl [s] 0 acc l, p.length ≤ acc.length + l.length) ∧ TL.spl [s] 0 acc l ≠ [] ∧ (TL.spl [s] 0 acc l).length ≤ l.length + 1
  | [], acc => by
    rw [TL.spl_nil]
    exact ⟨fun p hp => by rw [List.mem_singleton.mp hp]; simp, by simp, by simp⟩
  | c :: r, acc => by
    cases h : TL.pre [s] (c :: r) with
    | true =>
      have e : TL.spl [s] 0 acc (c :: r) = acc :: TL.spl [s] 0 [] r := TL.spl_hit h
      obtain ⟨a, b, d⟩ := spl_len (s := s) r []
      rw [e]
      refine ⟨fun p hp => ?_, by simp, by rw [List.length_cons, List.length_cons]; omega⟩
      rcases List.mem_cons.mp hp with rfl | hp
      · omega
      · have := a p hp
        rw [List.length_cons]
        simp at this
        omega
    | false =>
      obtain ⟨a, b, d⟩ := spl_len (s := s) r (acc ++ [c])
      rw [TL.spl_miss h]
      refine ⟨fun p hp => ?_, b, by rw [List.length_cons]; omega⟩
      have := a p hp
      rw [List.length_append] at this
      simp at this
      rw [List.length_cons]
      omega
theorem split_len {x y : Str} {s : Nat} (hy : TL.tl y = [s]) (hk : y.cps.all (· < 256) = true) : (∀ p ∈ Txt.split x y, p.length ≤ x.length) ∧ Txt.split x y ≠ [] ∧ (Txt.split x y).length ≤ x.length + 1 := by
  have e := TL.split_spl x y (by rw [hy]; simp) (TL.kind_ok hk)
  rw [hy] at e
  obtain ⟨a, b, d⟩ := spl_len (s := s) (TL.tl x) []
  rw [← e] at a b d
  refine ⟨fun p hp => ?_, fun z => b (by rw [z]; rfl), ?_⟩
  · have := a _ (List.mem_map_of_mem hp)
    rw [TL.len_tl, TL.len_tl]
    simpa using this
  · rw [List.length_map] at d
    rw [TL.len_tl]
    exact d
/-- the numbers of words, all of them -/
def numsT : List Str → Option (List Int)
  | [] => some []
  | w :: ws => (numT w).bind fun n => (numsT ws).map (n :: ·)
theorem numsT_none : ∀ {ws : List Str}, numsT ws = none ↔ ∃ w ∈ ws, numT w = none
  | [] => by simp [numsT]
  | w :: ws => by
    have ih := numsT_none (ws := ws)
    unfold numsT
    cases h : numT w with
    | none => simp [h]
    | some n =>
      rw [Option.bind_some, Option.map_eq_none_iff, ih]
      simp [h]
theorem numsT_some : ∀ {ws : List Str} {ns : List Int}, numsT ws = some ns → ws.map numT = ns.map some
  | [], ns, h => by
    cases h
    rfl
  | w :: ws, ns, h => by
    obtain ⟨n, h1, h2⟩ := Option.bind_eq_some_iff.mp h
    obtain ⟨m, h3, rfl⟩ := Option.map_eq_some_iff.mp h2
    rw [List.map_cons, List.map_cons, h1, numsT_some h3]
theorem numT_nn {w : Str} {n : Int} (h : numT w = some n) : 0 ≤ n := by
  unfold numT at h
  split at h
  · cases h
    omega
  · cases h
end Pt

set_option Elab.async false
set_option linter.all false
set_option maxRecDepth 100000
namespace Pb
open PySem PySem.Spec PyProof.Rows L2 PySem.W
/-! ### [f, g][i](x): the callee is what an expression gives -/
def tCallE2 (tf : TE) (f g : Addr) (sp sp' : Sp) (E : L2.St → XK) (t : TA) : TE := fun σ H Q => tf σ H fun v H1 => (v = .ref f ∧ t σ H1 fun vs H2 => sp vs H2 Q (E σ)) ∨ (v = .ref g ∧ t σ H1 fun vs H2 => sp' vs H2 Q (E σ))
section
variable {X : Cx} {k k' j : Nat} {f g : Addr} {fd fd' : FuncData} {ps ps' : List Str} {sp sp' : Sp} {W : WX} {pos : Pos} {fe e : Expr} {es : List Expr} {tf : TE} {t : TA}
theorem pe_callE2 (hf : PE X fe tf) (F : FnOk X.prog X.w X.K X.mg X.base (L2.CX X.prog X.w) k f fd ps sp) (F' : FnOk X.prog X.w X.K X.mg X.base (L2.CX X.prog X.w) k' g fd' ps' sp') (hr : Room j X.A) (hkj : k ≤ j) (hkj' : k' ≤ j) (hk : PySem.W.keepIn X.K (.ref f) = true) (hk' : PySem.W.keepIn X.K (.ref g) = true) (hb : Binds X.K fd ps []) (hb' : Binds X.K fd' ps' []) (tk : Takes X W) (ha : PA X (e :: es) t)
    (hc : eval (.Call fe (e :: es) [] pos) X.env = (do callWith pos (← eval fe X.env) [] (backTo pos (starEach (e :: es) X.env)) (backToKw pos (keywordEach [] X.env))) := by rfl)
    (he : starEach (e :: es) X.env = (false, eval e X.env) :: starEach es X.env := by rfl) (hpl : (backTo pos (starEach es X.env)).any (·.1) = false := by rfl) : PE X (.Call fe (e :: es) [] pos) (tCallE2 tf f g sp sp' (WE W) t) := by
  refine ⟨fun pins s σ H Q I h => ?_⟩
  refine Call_ (thn (hf.run pins s σ H _ I h) fun u s1 ⟨v, H1, I1, r1, q1⟩ => ?_) hc
  rcases q1 with ⟨rfl, ht⟩ | ⟨rfl, ht⟩
  · cases r1
    refine PySem.W.callWith_K (h₀ := X.base) I1.ok.mod.kin hk (thn (ha.run pos pins s1 σ _ _ I1 ht) fun us s2 ⟨vs, H2, I2, r, q⟩ => ⟨I2.kIn, ?_⟩) he hpl
    exact run_fnS F (hr.mono hkj) hb (passAt tk σ) I2 r q
  · cases r1
    refine PySem.W.callWith_K (h₀ := X.base) I1.ok.mod.kin hk' (thn (ha.run pos pins s1 σ _ _ I1 ht) fun us s2 ⟨vs, H2, I2, r, q⟩ => ⟨I2.kIn, ?_⟩) he hpl
    exact run_fnS F' (hr.mono hkj') hb' (passAt tk σ) I2 r q
end
def oCallE2 (φi : Rho → Option PyData) (G1 G2 : List PyData → Option Out) (φs : Rho → Option (List PyData)) : Rho → Option Out := fun ρ => (φi ρ).bind fun x => match x with
  | .int 0 => (φs ρ).bind G1
  | .int 1 => (φs ρ).bind G2
  | _ => none
section
variable {K : PySem.W.Frag} {cl : Str → Addr} {W : WX}
theorem ex_callE2 {f g : Addr} {G1 G2 : List PyData → Option Out} {ti : TE} {ta : TA} {φi : Rho → Option PyData} {φs : Rho → Option (List PyData)} (hi : EvTr K ti φi) (ha : EvAS K ta φs) : EvX K cl W (tCallE2 (tOp (rIxL K) (tLst (tCons (tC (.ref f)) (tCons (tC (.ref g)) tNil))) ti) f g (spY K cl G1) (spY K cl G2) (WE W) ta) (oCallE2 φi G1 G2 φs) := fun S H0 G T ow ρ σ H o sm he Q hr hx => by
  obtain ⟨x, h1, h2⟩ := Option.bind_eq_some_iff.mp he
  refine ⟨Evl.sz_of (by simp), fun p hp => ?_⟩
  have s1 : Same H (upd H p (.lst [.ref f, .ref g])) := same_upd hp
  refine hi S H0 G T ow ρ σ _ x (sm.mono s1) h1 _ fun v H2 s2 hv => ?_
  split at h2
  · exact ⟨p, [.ref f, .ref g], 0, .ref f, rfl, hv.int, SqL.of (s2 _ _ upd_same), rfl, .inl ⟨rfl, callS_core ha ((sm.mono s1).mono s2) h2 (fun e eo v H' s hd => hr e eo v H' ((s1.trans s2).trans s) hd) hx⟩⟩
  · exact ⟨p, [.ref f, .ref g], 1, .ref g, rfl, hv.int, SqL.of (s2 _ _ upd_same), rfl, .inr ⟨rfl, callS_core ha ((sm.mono s1).mono s2) h2 (fun e eo v H' s hd => hr e eo v H' ((s1.trans s2).trans s) hd) hx⟩⟩
  · cases h2
def oTupS (s : Str) (ξ : Rho → Option Out) : Rho → Option Out := fun ρ => (ξ ρ).map fun o => match o with
  | .ret e => .ret (.tuple [.str s, e])
  | o => o
theorem ex_tupS {te : TE} {s : Str} {ξ : Rho → Option Out} (h : EvX K cl W te ξ) : EvX K cl W (tTup (tCons (tC (.str s)) (tCons te tNil))) (oTupS s ξ) := fun S H0 G T ow ρ σ H o sm he Q hr hx => by
  obtain ⟨o', h1, rfl⟩ := Option.map_eq_some_iff.mp he
  refine h S H0 G T ow ρ σ H o' sm h1 _ (fun e eo v H' s' hd => ?_) (fun hne => ?_)
  · subst eo
    refine ⟨Pb.sz (n := 2) (by decide), fun l hl => ?_⟩
    have sl : Same H' (upd H' l (.tup [.str s, v])) := same_upd hl
    exact hr _ rfl _ _ (s'.trans sl) (.tup (SqT.of (hs_at ((sm.mono s').tr.out hl) upd_same)) (.cons (.str s) (.cons (hd.mono (hs_mono sl)) .nil)))
  · cases o' with
    | ret e => exact absurd rfl (hne e)
    | exc x => exact hx fun e z => by cases z
    | excF x f e => exact hx fun e z => by cases z
end
end Pb

set_option Elab.async false
set_option linter.all false
set_option maxRecDepth 100000
namespace Pt
open PySem PySem.Spec PyProof.Rows L2 Pb
/-! ### how long a text's lines are -/
def Seg (M : Nat) (l : List Nat) : Prop := ∀ x p y, l = x ++ p ++ y → 10 ∉ p → p.length ≤ M
theorem Seg.mono {M N : Nat} {l : List Nat} (h : Seg M l) (hn : M ≤ N) : Seg N l := fun x p y e n => Nat.le_trans (h x p y e n) hn
theorem Seg.inf {M : Nat} {l a b c : List Nat} (h : Seg M l) (e : l = a ++ b ++ c) : Seg M b := fun x p y e2 n => h (a ++ x) p (y ++ c) (by rw [e, e2]; simp only [List.append_assoc]) n
theorem Seg.of_len {M : Nat} {l : List Nat} (h : l.length ≤ M) : Seg M l := fun x p y e n => by
  have := congrArg List.length e
  rw [List.length_append, List.length_append] at this
  omega
theorem Seg.cat {A B : Nat} {l r : List Nat} (h1 : Seg A l) (h2 : Seg B r) : Seg (A + B) (l ++ r) := fun x p y e n => by
  rcases List.append_eq_append_iff.mp e.symm with ⟨a, e1, e2⟩ | ⟨c, e1, e2⟩
  · have := h1 x p a e1 n
    omega
  · rcases List.append_eq_append_iff.mp e1 with ⟨a, e3, e4⟩ | ⟨d, e3, e4⟩
    · have n1 : 10 ∉ a := fun z => n (by rw [e4]; exact List.mem_append_left _ z)
      have n2 : 10 ∉ c := fun z => n (by rw [e4]; exact List.mem_append_right _ z)
      have q1 := h1 x a [] (by rw [e3, List.append_nil]) n1
      have q2 := h2 [] c y (by rw [e2]; rfl) n2
      rw [e4, List.length_append]
      omega
    · have := h2 d p y (by rw [e2, e4]) n
      omega
theorem Seg.line {M : Nat} {l r : List Nat} (h1 : Seg M l) (h2 : Seg M r) : Seg M (l ++ 10 :: r) := fun x p y e n => by
  rcases List.append_eq_append_iff.mp e.symm with ⟨a, e1, e2⟩ | ⟨c, e1, e2⟩
  · exact h1 x p a e1 n
  · rcases List.append_eq_append_iff.mp e1 with ⟨a, e3, e4⟩ | ⟨d, e3, e4⟩
    · cases c with
      | nil =>
        rw [List.append_nil] at e4
        subst e4
        exact h1 x p [] (by rw [e3, List.append_nil]) n
      | cons c0 c =>
        injection e2 with i1 i2
        subst i1
        exact absurd (by rw [e4]; simp) n
    · cases d with
      | nil =>
        rw [List.nil_append] at e4
        subst e4
        cases c with
        | nil => simp
        | cons c0 c =>
          injection e2 with i1 i2
          subst i1
          exact absurd List.mem_cons_self n
      | cons d0 d =>
        rw [e4] at e2
        injection e2 with i1 i2
        exact h2 d p y i2 n
theorem seg_join {M : Nat} : ∀ {parts : List (List Nat)}, (∀ p ∈ parts, Seg M p) → Seg M (TL.joinL [10] parts)
  | [], _ => fun x p y e n => by
    have := congrArg List.length e
    rw [List.length_append, List.length_append] at this
    have z : (TL.joinL [10] []).length = 0 := rfl
    omega
  | [p], h => h p List.mem_cons_self
  | p :: q :: r, h => by
    show Seg M (p ++ ([10] ++ TL.joinL [10] (q :: r)))
    exact (h p List.mem_cons_self).line (seg_join fun z hz => h z (List.mem_cons_of_mem _ hz))
theorem spl_seg : ∀ (l acc : List Nat), 10 ∉ acc → ∀ p ∈ TL.spl [10] 0 acc l, 10 ∉ p ∧ ∃ x y, acc ++ l = x ++ p ++ y
  | [], acc, ha, p, hp => by
    rw [TL.spl_nil] at hp
    rw [List.mem_singleton.mp hp]
    exact ⟨ha, [], [], by simp⟩
  | c :: r, acc, ha, p, hp => by
    cases h : TL.pre [10] (c :: r) with
    | true =>
      have e : TL.spl [10] 0 acc (c :: r) = acc :: TL.spl [10] 0 [] r := TL.spl_hit h
      rw [e] at hp
      rcases List.mem_cons.mp hp with rfl | hp
      · exact ⟨ha, [], c :: r, by simp⟩
      · obtain ⟨a, x, y, e2⟩ := spl_seg r [] List.not_mem_nil p hp
        exact ⟨a, acc ++ c :: x, y, by rw [List.nil_append] at e2; rw [e2]; simp⟩
    | false =>
      rw [TL.spl_miss h] at hp
      have nc : c ≠ 10 := fun z => by
        rw [z] at h
        have : TL.pre [10] (10 :: r) = true := rfl
        rw [this] at h
        cases h
      obtain ⟨a, x, y, e2⟩ := spl_seg r (acc ++ [c]) (fun z => by
        rcases List.mem_append.mp z with z | z
        · exact ha z
        · exact nc (List.mem_singleton.mp z).symm) p hp
      exact ⟨a, x, y, by rw [← e2]; simp⟩
/-- the lines of a text -/
theorem lines_len {M : Nat} {x y : Str} (hy : TL.tl y = [10]) (hk : y.cps.all (· < 256) = true) (h : Seg M (TL.tl x)) : ∀ p ∈ Txt.split x y, p.length ≤ M ∧ Seg M (TL.tl p) := fun p hp => by
  have e := TL.split_spl x y (by rw [hy]; simp) (TL.kind_ok hk)
  rw [hy] at e
  have m : TL.tl p ∈ TL.spl [10] 0 [] (TL.tl x) := by
    rw [← e]
    exact List.mem_map_of_mem hp
  obtain ⟨a, u, v, e2⟩ := spl_seg _ _ List.not_mem_nil _ m
  rw [List.nil_append] at e2
  exact ⟨by rw [TL.len_tl]; exact h u _ v e2 a, h.inf e2⟩
end Pt

set_option Elab.async false
set_option linter.all false
set_option maxRecDepth 100000
namespace Pb
open PySem PySem.Spec PyProof.Rows L2
/-! ### xs[i] = v, both drawn; [..] * n, n drawn; isinstance of a caught error and any number of classes -/
def twPutW (i : Nat) (Φi Φ : Rho → Int → (PyData → Int → Prop) → Prop) : Rho → Int → (Res → Int → Prop) → Prop := fun ρ n P => Φ ρ n fun e n1 => ∃ es, ro ρ i = some es ∧ Φi ρ n1 fun y n2 => ∃ k, asI y = some k ∧ ∃ j, ixN es.length k = some j ∧ P (.nx (ρ.set i (.own (es.set j e)))) n2
def wfRep (Φ : Rho → Int → (List PyData → Int → Prop) → Prop) (Ψ : Rho → Int → (PyData → Int → Prop) → Prop) : Rho → Int → (List PyData → Int → Prop) → Prop := fun ρ n P => Φ ρ n fun es n1 => Ψ ρ n1 fun y n2 => ∃ k, asI y = some k ∧ repOk es.length k = true ∧ P (List.replicate k.toNat es).flatten n2
section
variable {K : PySem.W.Frag} {d : Addr}
theorem sw_putW {te ti : TE} {i : Nat} {Φi Φ : Rho → Int → (PyData → Int → Prop) → Prop} (h : EvW K d te Φ) (hi : EvW K d ti Φi) : StW K d (tAsg te (gSub (tVar i) ti L2.rSetL)) (twPutW i Φi Φ) := fun S H0 b c n G ρ σ H P ⟨T, ow, sm⟩ h1 D q =>
  h S H0 b c n G T ow ρ σ H _ sm h1 _ fun v e n1 H1 ⟨es, h3, h4⟩ d1 hv => by
    obtain ⟨o, ho, fo, vs, rfl, k1, k2, k3⟩ := sm.co.slot i _ (ro_some h3)
    refine ⟨.ref fo, ho, hi S H0 b c n1 G T ow ρ σ H1 _ (sm.draw d1) h4 _ fun u y n2 H2 ⟨k, hk, j, hj, hP⟩ d2 hu => ?_⟩
    obtain rfl := asI_some hk
    have w1 := sm.draw (d1.then d2)
    refine ⟨fo, vs, k, j, rfl, (by cases hu; rfl), (d1.then d2).at (sm.new fo k1).2 k2, ?_, ?_⟩
    · rw [DaAll.len k3]
      exact hj
    · exact q _ n2 hP σ _ ⟨T, ow, w1.back (w1.pure.chg (ro_some h3) ho (DaAll.setAt (hv.mono ((sm.draw d1).ck.sm d2)) j (k3.mono (sm.ck.sm (d1.then d2)))))⟩
theorem xfw_rep {ta tb : TE} {Φ : Rho → Int → (List PyData → Int → Prop) → Prop} {Ψ : Rho → Int → (PyData → Int → Prop) → Prop} (ha : EvLW K d ta Φ) (hb : EvW K d tb Ψ) : EvFW K d (tOp rRep ta tb) (wfRep Φ Ψ) := fun S H0 b c n G T ow ρ σ H P sm h1 Q q =>
  ha S H0 b c n G T ow ρ σ H _ sm h1 _ fun p vs es n1 H1 hP d1 off hp' hd => hb S H0 b c n1 G T ow ρ σ H1 _ (sm.draw d1) hP _ fun u y n2 H2 ⟨k, hk, hz, hP2⟩ d2 hu => by
    obtain rfl := asI_some hk
    have hz' := of_decide_eq_true hz
    refine ⟨p, k, vs, rfl, (by cases hu; rfl), d2.at off hp', by omega, by omega, Evl.sz_of ?_, fun t ht => ?_⟩
    · rw [DaAll.len hd]
      have : es.length * k.toNat ≤ 100 * 1000 := Nat.mul_le_mul (by omega) (by omega)
      omega
    · have d12 := d1.then d2
      exact q t _ _ n2 _ hP2 (d12.new ht) (d12.free ht) upd_same (((hd.mono ((sm.draw d1).ck.sm d2)).repF k.toNat).mono (hs_cons_new ht))
end
section
variable {K : PySem.W.Frag} {cl : Str → Addr}
def tCls (cl : Str → Addr) : List Str → TA
  | [] => tNil
  | c :: cs => tCons (tC (.ref (cl c))) (tCls cl cs)
theorem tCls_run {σ : L2.St} {H : Hp} : ∀ {cs : List Str} {Q : List V → Hp → Prop}, Q (cs.map fun c => .ref (cl c)) H → tCls cl cs σ H Q
  | [], Q, h => h
  | c :: cs, Q, h => tCls_run (cs := cs) h
theorem kit_anyN {x : Str} : ∀ {cs : List Str}, (∀ c ∈ cs, PySem.W.kitOne K (.ref (cl x)) (.ref (cl c)) = some (decide (x = c))) → PySem.W.kitAny K (.ref (cl x)) (cs.map fun c => .ref (cl c)) = some (decide (x ∈ cs))
  | [], _ => rfl
  | c :: cs, h => by
    have k1 := h c List.mem_cons_self
    have ih := kit_anyN (cs := cs) fun z hz => h z (List.mem_cons_of_mem _ hz)
    have e : decide (x ∈ c :: cs) = (decide (x = c) || decide (x ∈ cs)) := by
      rw [Bool.eq_iff_iff]
      simp
    rw [e, List.map_cons]
    cases h1 : decide (x = c) with
    | true =>
      rw [h1] at k1
      exact kitAny_cons k1 (fun z => by cases z) (fun _ => rfl)
    | false =>
      rw [h1] at k1
      exact kitAny_cons k1 (fun _ => ih) (fun z => by cases z)
theorem clsK : ∀ cs : List Str, Paired ClsV (cs.map fun c => V.ref (cl c)) (cs.map fun c => Value.ref (cl c))
  | [] => .nil
  | _ :: cs => .cons (.own _) (clsK cs)
theorem xs_isTN {a : Addr} {cls : Value} {d : Option Addr} {i : Nat} {x : Str} {cs : List Str} (hc : cls = .ref (cl x)) (xc : ExcC K (cl x)) (hl : cs.length < 1000) (kt : ∀ c ∈ cs, PySem.W.kitOne K (.ref (cl x)) (.ref (cl c)) = some (decide (x = c))) : EvS K (tCB (rIsPT K a cls d) (tCons (tVar i) (tCons (tTup (tCls cl cs)) tNil))) (eIsT a d i x cs) := fun S H0 G T ow ρ σ H e sm he Q q => by
  subst hc
  obtain ⟨fs, h1, rfl⟩ := Option.map_eq_some_iff.mp he
  obtain ⟨o, ho, rfl, hx⟩ := sm.slot i _ (rxn_some h1)
  refine ⟨_, ho, tCls_run ⟨Evl.sz_of (by rw [List.length_map]; omega), fun t ht => ?_⟩⟩
  obtain ⟨gs, hg⟩ := xd_at hx (hs_sub.trans (same_upd ht))
  exact ⟨cl x, t, _, cs.map fun c => .ref (cl c), _, gs, rfl, xc, hg, rfl, upd_same, clsK cs, kit_anyN kt, q _ _ (same_upd ht) (.bl _)⟩
end
/-- text * k -/
def rMulS : R2 := fun x y H Q => ∃ (z : Str) (k : Int), x = .str z ∧ y = .int k ∧ z.length ≤ 100 ∧ 0 ≤ k ∧ k ≤ 100 ∧ Q (.str (Txt.mul z k)) H
theorem op_mulS {X : Cx} : OpR X (binaryOp .Mult) rMulS := by
  intro pins s σ H x y v u Q I rx ry h
  obtain ⟨z, k, rfl, rfl, hz, h0, h1, q⟩ := h
  obtain ⟨t, rfl⟩ := rx
  obtain ⟨t', rfl⟩ := ry
  refine SB.mul ⟨by simp; omega, fun a _ => ?_, fun a _ => ?_⟩ (fun t' tk => ⟨.str _, H, I.tok _, ⟨_, rfl⟩, q⟩)
  · have : (100 : Int) ≤ (2 ^ 63 - 1) / k := by
      rw [Int.le_ediv_iff_mul_le (by omega)]
      have : 100 * k ≤ 100 * 100 := Int.mul_le_mul_of_nonneg_left h1 (by decide)
      omega
    omega
  · have : z.length * k.toNat ≤ 100 * 100 := Nat.mul_le_mul hz (by omega)
    unfold PySem.Builtin.Str.tooLong sizeLine
    simp
    omega
def fMulS : PyData → PyData → Option PyData
  | .str z, .int k => if z.length ≤ 100 ∧ 0 ≤ k ∧ k ≤ 100 then some (.str (Txt.mul z k)) else none
  | _, _ => none
theorem os_mulS {K : PySem.W.Frag} : OpS K rMulS fMulS := fun T H x y d1 d2 e tr h1 h2 he Q q => by
  unfold fMulS at he
  split at he
  · rename_i z k
    split at he
    · rename_i hz
      cases he
      exact ⟨z, k, h1.str, h2.int, hz.1, hz.2.1, hz.2.2, q _ H (Same.refl _) (.str _)⟩
    · cases he
  · cases he
/-- freeze, if it is a list of one's own -/
def twFrzQ (i : Nat) (Ψ : Rho → Int → (Res → Int → Prop) → Prop) : Rho → Int → (Res → Int → Prop) → Prop := fun ρ n P => match ρ[i]? with
  | some (.own es) => Ψ (ρ.set i (.val (.list es))) n P
  | _ => Ψ ρ n P
theorem sw_frzQ {K : PySem.W.Frag} {d : Addr} {ts : TS} {i : Nat} {Ψ : Rho → Int → (Res → Int → Prop) → Prop} (h : StW K d ts Ψ) : StW K d ts (twFrzQ i Ψ) := fun S H0 b c n G ρ σ H P sm h1 D q => by
  unfold twFrzQ at h1
  split at h1
  · rename_i es e
    exact sw_frz h S H0 b c n G ρ σ H P sm ⟨es, by unfold ro; rw [e], h1⟩ D q
  · exact h S H0 b c n G ρ σ H P sm h1 D q
def wJoin (a : Str) (Ψ : Rho → Int → (PyData → Int → Prop) → Prop) : Rho → Int → (PyData → Int → Prop) → Prop := fun ρ n P => Ψ ρ n fun y n1 => ∃ e, fJoin (.str a) y = some e ∧ P e n1
theorem xw_join {K : PySem.W.Frag} {d : Addr} {td ty : TE} {a : Str} {Ψ : Rho → Int → (PyData → Int → Prop) → Prop} (h : EvS K td (eStr a)) (k : EvW K d ty Ψ) : EvW K d (tBM K "str" (rJoin K) td (tCons ty tNil)) (wJoin a Ψ) := fun S H0 b c n G T ow ρ σ H P sm h1 Q q => by
  refine h _ _ G T ow ρ σ H (.str a) sm.co rfl _ fun v H1 s1 hv => ?_
  cases hv
  refine ⟨rfl, k S H0 b c n G T ow ρ σ H1 _ (sm.mono s1) h1 _ fun u y n1 H2 ⟨e, he, hP⟩ d1 hu => ?_⟩
  unfold fJoin at he
  obtain ⟨ys, h5, h6⟩ := Option.bind_eq_some_iff.mp he
  obtain ⟨es, h7, h8⟩ := Option.bind_eq_some_iff.mp h5
  split at h6
  · rename_i hl
    cases h6
    obtain ⟨p, zs, rfl, hq, hd⟩ := seq_of (.inl hu) h7
    rw [strs_v hd h8] at hq
    exact ⟨a, p, ys, rfl, rfl, hq, Nat.le_trans hl (by decide), q _ _ n1 _ hP ((Dr.pure sm.ck.dk s1).then d1) (.str _)⟩
  · cases h6
end Pb

set_option Elab.async false
set_option linter.all false
set_option maxRecDepth 100000
namespace L67
open PySem PySem.Spec PyProof.Rows L2 Pb
def topS (i : Nat) : Stmt := PySem.Challenge.pw_payorder_k67_invalid_texts.main.body.getD i (.Pass ⟨0, 0, 0, 0⟩)
section
variable {P : Program} {w : World} {K : PySem.W.Frag} {mg : Str → Option Value} {base : Heap}
abbrev s_is_integer : Stmt := topS 4
theorem sc_is_integer : FnScope ["value"] ["value"] (defScope s_is_integer) := ⟨rfl, rfl, rfl, by decide +kernel, rfl, by decide +kernel, by decide +kernel⟩
set_option maxHeartbeats 2000000 in
theorem ok_is_integer {f : Addr} {fd : FuncData} (F : Fun K "is_integer" "is_integer" s_is_integer f fd) (B : Bx mg) :
    FnOk P w K mg base CX0 1 f fd ["value"] (spD K (RF Pb.q_is_integer)) := fn_pure (cl := fun _ => 0) F sc_is_integer fun cdv A outer s H E hr => by
  have nd := sc_is_integer.nd
  exact ⟨_, (pss_one (ps_ret (pe_and (pe_callB (crK (K := K) rIsi rfl call_isi) rfl B.isinstance bt_isinstance (pa_cons (pv 0) (pa_cons (pe_ty rfl B.int bt_int) pa_nil))) (pe_one (pe_not (pe_callB (crK (K := K) rIsi rfl call_isi) rfl B.isinstance bt_isinstance (pa_cons (pv 0) (pa_cons (pe_ty rfl B.bool bt_bool) pa_nil)))))))),
    (ss_ret (xs_and (EvS.t (xs_isi (T := "int") (EvS.t (xs_var 0)))) (xs_not (EvS.t (xs_isi (T := "bool") (EvS.t (xs_var 0)))))))⟩
abbrev s_is_number_below : Stmt := topS 5
theorem sc_is_number_below : FnScope ["value", "count"] ["value", "count"] (defScope s_is_number_below) := ⟨rfl, rfl, rfl, by decide +kernel, rfl, by decide +kernel, by decide +kernel⟩
set_option maxHeartbeats 2000000 in
theorem ok_is_number_below {f : Addr} {fd : FuncData} (F : Fun K "is_number_below" "is_number_below" s_is_number_below f fd) (B : Bx mg) (c_is_integer : Cl P w K mg base 1 "is_integer" ["value"] (spD K (RF Pb.q_is_integer))) :
    FnOk P w K mg base CX0 2 f fd ["value", "count"] (spD K (RF Pb.q_is_number_below)) := fn_pure (cl := fun _ => 0) F sc_is_number_below fun cdv A outer s H E hr => by
  have nd := sc_is_number_below.nd
  exact ⟨_, (pss_one (ps_ret (pe_and (pe_k c_is_integer hr (by decide) rfl (pa_cons (pv 0) pa_nil)) (pe_one (pe_chain op_le op_lt pe_int (pv 0) (pv 1)))))),
    (ss_ret (xs_and (EvS.t (xs_call (g := Pb.q_is_integer) (xa_cons (xs_var 0) xa_nil))) (xs_chain os_le os_lt (EvS.t (xs_int 0)) (EvS.t (xs_var 0)) (EvS.t (xs_var 1)))))⟩
abbrev s_is_ascending_below : Stmt := topS 6
theorem sc_is_ascending_below : FnScope ["value", "count", "last", "number"] ["value", "count"] (defScope s_is_ascending_below) := ⟨rfl, rfl, rfl, by decide +kernel, rfl, by decide +kernel, by decide +kernel⟩
set_option maxHeartbeats 2000000 in
theorem ok_is_ascending_below {f : Addr} {fd : FuncData} (F : Fun K "is_ascending_below" "is_ascending_below" s_is_ascending_below f fd) (B : Bx mg) (c_is_number_below : Cl P w K mg base 2 "is_number_below" ["value", "count"] (spD K (RF Pb.q_is_number_below))) :
    FnOk P w K mg base CX0 3 f fd ["value", "count"] (spD K (RF Pb.q_is_ascending_below)) := fn_pure (cl := fun _ => 0) F sc_is_ascending_below fun cdv A outer s H E hr => by
  have nd := sc_is_ascending_below.nd
  exact ⟨_, (pss_cons (ps_if (pt_not (pt_val (pe_callB (crK (K := K) rIsi rfl call_isi) rfl B.isinstance bt_isinstance (pa_cons (pv 0) (pa_cons (pe_ty rfl B.tuple bt_tuple) pa_nil))))) (pss_one (ps_ret pe_bl)) pss_nil)
      (pss_cons (ps_set (i := 2) nd rfl (Or.inl rfl) (pe_un un_neg pe_int))
      (pss_cons (ps_for PassesOwn.never rfl (piK (K := K) (fun K => iTup K _) rfl (pi_tup (pv 0))) (pg_name (i := 3) nd rfl (Or.inl rfl)) (pss_cons (ps_if (PW.pt (pw_or (pt_not (pt_val (pe_k c_is_number_below hr (by decide) rfl (pa_cons (pv 3) (pa_cons (pv 1) pa_nil))))) (pw_or1 (pt_cmpR op_le (pv 3) (pv 2) (nomark _))))) (pss_one (ps_ret pe_bl)) pss_nil)
      (pss_one (ps_set (i := 2) nd rfl (Or.inl rfl) (pv 3)))))
      (pss_one (ps_ret pe_bl))))),
    (ss_seq (ss_if (tt_not (tt_B (EvS.t (xs_isi (T := "tuple") (EvS.t (xs_var 0)))))) (ss_ret (xs_bl false)) ss_nil)
      (ss_seq (ss_set (xs_un us_neg (EvS.t (xs_int 1))) (tg_name 2))
      (ss_seq (ss_for (wi_tup (xs_var 0)) (tg_name 3) (ss_seq (ss_if (tt_or (tt_not (tt_B (EvS.t (xs_call (g := Pb.q_is_number_below) (xa_cons (xs_var 3) (xa_cons (xs_var 1) xa_nil)))))) (tt_test (EvS.t (xs_op os_le (EvS.t (xs_var 3)) (EvS.t (xs_var 2)))))) (ss_ret (xs_bl false)) ss_nil)
      (ss_set (xs_var 3) (tg_name 2))))
      (ss_ret (xs_bl true)))))⟩
abbrev s_is_distinct_below : Stmt := topS 7
theorem sc_is_distinct_below : FnScope ["value", "count", "number"] ["value", "count"] (defScope s_is_distinct_below) := ⟨rfl, rfl, rfl, by decide +kernel, rfl, by decide +kernel, by decide +kernel⟩
set_option maxHeartbeats 2000000 in
theorem ok_is_distinct_below {f : Addr} {fd : FuncData} (F : Fun K "is_distinct_below" "is_distinct_below" s_is_distinct_below f fd) (B : Bx mg) (c_is_number_below : Cl P w K mg base 2 "is_number_below" ["value", "count"] (spD K (RF Pb.q_is_number_below))) :
    FnOk P w K mg base CX0 3 f fd ["value", "count"] (spD K (RF Pb.q_is_distinct_below)) := fn_pure (cl := fun _ => 0) F sc_is_distinct_below fun cdv A outer s H E hr => by
  have nd := sc_is_distinct_below.nd
  exact ⟨_, (pss_cons (ps_if (pt_not (pt_val (pe_callB (crK (K := K) rIsi rfl call_isi) rfl B.isinstance bt_isinstance (pa_cons (pv 0) (pa_cons (pe_ty rfl B.tuple bt_tuple) pa_nil))))) (pss_one (ps_ret pe_bl)) pss_nil)
      (pss_cons (ps_if (pt_not (pt_val (pe_callB (crK (K := K) rAll rfl (cr_all rfl)) rfl B.all bt_all (pa_cons (pe_lc (own := [("number", 2)]) rfl nd (piK (K := K) (fun K => iTup K _) rfl (pi_tup (pv 0))) (blkOk_by (own := [("number", 2)]) (N := ["value", "count", "number"]) (sc := defScope s_is_distinct_below) (by decide +kernel)) (fun _ _ _ _ _ => (pg_name (i := 2) nd rfl (Or.inl rfl))) (fun _ _ _ _ _ => pts_nil) (fun _ _ _ _ _ => (pe_k c_is_number_below hr (by decide) rfl (pa_cons (pv 2) (pa_cons (pv 1) pa_nil))))) pa_nil)))) (pss_one (ps_ret pe_bl)) pss_nil)
      (pss_one (ps_ret (pe_cmpR op_eq (peK (K := K) (fun K => tLenSetT K _) rfl (pe_lenSetT rfl B.len rfl B.set (pv 0))) (pe_callB (crK (K := K) (fun K xs H Q => ∃ p ys, xs = [.ref p] ∧ (SqL K H p ys ∨ SqT K H p ys) ∧ Q (.int ys.length) H) rfl call_len_seq) rfl B.len bt_len (pa_cons (pv 0) pa_nil)) (nomark _)))))),
    (ss_seq (ss_if (tt_not (tt_B (EvS.t (xs_isi (T := "tuple") (EvS.t (xs_var 0)))))) (ss_ret (xs_bl false)) ss_nil)
      (ss_seq (ss_if (tt_not (tt_B (EvS.t (xs_cb cs_all (xt_cons (EvS.t (EvF.s (xf_lc (vs := [2]) (wi_tup (xs_var 0)) (tg_name 2) tt_yes (xs_call (g := Pb.q_is_number_below) (xa_cons (xs_var 2) (xa_cons (xs_var 1) xa_nil)))))) xt_nil))))) (ss_ret (xs_bl false)) ss_nil)
      (ss_ret (xs_op os_eq (EvS.t (xs_lenSet (EvS.t (xs_var 0)))) (EvS.t (xs_cb cs_len (xt_cons (EvS.t (xs_var 0)) xt_nil)))))))⟩
abbrev s_is_order : Stmt := topS 8
theorem sc_is_order : FnScope ["value", "demands"] ["value", "demands"] (defScope s_is_order) := ⟨rfl, rfl, rfl, by decide +kernel, rfl, by decide +kernel, by decide +kernel⟩
set_option maxHeartbeats 2000000 in
theorem ok_is_order {f : Addr} {fd : FuncData} (F : Fun K "is_order" "is_order" s_is_order f fd) (B : Bx mg) (c_is_distinct_below : Cl P w K mg base 3 "is_distinct_below" ["value", "count"] (spD K (RF Pb.q_is_distinct_below))) :
    FnOk P w K mg base CX0 4 f fd ["value", "demands"] (spD K (RF Pb.q_is_order)) := fn_pure (cl := fun _ => 0) F sc_is_order fun cdv A outer s H E hr => by
  have nd := sc_is_order.nd
  exact ⟨_, (pss_one (ps_ret (pe_and (pe_k c_is_distinct_below hr (by decide) rfl (pa_cons (pv 0) (pa_cons (pv 1) pa_nil))) (pe_one (pe_cmpR op_eq (pe_callB (crK (K := K) (fun K xs H Q => ∃ p ys, xs = [.ref p] ∧ (SqL K H p ys ∨ SqT K H p ys) ∧ Q (.int ys.length) H) rfl call_len_seq) rfl B.len bt_len (pa_cons (pv 0) pa_nil)) (pv 1) (nomark _)))))),
    (ss_ret (xs_and (EvS.t (xs_call (g := Pb.q_is_distinct_below) (xa_cons (xs_var 0) (xa_cons (xs_var 1) xa_nil)))) (xs_op os_eq (EvS.t (xs_cb cs_len (xt_cons (EvS.t (xs_var 0)) xt_nil))) (EvS.t (xs_var 1)))))⟩
abbrev s_is_amount : Stmt := topS 9
theorem sc_is_amount : FnScope ["value"] ["value"] (defScope s_is_amount) := ⟨rfl, rfl, rfl, by decide +kernel, rfl, by decide +kernel, by decide +kernel⟩
set_option maxHeartbeats 2000000 in
theorem ok_is_amount {f : Addr} {fd : FuncData} (F : Fun K "is_amount" "is_amount" s_is_amount f fd) (B : Bx mg) (g_MAX_AMOUNT : ∃ t, mg "MAX_AMOUNT" = some (.int 1000000000000 t)) (c_is_number_below : Cl P w K mg base 2 "is_number_below" ["value", "count"] (spD K (RF Pb.q_is_number_below))) :
    FnOk P w K mg base CX0 3 f fd ["value"] (spD K (RF Pb.q_is_amount)) := fn_pure (cl := fun _ => 0) F sc_is_amount fun cdv A outer s H E hr => by
  have nd := sc_is_amount.nd
  exact ⟨_, (pss_one (ps_ret (pe_k c_is_number_below hr (by decide) rfl (pa_cons (pv 0) (pa_cons (pe_op op_add (pe_gc2 rfl g_MAX_AMOUNT) pe_int) pa_nil))))),
    (ss_ret (xs_call (g := Pb.q_is_number_below) (xa_cons (xs_var 0) (xa_cons (xs_op os_add (EvS.t (xs_int 1000000000000)) (EvS.t (xs_int 1))) xa_nil))))⟩
def q_parse_number : List PyData → Option PyData := runF 1 1
  ((sSeq (sIf (bOr (bNot (bTest (eUn fAsc (eVar 0)))) (bOr (bNot (bTest (eUn fDig (eVar 0)))) (bTest (eOp fGt (eCb fLenS (aCons (eVar 0) aNil)) (eInt 13))))) (sRet eNon) sNil)
  (sSeq (sIf (bAnd (bTest (eOp fEq (eOp fIxS (eVar 0) (eInt 0)) (eStr "0"))) (bTest (eOp fNe (eVar 0) (eStr "0")))) (sRet eNon) sNil)
  (sRet (eCb fIntS (aCons (eVar 0) aNil))))))
abbrev s_parse_number : Stmt := topS 26
theorem sc_parse_number : FnScope ["word"] ["word"] (defScope s_parse_number) := ⟨rfl, rfl, rfl, by decide +kernel, rfl, by decide +kernel, by decide +kernel⟩
set_option maxHeartbeats 2000000 in
theorem ok_parse_number {f : Addr} {fd : FuncData} (F : Fun K "parse_number" "parse_number" s_parse_number f fd) (B : Bx mg) (g_MAX_DIGITS : ∃ t, mg "MAX_DIGITS" = some (.int 13 t)) :
    FnOk P w K mg base CX0 1 f fd ["word"] (spD K (RF q_parse_number)) := fn_pure (cl := fun _ => 0) F sc_parse_number fun cdv A outer s H E hr => by
  have nd := sc_parse_number.nd
  exact ⟨_, (pss_cons (ps_if (PW.pt (pw_or (pt_not (pt_val (pe_bm0 PySem.F.plainAttrs_str PySem.F.slot_str_isascii PySem.F.type_str_isascii mt_isascii (pv 0)))) (pw_or (pt_not (pt_val (pe_bm0 PySem.F.plainAttrs_str PySem.F.slot_str_isdigit PySem.F.type_str_isdigit mt_isdigit (pv 0)))) (pw_or1 (pt_cmpR op_gt (pe_callB call_len_str rfl B.len bt_len (pa_cons (pv 0) pa_nil)) (pe_gc2 rfl g_MAX_DIGITS) (nomark _)))))) (pss_one (ps_ret pe_non)) pss_nil)
      (pss_cons (ps_if (PW.pt (pw_and (pt_cmpR op_eq (pe_ix ix_str (pv 0) pe_int (fun _ _ => rfl)) pe_str (nomark _)) (pw_and1 (pt_cmpR op_ne (pv 0) pe_str (nomark _))))) (pss_one (ps_ret pe_non)) pss_nil)
      (pss_one (ps_ret (pe_callTy call_int_str rfl B.int bt_int (pa_cons (pv 0) pa_nil)))))),
    (ss_seq (ss_if (tt_or (tt_not (tt_B (EvS.t (xs_asc (EvS.t (xs_var 0)))))) (tt_or (tt_not (tt_B (EvS.t (xs_dig (EvS.t (xs_var 0)))))) (tt_test (EvS.t (xs_op os_gt (EvS.t (xs_cb cs_lenS (xt_cons (EvS.t (xs_var 0)) xt_nil))) (EvS.t (xs_int 13))))))) (ss_ret xs_non) ss_nil)
      (ss_seq (ss_if (tt_and (tt_test (EvS.t (xs_op os_eq (EvS.t (xs_op os_ixS (EvS.t (xs_var 0)) (EvS.t (xs_int 0)))) (EvS.t (xs_str "0"))))) (tt_test (EvS.t (xs_op os_ne (EvS.t (xs_var 0)) (EvS.t (xs_str "0")))))) (ss_ret xs_non) ss_nil)
      (ss_ret (xs_cb cs_intS (xt_cons (EvS.t (xs_var 0)) xt_nil)))))⟩
def q_numbers_behind : List PyData → Option PyData := runF 5 2
  ((sSeq (sSet (gN 2) (eL (lSplit (eVar 1) (eStr " "))))
  (sSeq (sSet (gN 3) (eCb fTupOf (aCons (eL (lLc [4] (iL (eL (lSl (eVar 2) (oSome (eInt 1)) oNone))) (gN 4) bYes (eCb q_parse_number (aCons (eVar 4) aNil)))) aNil)))
  (sRet (eIf (bAnd (bTest (eOp fEq (eOp fIxL (eVar 2) (eInt 0)) (eVar 0))) (bTest (eOp fNin eNon (eVar 3)))) (eVar 3) eNon)))))
abbrev s_numbers_behind : Stmt := topS 25
theorem sc_numbers_behind : FnScope ["word", "line", "words", "numbers", "part"] ["word", "line"] (defScope s_numbers_behind) := ⟨rfl, rfl, rfl, by decide +kernel, rfl, by decide +kernel, by decide +kernel⟩
set_option maxHeartbeats 2000000 in
theorem ok_numbers_behind {f : Addr} {fd : FuncData} (F : Fun K "numbers_behind" "numbers_behind" s_numbers_behind f fd) (B : Bx mg) (c_parse_number : Cl P w K mg base 1 "parse_number" ["word"] (spD K (RF q_parse_number))) :
    FnOk P w K mg base CX0 2 f fd ["word", "line"] (spD K (RF q_numbers_behind)) := fn_pure (cl := fun _ => 0) F sc_numbers_behind fun cdv A outer s H E hr => by
  have nd := sc_numbers_behind.nd
  exact ⟨_, (pss_cons (ps_set (i := 2) nd rfl (Or.inl rfl) (pe_bm PySem.F.plainAttrs_str PySem.F.slot_str_split PySem.F.type_str_split mt_split (pv 1) (pa_cons pe_str pa_nil)))
      (pss_cons (ps_set (i := 3) nd rfl (Or.inl rfl) (pe_callTy (crK (K := K) (fun K xs H Q => ∃ p ys, xs = [.ref p] ∧ ((SqL K H p ys ∧ ∀ l, H l = none → Q (.ref l) (upd H l (.tup ys))) ∨ (SqT K H p ys ∧ Q (.ref p) H))) rfl call_tuple_of) rfl B.tuple bt_tuple (pa_cons (pe_lc (own := [("part", 4)]) rfl nd (piK (K := K) (fun K => iList K _) rfl (pi_list (pe_slice (slK (K := K) rSlL rfl sl_list) (pv 2) (po_some pe_int) po_none))) (blkOk_by (own := [("part", 4)]) (N := ["word", "line", "words", "numbers", "part"]) (sc := defScope s_numbers_behind) (by decide +kernel)) (fun _ _ _ _ _ => (pg_name (i := 4) nd rfl (Or.inl rfl))) (fun _ _ _ _ _ => pts_nil) (fun _ _ _ _ _ => (pe_k c_parse_number hr (by decide) rfl (pa_cons (pv 4) pa_nil)))) pa_nil)))
      (pss_one (ps_ret (pe_ifExp (PW.pt (pw_and (pt_cmpR op_eq (pe_ix (ixK (K := K) rIxL rfl ix_list) (pv 2) pe_int (fun _ _ => rfl)) (pv 0) (nomark _)) (pw_and1 (pt_cmpR (opK (K := K) (fun K => rIn K true) rfl op_notIn_seq) pe_non (pv 3) (by with_unfolding_all rfl))))) (pv 3) pe_non))))),
    (ss_seq (ss_set (EvF.s (xf_split (xs_var 1) (xs_str " "))) (tg_name 2))
      (ss_seq (ss_set (xs_cb cs_tupOf (xt_cons (EvS.t (EvF.s (xf_lc (vs := [4]) (wi_lst (EvF.s (xf_sl (EvS.t (xs_var 2)) (xo_some (EvS.t (xs_int 1))) xo_none))) (tg_name 4) tt_yes (xs_call (g := q_parse_number) (xa_cons (xs_var 4) xa_nil))))) xt_nil)) (tg_name 3))
      (ss_ret (xs_ifE (tt_and (tt_test (EvS.t (xs_op os_eq (EvS.t (xs_op os_ixL (EvS.t (xs_var 2)) (EvS.t (xs_int 0)))) (EvS.t (xs_var 0))))) (tt_test (EvS.t (xs_op os_nin (EvS.t xs_non) (EvS.t (xs_var 3)))))) (xs_var 3) xs_non))))⟩
def q_leading_penalties : List PyData → Option PyData := runF 4 1
  ((sSeq (sOwn 1 (lLst aNil))
  (sSeq (sFor (iL (eL (lSl (eVar 0) oNone (oSome (eInt 10))))) (gN 2) (sSeq (sSet (gN 3) (eCb q_numbers_behind (aCons (eStr "demand") (aCons (eVar 2) aNil))))
  (sSeq (sIf (bOr (bTest (eOp fIsN (eVar 3) eNon)) (bOr (bTest (eOp fNe (eCb fLen (aCons (eVar 3) aNil)) (eInt 1))) (bNot (bTest (eCb Pb.q_is_amount (aCons (eOp fIxT (eVar 3) (eInt 0)) aNil)))))) sBrk sNil)
  (sApp 1 (eOp fIxT (eVar 3) (eInt 0))))))
  (sFrz 1 (sRet (eVar 1))))))
abbrev s_leading_penalties : Stmt := topS 23
theorem sc_leading_penalties : FnScope ["lines", "penalties", "line", "numbers"] ["lines"] (defScope s_leading_penalties) := ⟨rfl, rfl, rfl, by decide +kernel, rfl, by decide +kernel, by decide +kernel⟩
set_option maxHeartbeats 2000000 in
theorem ok_leading_penalties {f : Addr} {fd : FuncData} (F : Fun K "leading_penalties" "leading_penalties" s_leading_penalties f fd) (B : Bx mg) (g_MAX_DEMANDS : ∃ t, mg "MAX_DEMANDS" = some (.int 10 t)) (c_numbers_behind : Cl P w K mg base 2 "numbers_behind" ["word", "line"] (spD K (RF q_numbers_behind))) (c_is_amount : Cl P w K mg base 3 "is_amount" ["value"] (spD K (RF Pb.q_is_amount))) :
    FnOk P w K mg base CX0 4 f fd ["lines"] (spD K (RF q_leading_penalties)) := fn_pure (cl := fun _ => 0) F sc_leading_penalties fun cdv A outer s H E hr => by
  have nd := sc_leading_penalties.nd
  exact ⟨_, (pss_cons (ps_set (i := 1) nd rfl (Or.inl rfl) (pe_lst pa_nil))
      (pss_cons (ps_for PassesOwn.never rfl (piK (K := K) (fun K => iList K _) rfl (pi_list (pe_slice (slK (K := K) rSlL rfl sl_list) (pv 0) po_none (po_some (pe_gc2 rfl g_MAX_DEMANDS))))) (pg_name (i := 2) nd rfl (Or.inl rfl)) (pss_cons (ps_set (i := 3) nd rfl (Or.inl rfl) (pe_k c_numbers_behind hr (by decide) rfl (pa_cons pe_str (pa_cons (pv 2) pa_nil))))
      (pss_cons (ps_if (PW.pt (pw_or (pt_cmpR op_isN (pv 3) pe_non (nomark _)) (pw_or (pt_cmpR op_ne (pe_callB (crK (K := K) (fun K xs H Q => ∃ p ys, xs = [.ref p] ∧ (SqL K H p ys ∨ SqT K H p ys) ∧ Q (.int ys.length) H) rfl call_len_seq) rfl B.len bt_len (pa_cons (pv 3) pa_nil)) pe_int (nomark _)) (pw_or1 (pt_not (pt_val (pe_k c_is_amount hr (by decide) rfl (pa_cons (pe_ix (ixK (K := K) rIxT rfl ix_tup) (pv 3) pe_int (fun _ _ => rfl)) pa_nil)))))))) (pss_one ps_break) pss_nil)
      (pss_one (ps_expr (pe_bmK (K := K) rfl (pe_bm PySem.F.plainAttrs_list PySem.F.slot_list_append PySem.F.type_list_append mt_append (pv 1) (pa_cons (pe_ix (ixK (K := K) rIxT rfl ix_tup) (pv 3) pe_int (fun _ _ => rfl)) pa_nil))))))))
      (pss_one (ps_ret (pv 1))))),
    (ss_seq (ss_own (i := 1) (xf_lst xa_nil))
      (ss_seq (ss_for (wi_lst (EvF.s (xf_sl (EvS.t (xs_var 0)) xo_none (xo_some (EvS.t (xs_int 10)))))) (tg_name 2) (ss_seq (ss_set (xs_call (g := q_numbers_behind) (xa_cons (xs_str "demand") (xa_cons (xs_var 2) xa_nil))) (tg_name 3))
      (ss_seq (ss_if (tt_or (tt_test (EvS.t (xs_op os_isN (EvS.t (xs_var 3)) (EvS.t xs_non)))) (tt_or (tt_test (EvS.t (xs_op os_ne (EvS.t (xs_cb cs_len (xt_cons (EvS.t (xs_var 3)) xt_nil))) (EvS.t (xs_int 1))))) (tt_not (tt_B (EvS.t (xs_call (g := Pb.q_is_amount) (xa_cons (xs_op os_ixT (EvS.t (xs_var 3)) (EvS.t (xs_int 0))) xa_nil))))))) ss_brk ss_nil)
      (ss_app (i := 1) (xs_op os_ixT (EvS.t (xs_var 3)) (EvS.t (xs_int 0)))))))
      (ss_frz (i := 1) (ss_ret (xs_var 1)))))⟩
def q_parse_offer : List PyData → Option PyData := runF 3 2
  ((sSeq (sSet (gN 2) (eCb q_numbers_behind (aCons (eStr "offer") (aCons (eVar 0) aNil))))
  (sSeq (sIf (bOr (bTest (eOp fIsN (eVar 2) eNon)) (bOr (bTest (eOp fEq (eCb fLen (aCons (eVar 2) aNil)) (eInt 0))) (bNot (bTest (eCb Pb.q_is_amount (aCons (eOp fIxT (eVar 2) (eInt 0)) aNil)))))) (sRet eNon) sNil)
  (sRet (eIf (bTest (eCb Pb.q_is_ascending_below (aCons (eSlT (eVar 2) (oSome (eInt 1)) oNone) (aCons (eVar 1) aNil)))) (eVar 2) eNon)))))
abbrev s_parse_offer : Stmt := topS 24
theorem sc_parse_offer : FnScope ["line", "demands", "numbers"] ["line", "demands"] (defScope s_parse_offer) := ⟨rfl, rfl, rfl, by decide +kernel, rfl, by decide +kernel, by decide +kernel⟩
set_option maxHeartbeats 2000000 in
theorem ok_parse_offer {f : Addr} {fd : FuncData} (F : Fun K "parse_offer" "parse_offer" s_parse_offer f fd) (B : Bx mg) (c_numbers_behind : Cl P w K mg base 2 "numbers_behind" ["word", "line"] (spD K (RF q_numbers_behind))) (c_is_amount : Cl P w K mg base 3 "is_amount" ["value"] (spD K (RF Pb.q_is_amount))) (c_is_ascending_below : Cl P w K mg base 3 "is_ascending_below" ["value", "count"] (spD K (RF Pb.q_is_ascending_below))) :
    FnOk P w K mg base CX0 4 f fd ["line", "demands"] (spD K (RF q_parse_offer)) := fn_pure (cl := fun _ => 0) F sc_parse_offer fun cdv A outer s H E hr => by
  have nd := sc_parse_offer.nd
  exact ⟨_, (pss_cons (ps_set (i := 2) nd rfl (Or.inl rfl) (pe_k c_numbers_behind hr (by decide) rfl (pa_cons pe_str (pa_cons (pv 0) pa_nil))))
      (pss_cons (ps_if (PW.pt (pw_or (pt_cmpR op_isN (pv 2) pe_non (nomark _)) (pw_or (pt_cmpR op_eq (pe_callB (crK (K := K) (fun K xs H Q => ∃ p ys, xs = [.ref p] ∧ (SqL K H p ys ∨ SqT K H p ys) ∧ Q (.int ys.length) H) rfl call_len_seq) rfl B.len bt_len (pa_cons (pv 2) pa_nil)) pe_int (nomark _)) (pw_or1 (pt_not (pt_val (pe_k c_is_amount hr (by decide) rfl (pa_cons (pe_ix (ixK (K := K) rIxT rfl ix_tup) (pv 2) pe_int (fun _ _ => rfl)) pa_nil)))))))) (pss_one (ps_ret pe_non)) pss_nil)
      (pss_one (ps_ret (pe_ifExp (pt_val (pe_k c_is_ascending_below hr (by decide) rfl (pa_cons (pe_slice (slK (K := K) rSlA rfl sl_tupA) (pv 2) (po_some pe_int) po_none) (pa_cons (pv 1) pa_nil)))) (pv 2) pe_non))))),
    (ss_seq (ss_set (xs_call (g := q_numbers_behind) (xa_cons (xs_str "offer") (xa_cons (xs_var 0) xa_nil))) (tg_name 2))
      (ss_seq (ss_if (tt_or (tt_test (EvS.t (xs_op os_isN (EvS.t (xs_var 2)) (EvS.t xs_non)))) (tt_or (tt_test (EvS.t (xs_op os_eq (EvS.t (xs_cb cs_len (xt_cons (EvS.t (xs_var 2)) xt_nil))) (EvS.t (xs_int 0))))) (tt_not (tt_B (EvS.t (xs_call (g := Pb.q_is_amount) (xa_cons (xs_op os_ixT (EvS.t (xs_var 2)) (EvS.t (xs_int 0))) xa_nil))))))) (ss_ret xs_non) ss_nil)
      (ss_ret (xs_ifE (tt_B (EvS.t (xs_call (g := Pb.q_is_ascending_below) (xa_cons (xs_slT (EvS.t (xs_var 2)) (xo_some (EvS.t (xs_int 1))) xo_none) (xa_cons (xs_var 1) xa_nil))))) (xs_var 2) xs_non))))⟩
def r_parse_data : List PyData → Option Out := runX 8 1
  ((xSeq (xIf (bNot (bTest (eUn (fIsi "str") (eVar 0)))) (xRaise1 "BadText" "line" eNon) (xP sNil))
  (xSeq (xP (sSet (gN 1) (eL (lSplit (eVar 0) (eStr "\n")))))
  (xSeq (xP (sSet (gN 2) (eL (lSl (eVar 1) oNone (oSome (eUn fNeg (eInt 1)))))))
  (xSeq (xP (sSet (gN 3) (eCb q_leading_penalties (aCons (eVar 2) aNil))))
  (xSeq (xIf (bTest (eOp fEq (eCb fLen (aCons (eVar 3) aNil)) (eInt 0))) (xRaise1 "BadText" "line" (eInt 0)) (xP sNil))
  (xSeq (xP (sOwn 4 (lLst aNil)))
  (xSeq (xFor (iR2 (eCb fLen (aCons (eVar 3) aNil)) (eCb fLen (aCons (eVar 2) aNil))) (gN 5) (xSeq (xP (sSet (gN 6) (eCb q_parse_offer (aCons (eOp fIxL (eVar 2) (eVar 5)) (aCons (eCb fLen (aCons (eVar 3) aNil)) aNil)))))
  (xSeq (xIf (bOr (bTest (eOp fIsN (eVar 6) eNon)) (bTest (eOp fGe (eCb fLen (aCons (eL (lOwn 4)) aNil)) (eInt 10)))) (xRaise1 "BadText" "line" (eVar 5)) (xP sNil))
  (xP (sApp 4 (eVar 6))))))
  (xSeq (xIf (bTest (eOp fNe (eOp fIxL (eVar 1) (eUn fNeg (eInt 1))) (eStr ""))) (xRaise1 "BadText" "line" (eCb fLen (aCons (eVar 2) aNil))) (xP sNil))
  (xP (sSeq (sFrz 4 (sSet (gN 7) (eTup (aCons (eCb fLen (aCons (eVar 3) aNil)) (aCons (eCb fTupOf (aCons (eL (lLc [6] (iL (eVar 4)) (gN 6) bYes (eSlT (eVar 6) (oSome (eInt 1)) oNone))) aNil)) aNil)))))
  (sRet (eTup (aCons (eVar 7) (aCons (eCb fTupOf (aCons (eL (lLc [6] (iL (eVar 4)) (gN 6) bYes (eOp fIxT (eVar 6) (eInt 0)))) aNil)) (aCons (eCb fTupOf (aCons (eVar 3) aNil)) aNil))))))))))))))))
abbrev sx_parse_data : Stmt := topS 22
theorem scx_parse_data : FnScope ["value", "parts", "lines", "penalties", "rows", "index", "row", "table"] ["value"] (defScope sx_parse_data) := ⟨rfl, rfl, rfl, by decide +kernel, rfl, by decide +kernel, by decide +kernel⟩
set_option maxHeartbeats 4000000 in
theorem okx_parse_data {f : Addr} {fd : FuncData} {cl : Str → Addr} (F : Fun K "parse_data" "parse_data" sx_parse_data f fd) (B : Bx mg) (T_BadText : EcI P w K mg base "BadText" (cl "BadText") "line") (g_MAX_OFFERS : ∃ t, mg "MAX_OFFERS" = some (.int 10 t)) (c_leading_penalties : Cl P w K mg base 4 "leading_penalties" ["lines"] (spD K (RF q_leading_penalties))) (c_parse_offer : Cl P w K mg base 4 "parse_offer" ["line", "demands"] (spD K (RF q_parse_offer))) :
    FnOk P w K mg base (L2.CX P w) 5 f fd ["value"] (spY K cl r_parse_data) := fn_raise F scx_parse_data fun cdv A outer s H E hr => by
  have nd := scx_parse_data.nd
  exact ⟨_, (pss_cons (ps_if (PT.nox (pt_not (pt_val (pe_callB (crK (K := K) rIsi rfl call_isi) rfl B.isinstance bt_isinstance (pa_cons (pv 0) (pa_cons (pe_ty rfl B.str bt_str) pa_nil)))))) (pss_one (ps_raise rfl (takes_of rfl rfl rfl rfl) (pmk_eci T_BadText (hr.mono (by decide)) rfl (by exact (PE.nox pe_non))))) pss_nil)
      (pss_cons (ps_set (i := 1) nd rfl (Or.inl rfl) (PE.nox (pe_bm PySem.F.plainAttrs_str PySem.F.slot_str_split PySem.F.type_str_split mt_split (pv 0) (pa_cons pe_str pa_nil))))
      (pss_cons (ps_set (i := 2) nd rfl (Or.inl rfl) (PE.nox (pe_slice (slK (K := K) rSlL rfl sl_list) (pv 1) po_none (po_some (pe_un un_neg pe_int)))))
      (pss_cons (ps_set (i := 3) nd rfl (Or.inl rfl) (PE.nox (pe_k c_leading_penalties hr (by decide) rfl (pa_cons (pv 2) pa_nil))))
      (pss_cons (ps_if (PT.nox (pt_cmpR op_eq (pe_callB (crK (K := K) (fun K xs H Q => ∃ p ys, xs = [.ref p] ∧ (SqL K H p ys ∨ SqT K H p ys) ∧ Q (.int ys.length) H) rfl call_len_seq) rfl B.len bt_len (pa_cons (pv 3) pa_nil)) pe_int (nomark _))) (pss_one (ps_raise rfl (takes_of rfl rfl rfl rfl) (pmk_eci T_BadText (hr.mono (by decide)) rfl (by exact (PE.nox pe_int))))) pss_nil)
      (pss_cons (ps_set (i := 4) nd rfl (Or.inl rfl) (PE.nox (pe_lst pa_nil)))
      (pss_cons (ps_for (passes_of rfl) rfl (pi_nox (pi_range2 rfl B.range (pa_cons (pe_callB (crK (K := K) (fun K xs H Q => ∃ p ys, xs = [.ref p] ∧ (SqL K H p ys ∨ SqT K H p ys) ∧ Q (.int ys.length) H) rfl call_len_seq) rfl B.len bt_len (pa_cons (pv 3) pa_nil)) (pa_cons (pe_callB (crK (K := K) (fun K xs H Q => ∃ p ys, xs = [.ref p] ∧ (SqL K H p ys ∨ SqT K H p ys) ∧ Q (.int ys.length) H) rfl call_len_seq) rfl B.len bt_len (pa_cons (pv 2) pa_nil)) pa_nil)))) (pg_name (i := 5) nd rfl (Or.inl rfl)) (pss_cons (ps_set (i := 6) nd rfl (Or.inl rfl) (PE.nox (pe_k c_parse_offer hr (by decide) rfl (pa_cons (pe_ix (ixK (K := K) rIxL rfl ix_list) (pv 2) (pv 5) (fun _ _ => rfl)) (pa_cons (pe_callB (crK (K := K) (fun K xs H Q => ∃ p ys, xs = [.ref p] ∧ (SqL K H p ys ∨ SqT K H p ys) ∧ Q (.int ys.length) H) rfl call_len_seq) rfl B.len bt_len (pa_cons (pv 3) pa_nil)) pa_nil)))))
      (pss_cons (ps_if (PT.nox (PW.pt (pw_or (pt_cmpR op_isN (pv 6) pe_non (nomark _)) (pw_or1 (pt_cmpR op_ge (pe_callB (crK (K := K) (fun K xs H Q => ∃ p ys, xs = [.ref p] ∧ (SqL K H p ys ∨ SqT K H p ys) ∧ Q (.int ys.length) H) rfl call_len_seq) rfl B.len bt_len (pa_cons (pv 4) pa_nil)) (pe_gc2 rfl g_MAX_OFFERS) (nomark _)))))) (pss_one (ps_raise rfl (takes_of rfl rfl rfl rfl) (pmk_eci T_BadText (hr.mono (by decide)) rfl (by exact (PE.nox (pv 5)))))) pss_nil)
      (PSs.nox (pss_one (ps_expr (pe_bmK (K := K) rfl (pe_bm PySem.F.plainAttrs_list PySem.F.slot_list_append PySem.F.type_list_append mt_append (pv 4) (pa_cons (pv 6) pa_nil)))))))))
      (pss_cons (ps_if (PT.nox (pt_cmpR op_ne (pe_ix (ixK (K := K) rIxL rfl ix_list) (pv 1) (pe_un un_neg pe_int) (fun _ _ => rfl)) pe_str (nomark _))) (pss_one (ps_raise rfl (takes_of rfl rfl rfl rfl) (pmk_eci T_BadText (hr.mono (by decide)) rfl (by exact (PE.nox (pe_callB (crK (K := K) (fun K xs H Q => ∃ p ys, xs = [.ref p] ∧ (SqL K H p ys ∨ SqT K H p ys) ∧ Q (.int ys.length) H) rfl call_len_seq) rfl B.len bt_len (pa_cons (pv 2) pa_nil))))))) pss_nil)
      (PSs.nox (pss_cons (ps_set (i := 7) nd rfl (Or.inl rfl) (pe_tup (pa_cons (pe_callB (crK (K := K) (fun K xs H Q => ∃ p ys, xs = [.ref p] ∧ (SqL K H p ys ∨ SqT K H p ys) ∧ Q (.int ys.length) H) rfl call_len_seq) rfl B.len bt_len (pa_cons (pv 3) pa_nil)) (pa_cons (pe_callTy (crK (K := K) (fun K xs H Q => ∃ p ys, xs = [.ref p] ∧ ((SqL K H p ys ∧ ∀ l, H l = none → Q (.ref l) (upd H l (.tup ys))) ∨ (SqT K H p ys ∧ Q (.ref p) H))) rfl call_tuple_of) rfl B.tuple bt_tuple (pa_cons (pe_lc (own := [("row", 6)]) rfl nd (piK (K := K) (fun K => iList K _) rfl (pi_list (pv 4))) (blkOk_by (own := [("row", 6)]) (N := ["value", "parts", "lines", "penalties", "rows", "index", "row", "table"]) (sc := defScope sx_parse_data) (by decide +kernel)) (fun _ _ _ _ _ => (pg_name (i := 6) nd rfl (Or.inl rfl))) (fun _ _ _ _ _ => pts_nil) (fun _ _ _ _ _ => (pe_slice (slK (K := K) rSlA rfl sl_tupA) (pv 6) (po_some pe_int) po_none))) pa_nil)) pa_nil))))
      (pss_one (ps_ret (pe_tup (pa_cons (pv 7) (pa_cons (pe_callTy (crK (K := K) (fun K xs H Q => ∃ p ys, xs = [.ref p] ∧ ((SqL K H p ys ∧ ∀ l, H l = none → Q (.ref l) (upd H l (.tup ys))) ∨ (SqT K H p ys ∧ Q (.ref p) H))) rfl call_tuple_of) rfl B.tuple bt_tuple (pa_cons (pe_lc (own := [("row", 6)]) rfl nd (piK (K := K) (fun K => iList K _) rfl (pi_list (pv 4))) (blkOk_by (own := [("row", 6)]) (N := ["value", "parts", "lines", "penalties", "rows", "index", "row", "table"]) (sc := defScope sx_parse_data) (by decide +kernel)) (fun _ _ _ _ _ => (pg_name (i := 6) nd rfl (Or.inl rfl))) (fun _ _ _ _ _ => pts_nil) (fun _ _ _ _ _ => (pe_ix (ixK (K := K) rIxT rfl ix_tup) (pv 6) pe_int (fun _ _ => rfl)))) pa_nil)) (pa_cons (pe_callTy (crK (K := K) (fun K xs H Q => ∃ p ys, xs = [.ref p] ∧ ((SqL K H p ys ∧ ∀ l, H l = none → Q (.ref l) (upd H l (.tup ys))) ∨ (SqT K H p ys ∧ Q (.ref p) H))) rfl call_tuple_of) rfl B.tuple bt_tuple (pa_cons (pv 3) pa_nil)) pa_nil)))))))))))))))),
    (sx_seq (sx_if (tt_not (tt_B (EvS.t (xs_isi (T := "str") (EvS.t (xs_var 0)))))) (sx_raise1 (x := "BadText") (f := "line") xs_non) (StP.x ss_nil))
      (sx_seq (StP.x (ss_set (EvF.s (xf_split (xs_var 0) (xs_str "\n"))) (tg_name 1)))
      (sx_seq (StP.x (ss_set (EvF.s (xf_sl (EvS.t (xs_var 1)) xo_none (xo_some (EvS.t (xs_un us_neg (EvS.t (xs_int 1))))))) (tg_name 2)))
      (sx_seq (StP.x (ss_set (xs_call (g := q_leading_penalties) (xa_cons (xs_var 2) xa_nil)) (tg_name 3)))
      (sx_seq (sx_if (tt_test (EvS.t (xs_op os_eq (EvS.t (xs_cb cs_len (xt_cons (EvS.t (xs_var 3)) xt_nil))) (EvS.t (xs_int 0))))) (sx_raise1 (x := "BadText") (f := "line") (xs_int 0)) (StP.x ss_nil))
      (sx_seq (StP.x (ss_own (i := 4) (xf_lst xa_nil)))
      (sx_seq (sx_for (wi_rng2 (EvS.t (xs_cb cs_len (xt_cons (EvS.t (xs_var 3)) xt_nil))) (EvS.t (xs_cb cs_len (xt_cons (EvS.t (xs_var 2)) xt_nil)))) (tg_name 5) (sx_seq (StP.x (ss_set (xs_call (g := q_parse_offer) (xa_cons (xs_op os_ixL (EvS.t (xs_var 2)) (EvS.t (xs_var 5))) (xa_cons (xs_cb cs_len (xt_cons (EvS.t (xs_var 3)) xt_nil)) xa_nil))) (tg_name 6)))
      (sx_seq (sx_if (tt_or (tt_test (EvS.t (xs_op os_isN (EvS.t (xs_var 6)) (EvS.t xs_non)))) (tt_test (EvS.t (xs_op os_ge (EvS.t (xs_cb cs_len (xt_cons (EvLi.t (xl_own 4)) xt_nil))) (EvS.t (xs_int 10)))))) (sx_raise1 (x := "BadText") (f := "line") (xs_var 5)) (StP.x ss_nil))
      (StP.x (ss_app (i := 4) (xs_var 6))))))
      (sx_seq (sx_if (tt_test (EvS.t (xs_op os_ne (EvS.t (xs_op os_ixL (EvS.t (xs_var 1)) (EvS.t (xs_un us_neg (EvS.t (xs_int 1)))))) (EvS.t (xs_str ""))))) (sx_raise1 (x := "BadText") (f := "line") (xs_cb cs_len (xt_cons (EvS.t (xs_var 2)) xt_nil))) (StP.x ss_nil))
      (StP.x (ss_seq (ss_frz (i := 4) (ss_set (xs_tup (xa_cons (xs_cb cs_len (xt_cons (EvS.t (xs_var 3)) xt_nil)) (xa_cons (xs_cb cs_tupOf (xt_cons (EvS.t (EvF.s (xf_lc (vs := [6]) (wi_lst (xs_var 4)) (tg_name 6) tt_yes (xs_slT (EvS.t (xs_var 6)) (xo_some (EvS.t (xs_int 1))) xo_none)))) xt_nil)) xa_nil))) (tg_name 7)))
      (ss_ret (xs_tup (xa_cons (xs_var 7) (xa_cons (xs_cb cs_tupOf (xt_cons (EvS.t (EvF.s (xf_lc (vs := [6]) (wi_lst (xs_var 4)) (tg_name 6) tt_yes (xs_op os_ixT (EvS.t (xs_var 6)) (EvS.t (xs_int 0)))))) xt_nil)) (xa_cons (xs_cb cs_tupOf (xt_cons (EvS.t (xs_var 3)) xt_nil)) xa_nil)))))))))))))))⟩
def r_parse_order : List PyData → Option Out := runX 3 1
  ((xSeq (xIf (bNot (bTest (eUn (fIsi "str") (eVar 0)))) (xRaise1 "BadText" "line" eNon) (xP sNil))
  (xSeq (xP (sSet (gN 1) (eCb fTupOf (aCons (eL (lLc [2] (iL (eL (lSplit (eVar 0) (eStr ">")))) (gN 2) bYes (eCb q_parse_number (aCons (eVar 2) aNil)))) aNil))))
  (xSeq (xIf (bOr (bTest (eOp fGt (eCb fLen (aCons (eVar 1) aNil)) (eInt 10))) (bNot (bTest (eCb Pb.q_is_order (aCons (eVar 1) (aCons (eCb fLen (aCons (eVar 1) aNil)) aNil)))))) (xRaise1 "BadText" "line" (eInt 0)) (xP sNil))
  (xP (sRet (eVar 1)))))))
abbrev sx_parse_order : Stmt := topS 27
theorem scx_parse_order : FnScope ["value", "order", "word"] ["value"] (defScope sx_parse_order) := ⟨rfl, rfl, rfl, by decide +kernel, rfl, by decide +kernel, by decide +kernel⟩
set_option maxHeartbeats 4000000 in
theorem okx_parse_order {f : Addr} {fd : FuncData} {cl : Str → Addr} (F : Fun K "parse_order" "parse_order" sx_parse_order f fd) (B : Bx mg) (T_BadText : EcI P w K mg base "BadText" (cl "BadText") "line") (g_MAX_DEMANDS : ∃ t, mg "MAX_DEMANDS" = some (.int 10 t)) (c_parse_number : Cl P w K mg base 1 "parse_number" ["word"] (spD K (RF q_parse_number))) (c_is_order : Cl P w K mg base 4 "is_order" ["value", "demands"] (spD K (RF Pb.q_is_order))) :
    FnOk P w K mg base (L2.CX P w) 5 f fd ["value"] (spY K cl r_parse_order) := fn_raise F scx_parse_order fun cdv A outer s H E hr => by
  have nd := scx_parse_order.nd
  exact ⟨_, (pss_cons (ps_if (PT.nox (pt_not (pt_val (pe_callB (crK (K := K) rIsi rfl call_isi) rfl B.isinstance bt_isinstance (pa_cons (pv 0) (pa_cons (pe_ty rfl B.str bt_str) pa_nil)))))) (pss_one (ps_raise rfl (takes_of rfl rfl rfl rfl) (pmk_eci T_BadText (hr.mono (by decide)) rfl (by exact (PE.nox pe_non))))) pss_nil)
      (pss_cons (ps_set (i := 1) nd rfl (Or.inl rfl) (PE.nox (pe_callTy (crK (K := K) (fun K xs H Q => ∃ p ys, xs = [.ref p] ∧ ((SqL K H p ys ∧ ∀ l, H l = none → Q (.ref l) (upd H l (.tup ys))) ∨ (SqT K H p ys ∧ Q (.ref p) H))) rfl call_tuple_of) rfl B.tuple bt_tuple (pa_cons (pe_lc (own := [("word", 2)]) rfl nd (piK (K := K) (fun K => iList K _) rfl (pi_list (pe_bm PySem.F.plainAttrs_str PySem.F.slot_str_split PySem.F.type_str_split mt_split (pv 0) (pa_cons pe_str pa_nil)))) (blkOk_by (own := [("word", 2)]) (N := ["value", "order", "word"]) (sc := defScope sx_parse_order) (by decide +kernel)) (fun _ _ _ _ _ => (pg_name (i := 2) nd rfl (Or.inl rfl))) (fun _ _ _ _ _ => pts_nil) (fun _ _ _ _ _ => (pe_k c_parse_number hr (by decide) rfl (pa_cons (pv 2) pa_nil)))) pa_nil))))
      (pss_cons (ps_if (PT.nox (PW.pt (pw_or (pt_cmpR op_gt (pe_callB (crK (K := K) (fun K xs H Q => ∃ p ys, xs = [.ref p] ∧ (SqL K H p ys ∨ SqT K H p ys) ∧ Q (.int ys.length) H) rfl call_len_seq) rfl B.len bt_len (pa_cons (pv 1) pa_nil)) (pe_gc2 rfl g_MAX_DEMANDS) (nomark _)) (pw_or1 (pt_not (pt_val (pe_k c_is_order hr (by decide) rfl (pa_cons (pv 1) (pa_cons (pe_callB (crK (K := K) (fun K xs H Q => ∃ p ys, xs = [.ref p] ∧ (SqL K H p ys ∨ SqT K H p ys) ∧ Q (.int ys.length) H) rfl call_len_seq) rfl B.len bt_len (pa_cons (pv 1) pa_nil)) pa_nil))))))))) (pss_one (ps_raise rfl (takes_of rfl rfl rfl rfl) (pmk_eci T_BadText (hr.mono (by decide)) rfl (by exact (PE.nox pe_int))))) pss_nil)
      (PSs.nox (pss_one (ps_ret (pv 1))))))),
    (sx_seq (sx_if (tt_not (tt_B (EvS.t (xs_isi (T := "str") (EvS.t (xs_var 0)))))) (sx_raise1 (x := "BadText") (f := "line") xs_non) (StP.x ss_nil))
      (sx_seq (StP.x (ss_set (xs_cb cs_tupOf (xt_cons (EvS.t (EvF.s (xf_lc (vs := [2]) (wi_lst (EvF.s (xf_split (xs_var 0) (xs_str ">")))) (tg_name 2) tt_yes (xs_call (g := q_parse_number) (xa_cons (xs_var 2) xa_nil))))) xt_nil)) (tg_name 1)))
      (sx_seq (sx_if (tt_or (tt_test (EvS.t (xs_op os_gt (EvS.t (xs_cb cs_len (xt_cons (EvS.t (xs_var 1)) xt_nil))) (EvS.t (xs_int 10))))) (tt_not (tt_B (EvS.t (xs_call (g := Pb.q_is_order) (xa_cons (xs_var 1) (xa_cons (xs_cb cs_len (xt_cons (EvS.t (xs_var 1)) xt_nil)) xa_nil))))))) (sx_raise1 (x := "BadText") (f := "line") (xs_int 0)) (StP.x ss_nil))
      (StP.x (ss_ret (xs_var 1))))))⟩
def q__law_text : List PyData → Option PyData := runF 9 3
  ((sSeq (sOwn 3 (lLc [6] (iT (eVar 2)) (gN 6) bYes (eOp fAddS (eStr "demand ") (eCb fStrI (aCons (eVar 6) aNil)))))
  (sSeq (sFor (iZT (eOp fIxT (eVar 0) (eInt 1)) (eVar 1)) (gT (gC (gN 4) (gC (gN 5) g0))) (sApp 3 (eOp fJoin (eStr " ") (eL (lCat (lLst (aCons (eStr "offer") (aCons (eCb fStrI (aCons (eVar 5) aNil)) aNil))) (lLc [8] (iT (eVar 4)) (gN 8) bYes (eCb fStrI (aCons (eVar 8) aNil))))))))
  (sFrz 3 (sRet (eOp fJoin (eStr "") (eL (lLc [7] (iL (eVar 3)) (gN 7) bYes (eOp fAddS (eVar 7) (eStr "\n"))))))))))
abbrev s__law_text : Stmt := topS 42
theorem sc__law_text : FnScope ["_law_table_here", "_law_prices", "_law_penalties", "_law_lines", "_law_offer_here", "_law_price", "_law_own", "_law_line", "_law_demand"] ["_law_table_here", "_law_prices", "_law_penalties"] (defScope s__law_text) := ⟨rfl, rfl, rfl, by decide +kernel, rfl, by decide +kernel, by decide +kernel⟩
set_option maxHeartbeats 2000000 in
theorem ok__law_text {f : Addr} {fd : FuncData} (F : Fun K "_law_text" "_law_text" s__law_text f fd) (B : Bx mg) :
    FnOk P w K mg base CX0 1 f fd ["_law_table_here", "_law_prices", "_law_penalties"] (spD K (RF q__law_text)) := fn_pure (cl := fun _ => 0) F sc__law_text fun cdv A outer s H E hr => by
  have nd := sc__law_text.nd
  exact ⟨_, (pss_cons (ps_setLc (i := 3) (own := [("_law_own", 6)]) rfl nd rfl rfl (sw_true rfl rfl rfl (by decide +kernel)) (piK (K := K) (fun K => iTup K _) rfl (pi_tup (pv 2))) (blkOk_by (own := [("_law_own", 6)]) (N := ["_law_table_here", "_law_prices", "_law_penalties", "_law_lines", "_law_offer_here", "_law_price", "_law_own", "_law_line", "_law_demand"]) (sc := defScope s__law_text) (by decide +kernel)) (fun _ _ _ _ _ => (pg_name (i := 6) nd rfl (Or.inl rfl))) (fun _ _ _ _ _ => pts_nil) (fun _ _ _ _ _ => (pe_op op_addS pe_str (pe_callTy call_str_int rfl B.str bt_str (pa_cons (pv 6) pa_nil)))))
      (pss_cons (ps_for PassesOwn.never rfl (piK (K := K) (fun K => RZ.iZipA K _) rfl (RZ.pi_zipA rfl B.zip (pa_cons (pe_ix (ixK (K := K) rIxT rfl ix_tup) (pv 0) pe_int (fun _ _ => rfl)) (pa_cons (pv 1) pa_nil)))) (pg_tupK (K := K) (n := 2) rfl rfl (pgs_cons (pg_name (i := 4) nd rfl (Or.inl rfl)) (pgs_cons (pg_name (i := 5) nd rfl (Or.inl rfl)) pgs_nil))) (pss_one (ps_expr (pe_bmK (K := K) rfl (pe_bm PySem.F.plainAttrs_list PySem.F.slot_list_append PySem.F.type_list_append mt_append (pv 3) (pa_cons (pe_bm PySem.F.plainAttrs_str PySem.F.slot_str_join PySem.F.type_str_join (mt_joinK (K := K) rfl) pe_str (pa_cons (pe_op op_cat (pe_lst (pa_cons pe_str (pa_cons (pe_callTy call_str_int rfl B.str bt_str (pa_cons (pv 5) pa_nil)) pa_nil))) (pe_lc (own := [("_law_demand", 8)]) rfl nd (piK (K := K) (fun K => iTup K _) rfl (pi_tup (pv 4))) (blkOk_by (own := [("_law_demand", 8)]) (N := ["_law_table_here", "_law_prices", "_law_penalties", "_law_lines", "_law_offer_here", "_law_price", "_law_own", "_law_line", "_law_demand"]) (sc := defScope s__law_text) (by decide +kernel)) (fun _ _ _ _ _ => (pg_name (i := 8) nd rfl (Or.inl rfl))) (fun _ _ _ _ _ => pts_nil) (fun _ _ _ _ _ => (pe_callTy call_str_int rfl B.str bt_str (pa_cons (pv 8) pa_nil))))) pa_nil)) pa_nil))))))
      (pss_one (ps_ret (pe_bm PySem.F.plainAttrs_str PySem.F.slot_str_join PySem.F.type_str_join (mt_joinK (K := K) rfl) pe_str (pa_cons (pe_lc (own := [("_law_line", 7)]) rfl nd (piK (K := K) (fun K => iList K _) rfl (pi_list (pv 3))) (blkOk_by (own := [("_law_line", 7)]) (N := ["_law_table_here", "_law_prices", "_law_penalties", "_law_lines", "_law_offer_here", "_law_price", "_law_own", "_law_line", "_law_demand"]) (sc := defScope s__law_text) (by decide +kernel)) (fun _ _ _ _ _ => (pg_name (i := 7) nd rfl (Or.inl rfl))) (fun _ _ _ _ _ => pts_nil) (fun _ _ _ _ _ => (pe_op op_addS (pv 7) pe_str))) pa_nil)))))),
    (ss_seq (ss_own (i := 3) (xf_lc (vs := [6]) (wi_tup (xs_var 2)) (tg_name 6) tt_yes (xs_op os_addS (EvS.t (xs_str "demand ")) (EvS.t (xs_cb cs_strI (xt_cons (EvS.t (xs_var 6)) xt_nil))))))
      (ss_seq (ss_for (wi_zipT (xs_op os_ixT (EvS.t (xs_var 0)) (EvS.t (xs_int 1))) (xs_var 1)) (tg_tup (tgs_cons (tg_name 4) (tgs_cons (tg_name 5) tgs_nil)) (gC_len (gC_len g0_len))) (ss_app (i := 3) (xs_join (xs_str " ") (EvS.t (EvF.s (xf_cat (EvF.l (xf_lst (xa_cons (xs_str "offer") (xa_cons (xs_cb cs_strI (xt_cons (EvS.t (xs_var 5)) xt_nil)) xa_nil)))) (EvF.l (xf_lc (vs := [8]) (wi_tup (xs_var 4)) (tg_name 8) tt_yes (xs_cb cs_strI (xt_cons (EvS.t (xs_var 8)) xt_nil))))))))))
      (ss_frz (i := 3) (ss_ret (xs_join (xs_str "") (EvS.t (EvF.s (xf_lc (vs := [7]) (wi_lst (xs_var 3)) (tg_name 7) tt_yes (xs_op os_addS (EvS.t (xs_var 7)) (EvS.t (xs_str "\n")))))))))))⟩
def q__law_integer : List PyData → Option PyData := runF 2 1
  ((sSeq (sIf (bOr (bNot (bTest (eChain fLe fLe (eInt 1) (eCb fLenS (aCons (eVar 0) aNil)) (eInt 13)))) (bTest (eOp fNe0 (eL (lLc [1] (iSx (eVar 0)) (gN 1) (bTest (eOp fNinSg (eVar 1) (eStr "0123456789"))) (eVar 1))) (eL (lLst aNil))))) (sRet (eUn fNeg (eInt 1))) sNil)
  (sRet (eIf (bAnd (bTest (eOp fEq (eOp fIxS (eVar 0) (eInt 0)) (eStr "0"))) (bTest (eOp fGt (eCb fLenS (aCons (eVar 0) aNil)) (eInt 1)))) (eUn fNeg (eInt 1)) (eCb fIntS (aCons (eVar 0) aNil))))))
abbrev s__law_integer : Stmt := topS 43
theorem sc__law_integer : FnScope ["_law_word", "_law_sign"] ["_law_word"] (defScope s__law_integer) := ⟨rfl, rfl, rfl, by decide +kernel, rfl, by decide +kernel, by decide +kernel⟩
set_option maxHeartbeats 2000000 in
theorem ok__law_integer {f : Addr} {fd : FuncData} (F : Fun K "_law_integer" "_law_integer" s__law_integer f fd) (B : Bx mg) :
    FnOk P w K mg base CX0 1 f fd ["_law_word"] (spD K (RF q__law_integer)) := fn_pure (cl := fun _ => 0) F sc__law_integer fun cdv A outer s H E hr => by
  have nd := sc__law_integer.nd
  exact ⟨_, (pss_cons (ps_if (PW.pt (pw_or (pt_not (pt_chain op_le op_le pe_int (pe_callB call_len_str rfl B.len bt_len (pa_cons (pv 0) pa_nil)) pe_int)) (pw_or1 (pt_cmpR (opK (K := K) rNe0 rfl (op_ne0 hr.units)) (pe_lc (own := [("_law_sign", 1)]) rfl nd (pi_str (pv 0)) (blkOk_by (own := [("_law_sign", 1)]) (N := ["_law_word", "_law_sign"]) (sc := defScope s__law_integer) (by decide +kernel)) (fun _ _ _ _ _ => (pg_name (i := 1) nd rfl (Or.inl rfl))) (fun _ _ _ _ _ => pts_one (pt_cmpR op_ninSg (pv 1) pe_str (by with_unfolding_all rfl))) (fun _ _ _ _ _ => (pv 1))) (pe_lst pa_nil) (nomark _))))) (pss_one (ps_ret (pe_un un_neg pe_int))) pss_nil)
      (pss_one (ps_ret (pe_ifExp (PW.pt (pw_and (pt_cmpR op_eq (pe_ix ix_str (pv 0) pe_int (fun _ _ => rfl)) pe_str (nomark _)) (pw_and1 (pt_cmpR op_gt (pe_callB call_len_str rfl B.len bt_len (pa_cons (pv 0) pa_nil)) pe_int (nomark _))))) (pe_un un_neg pe_int) (pe_callTy call_int_str rfl B.int bt_int (pa_cons (pv 0) pa_nil)))))),
    (ss_seq (ss_if (tt_or (tt_not (tt_test (EvS.t (xs_chain os_le os_le (EvS.t (xs_int 1)) (EvS.t (xs_cb cs_lenS (xt_cons (EvS.t (xs_var 0)) xt_nil))) (EvS.t (xs_int 13)))))) (tt_test (EvS.t (xs_op os_ne0 (EvS.t (EvF.s (xf_lc (vs := [1]) (wi_str (xs_var 0)) (tg_name 1) (tt_test (EvS.t (xs_op os_ninSg (EvS.t (xs_var 1)) (EvS.t (xs_str "0123456789"))))) (xs_var 1)))) (EvS.t (EvF.s (xf_lst xa_nil))))))) (ss_ret (xs_un us_neg (EvS.t (xs_int 1)))) ss_nil)
      (ss_ret (xs_ifE (tt_and (tt_test (EvS.t (xs_op os_eq (EvS.t (xs_op os_ixS (EvS.t (xs_var 0)) (EvS.t (xs_int 0)))) (EvS.t (xs_str "0"))))) (tt_test (EvS.t (xs_op os_gt (EvS.t (xs_cb cs_lenS (xt_cons (EvS.t (xs_var 0)) xt_nil))) (EvS.t (xs_int 1)))))) (xs_un us_neg (EvS.t (xs_int 1))) (xs_cb cs_intS (xt_cons (EvS.t (xs_var 0)) xt_nil)))))⟩
def q__law_offer : List PyData → Option PyData := runF 6 2
  ((sSeq (sSet (gN 2) (eL (lLc [4] (iL (eVar 0)) (gN 4) bYes (eCb q__law_integer (aCons (eVar 4) aNil)))))
  (sSeq (sIf (bOr (bTest (eOp fEq0 (eVar 2) (eL (lLst aNil)))) (bNot (bTest (eChain fLe fLe (eInt 0) (eOp fIxL (eVar 2) (eInt 0)) (eOp fPow (eInt 10) (eInt 12)))))) (sRet (eTup aNil)) sNil)
  (sSeq (sSet (gN 3) (eL (lSl (eVar 2) (oSome (eInt 1)) oNone)))
  (sSeq (sIf (bOr (bTest (eOp fNe0 (eL (lLc [5] (iL (eVar 3)) (gN 5) (bNot (bTest (eChain fLe fLt (eInt 0) (eVar 5) (eVar 1)))) (eVar 5))) (eL (lLst aNil)))) (bTest (eOp fNeD (eVar 3) (eL (lSortUM (eVar 3)))))) (sRet (eTup aNil)) sNil)
  (sRet (eTup (aCons (eOp fIxL (eVar 2) (eInt 0)) (aCons (eCb fTupOf (aCons (eVar 3) aNil)) aNil)))))))))
abbrev s__law_offer : Stmt := topS 44
theorem sc__law_offer : FnScope ["_law_words", "_law_demands", "_law_numbers", "_law_rest", "_law_word", "_law_one_here"] ["_law_words", "_law_demands"] (defScope s__law_offer) := ⟨rfl, rfl, rfl, by decide +kernel, rfl, by decide +kernel, by decide +kernel⟩
set_option maxHeartbeats 2000000 in
theorem ok__law_offer {f : Addr} {fd : FuncData} (F : Fun K "_law_offer" "_law_offer" s__law_offer f fd) (B : Bx mg) (c__law_integer : Cl P w K mg base 1 "_law_integer" ["_law_word"] (spD K (RF q__law_integer))) :
    FnOk P w K mg base CX0 2 f fd ["_law_words", "_law_demands"] (spD K (RF q__law_offer)) := fn_pure (cl := fun _ => 0) F sc__law_offer fun cdv A outer s H E hr => by
  have nd := sc__law_offer.nd
  exact ⟨_, (pss_cons (ps_setLc (i := 2) (own := [("_law_word", 4)]) rfl nd rfl rfl (sw_true rfl rfl rfl (by decide +kernel)) (piK (K := K) (fun K => iList K _) rfl (pi_list (pv 0))) (blkOk_by (own := [("_law_word", 4)]) (N := ["_law_words", "_law_demands", "_law_numbers", "_law_rest", "_law_word", "_law_one_here"]) (sc := defScope s__law_offer) (by decide +kernel)) (fun _ _ _ _ _ => (pg_name (i := 4) nd rfl (Or.inl rfl))) (fun _ _ _ _ _ => pts_nil) (fun _ _ _ _ _ => (pe_k c__law_integer hr (by decide) rfl (pa_cons (pv 4) pa_nil))))
      (pss_cons (ps_if (PW.pt (pw_or (pt_cmpR (opK (K := K) rEq0 rfl (op_eq0 hr.units)) (pv 2) (pe_lst pa_nil) (nomark _)) (pw_or1 (pt_not (pt_chain op_le op_le pe_int (pe_ix (ixK (K := K) rIxL rfl ix_list) (pv 2) pe_int (fun _ _ => rfl)) (pe_op op_pow pe_int pe_int)))))) (pss_one (ps_ret (pe_tup pa_nil))) pss_nil)
      (pss_cons (ps_set (i := 3) nd rfl (Or.inl rfl) (pe_slice (slK (K := K) rSlL rfl sl_list) (pv 2) (po_some pe_int) po_none))
      (pss_cons (ps_if (PW.pt (pw_or (pt_cmpR (opK (K := K) rNe0 rfl (op_ne0 hr.units)) (pe_lc (own := [("_law_one_here", 5)]) rfl nd (piK (K := K) (fun K => iList K _) rfl (pi_list (pv 3))) (blkOk_by (own := [("_law_one_here", 5)]) (N := ["_law_words", "_law_demands", "_law_numbers", "_law_rest", "_law_word", "_law_one_here"]) (sc := defScope s__law_offer) (by decide +kernel)) (fun _ _ _ _ _ => (pg_name (i := 5) nd rfl (Or.inl rfl))) (fun _ _ _ _ _ => pts_one (pt_not (pt_chain op_le op_lt pe_int (pv 5) (pv 1)))) (fun _ _ _ _ _ => (pv 5))) (pe_lst pa_nil) (nomark _)) (pw_or1 (pt_cmpR (opK (K := K) rNeD rfl (op_neD hr.units)) (pv 3) (pe_callB (cr_sortedSetN rfl) rfl B.sorted bt_sorted (pa_cons (pe_callTy (crK (K := K) (fun K => rSetL K w) rfl (cr_setL rfl)) rfl B.set bt_set (pa_cons (pv 3) pa_nil)) pa_nil)) (nomark _))))) (pss_one (ps_ret (pe_tup pa_nil))) pss_nil)
      (pss_one (ps_ret (pe_tup (pa_cons (pe_ix (ixK (K := K) rIxL rfl ix_list) (pv 2) pe_int (fun _ _ => rfl)) (pa_cons (pe_callTy (crK (K := K) (fun K xs H Q => ∃ p ys, xs = [.ref p] ∧ ((SqL K H p ys ∧ ∀ l, H l = none → Q (.ref l) (upd H l (.tup ys))) ∨ (SqT K H p ys ∧ Q (.ref p) H))) rfl call_tuple_of) rfl B.tuple bt_tuple (pa_cons (pv 3) pa_nil)) pa_nil))))))))),
    (ss_seq (ss_set (EvF.s (xf_lc (vs := [4]) (wi_lst (xs_var 0)) (tg_name 4) tt_yes (xs_call (g := q__law_integer) (xa_cons (xs_var 4) xa_nil)))) (tg_name 2))
      (ss_seq (ss_if (tt_or (tt_test (EvS.t (xs_op os_eq0 (EvS.t (xs_var 2)) (EvS.t (EvF.s (xf_lst xa_nil)))))) (tt_not (tt_test (EvS.t (xs_chain os_le os_le (EvS.t (xs_int 0)) (EvS.t (xs_op os_ixL (EvS.t (xs_var 2)) (EvS.t (xs_int 0)))) (EvS.t (xs_op os_pow (EvS.t (xs_int 10)) (EvS.t (xs_int 12))))))))) (ss_ret (xs_tup xa_nil)) ss_nil)
      (ss_seq (ss_set (EvF.s (xf_sl (EvS.t (xs_var 2)) (xo_some (EvS.t (xs_int 1))) xo_none)) (tg_name 3))
      (ss_seq (ss_if (tt_or (tt_test (EvS.t (xs_op os_ne0 (EvS.t (EvF.s (xf_lc (vs := [5]) (wi_lst (xs_var 3)) (tg_name 5) (tt_not (tt_test (EvS.t (xs_chain os_le os_lt (EvS.t (xs_int 0)) (EvS.t (xs_var 5)) (EvS.t (xs_var 1)))))) (xs_var 5)))) (EvS.t (EvF.s (xf_lst xa_nil)))))) (tt_test (EvS.t (xs_op os_neD (EvS.t (xs_var 3)) (EvS.t (EvF.s (xf_sortUM (w := w) (EvS.t (xs_var 3))))))))) (ss_ret (xs_tup xa_nil)) ss_nil)
      (ss_ret (xs_tup (xa_cons (xs_op os_ixL (EvS.t (xs_var 2)) (EvS.t (xs_int 0))) (xa_cons (xs_cb cs_tupOf (xt_cons (EvS.t (xs_var 3)) xt_nil)) xa_nil))))))))⟩
def q__law_read_data : List PyData → Option PyData := runF 9 1
  ((sSeq (sSet (gN 1) (eL (lSplit (eVar 0) (eStr "\n"))))
  (sSeq (sParOO 2 3 (lLst aNil) (lLst aNil))
  (sSeq (sFor (iR (eOp fSub (eCb fLen (aCons (eVar 1) aNil)) (eInt 1))) (gN 4) (sSeq (sSet (gN 5) (eL (lSplit (eOp fIxL (eVar 1) (eVar 4)) (eStr " "))))
  (sIf (bAnd (bTest (eOp fEq (eOp fIxL (eVar 5) (eInt 0)) (eStr "demand"))) (bAnd (bTest (eOp fEq0 (eL (lOwn 3)) (eL (lLst aNil)))) (bAnd (bTest (eOp fEq (eCb fLen (aCons (eVar 5) aNil)) (eInt 2))) (bTest (eOp fLt (eCb fLen (aCons (eL (lOwn 2)) aNil)) (eInt 10)))))) (sSeq (sApp 2 (eCb q__law_integer (aCons (eOp fIxL (eVar 5) (eInt 1)) aNil)))
  (sIf (bNot (bTest (eChain fLe fLe (eInt 0) (eOp fIxL (eL (lOwn 2)) (eUn fNeg (eInt 1))) (eOp fPow (eInt 10) (eInt 12))))) (sRet (eTup (aCons (eStr "bad") (aCons (eVar 4) aNil)))) sNil)) (sIf (bAnd (bTest (eOp fEq (eOp fIxL (eVar 5) (eInt 0)) (eStr "offer"))) (bAnd (bTest (eOp fNe0 (eL (lOwn 2)) (eL (lLst aNil)))) (bTest (eOp fLt (eCb fLen (aCons (eL (lOwn 3)) aNil)) (eInt 10))))) (sSeq (sApp 3 (eCb q__law_offer (aCons (eL (lSl (eVar 5) (oSome (eInt 1)) oNone)) (aCons (eCb fLen (aCons (eL (lOwn 2)) aNil)) aNil))))
  (sIf (bTest (eOp fEq0T (eOp fIxL (eL (lOwn 3)) (eUn fNeg (eInt 1))) (eTup aNil))) (sRet (eTup (aCons (eStr "bad") (aCons (eVar 4) aNil)))) sNil)) (sRet (eTup (aCons (eStr "bad") (aCons (eVar 4) aNil))))))))
  (sSeq (sIf (bOr (bTest (eOp fNe (eOp fIxL (eVar 1) (eUn fNeg (eInt 1))) (eStr ""))) (bTest (eOp fEq0 (eL (lOwn 2)) (eL (lLst aNil))))) (sRet (eTup (aCons (eStr "bad") (aCons (eOp fSub (eCb fLen (aCons (eVar 1) aNil)) (eInt 1)) aNil)))) sNil)
  (sSeq (sFrz 3 (sSet (gN 6) (eTup (aCons (eCb fLen (aCons (eL (lOwn 2)) aNil)) (aCons (eCb fTupOf (aCons (eL (lLc [7, 8] (iL (eVar 3)) (gT (gC (gN 7) (gC (gN 8) g0))) bYes (eVar 8))) aNil)) aNil)))))
  (sRet (eTup (aCons (eStr "told") (aCons (eTup (aCons (eVar 6) (aCons (eCb fTupOf (aCons (eL (lLc [7, 8] (iL (eVar 3)) (gT (gC (gN 7) (gC (gN 8) g0))) bYes (eVar 7))) aNil)) (aCons (eCb fTupOf (aCons (eL (lOwn 2)) aNil)) aNil)))) aNil))))))))))
abbrev s__law_read_data : Stmt := topS 45
theorem sc__law_read_data : FnScope ["_law_text_here", "_law_lines", "_law_penalties", "_law_offers", "_law_k", "_law_words", "_law_table_here", "_law_price", "_law_demands"] ["_law_text_here"] (defScope s__law_read_data) := ⟨rfl, rfl, rfl, by decide +kernel, rfl, by decide +kernel, by decide +kernel⟩
set_option maxHeartbeats 2000000 in
theorem ok__law_read_data {f : Addr} {fd : FuncData} (F : Fun K "_law_read_data" "_law_read_data" s__law_read_data f fd) (B : Bx mg) (c__law_integer : Cl P w K mg base 1 "_law_integer" ["_law_word"] (spD K (RF q__law_integer))) (c__law_offer : Cl P w K mg base 2 "_law_offer" ["_law_words", "_law_demands"] (spD K (RF q__law_offer))) :
    FnOk P w K mg base CX0 3 f fd ["_law_text_here"] (spD K (RF q__law_read_data)) := fn_pure (cl := fun _ => 0) F sc__law_read_data fun cdv A outer s H E hr => by
  have nd := sc__law_read_data.nd
  exact ⟨_, (pss_cons (ps_set (i := 1) nd rfl (Or.inl rfl) (pe_bm PySem.F.plainAttrs_str PySem.F.slot_str_split PySem.F.type_str_split mt_split (pv 0) (pa_cons pe_str pa_nil)))
      (pss_cons (ps_par (i := 2) (j := 3) rfl nd rfl rfl (by decide) rfl rfl (pa_cons (pe_lst pa_nil) (pa_cons (pe_lst pa_nil) pa_nil)) (by rfl))
      (pss_cons (ps_for PassesOwn.never rfl (pi_range1 rfl B.range (pa_cons (pe_op op_sub (pe_callB (crK (K := K) (fun K xs H Q => ∃ p ys, xs = [.ref p] ∧ (SqL K H p ys ∨ SqT K H p ys) ∧ Q (.int ys.length) H) rfl call_len_seq) rfl B.len bt_len (pa_cons (pv 1) pa_nil)) pe_int) pa_nil)) (pg_name (i := 4) nd rfl (Or.inl rfl)) (pss_cons (ps_set (i := 5) nd rfl (Or.inl rfl) (pe_bm PySem.F.plainAttrs_str PySem.F.slot_str_split PySem.F.type_str_split mt_split (pe_ix (ixK (K := K) rIxL rfl ix_list) (pv 1) (pv 4) (fun _ _ => rfl)) (pa_cons pe_str pa_nil)))
      (pss_one (ps_if (PW.pt (pw_and (pt_cmpR op_eq (pe_ix (ixK (K := K) rIxL rfl ix_list) (pv 5) pe_int (fun _ _ => rfl)) pe_str (nomark _)) (pw_and (pt_cmpR (opK (K := K) rEq0 rfl (op_eq0 hr.units)) (pv 3) (pe_lst pa_nil) (nomark _)) (pw_and (pt_cmpR op_eq (pe_callB (crK (K := K) (fun K xs H Q => ∃ p ys, xs = [.ref p] ∧ (SqL K H p ys ∨ SqT K H p ys) ∧ Q (.int ys.length) H) rfl call_len_seq) rfl B.len bt_len (pa_cons (pv 5) pa_nil)) pe_int (nomark _)) (pw_and1 (pt_cmpR op_lt (pe_callB (crK (K := K) (fun K xs H Q => ∃ p ys, xs = [.ref p] ∧ (SqL K H p ys ∨ SqT K H p ys) ∧ Q (.int ys.length) H) rfl call_len_seq) rfl B.len bt_len (pa_cons (pv 2) pa_nil)) pe_int (nomark _))))))) (pss_cons (ps_expr (pe_bmK (K := K) rfl (pe_bm PySem.F.plainAttrs_list PySem.F.slot_list_append PySem.F.type_list_append mt_append (pv 2) (pa_cons (pe_k c__law_integer hr (by decide) rfl (pa_cons (pe_ix (ixK (K := K) rIxL rfl ix_list) (pv 5) pe_int (fun _ _ => rfl)) pa_nil)) pa_nil))))
      (pss_one (ps_if (pt_not (pt_chain op_le op_le pe_int (pe_ix (ixK (K := K) rIxL rfl ix_list) (pv 2) (pe_un un_neg pe_int) (fun _ _ => rfl)) (pe_op op_pow pe_int pe_int))) (pss_one (ps_ret (pe_tup (pa_cons pe_str (pa_cons (pv 4) pa_nil))))) pss_nil))) (pss_one (ps_if (PW.pt (pw_and (pt_cmpR op_eq (pe_ix (ixK (K := K) rIxL rfl ix_list) (pv 5) pe_int (fun _ _ => rfl)) pe_str (nomark _)) (pw_and (pt_cmpR (opK (K := K) rNe0 rfl (op_ne0 hr.units)) (pv 2) (pe_lst pa_nil) (nomark _)) (pw_and1 (pt_cmpR op_lt (pe_callB (crK (K := K) (fun K xs H Q => ∃ p ys, xs = [.ref p] ∧ (SqL K H p ys ∨ SqT K H p ys) ∧ Q (.int ys.length) H) rfl call_len_seq) rfl B.len bt_len (pa_cons (pv 3) pa_nil)) pe_int (nomark _)))))) (pss_cons (ps_expr (pe_bmK (K := K) rfl (pe_bm PySem.F.plainAttrs_list PySem.F.slot_list_append PySem.F.type_list_append mt_append (pv 3) (pa_cons (pe_k c__law_offer hr (by decide) rfl (pa_cons (pe_slice (slK (K := K) rSlL rfl sl_list) (pv 5) (po_some pe_int) po_none) (pa_cons (pe_callB (crK (K := K) (fun K xs H Q => ∃ p ys, xs = [.ref p] ∧ (SqL K H p ys ∨ SqT K H p ys) ∧ Q (.int ys.length) H) rfl call_len_seq) rfl B.len bt_len (pa_cons (pv 2) pa_nil)) pa_nil))) pa_nil))))
      (pss_one (ps_if (pt_cmpR (opK (K := K) rEq0T rfl (op_eq0T hr.units)) (pe_ix (ixK (K := K) rIxL rfl ix_list) (pv 3) (pe_un un_neg pe_int) (fun _ _ => rfl)) (pe_tup pa_nil) (nomark _)) (pss_one (ps_ret (pe_tup (pa_cons pe_str (pa_cons (pv 4) pa_nil))))) pss_nil))) (pss_one (ps_ret (pe_tup (pa_cons pe_str (pa_cons (pv 4) pa_nil)))))))))))
      (pss_cons (ps_if (PW.pt (pw_or (pt_cmpR op_ne (pe_ix (ixK (K := K) rIxL rfl ix_list) (pv 1) (pe_un un_neg pe_int) (fun _ _ => rfl)) pe_str (nomark _)) (pw_or1 (pt_cmpR (opK (K := K) rEq0 rfl (op_eq0 hr.units)) (pv 2) (pe_lst pa_nil) (nomark _))))) (pss_one (ps_ret (pe_tup (pa_cons pe_str (pa_cons (pe_op op_sub (pe_callB (crK (K := K) (fun K xs H Q => ∃ p ys, xs = [.ref p] ∧ (SqL K H p ys ∨ SqT K H p ys) ∧ Q (.int ys.length) H) rfl call_len_seq) rfl B.len bt_len (pa_cons (pv 1) pa_nil)) pe_int) pa_nil))))) pss_nil)
      (pss_cons (ps_set (i := 6) nd rfl (Or.inl rfl) (pe_tup (pa_cons (pe_callB (crK (K := K) (fun K xs H Q => ∃ p ys, xs = [.ref p] ∧ (SqL K H p ys ∨ SqT K H p ys) ∧ Q (.int ys.length) H) rfl call_len_seq) rfl B.len bt_len (pa_cons (pv 2) pa_nil)) (pa_cons (pe_callTy (crK (K := K) (fun K xs H Q => ∃ p ys, xs = [.ref p] ∧ ((SqL K H p ys ∧ ∀ l, H l = none → Q (.ref l) (upd H l (.tup ys))) ∨ (SqT K H p ys ∧ Q (.ref p) H))) rfl call_tuple_of) rfl B.tuple bt_tuple (pa_cons (pe_lc (own := [("_law_price", 7), ("_law_demands", 8)]) rfl nd (piK (K := K) (fun K => iList K _) rfl (pi_list (pv 3))) (blkOk_by (own := [("_law_price", 7), ("_law_demands", 8)]) (N := ["_law_text_here", "_law_lines", "_law_penalties", "_law_offers", "_law_k", "_law_words", "_law_table_here", "_law_price", "_law_demands"]) (sc := defScope s__law_read_data) (by decide +kernel)) (fun _ _ _ _ _ => (pg_tupK (K := K) (n := 2) rfl rfl (pgs_cons (pg_name (i := 7) nd rfl (Or.inl rfl)) (pgs_cons (pg_name (i := 8) nd rfl (Or.inl rfl)) pgs_nil)))) (fun _ _ _ _ _ => pts_nil) (fun _ _ _ _ _ => (pv 8))) pa_nil)) pa_nil))))
      (pss_one (ps_ret (pe_tup (pa_cons pe_str (pa_cons (pe_tup (pa_cons (pv 6) (pa_cons (pe_callTy (crK (K := K) (fun K xs H Q => ∃ p ys, xs = [.ref p] ∧ ((SqL K H p ys ∧ ∀ l, H l = none → Q (.ref l) (upd H l (.tup ys))) ∨ (SqT K H p ys ∧ Q (.ref p) H))) rfl call_tuple_of) rfl B.tuple bt_tuple (pa_cons (pe_lc (own := [("_law_price", 7), ("_law_demands", 8)]) rfl nd (piK (K := K) (fun K => iList K _) rfl (pi_list (pv 3))) (blkOk_by (own := [("_law_price", 7), ("_law_demands", 8)]) (N := ["_law_text_here", "_law_lines", "_law_penalties", "_law_offers", "_law_k", "_law_words", "_law_table_here", "_law_price", "_law_demands"]) (sc := defScope s__law_read_data) (by decide +kernel)) (fun _ _ _ _ _ => (pg_tupK (K := K) (n := 2) rfl rfl (pgs_cons (pg_name (i := 7) nd rfl (Or.inl rfl)) (pgs_cons (pg_name (i := 8) nd rfl (Or.inl rfl)) pgs_nil)))) (fun _ _ _ _ _ => pts_nil) (fun _ _ _ _ _ => (pv 7))) pa_nil)) (pa_cons (pe_callTy (crK (K := K) (fun K xs H Q => ∃ p ys, xs = [.ref p] ∧ ((SqL K H p ys ∧ ∀ l, H l = none → Q (.ref l) (upd H l (.tup ys))) ∨ (SqT K H p ys ∧ Q (.ref p) H))) rfl call_tuple_of) rfl B.tuple bt_tuple (pa_cons (pv 2) pa_nil)) pa_nil)))) pa_nil)))))))))),
    (ss_seq (ss_set (EvF.s (xf_split (xs_var 0) (xs_str "\n"))) (tg_name 1))
      (ss_seq (ss_parOO (i := 2) (j := 3) (xf_lst xa_nil) (xf_lst xa_nil))
      (ss_seq (ss_for (wi_rng (EvS.t (xs_op os_sub (EvS.t (xs_cb cs_len (xt_cons (EvS.t (xs_var 1)) xt_nil))) (EvS.t (xs_int 1))))) (tg_name 4) (ss_seq (ss_set (EvF.s (xf_split (xs_op os_ixL (EvS.t (xs_var 1)) (EvS.t (xs_var 4))) (xs_str " "))) (tg_name 5))
      (ss_if (tt_and (tt_test (EvS.t (xs_op os_eq (EvS.t (xs_op os_ixL (EvS.t (xs_var 5)) (EvS.t (xs_int 0)))) (EvS.t (xs_str "demand"))))) (tt_and (tt_test (EvS.t (xs_op os_eq0 (EvLi.t (xl_own 3)) (EvS.t (EvF.s (xf_lst xa_nil)))))) (tt_and (tt_test (EvS.t (xs_op os_eq (EvS.t (xs_cb cs_len (xt_cons (EvS.t (xs_var 5)) xt_nil))) (EvS.t (xs_int 2))))) (tt_test (EvS.t (xs_op os_lt (EvS.t (xs_cb cs_len (xt_cons (EvLi.t (xl_own 2)) xt_nil))) (EvS.t (xs_int 10)))))))) (ss_seq (ss_app (i := 2) (xs_call (g := q__law_integer) (xa_cons (xs_op os_ixL (EvS.t (xs_var 5)) (EvS.t (xs_int 1))) xa_nil)))
      (ss_if (tt_not (tt_test (EvS.t (xs_chain os_le os_le (EvS.t (xs_int 0)) (EvS.t (xs_op os_ixL (EvLi.t (xl_own 2)) (EvS.t (xs_un us_neg (EvS.t (xs_int 1)))))) (EvS.t (xs_op os_pow (EvS.t (xs_int 10)) (EvS.t (xs_int 12)))))))) (ss_ret (xs_tup (xa_cons (xs_str "bad") (xa_cons (xs_var 4) xa_nil)))) ss_nil)) (ss_if (tt_and (tt_test (EvS.t (xs_op os_eq (EvS.t (xs_op os_ixL (EvS.t (xs_var 5)) (EvS.t (xs_int 0)))) (EvS.t (xs_str "offer"))))) (tt_and (tt_test (EvS.t (xs_op os_ne0 (EvLi.t (xl_own 2)) (EvS.t (EvF.s (xf_lst xa_nil)))))) (tt_test (EvS.t (xs_op os_lt (EvS.t (xs_cb cs_len (xt_cons (EvLi.t (xl_own 3)) xt_nil))) (EvS.t (xs_int 10))))))) (ss_seq (ss_app (i := 3) (xs_call (g := q__law_offer) (xa_cons (EvF.s (xf_sl (EvS.t (xs_var 5)) (xo_some (EvS.t (xs_int 1))) xo_none)) (xa_cons (xs_cb cs_len (xt_cons (EvLi.t (xl_own 2)) xt_nil)) xa_nil))))
      (ss_if (tt_test (EvS.t (xs_op os_eq0T (EvS.t (xs_op os_ixL (EvLi.t (xl_own 3)) (EvS.t (xs_un us_neg (EvS.t (xs_int 1)))))) (EvS.t (xs_tup xa_nil))))) (ss_ret (xs_tup (xa_cons (xs_str "bad") (xa_cons (xs_var 4) xa_nil)))) ss_nil)) (ss_ret (xs_tup (xa_cons (xs_str "bad") (xa_cons (xs_var 4) xa_nil))))))))
      (ss_seq (ss_if (tt_or (tt_test (EvS.t (xs_op os_ne (EvS.t (xs_op os_ixL (EvS.t (xs_var 1)) (EvS.t (xs_un us_neg (EvS.t (xs_int 1)))))) (EvS.t (xs_str ""))))) (tt_test (EvS.t (xs_op os_eq0 (EvLi.t (xl_own 2)) (EvS.t (EvF.s (xf_lst xa_nil))))))) (ss_ret (xs_tup (xa_cons (xs_str "bad") (xa_cons (xs_op os_sub (EvS.t (xs_cb cs_len (xt_cons (EvS.t (xs_var 1)) xt_nil))) (EvS.t (xs_int 1))) xa_nil)))) ss_nil)
      (ss_seq (ss_frz (i := 3) (ss_set (xs_tup (xa_cons (xs_cb cs_len (xt_cons (EvLi.t (xl_own 2)) xt_nil)) (xa_cons (xs_cb cs_tupOf (xt_cons (EvS.t (EvF.s (xf_lc (vs := [7, 8]) (wi_lst (xs_var 3)) (tg_tup (tgs_cons (tg_name 7) (tgs_cons (tg_name 8) tgs_nil)) (gC_len (gC_len g0_len))) tt_yes (xs_var 8)))) xt_nil)) xa_nil))) (tg_name 6)))
      (ss_ret (xs_tup (xa_cons (xs_str "told") (xa_cons (xs_tup (xa_cons (xs_var 6) (xa_cons (xs_cb cs_tupOf (xt_cons (EvS.t (EvF.s (xf_lc (vs := [7, 8]) (wi_lst (xs_var 3)) (tg_tup (tgs_cons (tg_name 7) (tgs_cons (tg_name 8) tgs_nil)) (gC_len (gC_len g0_len))) tt_yes (xs_var 7)))) xt_nil)) (xa_cons (xs_cb cs_tupOf (xt_cons (EvLi.t (xl_own 2)) xt_nil)) xa_nil)))) xa_nil)))))))))⟩
def q__law_due : List PyData → Option PyData := runF 4 2
  ((sSeq (sIf (bNot (bTest (eUn (fIsi "str") (eVar 1)))) (sRet (eTup (aCons (eStr "bad") (aCons eNon aNil)))) sNil)
  (sSeq (sIf (bTest (eOp fEq (eVar 0) (eInt 0))) (sRet (eCb q__law_read_data (aCons (eVar 1) aNil))) sNil)
  (sSeq (sSet (gN 2) (eCb fTupOf (aCons (eL (lLc [3] (iL (eL (lSplit (eVar 1) (eStr ">")))) (gN 3) bYes (eCb q__law_integer (aCons (eVar 3) aNil)))) aNil)))
  (sSeq (sIf (bOr (bTest (eOp fGt (eCb fLen (aCons (eVar 2) aNil)) (eInt 10))) (bTest (eOp fNeD (eL (lCb fSortT (aCons (eVar 2) aNil))) (eL (lRg (eCb fLen (aCons (eVar 2) aNil))))))) (sRet (eTup (aCons (eStr "bad") (aCons (eInt 0) aNil)))) sNil)
  (sRet (eTup (aCons (eStr "told") (aCons (eVar 2) aNil)))))))))
abbrev s__law_due : Stmt := topS 46
theorem sc__law_due : FnScope ["_law_door", "_law_value", "_law_found", "_law_word"] ["_law_door", "_law_value"] (defScope s__law_due) := ⟨rfl, rfl, rfl, by decide +kernel, rfl, by decide +kernel, by decide +kernel⟩
set_option maxHeartbeats 2000000 in
theorem ok__law_due {f : Addr} {fd : FuncData} (F : Fun K "_law_due" "_law_due" s__law_due f fd) (B : Bx mg) (c__law_read_data : Cl P w K mg base 3 "_law_read_data" ["_law_text_here"] (spD K (RF q__law_read_data))) (c__law_integer : Cl P w K mg base 1 "_law_integer" ["_law_word"] (spD K (RF q__law_integer))) :
    FnOk P w K mg base CX0 4 f fd ["_law_door", "_law_value"] (spD K (RF q__law_due)) := fn_pure (cl := fun _ => 0) F sc__law_due fun cdv A outer s H E hr => by
  have nd := sc__law_due.nd
  exact ⟨_, (pss_cons (ps_if (pt_not (pt_val (pe_callB (crK (K := K) rIsi rfl call_isi) rfl B.isinstance bt_isinstance (pa_cons (pv 1) (pa_cons (pe_ty rfl B.str bt_str) pa_nil))))) (pss_one (ps_ret (pe_tup (pa_cons pe_str (pa_cons pe_non pa_nil))))) pss_nil)
      (pss_cons (ps_if (pt_cmpR op_eq (pv 0) pe_int (nomark _)) (pss_one (ps_ret (pe_k c__law_read_data hr (by decide) rfl (pa_cons (pv 1) pa_nil)))) pss_nil)
      (pss_cons (ps_set (i := 2) nd rfl (Or.inl rfl) (pe_callTy (crK (K := K) (fun K xs H Q => ∃ p ys, xs = [.ref p] ∧ ((SqL K H p ys ∧ ∀ l, H l = none → Q (.ref l) (upd H l (.tup ys))) ∨ (SqT K H p ys ∧ Q (.ref p) H))) rfl call_tuple_of) rfl B.tuple bt_tuple (pa_cons (pe_lc (own := [("_law_word", 3)]) rfl nd (piK (K := K) (fun K => iList K _) rfl (pi_list (pe_bm PySem.F.plainAttrs_str PySem.F.slot_str_split PySem.F.type_str_split mt_split (pv 1) (pa_cons pe_str pa_nil)))) (blkOk_by (own := [("_law_word", 3)]) (N := ["_law_door", "_law_value", "_law_found", "_law_word"]) (sc := defScope s__law_due) (by decide +kernel)) (fun _ _ _ _ _ => (pg_name (i := 3) nd rfl (Or.inl rfl))) (fun _ _ _ _ _ => pts_nil) (fun _ _ _ _ _ => (pe_k c__law_integer hr (by decide) rfl (pa_cons (pv 3) pa_nil)))) pa_nil)))
      (pss_cons (ps_if (PW.pt (pw_or (pt_cmpR op_gt (pe_callB (crK (K := K) (fun K xs H Q => ∃ p ys, xs = [.ref p] ∧ (SqL K H p ys ∨ SqT K H p ys) ∧ Q (.int ys.length) H) rfl call_len_seq) rfl B.len bt_len (pa_cons (pv 2) pa_nil)) pe_int (nomark _)) (pw_or1 (pt_cmpR (opK (K := K) rNeD rfl (op_neD hr.units)) (pe_callB (crK (K := K) rSortT rfl cr_sortT) rfl B.sorted bt_sorted (pa_cons (pv 2) pa_nil)) (pe_listRg rfl rfl B.list (prg_1 rfl B.range (pe_callB (crK (K := K) (fun K xs H Q => ∃ p ys, xs = [.ref p] ∧ (SqL K H p ys ∨ SqT K H p ys) ∧ Q (.int ys.length) H) rfl call_len_seq) rfl B.len bt_len (pa_cons (pv 2) pa_nil)))) (nomark _))))) (pss_one (ps_ret (pe_tup (pa_cons pe_str (pa_cons pe_int pa_nil))))) pss_nil)
      (pss_one (ps_ret (pe_tup (pa_cons pe_str (pa_cons (pv 2) pa_nil))))))))),
    (ss_seq (ss_if (tt_not (tt_B (EvS.t (xs_isi (T := "str") (EvS.t (xs_var 1)))))) (ss_ret (xs_tup (xa_cons (xs_str "bad") (xa_cons xs_non xa_nil)))) ss_nil)
      (ss_seq (ss_if (tt_test (EvS.t (xs_op os_eq (EvS.t (xs_var 0)) (EvS.t (xs_int 0))))) (ss_ret (xs_call (g := q__law_read_data) (xa_cons (xs_var 1) xa_nil))) ss_nil)
      (ss_seq (ss_set (xs_cb cs_tupOf (xt_cons (EvS.t (EvF.s (xf_lc (vs := [3]) (wi_lst (EvF.s (xf_split (xs_var 1) (xs_str ">")))) (tg_name 3) tt_yes (xs_call (g := q__law_integer) (xa_cons (xs_var 3) xa_nil))))) xt_nil)) (tg_name 2))
      (ss_seq (ss_if (tt_or (tt_test (EvS.t (xs_op os_gt (EvS.t (xs_cb cs_len (xt_cons (EvS.t (xs_var 2)) xt_nil))) (EvS.t (xs_int 10))))) (tt_test (EvS.t (xs_op os_neD (EvS.t (EvF.s (xf_cb cf_sortT (xt_cons (EvS.t (xs_var 2)) xt_nil)))) (EvS.t (EvF.s (xf_rg (EvS.t (xs_cb cs_len (xt_cons (EvS.t (xs_var 2)) xt_nil)))))))))) (ss_ret (xs_tup (xa_cons (xs_str "bad") (xa_cons (xs_int 0) xa_nil)))) ss_nil)
      (ss_ret (xs_tup (xa_cons (xs_str "told") (xa_cons (xs_var 2) xa_nil))))))))⟩
end
end L67

set_option Elab.async false
set_option linter.all false
set_option maxRecDepth 100000
namespace L67
open PySem PySem.Spec PyProof.Rows L2 Pb Pt
def noneI : Option Int → PyData
  | some n => .int n
  | none => .none
theorem eqS (a b : Str) : fEq (.str a) (.str b) = some (.bool (decide (a = b))) := rfl
theorem neS (a b : Str) : fNe (.str a) (.str b) = some (.bool (!decide (a = b))) := rfl
theorem ixS_0 {z : Str} {c : Nat} {l : List Nat} (h : z.cps.toList = c :: l) (hl : z.length ≤ 100000) : fIxS (.str z) (.int 0) = some (.str ⟨#[c]⟩) := by
  show (if z.length ≤ 100000 then (atI z.cps.toList 0).map _ else none) = _
  have : atI (c :: l) 0 = some c := by
    unfold atI ixN
    simp
  rw [if_pos hl, h, this]
  rfl
theorem str_ext {a b : Str} : a = b ↔ a.cps.toList = b.cps.toList := ⟨fun h => by rw [h], fun h => TL.ext_tl h⟩
theorem zero_l : ("0" : Str).cps.toList = [48] := by decide +kernel
theorem one_sign {c : Nat} : decide ((⟨#[c]⟩ : Str) = "0") = decide (c = 48) := by
  rw [decide_eq_decide, str_ext, zero_l]
  simp
theorem lead0 {w : Str} {c : Nat} {l : List Nat} (h : w.cps.toList = c :: l) : (decide (c = 48) && !decide (w = "0")) = (decide (w.cps.toList.head? = some 48) && decide (1 < w.length)) := by
  have e1 : decide (w = "0") = decide (c :: l = [48]) := by
    rw [decide_eq_decide, str_ext, zero_l, h]
  have e2 : w.length = l.length + 1 := by rw [len_cps, h]; rfl
  rw [e1, h, e2, Bool.eq_iff_iff]
  simp only [Bool.and_eq_true, decide_eq_true_eq, Bool.not_eq_true', decide_eq_false_iff_not, List.head?_cons, Option.some.injEq, List.cons.injEq, not_and]
  constructor
  · rintro ⟨a, b⟩
    refine ⟨a, ?_⟩
    have := List.length_pos_iff.mpr (b a)
    omega
  · rintro ⟨a, b⟩
    exact ⟨a, fun _ z => by rw [z] at b; simp at b⟩
theorem q_pnum {w : Str} (hl : w.length ≤ 100000) : q_parse_number [.str w] = some (noneI (numT w)) := by
  have ad := asc_dig w
  have a1 : bNot (bTest (eUn fAsc (eVar 0))) [.val (.str w)] = some (!Txt.isascii w) := bNot_of (bTest_of rfl)
  have a2 : bNot (bTest (eUn fDig (eVar 0))) [.val (.str w)] = some (!Txt.isdigit w) := bNot_of (bTest_of rfl)
  have a3 : bTest (eOp fGt (eCb fLenS (aCons (eVar 0) aNil)) (eInt 13)) [.val (.str w)] = some (decide ((w.length : Int) > 13)) := bTest_of (eOp_of (x := .int (w.length : Nat)) (y := .int 13) (eCb_of (aCons_of rfl rfl) (by
    show (if w.length ≤ 100000 then _ else _) = _
    rw [if_pos hl])) rfl rfl)
  by_cases hb : (Txt.isascii w && Txt.isdigit w) = true ∧ w.length ≤ 13
  · obtain ⟨h1, h2⟩ := hb
    rw [Bool.and_eq_true] at h1
    rw [h1.1] at a1
    rw [h1.2] at a2
    rw [decide_eq_false (by omega)] at a3
    rw [h1.1, h1.2] at ad
    have ad' := ad.symm
    rw [Bool.true_and, Bool.and_eq_true] at ad'
    obtain ⟨c, l, e⟩ : ∃ c l, w.cps.toList = c :: l := by
      cases e : w.cps.toList with
      | nil => rw [e] at ad'; simp at ad'
      | cons c l => exact ⟨c, l, rfl⟩
    have t1 : bTest (eOp fEq (eOp fIxS (eVar 0) (eInt 0)) (eStr "0")) [.val (.str w)] = some (decide (c = 48)) := by
      rw [← one_sign]
      exact bTest_of (eOp_of (eOp_of (x := .str w) (y := .int 0) rfl rfl (ixS_0 e hl)) rfl (eqS _ _))
    have t2 : bTest (eOp fNe (eVar 0) (eStr "0")) [.val (.str w)] = some (!decide (w = "0")) := bTest_of (eOp_of rfl rfl (neS _ _))
    have t := bAnd_of t1 t2
    rw [lead0 e] at t
    have nb : numB w = !(decide (w.cps.toList.head? = some 48) && decide (1 < w.length)) := by
      unfold numB
      rw [ad'.1, ad'.2, decide_eq_true h2]
      rfl
    refine runF_of rfl ((sSeq_nx ((sIf_f ((bOr_f a1).trans ((bOr_f a2).trans a3))).trans rfl)).trans ?_)
    cases z : (decide (w.cps.toList.head? = some 48) && decide (1 < w.length)) with
    | true =>
      rw [z] at t nb
      refine (sSeq_rt ((sIf_t t).trans rfl)).trans ?_
      unfold numT
      rw [nb]
      rfl
    | false =>
      rw [z] at t nb
      refine (sSeq_nx ((sIf_f t).trans rfl)).trans (sRet_of (eCb_of (aCons_of rfl rfl) ?_))
      show (if w.length ≤ 640 then (intText? w).map PyData.int else none) = _
      rw [if_pos (by omega), int_of nb]
      unfold numT
      rw [nb]
      rfl
  · have nb : numB w = false := by
      unfold numB
      rw [← ad]
      cases h : (Txt.isascii w && Txt.isdigit w) with
      | false => rfl
      | true => rw [decide_eq_false fun z => hb ⟨h, z⟩]; rfl
    have c : bOr (bNot (bTest (eUn fAsc (eVar 0)))) (bOr (bNot (bTest (eUn fDig (eVar 0)))) (bTest (eOp fGt (eCb fLenS (aCons (eVar 0) aNil)) (eInt 13)))) [.val (.str w)] = some true := by
      cases x : Txt.isascii w with
      | false => rw [x] at a1; exact bOr_t a1
      | true =>
        rw [x] at a1
        refine (bOr_f a1).trans ?_
        cases y : Txt.isdigit w with
        | false => rw [y] at a2; exact bOr_t a2
        | true =>
          rw [y] at a2
          refine (bOr_f a2).trans ?_
          rw [a3, decide_eq_true]
          have : ¬ w.length ≤ 13 := fun z => hb ⟨by rw [x, y]; rfl, z⟩
          omega
    refine runF_of rfl ((sSeq_rt ((sIf_t c).trans rfl)).trans ?_)
    unfold numT
    rw [nb]
    rfl
end L67

set_option Elab.async false
set_option linter.all false
set_option maxRecDepth 100000
namespace L67
open PySem PySem.Spec PyProof.Rows L2 Pb Pt
theorem sg1_one (c : Nat) : sg1 ⟨#[c]⟩ = some c := rfl
theorem lenS {w : Str} (hl : w.length ≤ 100000) : fLenS [.str w] = some (.int (w.length : Nat)) := by
  show (if w.length ≤ 100000 then _ else _) = _
  rw [if_pos hl]
theorem q_lint {w : Str} (hl : w.length ≤ 100000) : q__law_integer [.str w] = some (.int ((numT w).getD (-1))) := by
  have e0 : ∀ s, eCb fLenS (aCons (eVar 0) aNil) [.val (.str w), s] = some (.int (w.length : Nat)) := fun _ => eCb_of (aCons_of rfl rfl) (lenS hl)
  have c1 : bNot (bTest (eChain fLe fLe (eInt 1) (eCb fLenS (aCons (eVar 0) aNil)) (eInt 13))) [.val (.str w), .no] = some (!(decide ((1 : Int) ≤ (w.length : Nat)) && decide (((w.length : Nat) : Int) ≤ 13))) := bNot_of (bTest_of (chain_le (φ := eInt 1) (χ := eInt 13) rfl (e0 _) rfl))
  have k : lLc [1] (iSx (eVar 0)) (gN 1) (bTest (eOp fNinSg (eVar 1) (eStr "0123456789"))) (eVar 1) [.val (.str w), .no] = some ((w.cps.toList.filter fun c => !(decide (48 ≤ c) && decide (c ≤ 57))).map sgD) := by
    refine (Pf.lLc_at sgD (fun e => match e with | .str z => z.cps.toList.headD 0 | _ => 0) (fun _ => rfl) (l := w.cps.toList) (fun c => !(decide (48 ≤ c) && decide (c ≤ 57))) sgD rfl (by rw [← len_cps]; exact hl) fun c _ => ⟨_, rfl, ?_, fun _ => rfl⟩)
    refine bTest_of (eOp_of (x := sgD c) (y := .str "0123456789") rfl rfl ?_)
    have e : fNinSg (sgD c) (.str "0123456789") = some (PyData.bool (!decide (c ∈ ("0123456789" : Str).cps.toList))) := by
      unfold fNinSg sgD
      dsimp only
      rw [sg1_one]
      rfl
    rw [e, dig_sign]
  have c2 : bTest (eOp fNe0 (eL (lLc [1] (iSx (eVar 0)) (gN 1) (bTest (eOp fNinSg (eVar 1) (eStr "0123456789"))) (eVar 1))) (eL (lLst aNil))) [.val (.str w), .no] = some (!dgs w) := by
    refine (bTest_of (eOp_of (x := .list ((w.cps.toList.filter fun c => !(decide (48 ≤ c) && decide (c ≤ 57))).map sgD)) (y := .list []) (eL_of k) rfl rfl)).trans ?_
    congr 2
    unfold dgs
    rw [Bool.eq_iff_iff, List.isEmpty_iff, List.map_eq_nil_iff, List.filter_eq_nil_iff, List.all_eq_true]
    constructor
    · intro h c hc
      have := h c hc
      revert this
      cases (decide (48 ≤ c) && decide (c ≤ 57)) <;> simp
    · intro h c hc
      rw [h c hc]
      simp
  by_cases hb : (1 ≤ w.length ∧ w.length ≤ 13) ∧ dgs w = true
  · obtain ⟨⟨h1, h2⟩, h3⟩ := hb
    rw [decide_eq_true (by omega), decide_eq_true (by omega)] at c1
    rw [h3] at c2
    obtain ⟨c, l, e⟩ : ∃ c l, w.cps.toList = c :: l := by
      cases e : w.cps.toList with
      | nil => rw [len_cps, e] at h1; simp at h1
      | cons c l => exact ⟨c, l, rfl⟩
    have t1 : bTest (eOp fEq (eOp fIxS (eVar 0) (eInt 0)) (eStr "0")) [.val (.str w), .no] = some (decide (c = 48)) := by
      rw [← one_sign]
      exact bTest_of (eOp_of (eOp_of (x := .str w) (y := .int 0) rfl rfl (ixS_0 e hl)) rfl (eqS _ _))
    have t2 : bTest (eOp fGt (eCb fLenS (aCons (eVar 0) aNil)) (eInt 1)) [.val (.str w), .no] = some (decide (((w.length : Nat) : Int) > 1)) := bTest_of (eOp_of (e0 _) rfl rfl)
    have t := bAnd_of t1 t2
    have hd : (decide (c = 48) && decide (((w.length : Nat) : Int) > 1)) = (decide (w.cps.toList.head? = some 48) && decide (1 < w.length)) := by
      rw [e, List.head?_cons]
      congr 1
      · rw [decide_eq_decide]
        simp
      · rw [decide_eq_decide]
        omega
    rw [hd] at t
    have nb : numB w = !(decide (w.cps.toList.head? = some 48) && decide (1 < w.length)) := by
      unfold numB
      rw [h3, decide_eq_true h2, e]
      rfl
    refine runF_of rfl ((sSeq_nx ((sIf_f ((bOr_f c1).trans c2)).trans rfl)).trans (sRet_of ?_))
    cases z : (decide (w.cps.toList.head? = some 48) && decide (1 < w.length)) with
    | true =>
      rw [z] at t nb
      refine eIf_of t ?_
      unfold numT
      rw [nb]
      rfl
    | false =>
      rw [z] at t nb
      refine eIf_of t (eCb_of (aCons_of rfl rfl) ?_)
      show (if w.length ≤ 640 then (intText? w).map PyData.int else none) = _
      rw [if_pos (by omega), int_of nb]
      unfold numT
      rw [nb]
      rfl
  · have nb : numB w = false := by
      unfold numB
      cases h : dgs w with
      | false => rfl
      | true =>
        by_cases h1 : 1 ≤ w.length
        · have : ¬ w.length ≤ 13 := fun z => hb ⟨⟨h1, z⟩, h⟩
          rw [decide_eq_false this]
          simp
        · have : w.cps.toList = [] := List.eq_nil_of_length_eq_zero (by rw [← len_cps]; omega)
          rw [this]
          simp
    have c : bOr (bNot (bTest (eChain fLe fLe (eInt 1) (eCb fLenS (aCons (eVar 0) aNil)) (eInt 13)))) (bTest (eOp fNe0 (eL (lLc [1] (iSx (eVar 0)) (gN 1) (bTest (eOp fNinSg (eVar 1) (eStr "0123456789"))) (eVar 1))) (eL (lLst aNil)))) [.val (.str w), .no] = some true := by
      by_cases h1 : 1 ≤ w.length ∧ w.length ≤ 13
      · rw [decide_eq_true (by omega), decide_eq_true (by omega)] at c1
        refine (bOr_f c1).trans ?_
        cases h : dgs w with
        | false => rw [h] at c2; exact c2
        | true => exact absurd ⟨h1, h⟩ hb
      · refine bOr_t (c1.trans ?_)
        have : (decide ((1 : Int) ≤ (w.length : Nat)) && decide (((w.length : Nat) : Int) ≤ 13)) = false := by
          rw [Bool.and_eq_false_iff, decide_eq_false_iff_not, decide_eq_false_iff_not]
          omega
        rw [this]
        rfl
    refine runF_of rfl ((sSeq_rt ((sIf_t c).trans rfl)).trans ?_)
    unfold numT
    rw [nb]
    rfl
end L67

set_option Elab.async false
set_option linter.all false
set_option maxRecDepth 100000
namespace L67
open PySem PySem.Spec PyProof.Rows L2 Pb Pt
theorem sp_tl : TL.tl (" " : Str) = [32] := by decide +kernel
theorem nl_tl : TL.tl ("\n" : Str) = [10] := by decide +kernel
theorem gt_tl : TL.tl (">" : Str) = [62] := by decide +kernel
/-- what a line tells behind a word -/
def behT (w : Str) (ws : List Str) : Option (List Int) := match ws with
  | [] => none
  | h :: ws => if h = w then numsT ws else none
def tupI : Option (List Int) → PyData
  | some ns => offD ns
  | none => .none
theorem nin_opts : ∀ os : List (Option Int), inL .none (os.map noneI) = os.any fun o => o.isNone := by
  intro os
  unfold inL
  rw [List.any_map]
  congr 1
  funext o
  cases o <;> rfl
theorem q_beh {w z : Str} (hl : z.length + 2 ≤ 100000) : q_numbers_behind [.str w, .str z] = some (tupI (behT w (Txt.split z " "))) := by
  obtain ⟨pl, ne, nl⟩ := split_len (x := z) (y := " ") sp_tl (by decide +kernel)
  have s2 : lSplit (eVar 1) (eStr " ") [.val (.str w), .val (.str z), .no, .no, .no] = some ((Txt.split z " ").map PyData.str) := lSplit_of rfl rfl (by decide +kernel) hl
  generalize Txt.split z " " = ps at *
  obtain ⟨h, ws, rfl⟩ : ∃ h ws, ps = h :: ws := by
    cases ps with
    | nil => exact absurd rfl ne
    | cons h ws => exact ⟨h, ws, rfl⟩
  rw [List.length_cons] at nl
  let L : PyData := .list ((h :: ws).map PyData.str)
  let r (s2 s3 : Sl) : Rho := [.val (.str w), .val (.str z), s2, s3, .no]
  let N : PyData := .tuple ((ws.map numT).map noneI)
  have it : iL (eL (lSl (eVar 2) (oSome (eInt 1)) oNone)) (r (.val L) .no) = some (ws.map PyData.str) := by
    have s : eL (lSl (eVar 2) (oSome (eInt 1)) oNone) (r (.val L) .no) = some (.list (ws.map PyData.str)) := eL_of ((lSl_of (es := (h :: ws).map PyData.str) (l := some 1) (h := none) rfl rfl rfl).trans (congrArg some (cutG_drop (j := 1) (by simp))))
    unfold iL
    rw [s]
    rfl
  have e3 : lLc [4] (iL (eL (lSl (eVar 2) (oSome (eInt 1)) oNone))) (gN 4) bYes (eCb q_parse_number (aCons (eVar 4) aNil)) (r (.val L) .no) = some ((ws.map numT).map noneI) := by
    refine (Pf.lLc_at PyData.str (fun e => match e with | .str z => z | _ => Str.empty) (fun _ => rfl) (l := ws) (fun _ => true) (fun p => noneI (numT p)) it (by omega) fun p hp => ⟨_, rfl, rfl, fun _ => eCb_of (aCons_of rfl rfl) (q_pnum (by have := pl p (List.mem_cons_of_mem _ hp); omega))⟩).trans ?_
    rw [List.filter_eq_self.mpr (fun _ _ => rfl), List.map_map]
    rfl
  let ρ := r (.val L) (.val N)
  have c1 : bTest (eOp fEq (eOp fIxL (eVar 2) (eInt 0)) (eVar 0)) ρ = some (decide (h = w)) := bTest_of (eOp_of (x := .str h) (y := .str w) (eOp_of (x := L) (y := .int 0) rfl rfl (ixL_at (k := 0) rfl)) rfl (eqS _ _))
  have fl : ((ws.map numT).map noneI).all flatD = true := List.all_eq_true.mpr fun e he => by
    obtain ⟨o, _, rfl⟩ := List.mem_map.mp he
    cases o <;> rfl
  have c2 : bTest (eOp fNin eNon (eVar 3)) ρ = some (!(ws.map numT).any fun o => o.isNone) := bTest_of (eOp_of (x := .none) (y := N) rfl rfl (by
    show (if (flatD .none && ((ws.map numT).map noneI).all flatD) = true then some (PyData.bool (!inL .none ((ws.map numT).map noneI))) else none) = _
    rw [fl, nin_opts]
    rfl))
  refine runF_of rfl ((sSeq_nx (ρ' := r (.val L) .no) (sSet_of (eL_of s2))).trans ((sSeq_nx (ρ' := ρ) (sSet_of (eCb_of (aCons_of (eL_of e3) rfl) rfl))).trans (sRet_of ?_)))
  have t := bAnd_of c1 c2
  unfold behT
  by_cases q : h = w
  · rw [decide_eq_true q, Bool.true_and] at t
    show _ = some (tupI (if h = w then numsT ws else none))
    rw [if_pos q]
    cases n : numsT ws with
    | none =>
      obtain ⟨p, hp, z⟩ := numsT_none.mp n
      have : (ws.map numT).any (fun o => o.isNone) = true := List.any_eq_true.mpr ⟨numT p, List.mem_map_of_mem hp, by rw [z]; rfl⟩
      rw [this] at t
      exact eIf_of t rfl
    | some ns =>
      have e := numsT_some n
      have : (ws.map numT).any (fun o => o.isNone) = false := by
        rw [e, List.any_eq_false]
        intro o ho
        obtain ⟨x, _, rfl⟩ := List.mem_map.mp ho
        simp
      rw [this] at t
      refine eIf_of t ?_
      show some N = some (offD ns)
      show some (PyData.tuple ((ws.map numT).map noneI)) = _
      rw [e, List.map_map]
      rfl
  · rw [decide_eq_false q, Bool.false_and] at t
    show _ = some (tupI (if h = w then numsT ws else none))
    rw [if_neg q]
    exact eIf_of t rfl
end L67

set_option Elab.async false
set_option linter.all false
set_option maxRecDepth 100000
namespace L67
open PySem PySem.Spec PyProof.Rows L2 Pb Pt
abbrev Am1 (p : Int) : Bool := decide (0 ≤ p) && decide (p ≤ 1000000000000)
def ascB (m : Nat) (o : List Int) : Bool := o.all (fun i => decide (0 ≤ i) && decide (i < (m : Int))) && decide (sortU o = o)
theorem sortU_fix {o : List Int} : sortU o = o ↔ o.Pairwise (· < ·) := by
  constructor
  · intro h
    rw [← h]
    exact sortU_lt
  · intro h
    exact strict_eq sortU_lt h fun k => sortU_mem
theorem ascB_iff {m : Nat} {o : List Int} : ascB m o = true ↔ OffOk (m : Int) o := by
  unfold ascB
  rw [Bool.and_eq_true, List.all_eq_true, decide_eq_true_iff, sortU_fix]
  constructor
  · rintro ⟨h1, h2⟩
    exact ⟨fun i hi => by simpa using h1 i hi, h2⟩
  · rintro ⟨h1, h2⟩
    exact ⟨fun i hi => by simpa using h1 i hi, h2⟩
/-- an offer's row -/
def rowN (m : Nat) : Option (List Int) → Option (Int × List Int)
  | some (p :: o) => if (Am1 p && ascB m o) = true then some (p, o) else none
  | _ => none
def rowD : Option (Int × List Int) → PyData
  | some p => offD (p.1 :: p.2)
  | none => .none
theorem am_b (p : Int) : q_is_amount [.int p] = some (.bool (Am1 p)) := by
  rw [q_amount]
  show some (PyData.bool (decide (0 ≤ p) && decide (p < 1000000000001))) = _
  congr 3
  rw [decide_eq_decide]
  omega
theorem asc_b (m : Nat) (o : List Int) : q_is_ascending_below [offD o, .int (m : Int)] = some (.bool (ascB m o)) := by
  obtain ⟨b, e, g⟩ := q_asc (x := offD o) (c := (m : Int))
  rw [e]
  congr 2
  rw [Bool.eq_iff_iff, g, ascB_iff]
  constructor
  · rintro ⟨ns, e2, h1, h2⟩
    have : o = ns := by
      have := congrArg intsOf e2
      rwa [intsOf_off, intsOf_off] at this
    subst this
    exact ⟨h1, h2⟩
  · rintro ⟨h1, h2⟩
    exact ⟨o, rfl, h1, h2⟩
theorem q_poff {m : Nat} {z : Str} (hl : z.length + 2 ≤ 100000) : q_parse_offer [.str z, .int (m : Int)] = some (rowD (rowN m (behT "offer" (Txt.split z " ")))) := by
  have e := q_beh (w := "offer") hl
  generalize behT "offer" (Txt.split z " ") = b at *
  let r (s : Sl) : Rho := [.val (.str z), .val (.int (m : Int)), s]
  have a0 := sSeq_nx (ψ := sSet (gN 2) (eCb q_numbers_behind (aCons (eStr "offer") (aCons (eVar 0) aNil)))) (χ := sSeq (sIf (bOr (bTest (eOp fIsN (eVar 2) eNon)) (bOr (bTest (eOp fEq (eCb fLen (aCons (eVar 2) aNil)) (eInt 0))) (bNot (bTest (eCb q_is_amount (aCons (eOp fIxT (eVar 2) (eInt 0)) aNil)))))) (sRet eNon) sNil)
    (sRet (eIf (bTest (eCb q_is_ascending_below (aCons (eSlT (eVar 2) (oSome (eInt 1)) oNone) (aCons (eVar 1) aNil)))) (eVar 2) eNon))) (ρ := r .no) (ρ' := r (.val (tupI b))) (sSet_of (eCb_of (aCons_of rfl (aCons_of rfl rfl)) e))
  refine runF_of rfl (a0.trans ?_)
  match b with
  | none => exact sSeq_rt ((sIf_t (bOr_t rfl)).trans rfl)
  | some [] =>
    refine sSeq_rt ((sIf_t ((bOr_f rfl).trans (bOr_t (bTest_of (eOp_of (x := .int 0) (y := .int 0) rfl rfl rfl))))).trans rfl)
  | some (p :: o) =>
    let ρ := r (.val (offD (p :: o)))
    have i0 : eOp fIxT (eVar 2) (eInt 0) ρ = some (.int p) := eOp_of (x := offD (p :: o)) (y := .int 0) rfl rfl (ixT_int (k := 0) rfl)
    have t1 : bTest (eOp fEq (eCb fLen (aCons (eVar 2) aNil)) (eInt 0)) ρ = some false := bTest_of (eOp_of (eCb_of (aCons_of rfl rfl) (len_off (p :: o))) rfl (by
      show some (PyData.bool (decide (_ = _))) = _
      rw [decide_eq_false (by rw [List.length_cons]; omega)]))
    have t2 : bNot (bTest (eCb q_is_amount (aCons (eOp fIxT (eVar 2) (eInt 0)) aNil))) ρ = some (!Am1 p) := bNot_of (bTest_of (eCb_of (aCons_of i0 rfl) (am_b p)))
    have c : bOr (bTest (eOp fIsN (eVar 2) eNon)) (bOr (bTest (eOp fEq (eCb fLen (aCons (eVar 2) aNil)) (eInt 0))) (bNot (bTest (eCb q_is_amount (aCons (eOp fIxT (eVar 2) (eInt 0)) aNil))))) ρ = some (!Am1 p) := (bOr_f rfl).trans ((bOr_f t1).trans t2)
    have sl : eSlT (eVar 2) (oSome (eInt 1)) oNone ρ = some (offD o) := by
      show some (PyData.tuple (cutG ((p :: o).map PyData.int) (some 1) none)) = _
      exact congrArg (fun l => some (PyData.tuple l)) (cutG_drop (j := 1) (by simp))
    have s1 : bTest (eCb q_is_ascending_below (aCons (eSlT (eVar 2) (oSome (eInt 1)) oNone) (aCons (eVar 1) aNil))) ρ = some (ascB m o) := bTest_of (eCb_of (aCons_of sl (aCons_of rfl rfl)) (asc_b m o))
    show _ = some (Res.rt (rowD (if (Am1 p && ascB m o) = true then some (p, o) else none)))
    cases x : Am1 p with
    | false =>
      rw [x] at c
      exact sSeq_rt ((sIf_t c).trans rfl)
    | true =>
      rw [x] at c
      refine (sSeq_nx ((sIf_f c).trans rfl)).trans (sRet_of ?_)
      cases y : ascB m o with
      | false =>
        rw [y] at s1
        exact eIf_of s1 rfl
      | true =>
        rw [y] at s1
        exact eIf_of s1 rfl
end L67

set_option Elab.async false
set_option linter.all false
set_option maxRecDepth 100000
namespace L67
open PySem PySem.Spec PyProof.Rows L2 Pb Pt
theorem lSortUM_of {φ : Rho → Option PyData} {ρ : Rho} {ns : List Int} (h : φ ρ = some (.list (ns.map PyData.int))) (hl : ns.length ≤ 1000) : lSortUM φ ρ = some ((sortU ns).map PyData.int) := by
  unfold lSortUM
  rw [h]
  show ((intsD (ns.map PyData.int)).bind _) = _
  rw [intsD_ints]
  show (if ns.length ≤ 1000 then _ else _) = _
  rw [if_pos hl]
/-- a law's word as a number -/
abbrev lw (w : Str) : Int := (numT w).getD (-1)
def prD : Option (Int × List Int) → PyData
  | some p => .tuple [.int p.1, offD p.2]
  | none => .tuple []
theorem lw_none : ∀ {ws : List Str}, numsT ws = none → ∃ i ∈ ws.map lw, i = -1 := fun {ws} h => by
  obtain ⟨w, hw, z⟩ := numsT_none.mp h
  exact ⟨lw w, List.mem_map_of_mem hw, by show (numT w).getD (-1) = -1; rw [z]; rfl⟩
theorem lw_some {ws : List Str} {ns : List Int} (h : numsT ws = some ns) : ws.map lw = ns := by
  have e := numsT_some h
  have : ws.map lw = (ws.map numT).map fun o => o.getD (-1) := by rw [List.map_map]; rfl
  rw [this, e, List.map_map]
  exact List.map_id ns
def rowL (m : Nat) (L : List Int) : Option (Int × List Int) := match L with
  | [] => none
  | p :: o => if (Am1 p && ascB m o) = true then some (p, o) else none
theorem rowL_eq {m : Nat} {ws : List Str} : rowL m (ws.map lw) = rowN m (numsT ws) := by
  cases n : numsT ws with
  | some ns =>
    rw [lw_some n]
    cases ns <;> rfl
  | none =>
    obtain ⟨i, hi, rfl⟩ := lw_none n
    show rowL m (ws.map lw) = none
    generalize ws.map lw = L at hi
    match L, hi with
    | p :: o, hi =>
      show (if _ then _ else _) = none
      rw [if_neg]
      intro z
      rw [Bool.and_eq_true, ascB_iff] at z
      rcases List.mem_cons.mp hi with e | e
      · have := z.1
        rw [← e] at this
        simp at this
      · have := z.2.1 _ e
        omega
theorem q_loffer {m : Nat} {ws : List Str} (hm : m ≤ 1000) (hl : ws.length ≤ 1000) (hw : ∀ w ∈ ws, w.length ≤ 100000) : q__law_offer [.list (ws.map PyData.str), .int (m : Int)] = some (prD (rowN m (numsT ws))) := by
  rw [← rowL_eq]
  let W : PyData := .list (ws.map PyData.str)
  have k : lLc [4] (iL (eVar 0)) (gN 4) bYes (eCb q__law_integer (aCons (eVar 4) aNil)) [.val W, .val (.int (m : Int)), .no, .no, .no, .no] = some ((ws.map lw).map PyData.int) := by
    refine (Pf.lLc_at PyData.str (fun e => match e with | .str z => z | _ => Str.empty) (fun _ => rfl) (l := ws) (fun _ => true) (fun p => .int (lw p)) rfl (by omega) fun p hp => ⟨_, rfl, rfl, fun _ => eCb_of (aCons_of rfl rfl) (q_lint (hw p hp))⟩).trans ?_
    rw [List.filter_eq_self.mpr (fun _ _ => rfl), List.map_map]
    rfl
  have ll : (ws.map lw).length ≤ 1000 := by rw [List.length_map]; exact hl
  generalize ws.map lw = L at *
  let r (s2 s3 : Sl) : Rho := [.val W, .val (.int (m : Int)), s2, s3, .no, .no]
  refine runF_of rfl ((sSeq_nx (ρ' := r (.val (.list (L.map PyData.int))) .no) (sSet_of (eL_of k))).trans ?_)
  clear k
  match L, ll with
  | [], _ => exact sSeq_rt ((sIf_t (bOr_t rfl)).trans rfl)
  | p :: o, ll =>
    rw [List.length_cons] at ll
    let N : PyData := .list ((p :: o).map PyData.int)
    have t0 : bTest (eOp fEq0 (eVar 2) (eL (lLst aNil))) (r (.val N) .no) = some false := rfl
    have i0 : ∀ s3, eOp fIxL (eVar 2) (eInt 0) (r (.val N) s3) = some (.int p) := fun _ => eOp_of (x := N) (y := .int 0) rfl rfl (ixL_at (k := 0) rfl)
    have e12 : eOp fPow (eInt 10) (eInt 12) (r (.val N) .no) = some (.int 1000000000000) := rfl
    have t1 : bNot (bTest (eChain fLe fLe (eInt 0) (eOp fIxL (eVar 2) (eInt 0)) (eOp fPow (eInt 10) (eInt 12)))) (r (.val N) .no) = some (!Am1 p) := bNot_of (bTest_of (chain_le (φ := eInt 0) rfl (i0 _) e12))
    have c := (bOr_f (γ := bNot (bTest (eChain fLe fLe (eInt 0) (eOp fIxL (eVar 2) (eInt 0)) (eOp fPow (eInt 10) (eInt 12))))) t0).trans t1
    show _ = some (Res.rt (prD (if (Am1 p && ascB m o) = true then some (p, o) else none)))
    cases x : Am1 p with
    | false =>
      rw [x] at c
      exact sSeq_rt ((sIf_t c).trans rfl)
    | true =>
      rw [x] at c
      let O : PyData := .list (o.map PyData.int)
      have e3 : eL (lSl (eVar 2) (oSome (eInt 1)) oNone) (r (.val N) .no) = some O := eL_of ((lSl_of (es := (p :: o).map PyData.int) (l := some 1) (h := none) rfl rfl rfl).trans (congrArg some (cutG_drop (j := 1) (by simp))))
      let ρ := r (.val N) (.val O)
      have kf : lLc [5] (iL (eVar 3)) (gN 5) (bNot (bTest (eChain fLe fLt (eInt 0) (eVar 5) (eVar 1)))) (eVar 5) ρ = some ((o.filter fun i => !(decide (0 ≤ i) && decide (i < (m : Int)))).map PyData.int) :=
        Pf.lLc_at PyData.int intOf (fun _ => rfl) (l := o) (fun i => !(decide (0 ≤ i) && decide (i < (m : Int)))) PyData.int rfl (by omega) fun i _ => ⟨_, rfl, bNot_of (bTest_of (chain_lelt (φ := eInt 0) rfl rfl rfl)), fun _ => rfl⟩
      have f1 : bTest (eOp fNe0 (eL (lLc [5] (iL (eVar 3)) (gN 5) (bNot (bTest (eChain fLe fLt (eInt 0) (eVar 5) (eVar 1)))) (eVar 5))) (eL (lLst aNil))) ρ = some (!(o.all fun i => decide (0 ≤ i) && decide (i < (m : Int)))) := by
        refine (bTest_of (eOp_of (x := .list ((o.filter fun i => !(decide (0 ≤ i) && decide (i < (m : Int)))).map PyData.int)) (y := .list []) (eL_of kf) rfl rfl)).trans ?_
        congr 2
        rw [Bool.eq_iff_iff, List.isEmpty_iff, List.map_eq_nil_iff, List.filter_eq_nil_iff, List.all_eq_true]
        constructor
        · intro h i hi
          have := h i hi
          revert this
          cases (decide (0 ≤ i) && decide (i < (m : Int))) <;> simp
        · intro h i hi
          rw [h i hi]
          simp
      have f2 : bTest (eOp fNeD (eVar 3) (eL (lSortUM (eVar 3)))) ρ = some (!decide (sortU o = o)) := by
        refine (bTest_of (eOp_of (x := O) rfl (eL_of (lSortUM_of (ns := o) rfl (by omega))) (Pf.neD_lst o (sortU o)))).trans ?_
        congr 2
        rw [decide_eq_decide]
        exact eq_comm
      refine (sSeq_nx ((sIf_f c).trans rfl)).trans ((sSeq_nx (ρ' := ρ) (sSet_of e3)).trans ?_)
      cases a : o.all fun i => decide (0 ≤ i) && decide (i < (m : Int)) with
      | false =>
        rw [a] at f1
        have nb : ascB m o = false := by unfold ascB; rw [a]; rfl
        rw [nb]
        exact sSeq_rt ((sIf_t (bOr_t f1)).trans rfl)
      | true =>
        rw [a] at f1
        have nb : ascB m o = decide (sortU o = o) := by unfold ascB; rw [a]; rfl
        rw [nb]
        cases b : decide (sortU o = o) with
        | false =>
          rw [b] at f2
          exact sSeq_rt ((sIf_t ((bOr_f f1).trans f2)).trans rfl)
        | true =>
          rw [b] at f2
          refine (sSeq_nx ((sIf_f ((bOr_f f1).trans f2)).trans rfl)).trans (sRet_of (eTup2_of (i0 _) (eCb_of (aCons_of rfl rfl) rfl)))
end L67

set_option Elab.async false
set_option linter.all false
set_option maxRecDepth 100000
namespace L67
open PySem PySem.Spec PyProof.Rows L2 Pb Pt
/-! ### what is read, told twice: as the program reads, as the law reads -/
abbrev Row : Type := Int × List Int
/-- a demand's line, cut into words -/
def demT : List Str → Option Int
  | [h, w] => if (decide (h = "demand") && Am1 (lw w)) = true then some (lw w) else none
  | _ => none
def demN : Option (List Int) → Option Int
  | some [q] => if Am1 q = true then some q else none
  | _ => none
theorem dem_eq (ws : List Str) : demN (behT "demand" ws) = demT ws := by
  match ws with
  | [] => rfl
  | [h] =>
    unfold behT
    by_cases z : h = "demand"
    · simp only [z, if_true]
      rfl
    · simp only [if_neg z]
      rfl
  | [h, w] =>
    show demN (if h = "demand" then numsT [w] else none) = if (decide (h = "demand") && Am1 (lw w)) = true then some (lw w) else none
    by_cases z : h = "demand"
    · rw [if_pos z, decide_eq_true z, Bool.true_and]
      cases n : numT w with
      | none =>
        have e1 : numsT [w] = none := by unfold numsT; rw [n]; rfl
        have e2 : lw w = -1 := by show (numT w).getD (-1) = -1; rw [n]; rfl
        rw [e1, e2]
        rfl
      | some q =>
        have e1 : numsT [w] = some [q] := by unfold numsT; rw [n]; rfl
        have e2 : lw w = q := by show (numT w).getD (-1) = q; rw [n]; rfl
        rw [e1, e2]
        rfl
    · rw [if_neg z, decide_eq_false z, Bool.false_and]
      rfl
  | h :: w :: w2 :: ws =>
    show demN (if h = "demand" then numsT (w :: w2 :: ws) else none) = none
    by_cases z : h = "demand"
    · rw [if_pos z]
      cases n : numsT (w :: w2 :: ws) with
      | none => rfl
      | some ns =>
        have l := congrArg List.length (numsT_some n)
        rw [List.length_map, List.length_map] at l
        match ns, l with
        | _ :: _ :: _, _ => rfl
    · rw [if_neg z]
      rfl
def rowT (m : Nat) (ws : List Str) : Option Row := rowN m (behT "offer" ws)
/-- the program: the demands ahead -/
def leadT : Nat → List (List Str) → List Int
  | n + 1, ws :: ls => match demT ws with
    | some q => q :: leadT n ls
    | none => []
  | _, _ => []
/-- the program: the rows -/
def rowsT (m : Nat) : Nat → Nat → List (List Str) → Nat ⊕ List Row
  | _, _, [] => .inr []
  | i, n, ws :: ls => match rowT m ws with
    | none => .inl i
    | some p => if 10 ≤ n then .inl i else match rowsT m (i + 1) (n + 1) ls with
      | .inl j => .inl j
      | .inr ps => .inr (p :: ps)
def progT (ls : List (List Str)) (last : Bool) : Nat ⊕ (List Int × List Row) :=
  let qs := leadT 10 ls
  if qs = [] then .inl 0 else match rowsT qs.length qs.length 0 (ls.drop qs.length) with
    | .inl i => .inl i
    | .inr ps => if last = true then .inr (qs, ps) else .inl ls.length
/-- the law: line by line -/
def lawT (N : Nat) (last : Bool) : Nat → List Int → List Row → List (List Str) → Nat ⊕ (List Int × List Row)
  | _, qs, ps, [] => if last = true ∧ qs ≠ [] then .inr (qs, ps) else .inl N
  | i, qs, ps, ws :: ls =>
    if ws.headD "" = "demand" ∧ ps = [] ∧ ws.length = 2 ∧ qs.length < 10 then
      (if Am1 (lw (ws.getD 1 "")) = true then lawT N last (i + 1) (qs ++ [lw (ws.getD 1 "")]) ps ls else .inl i)
    else if ws.headD "" = "offer" ∧ qs ≠ [] ∧ ps.length < 10 then
      (match rowT qs.length ws with
        | none => .inl i
        | some p => lawT N last (i + 1) qs (ps ++ [p]) ls)
    else .inl i
theorem dem_of {ws : List Str} {q : Int} (h : demT ws = some q) : ws.headD "" = "demand" ∧ ws.length = 2 ∧ Am1 (lw (ws.getD 1 "")) = true ∧ lw (ws.getD 1 "") = q := by
  unfold demT at h
  split at h
  · rename_i a b
    split at h
    · rename_i c
      cases h
      rw [Bool.and_eq_true, decide_eq_true_iff] at c
      exact ⟨c.1, rfl, c.2, rfl⟩
    · cases h
  · cases h
theorem row_of {m : Nat} {ws : List Str} {p : Row} (h : rowT m ws = some p) : ws.headD "" = "offer" := by
  unfold rowT behT at h
  split at h
  · cases h
  · rename_i a b
    by_cases z : a = "offer"
    · exact z
    · rw [if_neg z] at h
      cases h
theorem od_ne : ("offer" : Str) ≠ "demand" := by decide +kernel
/-- the rows, both ways -/
theorem rows_eq {N : Nat} {last : Bool} {qs : List Int} (hq : qs ≠ []) : ∀ (ls : List (List Str)) (i : Nat) (ps : List Row), (ps ≠ [] ∨ qs.length = 10 ∨ ∀ ws r, ls = ws :: r → demT ws = none) → lawT N last i qs ps ls = match rowsT qs.length i ps.length ls with
    | .inl j => .inl j
    | .inr rs => if last = true then .inr (qs, ps ++ rs) else .inl N
  | [], i, ps, _ => by
    show (if last = true ∧ qs ≠ [] then _ else _) = if last = true then _ else _
    by_cases h : last = true
    · rw [if_pos ⟨h, hq⟩, if_pos h, List.append_nil]
    · rw [if_neg fun z => h z.1, if_neg h]
  | ws :: ls, i, ps, hc => by
    unfold lawT rowsT
    cases h : rowT qs.length ws with
    | some p =>
      have ho := row_of h
      have nd : ¬ (ws.headD "" = "demand" ∧ ps = [] ∧ ws.length = 2 ∧ qs.length < 10) := fun z => od_ne (ho.symm.trans z.1)
      rw [if_neg nd]
      by_cases h10 : 10 ≤ ps.length
      · rw [if_neg fun z => by have := z.2.2; omega]
        simp only [if_pos h10]
      · rw [if_pos ⟨ho, hq, by omega⟩]
        simp only [if_neg h10]
        rw [rows_eq hq ls (i + 1) (ps ++ [p]) (.inl (by simp)), List.length_append]
        show (match rowsT qs.length (i + 1) (ps.length + 1) ls with
          | .inl j => _
          | .inr rs => _) = _
        cases rowsT qs.length (i + 1) (ps.length + 1) ls with
        | inl j => rfl
        | inr rs =>
          show (if last = true then _ else _) = if last = true then _ else _
          rw [List.append_assoc]
          rfl
    | none =>
      show (if _ then _ else if _ then _ else _) = Sum.inl i
      by_cases c1 : ws.headD "" = "demand" ∧ ps = [] ∧ ws.length = 2 ∧ qs.length < 10
      · rw [if_pos c1]
        have dn : demT ws = none := by
          rcases hc with z | z | z
          · exact absurd c1.2.1 z
          · have := c1.2.2.2
            omega
          · exact z ws ls rfl
        match ws, c1 with
        | [a, b], c1 =>
          have : ¬ Am1 (lw b) = true := fun z => by
            have ha : a = "demand" := c1.1
            change (if (decide (a = "demand") && Am1 (lw b)) = true then some (lw b) else none) = none at dn
            rw [decide_eq_true ha, Bool.true_and, if_pos z] at dn
            cases dn
          exact if_neg this
      · rw [if_neg c1]
        by_cases c2 : ws.headD "" = "offer" ∧ qs ≠ [] ∧ ps.length < 10
        · rw [if_pos c2]
        · rw [if_neg c2]
/-- the demands ahead, both ways -/
theorem lead_eq {N : Nat} {last : Bool} : ∀ (n : Nat) (ls : List (List Str)) (i : Nat) (qs : List Int), qs.length + n = 10 → lawT N last i qs [] ls = lawT N last (i + (leadT n ls).length) (qs ++ leadT n ls) [] (ls.drop (leadT n ls).length) ∧ ((qs ++ leadT n ls).length = 10 ∨ ∀ ws r, ls.drop (leadT n ls).length = ws :: r → demT ws = none)
  | 0, ls, i, qs, h => by
    have e : leadT 0 ls = [] := by cases ls <;> rfl
    rw [e, List.append_nil]
    exact ⟨rfl, .inl (by omega)⟩
  | n + 1, [], i, qs, h => by
    show lawT N last i qs [] [] = lawT N last (i + 0) (qs ++ []) [] [] ∧ _
    rw [List.append_nil]
    exact ⟨rfl, .inr fun ws r z => by cases z⟩
  | n + 1, ws :: ls, i, qs, h => by
    cases d : demT ws with
    | none =>
      have e : leadT (n + 1) (ws :: ls) = [] := by
        unfold leadT
        rw [d]
      rw [e, List.append_nil]
      exact ⟨rfl, .inr fun ws' r z => by cases z; exact d⟩
    | some q =>
      have e : leadT (n + 1) (ws :: ls) = q :: leadT n ls := by
        show (match demT ws with
          | some q => q :: leadT n ls
          | none => []) = _
        rw [d]
      obtain ⟨d1, d2, d3, d4⟩ := dem_of d
      obtain ⟨a, b⟩ := lead_eq n ls (i + 1) (qs ++ [q]) (by rw [List.length_append]; simp; omega)
      have ea : qs ++ [q] ++ leadT n ls = qs ++ (q :: leadT n ls) := by rw [List.append_assoc]; rfl
      rw [ea] at a b
      rw [e, List.length_cons, List.drop_succ_cons]
      refine ⟨?_, b⟩
      rw [show i + ((leadT n ls).length + 1) = i + 1 + (leadT n ls).length by omega, ← a]
      show (if _ then (if _ then _ else _) else _) = _
      rw [if_pos ⟨d1, rfl, d2, by omega⟩, if_pos d3, d4]
theorem read_eq (ls : List (List Str)) (last : Bool) : lawT ls.length last 0 [] [] ls = progT ls last := by
  obtain ⟨a, b⟩ := lead_eq (N := ls.length) (last := last) 10 ls 0 [] rfl
  rw [a, List.nil_append, Nat.zero_add]
  rw [List.nil_append] at b
  unfold progT
  by_cases z : leadT 10 ls = []
  · rw [if_pos z, z]
    rw [z] at b
    show lawT ls.length last 0 [] [] ls = Sum.inl 0
    match ls, b with
    | [], _ =>
      show (if last = true ∧ ([] : List Int) ≠ [] then _ else _) = _
      rw [if_neg fun z => z.2 rfl]
      rfl
    | ws :: ls, b =>
      have dn : demT ws = none := by
        rcases b with b | b
        · cases b
        · exact b ws ls rfl
      show (if _ then _ else if _ then _ else _) = Sum.inl 0
      by_cases c1 : ws.headD "" = "demand" ∧ ([] : List Row) = [] ∧ ws.length = 2 ∧ ([] : List Int).length < 10
      · rw [if_pos c1]
        match ws, c1, dn with
        | [a, b], c1, dn =>
          have : ¬ Am1 (lw b) = true := fun z => by
            have ha : a = "demand" := c1.1
            change (if (decide (a = "demand") && Am1 (lw b)) = true then some (lw b) else none) = none at dn
            rw [decide_eq_true ha, Bool.true_and, if_pos z] at dn
            cases dn
          exact if_neg this
      · rw [if_neg c1, if_neg fun z => z.2.1 rfl]
  · rw [if_neg z]
    have := rows_eq (N := ls.length) (last := last) z (ls.drop (leadT 10 ls).length) (leadT 10 ls).length [] (.inr b)
    rw [this]
    show (match rowsT (leadT 10 ls).length (leadT 10 ls).length 0 (ls.drop (leadT 10 ls).length) with
      | .inl j => _
      | .inr rs => _) = _
    cases rowsT (leadT 10 ls).length (leadT 10 ls).length 0 (ls.drop (leadT 10 ls).length) with
    | inl j => rfl
    | inr rs => rfl
end L67

set_option Elab.async false
set_option linter.all false
set_option maxRecDepth 100000
namespace L67
open PySem PySem.Spec PyProof.Rows L2 Pb Pt
abbrev cut (z : Str) : List Str := Txt.split z " "
theorem sSeq_bk {ψ χ : Rho → Option Res} {ρ ρ' : Rho} (h : ψ ρ = some (.bk ρ')) : sSeq ψ χ ρ = some (.bk ρ') := by
  unfold sSeq
  rw [h]
  rfl
theorem forR_bk {B : PyData → Rho → Option Res} {e : PyData} {es : List PyData} {ρ ρ' : Rho} (h : B e ρ = some (.bk ρ')) : forR B (e :: es) ρ = some (.nx ρ') := by
  show (B e ρ).bind _ = _
  rw [h]
  rfl
abbrev bL : PyData → Rho → Option Res := fun e ρ => (gN 2 e ρ).bind (sSeq (sSet (gN 3) (eCb q_numbers_behind (aCons (eStr "demand") (aCons (eVar 2) aNil))))
  (sSeq (sIf (bOr (bTest (eOp fIsN (eVar 3) eNon)) (bOr (bTest (eOp fNe (eCb fLen (aCons (eVar 3) aNil)) (eInt 1))) (bNot (bTest (eCb q_is_amount (aCons (eOp fIxT (eVar 3) (eInt 0)) aNil)))))) sBrk sNil)
  (sApp 1 (eOp fIxT (eVar 3) (eInt 0)))))
theorem lead_step {L : PyData} {acc : List Int} {s2 s3 : Sl} {z : Str} (hl : z.length + 2 ≤ 100000) (ha : acc.length ≤ 1000) : ∃ s3', bL (.str z) [.val L, .own (acc.map PyData.int), s2, s3] = some (match demT (cut z) with
    | some q => .nx [.val L, .own ((acc ++ [q]).map PyData.int), .val (.str z), s3']
    | none => .bk [.val L, .own (acc.map PyData.int), .val (.str z), s3']) := by
  rw [← dem_eq]
  have e := q_beh (w := "demand") hl
  have e' : q_numbers_behind [.str "demand", .str z] = some (tupI (behT "demand" (cut z))) := e
  clear e
  generalize behT "demand" (cut z) = b at *
  let r (s3 : Sl) : Rho := [.val L, .own (acc.map PyData.int), .val (.str z), s3]
  refine ⟨.val (tupI b), ?_⟩
  show sSeq _ _ (r s3) = _
  refine (sSeq_nx (ρ' := r (.val (tupI b))) (sSet_of (eCb_of (aCons_of rfl (aCons_of rfl rfl)) e'))).trans ?_
  match b with
  | none => exact sSeq_bk ((sIf_t (bOr_t rfl)).trans rfl)
  | some [] => exact sSeq_bk ((sIf_t ((bOr_f rfl).trans (bOr_t (bTest_of (eOp_of (x := .int 0) (y := .int 1) rfl rfl rfl))))).trans rfl)
  | some (p :: q :: o) =>
    have t1 : bTest (eOp fNe (eCb fLen (aCons (eVar 3) aNil)) (eInt 1)) (r (.val (offD (p :: q :: o)))) = some true := bTest_of (eOp_of (eCb_of (aCons_of rfl rfl) (len_off (p :: q :: o))) rfl (by
      show some (PyData.bool (!decide (_ = _))) = _
      rw [decide_eq_false (by rw [List.length_cons, List.length_cons]; omega)]
      rfl))
    exact sSeq_bk ((sIf_t ((bOr_f rfl).trans (bOr_t t1))).trans rfl)
  | some [q] =>
    let ρ := r (.val (offD [q]))
    have i0 : eOp fIxT (eVar 3) (eInt 0) ρ = some (.int q) := eOp_of (x := offD [q]) (y := .int 0) rfl rfl rfl
    have c : bOr (bTest (eOp fIsN (eVar 3) eNon)) (bOr (bTest (eOp fNe (eCb fLen (aCons (eVar 3) aNil)) (eInt 1))) (bNot (bTest (eCb q_is_amount (aCons (eOp fIxT (eVar 3) (eInt 0)) aNil))))) ρ = some (!Am1 q) := (bOr_f rfl).trans ((bOr_f (bTest_of (eOp_of (x := .int 1) (y := .int 1) rfl rfl rfl))).trans (bNot_of (bTest_of (eCb_of (aCons_of i0 rfl) (am_b q)))))
    show _ = some (match (if Am1 q = true then some q else none) with
      | some q' => Res.nx [.val L, .own ((acc ++ [q']).map PyData.int), .val (.str z), .val (offD [q])]
      | none => .bk [.val L, .own (acc.map PyData.int), .val (.str z), .val (offD [q])])
    cases x : Am1 q with
    | false =>
      rw [x] at c
      exact sSeq_bk ((sIf_t c).trans rfl)
    | true =>
      rw [x] at c
      refine (sSeq_nx ((sIf_f c).trans rfl)).trans ((sApp_of (i := 1) (es := acc.map PyData.int) (e := .int q) rfl (by rw [List.length_map]; omega) i0).trans ?_)
      rw [if_pos rfl]
      show _ = some (Res.nx [.val L, .own ((acc ++ [q]).map PyData.int), .val (.str z), .val (offD [q])])
      rw [List.map_append]
      rfl
theorem lead_go {L : PyData} : ∀ (n : Nat) (zs : List Str) (acc : List Int) (s2 s3 : Sl), (∀ z ∈ zs, z.length + 2 ≤ 100000) → acc.length + n ≤ 1000 → ∃ s2' s3', forR bL ((zs.take n).map PyData.str) [.val L, .own (acc.map PyData.int), s2, s3] = some (.nx [.val L, .own ((acc ++ leadT n (zs.map cut)).map PyData.int), s2', s3'])
  | 0, zs, acc, s2, s3, _, _ => by
    have e : leadT 0 (zs.map cut) = [] := by cases zs <;> rfl
    rw [e, List.append_nil]
    exact ⟨s2, s3, rfl⟩
  | n + 1, [], acc, s2, s3, _, _ => by
    show ∃ s2' s3', _ = some (Res.nx [.val L, .own ((acc ++ []).map PyData.int), s2', s3'])
    rw [List.append_nil]
    exact ⟨s2, s3, rfl⟩
  | n + 1, z :: zs, acc, s2, s3, h, ha => by
    obtain ⟨s3', st⟩ := lead_step (L := L) (acc := acc) (s2 := s2) (s3 := s3) (h z List.mem_cons_self) (by omega)
    rw [List.take_succ_cons, List.map_cons]
    cases d : demT (cut z) with
    | none =>
      rw [d] at st
      have e : leadT (n + 1) ((z :: zs).map cut) = [] := by
        show (match demT (cut z) with
          | some q => q :: leadT n (zs.map cut)
          | none => []) = _
        rw [d]
      rw [e, List.append_nil]
      exact ⟨_, _, forR_bk st⟩
    | some q =>
      rw [d] at st
      have e : leadT (n + 1) ((z :: zs).map cut) = q :: leadT n (zs.map cut) := by
        show (match demT (cut z) with
          | some q => q :: leadT n (zs.map cut)
          | none => []) = _
        rw [d]
      obtain ⟨a, b, k⟩ := lead_go (L := L) n zs (acc ++ [q]) (.val (.str z)) s3' (fun y hy => h y (List.mem_cons_of_mem _ hy)) (by rw [List.length_append]; simp; omega)
      refine ⟨a, b, ?_⟩
      rw [e, forR_nx st, k, List.append_assoc]
      rfl
theorem cut10 {α : Type} (xs : List α) : cutG xs none (some (10 : Int)) = xs.take 10 := by
  by_cases h : 10 ≤ xs.length
  · exact cutG_take (j := 10) h
  · rw [cutG_whole ⟨rfl, ?_⟩, List.take_of_length_le (by omega)]
    unfold HT.sIx
    simp
    omega
theorem q_lead {zs : List Str} (h : ∀ z ∈ zs, z.length + 2 ≤ 100000) (hl : zs.length ≤ 99000) : q_leading_penalties [.list (zs.map PyData.str)] = some (.list ((leadT 10 (zs.map cut)).map PyData.int)) := by
  let L : PyData := .list (zs.map PyData.str)
  obtain ⟨s2, s3, k⟩ := lead_go (L := L) 10 zs [] .no .no h (by simp)
  have it : iL (eL (lSl (eVar 0) oNone (oSome (eInt 10)))) [.val L, .own [], .no, .no] = some ((zs.take 10).map PyData.str) := by
    have s : eL (lSl (eVar 0) oNone (oSome (eInt 10))) [.val L, .own [], .no, .no] = some (.list ((zs.take 10).map PyData.str)) := eL_of ((lSl_of (es := zs.map PyData.str) (l := none) (h := some 10) rfl rfl rfl).trans (by rw [cut10, List.map_take]))
    unfold iL
    rw [s]
    rfl
  refine runF_of rfl ((sSeq_nx (ρ' := [.val L, .own [], .no, .no]) rfl).trans ((sSeq_nx (sFor_of it k)).trans ?_))
  rfl
theorem lead_len : ∀ (n : Nat) (ls : List (List Str)), (leadT n ls).length ≤ n ∧ (leadT n ls).length ≤ ls.length
  | 0, ls => by
    have e : leadT 0 ls = [] := by cases ls <;> rfl
    rw [e]
    simp
  | n + 1, [] => by
    show ([] : List Int).length ≤ _ ∧ _
    simp
    rfl
  | n + 1, ws :: ls => by
    show (match demT ws with
      | some q => q :: leadT n ls
      | none => []).length ≤ _ ∧ (match demT ws with
      | some q => q :: leadT n ls
      | none => []).length ≤ _
    cases demT ws with
    | none => simp
    | some q =>
      obtain ⟨a, b⟩ := lead_len n ls
      rw [List.length_cons, List.length_cons]
      omega
end L67

set_option Elab.async false
set_option linter.all false
set_option maxRecDepth 100000
namespace L67
open PySem PySem.Spec PyProof.Rows L2 Pb Pt
theorem forX_nx {b : PyData → Rho → Option Rx} {e : PyData} {es : List PyData} {ρ ρ' : Rho} (h : b e ρ = some (.ok (.nx ρ'))) : forX b (e :: es) ρ = forX b es ρ' := by
  show (b e ρ).bind _ = _
  rw [h]
  rfl
theorem forX_ex {b : PyData → Rho → Option Rx} {e : PyData} {es : List PyData} {ρ ρ' : Rho} {o : Out} (h : b e ρ = some (.ex o ρ')) : forX b (e :: es) ρ = some (.ex o ρ') := by
  show (b e ρ).bind _ = _
  rw [h]
  rfl
theorem xRaise1_of {x f : Str} {φ : Rho → Option PyData} {ρ : Rho} {e : PyData} (h : φ ρ = some e) : xRaise1 x f φ ρ = some (.ex (.excF x f e) ρ) := by
  unfold xRaise1
  rw [h]
  rfl
abbrev rP (x0 x1 x2 x3 : PyData) (s4 s5 s6 s7 : Sl) : Rho := [.val x0, .val x1, .val x2, .val x3, s4, s5, s6, s7]
abbrev bR : Rho → Option Rx := (xSeq (xP (sSet (gN 6) (eCb q_parse_offer (aCons (eOp fIxL (eVar 2) (eVar 5)) (aCons (eCb fLen (aCons (eVar 3) aNil)) aNil)))))
  (xSeq (xIf (bOr (bTest (eOp fIsN (eVar 6) eNon)) (bTest (eOp fGe (eCb fLen (aCons (eL (lOwn 4)) aNil)) (eInt 10)))) (xRaise1 "BadText" "line" (eVar 5)) (xP sNil))
  (xP (sApp 4 (eVar 6)))))
abbrev rowP (p : Row) : PyData := offD (p.1 :: p.2)
/-- the rows of the program -/
theorem rows_go {x0 x1 : PyData} {zs : List Str} {qs : List Int} {s7 : Sl} (h : ∀ z ∈ zs, z.length + 2 ≤ 100000) (hl : zs.length ≤ 99000) (hq : qs.length ≤ 99000) : ∀ (k i : Nat) (ps : List Row) (s5 s6 : Sl), i + k = zs.length → ps.length ≤ 10 → ∃ s5' s6' s4', forX (fun e ρ => (gN 5 e ρ).bind bR) ((List.range' i k).map fun j => PyData.int (j : Nat)) (rP x0 x1 (.list (zs.map PyData.str)) (.list (qs.map PyData.int)) (.own (ps.map rowP)) s5 s6 s7) = some (match rowsT qs.length i ps.length ((zs.drop i).map cut) with
    | .inl j => .ex (.excF "BadText" "line" (.int (j : Nat))) (rP x0 x1 (.list (zs.map PyData.str)) (.list (qs.map PyData.int)) s4' s5' s6' s7)
    | .inr rs => .ok (.nx (rP x0 x1 (.list (zs.map PyData.str)) (.list (qs.map PyData.int)) (.own ((ps ++ rs).map rowP)) s5' s6' s7)))
  | 0, i, ps, s5, s6, e, hp => by
    have : zs.drop i = [] := List.drop_eq_nil_of_le (by omega)
    rw [this]
    show ∃ s5' s6' s4', _ = some (Rx.ok (.nx (rP x0 x1 (.list (zs.map PyData.str)) (.list (qs.map PyData.int)) (.own ((ps ++ []).map rowP)) s5' s6' s7)))
    rw [List.append_nil]
    exact ⟨s5, s6, .no, rfl⟩
  | k + 1, i, ps, s5, s6, e, hp => by
    have il : i < zs.length := by omega
    have e1 : zs.drop i = zs[i] :: zs.drop (i + 1) := List.drop_eq_getElem_cons il
    have zm : zs[i] ∈ zs := List.getElem_mem il
    have po := q_poff (m := qs.length) (h _ zm)
    have at_ : fIxL (.list (zs.map PyData.str)) (.int (i : Int)) = some (.str zs[i]) := ixL_at (by rw [List.getElem?_map, List.getElem?_eq_getElem il]; rfl)
    rw [e1, List.map_cons, List.range'_succ, List.map_cons]
    generalize zs[i] = z at *
    let r (s4 s6 : Sl) : Rho := rP x0 x1 (.list (zs.map PyData.str)) (.list (qs.map PyData.int)) s4 (.val (.int (i : Nat))) s6 s7
    have l3 : ∀ s4 s6, eCb fLen (aCons (eVar 3) aNil) (r s4 s6) = some (.int (qs.length : Nat)) := fun _ _ => eCb_of (aCons_of rfl rfl) (by
      show some (PyData.int ((qs.map PyData.int).length : Nat)) = _
      rw [List.length_map])
    have s0 : xP (sSet (gN 6) (eCb q_parse_offer (aCons (eOp fIxL (eVar 2) (eVar 5)) (aCons (eCb fLen (aCons (eVar 3) aNil)) aNil)))) (r (.own (ps.map rowP)) s6) = some (.ok (.nx (r (.own (ps.map rowP)) (.val (rowD (rowT qs.length (cut z))))))) := xP_of (sSet_of (eCb_of (aCons_of (eOp_of rfl rfl at_) (aCons_of (l3 _ _) rfl)) po))
    have ge : ∀ s6, bTest (eOp fGe (eCb fLen (aCons (eL (lOwn 4)) aNil)) (eInt 10)) (r (.own (ps.map rowP)) s6) = some (decide ((10 : Nat) ≤ ps.length)) := fun _ => (bTest_of (eOp_of (x := .int (ps.length : Nat)) (y := .int 10) (eCb_of (aCons_of (eL_of rfl) rfl) (by
      show some (PyData.int ((ps.map rowP).length : Nat)) = _
      rw [List.length_map])) rfl rfl)).trans (by
      congr 1
      rw [decide_eq_decide]
      omega)
    cases x : rowT qs.length (cut z) with
    | none =>
      rw [x] at s0
      refine ⟨.val (.int (i : Nat)), .val .none, .own (ps.map rowP), ?_⟩
      have : rowsT qs.length i ps.length (cut z :: (zs.drop (i + 1)).map cut) = .inl i := by
        unfold rowsT
        rw [x]
      rw [this]
      exact forX_ex ((xSeq_nx s0).trans (xSeq_ex ((xIf_t (bOr_t rfl)).trans (xRaise1_of rfl))))
    | some p =>
      rw [x] at s0
      by_cases h10 : 10 ≤ ps.length
      · refine ⟨.val (.int (i : Nat)), .val (rowP p), .own (ps.map rowP), ?_⟩
        have : rowsT qs.length i ps.length (cut z :: (zs.drop (i + 1)).map cut) = .inl i := by
          unfold rowsT
          rw [x]
          simp only [if_pos h10]
        rw [this]
        have g := ge (.val (rowP p))
        rw [decide_eq_true h10] at g
        exact forX_ex ((xSeq_nx s0).trans (xSeq_ex ((xIf_t ((bOr_f rfl).trans g)).trans (xRaise1_of rfl))))
      · have g := ge (.val (rowP p))
        rw [decide_eq_false h10] at g
        obtain ⟨a, b, c, kk⟩ := rows_go (x0 := x0) (x1 := x1) (s7 := s7) h hl hq k (i + 1) (ps ++ [p]) (.val (.int (i : Nat))) (.val (rowP p)) (by omega) (by rw [List.length_append]; simp; omega)
        refine ⟨a, b, c, ?_⟩
        have st : (fun e ρ => (gN 5 e ρ).bind bR) (PyData.int (i : Nat)) (rP x0 x1 (.list (zs.map PyData.str)) (.list (qs.map PyData.int)) (.own (ps.map rowP)) s5 s6 s7) = some (.ok (.nx (r (.own ((ps ++ [p]).map rowP)) (.val (rowP p))))) := by
          refine (xSeq_nx s0).trans ((xSeq_nx ((xIf_f ((bOr_f rfl).trans g)).trans (xP_of rfl))).trans (xP_of ((sApp_of (i := 4) (es := ps.map rowP) (e := rowP p) rfl (by rw [List.length_map]; omega) rfl).trans ?_)))
          rw [List.map_append]
          rfl
        have e2 : rowsT qs.length i ps.length (cut z :: (zs.drop (i + 1)).map cut) = match rowsT qs.length (i + 1) (ps ++ [p]).length ((zs.drop (i + 1)).map cut) with
            | .inl j => .inl j
            | .inr ps => .inr (p :: ps) := by
          rw [List.length_append]
          show (match rowT qs.length (cut z) with
            | none => _
            | some p => _) = _
          rw [x]
          simp only [if_neg h10]
          rfl
        rw [forX_nx st, kk, e2]
        cases rowsT qs.length (i + 1) (ps ++ [p]).length ((zs.drop (i + 1)).map cut) with
        | inl j => rfl
        | inr rs =>
          show some (Rx.ok (.nx (rP x0 x1 _ _ (.own ((ps ++ [p] ++ rs).map rowP)) a b s7))) = some (Rx.ok (.nx (rP x0 x1 _ _ (.own ((ps ++ p :: rs).map rowP)) a b s7)))
          rw [List.append_assoc]
          rfl
end L67

set_option Elab.async false
set_option linter.all false
set_option maxRecDepth 100000
namespace L67
open PySem PySem.Spec PyProof.Rows L2 Pb Pt
theorem cut_init {α : Type} (xs : List α) (x : α) : cutG (xs ++ [x]) none (some (-1)) = xs := by
  have e : HT.sIx (xs ++ [x]).length (xs ++ [x]).length (some (-1)) = xs.length := by
    unfold HT.sIx
    simp
    omega
  unfold cutG
  rw [e]
  show (xs ++ [x]).take (xs.length - 0) = xs
  rw [Nat.sub_zero, List.take_left]
/-- what is told of a text -/
def outP : Nat ⊕ (List Int × List Row) → Out
  | .inl i => .excF "BadText" "line" (.int (i : Nat))
  | .inr (qs, ps) => .ret (.tuple [tabD (qs.length : Nat) (ps.map (·.2)), offD (ps.map (·.1)), offD qs])
theorem rows_n (m : Nat) : ∀ (ls : List (List Str)) (i n : Nat) (ps : List Row), n ≤ 10 → rowsT m i n ls = .inr ps → ps.length + n ≤ 10
  | [], i, n, ps, hn, h => by
    cases h
    simp
    exact hn
  | ws :: ls, i, n, ps, hn, h => by
    unfold rowsT at h
    split at h
    · cases h
    · split at h
      · cases h
      · split at h
        · cases h
        · rename_i rs e
          cases h
          have := rows_n m ls (i + 1) (n + 1) rs (by omega) e
          rw [List.length_cons]
          omega
theorem r_pdata {v w : Str} {zs : List Str} (hv : v.length ≤ 98000) (hs : Txt.split v "\n" = zs ++ [w]) : r_parse_data [.str v] = some (outP (progT (zs.map cut) (decide (w = "")))) := by
  obtain ⟨pl, ne, nl⟩ := split_len (x := v) (y := "\n") nl_tl (by decide +kernel)
  rw [hs] at pl nl
  have zl : zs.length ≤ 98000 := by
    rw [List.length_append] at nl
    simp at nl
    omega
  have zz : ∀ z ∈ zs, z.length + 2 ≤ 100000 := fun z hz => by
    have := pl z (List.mem_append_left _ hz)
    omega
  let X : PyData := .str v
  let PT : PyData := .list ((zs ++ [w]).map PyData.str)
  let LL : PyData := .list (zs.map PyData.str)
  let r (s1 s2 s3 s4 s5 s6 s7 : Sl) : Rho := [.val X, s1, s2, s3, s4, s5, s6, s7]
  have e1 : eL (lSplit (eVar 0) (eStr "\n")) (r .no .no .no .no .no .no .no) = some PT := by
    have := lSplit_of (φ := eVar 0) (ψ := eStr "\n") (ρ := r .no .no .no .no .no .no .no) (a := v) (b := "\n") rfl rfl (by decide +kernel) (by omega)
    rw [hs] at this
    exact eL_of this
  have e2 : eL (lSl (eVar 1) oNone (oSome (eUn fNeg (eInt 1)))) (r (.val PT) .no .no .no .no .no .no) = some LL := eL_of ((lSl_of (es := (zs ++ [w]).map PyData.str) (l := none) (h := some (-1)) rfl rfl rfl).trans (by
    rw [List.map_append]
    exact congrArg some (cut_init _ _)))
  have e3 := q_lead zz (by omega)
  obtain ⟨q10, ql⟩ := lead_len 10 (zs.map cut)
  rw [List.length_map] at ql
  unfold progT
  generalize leadT 10 (zs.map cut) = qs at *
  let QQ : PyData := .list (qs.map PyData.int)
  have l3 : ∀ s4 s5 s6 s7, eCb fLen (aCons (eVar 3) aNil) (r (.val PT) (.val LL) (.val QQ) s4 s5 s6 s7) = some (.int (qs.length : Nat)) := fun _ _ _ _ => eCb_of (aCons_of rfl rfl) (by
    show some (PyData.int ((qs.map PyData.int).length : Nat)) = _
    rw [List.length_map])
  have l2 : ∀ s4 s5 s6 s7, eCb fLen (aCons (eVar 2) aNil) (r (.val PT) (.val LL) (.val QQ) s4 s5 s6 s7) = some (.int (zs.length : Nat)) := fun _ _ _ _ => eCb_of (aCons_of rfl rfl) (by
    show some (PyData.int ((zs.map PyData.str).length : Nat)) = _
    rw [List.length_map])
  have c4 : bTest (eOp fEq (eCb fLen (aCons (eVar 3) aNil)) (eInt 0)) (r (.val PT) (.val LL) (.val QQ) .no .no .no .no) = some (decide (qs = [])) := (bTest_of (eOp_of (l3 _ _ _ _) rfl rfl)).trans (by
    congr 1
    rw [decide_eq_decide]
    rw [← List.length_eq_zero_iff]
    omega)
  have st1 : ∀ χ, xSeq (xIf (bNot (bTest (eUn (fIsi "str") (eVar 0)))) (xRaise1 "BadText" "line" eNon) (xP sNil)) χ (r .no .no .no .no .no .no .no) = χ (r .no .no .no .no .no .no .no) := fun χ => xSeq_nx ((xIf_f rfl).trans (xP_of rfl))
  by_cases q0 : qs = []
  · rw [if_pos q0]
    rw [decide_eq_true q0] at c4
    refine runX_excF (ρ := r (.val PT) (.val LL) (.val QQ) .no .no .no .no) rfl ((st1 _).trans ((xSeq_nx (xP_of (sSet_of e1))).trans ((xSeq_nx (xP_of (sSet_of e2))).trans ((xSeq_nx (xP_of (sSet_of (eCb_of (aCons_of rfl rfl) e3)))).trans (xSeq_ex ((xIf_t c4).trans (xRaise1_of rfl)))))))
  · rw [if_neg q0]
    rw [decide_eq_false q0] at c4
    obtain ⟨s5, s6, s4, k⟩ := rows_go (x0 := X) (x1 := PT) (zs := zs) (qs := qs) (s7 := .no) zz (by omega) (by omega) (zs.length - qs.length) qs.length [] .no .no (by omega) (by simp)
    have it : iR2 (eCb fLen (aCons (eVar 3) aNil)) (eCb fLen (aCons (eVar 2) aNil)) (r (.val PT) (.val LL) (.val QQ) (.own []) .no .no .no) = some ((List.range' qs.length (zs.length - qs.length)).map fun j => PyData.int (j : Nat)) := by
      rw [iR2_of (l3 _ _ _ _) (l2 _ _ _ _) (decide_eq_true ⟨by omega, by omega⟩) (decide_eq_true ⟨by omega, by omega⟩)]
      congr 1
      unfold rngD
      rw [show ((zs.length : Int) - (qs.length : Int)).toNat = zs.length - qs.length by omega, List.range'_eq_map_range, List.map_map]
      exact List.map_congr_left fun j _ => rfl
    have fr := xFor_of (ξ := bR) (τ := gN 5) it k
    have pre : ∀ χ, xSeq (xIf (bNot (bTest (eUn (fIsi "str") (eVar 0)))) (xRaise1 "BadText" "line" eNon) (xP sNil)) (xSeq (xP (sSet (gN 1) (eL (lSplit (eVar 0) (eStr "\n"))))) (xSeq (xP (sSet (gN 2) (eL (lSl (eVar 1) oNone (oSome (eUn fNeg (eInt 1))))))) (xSeq (xP (sSet (gN 3) (eCb q_leading_penalties (aCons (eVar 2) aNil)))) (xSeq (xIf (bTest (eOp fEq (eCb fLen (aCons (eVar 3) aNil)) (eInt 0))) (xRaise1 "BadText" "line" (eInt 0)) (xP sNil)) (xSeq (xP (sOwn 4 (lLst aNil))) χ))))) (r .no .no .no .no .no .no .no) = χ (r (.val PT) (.val LL) (.val QQ) (.own []) .no .no .no) := fun χ =>
      (st1 _).trans ((xSeq_nx (xP_of (sSet_of e1))).trans ((xSeq_nx (xP_of (sSet_of e2))).trans ((xSeq_nx (xP_of (sSet_of (eCb_of (aCons_of rfl rfl) e3)))).trans ((xSeq_nx ((xIf_f c4).trans (xP_of rfl))).trans (xSeq_nx (xP_of rfl))))))
    rw [← List.map_drop]
    have rn := rows_n qs.length ((zs.drop qs.length).map cut) qs.length 0
    show _ = some (outP (match rowsT qs.length qs.length 0 ((zs.drop qs.length).map cut) with
      | .inl i => .inl i
      | .inr ps => if decide (w = "") = true then .inr (qs, ps) else .inl (zs.map cut).length))
    have fr' : xFor (iR2 (eCb fLen (aCons (eVar 3) aNil)) (eCb fLen (aCons (eVar 2) aNil))) (gN 5) bR (r (.val PT) (.val LL) (.val QQ) (.own []) .no .no .no) = some (match rowsT qs.length qs.length 0 ((zs.drop qs.length).map cut) with
      | .inl j => .ex (.excF "BadText" "line" (.int (j : Nat))) (rP X PT LL QQ s4 s5 s6 .no)
      | .inr rs => .ok (.nx (rP X PT LL QQ (.own ((([] : List Row) ++ rs).map rowP)) s5 s6 .no))) := fr
    clear fr k
    cases x : rowsT qs.length qs.length 0 ((zs.drop qs.length).map cut) with
    | inl j =>
      rw [x] at fr'
      exact runX_excF rfl ((pre _).trans (xSeq_ex fr'))
    | inr ps =>
      rw [x] at fr'
      have ps10 := rn ps (by omega) x
      have c5 : bTest (eOp fNe (eOp fIxL (eVar 1) (eUn fNeg (eInt 1))) (eStr "")) (r (.val PT) (.val LL) (.val QQ) (.own (ps.map rowP)) s5 s6 .no) = some (!decide (w = "")) := bTest_of (eOp_of (x := .str w) (y := .str "") (eOp_of (x := PT) (y := .int (-1)) rfl rfl (atI_last (by
        rw [List.map_append, List.getLast?_append]
        rfl))) rfl (neS _ _))
      change xFor _ _ _ _ = some (Rx.ok (.nx (rP X PT LL QQ (.own (ps.map rowP)) s5 s6 .no))) at fr'
      by_cases hw : w = ""
      · rw [decide_eq_true hw] at c5
        simp only [decide_eq_true hw, if_true]
        let RR : PyData := .list (ps.map rowP)
        let ρ (s7 : Sl) : Rho := r (.val PT) (.val LL) (.val QQ) (.val RR) s5 s6 s7
        have rO : ∀ p : Row, (fun e : PyData => ((intsOf e).headD 0, (intsOf e).tail)) (rowP p) = p := fun p => by
          show ((intsOf (offD (p.1 :: p.2))).headD 0, (intsOf (offD (p.1 :: p.2))).tail) = p
          rw [intsOf_off]
          rfl
        have w1 : ∀ s7, lLc [6] (iL (eVar 4)) (gN 6) bYes (eSlT (eVar 6) (oSome (eInt 1)) oNone) (ρ s7) = some ((ps.map (·.2)).map offD) := fun s7 => by
          refine (Pf.lLc_at rowP (fun e => ((intsOf e).headD 0, (intsOf e).tail)) rO (l := ps) (fun _ => true) (fun p => offD p.2) rfl (by omega) fun p h => ⟨_, rfl, rfl, fun _ => ?_⟩).trans ?_
          · show some (PyData.tuple (cutG ((p.1 :: p.2).map PyData.int) (some 1) none)) = _
            exact congrArg (fun l => some (PyData.tuple l)) (cutG_drop (j := 1) (by simp))
          · rw [List.filter_eq_self.mpr (fun _ _ => rfl), List.map_map]
            rfl
        have w2 : ∀ s7, lLc [6] (iL (eVar 4)) (gN 6) bYes (eOp fIxT (eVar 6) (eInt 0)) (ρ s7) = some ((ps.map (·.1)).map PyData.int) := fun s7 => by
          refine (Pf.lLc_at rowP (fun e => ((intsOf e).headD 0, (intsOf e).tail)) rO (l := ps) (fun _ => true) (fun p => .int p.1) rfl (by omega) fun p h => ⟨_, rfl, rfl, fun _ => eOp_of (x := rowP p) (y := .int 0) rfl rfl (ixT_int (k := 0) rfl)⟩).trans ?_
          rw [List.filter_eq_self.mpr (fun _ _ => rfl), List.map_map]
          rfl
        let T : PyData := tabD (qs.length : Nat) (ps.map (·.2))
        have fz : sFrz 4 (sSet (gN 7) (eTup (aCons (eCb fLen (aCons (eVar 3) aNil)) (aCons (eCb fTupOf (aCons (eL (lLc [6] (iL (eVar 4)) (gN 6) bYes (eSlT (eVar 6) (oSome (eInt 1)) oNone))) aNil)) aNil)))) (r (.val PT) (.val LL) (.val QQ) (.own (ps.map rowP)) s5 s6 .no) = some (.nx (ρ (.val T))) := by
          show sSet _ _ (ρ .no) = _
          exact sSet_of (eTup2_of (l3 _ _ _ _) (eCb_of (aCons_of (eL_of (w1 _)) rfl) rfl))
        have fin : eTup (aCons (eVar 7) (aCons (eCb fTupOf (aCons (eL (lLc [6] (iL (eVar 4)) (gN 6) bYes (eOp fIxT (eVar 6) (eInt 0)))) aNil)) (aCons (eCb fTupOf (aCons (eVar 3) aNil)) aNil))) (ρ (.val T)) = some (.tuple [T, offD (ps.map (·.1)), offD qs]) := by
          show ((aCons _ _ _).bind lim).map PyData.tuple = _
          rw [aCons_of (x := T) rfl (aCons_of (x := offD (ps.map (·.1))) (eCb_of (aCons_of (eL_of (w2 _)) rfl) rfl) (aCons_of (x := offD qs) (eCb_of (aCons_of rfl rfl) rfl) rfl))]
          rfl
        exact runX_ret rfl ((pre _).trans ((xSeq_nx fr').trans ((xSeq_nx ((xIf_f c5).trans (xP_of rfl))).trans (xP_of ((sSeq_nx fz).trans (sRet_of fin))))))
      · rw [decide_eq_false hw] at c5
        simp only [decide_eq_false hw, Bool.false_eq_true, if_false, List.length_map]
        exact runX_excF rfl ((pre _).trans ((xSeq_nx fr').trans (xSeq_ex ((xIf_t c5).trans (xRaise1_of (l2 _ _ _ _))))))
end L67

set_option Elab.async false
set_option linter.all false
set_option maxRecDepth 100000
namespace L67
open PySem PySem.Spec PyProof.Rows L2 Pb Pt
abbrev prP (p : Row) : PyData := .tuple [.int p.1, offD p.2]
abbrev badD (i : Nat) : PyData := .tuple [.str "bad", .int (i : Nat)]
abbrev rQ (x0 x1 : PyData) (qs : List Int) (ps : List Row) (s4 s5 s6 s7 s8 : Sl) : Rho := [.val x0, .val x1, .own (qs.map PyData.int), .own (ps.map prP), s4, s5, s6, s7, s8]
abbrev bQ : Rho → Option Res := (sSeq (sSet (gN 5) (eL (lSplit (eOp fIxL (eVar 1) (eVar 4)) (eStr " "))))
  (sIf (bAnd (bTest (eOp fEq (eOp fIxL (eVar 5) (eInt 0)) (eStr "demand"))) (bAnd (bTest (eOp fEq0 (eL (lOwn 3)) (eL (lLst aNil)))) (bAnd (bTest (eOp fEq (eCb fLen (aCons (eVar 5) aNil)) (eInt 2))) (bTest (eOp fLt (eCb fLen (aCons (eL (lOwn 2)) aNil)) (eInt 10)))))) (sSeq (sApp 2 (eCb q__law_integer (aCons (eOp fIxL (eVar 5) (eInt 1)) aNil)))
  (sIf (bNot (bTest (eChain fLe fLe (eInt 0) (eOp fIxL (eL (lOwn 2)) (eUn fNeg (eInt 1))) (eOp fPow (eInt 10) (eInt 12))))) (sRet (eTup (aCons (eStr "bad") (aCons (eVar 4) aNil)))) sNil)) (sIf (bAnd (bTest (eOp fEq (eOp fIxL (eVar 5) (eInt 0)) (eStr "offer"))) (bAnd (bTest (eOp fNe0 (eL (lOwn 2)) (eL (lLst aNil)))) (bTest (eOp fLt (eCb fLen (aCons (eL (lOwn 3)) aNil)) (eInt 10))))) (sSeq (sApp 3 (eCb q__law_offer (aCons (eL (lSl (eVar 5) (oSome (eInt 1)) oNone)) (aCons (eCb fLen (aCons (eL (lOwn 2)) aNil)) aNil))))
  (sIf (bTest (eOp fEq0T (eOp fIxL (eL (lOwn 3)) (eUn fNeg (eInt 1))) (eTup aNil))) (sRet (eTup (aCons (eStr "bad") (aCons (eVar 4) aNil)))) sNil)) (sRet (eTup (aCons (eStr "bad") (aCons (eVar 4) aNil)))))))
/-- one line, the law's way -/
theorem read_step {x0 : PyData} {all : List Str} {z h : Str} {ws : List Str} {i : Nat} {qs : List Int} {ps : List Row} {s4 s5 s6 s7 s8 : Sl} (hz : z.length + 2 ≤ 100000) (hc : cut z = h :: ws) (hw : ws.length ≤ 900) (hi : all[i]? = some z) (hq : qs.length ≤ 10) (hp : ps.length ≤ 10) :
    (gN 4 (.int (i : Nat)) (rQ x0 (.list (all.map PyData.str)) qs ps s4 s5 s6 s7 s8)).bind bQ = some (
      if h = "demand" ∧ ps = [] ∧ (h :: ws).length = 2 ∧ qs.length < 10 then
        (if Am1 (lw ((h :: ws).getD 1 "")) = true then .nx (rQ x0 (.list (all.map PyData.str)) (qs ++ [lw ((h :: ws).getD 1 "")]) ps (.val (.int (i : Nat))) (.val (.list ((h :: ws).map PyData.str))) s6 s7 s8) else .rt (badD i))
      else if h = "offer" ∧ qs ≠ [] ∧ ps.length < 10 then
        (match rowT qs.length (h :: ws) with
          | none => .rt (badD i)
          | some p => .nx (rQ x0 (.list (all.map PyData.str)) qs (ps ++ [p]) (.val (.int (i : Nat))) (.val (.list ((h :: ws).map PyData.str))) s6 s7 s8))
      else .rt (badD i)) := by
  obtain ⟨pl, _, _⟩ := split_len (x := z) (y := " ") sp_tl (by decide +kernel)
  have pl' : ∀ p ∈ h :: ws, p.length ≤ 99998 := fun p hp => by
    have := pl p (by rw [show Txt.split z " " = h :: ws from hc]; exact hp)
    omega
  let A : PyData := .list (all.map PyData.str)
  let L : PyData := .list ((h :: ws).map PyData.str)
  let ρ : Rho := rQ x0 A qs ps (.val (.int (i : Nat))) (.val L) s6 s7 s8
  have e5 : eL (lSplit (eOp fIxL (eVar 1) (eVar 4)) (eStr " ")) (rQ x0 A qs ps (.val (.int (i : Nat))) s5 s6 s7 s8) = some L := by
    have := lSplit_of (φ := eOp fIxL (eVar 1) (eVar 4)) (ψ := eStr " ") (ρ := rQ x0 A qs ps (.val (.int (i : Nat))) s5 s6 s7 s8) (a := z) (b := " ") (eOp_of (x := A) (y := .int (i : Int)) rfl rfl (ixL_at (by rw [List.getElem?_map, hi]; rfl))) rfl (by decide +kernel) hz
    rw [show Txt.split z " " = h :: ws from hc] at this
    exact eL_of this
  have i0 : eOp fIxL (eVar 5) (eInt 0) ρ = some (.str h) := eOp_of (x := L) (y := .int 0) rfl rfl (ixL_at (k := 0) rfl)
  have lq : ∀ qs' : List Int, eCb fLen (aCons (eL (lOwn 2)) aNil) (rQ x0 A qs' ps (.val (.int (i : Nat))) (.val L) s6 s7 s8) = some (.int (qs'.length : Nat)) := fun qs' => eCb_of (aCons_of (eL_of rfl) rfl) (by
    show some (PyData.int ((qs'.map PyData.int).length : Nat)) = _
    rw [List.length_map])
  have lp : eCb fLen (aCons (eL (lOwn 3)) aNil) ρ = some (.int (ps.length : Nat)) := eCb_of (aCons_of (eL_of rfl) rfl) (by
    show some (PyData.int ((ps.map prP).length : Nat)) = _
    rw [List.length_map])
  have ll : eCb fLen (aCons (eVar 5) aNil) ρ = some (.int ((h :: ws).length : Nat)) := eCb_of (aCons_of rfl rfl) (by
    show some (PyData.int (((h :: ws).map PyData.str).length : Nat)) = _
    rw [List.length_map])
  have bad : sRet (eTup (aCons (eStr "bad") (aCons (eVar 4) aNil))) ρ = some (.rt (badD i)) := sRet_of (eTup2_of rfl rfl)
  have t1 : bTest (eOp fEq (eOp fIxL (eVar 5) (eInt 0)) (eStr "demand")) ρ = some (decide (h = "demand")) := bTest_of (eOp_of i0 rfl (eqS h "demand"))
  have t2 : bTest (eOp fEq0 (eL (lOwn 3)) (eL (lLst aNil))) ρ = some (ps.map prP).isEmpty := bTest_of (eOp_of (x := .list (ps.map prP)) (y := .list []) (eL_of rfl) rfl rfl)
  have t3 : bTest (eOp fEq (eCb fLen (aCons (eVar 5) aNil)) (eInt 2)) ρ = some (decide ((((h :: ws).length : Nat) : Int) = 2)) := bTest_of (eOp_of ll rfl rfl)
  have t4 : bTest (eOp fLt (eCb fLen (aCons (eL (lOwn 2)) aNil)) (eInt 10)) ρ = some (decide (((qs.length : Nat) : Int) < 10)) := bTest_of (eOp_of (lq qs) rfl rfl)
  have c1 := bAnd_of t1 (bAnd_of t2 (bAnd_of t3 t4))
  have E1 : (decide (h = "demand") && ((ps.map prP).isEmpty && (decide ((((h :: ws).length : Nat) : Int) = 2) && decide (((qs.length : Nat) : Int) < 10)))) = decide (h = "demand" ∧ ps = [] ∧ (h :: ws).length = 2 ∧ qs.length < 10) := by
    rw [Bool.eq_iff_iff]
    simp only [Bool.and_eq_true, decide_eq_true_eq, List.isEmpty_iff, List.map_eq_nil_iff]
    constructor
    · rintro ⟨a, b, c, d⟩
      exact ⟨a, b, by omega, by omega⟩
    · rintro ⟨a, b, c, d⟩
      exact ⟨a, b, by omega, by omega⟩
  rw [E1] at c1
  show sSeq _ _ (rQ x0 A qs ps (.val (.int (i : Nat))) s5 s6 s7 s8) = _
  refine (sSeq_nx (ρ' := ρ) (sSet_of e5)).trans ?_
  by_cases C1 : h = "demand" ∧ ps = [] ∧ (h :: ws).length = 2 ∧ qs.length < 10
  · rw [decide_eq_true C1] at c1
    rw [if_pos C1]
    obtain ⟨w1, rfl⟩ : ∃ w1, ws = [w1] := by
      match ws, C1.2.2.1 with
      | [w1], _ => exact ⟨w1, rfl⟩
    show _ = some (if Am1 (lw w1) = true then Res.nx (rQ x0 A (qs ++ [lw w1]) ps (.val (.int (i : Nat))) (.val L) s6 s7 s8) else .rt (badD i))
    refine (sIf_t c1).trans ?_
    let ρ2 : Rho := rQ x0 A (qs ++ [lw w1]) ps (.val (.int (i : Nat))) (.val L) s6 s7 s8
    have ap : sApp 2 (eCb q__law_integer (aCons (eOp fIxL (eVar 5) (eInt 1)) aNil)) ρ = some (.nx ρ2) := by
      refine (sApp_of (i := 2) (es := qs.map PyData.int) (e := .int (lw w1)) rfl (by rw [List.length_map]; omega) (eCb_of (aCons_of (eOp_of (x := L) (y := .int 1) rfl rfl (ixL_at (k := 1) rfl)) rfl) (q_lint (by have := pl' w1 (by simp); omega)))).trans ?_
      show some (Res.nx (rQ x0 A (qs ++ [lw w1]) ps (.val (.int (i : Nat))) (.val L) s6 s7 s8 |>.set 2 (.own (qs.map PyData.int ++ [.int (lw w1)])))) = some (Res.nx ρ2)
      rw [show qs.map PyData.int ++ [PyData.int (lw w1)] = (qs ++ [lw w1]).map PyData.int by rw [List.map_append]; rfl]
      rfl
    have cn : bNot (bTest (eChain fLe fLe (eInt 0) (eOp fIxL (eL (lOwn 2)) (eUn fNeg (eInt 1))) (eOp fPow (eInt 10) (eInt 12)))) ρ2 = some (!Am1 (lw w1)) := bNot_of (bTest_of (chain_le (φ := eInt 0) (χ := eOp fPow (eInt 10) (eInt 12)) rfl (eOp_of (x := .list ((qs ++ [lw w1]).map PyData.int)) (y := .int (-1)) (eL_of rfl) rfl ixL_last) rfl))
    refine (sSeq_nx ap).trans ?_
    cases x : Am1 (lw w1) with
    | true =>
      rw [x] at cn
      exact (sIf_f cn).trans rfl
    | false =>
      rw [x] at cn
      exact (sIf_t cn).trans (sRet_of (eTup2_of rfl rfl))
  · rw [decide_eq_false C1] at c1
    rw [if_neg C1]
    refine (sIf_f c1).trans ?_
    have u1 : bTest (eOp fEq (eOp fIxL (eVar 5) (eInt 0)) (eStr "offer")) ρ = some (decide (h = "offer")) := bTest_of (eOp_of i0 rfl (eqS h "offer"))
    have u2 : bTest (eOp fNe0 (eL (lOwn 2)) (eL (lLst aNil))) ρ = some (!(qs.map PyData.int).isEmpty) := bTest_of (eOp_of (x := .list (qs.map PyData.int)) (y := .list []) (eL_of rfl) rfl rfl)
    have u3 : bTest (eOp fLt (eCb fLen (aCons (eL (lOwn 3)) aNil)) (eInt 10)) ρ = some (decide (((ps.length : Nat) : Int) < 10)) := bTest_of (eOp_of lp rfl rfl)
    have c2 := bAnd_of u1 (bAnd_of u2 u3)
    have E2 : (decide (h = "offer") && (!(qs.map PyData.int).isEmpty && decide (((ps.length : Nat) : Int) < 10))) = decide (h = "offer" ∧ qs ≠ [] ∧ ps.length < 10) := by
      rw [Bool.eq_iff_iff]
      simp only [Bool.and_eq_true, decide_eq_true_eq, Bool.not_eq_true', List.isEmpty_eq_false_iff, ne_eq, List.map_eq_nil_iff]
      constructor
      · rintro ⟨a, b, c⟩
        exact ⟨a, b, by omega⟩
      · rintro ⟨a, b, c⟩
        exact ⟨a, b, by omega⟩
    rw [E2] at c2
    by_cases C2 : h = "offer" ∧ qs ≠ [] ∧ ps.length < 10
    · rw [decide_eq_true C2] at c2
      rw [if_pos C2]
      refine (sIf_t c2).trans ?_
      have sl : eL (lSl (eVar 5) (oSome (eInt 1)) oNone) ρ = some (.list (ws.map PyData.str)) := eL_of ((lSl_of (es := (h :: ws).map PyData.str) (l := some 1) (h := none) rfl rfl rfl).trans (congrArg some (cutG_drop (j := 1) (by simp))))
      have lo := q_loffer (m := qs.length) (ws := ws) (by omega) (by omega) fun w hw => by have := pl' w (List.mem_cons_of_mem _ hw); omega
      have rt : rowT qs.length (h :: ws) = rowN qs.length (numsT ws) := by
        show rowN qs.length (if h = "offer" then numsT ws else none) = _
        rw [if_pos C2.1]
      rw [rt]
      have ap : sApp 3 (eCb q__law_offer (aCons (eL (lSl (eVar 5) (oSome (eInt 1)) oNone)) (aCons (eCb fLen (aCons (eL (lOwn 2)) aNil)) aNil))) ρ = some (.nx ([.val x0, .val A, .own (qs.map PyData.int), .own (ps.map prP ++ [prD (rowN qs.length (numsT ws))]), .val (.int (i : Nat)), .val L, s6, s7, s8])) := sApp_of (i := 3) (es := ps.map prP) (e := prD (rowN qs.length (numsT ws))) rfl (by rw [List.length_map]; omega) (eCb_of (aCons_of sl (aCons_of (lq qs) rfl)) lo)
      refine (sSeq_nx ap).trans ?_
      have ge : eOp fIxL (eL (lOwn 3)) (eUn fNeg (eInt 1)) [.val x0, .val A, .own (qs.map PyData.int), .own (ps.map prP ++ [prD (rowN qs.length (numsT ws))]), .val (.int (i : Nat)), .val L, s6, s7, s8] = some (prD (rowN qs.length (numsT ws))) := eOp_of (x := .list (ps.map prP ++ [prD (rowN qs.length (numsT ws))])) (y := .int (-1)) (eL_of rfl) rfl (atI_last (by rw [List.getLast?_append]; rfl))
      cases x : rowN qs.length (numsT ws) with
      | none =>
        rw [x] at ge
        exact (sIf_t (bTest_of (eOp_of (y := .tuple []) ge rfl rfl))).trans (sRet_of (eTup2_of rfl rfl))
      | some p =>
        rw [x] at ge
        refine (sIf_f (bTest_of (eOp_of (y := .tuple []) ge rfl rfl))).trans ?_
        show some (Res.nx [.val x0, .val A, .own (qs.map PyData.int), .own (ps.map prP ++ [prP p]), .val (.int (i : Nat)), .val L, s6, s7, s8]) = some (Res.nx (rQ x0 A qs (ps ++ [p]) (.val (.int (i : Nat))) (.val L) s6 s7 s8))
        rw [show ps.map prP ++ [prP p] = (ps ++ [p]).map prP by rw [List.map_append]; rfl]
    · rw [decide_eq_false C2] at c2
      rw [if_neg C2]
      exact (sIf_f c2).trans bad
end L67

set_option Elab.async false
set_option linter.all false
set_option maxRecDepth 100000
namespace L67
open PySem PySem.Spec PyProof.Rows L2 Pb Pt
theorem forR_rt' {B : PyData → Rho → Option Res} {e : PyData} {es : List PyData} {ρ : Rho} {d : PyData} (h : B e ρ = some (.rt d)) : forR B (e :: es) ρ = some (.rt d) := by
  show (B e ρ).bind _ = _
  rw [h]
  rfl
/-- the loop: told early, or to the end -/
theorem read_go {x0 : PyData} {all zs : List Str} {N : Nat} {last : Bool} {s6 s7 s8 : Sl} (hz : ∀ z ∈ zs, z.length + 2 ≤ 100000) (hw : ∀ z ∈ zs, (cut z).length ≤ 900) (ha : ∀ (i : Nat) (z : Str), zs[i]? = some z → all[i]? = some z) : ∀ (k i : Nat) (qs : List Int) (ps : List Row) (s4 s5 : Sl), i + k = zs.length → qs.length ≤ 10 → ps.length ≤ 10 →
    (∃ j, forR (fun e ρ => (gN 4 e ρ).bind bQ) ((List.range' i k).map fun j => PyData.int (j : Nat)) (rQ x0 (.list (all.map PyData.str)) qs ps s4 s5 s6 s7 s8) = some (.rt (badD j)) ∧ lawT N last i qs ps ((zs.drop i).map cut) = .inl j) ∨
    (∃ qs' ps' s4' s5' i', forR (fun e ρ => (gN 4 e ρ).bind bQ) ((List.range' i k).map fun j => PyData.int (j : Nat)) (rQ x0 (.list (all.map PyData.str)) qs ps s4 s5 s6 s7 s8) = some (.nx (rQ x0 (.list (all.map PyData.str)) qs' ps' s4' s5' s6 s7 s8)) ∧ lawT N last i qs ps ((zs.drop i).map cut) = lawT N last i' qs' ps' [] ∧ qs'.length ≤ 10 ∧ ps'.length ≤ 10)
  | 0, i, qs, ps, s4, s5, e, hq, hp => by
    have : zs.drop i = [] := List.drop_eq_nil_of_le (by omega)
    rw [this]
    exact .inr ⟨qs, ps, s4, s5, i, rfl, rfl, hq, hp⟩
  | k + 1, i, qs, ps, s4, s5, e, hq, hp => by
    have il : i < zs.length := by omega
    have e1 : zs.drop i = zs[i] :: zs.drop (i + 1) := List.drop_eq_getElem_cons il
    have zm : zs[i] ∈ zs := List.getElem_mem il
    have at_ := ha i zs[i] (List.getElem?_eq_getElem il)
    have z1 := hz _ zm
    have z2 := hw _ zm
    rw [e1, List.map_cons, List.range'_succ, List.map_cons]
    generalize zs[i] = z at *
    obtain ⟨_, ne, _⟩ := split_len (x := z) (y := " ") sp_tl (by decide +kernel)
    obtain ⟨h, ws, hc⟩ : ∃ h ws, cut z = h :: ws := by
      cases c : cut z with
      | nil => exact absurd c ne
      | cons h ws => exact ⟨h, ws, rfl⟩
    rw [hc] at z2
    rw [List.length_cons] at z2
    have st := read_step (x0 := x0) (all := all) (i := i) (qs := qs) (ps := ps) (s4 := s4) (s5 := s5) (s6 := s6) (s7 := s7) (s8 := s8) z1 hc (by omega) at_ hq hp
    rw [hc]
    show (∃ j, forR _ (_ :: _) _ = _ ∧ (if h = "demand" ∧ ps = [] ∧ (h :: ws).length = 2 ∧ qs.length < 10 then
      (if Am1 (lw ((h :: ws).getD 1 "")) = true then lawT N last (i + 1) (qs ++ [lw ((h :: ws).getD 1 "")]) ps ((zs.drop (i + 1)).map cut) else .inl i)
    else if h = "offer" ∧ qs ≠ [] ∧ ps.length < 10 then
      (match rowT qs.length (h :: ws) with
        | none => .inl i
        | some p => lawT N last (i + 1) qs (ps ++ [p]) ((zs.drop (i + 1)).map cut))
    else .inl i) = _) ∨ (∃ qs' ps' s4' s5' i', forR _ (_ :: _) _ = _ ∧ (if h = "demand" ∧ ps = [] ∧ (h :: ws).length = 2 ∧ qs.length < 10 then
      (if Am1 (lw ((h :: ws).getD 1 "")) = true then lawT N last (i + 1) (qs ++ [lw ((h :: ws).getD 1 "")]) ps ((zs.drop (i + 1)).map cut) else .inl i)
    else if h = "offer" ∧ qs ≠ [] ∧ ps.length < 10 then
      (match rowT qs.length (h :: ws) with
        | none => .inl i
        | some p => lawT N last (i + 1) qs (ps ++ [p]) ((zs.drop (i + 1)).map cut))
    else .inl i) = _ ∧ _)
    by_cases C1 : h = "demand" ∧ ps = [] ∧ (h :: ws).length = 2 ∧ qs.length < 10
    · simp only [if_pos C1] at st ⊢
      by_cases x : Am1 (lw ((h :: ws).getD 1 "")) = true
      · simp only [if_pos x] at st ⊢
        have ih := read_go (x0 := x0) (all := all) (N := N) (last := last) (s6 := s6) (s7 := s7) (s8 := s8) hz hw ha k (i + 1) (qs ++ [lw ((h :: ws).getD 1 "")]) ps (.val (.int (i : Nat))) (.val (.list ((h :: ws).map PyData.str))) (by omega) (by rw [List.length_append]; simp; omega) hp
        rw [forR_nx st]
        exact ih
      · simp only [if_neg x] at st ⊢
        exact .inl ⟨i, forR_rt' st, rfl⟩
    · simp only [if_neg C1] at st ⊢
      by_cases C2 : h = "offer" ∧ qs ≠ [] ∧ ps.length < 10
      · simp only [if_pos C2] at st ⊢
        cases x : rowT qs.length (h :: ws) with
        | none =>
          rw [x] at st
          exact .inl ⟨i, forR_rt' st, rfl⟩
        | some p =>
          rw [x] at st
          have ih := read_go (x0 := x0) (all := all) (N := N) (last := last) (s6 := s6) (s7 := s7) (s8 := s8) hz hw ha k (i + 1) qs (ps ++ [p]) (.val (.int (i : Nat))) (.val (.list ((h :: ws).map PyData.str))) (by omega) hq (by rw [List.length_append]; simp; omega)
          rw [forR_nx st]
          exact ih
      · simp only [if_neg C2] at st ⊢
        exact .inl ⟨i, forR_rt' st, rfl⟩
def outL : Nat ⊕ (List Int × List Row) → PyData
  | .inl i => badD i
  | .inr (qs, ps) => .tuple [.str "told", .tuple [tabD (qs.length : Nat) (ps.map (·.2)), offD (ps.map (·.1)), offD qs]]
theorem q_read {v w : Str} {zs : List Str} (hv : v.length ≤ 98000) (hs : Txt.split v "\n" = zs ++ [w]) (hw : ∀ z ∈ zs, (cut z).length ≤ 900) : q__law_read_data [.str v] = some (outL (lawT zs.length (decide (w = "")) 0 [] [] (zs.map cut))) := by
  obtain ⟨pl, ne, nl⟩ := split_len (x := v) (y := "\n") nl_tl (by decide +kernel)
  rw [hs] at pl nl
  have zl : zs.length ≤ 98000 := by
    rw [List.length_append] at nl
    simp at nl
    omega
  have zz : ∀ z ∈ zs, z.length + 2 ≤ 100000 := fun z hz => by
    have := pl z (List.mem_append_left _ hz)
    omega
  let A : PyData := .list ((zs ++ [w]).map PyData.str)
  have e1 : eL (lSplit (eVar 0) (eStr "\n")) [.val (.str v), .no, .no, .no, .no, .no, .no, .no, .no] = some A := by
    have := lSplit_of (φ := eVar 0) (ψ := eStr "\n") (ρ := [.val (.str v), .no, .no, .no, .no, .no, .no, .no, .no]) (a := v) (b := "\n") rfl rfl (by decide +kernel) (by omega)
    rw [hs] at this
    exact eL_of this
  have l1 : ∀ qs ps s4 s5 s6 s7 s8, eCb fLen (aCons (eVar 1) aNil) (rQ (.str v) A qs ps s4 s5 s6 s7 s8) = some (.int ((zs.length + 1 : Nat) : Int)) := fun _ _ _ _ _ _ _ => eCb_of (aCons_of rfl rfl) (by
    show some (PyData.int (((zs ++ [w]).map PyData.str).length : Nat)) = _
    rw [List.length_map, List.length_append]
    rfl)
  have lm : ∀ qs ps s4 s5 s6 s7 s8, eOp fSub (eCb fLen (aCons (eVar 1) aNil)) (eInt 1) (rQ (.str v) A qs ps s4 s5 s6 s7 s8) = some (.int (zs.length : Nat)) := fun _ _ _ _ _ _ _ => eOp_of (l1 _ _ _ _ _ _ _) rfl (by
    show some (PyData.int (((zs.length + 1 : Nat) : Int) - 1)) = _
    congr 2
    omega)
  have it : iR (eOp fSub (eCb fLen (aCons (eVar 1) aNil)) (eInt 1)) (rQ (.str v) A [] [] .no .no .no .no .no) = some ((List.range' 0 zs.length).map fun j => PyData.int (j : Nat)) := by
    rw [iR_of (lm _ _ _ _ _ _ _) (by omega)]
    congr 1
    unfold rngD
    rw [show ((zs.length : Int) - 0).toNat = zs.length by omega, List.range_eq_range']
    exact List.map_congr_left fun j _ => by
      congr 1
      omega
  have go := read_go (x0 := .str v) (all := zs ++ [w]) (zs := zs) (N := zs.length) (last := decide (w = "")) (s6 := .no) (s7 := .no) (s8 := .no) zz hw (fun i z h => by
    rw [List.getElem?_append_left (List.getElem?_eq_some_iff.mp h).1]
    exact h) zs.length 0 [] [] .no .no (by omega) (by simp) (by simp)
  rw [List.drop_zero] at go
  rcases go with ⟨j, k, e⟩ | ⟨qs, ps, s4, s5, i', k, e, hq, hp⟩
  · rw [e]
    exact runF_of rfl ((sSeq_nx (sSet_of e1)).trans ((sSeq_nx (ρ' := rQ (.str v) A [] [] .no .no .no .no .no) rfl).trans (sSeq_rt (sFor_of it k))))
  · rw [e]
    have c : bOr (bTest (eOp fNe (eOp fIxL (eVar 1) (eUn fNeg (eInt 1))) (eStr ""))) (bTest (eOp fEq0 (eL (lOwn 2)) (eL (lLst aNil)))) (rQ (.str v) A qs ps s4 s5 .no .no .no) = some (!decide (decide (w = "") = true ∧ qs ≠ [])) := by
      have a1 : bTest (eOp fNe (eOp fIxL (eVar 1) (eUn fNeg (eInt 1))) (eStr "")) (rQ (.str v) A qs ps s4 s5 .no .no .no) = some (!decide (w = "")) := bTest_of (eOp_of (x := .str w) (y := .str "") (eOp_of (x := A) (y := .int (-1)) rfl rfl (atI_last (by
        rw [List.map_append, List.getLast?_append]
        rfl))) rfl (neS _ _))
      have a2 : bTest (eOp fEq0 (eL (lOwn 2)) (eL (lLst aNil))) (rQ (.str v) A qs ps s4 s5 .no .no .no) = some (qs.map PyData.int).isEmpty := bTest_of (eOp_of (x := .list (qs.map PyData.int)) (y := .list []) (eL_of rfl) rfl rfl)
      by_cases hw' : w = ""
      · rw [decide_eq_true hw'] at a1 ⊢
        refine (bOr_f a1).trans (a2.trans ?_)
        congr 1
        cases qs <;> simp
      · rw [decide_eq_false hw'] at a1 ⊢
        refine (bOr_t a1).trans ?_
        simp
    show _ = some (outL (if decide (w = "") = true ∧ qs ≠ [] then .inr (qs, ps) else .inl zs.length))
    have pre : ∀ χ, sSeq (sSet (gN 1) (eL (lSplit (eVar 0) (eStr "\n")))) (sSeq (sParOO 2 3 (lLst aNil) (lLst aNil)) (sSeq (sFor (iR (eOp fSub (eCb fLen (aCons (eVar 1) aNil)) (eInt 1))) (gN 4) bQ) χ)) [.val (.str v), .no, .no, .no, .no, .no, .no, .no, .no] = χ (rQ (.str v) A qs ps s4 s5 .no .no .no) := fun χ => (sSeq_nx (sSet_of e1)).trans ((sSeq_nx (ρ' := rQ (.str v) A [] [] .no .no .no .no .no) rfl).trans (sSeq_nx (sFor_of it k)))
    by_cases C : decide (w = "") = true ∧ qs ≠ []
    · rw [decide_eq_true C] at c
      rw [if_pos C]
      let OO : PyData := .list (ps.map prP)
      let ρ (s6 : Sl) : Rho := [.val (.str v), .val A, .own (qs.map PyData.int), .val OO, s4, s5, s6, .no, .no]
      have pO : ∀ p : Row, (fun e : PyData => match e with | .tuple [.int a, b] => (a, intsOf b) | _ => (0, [])) (prP p) = p := fun p => by
        show (p.1, intsOf (offD p.2)) = p
        rw [intsOf_off]
      have w1 : ∀ s6, lLc [7, 8] (iL (eVar 3)) (gT (gC (gN 7) (gC (gN 8) g0))) bYes (eVar 8) (ρ s6) = some ((ps.map (·.2)).map offD) := fun s6 => by
        refine (Pf.lLc_at prP (fun e => match e with | .tuple [.int a, b] => (a, intsOf b) | _ => (0, [])) pO (l := ps) (fun _ => true) (fun p => offD p.2) rfl (by omega) fun p h => ⟨_, rfl, rfl, fun _ => rfl⟩).trans ?_
        rw [List.filter_eq_self.mpr (fun _ _ => rfl), List.map_map]
        rfl
      have w2 : ∀ s6, lLc [7, 8] (iL (eVar 3)) (gT (gC (gN 7) (gC (gN 8) g0))) bYes (eVar 7) (ρ s6) = some ((ps.map (·.1)).map PyData.int) := fun s6 => by
        refine (Pf.lLc_at prP (fun e => match e with | .tuple [.int a, b] => (a, intsOf b) | _ => (0, [])) pO (l := ps) (fun _ => true) (fun p => .int p.1) rfl (by omega) fun p h => ⟨_, rfl, rfl, fun _ => rfl⟩).trans ?_
        rw [List.filter_eq_self.mpr (fun _ _ => rfl), List.map_map]
        rfl
      have lq : ∀ s6, eCb fLen (aCons (eL (lOwn 2)) aNil) (ρ s6) = some (.int (qs.length : Nat)) := fun _ => eCb_of (aCons_of (eL_of rfl) rfl) (by
        show some (PyData.int ((qs.map PyData.int).length : Nat)) = _
        rw [List.length_map])
      let T : PyData := tabD (qs.length : Nat) (ps.map (·.2))
      have fz : sFrz 3 (sSet (gN 6) (eTup (aCons (eCb fLen (aCons (eL (lOwn 2)) aNil)) (aCons (eCb fTupOf (aCons (eL (lLc [7, 8] (iL (eVar 3)) (gT (gC (gN 7) (gC (gN 8) g0))) bYes (eVar 8))) aNil)) aNil)))) (rQ (.str v) A qs ps s4 s5 .no .no .no) = some (.nx (ρ (.val T))) := by
        show sSet _ _ (ρ .no) = _
        exact sSet_of (eTup2_of (lq _) (eCb_of (aCons_of (eL_of (w1 _)) rfl) rfl))
      have t3 : eTup (aCons (eVar 6) (aCons (eCb fTupOf (aCons (eL (lLc [7, 8] (iL (eVar 3)) (gT (gC (gN 7) (gC (gN 8) g0))) bYes (eVar 7))) aNil)) (aCons (eCb fTupOf (aCons (eL (lOwn 2)) aNil)) aNil))) (ρ (.val T)) = some (.tuple [T, offD (ps.map (·.1)), offD qs]) := by
        show ((aCons _ _ _).bind lim).map PyData.tuple = _
        rw [aCons_of (x := T) rfl (aCons_of (x := offD (ps.map (·.1))) (eCb_of (aCons_of (eL_of (w2 _)) rfl) rfl) (aCons_of (x := offD qs) (eCb_of (aCons_of (eL_of rfl) rfl) rfl) rfl))]
        rfl
      exact runF_of rfl ((pre _).trans ((sSeq_nx ((sIf_f c).trans rfl)).trans ((sSeq_nx fz).trans (sRet_of (eTup2_of rfl t3)))))
    · rw [decide_eq_false C] at c
      rw [if_neg C]
      exact runF_of rfl ((pre _).trans (sSeq_rt ((sIf_t c).trans (sRet_of (eTup2_of rfl (lm _ _ _ _ _ _ _))))))
end L67

set_option Elab.async false
set_option linter.all false
set_option maxRecDepth 100000
namespace L67
open PySem PySem.Spec PyProof.Rows L2 Pb Pt
def ordT (ws : List Str) : Option (List Int) := if (decide (ws.length ≤ 10) && decide (sortI (ws.map lw) = upto ws.length)) = true then some (ws.map lw) else none
theorem numT_bd {w : Str} {n : Int} (h : numT w = some n) : 0 ≤ n ∧ n.natAbs < 10 ^ 80 := by
  refine ⟨numT_nn h, ?_⟩
  unfold numT at h
  split at h
  · rename_i b
    cases h
    unfold numB at b
    simp only [Bool.and_eq_true, decide_eq_true_eq] at b
    have l13 : w.cps.toList.length ≤ 13 := by
      rw [← len_cps]
      exact b.1.2
    have dg : ∀ c ∈ w.cps.toList, 48 ≤ c ∧ c ≤ 57 := fun c hc => by
      have := List.all_eq_true.mp (show dgs w = true from b.1.1.1) c hc
      simpa using this
    have key : ∀ (l : List Nat) (a : Nat), (∀ c ∈ l, 48 ≤ c ∧ c ≤ 57) → l.foldl (fun acc c => acc * 10 + (c - 48)) a < (a + 1) * 10 ^ l.length := by
      intro l
      induction l with
      | nil => intro a _; simp
      | cons c l ih =>
        intro a h
        have hc := h c List.mem_cons_self
        have := ih (a * 10 + (c - 48)) fun x hx => h x (List.mem_cons_of_mem _ hx)
        rw [List.foldl_cons, List.length_cons, Nat.pow_succ]
        refine Nat.lt_of_lt_of_le this ?_
        have e : (a + 1) * (10 ^ l.length * 10) = ((a + 1) * 10) * 10 ^ l.length := by
          rw [Nat.mul_comm (10 ^ l.length) 10, ← Nat.mul_assoc]
        rw [e]
        exact Nat.mul_le_mul_right _ (by omega)
    have h1 : NumText.digitsVal w.cps.toList < (0 + 1) * 10 ^ w.cps.toList.length := key _ 0 dg
    have h2 : 10 ^ w.cps.toList.length ≤ 10 ^ 13 := Nat.pow_le_pow_right (by omega) l13
    have : NumText.digitsVal w.cps.toList < 10 ^ 13 := by omega
    rw [Int.natAbs_natCast]
    exact Nat.lt_trans this (by decide)
  · cases h
theorem ok_opts {os : List (Option Int)} (hl : os.length ≤ 60) (h : ∀ o ∈ os, ∀ n, o = some n → n.natAbs < 10 ^ 80) : okD (.tuple (os.map noneI)) = true := by
  simp only [okD, Bool.and_eq_true, decide_eq_true_eq]
  refine ⟨by rw [List.length_map]; exact hl, okAll_iff.mpr fun e he => ?_⟩
  obtain ⟨o, ho, rfl⟩ := List.mem_map.mp he
  cases o with
  | none => rfl
  | some n =>
    show decide (n.natAbs < 10 ^ 80) = true
    exact decide_eq_true (h _ ho n rfl)
theorem ord_opts (ws : List Str) : ordB (.tuple ((ws.map numT).map noneI)) ws.length = decide (sortI (ws.map lw) = upto ws.length) := by
  rw [Bool.eq_iff_iff, decide_eq_true_iff, ord_true, ← ord_iff]
  constructor
  · rintro ⟨ns, e, o⟩
    have e1 : (ws.map numT).map noneI = ns.map PyData.int := by injection e
    have e2 : ws.map numT = ns.map some := by
      have inj : ∀ (os : List (Option Int)) (ns : List Int), os.map noneI = ns.map PyData.int → os = ns.map some := by
        intro os
        induction os with
        | nil =>
          intro ns h
          cases ns with
          | nil => rfl
          | cons n ns => cases h
        | cons o os ih =>
          intro ns h
          cases ns with
          | nil => cases h
          | cons n ns =>
            injection h with h1 h2
            rw [List.map_cons, ih ns h2]
            cases o with
            | none => cases h1
            | some m =>
              have : m = n := by
                have h1' : PyData.int m = PyData.int n := h1
                injection h1'
              rw [this]
      exact inj _ _ e1
    have e3 : ws.map lw = ns := by
      have : ws.map lw = (ws.map numT).map fun o => o.getD (-1) := by rw [List.map_map]; rfl
      rw [this, e2, List.map_map]
      exact List.map_id ns
    rw [e3]
    exact o
  · intro o
    refine ⟨ws.map lw, ?_, o⟩
    show PyData.tuple ((ws.map numT).map noneI) = .tuple ((ws.map lw).map PyData.int)
    rw [List.map_map, List.map_map]
    congr 1
    refine List.map_congr_left fun w hw => ?_
    have := (o.1 (lw w) (List.mem_map_of_mem hw)).1
    show noneI (numT w) = .int ((numT w).getD (-1))
    cases n : numT w with
    | some n => rfl
    | none =>
      have z : lw w = -1 := by show (numT w).getD (-1) = -1; rw [n]; rfl
      omega
theorem r_porder {v : Str} (hv : v.length ≤ 98000) : r_parse_order [.str v] = some (match ordT (Txt.split v ">") with
    | some ns => .ret (offD ns)
    | none => .excF "BadText" "line" (.int 0)) := by
  obtain ⟨pl, ne, nl⟩ := split_len (x := v) (y := ">") gt_tl (by decide +kernel)
  have s : lSplit (eVar 0) (eStr ">") [.val (.str v), .no, .no] = some ((Txt.split v ">").map PyData.str) := lSplit_of rfl rfl (by decide +kernel) (by omega)
  generalize Txt.split v ">" = ws at *
  let N : PyData := .tuple ((ws.map numT).map noneI)
  have e1 : lLc [2] (iL (eL (lSplit (eVar 0) (eStr ">")))) (gN 2) bYes (eCb q_parse_number (aCons (eVar 2) aNil)) [.val (.str v), .no, .no] = some ((ws.map numT).map noneI) := by
    refine (Pf.lLc_at PyData.str (fun e => match e with | .str z => z | _ => Str.empty) (fun _ => rfl) (l := ws) (fun _ => true) (fun p => noneI (numT p)) (by unfold iL; rw [eL_of s]; rfl) (by omega) fun p hp => ⟨_, rfl, rfl, fun _ => eCb_of (aCons_of rfl rfl) (q_pnum (by have := pl p hp; omega))⟩).trans ?_
    rw [List.filter_eq_self.mpr (fun _ _ => rfl), List.map_map]
    rfl
  let ρ : Rho := [.val (.str v), .val N, .no]
  have ln : eCb fLen (aCons (eVar 1) aNil) ρ = some (.int (ws.length : Nat)) := eCb_of (aCons_of rfl rfl) (by
    show some (PyData.int (((ws.map numT).map noneI).length : Nat)) = _
    rw [List.length_map, List.length_map])
  have t1 : bTest (eOp fGt (eCb fLen (aCons (eVar 1) aNil)) (eInt 10)) ρ = some (!decide (ws.length ≤ 10)) := (bTest_of (eOp_of ln rfl rfl)).trans (by
    congr 1
    rw [← decide_not, decide_eq_decide]
    omega)
  have pre : ∀ χ, xSeq (xIf (bNot (bTest (eUn (fIsi "str") (eVar 0)))) (xRaise1 "BadText" "line" eNon) (xP sNil)) (xSeq (xP (sSet (gN 1) (eCb fTupOf (aCons (eL (lLc [2] (iL (eL (lSplit (eVar 0) (eStr ">")))) (gN 2) bYes (eCb q_parse_number (aCons (eVar 2) aNil)))) aNil)))) χ) [.val (.str v), .no, .no] = χ ρ := fun χ => (xSeq_nx ((xIf_f rfl).trans (xP_of rfl))).trans (xSeq_nx (ρ' := ρ) (xP_of (sSet_of (eCb_of (aCons_of (eL_of e1) rfl) rfl))))
  unfold ordT
  by_cases h : ws.length ≤ 10
  · rw [decide_eq_true h] at t1
    have t2 : bNot (bTest (eCb Pb.q_is_order (aCons (eVar 1) (aCons (eCb fLen (aCons (eVar 1) aNil)) aNil)))) ρ = some (!decide (sortI (ws.map lw) = upto ws.length)) := by
      rw [← ord_opts]
      refine bNot_of (bTest_of (eCb_of (aCons_of rfl (aCons_of ln rfl)) (q_order ws.length (ok_opts (by rw [List.length_map]; omega) fun o ho n e => ?_))))
      obtain ⟨w, _, rfl⟩ := List.mem_map.mp ho
      exact (numT_bd e).2
    have c := (bOr_f (γ := bNot (bTest (eCb Pb.q_is_order (aCons (eVar 1) (aCons (eCb fLen (aCons (eVar 1) aNil)) aNil))))) t1).trans t2
    by_cases g : sortI (ws.map lw) = upto ws.length
    · rw [decide_eq_true g] at c
      rw [decide_eq_true h, decide_eq_true g]
      have eN : N = offD (ws.map lw) := by
        have := ord_opts ws
        rw [decide_eq_true g] at this
        obtain ⟨ns, e, o⟩ := ord_true.mp this
        have : ws.map lw = ns := by
          have k1 := ord_iff.mpr g
          have e1 : (ws.map numT).map noneI = ns.map PyData.int := by injection e
          have : ∀ w ∈ ws, noneI (numT w) = .int (lw w) := fun w hw => by
            have := (k1.1 (lw w) (List.mem_map_of_mem hw)).1
            show noneI (numT w) = .int ((numT w).getD (-1))
            cases n : numT w with
            | some n => rfl
            | none =>
              have z : lw w = -1 := by show (numT w).getD (-1) = -1; rw [n]; rfl
              omega
          have e2 : (ws.map lw).map PyData.int = ns.map PyData.int := by
            rw [← e1, List.map_map, List.map_map]
            exact (List.map_congr_left this).symm
          have : intsOf (offD (ws.map lw)) = intsOf (offD ns) := congrArg (fun l => intsOf (.tuple l)) e2
          rwa [intsOf_off, intsOf_off] at this
        rw [this]
        exact e
      refine runX_ret rfl ((pre _).trans ((xSeq_nx ((xIf_f c).trans (xP_of rfl))).trans (xP_of (sRet_of ?_))))
      show some N = some (offD (ws.map lw))
      rw [eN]
    · rw [decide_eq_false g] at c
      rw [decide_eq_true h, decide_eq_false g]
      exact runX_excF rfl ((pre _).trans (xSeq_ex ((xIf_t c).trans (xRaise1_of rfl))))
  · rw [decide_eq_false h] at t1
    rw [decide_eq_false h]
    exact runX_excF rfl ((pre _).trans (xSeq_ex ((xIf_t (bOr_t t1)).trans (xRaise1_of rfl))))
theorem q_due1 {v : Str} (hv : v.length ≤ 98000) : q__law_due [.int 1, .str v] = some (match ordT (Txt.split v ">") with
    | some ns => .tuple [.str "told", offD ns]
    | none => badD 0) := by
  obtain ⟨pl, ne, nl⟩ := split_len (x := v) (y := ">") gt_tl (by decide +kernel)
  have s : lSplit (eVar 1) (eStr ">") [.val (.int 1), .val (.str v), .no, .no] = some ((Txt.split v ">").map PyData.str) := lSplit_of rfl rfl (by decide +kernel) (by omega)
  generalize Txt.split v ">" = ws at *
  have e1 : lLc [3] (iL (eL (lSplit (eVar 1) (eStr ">")))) (gN 3) bYes (eCb q__law_integer (aCons (eVar 3) aNil)) [.val (.int 1), .val (.str v), .no, .no] = some ((ws.map lw).map PyData.int) := by
    refine (Pf.lLc_at PyData.str (fun e => match e with | .str z => z | _ => Str.empty) (fun _ => rfl) (l := ws) (fun _ => true) (fun p => .int (lw p)) (by unfold iL; rw [eL_of s]; rfl) (by omega) fun p hp => ⟨_, rfl, rfl, fun _ => eCb_of (aCons_of rfl rfl) (q_lint (by have := pl p hp; omega))⟩).trans ?_
    rw [List.filter_eq_self.mpr (fun _ _ => rfl), List.map_map]
    rfl
  let ρ : Rho := [.val (.int 1), .val (.str v), .val (offD (ws.map lw)), .no]
  have ln : eCb fLen (aCons (eVar 2) aNil) ρ = some (.int (ws.length : Nat)) := eCb_of (aCons_of rfl rfl) ((len_off (ws.map lw)).trans (by rw [List.length_map]))
  have t1 : bTest (eOp fGt (eCb fLen (aCons (eVar 2) aNil)) (eInt 10)) ρ = some (!decide (ws.length ≤ 10)) := (bTest_of (eOp_of ln rfl rfl)).trans (by
    congr 1
    rw [← decide_not, decide_eq_decide]
    omega)
  have pre : ∀ χ, sSeq (sIf (bNot (bTest (eUn (fIsi "str") (eVar 1)))) (sRet (eTup (aCons (eStr "bad") (aCons eNon aNil)))) sNil) (sSeq (sIf (bTest (eOp fEq (eVar 0) (eInt 0))) (sRet (eCb q__law_read_data (aCons (eVar 1) aNil))) sNil) (sSeq (sSet (gN 2) (eCb fTupOf (aCons (eL (lLc [3] (iL (eL (lSplit (eVar 1) (eStr ">")))) (gN 3) bYes (eCb q__law_integer (aCons (eVar 3) aNil)))) aNil))) χ)) [.val (.int 1), .val (.str v), .no, .no] = χ ρ := fun χ => (sSeq_nx ((sIf_f rfl).trans rfl)).trans ((sSeq_nx ((sIf_f rfl).trans rfl)).trans (sSeq_nx (ρ' := ρ) (sSet_of (eCb_of (aCons_of (eL_of e1) rfl) rfl))))
  have bad : sRet (eTup (aCons (eStr "bad") (aCons (eInt 0) aNil))) ρ = some (.rt (badD 0)) := sRet_of (eTup2_of rfl rfl)
  unfold ordT
  by_cases h : ws.length ≤ 10
  · rw [decide_eq_true h] at t1
    have t2 : bTest (eOp fNeD (eL (lCb fSortT (aCons (eVar 2) aNil))) (eL (lRg (eCb fLen (aCons (eVar 2) aNil))))) ρ = some (!decide (sortI (ws.map lw) = upto ws.length)) := by
      have a : lCb fSortT (aCons (eVar 2) aNil) ρ = some ((sortI (ws.map lw)).map PyData.int) := by
        show fSortT [offD (ws.map lw)] = _
        show ((intsD ((ws.map lw).map PyData.int)).map fun ns => (sortI ns).map PyData.int) = _
        rw [intsD_ints]
        rfl
      have b : lRg (eCb fLen (aCons (eVar 2) aNil)) ρ = some ((upto ws.length).map PyData.int) := by
        rw [lRg_of ln (by omega) (by omega), rng_ints]
      exact bTest_of (eOp_of (eL_of a) (eL_of b) (Pf.neD_lst _ _))
    have c := (bOr_f (γ := bTest (eOp fNeD (eL (lCb fSortT (aCons (eVar 2) aNil))) (eL (lRg (eCb fLen (aCons (eVar 2) aNil)))))) t1).trans t2
    by_cases g : sortI (ws.map lw) = upto ws.length
    · rw [decide_eq_true g] at c
      rw [decide_eq_true h, decide_eq_true g]
      exact runF_of rfl ((pre _).trans ((sSeq_nx ((sIf_f c).trans rfl)).trans (sRet_of (eTup2_of rfl rfl))))
    · rw [decide_eq_false g] at c
      rw [decide_eq_true h, decide_eq_false g]
      exact runF_of rfl ((pre _).trans (sSeq_rt ((sIf_t c).trans bad)))
  · rw [decide_eq_false h] at t1
    rw [decide_eq_false h]
    exact runF_of rfl ((pre _).trans (sSeq_rt ((sIf_t (bOr_t t1)).trans bad)))
end L67

set_option Elab.async false
set_option linter.all false
set_option maxRecDepth 100000
namespace L67
open PySem PySem.Spec PyProof.Rows L2 Pb
section
variable {P : Program} {w : World} {K : PySem.W.Frag} {mg : Str → Option Value} {base : Heap}
abbrev s__law_amount : Stmt := topS 40
theorem sc__law_amount : FnScope ["_law_deck_here"] ["_law_deck_here"] (defScope s__law_amount) := ⟨rfl, rfl, rfl, by decide +kernel, rfl, by decide +kernel, by decide +kernel⟩
set_option maxHeartbeats 4000000 in
theorem ok__law_amount {f : Addr} {fd : FuncData} (F : Fun K "_law_amount" "_law_amount" s__law_amount f fd) (B : Bx mg) (c__law_next : Cl P w K mg base 1 "_law_next" ["_law_deck_here", "_law_many"] (spW K WNextW)) :
    FnOk P w K mg base CX0 2 f fd ["_law_deck_here"] (spW K Pb.w__law_amount) := fn_draw F sc__law_amount fun cdv A outer s H E hr => by
  have nd := sc__law_amount.nd
  exact ⟨_, (pss_one (ps_ret (pe_ix (ixK (K := K) rIxL rfl ix_list) (pe_lst (pa_cons pe_int (pa_cons pe_int (pa_cons (pe_k c__law_next hr (by decide) rfl (pa_cons (pv 0) (pa_cons pe_int pa_nil))) (pa_cons (pe_k c__law_next hr (by decide) rfl (pa_cons (pv 0) (pa_cons pe_int pa_nil))) (pa_cons (pe_k c__law_next hr (by decide) rfl (pa_cons (pv 0) (pa_cons (pe_op op_add (pe_op op_pow pe_int pe_int) pe_int) pa_nil))) (pa_cons (pe_op op_pow pe_int pe_int) pa_nil))))))) (pe_k c__law_next hr (by decide) rfl (pa_cons (pv 0) (pa_cons pe_int pa_nil))) (fun _ _ => rfl)))), fun d =>
    (sw_ret (xw_op os_ixL (EvFW.s (xfw_lst (wa_cons (EvS.w (xs_int 0)) (wa_cons (EvS.w (xs_int 1)) (wa_cons (xw_draw (W := WNextW) (i := 0) (wa_cons (EvS.w (xs_int 4)) wa_nil)) (wa_cons (xw_draw (W := WNextW) (i := 0) (wa_cons (EvS.w (xs_int 12)) wa_nil)) (wa_cons (xw_draw (W := WNextW) (i := 0) (wa_cons (EvS.w (xs_op os_add (EvS.t (xs_op os_pow (EvS.t (xs_int 10)) (EvS.t (xs_int 12)))) (EvS.t (xs_int 1)))) wa_nil)) (wa_cons (EvS.w (xs_op os_pow (EvS.t (xs_int 10)) (EvS.t (xs_int 12)))) wa_nil)))))))) (xw_draw (W := WNextW) (i := 0) (wa_cons (EvS.w (xs_int 6)) wa_nil))))⟩
abbrev s__law_data : Stmt := topS 41
theorem sc__law_data : FnScope ["_law_deck_here", "_law_table_here", "_law_few", "_law_count", "_law_found", "_law_k"] ["_law_deck_here", "_law_table_here"] (defScope s__law_data) := ⟨rfl, rfl, rfl, by decide +kernel, rfl, by decide +kernel, by decide +kernel⟩
set_option maxHeartbeats 4000000 in
theorem ok__law_data {f : Addr} {fd : FuncData} (F : Fun K "_law_data" "_law_data" s__law_data f fd) (B : Bx mg) (c__law_next : Cl P w K mg base 1 "_law_next" ["_law_deck_here", "_law_many"] (spW K WNextW)) (c__law_amount : Cl P w K mg base 2 "_law_amount" ["_law_deck_here"] (spW K Pb.w__law_amount)) :
    FnOk P w K mg base CX0 3 f fd ["_law_deck_here", "_law_table_here"] (spW K Pb.w__law_data) := fn_draw F sc__law_data fun cdv A outer s H E hr => by
  have nd := sc__law_data.nd
  exact ⟨_, (pss_cons (ps_set (i := 2) nd rfl (Or.inr rfl) (pe_ix (ixK (K := K) rIxL rfl ix_list) (pe_lst (pa_cons pe_int (pa_cons pe_int (pa_cons pe_int pa_nil)))) (pe_k c__law_next hr (by decide) rfl (pa_cons (pv 0) (pa_cons pe_int pa_nil))) (fun _ _ => rfl)))
      (pss_cons (ps_set (i := 3) nd rfl (Or.inl rfl) (pe_op op_add (pe_ix (ixK (K := K) rIxT rfl ix_tup) (pv 1) pe_int (fun _ _ => rfl)) (pe_callB (crK (K := K) (fun K xs H Q => ∃ p ys, xs = [.ref p] ∧ (SqL K H p ys ∨ SqT K H p ys) ∧ Q (.int ys.length) H) rfl call_len_seq) rfl B.len bt_len (pa_cons (pe_ix (ixK (K := K) rIxT rfl ix_tup) (pv 1) pe_int (fun _ _ => rfl)) pa_nil))))
      (pss_cons (ps_setLc (i := 4) (own := [("_law_k", 5)]) rfl nd rfl rfl (sw_true rfl rfl rfl (by decide +kernel)) (pi_range1 rfl B.range (pa_cons (pv 3) pa_nil)) (blkOk_by (own := [("_law_k", 5)]) (N := ["_law_deck_here", "_law_table_here", "_law_few", "_law_count", "_law_found", "_law_k"]) (sc := defScope s__law_data) (by decide +kernel)) (fun _ _ _ _ _ => (pg_name (i := 5) nd rfl (Or.inl rfl))) (fun _ _ _ _ _ => pts_nil) (fun _ _ _ _ _ => (pe_k c__law_next hr (by decide) rfl (pa_cons (pv 0) (pa_cons (pe_op op_add (pv 2) pe_int) pa_nil)))))
      (pss_cons (ps_if (pt_cmpR op_eq (pv 2) pe_int (nomark _)) (pss_one (ps_setLc (i := 4) (own := [("_law_k", 5)]) rfl nd rfl rfl (sw_true rfl rfl rfl (by decide +kernel)) (pi_range1 rfl B.range (pa_cons (pv 3) pa_nil)) (blkOk_by (own := [("_law_k", 5)]) (N := ["_law_deck_here", "_law_table_here", "_law_few", "_law_count", "_law_found", "_law_k"]) (sc := defScope s__law_data) (by decide +kernel)) (fun _ _ _ _ _ => (pg_name (i := 5) nd rfl (Or.inl rfl))) (fun _ _ _ _ _ => pts_nil) (fun _ _ _ _ _ => (pe_k c__law_amount hr (by decide) rfl (pa_cons (pv 0) pa_nil))))) pss_nil)
      (pss_one (ps_ret (pe_tup (pa_cons (pe_callTy (crK (K := K) (fun K xs H Q => ∃ p ys, xs = [.ref p] ∧ ((SqL K H p ys ∧ ∀ l, H l = none → Q (.ref l) (upd H l (.tup ys))) ∨ (SqT K H p ys ∧ Q (.ref p) H))) rfl call_tuple_of) rfl B.tuple bt_tuple (pa_cons (pe_slice (slK (K := K) rSlL rfl sl_list) (pv 4) (po_some (pe_ix (ixK (K := K) rIxT rfl ix_tup) (pv 1) pe_int (fun _ _ => rfl))) po_none) pa_nil)) (pa_cons (pe_callTy (crK (K := K) (fun K xs H Q => ∃ p ys, xs = [.ref p] ∧ ((SqL K H p ys ∧ ∀ l, H l = none → Q (.ref l) (upd H l (.tup ys))) ∨ (SqT K H p ys ∧ Q (.ref p) H))) rfl call_tuple_of) rfl B.tuple bt_tuple (pa_cons (pe_slice (slK (K := K) rSlL rfl sl_list) (pv 4) po_none (po_some (pe_ix (ixK (K := K) rIxT rfl ix_tup) (pv 1) pe_int (fun _ _ => rfl)))) pa_nil)) pa_nil))))))))), fun d =>
    (sw_seq (sw_set (xw_op os_ixL (EvFW.s (EvF.w (xf_lst (xa_cons (xs_int 3) (xa_cons (xs_int 12) (xa_cons (xs_int 0) xa_nil)))))) (xw_draw (W := WNextW) (i := 0) (wa_cons (EvS.w (xs_int 3)) wa_nil))) (tg_name 2))
      (sw_seq (StP.w (cl := fun _ => 0) (E := E0) (ss_set (xs_op os_add (EvS.t (xs_op os_ixT (EvS.t (xs_var 1)) (EvS.t (xs_int 0)))) (EvS.t (xs_cb cs_len (xt_cons (EvS.t (xs_op os_ixT (EvS.t (xs_var 1)) (EvS.t (xs_int 1)))) xt_nil)))) (tg_name 3)))
      (sw_seq (sw_set (EvFW.s (xfw_lc (vs := [5]) (wi_rng (EvS.t (xs_var 3))) (tg_name 5) tt_yes (xw_draw (W := WNextW) (i := 0) (wa_cons (EvS.w (xs_op os_add (EvS.t (xs_var 2)) (EvS.t (xs_int 1)))) wa_nil)))) (tg_name 4))
      (sw_seq (sw_if (tt_test (EvS.t (xs_op os_eq (EvS.t (xs_var 2)) (EvS.t (xs_int 0))))) (sw_set (EvFW.s (xfw_lc (vs := [5]) (wi_rng (EvS.t (xs_var 3))) (tg_name 5) tt_yes (xw_draw (W := Pb.w__law_amount) (i := 0) wa_nil))) (tg_name 4)) (StP.w (cl := fun _ => 0) (E := E0) ss_nil))
      (StP.w (cl := fun _ => 0) (E := E0) (ss_ret (xs_tup (xa_cons (xs_cb cs_tupOf (xt_cons (EvS.t (EvF.s (xf_sl (EvS.t (xs_var 4)) (xo_some (EvS.t (xs_op os_ixT (EvS.t (xs_var 1)) (EvS.t (xs_int 0))))) xo_none))) xt_nil)) (xa_cons (xs_cb cs_tupOf (xt_cons (EvS.t (EvF.s (xf_sl (EvS.t (xs_var 4)) xo_none (xo_some (EvS.t (xs_op os_ixT (EvS.t (xs_var 1)) (EvS.t (xs_int 0)))))))) xt_nil)) xa_nil)))))))))⟩
def w__law_one : Addr → List PyData → Int → (PyData → Int → Prop) → Prop := runW 2 2 fun d =>
  (twRet (wOp fIxL (wP (eVar 1)) (wDraw d 0 WNextW (wCons (wP (eCb fLen (aCons (eVar 1) aNil))) wNil))))
abbrev s__law_one : Stmt := topS 31
theorem sc__law_one : FnScope ["_law_deck_here", "_law_some"] ["_law_deck_here", "_law_some"] (defScope s__law_one) := ⟨rfl, rfl, rfl, by decide +kernel, rfl, by decide +kernel, by decide +kernel⟩
set_option maxHeartbeats 4000000 in
theorem ok__law_one {f : Addr} {fd : FuncData} (F : Fun K "_law_one" "_law_one" s__law_one f fd) (B : Bx mg) (c__law_next : Cl P w K mg base 1 "_law_next" ["_law_deck_here", "_law_many"] (spW K WNextW)) :
    FnOk P w K mg base CX0 2 f fd ["_law_deck_here", "_law_some"] (spW K w__law_one) := fn_draw F sc__law_one fun cdv A outer s H E hr => by
  have nd := sc__law_one.nd
  exact ⟨_, (pss_one (ps_ret (pe_ix (ixK (K := K) rIxL rfl ix_list) (pv 1) (pe_k c__law_next hr (by decide) rfl (pa_cons (pv 0) (pa_cons (pe_callB (crK (K := K) (fun K xs H Q => ∃ p ys, xs = [.ref p] ∧ (SqL K H p ys ∨ SqT K H p ys) ∧ Q (.int ys.length) H) rfl call_len_seq) rfl B.len bt_len (pa_cons (pv 1) pa_nil)) pa_nil))) (fun _ _ => rfl)))), fun d =>
    (sw_ret (xw_op os_ixL (EvS.w (xs_var 1)) (xw_draw (W := WNextW) (i := 0) (wa_cons (EvS.w (xs_cb cs_len (xt_cons (EvS.t (xs_var 1)) xt_nil))) wa_nil))))⟩
def w__law_changed_text : Addr → List PyData → Int → (PyData → Int → Prop) → Prop := runW 10 2 fun d =>
  (twSeq (twPar 2 3 (wCons (wDraw d 0 WNextW (wCons (wP (eOp fAdd (eCb fLenS (aCons (eVar 1) aNil)) (eInt 1))) wNil)) (wCons (wDraw d 0 WNextW (wCons (wP (eInt 10)) wNil)) wNil)))
  (twSeq (twSet (gN 4) (wOp fIxS (wP (eStr " \n0123456789>-odf")) (wDraw d 0 WNextW (wCons (wP (eInt 17)) wNil))))
  (twSeq (twP (sIf (bTest (eOp fLt (eVar 3) (eInt 3))) (sRet (eOp fAddS (eOp fAddS (eSlX (eVar 1) oNone (oSome (eVar 2))) (eOp fIxL (eL (lLst (aCons (eVar 4) (aCons (eStr "") (aCons (eVar 4) aNil))))) (eVar 3))) (eSlX (eVar 1) (oSome (eOp fAdd (eVar 2) (eCb fInt1 (aCons (eOp fGt (eVar 3) (eInt 0)) aNil)))) oNone))) sNil))
  (twSeq (twP (sOwn 5 (lSplit (eVar 1) (eStr "\n"))))
  (twSeq (twSet (gN 6) (wDraw d 0 WNextW (wCons (wP (eCb fLen (aCons (eL (lOwn 5)) aNil))) wNil)))
  (twSeq (twIf (bTest (eOp fLt (eVar 3) (eInt 6))) (twSeq (twP (sOwn 7 (lSplit (eOp fIxL (eL (lOwn 5)) (eVar 6)) (eStr " "))))
  (twSeq (twP (sSet (gN 8) (eL (lLst (aCons (eStr "0") (aCons (eStr "1") (aCons (eStr "00") (aCons (eStr "07") (aCons (eStr "9") (aCons (eStr "-1") (aCons (eStr "") (aCons (eStr "10") (aCons (eStr "demand") (aCons (eStr "offer") (aCons (eOp fMulS (eStr "1") (eInt 14)) (aCons (eOp fMulS (eStr "1") (eInt 13)) (aCons (eOp fMulS (eStr "9") (eInt 13)) (aCons (eStr "x") aNil))))))))))))))))))
  (twSeq (twPutW 7 (wDraw d 0 WNextW (wCons (wP (eCb fLen (aCons (eL (lOwn 7)) aNil))) wNil)) (wDraw d 0 w__law_one (wCons (wP (eVar 8)) wNil)))
  (twP (sPut 5 (eVar 6) (eOp fJoin (eStr " ") (eL (lOwn 7)))))))) (twIf (bTest (eOp fEq (eVar 3) (eInt 6))) (twOwn 5 (wfCat (wfCat (wfP (lSl (eL (lOwn 5)) oNone (oSome (eVar 6)))) (wfRep (wfP (lLst (aCons (eOp fIxL (eL (lOwn 5)) (eVar 6)) aNil))) (wOp fAdd (wP (eInt 1)) (wDraw d 0 WNextW (wCons (wP (eInt 11)) wNil))))) (wfP (lSl (eL (lOwn 5)) (oSome (eVar 6)) oNone)))) (twP (sIf (bTest (eOp fEq (eVar 3) (eInt 7))) (sOwn 5 (lCat (lCat (lSl (eL (lOwn 5)) oNone (oSome (eVar 6))) (lRev (eL (lSl (eL (lOwn 5)) (oSome (eVar 6)) (oSome (eOp fAdd (eVar 6) (eInt 2))))))) (lSl (eL (lOwn 5)) (oSome (eOp fAdd (eVar 6) (eInt 2))) oNone))) (sSeq (sSet (gN 9) (eL (lLst (aCons (eL (lCat (lSl (eL (lOwn 5)) oNone (oSome (eVar 6))) (lSl (eL (lOwn 5)) (oSome (eOp fAdd (eVar 6) (eInt 1))) oNone))) (aCons (eL (lCat (lSl (eL (lOwn 5)) oNone (oSome (eOp fAdd (eVar 6) (eInt 1)))) (lSl (eL (lOwn 5)) (oSome (eVar 6)) oNone))) aNil)))))
  (sSet (gN 5) (eOp fIxL (eVar 9) (eOp fSub (eVar 3) (eInt 8)))))))))
  (twFrzQ 5 (twP (sRet (eOp fJoin (eStr "\n") (eVar 5)))))))))))
abbrev s__law_changed_text : Stmt := topS 48
theorem sc__law_changed_text : FnScope ["_law_deck_here", "_law_text_here", "_law_spot", "_law_way", "_law_sign", "_law_lines", "_law_k", "_law_words", "_law_odd_here", "_law_some"] ["_law_deck_here", "_law_text_here"] (defScope s__law_changed_text) := ⟨rfl, rfl, rfl, by decide +kernel, rfl, by decide +kernel, by decide +kernel⟩
set_option maxHeartbeats 4000000 in
theorem ok__law_changed_text {f : Addr} {fd : FuncData} (F : Fun K "_law_changed_text" "_law_changed_text" s__law_changed_text f fd) (B : Bx mg) (c__law_next : Cl P w K mg base 1 "_law_next" ["_law_deck_here", "_law_many"] (spW K WNextW)) (c__law_one : Cl P w K mg base 2 "_law_one" ["_law_deck_here", "_law_some"] (spW K w__law_one)) :
    FnOk P w K mg base CX0 3 f fd ["_law_deck_here", "_law_text_here"] (spW K w__law_changed_text) := fn_draw F sc__law_changed_text fun cdv A outer s H E hr => by
  have nd := sc__law_changed_text.nd
  exact ⟨_, (pss_cons (ps_par (i := 2) (j := 3) rfl nd rfl rfl (by decide) rfl rfl (pa_cons (pe_k c__law_next hr (by decide) rfl (pa_cons (pv 0) (pa_cons (pe_op op_add (pe_callB call_len_str rfl B.len bt_len (pa_cons (pv 1) pa_nil)) pe_int) pa_nil))) (pa_cons (pe_k c__law_next hr (by decide) rfl (pa_cons (pv 0) (pa_cons pe_int pa_nil))) pa_nil)) (by rfl))
      (pss_cons (ps_set (i := 4) nd rfl (Or.inl rfl) (pe_ix ix_str pe_str (pe_k c__law_next hr (by decide) rfl (pa_cons (pv 0) (pa_cons pe_int pa_nil))) (fun _ _ => rfl)))
      (pss_cons (ps_if (pt_cmpR op_lt (pv 3) pe_int (nomark _)) (pss_one (ps_ret (pe_op op_addS (pe_op op_addS (pe_slice sl_str (pv 1) po_none (po_some (pv 2))) (pe_ix (ixK (K := K) rIxL rfl ix_list) (pe_lst (pa_cons (pv 4) (pa_cons pe_str (pa_cons (pv 4) pa_nil)))) (pv 3) (fun _ _ => rfl))) (pe_slice sl_str (pv 1) (po_some (pe_op op_add (pv 2) (pe_callTy call_int1 rfl B.int bt_int (pa_cons (pe_cmpR op_gt (pv 3) pe_int (nomark _)) pa_nil)))) po_none)))) pss_nil)
      (pss_cons (ps_set (i := 5) nd rfl (Or.inl rfl) (pe_bm PySem.F.plainAttrs_str PySem.F.slot_str_split PySem.F.type_str_split mt_split (pv 1) (pa_cons pe_str pa_nil)))
      (pss_cons (ps_set (i := 6) nd rfl (Or.inl rfl) (pe_k c__law_next hr (by decide) rfl (pa_cons (pv 0) (pa_cons (pe_callB (crK (K := K) (fun K xs H Q => ∃ p ys, xs = [.ref p] ∧ (SqL K H p ys ∨ SqT K H p ys) ∧ Q (.int ys.length) H) rfl call_len_seq) rfl B.len bt_len (pa_cons (pv 5) pa_nil)) pa_nil))))
      (pss_cons (ps_if (pt_cmpR op_lt (pv 3) pe_int (nomark _)) (pss_cons (ps_set (i := 7) nd rfl (Or.inl rfl) (pe_bm PySem.F.plainAttrs_str PySem.F.slot_str_split PySem.F.type_str_split mt_split (pe_ix (ixK (K := K) rIxL rfl ix_list) (pv 5) (pv 6) (fun _ _ => rfl)) (pa_cons pe_str pa_nil)))
      (pss_cons (ps_set (i := 8) nd rfl (Or.inl rfl) (pe_lst (pa_cons pe_str (pa_cons pe_str (pa_cons pe_str (pa_cons pe_str (pa_cons pe_str (pa_cons pe_str (pa_cons pe_str (pa_cons pe_str (pa_cons pe_str (pa_cons pe_str (pa_cons (pe_op op_mulS pe_str pe_int) (pa_cons (pe_op op_mulS pe_str pe_int) (pa_cons (pe_op op_mulS pe_str pe_int) (pa_cons pe_str pa_nil))))))))))))))))
      (pss_cons (ps_asg (pe_k c__law_one hr (by decide) rfl (pa_cons (pv 0) (pa_cons (pv 8) pa_nil))) (pg_sub (pv 7) (pe_k c__law_next hr (by decide) rfl (pa_cons (pv 0) (pa_cons (pe_callB (crK (K := K) (fun K xs H Q => ∃ p ys, xs = [.ref p] ∧ (SqL K H p ys ∨ SqT K H p ys) ∧ Q (.int ys.length) H) rfl call_len_seq) rfl B.len bt_len (pa_cons (pv 7) pa_nil)) pa_nil))) set_list))
      (pss_one (ps_asg (pe_bm PySem.F.plainAttrs_str PySem.F.slot_str_join PySem.F.type_str_join (mt_joinK (K := K) rfl) pe_str (pa_cons (pv 7) pa_nil)) (pg_sub (pv 5) (pv 6) set_list)))))) (pss_one (ps_if (pt_cmpR op_eq (pv 3) pe_int (nomark _)) (pss_one (ps_set (i := 5) nd rfl (Or.inl rfl) (pe_op op_cat (pe_op op_cat (pe_slice (slK (K := K) rSlL rfl sl_list) (pv 5) po_none (po_some (pv 6))) (pe_op op_rep (pe_lst (pa_cons (pe_ix (ixK (K := K) rIxL rfl ix_list) (pv 5) (pv 6) (fun _ _ => rfl)) pa_nil)) (pe_op op_add pe_int (pe_k c__law_next hr (by decide) rfl (pa_cons (pv 0) (pa_cons pe_int pa_nil)))))) (pe_slice (slK (K := K) rSlL rfl sl_list) (pv 5) (po_some (pv 6)) po_none)))) (pss_one (ps_if (pt_cmpR op_eq (pv 3) pe_int (nomark _)) (pss_one (ps_set (i := 5) nd rfl (Or.inl rfl) (pe_op op_cat (pe_op op_cat (pe_slice (slK (K := K) rSlL rfl sl_list) (pv 5) po_none (po_some (pv 6))) (peK (K := K) (fun K => tRevL K _) rfl (pe_revL (pe_slice (slK (K := K) rSlL rfl sl_list) (pv 5) (po_some (pv 6)) (po_some (pe_op op_add (pv 6) pe_int)))))) (pe_slice (slK (K := K) rSlL rfl sl_list) (pv 5) (po_some (pe_op op_add (pv 6) pe_int)) po_none)))) (pss_cons (ps_set (i := 9) nd rfl (Or.inl rfl) (pe_lst (pa_cons (pe_op op_cat (pe_slice (slK (K := K) rSlL rfl sl_list) (pv 5) po_none (po_some (pv 6))) (pe_slice (slK (K := K) rSlL rfl sl_list) (pv 5) (po_some (pe_op op_add (pv 6) pe_int)) po_none)) (pa_cons (pe_op op_cat (pe_slice (slK (K := K) rSlL rfl sl_list) (pv 5) po_none (po_some (pe_op op_add (pv 6) pe_int))) (pe_slice (slK (K := K) rSlL rfl sl_list) (pv 5) (po_some (pv 6)) po_none)) pa_nil))))
      (pss_one (ps_set (i := 5) nd rfl (Or.inl rfl) (pe_ix (ixK (K := K) rIxL rfl ix_list) (pv 9) (pe_op op_sub (pv 3) pe_int) (fun _ _ => rfl))))))))))
      (pss_one (ps_ret (pe_bm PySem.F.plainAttrs_str PySem.F.slot_str_join PySem.F.type_str_join (mt_joinK (K := K) rfl) pe_str (pa_cons (pv 5) pa_nil)))))))))), fun d =>
    (sw_seq (sw_par (i := 2) (j := 3) (wa_cons (xw_draw (W := WNextW) (i := 0) (wa_cons (EvS.w (xs_op os_add (EvS.t (xs_cb cs_lenS (xt_cons (EvS.t (xs_var 1)) xt_nil))) (EvS.t (xs_int 1)))) wa_nil)) (wa_cons (xw_draw (W := WNextW) (i := 0) (wa_cons (EvS.w (xs_int 10)) wa_nil)) wa_nil)))
      (sw_seq (sw_set (xw_op os_ixS (EvS.w (xs_str " \n0123456789>-odf")) (xw_draw (W := WNextW) (i := 0) (wa_cons (EvS.w (xs_int 17)) wa_nil))) (tg_name 4))
      (sw_seq (StP.w (cl := fun _ => 0) (E := E0) (ss_if (tt_test (EvS.t (xs_op os_lt (EvS.t (xs_var 3)) (EvS.t (xs_int 3))))) (ss_ret (xs_op os_addS (EvS.t (xs_op os_addS (EvS.t (xs_slX (EvS.t (xs_var 1)) xo_none (xo_some (EvS.t (xs_var 2))))) (EvS.t (xs_op os_ixL (EvS.t (EvF.s (xf_lst (xa_cons (xs_var 4) (xa_cons (xs_str "") (xa_cons (xs_var 4) xa_nil)))))) (EvS.t (xs_var 3)))))) (EvS.t (xs_slX (EvS.t (xs_var 1)) (xo_some (EvS.t (xs_op os_add (EvS.t (xs_var 2)) (EvS.t (xs_cb cs_int1 (xt_cons (EvS.t (xs_op os_gt (EvS.t (xs_var 3)) (EvS.t (xs_int 0)))) xt_nil)))))) xo_none)))) ss_nil))
      (sw_seq (StP.w (cl := fun _ => 0) (E := E0) (ss_own (i := 5) (xf_split (xs_var 1) (xs_str "\n"))))
      (sw_seq (sw_set (xw_draw (W := WNextW) (i := 0) (wa_cons (EvS.w (xs_cb cs_len (xt_cons (EvLi.t (xl_own 5)) xt_nil))) wa_nil)) (tg_name 6))
      (sw_seq (sw_if (tt_test (EvS.t (xs_op os_lt (EvS.t (xs_var 3)) (EvS.t (xs_int 6))))) (sw_seq (StP.w (cl := fun _ => 0) (E := E0) (ss_own (i := 7) (xf_split (xs_op os_ixL (EvLi.t (xl_own 5)) (EvS.t (xs_var 6))) (xs_str " "))))
      (sw_seq (StP.w (cl := fun _ => 0) (E := E0) (ss_set (EvF.s (xf_lst (xa_cons (xs_str "0") (xa_cons (xs_str "1") (xa_cons (xs_str "00") (xa_cons (xs_str "07") (xa_cons (xs_str "9") (xa_cons (xs_str "-1") (xa_cons (xs_str "") (xa_cons (xs_str "10") (xa_cons (xs_str "demand") (xa_cons (xs_str "offer") (xa_cons (xs_op os_mulS (EvS.t (xs_str "1")) (EvS.t (xs_int 14))) (xa_cons (xs_op os_mulS (EvS.t (xs_str "1")) (EvS.t (xs_int 13))) (xa_cons (xs_op os_mulS (EvS.t (xs_str "9")) (EvS.t (xs_int 13))) (xa_cons (xs_str "x") xa_nil)))))))))))))))) (tg_name 8)))
      (sw_seq (sw_putW (i := 7) (xw_draw (W := w__law_one) (i := 0) (wa_cons (EvS.w (xs_var 8)) wa_nil)) (xw_draw (W := WNextW) (i := 0) (wa_cons (EvS.w (xs_cb cs_len (xt_cons (EvLi.t (xl_own 7)) xt_nil))) wa_nil)))
      (StP.w (cl := fun _ => 0) (E := E0) (ss_put (i := 5) (xs_join (xs_str " ") (EvLi.t (xl_own 7))) (EvS.t (xs_var 6))))))) (sw_if (tt_test (EvS.t (xs_op os_eq (EvS.t (xs_var 3)) (EvS.t (xs_int 6))))) (sw_own (i := 5) (xfw_cat (EvFW.l (xfw_cat (EvFW.l (EvF.w (xf_sl (EvLi.t (xl_own 5)) xo_none (xo_some (EvS.t (xs_var 6)))))) (EvFW.l (xfw_rep (EvFW.l (EvF.w (xf_lst (xa_cons (xs_op os_ixL (EvLi.t (xl_own 5)) (EvS.t (xs_var 6))) xa_nil)))) (xw_op os_add (EvS.w (xs_int 1)) (xw_draw (W := WNextW) (i := 0) (wa_cons (EvS.w (xs_int 11)) wa_nil))))))) (EvFW.l (EvF.w (xf_sl (EvLi.t (xl_own 5)) (xo_some (EvS.t (xs_var 6))) xo_none))))) (StP.w (cl := fun _ => 0) (E := E0) (ss_if (tt_test (EvS.t (xs_op os_eq (EvS.t (xs_var 3)) (EvS.t (xs_int 7))))) (ss_own (i := 5) (xf_cat (EvF.l (xf_cat (EvF.l (xf_sl (EvLi.t (xl_own 5)) xo_none (xo_some (EvS.t (xs_var 6))))) (EvF.l (xf_rev (EvS.t (EvF.s (xf_sl (EvLi.t (xl_own 5)) (xo_some (EvS.t (xs_var 6))) (xo_some (EvS.t (xs_op os_add (EvS.t (xs_var 6)) (EvS.t (xs_int 2)))))))))))) (EvF.l (xf_sl (EvLi.t (xl_own 5)) (xo_some (EvS.t (xs_op os_add (EvS.t (xs_var 6)) (EvS.t (xs_int 2))))) xo_none)))) (ss_seq (ss_set (EvF.s (xf_lst (xa_cons (EvF.s (xf_cat (EvF.l (xf_sl (EvLi.t (xl_own 5)) xo_none (xo_some (EvS.t (xs_var 6))))) (EvF.l (xf_sl (EvLi.t (xl_own 5)) (xo_some (EvS.t (xs_op os_add (EvS.t (xs_var 6)) (EvS.t (xs_int 1))))) xo_none)))) (xa_cons (EvF.s (xf_cat (EvF.l (xf_sl (EvLi.t (xl_own 5)) xo_none (xo_some (EvS.t (xs_op os_add (EvS.t (xs_var 6)) (EvS.t (xs_int 1))))))) (EvF.l (xf_sl (EvLi.t (xl_own 5)) (xo_some (EvS.t (xs_var 6))) xo_none)))) xa_nil)))) (tg_name 9))
      (ss_set (xs_op os_ixL (EvS.t (xs_var 9)) (EvS.t (xs_op os_sub (EvS.t (xs_var 3)) (EvS.t (xs_int 8))))) (tg_name 5)))))))
      (sw_frzQ (i := 5) (StP.w (cl := fun _ => 0) (E := E0) (ss_ret (xs_join (xs_str "\n") (EvS.t (xs_var 5))))))))))))⟩
end
end L67

set_option Elab.async false
set_option linter.all false
set_option maxRecDepth 100000
namespace L67
open PySem PySem.Spec PyProof.Rows L2 Pb
section
variable {P : Program} {w : World} {K : PySem.W.Frag} {mg : Str → Option Value} {base : Heap}
def t__law_told : List PyData → (PyData → Prop) → Prop := runQ 4 2
  ((qSeq (qP (sSet (gN 2) eNon))
  (qSeq (qTry 3 ["BadText"] (xSetX 2 (oTupS "told" (oCallE2 (eVar 0) r_parse_data r_parse_order (aCons (eVar 1) aNil)))) (fun a d x => (sSeq (sSet (gN 2) (eTup (aCons (eStr "other") (aCons eNon aNil))))
  (sIf (bAnd (bTest (eIsE a d 3 x "BadText")) (bTest (eIsV a d 3))) (sIf (bNot (bTest (eIsT a d 3 x ["BadPenalties", "BadPrices", "BadTable", "NoAmount", "NoDemand", "NoOrder", "TooMany"]))) (sSet (gN 2) (eTup (aCons (eStr "bad") (aCons (eFldC x "BadText" a d 3 "line") aNil)))) sNil) sNil))))
  (qP (sRet (eVar 2))))))
abbrev st__law_told : Stmt := topS 47
theorem sc__law_told : FnScope ["_law_door", "_law_value", "_law_found", "error"] ["_law_door", "_law_value"] (defScope st__law_told) := ⟨rfl, rfl, rfl, by decide +kernel, rfl, by decide +kernel, by decide +kernel⟩
set_option maxHeartbeats 4000000 in
theorem ok__law_told {f : Addr} {fd : FuncData} {cl : Str → Addr} {O : Addr} (F : Fun K "_law_told" "_law_told" st__law_told f fd) (B : Bx mg) (gB : mg "OrderError" = some (.ref O)) (em : ∀ x ∈ (["BadText"] : List Str), PySem.W.exmOne K (.ref (cl x)) (.ref O) = some true) (xc : ∀ x ∈ (["BadText"] : List Str), ExcC K (cl x)) (kt : ∀ x ∈ (["BadText"] : List Str), ∀ c ∈ (["BadText", "BadPenalties", "BadPrices", "BadTable", "NoAmount", "NoDemand", "NoOrder", "TooMany"] : List Str), PySem.W.kitOne K (.ref (cl x)) (.ref (cl c)) = some (decide (x = c))) (kv : ∀ x ∈ (["BadText"] : List Str), PySem.W.kitOne K (.ref (cl x)) (.type "ValueError") = some true) (gc_BadText : mg "BadText" = some (.ref (cl "BadText"))) (gc_BadPenalties : mg "BadPenalties" = some (.ref (cl "BadPenalties"))) (gc_BadPrices : mg "BadPrices" = some (.ref (cl "BadPrices"))) (gc_BadTable : mg "BadTable" = some (.ref (cl "BadTable"))) (gc_NoAmount : mg "NoAmount" = some (.ref (cl "NoAmount"))) (gc_NoDemand : mg "NoDemand" = some (.ref (cl "NoDemand"))) (gc_NoOrder : mg "NoOrder" = some (.ref (cl "NoOrder"))) (gc_TooMany : mg "TooMany" = some (.ref (cl "TooMany"))) (xc_BadText : ExcC K (cl "BadText")) (no_BadText : PySem.W.findIn K (.ref (cl "BadText")) "line" = some none) (c_parse_data : ClX P w K mg base 5 "parse_data" ["value"] (spY K cl r_parse_data)) (c_parse_order : ClX P w K mg base 5 "parse_order" ["value"] (spY K cl r_parse_order)) :
    FnOk P w K mg base CX0 6 f fd ["_law_door", "_law_value"] (spQ K t__law_told) := fn_told (cl := cl) F sc__law_told fun cdv A outer s H E hr => by
  have nd := sc__law_told.nd
  obtain ⟨fa1, fd1, F1, m1, kp1, bb1⟩ := c_parse_data.ex
  obtain ⟨fa2, fd2, F2, m2, kp2, bb2⟩ := c_parse_order.ex
  have hb : ∀ W : WX, StX K cl W _ (xSetX 2 (oTupS "told" (oCallE2 (eVar 0) r_parse_data r_parse_order (aCons (eVar 1) aNil)))) := fun W => (sx_setX (i := 2) (ex_tupS (s := "told") (ex_callE2 (f := fa1) (g := fa2) (G1 := r_parse_data) (G2 := r_parse_order) (EvS.t (xs_var 0)) (xa_cons (xs_var 1) xa_nil))))
  have hh : ∀ (a : Addr) (cls : Value) (d : Option Addr), ∀ x ∈ (["BadText"] : List Str), cls = .ref (cl x) → StP K cl E0 _ (sSeq (sSet (gN 2) (eTup (aCons (eStr "other") (aCons eNon aNil))))
  (sIf (bAnd (bTest (eIsE a d 3 x "BadText")) (bTest (eIsV a d 3))) (sIf (bNot (bTest (eIsT a d 3 x ["BadPenalties", "BadPrices", "BadTable", "NoAmount", "NoDemand", "NoOrder", "TooMany"]))) (sSet (gN 2) (eTup (aCons (eStr "bad") (aCons (eFldC x "BadText" a d 3 "line") aNil)))) sNil) sNil)) := fun a cls d x hx hc => (ss_seq (ss_set (xs_tup (xa_cons (xs_str "other") (xa_cons xs_non xa_nil))) (tg_name 2))
      (ss_if (tt_and (tt_B (EvS.t (xs_isE (cl := cl) (x := x) (c := "BadText") hc (xc x hx) (kt x hx "BadText" (by decide))))) (tt_B (EvS.t (xs_isV (cl := cl) (x := x) hc (xc x hx) (kv x hx))))) (ss_if (tt_not (tt_B (EvS.t (xs_isTN (cl := cl) (x := x) (cs := ["BadPenalties", "BadPrices", "BadTable", "NoAmount", "NoDemand", "NoOrder", "TooMany"]) hc (xc x hx) (by decide) (fun c hc9 => kt x hx c ((show ∀ c ∈ (["BadPenalties", "BadPrices", "BadTable", "NoAmount", "NoDemand", "NoOrder", "TooMany"] : List Str), c ∈ (["BadText", "BadPenalties", "BadPrices", "BadTable", "NoAmount", "NoDemand", "NoOrder", "TooMany"] : List Str) from by decide +kernel) c hc9)))))) (ss_set (xs_tup (xa_cons (xs_str "bad") (xa_cons (xs_fldC (cl := cl) (x := x) (c := "BadText") (f := "line") hc) xa_nil))) (tg_name 2)) ss_nil) ss_nil))
  refine ⟨_, (pss_cons (ps_set (i := 2) nd rfl (Or.inl rfl) pe_non)
      (pss_cons (ps_try_as (i := 3) (Wout := fun _ _ _ _ => False) rfl rfl nd rfl rfl ⟨rfl, by decide, Or.inl gB⟩ takes0 (fun W pn xe tk _ => (pss_one (ps_set (i := 2) nd rfl (Or.inl rfl) (by exact (pe_tup (pa_cons pe_str (pa_cons (pe_callE2 (pe_ix (ixK (K := K) rIxL rfl ix_list) (pe_lst (pa_cons (pe_glob (v := .ref fa1) rfl m1 rfl) (pa_cons (pe_glob (v := .ref fa2) rfl m2 rfl) pa_nil))) (pv 0) (fun _ _ => rfl)) F1 F2 hr (by decide) (by decide) kp1 kp2 bb1 bb2 tk (by exact (pa_cons (pv 1) pa_nil))) pa_nil))))))) (fun a oe cls d pn hz hf => (pss_cons (ps_set (i := 2) nd rfl (Or.inl rfl) (pe_tup (pa_cons pe_str (pa_cons pe_non pa_nil))))
      (pss_one (ps_if (PW.pt (pw_and (pt_val (pe_callB (crK (K := K) (fun K => rIsP K a cls d) rfl (call_isP List.mem_cons_self hz hf)) rfl B.isinstance bt_isinstance (pa_cons (pv 3) (pa_cons (pe_glob (v := .ref (cl "BadText")) rfl gc_BadText rfl) pa_nil)))) (pw_and1 (pt_val (pe_callB (crK (K := K) (fun K => rIsPV K a cls d) rfl (call_isPV List.mem_cons_self hz hf)) rfl B.isinstance bt_isinstance (pa_cons (pv 3) (pa_cons (pe_ty rfl B.valueError bt_ValueError) pa_nil))))))) (pss_one (ps_if (pt_not (pt_val (pe_callB (crK (K := K) (fun K => rIsPT K a cls d) rfl (call_isPT List.mem_cons_self hz hf)) rfl B.isinstance bt_isinstance (pa_cons (pv 3) (pa_cons (pe_tup (pa_cons (pe_glob (v := .ref (cl "BadPenalties")) rfl gc_BadPenalties rfl) (pa_cons (pe_glob (v := .ref (cl "BadPrices")) rfl gc_BadPrices rfl) (pa_cons (pe_glob (v := .ref (cl "BadTable")) rfl gc_BadTable rfl) (pa_cons (pe_glob (v := .ref (cl "NoAmount")) rfl gc_NoAmount rfl) (pa_cons (pe_glob (v := .ref (cl "NoDemand")) rfl gc_NoDemand rfl) (pa_cons (pe_glob (v := .ref (cl "NoOrder")) rfl gc_NoOrder rfl) (pa_cons (pe_glob (v := .ref (cl "TooMany")) rfl gc_TooMany rfl) pa_nil)))))))) pa_nil))))) (pss_one (ps_set (i := 2) nd rfl (Or.inl rfl) (pe_tup (pa_cons pe_str (pa_cons (pe_xfP List.mem_cons_self (ExcC.xf xc_BadText) no_BadText hz hf (pv 3)) pa_nil))))) pss_nil)) pss_nil)))))
      (pss_one (ps_ret (pv 2))))), ?_⟩
  exact (sq_seq (StP.q (ss_set xs_non (tg_name 2)))
      (sq_seq (sq_try (cl := cl) (c := .ref O) (i := 3) (xs := ["BadText"]) em hb hh)
      (StP.q (ss_ret (xs_var 2)))))
end
end L67

set_option Elab.async false
set_option linter.all false
set_option maxRecDepth 100000
namespace L67
open PySem PySem.Spec PyProof.Rows L2 Pb
def outQ : Option Out → Option PyData
  | some (.ret e) => some (.tuple [.str "told", e])
  | some (.excF x f e) => if x = "BadText" ∧ f = "line" then some (.tuple [.str "bad", e]) else none
  | _ => none
def q_told : List PyData → Option PyData
  | [.int 0, v] => outQ (r_parse_data [v])
  | [.int 1, v] => outQ (r_parse_order [v])
  | _ => none
theorem told_core {i : Int} {v e : PyData} {o : Out} (h : oCallE2 (eVar 0) r_parse_data r_parse_order (aCons (eVar 1) aNil) [.val (.int i), .val v, .val .none, .no] = some o) (he : outQ (some o) = some e) : t__law_told [.int i, v] (· = e) := by
  match o, he with
  | .ret e', he =>
    cases he
    refine ⟨rfl, _, rfl, .ok (.nx [.val (.int i), .val v, .val (.tuple [.str "told", e']), .no]), ?_, _, rfl, rfl⟩
    show ((oTupS "told" _ _).map _) = _
    unfold oTupS
    show (((oCallE2 (eVar 0) r_parse_data r_parse_order (aCons (eVar 1) aNil) [.val (.int i), .val v, .val .none, .no]).map _).map _) = _
    rw [h]
    rfl
  | .excF x f e', he =>
    have he' : (if x = "BadText" ∧ f = "line" then some (PyData.tuple [.str "bad", e']) else none) = some e := he
    split at he'
    · rename_i hx
      obtain ⟨rfl, rfl⟩ := hx
      cases he'
      refine ⟨rfl, _, rfl, .ex (.excF "BadText" "line" e') [.val (.int i), .val v, .val .none, .no], ?_, List.mem_cons_self, fun y dd => ⟨.nx [.val (.int i), .val v, .val (.tuple [.str "bad", e']), .exn y (some dd) [(("line" : Str), e')]], ?_, _, rfl, rfl⟩⟩
      · show ((oTupS "told" _ _).map _) = _
        unfold oTupS
        show (((oCallE2 (eVar 0) r_parse_data r_parse_order (aCons (eVar 1) aNil) [.val (.int i), .val v, .val .none, .no]).map _).map _) = _
        rw [h]
        rfl
      · let ρ1 : Rho := [.val (.int i), .val v, .val (.tuple [.str "other", .none]), .exn y (some dd) [(("line" : Str), e')]]
        have e0 : rxn ρ1 3 y (some dd) = some [(("line" : Str), e')] := by
          unfold rxn
          show (if y = y ∧ (some dd : Option Addr) = some dd then _ else _) = _
          rw [if_pos ⟨rfl, rfl⟩]
        have e1 : eIsE y (some dd) 3 "BadText" "BadText" ρ1 = some (.bool true) := by
          unfold eIsE
          rw [e0]
          rfl
        have e2 : eIsV y (some dd) 3 ρ1 = some (.bool true) := by
          unfold eIsV
          rw [e0]
          rfl
        have e3 : eIsT y (some dd) 3 "BadText" ["BadPenalties", "BadPrices", "BadTable", "NoAmount", "NoDemand", "NoOrder", "TooMany"] ρ1 = some (.bool false) := by
          unfold eIsT
          rw [e0]
          rfl
        have e4 : eFldC "BadText" "BadText" y (some dd) 3 "line" ρ1 = some e' := by
          unfold eFldC
          rw [if_pos rfl]
          unfold eFld
          rw [e0]
          rfl
        have t1 : bAnd (bTest (eIsE y (some dd) 3 "BadText" "BadText")) (bTest (eIsV y (some dd) 3)) ρ1 = some true := bAnd_t (bTest_of e1) (bTest_of e2)
        refine (sSeq_nx (ρ' := ρ1) (sSet_of rfl)).trans ((sIf_t t1).trans ((sIf_t (bNot_of (b := false) (bTest_of e3))).trans (sSet_of ?_)))
        show (((aCons _ _) ρ1).bind lim).map PyData.tuple = _
        rw [aCons_of (x := .str "bad") rfl (aCons_of (x := e') e4 rfl)]
        rfl
    · cases he'
theorem told_of (ds : List PyData) (e : PyData) (h : q_told ds = some e) : t__law_told ds (· = e) := by
  unfold q_told at h
  split at h
  · rename_i v
    cases hr : r_parse_data [v] with
    | none =>
      rw [hr] at h
      cases h
    | some o =>
      rw [hr] at h
      exact told_core (i := 0) hr h
  · rename_i v
    cases hr : r_parse_order [v] with
    | none =>
      rw [hr] at h
      cases h
    | some o =>
      rw [hr] at h
      exact told_core (i := 1) hr h
  · cases h
end L67

set_option Elab.async false
set_option linter.all false
set_option maxRecDepth 100000
namespace L67
open PySem PySem.Spec PyProof.Rows L2 Pb
section
variable {P : Program} {w : World} {K : PySem.W.Frag} {mg : Str → Option Value} {base : Heap}
def w_law (d : Addr) : Rho → Int → (Res → Int → Prop) → Prop :=
  (twSeq (twP (sOwn 2 (lLc [14] (iT (eTup (aCons (eInt 10) (aCons (eInt 11) aNil)))) (gN 14) bYes (eOp fJoin (eStr ">") (eL (lLc [11] (iR (eVar 14)) (gN 11) bYes (eCb fStrI (aCons (eVar 11) aNil))))))))
  (twSeq (twFor (iR (eInt 4)) (gN 3) (twSeq (twSet (gN 4) (wDraw d 1 WTable (wCons (wP (eInt 10)) (wCons (wP (eInt 10)) wNil))))
  (twSeq (twSet (gT (gC (gN 5) (gC (gN 6) g0))) (wDraw d 1 Pb.w__law_data (wCons (wP (eVar 4)) wNil)))
  (twSeq (twSet (gN 7) (wJoin ">" (wL (wfLcT [15] (wDraw d 1 WShuf (wCons (wOp fAdd (wP (eInt 1)) (wDraw d 1 WNextW (wCons (wP (eInt 10)) wNil))) wNil)) (gN 15) bYes (wP (eCb fStrI (aCons (eVar 15) aNil)))))))
  (twSeq (twP (sSet (gN 8) (eL (lLst (aCons (eCb q__law_text (aCons (eVar 4) (aCons (eVar 5) (aCons (eVar 6) aNil)))) (aCons (eVar 7) aNil))))))
  (twFor (iR (eInt 2)) (gN 9) (twSeq (twOwn 10 (wfCat (wfLst (wCons (wP (eOp fIxL (eVar 8) (eVar 9))) (wCons (wP (eOp fIxL (eVar 8) (eOp fSub (eInt 1) (eVar 9)))) (wCons (wP (eSlX (eOp fIxL (eVar 8) (eVar 9)) oNone (oSome (eUn fNeg (eInt 1))))) (wCons (wDraw d 1 WOdd wNil) (wCons (wP (eStr "")) wNil)))))) (wfP (lOwn 2))))
  (twSeq (twFor (iR (eInt 7)) (gN 11) (twSeq (twSet (gN 12) (wDraw d 1 w__law_changed_text (wCons (wP (eOp fIxL (eVar 8) (eVar 9))) wNil)))
  (twApp 10 (wOp fIxL (wL (wfLst (wCons (wP (eVar 12)) (wCons (wDraw d 1 w__law_changed_text (wCons (wP (eVar 12)) wNil)) wNil)))) (wDraw d 1 WNextW (wCons (wP (eInt 2)) wNil))))))
  (twFrz 10 (twP (sFor (iL (eVar 10)) (gN 13) (sIf (bNot (bTest (eCb (fSameX 6) (aCons (eCb q_told (aCons (eVar 9) (aCons (eVar 13) aNil))) (aCons (eCb q__law_due (aCons (eVar 9) (aCons (eVar 13) aNil))) aNil))))) (sRet (eBl false)) sNil))))))))))))
  (twP (sRet (eBl true)))))
abbrev s_law : Stmt := topS 49
theorem sc_law : FnScope ["_law_script", "_law_deck_here", "_law_long", "_law_turn", "_law_table_here", "_law_prices", "_law_penalties", "_law_order", "_law_texts", "_law_door", "_law_some", "_law_k", "_law_once", "_law_value", "_law_count", "_law_demand"] ["_law_script"] (defScope s_law) := ⟨rfl, rfl, rfl, by decide +kernel, rfl, by decide +kernel, by decide +kernel⟩
set_option maxHeartbeats 4000000 in
theorem ok_law {f : Addr} {fd : FuncData} (F : Fun K "law" "law" s_law f fd) (B : Bx mg) (hb : ∃ mm, base.Ns sysModules mm) (c__law_deck : Cl P w K mg base 1 "_law_deck" ["_law_script"] (spDeck K)) (c__law_table : Cl P w K mg base 4 "_law_table" ["_law_deck_here", "_law_demands", "_law_offers"] (spW K WTable)) (c__law_data : Cl P w K mg base 3 "_law_data" ["_law_deck_here", "_law_table_here"] (spW K Pb.w__law_data)) (c__law_shuffled : Cl P w K mg base 2 "_law_shuffled" ["_law_deck_here", "_law_count"] (spW K WShuf)) (c__law_next : Cl P w K mg base 1 "_law_next" ["_law_deck_here", "_law_many"] (spW K WNextW)) (c__law_text : Cl P w K mg base 1 "_law_text" ["_law_table_here", "_law_prices", "_law_penalties"] (spD K (RF q__law_text))) (c__law_odd : Cl P w K mg base 2 "_law_odd" ["_law_deck_here"] (spW K WOdd)) (c__law_changed_text : Cl P w K mg base 3 "_law_changed_text" ["_law_deck_here", "_law_text_here"] (spW K w__law_changed_text)) (c__law_told : Cl P w K mg base 6 "_law_told" ["_law_door", "_law_value"] (spD K (RF q_told))) (c__law_due : Cl P w K mg base 4 "_law_due" ["_law_door", "_law_value"] (spD K (RF q__law_due))) (c__law_same : Cl P w K mg base 7 "_law_same" ["_law_found", "_law_due_here"] (spD K (RF (fSameX 6))))
    (hP : ∀ d, w_law d (rhoL 16 d) 0 fun r _ => r = .rt (.bool true)) : RunG P w K mg base 8 f fd ["_law_script"] (spLaw K) := fn_law F sc_law (by decide) (fun cdv A fr t H hg hr => by
  have nd := sc_law.nd
  exact ⟨_, (pss_cons (ps_set (i := 1) nd rfl (Or.inl rfl) (pe_k c__law_deck hr (by decide) rfl (pa_cons (pv 0) pa_nil)))
      (pss_cons (ps_setLc (i := 2) (own := [("_law_count", 14)]) rfl nd rfl rfl (sw_true rfl rfl rfl (by decide +kernel)) (piK (K := K) (fun K => iTup K _) rfl (pi_tup (pe_tup (pa_cons pe_int (pa_cons pe_int pa_nil))))) (blkOk_by (own := [("_law_count", 14)]) (N := ["_law_script", "_law_deck_here", "_law_long", "_law_turn", "_law_table_here", "_law_prices", "_law_penalties", "_law_order", "_law_texts", "_law_door", "_law_some", "_law_k", "_law_once", "_law_value", "_law_count", "_law_demand"]) (sc := defScope s_law) (by decide +kernel)) (fun _ _ _ _ _ => (pg_name (i := 14) nd rfl (Or.inl rfl))) (fun _ _ _ _ _ => pts_nil) (fun _ _ _ _ _ => by exact (pe_bm PySem.F.plainAttrs_str PySem.F.slot_str_join PySem.F.type_str_join (mt_joinK (K := K) rfl) pe_str (pa_cons (pe_lc (own := [("_law_k", 11)]) rfl nd (pi_range1 rfl B.range (pa_cons (pv 14) pa_nil)) (blkOk_by (own := [("_law_k", 11)]) (N := ["_law_script", "_law_deck_here", "_law_long", "_law_turn", "_law_table_here", "_law_prices", "_law_penalties", "_law_order", "_law_texts", "_law_door", "_law_some", "_law_k", "_law_once", "_law_value", "_law_count", "_law_demand"]) (sc := { kind := .function, names := [(".0", .local), ("_law_count", .local), ("range", .globalImplicit)], isGenerator := false, isCoroutine := false }) (by decide +kernel)) (fun _ _ _ _ _ => (pg_name (i := 11) nd rfl (Or.inl rfl))) (fun _ _ _ _ _ => pts_nil) (fun _ _ _ _ _ => (pe_callTy call_str_int rfl B.str bt_str (pa_cons (pv 11) pa_nil)))) pa_nil))))
      (pss_cons (ps_for PassesOwn.never rfl (pi_range1 rfl B.range (pa_cons pe_int pa_nil)) (pg_name (i := 3) nd rfl (Or.inl rfl)) (pss_cons (ps_set (i := 4) nd rfl (Or.inl rfl) (pe_k c__law_table hr (by decide) rfl (pa_cons (pv 1) (pa_cons pe_int (pa_cons pe_int pa_nil)))))
      (pss_cons (ps_asg (pe_k c__law_data hr (by decide) rfl (pa_cons (pv 1) (pa_cons (pv 4) pa_nil))) (pg_tupK (K := K) (n := 2) rfl rfl (pgs_cons (pg_name (i := 5) nd rfl (Or.inl rfl)) (pgs_cons (pg_name (i := 6) nd rfl (Or.inl rfl)) pgs_nil))))
      (pss_cons (ps_set (i := 7) nd rfl (Or.inl rfl) (pe_bm PySem.F.plainAttrs_str PySem.F.slot_str_join PySem.F.type_str_join (mt_joinK (K := K) rfl) pe_str (pa_cons (pe_lc (own := [("_law_demand", 15)]) rfl nd (piK (K := K) (fun K => iTup K _) rfl (pi_tup (pe_k c__law_shuffled hr (by decide) rfl (pa_cons (pv 1) (pa_cons (pe_op op_add pe_int (pe_k c__law_next hr (by decide) rfl (pa_cons (pv 1) (pa_cons pe_int pa_nil)))) pa_nil))))) (blkOk_by (own := [("_law_demand", 15)]) (N := ["_law_script", "_law_deck_here", "_law_long", "_law_turn", "_law_table_here", "_law_prices", "_law_penalties", "_law_order", "_law_texts", "_law_door", "_law_some", "_law_k", "_law_once", "_law_value", "_law_count", "_law_demand"]) (sc := defScope s_law) (by decide +kernel)) (fun _ _ _ _ _ => (pg_name (i := 15) nd rfl (Or.inl rfl))) (fun _ _ _ _ _ => pts_nil) (fun _ _ _ _ _ => (pe_callTy call_str_int rfl B.str bt_str (pa_cons (pv 15) pa_nil)))) pa_nil)))
      (pss_cons (ps_set (i := 8) nd rfl (Or.inl rfl) (pe_lst (pa_cons (pe_k c__law_text hr (by decide) rfl (pa_cons (pv 4) (pa_cons (pv 5) (pa_cons (pv 6) pa_nil)))) (pa_cons (pv 7) pa_nil))))
      (pss_one (ps_for PassesOwn.never rfl (pi_range1 rfl B.range (pa_cons pe_int pa_nil)) (pg_name (i := 9) nd rfl (Or.inl rfl)) (pss_cons (ps_set (i := 10) nd rfl (Or.inl rfl) (pe_op op_cat (pe_lst (pa_cons (pe_ix (ixK (K := K) rIxL rfl ix_list) (pv 8) (pv 9) (fun _ _ => rfl)) (pa_cons (pe_ix (ixK (K := K) rIxL rfl ix_list) (pv 8) (pe_op op_sub pe_int (pv 9)) (fun _ _ => rfl)) (pa_cons (pe_slice sl_str (pe_ix (ixK (K := K) rIxL rfl ix_list) (pv 8) (pv 9) (fun _ _ => rfl)) po_none (po_some (pe_un un_neg pe_int))) (pa_cons (pe_k c__law_odd hr (by decide) rfl (pa_cons (pv 1) pa_nil)) (pa_cons pe_str pa_nil)))))) (pv 2)))
      (pss_cons (ps_for PassesOwn.never rfl (pi_range1 rfl B.range (pa_cons pe_int pa_nil)) (pg_name (i := 11) nd rfl (Or.inl rfl)) (pss_cons (ps_set (i := 12) nd rfl (Or.inl rfl) (pe_k c__law_changed_text hr (by decide) rfl (pa_cons (pv 1) (pa_cons (pe_ix (ixK (K := K) rIxL rfl ix_list) (pv 8) (pv 9) (fun _ _ => rfl)) pa_nil))))
      (pss_one (ps_expr (pe_bmK (K := K) rfl (pe_bm PySem.F.plainAttrs_list PySem.F.slot_list_append PySem.F.type_list_append mt_append (pv 10) (pa_cons (pe_ix (ixK (K := K) rIxL rfl ix_list) (pe_lst (pa_cons (pv 12) (pa_cons (pe_k c__law_changed_text hr (by decide) rfl (pa_cons (pv 1) (pa_cons (pv 12) pa_nil))) pa_nil))) (pe_k c__law_next hr (by decide) rfl (pa_cons (pv 1) (pa_cons pe_int pa_nil))) (fun _ _ => rfl)) pa_nil)))))))
      (pss_one (ps_for PassesOwn.never rfl (piK (K := K) (fun K => iList K _) rfl (pi_list (pv 10))) (pg_name (i := 13) nd rfl (Or.inl rfl)) (pss_one (ps_if (pt_not (pt_val (pe_k c__law_same hr (by decide) rfl (pa_cons (pe_k c__law_told hr (by decide) rfl (pa_cons (pv 9) (pa_cons (pv 13) pa_nil))) (pa_cons (pe_k c__law_due hr (by decide) rfl (pa_cons (pv 9) (pa_cons (pv 13) pa_nil))) pa_nil))))) (pss_one (ps_ret pe_bl)) pss_nil)))))))))))))
      (pss_one (ps_ret pe_bl))))), fun d =>
    (sw_seq (StP.w (cl := fun _ => 0) (E := E0) (ss_own (i := 2) (xf_lc (vs := [14]) (wi_tup (xs_tup (xa_cons (xs_int 10) (xa_cons (xs_int 11) xa_nil)))) (tg_name 14) tt_yes (xs_join (xs_str ">") (EvS.t (EvF.s (xf_lc (vs := [11]) (wi_rng (EvS.t (xs_var 14))) (tg_name 11) tt_yes (xs_cb cs_strI (xt_cons (EvS.t (xs_var 11)) xt_nil)))))))))
      (sw_seq (sw_for (wi_rng (EvS.t (xs_int 4))) (tg_name 3) (sw_seq (sw_set (xw_draw (W := WTable) (i := 1) (wa_cons (EvS.w (xs_int 10)) (wa_cons (EvS.w (xs_int 10)) wa_nil))) (tg_name 4))
      (sw_seq (sw_set (xw_draw (W := Pb.w__law_data) (i := 1) (wa_cons (EvS.w (xs_var 4)) wa_nil)) (tg_tup (tgs_cons (tg_name 5) (tgs_cons (tg_name 6) tgs_nil)) (gC_len (gC_len g0_len))))
      (sw_seq (sw_set (xw_join (xs_str ">") (EvFW.s (xfw_lcT (vs := [15]) (xw_draw (W := WShuf) (i := 1) (wa_cons (xw_op os_add (EvS.w (xs_int 1)) (xw_draw (W := WNextW) (i := 1) (wa_cons (EvS.w (xs_int 10)) wa_nil))) wa_nil)) (tg_name 15) tt_yes (EvS.w (xs_cb cs_strI (xt_cons (EvS.t (xs_var 15)) xt_nil)))))) (tg_name 7))
      (sw_seq (StP.w (cl := fun _ => 0) (E := E0) (ss_set (EvF.s (xf_lst (xa_cons (xs_call (g := q__law_text) (xa_cons (xs_var 4) (xa_cons (xs_var 5) (xa_cons (xs_var 6) xa_nil)))) (xa_cons (xs_var 7) xa_nil)))) (tg_name 8)))
      (sw_for (wi_rng (EvS.t (xs_int 2))) (tg_name 9) (sw_seq (sw_own (i := 10) (xfw_cat (EvFW.l (xfw_lst (wa_cons (EvS.w (xs_op os_ixL (EvS.t (xs_var 8)) (EvS.t (xs_var 9)))) (wa_cons (EvS.w (xs_op os_ixL (EvS.t (xs_var 8)) (EvS.t (xs_op os_sub (EvS.t (xs_int 1)) (EvS.t (xs_var 9)))))) (wa_cons (EvS.w (xs_slX (EvS.t (xs_op os_ixL (EvS.t (xs_var 8)) (EvS.t (xs_var 9)))) xo_none (xo_some (EvS.t (xs_un us_neg (EvS.t (xs_int 1))))))) (wa_cons (xw_draw (W := WOdd) (i := 1) wa_nil) (wa_cons (EvS.w (xs_str "")) wa_nil))))))) (xlw_own 2)))
      (sw_seq (sw_for (wi_rng (EvS.t (xs_int 7))) (tg_name 11) (sw_seq (sw_set (xw_draw (W := w__law_changed_text) (i := 1) (wa_cons (EvS.w (xs_op os_ixL (EvS.t (xs_var 8)) (EvS.t (xs_var 9)))) wa_nil)) (tg_name 12))
      (sw_app (i := 10) (xw_op os_ixL (EvFW.s (xfw_lst (wa_cons (EvS.w (xs_var 12)) (wa_cons (xw_draw (W := w__law_changed_text) (i := 1) (wa_cons (EvS.w (xs_var 12)) wa_nil)) wa_nil)))) (xw_draw (W := WNextW) (i := 1) (wa_cons (EvS.w (xs_int 2)) wa_nil))))))
      (sw_frz (i := 10) (StP.w (cl := fun _ => 0) (E := E0) (ss_for (wi_lst (xs_var 10)) (tg_name 13) (ss_if (tt_not (tt_B (EvS.t (xs_call (g := (fSameX 6)) (xa_cons (xs_call (g := q_told) (xa_cons (xs_var 9) (xa_cons (xs_var 13) xa_nil))) (xa_cons (xs_call (g := q__law_due) (xa_cons (xs_var 9) (xa_cons (xs_var 13) xa_nil))) xa_nil)))))) (ss_ret (xs_bl false)) ss_nil))))))))))))
      (StP.w (cl := fun _ => 0) (E := E0) (ss_ret (xs_bl true)))))⟩) hP
end
end L67

set_option Elab.async false
set_option linter.all false
set_option maxRecDepth 100000
namespace L6t
open PySem PySem.Spec PyProof.Rows L2 Pb Pt L67
abbrev nums (xs : List Int) : List Str := xs.map tx
theorem nums_len : ∀ {xs : List Int}, (∀ x ∈ xs, Am x) → ((nums xs).map (·.length)).sum ≤ 13 * xs.length
  | [], _ => by simp
  | x :: xs, h => by
    have := tx_len (h x List.mem_cons_self)
    have := nums_len fun y hy => h y (List.mem_cons_of_mem _ hy)
    show ((tx x).length :: (nums xs).map (·.length)).sum ≤ _
    rw [List.sum_cons, List.length_cons]
    omega
theorem lc_nums {ρ : Rho} {v : Nat} {it : Rho → Option (List PyData)} {φ : Rho → Option PyData} {xs : List Int} (hi : it ρ = some (xs.map PyData.int)) (hl : xs.length ≤ 1000) (hA : ∀ x ∈ xs, Am x) (hφ : ∀ x ∈ xs, ∃ ρ', gN v (.int x) (wipeR ρ [v]) = some ρ' ∧ φ ρ' = some (.int x)) : lLc [v] it (gN v) bYes (eCb fStrI (aCons φ aNil)) ρ = some ((nums xs).map PyData.str) := by
  refine (lLc_map (es := xs.map PyData.int) (fun e => .str (tx (intOf e))) hi (by rw [List.length_map]; omega) fun e he => ?_).trans ?_
  · obtain ⟨x, hx, rfl⟩ := List.mem_map.mp he
    obtain ⟨ρ', g1, g2⟩ := hφ x hx
    exact ⟨ρ', g1, eCb_of (aCons_of g2 rfl) (str_i (hA x hx))⟩
  · rw [List.map_map, List.map_map]
    rfl
theorem sp_tl : TL.tl (" " : Str) = [32] := by decide +kernel
theorem gt_tl : TL.tl (">" : Str) = [62] := by decide +kernel
theorem nl_tl : TL.tl ("\n" : Str) = [10] := by decide +kernel
def LD (q : Int) : Str := Txt.join " " ("demand" :: nums [q])
def LF (p : Int) (o : List Int) : Str := Txt.join " " ("offer" :: nums (p :: o))
theorem join_cons (y a b : Str) (r : List Str) : Txt.join y (a :: b :: r) = a ++ y ++ Txt.join y (b :: r) := by
  rw [TL.join_eq, TL.join_eq]
  rfl
theorem join_one (y a : Str) : Txt.join y [a] = a := by
  rw [TL.join_eq]
  rfl
theorem dem_sp : ("demand " : Str) = "demand" ++ " " := by decide +kernel
theorem LD_eq (q : Int) : ("demand " : Str) ++ tx q = LD q := by
  show _ = Txt.join " " ["demand", tx q]
  rw [join_cons, join_one, dem_sp]
theorem LD_len {q : Int} (h : Am q) : (LD q).length ≤ 100 := by
  show (Txt.join " " ("demand" :: nums [q])).length ≤ _
  rw [TL.join_eq]
  refine Nat.le_trans (PySem.StrLaws.join_length_le _ _) ?_
  have := nums_len (xs := [q]) (fun x hx => by rw [List.mem_singleton.mp hx]; exact h)
  have e1 : (" " : Str).length = 1 := by decide +kernel
  have e2 : ("demand" : Str).length = 6 := by decide +kernel
  rw [List.map_cons, List.sum_cons, List.length_cons, List.length_map, e1, e2]
  simp only [List.length_cons, List.length_nil] at this ⊢
  omega
theorem LF_len {p : Int} {o : List Int} (h : Am p) (ho : ∀ x ∈ o, Am x) (hl : o.length ≤ 10) : (LF p o).length ≤ 200 := by
  show (Txt.join " " ("offer" :: nums (p :: o))).length ≤ _
  rw [TL.join_eq]
  refine Nat.le_trans (PySem.StrLaws.join_length_le _ _) ?_
  have := nums_len (xs := p :: o) (fun x hx => by
    rcases List.mem_cons.mp hx with rfl | hx
    · exact h
    · exact ho x hx)
  have e1 : (" " : Str).length = 1 := by decide +kernel
  have e2 : ("offer" : Str).length = 5 := by decide +kernel
  rw [List.map_cons, List.sum_cons, List.length_cons, List.length_map, e1, e2]
  simp only [List.length_cons] at this ⊢
  omega
/-- the text of lines -/
theorem text_join : ∀ l : List Str, Txt.join "" (l.map fun z => z ++ "\n") = Txt.join "\n" (l ++ [("" : Str)])
  | [] => by
    show Txt.join ("" : Str) [] = Txt.join ("\n" : Str) [("" : Str)]
    rw [join_one, TL.join_eq]
    decide +kernel
  | [a] => by
    show Txt.join "" [a ++ "\n"] = Txt.join "\n" [a, ""]
    rw [join_one, join_cons, join_one]
    exact TL.ext_tl (by rw [TL.tl_append (a ++ "\n"), show TL.tl ("" : Str) = [] by decide +kernel, List.append_nil])
  | a :: b :: r => by
    have ih := text_join (b :: r)
    show Txt.join "" ((a ++ "\n") :: (b ++ "\n") :: r.map fun z => z ++ "\n") = Txt.join "\n" (a :: b :: (r ++ [("" : Str)]))
    rw [join_cons, join_cons]
    have ih' : Txt.join "" ((b ++ "\n") :: r.map fun z => z ++ "\n") = Txt.join "\n" (b :: (r ++ [("" : Str)])) := ih
    rw [ih']
    exact TL.ext_tl (by rw [TL.tl_append, TL.tl_append, TL.tl_append (a ++ "\n"), show TL.tl ("" : Str) = [] by decide +kernel, List.append_nil])
def LN (ps qs : List Int) (os : List (List Int)) : List Str := qs.map LD ++ (List.zip ps os).map fun p => LF p.1 p.2
theorem in_am {m : Nat} {os : List (List Int)} (t : Tb m os) {o : List Int} (ho : o ∈ os) : (∀ x ∈ o, Am x) ∧ o.length ≤ 10 := ⟨fun x hx => by
  have := (t.off o ho).1 x hx
  have := t.m10
  show 0 ≤ x ∧ x ≤ 1000000000000
  omega, Nat.le_trans (t.off o ho).len t.m10⟩
theorem LF_mem {m : Nat} {os : List (List Int)} (t : Tb m os) {ps : List Int} (hA : ∀ x ∈ ps, Am x) {p : Int × List Int} (hp : p ∈ List.zip ps os) : Am p.1 ∧ (∀ x ∈ p.2, Am x) ∧ p.2.length ≤ 10 := by
  obtain ⟨a, b⟩ := List.of_mem_zip (show (p.1, p.2) ∈ List.zip ps os from hp)
  exact ⟨hA _ a, in_am t b⟩
theorem LN_len {m : Nat} {os : List (List Int)} (t : Tb m os) {ps qs : List Int} (hp : ∀ x ∈ ps, Am x) (hq : ∀ x ∈ qs, Am x) : ∀ z ∈ LN ps qs os, z.length ≤ 200 := fun z hz => by
  rcases List.mem_append.mp hz with h | h
  · obtain ⟨q, h1, rfl⟩ := List.mem_map.mp h
    exact Nat.le_trans (LD_len (hq q h1)) (by decide)
  · obtain ⟨p, h1, rfl⟩ := List.mem_map.mp h
    obtain ⟨a, b, c⟩ := LF_mem t hp h1
    exact LF_len a b c
theorem sum_len {B : Nat} : ∀ {l : List Str}, (∀ z ∈ l, z.length ≤ B) → (l.map (·.length)).sum ≤ l.length * B
  | [], _ => by simp
  | z :: l, h => by
    have := h z List.mem_cons_self
    have := sum_len fun y hy => h y (List.mem_cons_of_mem _ hy)
    rw [List.map_cons, List.sum_cons, List.length_cons, Nat.succ_mul]
    omega
abbrev nlE (z : Str) : Str := z ++ "\n"
abbrev TX (ps qs : List Int) (os : List (List Int)) : Str := Txt.join "" ((LN ps qs os).map nlE)
theorem fin_join {l : List Str} (h : ∀ z ∈ l, z.length ≤ 200) (hl : l.length ≤ 20) : fJoin (.str "") (.list ((l.map nlE).map PyData.str)) = some (.str (Txt.join "" (l.map nlE))) := fJoin_of (by
  have e1 : ("\n" : Str).length = 1 := by decide +kernel
  have e0 : ("" : Str).length = 0 := by decide +kernel
  have := sum_len (B := 201) (l := l.map nlE) fun z hz => by
    obtain ⟨y, hy, rfl⟩ := List.mem_map.mp hz
    have := h y hy
    rw [Str.length_append, e1]
    omega
  rw [List.length_map] at this
  rw [e0]
  omega)
theorem len_LN {m : Nat} {os : List (List Int)} (t : Tb m os) {ps qs : List Int} (hp : ps.length = os.length) (hq : qs.length = m) : (LN ps qs os).length = m + os.length := by
  unfold LN
  rw [List.length_append, List.length_map, List.length_map, List.length_zip, hq, hp, Nat.min_self]
section
variable {m : Nat} {os : List (List Int)} {ps qs : List Int}
end
section
variable {m : Nat} {os : List (List Int)} {ps qs : List Int}
theorem zip_dp : ∀ (ps : List Int) (os : List (List Int)), zipD (os.map offD) (ps.map PyData.int) = (List.zip ps os).map fun p => .tuple [offD p.2, .int p.1]
  | [], os => by cases os <;> rfl
  | p :: ps, [] => rfl
  | p :: ps, o :: os => by
    have := zip_dp ps os
    exact congrArg (PyData.tuple [offD o, .int p] :: ·) this
theorem lt_go {a b c : PyData} {s6 s7 s8 : Sl} : ∀ (zs : List (Int × List Int)) (acc : List Str) (s4 s5 : Sl), (∀ p ∈ zs, Am p.1 ∧ (∀ x ∈ p.2, Am x) ∧ p.2.length ≤ 10) → acc.length + zs.length ≤ 1000 → ∃ s4' s5', forR (fun e ρ => (gT (gC (gN 4) (gC (gN 5) g0)) e ρ).bind (sApp 3 (eOp fJoin (eStr " ") (eL (lCat (lLst (aCons (eStr "offer") (aCons (eCb fStrI (aCons (eVar 5) aNil)) aNil))) (lLc [8] (iT (eVar 4)) (gN 8) bYes (eCb fStrI (aCons (eVar 8) aNil)))))))) (zs.map fun p => .tuple [offD p.2, .int p.1]) [.val a, .val b, .val c, .own (acc.map PyData.str), s4, s5, s6, s7, s8] = some (.nx [.val a, .val b, .val c, .own ((acc ++ zs.map fun p => LF p.1 p.2).map PyData.str), s4', s5', s6, s7, s8])
  | [], acc, s4, s5, _, _ => ⟨s4, s5, by simp only [List.map_nil, List.append_nil]; rfl⟩
  | p :: zs, acc, s4, s5, h, hl => by
    rw [List.length_cons] at hl
    obtain ⟨h1, h2, h3⟩ := h p List.mem_cons_self
    obtain ⟨s4', s5', k⟩ := lt_go (a := a) (b := b) (c := c) (s6 := s6) (s7 := s7) (s8 := s8) zs (acc ++ [LF p.1 p.2]) (.val (offD p.2)) (.val (.int p.1)) (fun q hq => h q (List.mem_cons_of_mem _ hq)) (by rw [List.length_append]; simp; omega)
    refine ⟨s4', s5', ?_⟩
    rw [List.map_cons, forR_nx (ρ' := [.val a, .val b, .val c, .own ((acc ++ [LF p.1 p.2]).map PyData.str), .val (offD p.2), .val (.int p.1), s6, s7, s8]) ?_, k, List.append_assoc]
    · rfl
    · show sApp 3 _ [.val a, .val b, .val c, .own (acc.map PyData.str), .val (offD p.2), .val (.int p.1), s6, s7, s8] = _
      have A : ∀ x ∈ p.1 :: p.2, Am x := fun x hx => by
        rcases List.mem_cons.mp hx with rfl | hx
        · exact h1
        · exact h2 x hx
      have e2 := lc_nums (ρ := [.val a, .val b, .val c, .own (acc.map PyData.str), .val (offD p.2), .val (.int p.1), s6, s7, s8]) (v := 8) (it := iT (eVar 4)) (φ := eVar 8) (xs := p.2) rfl (by omega) h2 fun x _ => ⟨_, rfl, rfl⟩
      have e1 : lLst (aCons (eStr "offer") (aCons (eCb fStrI (aCons (eVar 5) aNil)) aNil)) [.val a, .val b, .val c, .own (acc.map PyData.str), .val (offD p.2), .val (.int p.1), s6, s7, s8] = some [.str "offer", .str (tx p.1)] := lLst_of (aCons_of rfl (aCons_of (eCb_of (aCons_of rfl rfl) (str_i h1)) rfl)) (by simp)
      have e3 : lCat (lLst (aCons (eStr "offer") (aCons (eCb fStrI (aCons (eVar 5) aNil)) aNil))) (lLc [8] (iT (eVar 4)) (gN 8) bYes (eCb fStrI (aCons (eVar 8) aNil))) [.val a, .val b, .val c, .own (acc.map PyData.str), .val (offD p.2), .val (.int p.1), s6, s7, s8] = some ((("offer" : Str) :: nums (p.1 :: p.2)).map PyData.str) := by
        unfold lCat
        rw [e1, e2]
        show lim (PyData.str "offer" :: PyData.str (tx p.1) :: (nums p.2).map PyData.str) = _
        unfold lim
        rw [if_pos (by simp; omega)]
        rfl
      have bd : ((("offer" : Str) :: nums (p.1 :: p.2)).map (·.length)).sum + (("offer" : Str) :: nums (p.1 :: p.2)).length * (" " : Str).length ≤ 100000 := by
        have := nums_len A
        have e1 : (" " : Str).length = 1 := by decide +kernel
        have e2 : ("offer" : Str).length = 5 := by decide +kernel
        rw [List.map_cons, List.sum_cons, List.length_cons, List.length_map, e1, e2]
        simp only [List.length_cons] at this ⊢
        omega
      refine (sApp_of (i := 3) (es := acc.map PyData.str) (e := .str (LF p.1 p.2)) rfl (by rw [List.length_map]; omega) (eOp_of rfl (eL_of e3) (fJoin_of bd))).trans ?_
      rw [List.map_append]
      rfl
theorem q_lawtext (t : Tb m os) (hp : ps.length = os.length) (hq : qs.length = m) (Ap : ∀ x ∈ ps, Am x) (Aq : ∀ x ∈ qs, Am x) : q__law_text [tabD m os, offD ps, offD qs] = some (.str (TX ps qs os)) := by
  have tl := t.len
  have m10 := t.m10
  have e3 : lLc [6] (iT (eVar 2)) (gN 6) bYes (eOp fAddS (eStr "demand ") (eCb fStrI (aCons (eVar 6) aNil))) [.val (tabD m os), .val (offD ps), .val (offD qs), .no, .no, .no, .no, .no, .no] = some ((qs.map LD).map PyData.str) := by
    refine (lLc_map (es := qs.map PyData.int) (fun e => .str (LD (intOf e))) rfl (by rw [List.length_map]; omega) fun e he => ?_).trans ?_
    · obtain ⟨q, h, rfl⟩ := List.mem_map.mp he
      refine ⟨_, rfl, eOp_of rfl (eCb_of (aCons_of rfl rfl) (str_i (Aq q h))) ?_⟩
      have := tx_len (Aq q h)
      have e0 : ("demand " : Str).length = 7 := by decide +kernel
      show (if _ then _ else _) = _
      rw [if_pos (by rw [e0]; omega), LD_eq]
      rfl
    · rw [List.map_map, List.map_map]
      rfl
  obtain ⟨s4, s5, k⟩ := lt_go (a := tabD m os) (b := offD ps) (c := offD qs) (s6 := .no) (s7 := .no) (s8 := .no) (List.zip ps os) (qs.map LD) .no .no (fun p h => LF_mem t Ap h) (by rw [List.length_map, List.length_zip]; omega)
  have it : iZT (eOp fIxT (eVar 0) (eInt 1)) (eVar 1) [.val (tabD m os), .val (offD ps), .val (offD qs), .own ((qs.map LD).map PyData.str), .no, .no, .no, .no, .no] = some ((List.zip ps os).map fun p => .tuple [offD p.2, .int p.1]) := by
    rw [← zip_dp]
    unfold iZT
    rw [eOp_of (x := tabD m os) (y := .int 1) (o := some (.tuple (os.map offD))) rfl rfl rfl]
    rfl
  have e7 : lLc [7] (iL (eVar 3)) (gN 7) bYes (eOp fAddS (eVar 7) (eStr "\n")) [.val (tabD m os), .val (offD ps), .val (offD qs), .val (.list ((LN ps qs os).map PyData.str)), s4, s5, .no, .no, .no] = some (((LN ps qs os).map nlE).map PyData.str) := by
    refine (lLc_map (es := (LN ps qs os).map PyData.str) (fun e => (fAddS e (.str "\n")).getD .none) rfl (by rw [List.length_map, len_LN t hp hq]; omega) fun e he => ?_).trans ?_
    · obtain ⟨z, h, rfl⟩ := List.mem_map.mp he
      have := LN_len t Ap Aq z h
      have e1 : ("\n" : Str).length = 1 := by decide +kernel
      have x2 : fAddS (.str z) (.str "\n") = some (.str (nlE z)) := by
        show (if _ then _ else _) = _
        rw [if_pos (by rw [e1]; omega)]
      refine ⟨_, rfl, eOp_of rfl rfl ?_⟩
      rw [x2]
      rfl
    · rw [List.map_map, List.map_map]
      congr 1
      refine List.map_congr_left fun z h => ?_
      have := LN_len t Ap Aq z h
      have e1 : ("\n" : Str).length = 1 := by decide +kernel
      show (if _ then some (PyData.str (z ++ "\n")) else none).getD .none = _
      rw [if_pos (by rw [e1]; omega)]
      rfl
  exact runF_of rfl ((sSeq_nx (sOwn_of e3)).trans ((sSeq_nx (sFor_of it k)).trans (sRet_of (eOp_of (x := .str "") (y := .list (((LN ps qs os).map nlE).map PyData.str)) rfl (eL_of e7) (fin_join (LN_len t Ap Aq) (by rw [len_LN t hp hq]; omega))))))
end
end L6t

set_option Elab.async false
set_option linter.all false
set_option maxRecDepth 100000
namespace L67
open PySem PySem.Spec PyProof.Rows L2 Pb Pt
/-! ### how long a changed text is -/
structure Gd (T M : Nat) (x : Str) : Prop where
  len : x.length ≤ T
  seg : Seg M (TL.tl x)
theorem cut_inf (z : Str) (l h : Option Int) : ∃ a c, TL.tl z = a ++ TL.tl (cutS z l h) ++ c := by
  refine ⟨(TL.tl z).take (HT.sIx z.length 0 l), ((TL.tl z).drop (HT.sIx z.length 0 l)).drop (HT.sIx z.length z.length h - HT.sIx z.length 0 l), ?_⟩
  have e : TL.tl (cutS z l h) = ((TL.tl z).drop (HT.sIx z.length 0 l)).take (HT.sIx z.length z.length h - HT.sIx z.length 0 l) := rfl
  rw [e, List.append_assoc, List.take_append_drop, List.take_append_drop]
theorem Gd.cut {T M : Nat} {z : Str} (g : Gd T M z) (l h : Option Int) : Gd T M (cutS z l h) := by
  obtain ⟨a, c, e⟩ := cut_inf z l h
  refine ⟨?_, g.seg.inf e⟩
  have h1 := congrArg List.length e
  rw [List.length_append, List.length_append, ← TL.len_tl, ← TL.len_tl] at h1
  have := g.len
  omega
theorem Gd.cat {T M U N : Nat} {a b : Str} (g : Gd T M a) (k : Gd U N b) : Gd (T + U) (M + N) (a ++ b) := ⟨by
  rw [Str.length_append]
  exact Nat.add_le_add g.len k.len, by
  rw [TL.tl_append]
  exact g.seg.cat k.seg⟩
theorem Gd.mono {T M U N : Nat} {a : Str} (g : Gd T M a) (h : T ≤ U) (k : M ≤ N) : Gd U N a := ⟨Nat.le_trans g.len h, g.seg.mono k⟩
theorem Gd.short {T : Nat} {a : Str} (h : a.length ≤ T) : Gd T T a := ⟨h, Seg.of_len (by rw [← TL.len_tl]; exact h)⟩
/-! lists of lines -/
def Wd (ls : List Str) : Nat := (ls.map fun z => z.length + 1).sum
theorem Wd_cons (z : Str) (ls : List Str) : Wd (z :: ls) = z.length + 1 + Wd ls := by unfold Wd; rw [List.map_cons, List.sum_cons]
theorem Wd_append : ∀ a b : List Str, Wd (a ++ b) = Wd a + Wd b
  | [], b => by rw [List.nil_append]; show _ = 0 + _; omega
  | z :: a, b => by rw [List.cons_append, Wd_cons, Wd_cons, Wd_append a b]; omega
theorem Wd_sub {a b : List Str} (h : a.Sublist b) : Wd a ≤ Wd b := by
  induction h with
  | slnil => exact Nat.le_refl _
  | cons z _ ih => rw [Wd_cons]; omega
  | cons_cons z _ ih => rw [Wd_cons, Wd_cons]; omega
theorem Wd_rev : ∀ a : List Str, Wd a.reverse = Wd a
  | [] => rfl
  | z :: a => by
    rw [List.reverse_cons, Wd_append, Wd_rev a, Wd_cons, Wd_cons]
    show _ + (_ + 0) = _
    omega
theorem Wd_rep (z : Str) : ∀ n : Nat, Wd (List.replicate n z) = n * (z.length + 1)
  | 0 => by rw [Nat.zero_mul]; rfl
  | n + 1 => by rw [List.replicate_succ, Wd_cons, Wd_rep z n, Nat.succ_mul]; omega
theorem Wd_set {v : Str} : ∀ (ls : List Str) (j : Nat), Wd (ls.set j v) ≤ Wd ls + (v.length + 1)
  | [], _ => Nat.le_add_right _ _
  | z :: ls, 0 => by rw [List.set_cons_zero, Wd_cons, Wd_cons]; omega
  | z :: ls, j + 1 => by
    rw [List.set_cons_succ, Wd_cons, Wd_cons]
    have := Wd_set (v := v) ls j
    omega
theorem Wd_sum : ∀ ls : List Str, Wd ls = (ls.map (·.length)).sum + ls.length
  | [] => rfl
  | z :: ls => by
    rw [Wd_cons, Wd_sum ls, List.map_cons, List.sum_cons, List.length_cons]
    omega
theorem spl_sum {s : Nat} : ∀ l acc : List Nat, ((TL.spl [s] 0 acc l).map fun p => p.length + 1).sum = acc.length + l.length + 1
  | [], acc => by
    rw [TL.spl_nil]
    simp
  | c :: r, acc => by
    cases h : TL.pre [s] (c :: r) with
    | true =>
      have e : TL.spl [s] 0 acc (c :: r) = acc :: TL.spl [s] 0 [] r := TL.spl_hit h
      rw [e, List.map_cons, List.sum_cons, spl_sum r []]
      simp
      omega
    | false =>
      rw [TL.spl_miss h, spl_sum r (acc ++ [c])]
      simp
      omega
theorem Wd_split {x y : Str} {s : Nat} (hy : TL.tl y = [s]) (hk : y.cps.all (· < 256) = true) : Wd (Txt.split x y) = x.length + 1 := by
  have e := TL.split_spl x y (by rw [hy]; simp) (TL.kind_ok hk)
  rw [hy] at e
  have := spl_sum (s := s) (TL.tl x) []
  rw [← e, List.map_map] at this
  have l : x.length = (TL.tl x).length := TL.len_tl x
  rw [l]
  have e2 : ((fun p : List Nat => p.length + 1) ∘ TL.tl) = fun z : Str => z.length + 1 := by
    funext z
    show (TL.tl z).length + 1 = _
    rw [← TL.len_tl]
  rw [e2] at this
  unfold Wd
  rw [this]
  simp
theorem joinL_len (s : Nat) : ∀ ps : List (List Nat), (TL.joinL [s] ps).length ≤ (ps.map fun p => p.length + 1).sum
  | [] => by
    have : (TL.joinL [s] []).length = 0 := rfl
    omega
  | [p] => by
    show p.length ≤ _
    simp
  | p :: q :: r => by
    have := joinL_len s (q :: r)
    have e : TL.joinL [s] (p :: q :: r) = p ++ ([s] ++ TL.joinL [s] (q :: r)) := rfl
    rw [e, List.length_append, List.length_append, List.map_cons, List.sum_cons]
    show _ + (1 + _) ≤ _
    omega
theorem join_len {y : Str} {s : Nat} (hy : TL.tl y = [s]) (ls : List Str) : (Txt.join y ls).length ≤ Wd ls := by
  have e : TL.tl (Txt.join y ls) = TL.joinL [s] (ls.map TL.tl) := by rw [← hy, TL.join_eq]; exact TL.tl_join y ls
  rw [TL.len_tl, e]
  refine Nat.le_trans (joinL_len s _) (Nat.le_of_eq ?_)
  rw [List.map_map]
  unfold Wd
  congr 1
  try
    refine List.map_congr_left fun z _ => ?_
    show (TL.tl z).length + 1 = _
    rw [← TL.len_tl]
theorem Gd.join {T M : Nat} {ls : List Str} (hm : ∀ z ∈ ls, z.length ≤ M) (hw : Wd ls ≤ T) : Gd T M (Txt.join "\n" ls) := by
  refine ⟨Nat.le_trans (join_len L6t.nl_tl ls) hw, ?_⟩
  have e : TL.tl (Txt.join "\n" ls) = TL.joinL [10] (ls.map TL.tl) := by rw [← L6t.nl_tl, TL.join_eq]; exact TL.tl_join _ ls
  rw [e]
  refine seg_join fun p hp => ?_
  obtain ⟨z, hz, rfl⟩ := List.mem_map.mp hp
  exact Seg.of_len (by rw [← TL.len_tl]; exact hm z hz)
theorem join_fit {ls : List Str} {y : Str} (hy : y.length = 1) (h : Wd ls ≤ 100000) : fJoin (.str y) (.list (ls.map PyData.str)) = some (.str (Txt.join y ls)) := fJoin_of (by
  rw [Wd_sum] at h
  rw [hy]
  omega)
theorem cutG_map {α β : Type} (f : α → β) (xs : List α) (l h : Option Int) : cutG (xs.map f) l h = (cutG xs l h).map f := by
  unfold cutG
  rw [List.length_map, ← List.map_drop, ← List.map_take]
end L67

set_option Elab.async false
set_option linter.all false
set_option maxRecDepth 100000
namespace L67
open PySem PySem.Spec PyProof.Rows L2 Pb Pt
theorem one_of {d : Addr} {L : List PyData} {n : Int} {P : PyData → Int → Prop} (hn : n < 2 ^ 50) (h0 : L ≠ []) (hl : L.length ≤ 1000) (hP : ∀ e ∈ L, ∀ n', n' ≤ n + 1 → P e n') : w__law_one d [.list L] n P := by
  have l0 := List.length_pos_iff.mpr h0
  refine ⟨rfl, _, rfl, rfl, _, rfl, (L.length : Nat), rfl, hn, by omega, by omega, fun v n' v0 v1 ln => ?_⟩
  obtain ⟨k, rfl⟩ : ∃ k : Nat, v = (k : Int) := ⟨v.toNat, by omega⟩
  have hk : k < L.length := by omega
  exact ⟨L[k], ixL_at (List.getElem?_eq_getElem hk), hP _ (List.getElem_mem hk) _ ln⟩
theorem eSlX_of {φ : Rho → Option PyData} {lo hi : Rho → Option (Option Int)} {ρ : Rho} {z : Str} {l h : Option Int} (h1 : φ ρ = some (.str z)) (h2 : lo ρ = some l) (h3 : hi ρ = some h) (hz : z.length ≤ 100000) : eSlX φ lo hi ρ = some (.str (cutS z l h)) := by
  unfold eSlX
  rw [h1]
  show (lo ρ).bind _ = _
  rw [h2]
  show (hi ρ).bind _ = _
  rw [h3]
  exact if_pos hz
theorem fAddS_of {a b : Str} (h : a.length + b.length ≤ 100000) : fAddS (.str a) (.str b) = some (.str (a ++ b)) := if_pos h
theorem sign_at {z : Str} {k : Nat} (hz : z.length ≤ 100000) (h : k < z.cps.toList.length) : fIxS (.str z) (.int (k : Int)) = some (.str ⟨#[z.cps.toList[k]]⟩) := by
  show (if z.length ≤ 100000 then (atI z.cps.toList (k : Int)).map fun c => PyData.str ⟨#[c]⟩ else none) = _
  rw [if_pos hz, atI_nat (List.getElem?_eq_getElem h)]
  rfl
theorem sign_of (k : Nat) (h : k < 17) : ∃ s : Str, s.length = 1 ∧ fIxS (.str " \n0123456789>-odf") (.int (k : Int)) = some (.str s) := by
  have e : (" \n0123456789>-odf" : Str).cps.toList.length = 17 := by decide +kernel
  exact ⟨_, rfl, sign_at (by decide +kernel) (by rw [e]; exact h)⟩
theorem ixN_nat {n k : Nat} (h : k < n) : ixN n (k : Int) = some k := by
  unfold ixN
  rw [if_pos (by omega), if_pos (by omega)]
  rfl
theorem odd_small : ∀ e ∈ ([.str "0", .str "1", .str "00", .str "07", .str "9", .str "-1", .str "", .str "10", .str "demand", .str "offer", .str (Txt.mul "1" 14), .str (Txt.mul "1" 13), .str (Txt.mul "9" 13), .str "x"] : List PyData), ∃ s : Str, e = .str s ∧ s.length ≤ 14 := fun e he => by
  simp only [List.mem_cons, List.not_mem_nil, or_false] at he
  rcases he with rfl | rfl | rfl | rfl | rfl | rfl | rfl | rfl | rfl | rfl | rfl | rfl | rfl | rfl <;> exact ⟨_, rfl, by decide +kernel⟩
theorem odd_eval (ρ : Rho) : eL (lLst (aCons (eStr "0") (aCons (eStr "1") (aCons (eStr "00") (aCons (eStr "07") (aCons (eStr "9") (aCons (eStr "-1") (aCons (eStr "") (aCons (eStr "10") (aCons (eStr "demand") (aCons (eStr "offer") (aCons (eOp fMulS (eStr "1") (eInt 14)) (aCons (eOp fMulS (eStr "1") (eInt 13)) (aCons (eOp fMulS (eStr "9") (eInt 13)) (aCons (eStr "x") aNil))))))))))))))) ρ = some (.list [.str "0", .str "1", .str "00", .str "07", .str "9", .str "-1", .str "", .str "10", .str "demand", .str "offer", .str (Txt.mul "1" 14), .str (Txt.mul "1" 13), .str (Txt.mul "9" 13), .str "x"]) := by
  have m : ∀ (a : Str) (k : Int), a.length ≤ 100 ∧ 0 ≤ k ∧ k ≤ 100 → eOp fMulS (eStr a) (eInt k) ρ = some (.str (Txt.mul a k)) := fun a k h => eOp_of rfl rfl (if_pos h)
  exact eL_of (lLst_of (aCons_of rfl (aCons_of rfl (aCons_of rfl (aCons_of rfl (aCons_of rfl (aCons_of rfl (aCons_of rfl (aCons_of rfl (aCons_of rfl (aCons_of rfl (aCons_of (m _ _ (by decide +kernel)) (aCons_of (m _ _ (by decide +kernel)) (aCons_of (m _ _ (by decide +kernel)) (aCons_of rfl rfl)))))))))))))) (by simp))
section
variable {d : Addr} {T M : Nat} {x : Str} {n : Int} {P : PyData → Int → Prop}
abbrev RC (d : Addr) (x : Str) (s2 s3 s4 s5 s6 s7 s8 s9 : Sl) : Rho := [.deck d, .val (.str x), s2, s3, s4, s5, s6, s7, s8, s9]
abbrev finC : Rho → Int → (Res → Int → Prop) → Prop := twFrzQ 5 (twP (sRet (eOp fJoin (eStr "\n") (eVar 5))))
theorem thenW_nx {Χ : Rho → Int → (Res → Int → Prop) → Prop} {ρ : Rho} {n : Int} {Q : Res → Int → Prop} (h : Χ ρ n Q) : thenW (.nx ρ) n Χ Q := h
abbrev BT (T M : Nat) : Nat := 3 * T + 12 * M + 300
abbrev BM (M : Nat) : Nat := 2 * M + 20
theorem fin_own {Q : Res → Int → Prop} {ys : List Str} {s2 s3 s4 s6 s7 s8 s9 : Sl} (hw : Wd ys ≤ 100000) (hQ : Q (.rt (.str (Txt.join "\n" ys))) n) : finC (RC d x s2 s3 s4 (.own (ys.map PyData.str)) s6 s7 s8 s9) n Q := by
  show twP (sRet (eOp fJoin (eStr "\n") (eVar 5))) (RC d x s2 s3 s4 (.val (.list (ys.map PyData.str))) s6 s7 s8 s9) n Q
  exact ⟨.rt (.str (Txt.join "\n" ys)), sRet_of (eOp_of rfl rfl (join_fit rfl hw)), hQ⟩
theorem fin_val {Q : Res → Int → Prop} {ys : List Str} {s2 s3 s4 s6 s7 s8 s9 : Sl} (hw : Wd ys ≤ 100000) (hQ : Q (.rt (.str (Txt.join "\n" ys))) n) : finC (RC d x s2 s3 s4 (.val (.list (ys.map PyData.str))) s6 s7 s8 s9) n Q := by
  show twP (sRet (eOp fJoin (eStr "\n") (eVar 5))) (RC d x s2 s3 s4 (.val (.list (ys.map PyData.str))) s6 s7 s8 s9) n Q
  exact ⟨.rt (.str (Txt.join "\n" ys)), sRet_of (eOp_of rfl rfl (join_fit rfl hw)), hQ⟩
theorem changed (g : Gd T M x) (hT : T ≤ 16000) (hM : M ≤ 430) (hn : n < 2 ^ 49) (hP : ∀ y n', Gd (BT T M) (BM M) y → n' ≤ n + 6 → P (.str y) n') : w__law_changed_text d [.str x] n P := by
  have xl := g.len
  have x9 : x.length + 2 ≤ 100000 := by omega
  have lenE : ∀ s2 s3 s4 s5 s6 s7 s8 s9, eOp fAdd (eCb fLenS (aCons (eVar 1) aNil)) (eInt 1) (RC d x s2 s3 s4 s5 s6 s7 s8 s9) = some (.int ((x.length : Int) + 1)) := fun _ _ _ _ _ _ _ _ => eOp_of (x := .int (x.length : Nat)) (y := .int 1) (eCb_of (aCons_of rfl rfl) (if_pos (by omega))) rfl rfl
  refine ⟨rfl, ?_⟩
  refine ⟨rfl, _, lenE _ _ _ _ _ _ _ _, _, rfl, by omega, by omega, by omega, fun v n1 v0 v1 l1 => ?_⟩
  obtain ⟨v, rfl⟩ : ∃ k : Nat, v = (k : Int) := ⟨v.toNat, by omega⟩
  refine ⟨rfl, _, rfl, 10, rfl, by omega, by omega, by omega, fun w n2 w0 w1 l2 => ⟨_, _, rfl, ?_⟩⟩
  refine ⟨_, rfl, rfl, _, rfl, 17, rfl, by omega, by omega, by omega, fun u n3 u0 u1 l3 => ?_⟩
  obtain ⟨u, rfl⟩ : ∃ k : Nat, u = (k : Int) := ⟨u.toNat, by omega⟩
  obtain ⟨sg, sl, se⟩ := sign_of u (by omega)
  refine ⟨_, se, _, rfl, ?_⟩
  let R (s5 s6 s7 s8 s9 : Sl) : Rho := RC d x (.val (.int (v : Int))) (.val (.int w)) (.val (.str sg)) s5 s6 s7 s8 s9
  refine thenW_nx ?_
  have t3 : bTest (eOp fLt (eVar 3) (eInt 3)) (R .no .no .no .no .no) = some (decide (w < 3)) := rfl
  by_cases w3 : w < 3
  · rw [decide_eq_true w3] at t3
    have body : ∃ y, Gd (BT T M) (BM M) y ∧ eOp fAddS (eOp fAddS (eSlX (eVar 1) oNone (oSome (eVar 2))) (eOp fIxL (eL (lLst (aCons (eVar 4) (aCons (eStr "") (aCons (eVar 4) aNil))))) (eVar 3))) (eSlX (eVar 1) (oSome (eOp fAdd (eVar 2) (eCb fInt1 (aCons (eOp fGt (eVar 3) (eInt 0)) aNil)))) oNone) (R .no .no .no .no .no) = some (.str y) := by
      have core : ∀ (t : Str) (k : Int), t.length ≤ 1 → eOp fIxL (eL (lLst (aCons (eVar 4) (aCons (eStr "") (aCons (eVar 4) aNil))))) (eVar 3) (R .no .no .no .no .no) = some (.str t) → oSome (eOp fAdd (eVar 2) (eCb fInt1 (aCons (eOp fGt (eVar 3) (eInt 0)) aNil))) (R .no .no .no .no .no) = some (some k) → ∃ y, Gd (BT T M) (BM M) y ∧ eOp fAddS (eOp fAddS (eSlX (eVar 1) oNone (oSome (eVar 2))) (eOp fIxL (eL (lLst (aCons (eVar 4) (aCons (eStr "") (aCons (eVar 4) aNil))))) (eVar 3))) (eSlX (eVar 1) (oSome (eOp fAdd (eVar 2) (eCb fInt1 (aCons (eOp fGt (eVar 3) (eInt 0)) aNil)))) oNone) (R .no .no .no .no .no) = some (.str y) := fun t k tl h1 h2 => by
        have ga := g.cut none (some (v : Int))
        have gb := g.cut (some k) none
        have gt := Gd.short tl
        refine ⟨cutS x none (some (v : Int)) ++ t ++ cutS x (some k) none, ((ga.cat gt).cat gb).mono (by unfold BT; omega) (by unfold BM; omega), ?_⟩
        have la := ga.len
        have lb := gb.len
        have lc := (ga.cat gt).len
        exact eOp_of (eOp_of (eSlX_of rfl rfl rfl (by omega)) h1 (fAddS_of (by omega))) (eSlX_of rfl h2 rfl (by omega)) (fAddS_of (by omega))
      have : w = 0 ∨ w = 1 ∨ w = 2 := by omega
      rcases this with rfl | rfl | rfl
      · exact core sg _ (by omega) rfl rfl
      · exact core "" _ (by decide) rfl rfl
      · exact core sg _ (by omega) rfl rfl
    obtain ⟨y, gy, ey⟩ := body
    exact ⟨_, (sIf_t t3).trans (sRet_of ey), hP y _ gy (by omega)⟩
  · rw [decide_eq_false w3] at t3
    refine ⟨_, (sIf_f t3).trans rfl, ?_⟩
    have ls0 := Wd_split (x := x) L6t.nl_tl (by decide +kernel)
    have ls1 := lines_len (M := M) (x := x) L6t.nl_tl (by decide +kernel) g.seg
    obtain ⟨_, lne, lnl⟩ := split_len (x := x) (y := "\n") L6t.nl_tl (by decide +kernel)
    refine ⟨_, sOwn_of (lSplit_of (a := x) (b := "\n") rfl rfl (by decide +kernel) (by omega)), ?_⟩
    generalize Txt.split x "\n" = ls at *
    have l0 := List.length_pos_iff.mpr lne
    refine thenW_nx ?_
    have ln : eCb fLen (aCons (eL (lOwn 5)) aNil) (R (.own (ls.map PyData.str)) .no .no .no .no) = some (.int (ls.length : Nat)) := eCb_of (aCons_of (eL_of rfl) rfl) (by
      show some (PyData.int ((ls.map PyData.str).length : Nat)) = _
      rw [List.length_map])
    refine ⟨rfl, _, ln, _, rfl, by omega, by omega, by omega, fun k n4 k0 k1 l4 => ⟨_, rfl, ?_⟩⟩
    obtain ⟨k, rfl⟩ : ∃ j : Nat, k = (j : Int) := ⟨k.toNat, by omega⟩
    have hk : k < ls.length := by omega
    let R2 (s5 s7 s8 s9 : Sl) : Rho := R s5 (.val (.int (k : Int))) s7 s8 s9
    refine thenW_nx ?_
    have ixl : ∀ s7 s8 s9, eOp fIxL (eL (lOwn 5)) (eVar 6) (R2 (.own (ls.map PyData.str)) s7 s8 s9) = some (.str ls[k]) := fun _ _ _ => eOp_of (eL_of rfl) rfl (ixL_at (by rw [List.getElem?_map, List.getElem?_eq_getElem hk]; rfl))
    have lk := ls1 _ (List.getElem_mem hk)
    have t6 : bTest (eOp fLt (eVar 3) (eInt 6)) (R2 (.own (ls.map PyData.str)) .no .no .no) = some (decide (w < 6)) := rfl
    have all : ∀ z ∈ ls, z.length ≤ BM M := fun z hz => by
      have := (ls1 z hz).1
      unfold BM
      omega
    have sub : ∀ (l h : Option Int), (cutG ls l h).Sublist ls := fun l h => cutG_sub ls l h
    refine ⟨_, t6, ?_⟩
    by_cases w6 : w < 6
    · rw [decide_eq_true w6]
      have ws0 := Wd_split (x := ls[k]) L6t.sp_tl (by decide +kernel)
      obtain ⟨wl, wne, wnl⟩ := split_len (x := ls[k]) (y := " ") L6t.sp_tl (by decide +kernel)
      refine ⟨_, sOwn_of (lSplit_of (a := ls[k]) (b := " ") (ixl _ _ _) rfl (by decide +kernel) (by omega)), ?_⟩
      generalize Txt.split ls[k] " " = ws at *
      have w0' := List.length_pos_iff.mpr wne
      refine ⟨_, sSet_of (odd_eval _), ?_⟩
      generalize hL : ([.str "0", .str "1", .str "00", .str "07", .str "9", .str "-1", .str "", .str "10", .str "demand", .str "offer", .str (Txt.mul "1" 14), .str (Txt.mul "1" 13), .str (Txt.mul "9" 13), .str "x"] : List PyData) = OL
      have oS : ∀ e ∈ OL, ∃ s : Str, e = .str s ∧ s.length ≤ 14 := by rw [← hL]; exact odd_small
      have o0 : OL ≠ [] := by rw [← hL]; simp
      have o1 : OL.length ≤ 1000 := by rw [← hL]; simp
      let R3 (s5 s7 s9 : Sl) : Rho := R2 s5 s7 (.val (.list OL)) s9
      refine thenW_nx ?_
      refine ⟨rfl, _, rfl, one_of (by omega) o0 o1 fun e he n5 l5 => ?_⟩
      obtain ⟨os, rfl, ol⟩ := oS e he
      have lw : eCb fLen (aCons (eL (lOwn 7)) aNil) (R3 (.own (ls.map PyData.str)) (.own (ws.map PyData.str)) .no) = some (.int (ws.length : Nat)) := eCb_of (aCons_of (eL_of rfl) rfl) (by
        show some (PyData.int ((ws.map PyData.str).length : Nat)) = _
        rw [List.length_map])
      refine ⟨_, rfl, rfl, _, lw, _, rfl, by omega, by omega, by omega, fun j n6 j0 j1 l6 => ?_⟩
      obtain ⟨j, rfl⟩ : ∃ i : Nat, j = (i : Int) := ⟨j.toNat, by omega⟩
      refine ⟨_, rfl, j, ixN_nat (by rw [List.length_map]; omega), ?_⟩
      have wset : (ws.map PyData.str).set j (.str os) = (ws.set j os).map PyData.str := (List.map_set ..).symm
      rw [wset]
      have wd := Wd_set (v := os) ws j
      have nl : (Txt.join " " (ws.set j os)).length ≤ BM M := by
        have := join_len L6t.sp_tl (ws.set j os)
        unfold BM
        omega
      have lset : (ls.map PyData.str).set k (.str (Txt.join " " (ws.set j os))) = (ls.set k (Txt.join " " (ws.set j os))).map PyData.str := (List.map_set ..).symm
      have wd2 := Wd_set (v := Txt.join " " (ws.set j os)) ls k
      have put : sPut 5 (eVar 6) (eOp fJoin (eStr " ") (eL (lOwn 7))) (R3 (.own (ls.map PyData.str)) (.own ((ws.set j os).map PyData.str)) .no) = some (.nx (R3 (.own ((ls.set k (Txt.join " " (ws.set j os))).map PyData.str)) (.own ((ws.set j os).map PyData.str)) .no)) := by
        rw [← lset]
        exact sPut_of (k := (k : Int)) (eOp_of rfl (eL_of rfl) (join_fit rfl (by omega))) rfl rfl (by rw [List.length_map]; omega)
      refine ⟨_, put, ?_⟩
      unfold BM at nl
      refine thenW_nx (fin_own (by omega) (hP _ _ (Gd.join (fun z hz => ?_) ?_) (by omega)))
      · rcases List.mem_or_eq_of_mem_set hz with hz | rfl
        · exact all z hz
        · unfold BM
          exact nl
      · unfold BT
        omega
    · rw [decide_eq_false w6]
      have cm : ∀ (l h : Option Int), cutG (ls.map PyData.str) l h = (cutG ls l h).map PyData.str := fun l h => cutG_map _ _ _ _
      have cW : ∀ (l h : Option Int), Wd (cutG ls l h) ≤ x.length + 1 := fun l h => by rw [← ls0]; exact Wd_sub (sub l h)
      have cA : ∀ (l h : Option Int), ∀ z ∈ cutG ls l h, z.length ≤ BM M := fun l h z hz => all z ((sub l h).subset hz)
      have cL : ∀ (l h : Option Int), ((cutG ls l h).map PyData.str).length ≤ ls.length := fun l h => by rw [List.length_map]; exact (sub l h).length_le
      have sl : ∀ (lo hi : Rho → Option (Option Int)) (l h : Option Int) (ρ : Rho), eL (lOwn 5) ρ = some (.list (ls.map PyData.str)) → lo ρ = some l → hi ρ = some h → lSl (eL (lOwn 5)) lo hi ρ = some ((cutG ls l h).map PyData.str) := fun lo hi l h ρ a b c => by
        rw [← cm]
        exact lSl_of a b c
      have t7 : bTest (eOp fEq (eVar 3) (eInt 6)) (R2 (.own (ls.map PyData.str)) .no .no .no) = some (decide (w = 6)) := rfl
      refine ⟨_, t7, ?_⟩
      by_cases w7 : w = 6
      · rw [decide_eq_true w7]
        refine ⟨_, sl _ _ _ _ _ (eL_of rfl) rfl rfl, _, lLst_of (aCons_of (ixl _ _ _) rfl) (by simp), _, rfl, rfl, _, rfl, 11, rfl, by omega, by omega, by omega, fun r n5 r0 r1 l5 => ?_⟩
        obtain ⟨r, rfl⟩ : ∃ i : Nat, r = (i : Int) := ⟨r.toNat, by omega⟩
        have rk : repOk ([PyData.str ls[k]] : List PyData).length (1 + (r : Int)) = true := decide_eq_true ⟨by omega, by omega, by simp⟩
        have fl : (List.replicate (1 + (r : Int)).toNat [PyData.str ls[k]]).flatten = (List.replicate (1 + r) ls[k]).map PyData.str := by
          rw [show (1 + (r : Int)).toNat = 1 + r by omega, List.map_replicate]
          induction (1 + r) with
          | zero => rfl
          | succ q ih => rw [List.replicate_succ, List.replicate_succ, List.flatten_cons, ih]; rfl
        refine ⟨_, rfl, _, rfl, rk, ?_⟩
        rw [fl]
        have c1 := cL none (some (k : Int))
        have c2 := cL (some (k : Int)) none
        refine ⟨_, lim_of ?_, _, sl _ _ _ _ _ (eL_of rfl) rfl rfl, _, lim_of ?_, ?_⟩
        · simp only [List.length_append, List.length_map, List.length_replicate] at c1 c2 ⊢
          omega
        · simp only [List.length_append, List.length_map, List.length_replicate] at c1 c2 ⊢
          omega
        rw [← List.map_append, ← List.map_append]
        have wr : Wd (List.replicate (1 + r) ls[k]) ≤ 11 * (M + 1) := by
          rw [Wd_rep]
          exact Nat.mul_le_mul (by omega) (by omega)
        have d1 := cW none (some (k : Int))
        have d2 := cW (some (k : Int)) none
        have tot : Wd (cutG ls none (some (k : Int)) ++ List.replicate (1 + r) ls[k] ++ cutG ls (some (k : Int)) none) ≤ BT T M := by
          rw [Wd_append, Wd_append]
          unfold BT
          omega
        refine thenW_nx (fin_own (by unfold BT at tot; omega) (hP _ _ (Gd.join (fun z hz => ?_) tot) (by omega)))
        rcases List.mem_append.mp hz with hz | hz
        · rcases List.mem_append.mp hz with hz | hz
          · exact cA _ _ z hz
          · rw [(List.mem_replicate.mp hz).2]
            exact all _ (List.getElem_mem hk)
        · exact cA _ _ z hz
      · rw [decide_eq_false w7]
        have t8 : bTest (eOp fEq (eVar 3) (eInt 7)) (R2 (.own (ls.map PyData.str)) .no .no .no) = some (decide (w = 7)) := rfl
        by_cases w8 : w = 7
        · rw [decide_eq_true w8] at t8
          have c1 := cL none (some (k : Int))
          have c2 := cL (some (k : Int)) (some ((k : Int) + 2))
          have c3 := cL (some ((k : Int) + 2)) none
          have d1 := cW none (some (k : Int))
          have d2 := cW (some (k : Int)) (some ((k : Int) + 2))
          have d3 := cW (some ((k : Int) + 2)) none
          let ys := cutG ls none (some (k : Int)) ++ (cutG ls (some (k : Int)) (some ((k : Int) + 2))).reverse ++ cutG ls (some ((k : Int) + 2)) none
          have ey : lCat (lCat (lSl (eL (lOwn 5)) oNone (oSome (eVar 6))) (lRev (eL (lSl (eL (lOwn 5)) (oSome (eVar 6)) (oSome (eOp fAdd (eVar 6) (eInt 2))))))) (lSl (eL (lOwn 5)) (oSome (eOp fAdd (eVar 6) (eInt 2))) oNone) (R2 (.own (ls.map PyData.str)) .no .no .no) = some (ys.map PyData.str) := by
            have rv : lRev (eL (lSl (eL (lOwn 5)) (oSome (eVar 6)) (oSome (eOp fAdd (eVar 6) (eInt 2))))) (R2 (.own (ls.map PyData.str)) .no .no .no) = some ((cutG ls (some (k : Int)) (some ((k : Int) + 2))).reverse.map PyData.str) := by
              unfold lRev
              rw [eL_of (sl _ _ (some (k : Int)) (some ((k : Int) + 2)) _ (eL_of rfl) rfl rfl), List.map_reverse]
              rfl
            have := lCat_of (lCat_of (sl oNone (oSome (eVar 6)) none (some (k : Int)) (R2 (.own (ls.map PyData.str)) .no .no .no) (eL_of rfl) rfl rfl) rv (by rw [List.map_reverse, List.length_reverse]; omega)) (sl (oSome (eOp fAdd (eVar 6) (eInt 2))) oNone (some ((k : Int) + 2)) none (R2 (.own (ls.map PyData.str)) .no .no .no) (eL_of rfl) rfl rfl) (by rw [List.length_append, List.map_reverse, List.length_reverse]; omega)
            rw [← List.map_append, ← List.map_append] at this
            exact this
          have tot : Wd ys ≤ BT T M := by
            show Wd (_ ++ _ ++ _) ≤ _
            rw [Wd_append, Wd_append, Wd_rev]
            unfold BT
            omega
          refine ⟨_, (sIf_t t8).trans (sOwn_of ey), thenW_nx (fin_own (by unfold BT at tot; omega) (hP _ _ (Gd.join (fun z hz => ?_) tot) (by omega)))⟩
          rcases List.mem_append.mp hz with hz | hz
          · rcases List.mem_append.mp hz with hz | hz
            · exact cA _ _ z hz
            · exact cA _ _ z (List.mem_reverse.mp hz)
          · exact cA _ _ z hz
        · rw [decide_eq_false w8] at t8
          have key : ∀ (a b c e : Option Int), Wd (cutG ls a b ++ cutG ls c e) ≤ BT T M ∧ ∀ z ∈ cutG ls a b ++ cutG ls c e, z.length ≤ BM M := fun a b c e => by
            have d1 := cW a b
            have d2 := cW c e
            refine ⟨by rw [Wd_append]; unfold BT; omega, fun z hz => ?_⟩
            rcases List.mem_append.mp hz with hz | hz
            · exact cA _ _ z hz
            · exact cA _ _ z hz
          have cat : ∀ (f g f' g' : Rho → Option (Option Int)) (a b c e : Option Int), f (R2 (.own (ls.map PyData.str)) .no .no .no) = some a → g (R2 (.own (ls.map PyData.str)) .no .no .no) = some b → f' (R2 (.own (ls.map PyData.str)) .no .no .no) = some c → g' (R2 (.own (ls.map PyData.str)) .no .no .no) = some e → eL (lCat (lSl (eL (lOwn 5)) f g) (lSl (eL (lOwn 5)) f' g')) (R2 (.own (ls.map PyData.str)) .no .no .no) = some (.list ((cutG ls a b ++ cutG ls c e).map PyData.str)) := fun f g f' g' a b c e h1 h2 h3 h4 => by
            have k1 := cL a b
            have k2 := cL c e
            rw [List.map_append]
            exact eL_of (lCat_of (sl _ _ a b _ (eL_of rfl) h1 h2) (sl _ _ c e _ (eL_of rfl) h3 h4) (by omega))
          have n9 : ∃ ys : List Str, Wd ys ≤ BT T M ∧ (∀ z ∈ ys, z.length ≤ BM M) ∧ ∃ s9, sSeq (sSet (gN 9) (eL (lLst (aCons (eL (lCat (lSl (eL (lOwn 5)) oNone (oSome (eVar 6))) (lSl (eL (lOwn 5)) (oSome (eOp fAdd (eVar 6) (eInt 1))) oNone))) (aCons (eL (lCat (lSl (eL (lOwn 5)) oNone (oSome (eOp fAdd (eVar 6) (eInt 1)))) (lSl (eL (lOwn 5)) (oSome (eVar 6)) oNone))) aNil))))) (sSet (gN 5) (eOp fIxL (eVar 9) (eOp fSub (eVar 3) (eInt 8)))) (R2 (.own (ls.map PyData.str)) .no .no .no) = some (.nx (R2 (.val (.list (ys.map PyData.str))) .no .no s9)) := by
            have ev : ∀ X Y : PyData, ∀ α β : Rho → Option PyData, ∀ ρ, α ρ = some X → β ρ = some Y → eL (lLst (aCons α (aCons β aNil))) ρ = some (.list [X, Y]) := fun X Y α β ρ h1 h2 => eL_of (lLst_of (aCons_of h1 (aCons_of h2 rfl)) (by show 2 ≤ 100000; decide))
            have ev := ev _ _ _ _ _ (cat oNone (oSome (eVar 6)) (oSome (eOp fAdd (eVar 6) (eInt 1))) oNone none (some (k : Int)) (some ((k : Int) + 1)) none rfl rfl rfl rfl) (cat oNone (oSome (eOp fAdd (eVar 6) (eInt 1))) (oSome (eVar 6)) oNone none (some ((k : Int) + 1)) (some (k : Int)) none rfl rfl rfl rfl)
            have w9 : w = 8 ∨ w = 9 := by omega
            rcases w9 with rfl | rfl
            · exact ⟨_, (key none (some (k : Int)) (some ((k : Int) + 1)) none).1, (key none (some (k : Int)) (some ((k : Int) + 1)) none).2, _, (sSeq_nx (sSet_of ev)).trans (sSet_of rfl)⟩
            · exact ⟨_, (key none (some ((k : Int) + 1)) (some (k : Int)) none).1, (key none (some ((k : Int) + 1)) (some (k : Int)) none).2, _, (sSeq_nx (sSet_of ev)).trans (sSet_of rfl)⟩
          obtain ⟨ys, tot, ay, s9, ey⟩ := n9
          exact ⟨_, (sIf_f t8).trans ey, thenW_nx (fin_val (by unfold BT at tot; omega) (hP _ _ (Gd.join ay tot) (by omega)))⟩
end
end L67

set_option Elab.async false
set_option linter.all false
set_option maxRecDepth 100000
namespace L6t
open PySem PySem.Spec PyProof.Rows L2 Pb Pt L67
section
variable {m : Nat} {os : List (List Int)} {ps qs : List Int}
theorem dep_ints (l : List Int) : PyData.depthAll (l.map PyData.int) = 0 := by
  induction l with
  | nil => rfl
  | cons x l ih => simp [PyData.depthAll, PyData.depth, ih]
theorem nod_ints (l : List Int) : PyData.hasDictAll (l.map PyData.int) = false := by
  induction l with
  | nil => rfl
  | cons x l ih => simp [PyData.hasDictAll, PyData.hasDict, ih]
theorem okX_ints (l : List Int) : okXs (l.map PyData.int) = true := by
  induction l with
  | nil => rfl
  | cons x l ih => simp [okXs, okX, ih]
theorem dep_offs (os : List (List Int)) : PyData.depthAll (os.map offD) ≤ 1 := by
  induction os with
  | nil => exact Nat.zero_le _
  | cons o os ih =>
    have := dep_ints o
    simp only [List.map_cons, PyData.depthAll, offD, PyData.depth, this]
    omega
theorem nod_offs (os : List (List Int)) : PyData.hasDictAll (os.map offD) = false := by
  induction os with
  | nil => rfl
  | cons o os ih => simp [PyData.hasDictAll, PyData.hasDict, offD, nod_ints, ih]
theorem okX_offs : ∀ (os : List (List Int)), (∀ o ∈ os, o.length ≤ 10) → okXs (os.map offD) = true
  | [], _ => rfl
  | o :: os, h => by
    have := h o List.mem_cons_self
    have ih := okX_offs os fun x hx => h x (List.mem_cons_of_mem _ hx)
    simp only [List.map_cons, okXs, offD, okX, okX_ints, ih, List.length_map, Bool.and_true]
    exact decide_eq_true (by omega)
set_option maxHeartbeats 4000000 in
end
end L6t

set_option Elab.async false
set_option linter.all false
set_option maxRecDepth 100000
namespace L67
open PySem PySem.Spec PyProof.Rows L2 Pb Pt L6t
/-! ### both sides tell the same, of any value -/
/-- what is drawn: no text, or a text that is not too long -/
def GV (e : PyData) : Prop := (∃ z, e = .str z ∧ Gd 60000 880 z) ∨ isI "str" e = false
theorem row_le {m : Nat} {ws : List Str} {p : Row} (h : rowT m ws = some p) : p.2.length ≤ m := by
  unfold rowT rowN at h
  split at h
  · split at h
    · rename_i z
      cases h
      rw [Bool.and_eq_true] at z
      have := ascB_iff.mp z.2
      exact OffOk.len ⟨fun i hi => this.1 i hi, this.2⟩
    · cases h
  · cases h
theorem rows_in (m : Nat) : ∀ (ls : List (List Str)) (i n : Nat) (ps : List Row), rowsT m i n ls = .inr ps → ∀ p ∈ ps, p.2.length ≤ m
  | [], i, n, ps, h => by
    cases h
    exact fun p hp => absurd hp List.not_mem_nil
  | ws :: ls, i, n, ps, h => by
    unfold rowsT at h
    split at h
    · cases h
    · rename_i p0 e0
      split at h
      · cases h
      · split at h
        · cases h
        · rename_i rs e
          cases h
          have ih := rows_in m ls (i + 1) (n + 1) rs e
          intro p hp
          rcases List.mem_cons.mp hp with rfl | hp
          · exact row_le e0
          · exact ih p hp
theorem same_bad (o : PyData) (h : o = .none ∨ ∃ i : Int, o = .int i) : fSameX 6 [.tuple [.str "bad", o], .tuple [.str "bad", o]] = some (.bool true) := by
  rcases h with rfl | ⟨i, rfl⟩
  · exact fSameX_of (by simp [PyData.depth, PyData.depthAll]) rfl rfl
  · exact fSameX_of (by simp [PyData.depth, PyData.depthAll]) rfl rfl
theorem same_ord {o : List Int} (h : o.length ≤ 10) : fSameX 6 [.tuple [.str "told", offD o], .tuple [.str "told", offD o]] = some (.bool true) := by
  refine fSameX_of ?_ ?_ ?_
  · simp [offD, PyData.depth, PyData.depthAll, dep_ints]
  · simp only [offD, okX, okXs, okX_ints, List.length_map, List.length_cons, List.length_nil, Bool.and_true, Bool.true_and, Bool.and_eq_true, decide_eq_true_eq]
    omega
  · simp [offD, PyData.hasDict, PyData.hasDictAll, nod_ints]
theorem same_prog (ls : List (List Str)) (last : Bool) : fSameX 6 [outL (progT ls last), outL (progT ls last)] = some (.bool true) := by
  unfold progT
  obtain ⟨q10, ql⟩ := lead_len 10 ls
  by_cases z : leadT 10 ls = []
  · simp only [if_pos z]
    exact same_bad _ (.inr ⟨_, rfl⟩)
  · simp only [if_neg z]
    split
    · exact same_bad _ (.inr ⟨_, rfl⟩)
    · rename_i ps e
      split
      · have p10 := rows_n _ _ _ 0 ps (by omega) e
        have pin := rows_in _ _ _ _ ps e
        generalize leadT 10 ls = qs at *
        show fSameX 6 [.tuple [.str "told", .tuple [tabD (qs.length : Nat) (ps.map (·.2)), offD (ps.map (·.1)), offD qs]], _] = _
        refine fSameX_of ?_ ?_ ?_
        · have a := dep_offs (ps.map (·.2))
          have b := dep_ints (ps.map (·.1))
          have c := dep_ints qs
          simp only [tabD, offD, PyData.depth, PyData.depthAll, b, c]
          omega
        · have a := okX_offs (ps.map (·.2)) fun o ho => by
            obtain ⟨p, hp, rfl⟩ := List.mem_map.mp ho
            have := pin p hp
            omega
          simp only [tabD, offD, okX, okXs, okX_ints, a, List.length_map, List.length_cons, List.length_nil, Bool.and_true, Bool.true_and, Bool.and_eq_true, decide_eq_true_eq]
          omega
        · have n1 := nod_offs (ps.map (·.2))
          have n2 := nod_ints (ps.map (·.1))
          have n3 := nod_ints qs
          simp only [tabD, offD, PyData.hasDict, PyData.hasDictAll, n1, n2, n3, Bool.or_false]
      · exact same_bad _ (.inr ⟨_, rfl⟩)
theorem outQ_bad (e : PyData) : outQ (some (.excF "BadText" "line" e)) = some (.tuple [.str "bad", e]) := by
  unfold outQ
  exact if_pos ⟨rfl, rfl⟩
theorem out_eq (X : Nat ⊕ (List Int × List Row)) : outQ (some (outP X)) = some (outL X) := by
  rcases X with i | ⟨qs, ps⟩
  · exact outQ_bad _
  · rfl
theorem no_str {e : PyData} (h : isI "str" e = false) (i : Int) : r_parse_data [e] = some (.excF "BadText" "line" .none) ∧ r_parse_order [e] = some (.excF "BadText" "line" .none) ∧ q__law_due [.int i, e] = some (.tuple [.str "bad", .none]) := by
  have f : ∀ ρ : Rho, ∀ j, ρ[j]? = some (.val e) → bNot (bTest (eUn (fIsi "str") (eVar j))) ρ = some true := fun ρ j hj => by
    have : eVar j ρ = some e := by show rv ρ j = _; unfold rv; rw [hj]
    exact bNot_of (b := false) (bTest_of (by
      unfold eUn
      rw [this]
      show some (PyData.bool (isI "str" e)) = _
      rw [h]))
  refine ⟨?_, ?_, ?_⟩
  · exact runX_excF rfl (xSeq_ex ((xIf_t (f _ 0 rfl)).trans (xRaise1_of rfl)))
  · exact runX_excF rfl (xSeq_ex ((xIf_t (f _ 0 rfl)).trans (xRaise1_of rfl)))
  · exact runF_of rfl (sSeq_rt ((sIf_t (f _ 1 rfl)).trans (sRet_of (eTup2_of rfl rfl))))
theorem q_due0 {v : Str} {r : PyData} (h : q__law_read_data [.str v] = some r) : q__law_due [.int 0, .str v] = some r :=
  runF_of rfl ((sSeq_nx ((sIf_f rfl).trans rfl)).trans (sSeq_rt ((sIf_t rfl).trans (sRet_of (eCb_of (aCons_of rfl rfl) h)))))
theorem both {e : PyData} (h : GV e) (i : Int) (hi : i = 0 ∨ i = 1) : ∃ D, q_told [.int i, e] = some D ∧ q__law_due [.int i, e] = some D ∧ fSameX 6 [D, D] = some (.bool true) := by
  rcases h with ⟨v, rfl, g⟩ | h
  · have vl := g.len
    rcases hi with rfl | rfl
    · have ll := lines_len (M := 880) (x := v) L6t.nl_tl (by decide +kernel) g.seg
      obtain ⟨_, ne, _⟩ := split_len (x := v) (y := "\n") L6t.nl_tl (by decide +kernel)
      obtain ⟨zs, w, e⟩ : ∃ zs w, Txt.split v "\n" = zs ++ [w] := ⟨_, _, (List.dropLast_concat_getLast ne).symm⟩
      rw [e] at ll
      have hw : ∀ z ∈ zs, (cut z).length ≤ 900 := fun z hz => by
        have h1 := (ll z (List.mem_append_left _ hz)).1
        obtain ⟨_, _, h2⟩ := split_len (x := z) (y := " ") L6t.sp_tl (by decide +kernel)
        show (Txt.split z " ").length ≤ 900
        omega
      have p1 := r_pdata (v := v) (by omega) e
      have p2 := q_read (v := v) (by omega) e hw
      have p3 := read_eq (zs.map cut) (decide (w = ""))
      rw [List.length_map] at p3
      rw [p3] at p2
      refine ⟨_, ?_, q_due0 p2, same_prog _ _⟩
      show outQ (r_parse_data [.str v]) = _
      rw [p1]
      exact out_eq _
    · have p1 := r_porder (v := v) (by omega)
      have p2 := q_due1 (v := v) (by omega)
      cases o : ordT (Txt.split v ">") with
      | none =>
        rw [o] at p1 p2
        refine ⟨_, ?_, p2, same_bad _ (.inr ⟨_, rfl⟩)⟩
        show outQ (r_parse_order [.str v]) = _
        rw [p1]
        exact outQ_bad _
      | some ns =>
        rw [o] at p1 p2
        refine ⟨_, ?_, p2, same_ord ?_⟩
        · show outQ (r_parse_order [.str v]) = _
          rw [p1]
          rfl
        · unfold ordT at o
          split at o
          · rename_i z
            cases o
            rw [Bool.and_eq_true, decide_eq_true_iff] at z
            rw [List.length_map]
            exact z.1
          · cases o
  · obtain ⟨a, b, c⟩ := no_str h i
    refine ⟨_, ?_, c, same_bad _ (.inl rfl)⟩
    rcases hi with rfl | rfl
    · show outQ (r_parse_data [e]) = _
      rw [a]
      exact outQ_bad _
    · show outQ (r_parse_order [e]) = _
      rw [b]
      exact outQ_bad _
end L67

set_option Elab.async false
set_option linter.all false
set_option maxRecDepth 100000
namespace L67
open PySem PySem.Spec PyProof.Rows L2 Pb Pt L6t
theorem gv_str {T M : Nat} {z : Str} (g : Gd T M z) (hT : T ≤ 60000) (hM : M ≤ 880) : GV (.str z) := .inl ⟨z, rfl, g.mono hT hM⟩
theorem gv_odd {e : PyData} (h : e ∈ oddL) : GV e := by
  simp only [oddL, List.mem_cons, List.not_mem_nil, or_false] at h
  rcases h with rfl | rfl | rfl | rfl | rfl | rfl | rfl | rfl | rfl | rfl | rfl | rfl | rfl | rfl | rfl | rfl | rfl | rfl | rfl | rfl | rfl | rfl | rfl <;> first | exact .inr rfl | exact gv_str (Gd.short (T := 10) (by decide +kernel)) (by decide) (by decide)
theorem gd_nums {xs : List Int} (h : ∀ x ∈ xs, Am x) (hl : xs.length ≤ 14) : Gd 200 200 (Txt.join ">" (nums xs)) := by
  refine Gd.short ?_
  have h1 := join_len gt_tl (nums xs)
  have h2 := nums_len h
  rw [Wd_sum, List.length_map (as := xs)] at h1
  omega
theorem upto_am {n : Nat} (h : n ≤ 20) : ∀ x ∈ upto n, Am x := fun x hx => by
  have := mem_ints.mp hx
  show 0 ≤ x ∧ x ≤ 1000000000000
  omega
/-- the numbers' words, drawn -/
theorem lcw_txt {ρ : Rho} {v : Nat} {φ : Rho → Option PyData} {n : Int} : ∀ {xs : List Int} {P : List PyData → Int → Prop}, (∀ x ∈ xs, Am x) → (∀ x ∈ xs, ∃ ρ', gN v (.int x) ρ = some ρ' ∧ φ ρ' = some (.int x)) → P ((nums xs).map PyData.str) n → lcW (gN v) bYes (wP (eCb fStrI (aCons φ aNil))) ρ (xs.map PyData.int) n P
  | [], P, _, _, h => h
  | x :: xs, P, hA, hφ, h => by
    obtain ⟨ρ', h1, h2⟩ := hφ x List.mem_cons_self
    exact lcW_yes h1 ⟨_, eCb_of (aCons_of h2 rfl) (str_i (hA x List.mem_cons_self)), lcw_txt (fun y hy => hA y (List.mem_cons_of_mem _ hy)) (fun y hy => hφ y (List.mem_cons_of_mem _ hy)) h⟩
theorem tx_gd {m : Nat} {os : List (List Int)} {ps qs : List Int} (t : Tb m os) (hp : ps.length = os.length) (hq : qs.length = m) (Ap : ∀ x ∈ ps, Am x) (Aq : ∀ x ∈ qs, Am x) : Gd 4100 201 (TX ps qs os) := by
  have e : TX ps qs os = Txt.join "\n" (LN ps qs os ++ [("" : Str)]) := text_join _
  have tl := t.len
  have m10 := t.m10
  have ll := len_LN t hp hq
  have bl := LN_len t Ap Aq
  have w : Wd (LN ps qs os ++ [("" : Str)]) ≤ 4100 := by
    have := sum_len bl
    rw [Wd_append, Wd_sum]
    have e0 : Wd [("" : Str)] = 1 := rfl
    rw [e0]
    omega
  rw [e]
  refine Gd.join (fun z hz => ?_) w
  rcases List.mem_append.mp hz with hz | hz
  · have := bl z hz
    omega
  · rw [List.mem_singleton.mp hz]
    decide
abbrev lawIt : Rho → Option PyData := eOp fJoin (eStr ">") (eL (lLc [11] (iR (eVar 14)) (gN 11) bYes (eCb fStrI (aCons (eVar 11) aNil))))
theorem long_ev (d : Addr) : ∃ L : List PyData, L.length = 2 ∧ (∀ e ∈ L, GV e) ∧ lLc [14] (iT (eTup (aCons (eInt 10) (aCons (eInt 11) aNil)))) (gN 14) bYes lawIt (rhoL 16 d) = some L := by
  have one : ∀ (n : Nat), n ≤ 13 → lawIt [.no, .deck d, .no, .no, .no, .no, .no, .no, .no, .no, .no, .no, .no, .no, .val (.int (n : Int)), .no] = some (.str (Txt.join ">" (nums (upto n)))) := fun n hn => by
    have A := upto_am (n := n) (by omega)
    have l := lc_nums (ρ := [.no, .deck d, .no, .no, .no, .no, .no, .no, .no, .no, .no, .no, .no, .no, .val (.int (n : Int)), .no]) (v := 11) (it := iR (eVar 14)) (φ := eVar 11) (xs := upto n) (by
      have := iR_of (φ := eVar 14) (ρ := [.no, .deck d, .no, .no, .no, .no, .no, .no, .no, .no, .no, .no, .no, .no, .val (.int (n : Int)), .no]) (j := (n : Int)) rfl (by omega)
      rw [this, rng_ints]) (by rw [ints_len]; omega) A (fun x _ => ⟨_, rfl, rfl⟩)
    refine eOp_of rfl (eL_of l) (join_fit (by decide +kernel) ?_)
    have h2 := nums_len A
    rw [Wd_sum, List.length_map (as := upto n)]
    rw [ints_len] at *
    omega
  refine ⟨_, ?_, ?_, Pf.lLc_at (α := Nat) (fun n => .int (n : Int)) (fun e => match e with | .int i => i.toNat | _ => 0) (fun a => rfl) (l := [10, 11]) (fun _ => true) (fun n => .str (Txt.join ">" (nums (upto n)))) rfl (by simp) (fun a ha => ?_)⟩
  · rfl
  · intro e he
    obtain ⟨n, hn, rfl⟩ := List.mem_map.mp he
    have : n ≤ 11 := by
      have := (List.mem_filter.mp hn).1
      simp at this
      omega
    exact gv_str (gd_nums (upto_am (by omega)) (by rw [ints_len]; omega)) (by decide) (by decide)
  · have : a ≤ 11 := by
      simp at ha
      omega
    exact ⟨_, rfl, rfl, fun _ => one a (by omega)⟩
theorem law_pure (d : Addr) : w_law d (rhoL 16 d) 0 fun r _ => r = .rt (.bool true) := by
  obtain ⟨L, L2, LG, Le⟩ := long_ev d
  refine ⟨_, sOwn_of Le, ?_⟩
  refine ⟨rngD 0 4, iR_of rfl (by decide), forW_ind (fun es ρ n => ∃ s3 s4 s5 s6 s7 s8 s9 s10 s11 s12 s13 s14 s15 : Sl, ρ = [.no, .deck d, .own L, s3, s4, s5, s6, s7, s8, s9, s10, s11, s12, s13, s14, s15] ∧ n + 3000 * es.length ≤ 30000) ?_ ?_ _ _ _ ⟨_, _, _, _, _, _, _, _, _, _, _, _, _, rfl, by rw [rngD_len]; omega⟩⟩
  · rintro ρ n ⟨s3, s4, s5, s6, s7, s8, s9, s10, s11, s12, s13, s14, s15, rfl, hn⟩
    exact ⟨_, rfl, rfl⟩
  · rintro e es ρ n ⟨s3, s4, s5, s6, s7, s8, s9, s10, s11, s12, s13, s14, s15, rfl, hn0⟩ Q ih
    rw [List.length_cons] at hn0
    refine ⟨_, rfl, ?_⟩
    refine ⟨rfl, _, rfl, _, rfl, 10, 10, rfl, by omega, by omega, by omega, by omega, fun m os n1 m1 m8 ol oko le1 => ⟨_, rfl, ?_⟩⟩
    have t : Tb m os := ⟨m1, by omega, ol, oko⟩
    refine ⟨rfl, _, rfl, data t (by omega) fun ps qs n2 hp hq ip iq le2 => ⟨_, rfl, ?_⟩⟩
    have Ap : ∀ x ∈ ps, Am x := fun x hx => ip x hx
    have Aq : ∀ x ∈ qs, Am x := fun x hx => iq x hx
    refine ⟨rfl, _, rfl, rfl, _, rfl, 10, rfl, by omega, by omega, by omega, fun x n3 x0 x1 le3 => ⟨_, rfl, ?_⟩⟩
    obtain ⟨k, rfl⟩ : ∃ k : Nat, x = (k : Int) := ⟨x.toNat, by omega⟩
    refine ⟨1 + k, ?_, by omega, by omega, fun o n4 ho le4 => ?_⟩
    · rw [show ((1 + k : Nat) : Int) = 1 + (k : Int) by omega]
    have oin : ∀ x ∈ o, 0 ≤ x ∧ x < 14 := fun x hx => by
      have := mem_ints.mp (ho.mem_iff.mp hx)
      omega
    have ol : o.length = 1 + k := by rw [ho.length_eq, ints_len]
    have Ao : ∀ x ∈ o, Am x := fun x hx => by
      have := oin x hx
      show 0 ≤ x ∧ x ≤ 1000000000000
      omega
    have go := gd_nums Ao (by omega)
    refine ⟨_, rfl, by rw [List.length_map]; omega, lcw_txt Ao (fun x _ => ⟨_, rfl, rfl⟩) ?_⟩
    have fj : fJoin (.str ">") (.list ((nums o).map PyData.str)) = some (.str (Txt.join ">" (nums o))) := join_fit (by decide +kernel) (by
      have h2 := nums_len Ao
      rw [Wd_sum, List.length_map (as := o)]
      omega)
    refine ⟨_, fj, _, rfl, ?_⟩
    have gx := tx_gd t hp hq Ap Aq
    let X : PyData := .str (TX ps qs os)
    let Y : PyData := .str (Txt.join ">" (nums o))
    refine ⟨_, sSet_of (eL_of (lLst_of (aCons_of (x := X) (eCb_of (aCons_of rfl (aCons_of rfl (aCons_of rfl rfl))) (q_lawtext t hp hq Ap Aq)) (aCons_of (x := Y) rfl rfl)) (by show 2 ≤ 100000; decide))), ?_⟩
    let r (s9 s10 s11 s12 s13 s14 s15 : Sl) : Rho := [.no, .deck d, .own L, .val e, .val (tabD m os), .val (offD ps), .val (offD qs), .val Y, .val (.list [X, Y]), s9, s10, s11, s12, s13, s14, s15]
    have r2 : rngD 0 2 = [.int 0, .int 1] := rfl
    refine ⟨rngD 0 2, iR_of rfl (by decide), forW_ind (fun es' ρ n' => (∀ e' ∈ es', e' = .int 0 ∨ e' = .int 1) ∧ ∃ s9 s10 s11 s12 s13 s14 s15 : Sl, ρ = r s9 s10 s11 s12 s13 s14 s15 ∧ n' + 500 * es'.length + 3000 * es.length ≤ 29500) ?_ ?_ _ _ _ ⟨fun e' he' => ?_, _, _, _, _, _, _, _, rfl, by rw [rngD_len]; omega⟩⟩
    rotate_left 2
    · rw [r2] at he'
      simpa using he'
    · rintro ρ n5 ⟨_, s9, s10, s11, s12, s13, s14, s15, rfl, hn5⟩
      exact ih _ _ ⟨_, _, _, _, _, _, _, _, _, _, _, _, _, rfl, by rw [List.length_nil] at hn5; omega⟩
    · rintro e9 es9 ρ n5 ⟨hb, s9, s10, s11, s12, s13, s14, s15, rfl, hn5⟩ Q9 ih9
      rw [List.length_cons] at hn5
      have hb' : ∀ e' ∈ es9, e' = .int 0 ∨ e' = .int 1 := fun e' h => hb e' (List.mem_cons_of_mem _ h)
      have key : ∃ (i : Int) (A B : Str), e9 = .int i ∧ (i = 0 ∨ i = 1) ∧ Gd 4100 201 A ∧ Gd 4100 201 B ∧ (∀ s10 s11 s12 s13 s14 s15, eOp fIxL (eVar 8) (eVar 9) (r (.val (.int i)) s10 s11 s12 s13 s14 s15) = some (.str A)) ∧ (∀ s10 s11 s12 s13 s14 s15, eOp fIxL (eVar 8) (eOp fSub (eInt 1) (eVar 9)) (r (.val (.int i)) s10 s11 s12 s13 s14 s15) = some (.str B)) := by
        have go' := go.mono (U := 4100) (N := 201) (by decide) (by decide)
        rcases hb e9 List.mem_cons_self with rfl | rfl
        · exact ⟨0, _, _, rfl, .inl rfl, gx, go', fun _ _ _ _ _ _ => rfl, fun _ _ _ _ _ _ => rfl⟩
        · exact ⟨1, _, _, rfl, .inr rfl, go', gx, fun _ _ _ _ _ _ => rfl, fun _ _ _ _ _ _ => rfl⟩
      obtain ⟨i, A, B, rfl, hi, gA, gB, ixA, ixB⟩ := key
      have lA := gA.len
      refine ⟨_, rfl, ?_⟩
      refine ⟨_, ixA _ _ _ _ _ _, _, ixB _ _ _ _ _ _, _, eSlX_of (l := none) (h := some (-1)) (ixA _ _ _ _ _ _) rfl rfl (by omega), rfl, rfl, by omega, fun eo n6 ho6 l6 => ⟨_, rfl, _, lim_of (by show 5 ≤ 100000; decide), _, rfl, _, lim_of (by rw [List.length_append, L2]; show 5 + 2 ≤ 100000; decide), ?_⟩⟩
      generalize hl0 : ([.str A, .str B, .str (cutS A none (some (-1))), eo, .str ""] : List PyData) ++ L = l0
      have g0 : ∀ e ∈ l0, GV e := fun e he => by
        rw [← hl0] at he
        rcases List.mem_append.mp he with he | he
        · simp only [List.mem_cons, List.not_mem_nil, or_false] at he
          rcases he with rfl | rfl | rfl | rfl | rfl
          · exact gv_str gA (by decide) (by decide)
          · exact gv_str gB (by decide) (by decide)
          · exact gv_str (gA.cut _ _) (by decide) (by decide)
          · exact gv_odd ho6
          · exact gv_str (Gd.short (T := 10) (by decide +kernel)) (by decide) (by decide)
        · exact LG e he
      have len0 : l0.length = 7 := by rw [← hl0, List.length_append, L2]; rfl
      refine ⟨rngD 0 7, iR_of rfl (by decide), forW_ind (fun es' ρ n' => ∃ (l : List PyData) (s11 s12 s13 s14 s15 : Sl), ρ = r (.val (.int i)) (.own l) s11 s12 s13 s14 s15 ∧ (∀ e ∈ l, GV e) ∧ l.length + es'.length ≤ 14 ∧ n' + 20 * es'.length + 500 * es9.length + 3000 * es.length ≤ 29200) ?_ ?_ _ _ _ ⟨l0, _, _, _, _, _, rfl, g0, by rw [rngD_len, len0]; omega, by rw [rngD_len]; omega⟩⟩
      · rintro ρ n7 ⟨l, s11, s12, s13, s14, s15, rfl, gl, ll, hn7⟩
        rw [List.length_nil] at ll hn7
        have kk := forR_run (B := fun e ρ => (gN 13 e ρ).bind (sIf (bNot (bTest (eCb (fSameX 6) (aCons (eCb q_told (aCons (eVar 9) (aCons (eVar 13) aNil))) (aCons (eCb q__law_due (aCons (eVar 9) (aCons (eVar 13) aNil))) aNil))))) (sRet (eBl false)) sNil))
          (fun es σ => (∀ e ∈ es, GV e) ∧ ∃ s13, σ = r (.val (.int i)) (.val (.list l)) s11 s12 s13 s14 s15) (by
            rintro e' es' σ ⟨ge, s13, rfl⟩
            refine ⟨r (.val (.int i)) (.val (.list l)) s11 s12 (.val e') s14 s15, ?_, fun x hx => ge x (List.mem_cons_of_mem _ hx), _, rfl⟩
            show sIf _ _ _ (r (.val (.int i)) (.val (.list l)) s11 s12 (.val e') s14 s15) = _
            obtain ⟨D, d1, d2, d3⟩ := both (ge e' List.mem_cons_self) i hi
            have a1 : bNot (bTest (eCb (fSameX 6) (aCons (eCb q_told (aCons (eVar 9) (aCons (eVar 13) aNil))) (aCons (eCb q__law_due (aCons (eVar 9) (aCons (eVar 13) aNil))) aNil)))) (r (.val (.int i)) (.val (.list l)) s11 s12 (.val e') s14 s15) = some false := bNot_of (bTest_of (eCb_of (aCons_of (eCb_of (aCons_of rfl (aCons_of rfl rfl)) d1) (aCons_of (eCb_of (aCons_of rfl (aCons_of rfl rfl)) d2) rfl)) d3))
            exact (sIf_f a1).trans rfl) l (r (.val (.int i)) (.val (.list l)) s11 s12 s13 s14 s15) ⟨gl, _, rfl⟩
        obtain ⟨ρ', kk, _, s13', rfl⟩ := kk
        exact ⟨l, rfl, _, sFor_of rfl kk, ih9 _ _ ⟨hb', _, _, _, _, _, _, _, rfl, by omega⟩⟩
      · rintro e11 es11 ρ n7 ⟨l, s11, s12, s13, s14, s15, rfl, gl, ll, hn7⟩ Q11 ih11
        rw [List.length_cons] at ll hn7
        refine ⟨_, rfl, ?_⟩
        refine ⟨rfl, _, ixA _ _ _ _ _ _, changed gA (by decide) (by decide) (by omega) fun y n8 gy l8 => ⟨_, rfl, ?_⟩⟩
        refine ⟨_, rfl, by omega, _, rfl, rfl, _, rfl, changed gy (by decide) (by decide) (by omega) fun z n9 gz l9 => ⟨_, lim_of (by show 2 ≤ 100000; decide), rfl, _, rfl, 2, rfl, by omega, by omega, by omega, fun j n10 j0 j1 l10 => ?_⟩⟩
        have jj : j = 0 ∨ j = 1 := by omega
        have fin : ∀ x : Str, GV (.str x) → ∀ e ∈ l ++ [PyData.str x], GV e := fun x gx e he => by
          rcases List.mem_append.mp he with he | he
          · exact gl e he
          · rw [List.mem_singleton.mp he]
            exact gx
        rcases jj with rfl | rfl
        · exact ⟨_, rfl, ih11 _ _ ⟨_, _, _, _, _, _, rfl, fin y (gv_str gy (by decide) (by decide)), by rw [List.length_append, List.length_singleton]; omega, by omega⟩⟩
        · exact ⟨_, rfl, ih11 _ _ ⟨_, _, _, _, _, _, rfl, fin z (gv_str gz (by decide) (by decide)), by rw [List.length_append, List.length_singleton]; omega, by omega⟩⟩
end L67

set_option Elab.async false
set_option linter.all false
set_option maxRecDepth 100000
namespace L67
open PySem PySem.Spec PyProof.Rows L2 Pb
section
variable {P : Program} {w : World} {K : PySem.W.Frag} {mg : Str → Option Value} {base : Heap}
abbrev sDeck : Stmt := topS 29
theorem scDeck : FnScope ["_law_script", "_law_cells", "_law_cell"] ["_law_script"] (defScope sDeck) := ⟨rfl, rfl, rfl, by decide +kernel, rfl, by decide +kernel, by decide +kernel⟩
set_option maxHeartbeats 1000000 in
theorem ok_deck {f : Addr} {fd : FuncData} (F : Fun K "_law_deck" "_law_deck" sDeck f fd) (B : Bn mg) : FnOk P w K mg base CX0 1 f fd ["_law_script"] (spDeck K) := by
  refine F.ok scDeck (fun vs H Q E h => ?_) (fun cdv A outer s H vs Q E hr h => ?_)
  · obtain ⟨a, ns, rfl, _⟩ := h
    rfl
  · obtain ⟨a, ns, rfl, hS, hl, q⟩ := h
    have nd := scDeck.nd
    refine ⟨_, (pss_cons (ps_setLc (i := 1) (own := [("_law_cell", 2)]) (g := gName 2) rfl nd rfl rfl (sw_true rfl rfl rfl (by decide +kernel)) (pi_list (pv 0)) (blkOk_by (own := [("_law_cell", 2)]) (N := ["_law_script", "_law_cells", "_law_cell"]) (sc := defScope sDeck) (by decide +kernel)) (fun _ _ _ _ _ => (pg_name (i := 2) nd rfl (Or.inl rfl))) (fun _ _ _ _ _ => pts_nil) (fun _ _ _ _ _ => (pe_callB call_abs rfl B.abs bt_abs (pa_cons (pv 2) pa_nil))))
      (pss_one (ps_ret (pe_lst (pa_cons (pe_lc (own := [("_law_cell", 2)]) (g := gName 2) rfl nd (pi_list (pv 1)) (blkOk_by (own := [("_law_cell", 2)]) (N := ["_law_script", "_law_cells", "_law_cell"]) (sc := defScope sDeck) (by decide +kernel)) (fun _ _ _ _ _ => (pg_name (i := 2) nd rfl (Or.inl rfl))) (fun _ _ _ _ _ => pts_one (pt_cmpR op_ge (pv 2) (pe_op op_pow pe_int pe_int) (nomark _))) (fun _ _ _ _ _ => (pv 2))) (pa_cons (pe_op op_cat (pv 1) (pe_lst (pa_cons (pe_op op_add (pe_callB call_len_seq rfl B.len bt_len (pa_cons (pv 1) pa_nil)) pe_int) pa_nil))) (pa_cons pe_int pa_nil))))))), ?_⟩
    refine Evl.q_asgL (Evl.el_lcL (fun _ => true) (fun i => .int (if ns.getD i 0 < 0 then -(ns.getD i 0) else ns.getD i 0)) (Evl.ev_var rfl) hS (by rw [List.length_map]; omega) (fun x => rfl)
      (fun i x H1 _ _ H2 _ Q q => q H2 (Evl.Ex.refl _)) (fun i x H1 _ hx _ H2 e2 Q q => ?_)) (fun c0 H1 hp e1 h1 => ?_)
    · rw [ints_at hx]
      exact ⟨_, rfl, _, rfl, q H2 (Evl.Ex.refl _)⟩
    · rw [given_ints] at h1
      generalize hcs : ((List.range (ns.map V.int).length).filter (fun _ => true)).map (fun i => if ns.getD i 0 < 0 then -(ns.getD i 0) else ns.getD i 0) = cs at h1
      have cl : cs.length ≤ 63 := by
        rw [← hcs, List.length_map]
        refine Nat.le_trans (List.length_filter_le _ _) ?_
        rw [List.length_range, List.length_map]
        exact hl
      dsimp only [tRet, tLst, tCons]
      refine Evl.el_lcL (K := K) (a := c0) (xs := cs.map V.int) (fun i => decide ((10 : Int) ^ 18 ≤ cs.getD i 0)) (fun i => .int (cs.getD i 0)) (Evl.ev_var rfl) (SqL.of h1) (by rw [List.length_map]; omega) (fun x => by rfl)
        (fun i x H2 _ hx H3 e3 Q q => ?_) (fun i x H2 _ hx _ H3 e3 Q q => ?_) H1 (Evl.Ex.refl _) _ (fun b H2 hb e2 h2 => ?_)
      · rw [ints_at hx]
        exact ⟨_, rfl, 10, 18, rfl, rfl, ⟨by decide, by decide, by decide⟩, _, _, rfl, rfl, _, rfl, q H3 (Evl.Ex.refl _)⟩
      · rw [ints_at hx]
        exact ⟨_, rfl, q H3 (Evl.Ex.refl _)⟩
      · rw [given_ints] at h2
        have h12 := e2 _ _ h1
        refine ⟨.ref c0, rfl, .ref c0, rfl, c0, _, rfl, .inl (SqL.of h12), _, 7, rfl, rfl, sz (n := 1) (by decide), fun p np => ?_⟩
        have h13 := same_upd (o := .lst [V.int (((cs.map V.int).length : Int) + 7)]) np _ _ h12
        refine ⟨c0, p, _, _, rfl, rfl, h13, upd_same, ?_, fun c nc => ?_⟩
        · rw [List.length_map]
          exact Nat.le_of_lt (small1000 (by simp; omega))
        · refine ⟨sz (n := 3) (by decide), fun d ndd => ?_⟩
          have s1 : Same H H1 := e1
          have s2 : Same H1 H2 := e2
          have s3 : Same H2 (upd H2 p (.lst [V.int (((cs.map V.int).length : Int) + 7)])) := same_upd np
          generalize upd H2 p (.lst [V.int (((cs.map V.int).length : Int) + 7)]) = H3 at *
          have s4 : Same H3 (upd H3 c (.lst ((cs.map V.int) ++ [V.int (((cs.map V.int).length : Int) + 7)]))) := same_upd nc
          have hc4 : (upd H3 c (.lst ((cs.map V.int) ++ [V.int (((cs.map V.int).length : Int) + 7)]))) c = some (.lst ((cs ++ [((cs.map V.int).length : Int) + 7]).map V.int)) := by
            rw [upd_same, List.map_append]
            rfl
          have hb4 := s4 _ _ (s3 _ _ h2)
          have nbc : b ≠ c := fun z => by
            rw [z] at h2
            rw [s3 _ _ h2] at nc
            cases nc
          show Q (.ref d) (upd (upd H3 c (.lst ((cs.map V.int) ++ [V.int (((cs.map V.int).length : Int) + 7)]))) d (.lst [.ref b, .ref c, .int 0]))
          generalize upd H3 c (.lst ((cs.map V.int) ++ [V.int (((cs.map V.int).length : Int) + 7)])) = H4 at *
          have s14 : Same H H4 := s1.trans (s2.trans (s3.trans s4))
          have hd0 : H d = none := s14.free ndd
          have hb0 : H b = none := s1.free hb
          refine q d b c _ ⟨fun z => ?_, fun z => ?_, nbc, Int.le_refl 0, upd_same, ⟨(((List.range (cs.map V.int).length).filter fun i => decide ((10 : Int) ^ 18 ≤ cs.getD i 0)).map fun i => cs.getD i 0), ?_⟩, cs ++ [((cs.map V.int).length : Int) + 7], ?_, ?_, ?_⟩ hd0 hb0 ?_
          · rw [z, hb4] at ndd
            cases ndd
          · rw [z, hc4] at ndd
            cases ndd
          · rw [upd_ne (fun z => by rw [z, ndd] at hb4; cases hb4)]
            exact hb4
          · rw [upd_ne (fun z => by rw [z, ndd] at hc4; cases hc4)]
            exact hc4
          · simp
          · simp
            omega
          · intro x o hx
            rw [msk_ne (fun z => by rw [z, hd0] at hx; cases hx) (fun z => by rw [z, hb0] at hx; cases hx), upd_ne (fun z => by rw [z, hd0] at hx; cases hx)]
            exact s14 _ _ hx
abbrev sNext : Stmt := topS 30
theorem scNext : FnScope ["_law_deck_here", "_law_many", "_law_rest", "_law_cell", "_law_mixed"] ["_law_deck_here", "_law_many"] (defScope sNext) := ⟨rfl, rfl, rfl, by decide +kernel, rfl, by decide +kernel, by decide +kernel⟩
set_option maxHeartbeats 1000000 in
theorem ok_nextW {f : Addr} {fd : FuncData} (F : Fun K "_law_next" "_law_next" sNext f fd) (B : Bn mg) : FnOk P w K mg base CX0 1 f fd ["_law_deck_here", "_law_many"] spNextW := by
  refine F.ok scNext (fun vs H Q E h => ?_) (fun cdv A outer s H vs Q E hr h => ?_)
  · obtain ⟨d, b, c, n, m, rfl, _⟩ := h
    rfl
  · obtain ⟨d, b, c, n, m, rfl, hD, hn, m0, m1, q⟩ := h
    have nd := scNext.nd
    refine ⟨_, (pss_cons (ps_while PassesOwn.never (pt_cmpR (op_ne0 hr.units) (pe_ix ix_list (pv 0) pe_int (fun _ _ => rfl)) (pe_lst pa_nil) (nomark _)) (pss_cons (ps_set (i := 2) nd rfl (Or.inl rfl) (pe_ix ix_list (pe_ix ix_list (pv 0) pe_int (fun _ _ => rfl)) pe_int (fun _ _ => rfl)))
      (pss_cons (ps_if (pt_cmpR op_gt (pv 2) pe_int (nomark _)) (pss_cons (ps_asg (pe_op op_fdivW (pv 2) (pv 1)) (pg_sub (pe_ix ix_list (pv 0) pe_int (fun _ _ => rfl)) pe_int set_list))
      (pss_one (ps_ret (pe_op op_mod (pv 2) (pv 1))))) pss_nil)
      (pss_one (ps_expr (pe_bm PySem.F.plainAttrs_list PySem.F.slot_list_pop PySem.F.type_list_pop mt_popAt (pe_ix ix_list (pv 0) pe_int (fun _ _ => rfl)) (pa_cons pe_int pa_nil)))))))
      (pss_cons (ps_asg (pe_op op_add (pe_ix ix_list (pv 0) pe_int (fun _ _ => rfl)) pe_int) (pg_sub (pv 0) pe_int set_list))
      (pss_cons (ps_set (i := 3) nd rfl (Or.inl rfl) (pe_op op_mod (pe_ix ix_list (pe_ix ix_list (pv 0) pe_int (fun _ _ => rfl)) (pe_op op_mod (pe_ix ix_list (pv 0) pe_int (fun _ _ => rfl)) (pe_callB call_len_seq rfl B.len bt_len (pa_cons (pe_ix ix_list (pv 0) pe_int (fun _ _ => rfl)) pa_nil))) (fun _ _ => rfl)) pe_int))
      (pss_cons (ps_set (i := 4) nd rfl (Or.inl rfl) (pe_op op_add (pe_op op_add (pe_op op_mul (pv 3) (pe_op op_add pe_int (pe_op op_mul pe_int (pe_ix ix_list (pv 0) pe_int (fun _ _ => rfl))))) (pe_op op_mul (pe_op op_mul pe_int (pe_ix ix_list (pv 0) pe_int (fun _ _ => rfl))) (pe_ix ix_list (pv 0) pe_int (fun _ _ => rfl)))) pe_int))
      (pss_cons (ps_set (i := 4) nd rfl (Or.inl rfl) (pe_op op_mod (pv 4) pe_int))
      (pss_one (ps_ret (pe_op op_mod (pe_op op_fdiv (pe_op op_mod (pe_op op_mul (pv 4) (pv 4)) pe_int) pe_int) (pv 1))))))))), ?_⟩
    obtain ⟨bs, eb⟩ := hD.at_b
    refine ⟨fun k σ H1 => ∃ (bs : List Int) (y2 : Option V), σ = [some (.ref d), some (.int m), y2, none, none] ∧ bs.length = k ∧ H1 b = some (.lst (bs.map V.int)) ∧ Dk d b c n H1 ∧ Same (msk d b H) (msk d b H1),
      ⟨bs.length, bs, none, rfl, rfl, eb, hD, Same.refl _⟩, fun k σ H1 hW => ?_⟩
    obtain ⟨bs, y2, rfl, rfl, eb, hD, sm⟩ := hW
    refine ⟨.ref d, rfl, d, _, 0, .ref b, rfl, rfl, SqL.of hD.at_d, atI_nat (j := 0) rfl, Nat.zero_le _, fun p hp => ?_⟩
    have sp : Same H1 (upd H1 p (.lst [])) := same_upd hp
    have hD2 := hD.same sp
    have eb2 := sp _ _ eb
    have sm2 : Same (msk d b H) (msk d b (upd H1 p (.lst []))) := sm.trans (msk_same sp)
    refine ⟨b, p, bs.map V.int, rfl, rfl, SqL.of eb2, SqL.of upd_same, _, rfl, ?_⟩
    generalize upd H1 p (.lst []) = H2 at hD2 eb2 sm2 ⊢
    cases bs with
    | cons x r =>
      refine iteT ⟨fun σ' H' => ∃ (y2 : Option V), σ' = [some (.ref d), some (.int m), y2, none, none] ∧ H' b = some (.lst (r.map V.int)) ∧ Dk d b c n H' ∧ Same (msk d b H) (msk d b H'),
        fun σ' H' hN => ?_, ?_⟩
      · obtain ⟨y, e1, e2, e3, e4⟩ := hN
        exact ⟨r.length, Nat.lt_succ_self _, r, y, e1, rfl, e2, e3, e4⟩
      · refine ⟨.ref d, rfl, d, _, 0, .ref b, rfl, rfl, SqL.of hD2.at_d, atI_nat (j := 0) rfl, b, _, 0, .int x, rfl, rfl, SqL.of eb2, atI_nat (j := 0) rfl, ?_⟩
        refine ⟨.int x, rfl, x, 0, rfl, rfl, _, rfl, ite2 (fun e => ?_) (fun e => ?_)⟩
        · have x0 : 0 < x := of_decide_eq_true e
          refine ⟨.int x, rfl, .int m, rfl, x, m, rfl, rfl, wide_div m0 (b := 60) (by omega) (by decide) (by decide), .ref d, rfl, d, _, 0, .ref b, rfl, rfl, SqL.of hD2.at_d, atI_nat (j := 0) rfl, b, _, 0, 0, rfl, rfl, eb2, Evl.ixN_nat (j := 0) (by simp), ?_⟩
          refine ⟨.int x, rfl, .int m, rfl, x, m, rfl, rfl, m0, ?_⟩
          refine q _ n _ (Int.emod_nonneg _ (by omega)) (Int.emod_lt_of_pos _ m0) ⟨?_, by omega, ?_⟩
          · obtain ⟨x1, x2, x3, x4, x5, _, cs, x7, x8⟩ := hD2
            refine ⟨x1, x2, x3, x4, ?_, ⟨(x / m) :: r, ?_⟩, cs, ?_, x8⟩
            · rw [upd_ne x1]
              exact x5
            · exact upd_same
            · rw [upd_ne x3.symm]
              exact x7
          · rw [msk_b]
            exact sm2
        · refine ⟨.ref d, rfl, d, _, 0, .ref b, rfl, rfl, SqL.of hD2.at_d, atI_nat (j := 0) rfl, .inl ⟨rfl, _, SqL.of eb2⟩, b, _, 0, 0, .int x, rfl, rfl, eb2, by decide, by decide, seqIndex_nat (j := 0) (by simp), rfl, some (.int x), rfl, ?_, ?_, ?_⟩
          · exact upd_same
          · obtain ⟨x1, x2, x3, x4, x5, _, cs, x7, x8⟩ := hD2
            refine ⟨x1, x2, x3, x4, ?_, ⟨r, ?_⟩, cs, ?_, x8⟩
            · rw [upd_ne x1]
              exact x5
            · exact upd_same
            · rw [upd_ne x3.symm]
              exact x7
          · rw [msk_b]
            exact sm2
    | nil =>
      refine iteF ?_
      -- deck[2] = deck[2] + 1
      refine ⟨.ref d, rfl, d, _, 2, .int n, rfl, rfl, SqL.of hD2.at_d, atI_nat (j := 2) rfl, n, 1, rfl, rfl, .ref d, rfl, d, _, 2, 2, rfl, rfl, hD2.at_d, rfl, ?_⟩
      have hD3 : Dk d b c (n + 1) (upd H2 d (.lst [.ref b, .ref c, .int (n + 1)])) := by
        obtain ⟨x1, x2, x3, x4, x5, ⟨bs, x6⟩, cs, x7, x8⟩ := hD2
        refine ⟨x1, x2, x3, by omega, upd_same, ⟨bs, ?_⟩, cs, ?_, x8⟩
        · rw [upd_ne x1.symm]
          exact x6
        · rw [upd_ne x2.symm]
          exact x7
      have sm3 : Same (msk d b H) (msk d b (upd H2 d (.lst [.ref b, .ref c, .int (n + 1)]))) := by
        rw [msk_d]
        exact sm2
      show tSeq _ _ _ _ (upd H2 d (.lst [.ref b, .ref c, .int (n + 1)]))
      generalize upd H2 d (.lst [.ref b, .ref c, .int (n + 1)]) = H3 at hD3 sm3 ⊢
      have n0 := hD2.n0
      obtain ⟨cs, ec, c0, c1⟩ := hD3.at_c
      have cl : 0 < (cs.map V.int).length := by
        rw [List.length_map]
        exact List.length_pos_iff.mpr c0
      have hL : 0 < ((cs.map V.int).length : Int) := by omega
      have r0 := Int.emod_nonneg (n + 1) (show ((cs.map V.int).length : Int) ≠ 0 by omega)
      have r1 := Int.emod_lt_of_pos (n + 1) hL
      obtain ⟨j, ej⟩ : ∃ j : Nat, (n + 1) % ((cs.map V.int).length : Int) = (j : Int) := ⟨_, (Int.toNat_of_nonneg r0).symm⟩
      have hj : j < cs.length := by
        rw [ej, List.length_map] at r1
        omega
      have gj : (cs.map V.int)[j]? = some (.int cs[j]) := by
        rw [List.getElem?_map, List.getElem?_eq_getElem hj]
        rfl
      refine ⟨.ref d, rfl, d, _, 1, .ref c, rfl, rfl, SqL.of hD3.at_d, atI_nat (j := 1) rfl, .ref d, rfl, d, _, 2, .int (n + 1), rfl, rfl, SqL.of hD3.at_d, atI_nat (j := 2) rfl, .ref d, rfl, d, _, 1, .ref c, rfl, rfl, SqL.of hD3.at_d, atI_nat (j := 1) rfl,
        c, _, rfl, .inl (SqL.of ec), n + 1, _, rfl, rfl, hL, c, _, _, .int cs[j], rfl, rfl, SqL.of ec, ?_, cs[j], 2147483647, rfl, rfl, (by show (0 : Int) < 2147483647; decide), ?_⟩
      · rw [ej]
        exact atI_nat gj
      · have k0 := Int.emod_nonneg cs[j] (show (2147483647 : Int) ≠ 0 by decide)
        have k1 := Int.emod_lt_of_pos cs[j] (show (0 : Int) < 2147483647 by decide)
        show tSeq _ _ _ [some (.ref d), some (.int m), y2, some (.int (cs[j] % 2147483647)), none] _
        generalize cs[j] % 2147483647 = x at k0 k1 ⊢
        refine ⟨.int x, rfl, .ref d, rfl, d, _, 2, .int (n + 1), rfl, rfl, SqL.of hD3.at_d, atI_nat (j := 2) rfl, 69621, n + 1, rfl, rfl, .inl ⟨by decide, by decide⟩, 48271, _, rfl, rfl, x, _, rfl, rfl, .inl ⟨by omega, by omega⟩, ?_⟩
        refine ⟨.ref d, rfl, d, _, 2, .int (n + 1), rfl, rfl, SqL.of hD3.at_d, atI_nat (j := 2) rfl, 40014, n + 1, rfl, rfl, .inl ⟨by decide, by decide⟩, .ref d, rfl, d, _, 2, .int (n + 1), rfl, rfl, SqL.of hD3.at_d, atI_nat (j := 2) rfl, _, n + 1, rfl, rfl, .inr ⟨by omega, by omega⟩, _, _, rfl, rfl, _, 79, rfl, rfl, ?_⟩
        refine ⟨_, rfl, _, 2147483629, rfl, rfl, (by show (0 : Int) < 2147483629; decide), ?_⟩
        have g0 := Int.emod_nonneg (x * (48271 + 69621 * (n + 1)) + 40014 * (n + 1) * (n + 1) + 79) (show (2147483629 : Int) ≠ 0 by decide)
        have g1 := Int.emod_lt_of_pos (x * (48271 + 69621 * (n + 1)) + 40014 * (n + 1) * (n + 1) + 79) (show (0 : Int) < 2147483629 by decide)
        refine ⟨_, rfl, _, rfl, _, _, rfl, rfl, .inl ⟨Int.lt_of_lt_of_le (by decide) g0, Int.lt_trans g1 (by decide)⟩, _, 2147483587, rfl, rfl, (by show (0 : Int) < 2147483587; decide), _, 16, rfl, rfl, ⟨by decide, by decide⟩, .int m, rfl, _, m, rfl, rfl, m0, ?_⟩
        exact q _ (n + 1) _ (Int.emod_nonneg _ (by omega)) (Int.emod_lt_of_pos _ m0) ⟨hD3, Int.le_refl _, sm3⟩
abbrev sShuf : Stmt := topS 35
theorem scShuf : FnScope ["_law_deck_here", "_law_count", "_law_left", "_law_found"] ["_law_deck_here", "_law_count"] (defScope sShuf) := ⟨rfl, rfl, rfl, by decide +kernel, rfl, by decide +kernel, by decide +kernel⟩
set_option maxHeartbeats 1000000 in
theorem ok_shuf {f : Addr} {fd : FuncData} (F : Fun K "_law_shuffled" "_law_shuffled" sShuf f fd) (B : Bn mg) (c_law_next : Cl P w K mg base 1 "_law_next" ["_law_deck_here", "_law_many"] spNext) : FnOk P w K mg base CX0 2 f fd ["_law_deck_here", "_law_count"] (spShuf K) := by
  refine F.ok scShuf (fun vs H Q E h => ?_) (fun cdv A outer s H vs Q E hr h => ?_)
  · obtain ⟨d, b, c, n, m, rfl, _⟩ := h
    rfl
  · obtain ⟨d, b, c, n, m, rfl, hD, hn, hm, q⟩ := h
    have nd := scShuf.nd
    refine ⟨_, (pss_cons (ps_par (i := 2) (j := 3) rfl nd rfl rfl (by decide) rfl rfl (pa_cons (pe_listRg rfl rfl B.list (prg_1 rfl B.range (pv 1))) (pa_cons (pe_lst pa_nil) pa_nil)) (by rfl))
      (pss_cons (ps_while PassesOwn.never (pt_cmpR (op_ne0 hr.units) (pv 2) (pe_lst pa_nil) (nomark _)) (pss_one (ps_expr (pe_bm PySem.F.plainAttrs_list PySem.F.slot_list_append PySem.F.type_list_append mt_append (pv 3) (pa_cons (pe_bm PySem.F.plainAttrs_list PySem.F.slot_list_pop PySem.F.type_list_pop mt_popAt (pv 2) (pa_cons (pe_k c_law_next hr (by decide) rfl (pa_cons (pv 0) (pa_cons (pe_callB call_len_seq rfl B.len bt_len (pa_cons (pv 2) pa_nil)) pa_nil))) pa_nil)) pa_nil)))))
      (pss_one (ps_ret (pe_callTy call_tuple_of rfl B.tuple bt_tuple (pa_cons (pv 3) pa_nil)))))), ?_⟩
    refine ⟨.int m, rfl, m, rfl, RgOk.of_le (by omega) (by omega) (by omega) (by omega), fun l hl => ⟨Nat.zero_le _, fun fo hfo => ⟨.ref l, .ref fo, rfl, ?_⟩⟩⟩
    have hfo0 : H fo = none := (same_upd hl).free hfo
    have nlf : l ≠ fo := fun z => by
      rw [← z, upd_same] at hfo
      cases hfo
    have offl := hD.off hl
    have offf := hD.off hfo0
    rw [rgV_ints] at hfo ⊢
    refine ⟨fun k σ H1 => ∃ (left found : List Int) (n' : Int), σ = [some (.ref d), some (.int m), some (.ref l), some (.ref fo)] ∧ left.length = k ∧ H1 l = some (.lst (left.map V.int)) ∧ H1 fo = some (.lst (found.map V.int)) ∧
        (left ++ found).Perm (upto m) ∧ Dr d b c (n + found.length) H n' H1,
      ⟨m, upto m, [], n, rfl, ints_len m, ?_, upd_same, ?_, (((Dr.refl hD).new hl).new hfo).wide (by simp)⟩, fun k σ H1 hW => ?_⟩
    · rw [upd_ne nlf, upd_same]
    · rw [List.append_nil]
    · obtain ⟨left, found, n1, rfl, rfl, el, ef, pm, dr⟩ := hW
      refine ⟨.ref l, rfl, Nat.zero_le _, fun p hp => ⟨l, p, left.map V.int, rfl, rfl, SqL.of (same_upd hp _ _ el), SqL.of upd_same, _, rfl, ?_⟩⟩
      have el2 := same_upd (o := .lst []) hp _ _ el
      have ef2 := same_upd (o := .lst []) hp _ _ ef
      have dr2 := dr.new (o := .lst []) hp
      generalize upd H1 p (.lst []) = H2 at el2 ef2 dr2 ⊢
      have hlen : left.length + found.length = m := by
        have := pm.length_eq
        rw [List.length_append, ints_len] at this
        exact this
      cases left with
      | nil =>
        refine iteF ?_
        refine ⟨.ref fo, rfl, fo, _, rfl, .inl ⟨SqL.of ef2, fun t ht => ?_⟩⟩
        have e : found.length = m := by simpa using hlen
        rw [e] at dr2
        exact q t found n1 _ (by simpa using pm) (dr2.new ht) (SqT.of (at_msk (dr2.dk.off ht) upd_same))
      | cons x0 r0 =>
        generalize hL : x0 :: r0 = left at *
        have hpos : 0 < left.length := by
          rw [← hL]
          exact Nat.succ_pos _
        have hne : (left.map V.int).isEmpty = false := by
          rw [← hL]
          rfl
        rw [hne]
        refine iteT ⟨fun σ' H' => ∃ (left' found' : List Int) (n' : Int), σ' = [some (.ref d), some (.int m), some (.ref l), some (.ref fo)] ∧ left'.length < left.length ∧ H' l = some (.lst (left'.map V.int)) ∧ H' fo = some (.lst (found'.map V.int)) ∧
          (left' ++ found').Perm (upto m) ∧ Dr d b c (n + found'.length) H n' H', fun σ' H' hN => ?_, ?_⟩
        · obtain ⟨l', f', n', e1, e2, e3⟩ := hN
          exact ⟨l'.length, e2, l', f', n', e1, rfl, e3⟩
        · have hle := dr2.le
          refine ⟨.ref fo, rfl, .inl ⟨rfl, _, SqL.of ef2⟩, .ref l, rfl, .inl ⟨rfl, _, SqL.of el2⟩, .ref d, rfl, .ref l, rfl, l, _, rfl, .inl (SqL.of el2), d, b, c, n1, _, rfl, dr2.dk, by omega, by rw [List.length_map]; omega, by rw [List.length_map]; omega, fun v n2 H3 v0 v1 dr3 => ?_⟩
          obtain ⟨j, rfl⟩ : ∃ j : Nat, v = (j : Int) := ⟨v.toNat, by omega⟩
          have hj : j < left.length := by
            rw [List.length_map] at v1
            omega
          have el3 := dr3.at offl el2
          have ef3 := dr3.at offf ef2
          have dr4 := dr2.step dr3
          refine ⟨l, _, j, j, .int left[j], rfl, rfl, el3, by omega, by omega, seqIndex_nat (by rw [List.length_map]; exact hj), ?_, fo, found.map V.int, _, rfl, rfl, ?_, ?_, left.eraseIdx j, found ++ [left[j]], n2, rfl, ?_, ?_, ?_, ?_, ?_⟩
          · rw [List.getElem?_map, List.getElem?_eq_getElem hj]
            rfl
          · rw [upd_ne nlf.symm]
            exact ef3
          · rw [List.length_map]
            exact small1000 (by omega)
          · rw [List.length_eraseIdx_of_lt hj]
            omega
          · rw [upd_ne nlf, upd_same, map_erase]
          · rw [upd_same, List.map_append]
            rfl
          · have p1 : (left[j] :: left.eraseIdx j).Perm left := perm_erase left j hj
            refine List.Perm.trans ?_ pm
            refine List.Perm.trans ?_ (p1.append_right found)
            rw [← List.append_assoc]
            exact List.perm_append_comm.trans (by rw [List.singleton_append]; exact List.Perm.refl _)
          · refine ((dr4.put hD hl).put hD hfo0).wide ?_
            rw [List.length_append]
            simp
            omega
abbrev sInt : Stmt := topS 36
theorem scInt : FnScope ["_law_deck_here", "_law_demands", "_law_offers", "_law_order", "_law_found", "_law_k", "_law_low"] ["_law_deck_here", "_law_demands", "_law_offers"] (defScope sInt) := ⟨rfl, rfl, rfl, by decide +kernel, rfl, by decide +kernel, by decide +kernel⟩
set_option maxHeartbeats 1000000 in
theorem ok_intervals {f : Addr} {fd : FuncData} (F : Fun K "_law_intervals" "_law_intervals" sInt f fd) (B : Bn mg) (c_law_next : Cl P w K mg base 1 "_law_next" ["_law_deck_here", "_law_many"] spNext)
    (c_law_shuffled : Cl P w K mg base 2 "_law_shuffled" ["_law_deck_here", "_law_count"] (spShuf K)) : FnOk P w K mg base CX0 3 f fd ["_law_deck_here", "_law_demands", "_law_offers"] (spMk K) := by
  refine F.ok scInt (fun vs H Q E h => ?_) (fun cdv A outer s H vs Q E hr h => ?_)
  · obtain ⟨d, b, c, n, m, k, rfl, _⟩ := h
    rfl
  · obtain ⟨d, b, c, n, m, k, rfl, hD, hn, m1, m10, k10, q⟩ := h
    have nd := scInt.nd
    refine ⟨_, (pss_cons (ps_par (i := 3) (j := 4) rfl nd rfl rfl (by decide) rfl rfl (pa_cons (pe_k c_law_shuffled hr (by decide) rfl (pa_cons (pv 0) (pa_cons (pv 1) pa_nil))) (pa_cons (pe_lst pa_nil) pa_nil)) (by rfl))
      (pss_cons (ps_for PassesOwn.never rfl (pi_range1 rfl B.range (pa_cons (pv 2) pa_nil)) (pg_name (i := 5) nd rfl (Or.inl rfl)) (pss_cons (ps_set (i := 6) nd rfl (Or.inl rfl) (pe_k c_law_next hr (by decide) rfl (pa_cons (pv 0) (pa_cons (pv 1) pa_nil))))
      (pss_one (ps_expr (pe_bm PySem.F.plainAttrs_list PySem.F.slot_list_append PySem.F.type_list_append mt_append (pv 4) (pa_cons (pe_callTy call_tuple_of rfl B.tuple bt_tuple (pa_cons (pe_callB cr_sortT rfl B.sorted bt_sorted (pa_cons (pe_slice sl_tupA (pv 3) (po_some (pv 6)) (po_some (pe_op op_add (pe_op op_add (pv 6) pe_int) (pe_k c_law_next hr (by decide) rfl (pa_cons (pv 0) (pa_cons (pv 1) pa_nil)))))) pa_nil)) pa_nil)) pa_nil))))))
      (pss_one (ps_ret (pe_tup (pa_cons (pv 1) (pa_cons (pe_callTy call_tuple_of rfl B.tuple bt_tuple (pa_cons (pv 4) pa_nil)) pa_nil))))))), ?_⟩
    refine ⟨.ref d, rfl, .int m, rfl, d, b, c, n, m, rfl, hD, by omega, by omega, fun po ord n1 H1 pm dr1 hord => ⟨Nat.zero_le _, fun fo hfo => ⟨.ref po, .ref fo, rfl, ?_⟩⟩⟩
    have hD1 := dr1.dk
    have off := hD1.off hfo
    have le1 := dr1.le
    refine Evl.q_forR1 (n := (k : Int)) (Evl.ea_cons (Evl.ev_var rfl) Evl.ea_nil) (by omega) (fun i σ H2 => ∃ (y5 y6 : Option V), σ = [some (.ref d), some (.int m), some (.int k), some (.ref po), some (.ref fo), y5, y6] ∧ Fnd K d b c fo m (n1 + 2 * i) H1 i H2)
      (fun H2 e2 => ⟨none, none, rfl, [], [], n1, e2 _ _ upd_same, .nil, rfl, fun o ho => absurd ho List.not_mem_nil, (((Dr.refl hD1).new hfo).more e2).wide (by omega)⟩) ?_ ?_
    · rintro i σ H2 hi ⟨y5, y6, rfl, refs, os, n2, ef, hda, hlen, hok, dr⟩
      have le2 := dr.le
      refine ⟨.ref d, rfl, .int m, rfl, d, b, c, n2, m, rfl, dr.dk, by omega, by omega, by omega, fun v n3 H3 v0 v1 dr3 => ?_⟩
      have le3 := dr3.le
      have ef3 := dr3.at off ef
      refine s_appP (i := 4) (fun x H' => ∃ (o : List Int) (n' : Int), H' fo = some (.lst refs) ∧ Same (hs [d, b, fo] H2) (hs [d, b, fo] H') ∧ Dr d b c (n1 + 2 * i + 1 + 1) H1 n' H' ∧ OffOk m o ∧ Da K (hs [d, b, fo] H') x (offD o)) rfl ef3 (fun Q' q' => ?_) ?_
      · refine ⟨.ref po, rfl, .int v, rfl, v, rfl, .int v, rfl, v, 1, rfl, rfl, .ref d, rfl, .int m, rfl, d, b, c, n3, m, rfl, dr3.dk, by omega, by omega, by omega, fun u n4 H4 u0 u1 dr4 => ?_⟩
        have ef4 := dr4.at off ef3
        have drs4 := (dr.step dr3).step dr4
        have hord4 : SqT K H4 po (ord.map V.int) := Same.mskT (Same.tq drs4.sm hord)
        have s24 : Same (hs [d, b, fo] H2) (hs [d, b, fo] H4) := hs_msk (dr3.sm.trans dr4.sm) (by simp) (by simp)
        have fin : ∀ (H5 : Hp), Same H4 H5 → ∀ (l : Addr) (o : List Int) (H' : Hp), Same H5 H' → H5 l = none → H' l = some (.tup (o.map V.int)) → OffOk m o → Q' (.ref l) H' := fun H5 s5 l o H' s' hl hl' ho => by
          have s4' := s5.trans s'
          have x := drs4.dk.off (s5.free hl)
          have xf : l ≠ fo := fun z => by
            rw [z, s5 _ _ ef4] at hl
            cases hl
          refine q' _ _ ⟨o, n4, s4' _ _ ef4, s24.trans (hs_mono s4'), drs4.more s4', ho, da_off (SqT.of (hs_at (by simp [x.1, x.2.1, xf]) hl'))⟩
        obtain ⟨ms, ems, hms⟩ := cut_ints ord (some v) (some (v + 1 + u))
        refine ⟨v + 1, u, rfl, rfl, v + 1 + u, rfl, po, _, rfl, hord4, fun _ => ?_, fun _ p hp => ?_⟩
        · exact srt pm (List.Sublist.refl _) hord4 (fin H4 (Same.refl _))
        · rw [ems]
          exact srt pm hms (SqT.of upd_same) (fin _ (same_upd hp))
      · rintro x H' ⟨o, n', ef', sm', dr', ho, hx⟩
        refine ⟨refs, ef', ?_, _, _, rfl, Fnd.add hD1 hfo hda hlen hok sm' n' dr' (by omega) ho hx⟩
        rw [DaAll.len hda, List.length_map]
        exact small1000 (by omega)
    · rintro σ H2 ⟨y5, y6, rfl, refs, os, n2, ef, hda, hlen, hok, dr⟩
      refine ⟨.int m, rfl, .ref fo, rfl, mk_end (n := n) (dr1.step (k := 2 * k) (dr.wide (by simp))) ef (hda.mono (hs_to_msk (by simp) (by simp))) fun v H3 dr3 hv => q v os n2 H3 (dr3.wide (by omega)) (by simpa using hlen) hok hv⟩
abbrev sPart : Stmt := topS 34
theorem scPart : FnScope ["_law_deck_here", "_law_items", "_law_share", "_law_item"] ["_law_deck_here", "_law_items", "_law_share"] (defScope sPart) := ⟨rfl, rfl, rfl, by decide +kernel, rfl, by decide +kernel, by decide +kernel⟩
set_option maxHeartbeats 1000000 in
theorem ok_part {f : Addr} {fd : FuncData} (F : Fun K "_law_part" "_law_part" sPart f fd) (B : Bn mg) (c_law_next : Cl P w K mg base 1 "_law_next" ["_law_deck_here", "_law_many"] spNext) : FnOk P w K mg base CX0 2 f fd ["_law_deck_here", "_law_items", "_law_share"] (spPart K) := by
  refine F.ok scPart (fun vs H Q E h => ?_) (fun cdv A outer s H vs Q E hr h => ?_)
  · obtain ⟨d, b, c, a, n, sh, ns, rfl, _⟩ := h
    rfl
  · obtain ⟨d, b, c, a, n, sh, ns, rfl, hD, hn, hl, hS, q⟩ := h
    have nd := scPart.nd
    have turn : ∀ (D : Addr), H D = none → ∀ (i : Nat) (x : V) (H1 : Hp), (ns.map V.int)[i]? = some x →
        (∃ (ms : List Int) (n' : Int), ms.Sublist (ns.take i) ∧ Dr d b c (n + i) H n' H1 ∧ H1 D = some (.lst (ms.map V.int))) →
        tTest (tOp (rI0 fun i j => .bl (decide (j ≤ i))) (tCall spNext [] E0 (tCons (tVar 0) (tCons (tC (.int 4)) tNil))) (tVar 2)) [some (.ref d), some (.ref a), some (.int sh), some x] H1 fun bb H3 =>
          if bb = true then tVar 3 [some (.ref d), some (.ref a), some (.int sh), some x] H3 fun y H4 => ∃ acc, H4 D = some (.lst acc) ∧ acc.length < sizeLine ∧
            ∃ (ms : List Int) (n' : Int), ms.Sublist (ns.take (i + 1)) ∧ Dr d b c (n + ((i + 1 : Nat) : Int)) H n' (upd H4 D (.lst (acc ++ [y]))) ∧ (upd H4 D (.lst (acc ++ [y]))) D = some (.lst (ms.map V.int))
          else ∃ (ms : List Int) (n' : Int), ms.Sublist (ns.take (i + 1)) ∧ Dr d b c (n + ((i + 1 : Nat) : Int)) H n' H3 ∧ H3 D = some (.lst (ms.map V.int)) := by
      rintro D hDn i x H1 hx ⟨ms, n1, hms, dr, hlist⟩
      have off := hD.off hDn
      have hi : i < ns.length := by
        have := (List.getElem?_eq_some_iff.mp hx).1
        rw [List.length_map] at this
        exact this
      have etk : ns.take (i + 1) = ns.take i ++ [ns.getD i 0] := by
        rw [List.take_add_one, List.getD_eq_getElem?_getD, List.getElem?_eq_getElem hi]
        rfl
      have hle := dr.le
      refine ⟨.ref d, rfl, d, b, c, n1, 4, rfl, dr.dk, by omega, by decide, by decide, fun v n2 H2 v0 v1 dr2 => ?_⟩
      have dr3 : Dr d b c (n + ((i + 1 : Nat) : Int)) H n2 H2 := (dr.step dr2).wide (by omega)
      have hl2 : H2 D = some (.lst (ms.map V.int)) := dr2.at off hlist
      refine ⟨.int sh, rfl, v, sh, rfl, rfl, _, rfl, ite2 (fun _ => ?_) (fun _ => ?_)⟩
      · rw [ints_at hx]
        refine ⟨_, rfl, _, hl2, ?_, ms ++ [ns.getD i 0], n2, ?_, dr3.put hD hDn, ?_⟩
        · rw [List.length_map]
          have := hms.length_le
          rw [List.length_take] at this
          exact small1000 (by omega)
        · rw [etk]
          exact hms.append (List.Sublist.refl _)
        · rw [upd_same, List.map_append]
          rfl
      · exact ⟨ms, n2, by rw [etk]; exact hms.trans (List.sublist_append_left _ _), dr3, hl2⟩
    have fin : ∀ (D : Addr), H D = none → ∀ H1 : Hp, (∃ (ms : List Int) (n' : Int), ms.Sublist (ns.take (ns.map V.int).length) ∧ Dr d b c (n + ((ns.map V.int).length : Nat)) H n' H1 ∧ H1 D = some (.lst (ms.map V.int))) →
        ∃ p ys, [V.ref D] = [.ref p] ∧ ((SqL K H1 p ys ∧ ∀ l, H1 l = none → Q (.ref l) (upd H1 l (.tup ys))) ∨ (SqT K H1 p ys ∧ Q (.ref p) H1)) := by
      rintro D hDn H1 ⟨ms, n1, hms, dr, hlist⟩
      rw [List.length_map] at hms dr
      rw [List.take_length] at hms
      refine ⟨D, _, rfl, .inl ⟨SqL.of hlist, fun l hl2 => ?_⟩⟩
      exact q l ms n1 _ hms (dr.new hl2) (SqT.of (at_msk (dr.dk.off hl2) upd_same))
    rcases hS with hS | hS
    · refine ⟨_, (pss_one (ps_ret (pe_callTy call_tuple_of rfl B.tuple bt_tuple (pa_cons (pe_lc (own := [("_law_item", 3)]) (g := gName 3) rfl nd (pi_list (pv 1)) (blkOk_by (own := [("_law_item", 3)]) (N := ["_law_deck_here", "_law_items", "_law_share", "_law_item"]) (sc := defScope sPart) (by decide +kernel)) (fun _ _ _ _ _ => (pg_name (i := 3) nd rfl (Or.inl rfl))) (fun _ _ _ _ _ => pts_one (pt_cmpR op_ge (pe_k c_law_next hr (by decide) rfl (pa_cons (pv 0) (pa_cons pe_int pa_nil))) (pv 2) (nomark _))) (fun _ _ _ _ _ => (pv 3))) pa_nil)))), ?_⟩
      refine ⟨.ref a, rfl, a, rfl, ⟨_, Same.mskL hS⟩, fun D hDn => ?_⟩
      refine lc_list (K := K) (a := a) (xs := ns.map V.int) (fun i H1 => ∃ (ms : List Int) (n' : Int), ms.Sublist (ns.take i) ∧ Dr d b c (n + i) H n' H1 ∧ H1 D = some (.lst (ms.map V.int)))
        ⟨[], n, List.nil_sublist _, ((Dr.refl hD).new hDn).wide (by omega), upd_same⟩ (fun i H1 _ ⟨_, _, _, dr, _⟩ => Same.mskL (Same.seq dr.sm hS)) (fun i x H1 hx hp => ⟨rfl, turn D hDn i x H1 hx hp⟩) (fin D hDn)
    · refine ⟨_, (pss_one (ps_ret (pe_callTy call_tuple_of rfl B.tuple bt_tuple (pa_cons (pe_lc (own := [("_law_item", 3)]) (g := gName 3) rfl nd (pi_tup (pv 1)) (blkOk_by (own := [("_law_item", 3)]) (N := ["_law_deck_here", "_law_items", "_law_share", "_law_item"]) (sc := defScope sPart) (by decide +kernel)) (fun _ _ _ _ _ => (pg_name (i := 3) nd rfl (Or.inl rfl))) (fun _ _ _ _ _ => pts_one (pt_cmpR op_ge (pe_k c_law_next hr (by decide) rfl (pa_cons (pv 0) (pa_cons pe_int pa_nil))) (pv 2) (nomark _))) (fun _ _ _ _ _ => (pv 3))) pa_nil)))), ?_⟩
      refine ⟨.ref a, rfl, a, rfl, ⟨_, Same.mskT hS⟩, fun D hDn => ?_⟩
      refine lc_tup (K := K) (a := a) (xs := ns.map V.int) (fun i H1 => ∃ (ms : List Int) (n' : Int), ms.Sublist (ns.take i) ∧ Dr d b c (n + i) H n' H1 ∧ H1 D = some (.lst (ms.map V.int)))
        ⟨[], n, List.nil_sublist _, ((Dr.refl hD).new hDn).wide (by omega), upd_same⟩ (fun i H1 _ ⟨_, _, _, dr, _⟩ => Same.mskT (Same.tq dr.sm hS)) (fun i x H1 hx hp => ⟨rfl, turn D hDn i x H1 hx hp⟩) (fin D hDn)
abbrev sAr : Stmt := topS 37
theorem scAr : FnScope ["_law_deck_here", "_law_demands", "_law_offers", "_law_order", "_law_size", "_law_found", "_law_k"] ["_law_deck_here", "_law_demands", "_law_offers"] (defScope sAr) := ⟨rfl, rfl, rfl, by decide +kernel, rfl, by decide +kernel, by decide +kernel⟩
set_option maxHeartbeats 2000000 in
theorem ok_around {f : Addr} {fd : FuncData} (F : Fun K "_law_around" "_law_around" sAr f fd) (B : Bn mg) (c_law_next : Cl P w K mg base 1 "_law_next" ["_law_deck_here", "_law_many"] spNext)
    (c_law_shuffled : Cl P w K mg base 2 "_law_shuffled" ["_law_deck_here", "_law_count"] (spShuf K)) (c_law_part : Cl P w K mg base 2 "_law_part" ["_law_deck_here", "_law_items", "_law_share"] (spPart K)) : FnOk P w K mg base CX0 3 f fd ["_law_deck_here", "_law_demands", "_law_offers"] (spMk K) := by
  refine F.ok scAr (fun vs H Q E h => ?_) (fun cdv A outer s H vs Q E hr h => ?_)
  · obtain ⟨d, b, c, n, m, k, rfl, _⟩ := h
    rfl
  · obtain ⟨d, b, c, n, m, k, rfl, hD, hn, m1, m10, k10, q⟩ := h
    have nd := scAr.nd
    refine ⟨_, (pss_cons (ps_par (i := 3) (j := 4) rfl nd rfl rfl (by decide) rfl rfl (pa_cons (pe_k c_law_shuffled hr (by decide) rfl (pa_cons (pv 0) (pa_cons (pv 1) pa_nil))) (pa_cons (pe_op op_add pe_int (pe_k c_law_next hr (by decide) rfl (pa_cons (pv 0) (pa_cons pe_int pa_nil)))) pa_nil)) (by rfl))
      (pss_cons (ps_set (i := 5) nd rfl (Or.inr rfl) (pe_lst pa_nil))
      (pss_cons (ps_for PassesOwn.never rfl (pi_range1 rfl B.range (pa_cons (pv 2) pa_nil)) (pg_name (i := 6) nd rfl (Or.inl rfl)) (pss_one (ps_if (PW.pt (pw_and (pt_cmpR op_le (pv 4) (pv 1) (nomark _)) (pw_and1 (pt_cmpR op_lt (pv 6) (pv 4) (nomark _))))) (pss_one (ps_expr (pe_bm PySem.F.plainAttrs_list PySem.F.slot_list_append PySem.F.type_list_append mt_append (pv 5) (pa_cons (pe_callTy call_tuple_of rfl B.tuple bt_tuple (pa_cons (pe_callB cr_sorted rfl B.sorted bt_sorted (pa_cons (pe_op op_cat (pe_lst (pa_cons (pe_ix ix_tup (pv 3) (pv 6) (fun _ _ => rfl)) (pa_cons (pe_ix ix_tup (pv 3) (pe_op op_mod (pe_op op_add (pv 6) pe_int) (pv 4)) (fun _ _ => rfl)) pa_nil))) (pe_callTy call_list_of rfl B.list bt_list (pa_cons (pe_k c_law_part hr (by decide) rfl (pa_cons (pv 0) (pa_cons (pe_slice sl_tupA (pv 3) (po_some (pv 4)) po_none) (pa_cons pe_int pa_nil)))) pa_nil))) pa_nil)) pa_nil)) pa_nil)))) (pss_one (ps_expr (pe_bm PySem.F.plainAttrs_list PySem.F.slot_list_append PySem.F.type_list_append mt_append (pv 5) (pa_cons (pe_k c_law_part hr (by decide) rfl (pa_cons (pv 0) (pa_cons (pe_listRg rfl rfl B.list (prg_1 rfl B.range (pv 1))) (pa_cons (pe_op op_add pe_int (pe_k c_law_next hr (by decide) rfl (pa_cons (pv 0) (pa_cons pe_int pa_nil)))) pa_nil)))) pa_nil)))))))
      (pss_one (ps_ret (pe_tup (pa_cons (pv 1) (pa_cons (pe_callTy call_tuple_of rfl B.tuple bt_tuple (pa_cons (pe_lc (own := [("_law_k", 6)]) (g := gName 6) rfl nd (pi_range1 rfl B.range (pa_cons (pv 2) pa_nil)) (blkOk_by (own := [("_law_k", 6)]) (N := ["_law_deck_here", "_law_demands", "_law_offers", "_law_order", "_law_size", "_law_found", "_law_k"]) (sc := defScope sAr) (by decide +kernel)) (fun _ _ _ _ _ => (pg_name (i := 6) nd rfl (Or.inl rfl))) (fun _ _ _ _ _ => pts_nil) (fun _ _ _ _ _ => (pe_bmK (K := K) rfl (pe_bm PySem.F.plainAttrs_list PySem.F.slot_list_pop PySem.F.type_list_pop mt_popAt (pv 5) (pa_cons (pe_k c_law_next hr (by decide) rfl (pa_cons (pv 0) (pa_cons (pe_callB (call_len_seqK (K := K) rfl) rfl B.len bt_len (pa_cons (pv 5) pa_nil)) pa_nil))) pa_nil))))) pa_nil)) pa_nil)))))))), ?_⟩
    refine ⟨.ref d, rfl, .int m, rfl, d, b, c, n, m, rfl, hD, by omega, by omega, fun po ord n0 H0 pm dr0 hord0 => ⟨.ref d, rfl, d, b, c, n0, 3, rfl, dr0.dk, by have := dr0.le; omega, by decide, by decide, fun v n1 H1 v0 v1 dr01 => ⟨3, v, rfl, rfl, .ref po, .int (3 + v), rfl, ?_⟩⟩⟩
    obtain ⟨sz, hsz⟩ : ∃ sz : Nat, 3 + v = (sz : Int) := ⟨(3 + v).toNat, by omega⟩
    have sz3 : 3 ≤ sz := by omega
    have le0 := dr0.le
    have le1 := dr01.le
    have dr1 := dr0.step dr01
    have hord : SqT K (msk d b H1) po (ord.map V.int) := Same.tq dr01.sm hord0
    have hD1 := dr01.dk
    have olen : ord.length = m := by
      rw [pm.length_eq, ints_len]
    rw [hsz]
    refine ⟨Nat.zero_le _, fun fo hfo => ?_⟩
    have off := hD1.off hfo
    refine Evl.q_forR1 (n := (k : Int)) (Evl.ea_cons (Evl.ev_var rfl) Evl.ea_nil) (by omega) (fun i σ H2 => ∃ (y6 : Option V), σ = [some (.ref d), some (.int m), some (.int k), some (.ref po), some (.int sz), some (.ref fo), y6] ∧ Fnd K d b c fo m (n1 + 12 * i) H1 i H2)
      (fun H2 e2 => ⟨none, rfl, [], [], n1, e2 _ _ upd_same, .nil, rfl, fun o ho => absurd ho List.not_mem_nil, (((Dr.refl hD1).new hfo).more e2).wide (by omega)⟩) ?_ ?_
    · rintro i σ H2 hi ⟨y6, rfl, refs, os, n2, ef, hda, hlen, hok, dr⟩
      have le2 := dr.le
      have rl : refs.length = i := by
        rw [DaAll.len hda, List.length_map, hlen]
      have add : ∀ (x : V) (H' : Hp), (∃ (o : List Int) (n' : Int), H' fo = some (.lst refs) ∧ Same (hs [d, b, fo] H2) (hs [d, b, fo] H') ∧ Dr d b c (n1 + 12 * i + 12) H1 n' H' ∧ OffOk m o ∧ Da K (hs [d, b, fo] H') x (offD o)) →
          ∃ xs, H' fo = some (.lst xs) ∧ xs.length < sizeLine ∧ ∃ (y6 : Option V), [some (.ref d), some (.int m), some (.int k), some (.ref po), some (.int sz), some (.ref fo), some (.int i)] = [some (.ref d), some (.int m), some (.int k), some (.ref po), some (.int sz), some (.ref fo), y6] ∧ Fnd K d b c fo m (n1 + 12 * (i + 1 : Nat)) H1 (i + 1) (upd H' fo (.lst (xs ++ [x]))) := by
        rintro x H' ⟨o, n', ef', sm', dr', ho, hx⟩
        exact ⟨refs, ef', small1000 (by omega), _, rfl, Fnd.add hD1 hfo hda hlen hok sm' n' dr' (by omega) ho hx⟩
      have part : Ew (tCall (spPart K) [] E0 (tCons (tVar 0) (tCons (tLstRg (tRg1 (tVar 1))) (tCons (tOp (rI0 fun i j => .int (i + j)) (tC (.int 1)) (tCall spNext [] E0 (tCons (tVar 0) (tCons (tC (.int 3)) tNil)))) tNil)))) [some (.ref d), some (.int m), some (.int k), some (.ref po), some (.int sz), some (.ref fo), some (.int i)] H2
            (fun x H' => ∃ (o : List Int) (n' : Int), H' fo = some (.lst refs) ∧ Same (hs [d, b, fo] H2) (hs [d, b, fo] H') ∧ Dr d b c (n1 + 12 * i + 12) H1 n' H' ∧ OffOk m o ∧ Da K (hs [d, b, fo] H') x (offD o)) := by
        intro Q' q'
        refine ⟨.ref d, rfl, .int m, rfl, m, rfl, RgOk.of_le (by omega) (by omega) (by omega) (by omega), fun l hl => ?_⟩
        rw [rgV_ints]
        have x := dr.dk.off hl
        have dr2 := dr.new (o := .lst ((upto m).map V.int)) hl
        have ef2 := same_upd (o := .lst ((upto m).map V.int)) hl _ _ ef
        refine ⟨.ref d, rfl, d, b, c, n2, 3, rfl, dr2.dk, by omega, by decide, by decide, fun u n3 H3 u0 u1 dr3 => ⟨1, u, rfl, rfl, ?_⟩⟩
        have drs3 := dr2.step dr3
        have le3 := dr3.le
        refine ⟨d, b, c, l, n3, 1 + u, upto m, rfl, dr3.dk, by omega, by rw [ints_len]; omega, .inl (Same.seq dr3.sm (SqL.of (at_msk x upd_same))), fun p ms n4 H4 hms dr4 hp => ?_⟩
        rw [ints_len] at dr4
        have ef4 := dr4.at off (dr3.at off ef2)
        exact q' _ _ ⟨ms, n4, ef4, (hs_mono (same_upd hl)).trans (hs_msk (dr3.sm.trans dr4.sm) (by simp) (by simp)), (drs3.step dr4).wide (by omega), off_sub hms, da_off (sqT_hs hp ef4)⟩
      refine ⟨.int sz, rfl, .int m, rfl, sz, m, rfl, rfl, _, rfl, ?_⟩
      cases hb1 : decide ((sz : Int) ≤ (m : Int)) with
      | false => exact iteF (iteF (s_appP _ rfl ef part add))
      | true =>
        have szm : sz ≤ m := by
          have := of_decide_eq_true hb1
          omega
        refine iteT ⟨.int i, rfl, .int sz, rfl, i, sz, rfl, rfl, _, rfl, ?_⟩
        cases hb2 : decide ((i : Int) < (sz : Int)) with
        | false => exact iteF (s_appP _ rfl ef part add)
        | true =>
          have isz : i < sz := by
            have := of_decide_eq_true hb2
            omega
          refine iteT (s_appP _ rfl ef (fun Q' q' => ?_) add)
          have hord2 : SqT K (msk d b H2) po (ord.map V.int) := Same.tq dr.sm hord
          have il : i < ord.length := by omega
          obtain ⟨j, ej⟩ : ∃ j : Nat, j = (i + 1) % sz := ⟨_, rfl⟩
          have jl : j < ord.length := by
            have := Nat.mod_lt (i + 1) (show 0 < sz by omega)
            omega
          have ejI : ((i : Int) + 1) % (sz : Int) = (j : Int) := by
            rw [ej]
            simp
          have gi : (ord.map V.int)[i]? = some (.int ord[i]) := by
            rw [List.getElem?_map, List.getElem?_eq_getElem il]
            rfl
          have gj : (ord.map V.int)[j]? = some (.int ord[j]) := by
            rw [List.getElem?_map, List.getElem?_eq_getElem jl]
            rfl
          refine ⟨.ref po, rfl, .int i, rfl, po, _, i, .int ord[i], rfl, rfl, Same.mskT hord2, atI_nat gi, .ref po, rfl, .int i, rfl, i, 1, rfl, rfl, .int sz, rfl, _, sz, rfl, rfl, (by show (0 : Int) < sz; omega), po, _, _, .int ord[j], rfl, rfl, Same.mskT hord2, (by rw [ejI]; exact atI_nat gj), sz2, fun l1 hl1 => ?_⟩
          have x1 := dr.dk.off hl1
          have dr3 := dr.new (o := .lst [V.int ord[i], V.int ord[j]]) hl1
          have e1 : (upd H2 l1 (.lst [V.int ord[i], V.int ord[j]])) l1 = some (.lst [V.int ord[i], V.int ord[j]]) := upd_same
          have ef3 := same_upd (o := .lst [V.int ord[i], V.int ord[j]]) hl1 _ _ ef
          have sm3 : Same (hs [d, b, fo] H2) (hs [d, b, fo] (upd H2 l1 (.lst [V.int ord[i], V.int ord[j]]))) := hs_mono (same_upd hl1)
          have hord3 : SqT K (msk d b (upd H2 l1 (.lst [V.int ord[i], V.int ord[j]]))) po (ord.map V.int) := Same.tq (msk_same (same_upd hl1)) hord2
          generalize upd H2 l1 (.lst [V.int ord[i], V.int ord[j]]) = H3 at *
          refine ⟨.ref d, rfl, .ref po, rfl, .int sz, rfl, sz, rfl, ?_⟩
          dsimp only [tNoPart]
          refine slA_msk (K := K) dr3.dk hord3 fun a H4 s4 ha => ?_
          rw [cut_from (by omega)] at ha
          have dr4 := dr3.more s4
          have le4 := dr4.le
          have dlen : (ord.drop sz).length ≤ 10 := by
            rw [List.length_drop]
            omega
          refine ⟨d, b, c, a, n2, 3, ord.drop sz, rfl, dr4.dk, by omega, by omega, .inr ha, fun p ms n5 H5 hms dr5 hp => ?_⟩
          have dr45 := (dr4.step dr5).wide (k := n1 + 12 * i + 12) (by omega)
          have e5 := dr5.at x1 (s4 _ _ e1)
          have ef5 := dr5.at off (s4 _ _ ef3)
          have sm5 := (sm3.trans (hs_mono s4)).trans (hs_msk (S := [d, b, fo]) dr5.sm (by simp) (by simp))
          have mlen : ms.length ≤ 10 := Nat.le_trans hms.length_le dlen
          refine ⟨p, _, rfl, .inr (Same.mskT hp), fun l2 hl2 => ?_⟩
          have s6 : Same H5 (upd H5 l2 (.lst (ms.map V.int))) := same_upd hl2
          refine ⟨l1, l2, _, _, rfl, rfl, s6 _ _ e5, upd_same, ?_, fun l3 hl3 => ?_⟩
          · rw [List.length_map]
            exact Pb.sz (by simp; omega)
          · have e7 : (upd (upd H5 l2 (.lst (ms.map V.int))) l3 (.lst ([V.int ord[i], V.int ord[j]] ++ ms.map V.int))) l3 = some (.lst (([ord[i], ord[j]] ++ ms).map V.int)) := by
              rw [upd_same, List.map_append]
              rfl
            have s7 := s6.trans (same_upd (o := .lst ([V.int ord[i], V.int ord[j]] ++ ms.map V.int)) hl3)
            generalize upd (upd H5 l2 (.lst (ms.map V.int))) l3 (.lst ([V.int ord[i], V.int ord[j]] ++ ms.map V.int)) = H7 at *
            refine ⟨l3, [ord[i], ord[j]] ++ ms, rfl, SqL.of e7, by rw [List.length_append]; simp; omega, fun o p2 hpm hle hp2 => ⟨p2, _, rfl, .inl ⟨SqL.of upd_same, fun t ht => ?_⟩⟩⟩
            have s8 := (s7.trans (same_upd (o := .lst (o.map V.int)) hp2)).trans (same_upd (o := .tup (o.map V.int)) ht)
            have xt := dr45.dk.off ((s7.trans (same_upd (o := .lst (o.map V.int)) hp2)).free ht)
            have xf : t ≠ fo := fun z => by
              rw [z, (s7.trans (same_upd (o := .lst (o.map V.int)) hp2)) _ _ ef5] at ht
              cases ht
            exact q' _ _ ⟨o, n5, s8 _ _ ef5, sm5.trans (hs_mono s8), dr45.more s8, off_around pm (by omega) sz3 isz ej jl il hms hpm hle, da_off (SqT.of (hs_at (by simp [xt.1, xt.2.1, xf]) upd_same))⟩
    · rintro σ H2 ⟨y6, rfl, refs, os, n2, ef, hda, hlen, hok, dr⟩
      have hlen' : os.length = k := by simpa using hlen
      have le2 := dr.le
      refine ⟨.int m, rfl, .int k, rfl, k, rfl, by omega, by omega, fun D hDn => ?_⟩
      have nf : fo ≠ D := fun z => by
        rw [z] at ef
        rw [ef] at hDn
        cases hDn
      have offD := dr.dk.off hDn
      have hD1n : H1 D = none := dr.free hDn
      refine lc_range (lo := 0) (n := k) (fun i H' => ∃ (rs ds : List V) (os1 os2 : List (List Int)) (n' : Int), H' fo = some (.lst rs) ∧ H' D = some (.lst ds) ∧ DaAll K (hs [d, b, fo, D] H') rs (os1.map Pb.offD) ∧ DaAll K (hs [d, b, fo, D] H') ds (os2.map Pb.offD) ∧
          os1.length + i = k ∧ os2.length = i ∧ (∀ o ∈ os1, OffOk m o) ∧ (∀ o ∈ os2, OffOk m o) ∧ Dr d b c (n1 + 12 * k + i) H1 n' H') ⟨refs, [], os, [], n2, ?_, upd_same, ?_, .nil, by omega, rfl, hok, fun o ho => absurd ho List.not_mem_nil, (dr.new hDn).wide (by simp)⟩ ?_ ?_
      · rw [upd_ne nf]
        exact ef
      · refine hda.mono fun a o e => ?_
        obtain ⟨z1, z2⟩ := hs_some e
        have za : a ≠ D := fun z => by
          rw [z, hDn] at z2
          cases z2
        rw [hs_out (by simp at z1 ⊢; exact ⟨z1.1, z1.2.1, z1.2.2, za⟩), upd_ne za]
        exact z2
      · rintro i H' hi ⟨rs, ds, os1, os2, n3, e1, e2, h1, h2, l1, l2, k1, k2, dr3⟩
        have rsl : rs.length = os1.length := by
          rw [DaAll.len h1, List.length_map]
        have le3 := dr3.le
        refine ⟨rfl, ?_⟩
        dsimp only [tYes]
        refine iteT ?_
        refine ⟨.ref fo, rfl, .inl ⟨rfl, _, SqL.of e1⟩, .ref d, rfl, .ref fo, rfl, fo, _, rfl, .inl (SqL.of e1), d, b, c, n3, _, rfl, dr3.dk, by omega, by omega, by omega, fun u n4 H4 u0 u1 dr4 => ?_⟩
        obtain ⟨j, rfl⟩ : ∃ j : Nat, u = (j : Int) := ⟨u.toNat, by omega⟩
        have hj : j < rs.length := by omega
        have offF : fo ≠ d ∧ fo ≠ b ∧ fo ≠ c := off
        have e14 := dr4.at offF e1
        have e24 := dr4.at offD e2
        have sm4 : Same (hs [d, b, fo, D] H') (hs [d, b, fo, D] H4) := hs_msk dr4.sm (by simp) (by simp)
        have hjo : j < os1.length := by omega
        refine ⟨fo, rs, j, j, rs[j], rfl, rfl, e14, by omega, by omega, seqIndex_nat hj, List.getElem?_eq_getElem hj, ds, ?_, ?_, rs.eraseIdx j, ds ++ [rs[j]], os1.eraseIdx j, os2 ++ [os1[j]], n4, ?_, upd_same, ?_, ?_, ?_, ?_, ?_, ?_, ?_⟩
        · rw [upd_ne nf.symm]
          exact e24
        · rw [DaAll.len h2, List.length_map]
          exact small1000 (by omega)
        · rw [upd_ne nf, upd_same]
        · rw [hs_put (by simp), hs_put (by simp), ← map_erase]
          exact (h1.mono sm4).erase j
        · rw [hs_put (by simp), hs_put (by simp), List.map_append]
          refine (h2.mono sm4).append (.cons ?_ .nil)
          obtain ⟨e, he, hd⟩ := DaAll.get (h1.mono sm4) (List.getElem?_eq_getElem hj)
          rw [List.getElem?_map, List.getElem?_eq_getElem hjo] at he
          have ee : Pb.offD os1[j] = e := Option.some.inj he
          rw [ee]
          exact hd
        · rw [List.length_eraseIdx_of_lt hjo]
          omega
        · rw [List.length_append, l2]
          rfl
        · exact fun o ho => k1 o (List.mem_of_mem_eraseIdx ho)
        · intro o ho
          rcases List.mem_append.mp ho with ho | ho
          · exact k2 o ho
          · have e : o = os1[j] := by simpa using ho
            rw [e]
            exact k1 _ (List.getElem_mem _)
        · exact ((((dr3.step dr4).put hD1 hfo).put hD1 hD1n)).wide (by omega)
      · rintro H' ⟨rs, ds, os1, os2, n3, e1, e2, h1, h2, l1, l2, k1, k2, dr3⟩
        exact mk_end (n := n) (dr1.step (k := 12 * k + k) (dr3.wide (by omega))) e2 (h2.mono (hs_to_msk (by simp) (by simp))) fun v H3 dr4 hv => q v os2 n3 H3 (dr4.wide (by omega)) l2 k2 hv
abbrev sOne : Stmt := topS 31
theorem scOne : FnScope ["_law_deck_here", "_law_some"] ["_law_deck_here", "_law_some"] (defScope sOne) := ⟨rfl, rfl, rfl, by decide +kernel, rfl, by decide +kernel, by decide +kernel⟩
theorem ok_one {f : Addr} {fd : FuncData} (F : Fun K "_law_one" "_law_one" sOne f fd) (B : Bn mg) (c_law_next : Cl P w K mg base 1 "_law_next" ["_law_deck_here", "_law_many"] spNext) : FnOk P w K mg base CX0 2 f fd ["_law_deck_here", "_law_some"] (spOne K) := by
  refine F.ok scOne (fun vs H Q E h => ?_) (fun cdv A outer s H vs Q E hr h => ?_)
  · obtain ⟨d, b, c, a, n, xs, rfl, _⟩ := h
    rfl
  · obtain ⟨d, b, c, a, n, xs, rfl, hD, hn, x0, x1, hS, q⟩ := h
    have nd := scOne.nd
    refine ⟨_, (pss_one (ps_ret (pe_ix ix_list (pv 1) (pe_k c_law_next hr (by decide) rfl (pa_cons (pv 0) (pa_cons (pe_callB call_len_seq rfl B.len bt_len (pa_cons (pv 1) pa_nil)) pa_nil))) (fun _ _ => rfl)))), ?_⟩
    have hp : 0 < xs.length := List.length_pos_iff.mpr x0
    refine ⟨.ref a, rfl, .ref d, rfl, .ref a, rfl, a, xs, rfl, .inl (Same.mskL hS), d, b, c, n, (xs.length : Int), rfl, hD, by omega, by omega, by omega, fun v n' H' v0 v1 dr => ?_⟩
    obtain ⟨j, rfl⟩ : ∃ j : Nat, v = (j : Int) := ⟨v.toNat, by omega⟩
    have hj : j < xs.length := by omega
    refine ⟨a, xs, _, xs[j], rfl, rfl, Same.mskL (Same.seq dr.sm hS), atI_nat (List.getElem?_eq_getElem hj), q _ n' H' (List.getElem_mem hj) dr⟩
abbrev sAny : Stmt := topS 38
theorem scAny : FnScope ["_law_deck_here", "_law_demands", "_law_offers", "_law_share", "_law_found", "_law_k"] ["_law_deck_here", "_law_demands", "_law_offers"] (defScope sAny) := ⟨rfl, rfl, rfl, by decide +kernel, rfl, by decide +kernel, by decide +kernel⟩
set_option maxHeartbeats 1000000 in
theorem ok_any {f : Addr} {fd : FuncData} (F : Fun K "_law_any" "_law_any" sAny f fd) (B : Bn mg) (c_law_next : Cl P w K mg base 1 "_law_next" ["_law_deck_here", "_law_many"] spNext)
    (c_law_one : Cl P w K mg base 2 "_law_one" ["_law_deck_here", "_law_some"] (spOne K)) (c_law_part : Cl P w K mg base 2 "_law_part" ["_law_deck_here", "_law_items", "_law_share"] (spPart K)) : FnOk P w K mg base CX0 3 f fd ["_law_deck_here", "_law_demands", "_law_offers"] (spMk K) := by
  refine F.ok scAny (fun vs H Q E h => ?_) (fun cdv A outer s H vs Q E hr h => ?_)
  · obtain ⟨d, b, c, n, m, k, rfl, _⟩ := h
    rfl
  · obtain ⟨d, b, c, n, m, k, rfl, hD, hn, m1, m10, k10, q⟩ := h
    have nd := scAny.nd
    refine ⟨_, (pss_cons (ps_par (i := 3) (j := 4) rfl nd rfl rfl (by decide) rfl rfl (pa_cons (pe_k c_law_next hr (by decide) rfl (pa_cons (pv 0) (pa_cons pe_int pa_nil))) (pa_cons (pe_lst pa_nil) pa_nil)) (by rfl))
      (pss_cons (ps_for PassesOwn.never rfl (pi_range1 rfl B.range (pa_cons (pv 2) pa_nil)) (pg_name (i := 5) nd rfl (Or.inl rfl)) (pss_one (ps_if (PW.pt (pw_and (pt_cmpR (op_ne0 hr.units) (pv 4) (pe_lst pa_nil) (nomark _)) (pw_and1 (pt_cmpR op_eq (pe_k c_law_next hr (by decide) rfl (pa_cons (pv 0) (pa_cons pe_int pa_nil))) pe_int (nomark _))))) (pss_one (ps_expr (pe_bm PySem.F.plainAttrs_list PySem.F.slot_list_append PySem.F.type_list_append mt_append (pv 4) (pa_cons (pe_k c_law_one hr (by decide) rfl (pa_cons (pv 0) (pa_cons (pv 4) pa_nil))) pa_nil)))) (pss_one (ps_expr (pe_bm PySem.F.plainAttrs_list PySem.F.slot_list_append PySem.F.type_list_append mt_append (pv 4) (pa_cons (pe_k c_law_part hr (by decide) rfl (pa_cons (pv 0) (pa_cons (pe_listRg rfl rfl B.list (prg_1 rfl B.range (pv 1))) (pa_cons (pv 3) pa_nil)))) pa_nil)))))))
      (pss_one (ps_ret (pe_tup (pa_cons (pv 1) (pa_cons (pe_callTy call_tuple_of rfl B.tuple bt_tuple (pa_cons (pv 4) pa_nil)) pa_nil))))))), ?_⟩
    refine ⟨.ref d, rfl, d, b, c, n, 4, rfl, hD, by omega, by decide, by decide, fun sh n1 H1 s0 s1 dr1 => ⟨Nat.zero_le _, fun fo hfo => ⟨.int sh, .ref fo, rfl, ?_⟩⟩⟩
    have hD1 := dr1.dk
    have off := hD1.off hfo
    have le1 := dr1.le
    refine Evl.q_forR1 (n := (k : Int)) (Evl.ea_cons (Evl.ev_var rfl) Evl.ea_nil) (by omega) (fun i σ H2 => ∃ (y5 : Option V), σ = [some (.ref d), some (.int m), some (.int k), some (.int sh), some (.ref fo), y5] ∧ Fnd K d b c fo m (n1 + 12 * i) H1 i H2)
      (fun H2 e2 => ⟨none, rfl, [], [], n1, e2 _ _ upd_same, .nil, rfl, fun o ho => absurd ho List.not_mem_nil, (((Dr.refl hD1).new hfo).more e2).wide (by omega)⟩) ?_ ?_
    · rintro i σ H2 hi ⟨y5, rfl, refs, os, n2, ef, hda, hlen, hok, dr⟩
      have le2 := dr.le
      have rl : refs.length = i := by
        rw [DaAll.len hda, List.length_map, hlen]
      have key : ∀ (H' : Hp) (n' : Int), H' fo = some (.lst refs) → Same (hs [d, b, fo] H2) (hs [d, b, fo] H') → Dr d b c (n1 + 12 * i + 1) H1 n' H' →
          Ew (tCall (spPart K) [] E0 (tCons (tVar 0) (tCons (tLstRg (tRg1 (tVar 1))) (tCons (tVar 3) tNil)))) [some (.ref d), some (.int m), some (.int k), some (.int sh), some (.ref fo), some (.int i)] H'
            (fun x H' => ∃ (o : List Int) (n' : Int), H' fo = some (.lst refs) ∧ Same (hs [d, b, fo] H2) (hs [d, b, fo] H') ∧ Dr d b c (n1 + 12 * i + 12) H1 n' H' ∧ OffOk m o ∧ Da K (hs [d, b, fo] H') x (offD o)) := by
        intro H' n' ef' sm' dr' Q' q'
        have le' := dr'.le
        refine ⟨.ref d, rfl, .int m, rfl, m, rfl, RgOk.of_le (by omega) (by omega) (by omega) (by omega), fun l hl => ?_⟩
        rw [rgV_ints]
        have x := dr'.dk.off hl
        have dr2 := dr'.new (o := .lst ((upto m).map V.int)) hl
        have ef2 := same_upd (o := .lst ((upto m).map V.int)) hl _ _ ef'
        refine ⟨.int sh, rfl, d, b, c, l, n', sh, upto m, rfl, dr2.dk, by omega, by rw [ints_len]; omega, .inl (SqL.of (at_msk x upd_same)), fun p ms n3 H3 hms dr3 hp => ?_⟩
        rw [ints_len] at dr3
        have ef3 := dr3.at off ef2
        have drs := dr2.step dr3
        refine q' _ _ ⟨ms, n3, ef3, sm'.trans ((hs_mono (same_upd hl)).trans (hs_msk dr3.sm (by simp) (by simp))), drs.wide (by omega), off_sub hms, da_off ?_⟩
        exact sqT_hs hp ef3
      have add : ∀ (x : V) (H' : Hp), (∃ (o : List Int) (n' : Int), H' fo = some (.lst refs) ∧ Same (hs [d, b, fo] H2) (hs [d, b, fo] H') ∧ Dr d b c (n1 + 12 * i + 12) H1 n' H' ∧ OffOk m o ∧ Da K (hs [d, b, fo] H') x (offD o)) →
          ∃ xs, H' fo = some (.lst xs) ∧ xs.length < sizeLine ∧ ∃ (y5 : Option V), [some (.ref d), some (.int m), some (.int k), some (.int sh), some (.ref fo), some (.int i)] = [some (.ref d), some (.int m), some (.int k), some (.int sh), some (.ref fo), y5] ∧ Fnd K d b c fo m (n1 + 12 * (i + 1 : Nat)) H1 (i + 1) (upd H' fo (.lst (xs ++ [x]))) := by
        rintro x H' ⟨o, n', ef', sm', dr', ho, hx⟩
        exact ⟨refs, ef', small1000 (by omega), _, rfl, Fnd.add hD1 hfo hda hlen hok sm' n' dr' (by omega) ho hx⟩
      refine ⟨.ref fo, rfl, Nat.zero_le _, fun p hp => ⟨fo, p, refs, rfl, rfl, SqL.of (same_upd hp _ _ ef), SqL.of upd_same, _, rfl, ?_⟩⟩
      have ef3 := same_upd (o := .lst []) hp _ _ ef
      have sm3 : Same (hs [d, b, fo] H2) (hs [d, b, fo] (upd H2 p (.lst []))) := hs_mono (same_upd hp)
      have dr3 := dr.new (o := .lst []) hp
      generalize upd H2 p (.lst []) = H3 at ef3 sm3 dr3 ⊢
      cases hre : refs.isEmpty with
      | true => exact iteF (iteF (s_appP _ rfl ef3 (key H3 n2 ef3 sm3 (dr3.wide (by omega))) add))
      | false =>
        refine iteT ⟨.ref d, rfl, d, b, c, n2, 6, rfl, dr3.dk, by omega, by decide, by decide, fun v n4 H4 v0 v1 dr4 => ⟨rfl, _, rfl, ?_⟩⟩
        have ef4 := dr4.at off ef3
        have sm4 := sm3.trans (hs_msk (S := [d, b, fo]) dr4.sm (by simp) (by simp))
        have drs4 := dr3.step dr4
        have le4 := drs4.le
        refine ite2 (fun _ => ?_) (fun _ => s_appP _ rfl ef4 (key H4 n4 ef4 sm4 drs4) add)
        refine s_appP _ rfl ef4 (fun Q' q' => ?_) add
        refine ⟨.ref d, rfl, .ref fo, rfl, d, b, c, fo, n4, refs, rfl, dr4.dk, by omega, ?_, by omega, SqL.of (at_msk off ef4), fun x n5 H5 hx dr5 => ?_⟩
        · intro z
          rw [z] at hre
          cases hre
        · have sm5 := sm4.trans (hs_msk (S := [d, b, fo]) dr5.sm (by simp) (by simp))
          obtain ⟨e, he, hxe⟩ := DaAll.mem (hda.mono sm5) hx
          obtain ⟨o, ho, rfl⟩ := List.mem_map.mp he
          exact q' _ _ ⟨o, n5, dr5.at off ef4, sm5, (drs4.step dr5).wide (by omega), hok o ho, hxe⟩
    · rintro σ H2 ⟨y5, rfl, refs, os, n2, ef, hda, hlen, hok, dr⟩
      refine ⟨.int m, rfl, .ref fo, rfl, mk_end (n := n) (dr1.step (k := 12 * k) (dr.wide (by simp))) ef (hda.mono (hs_to_msk (by simp) (by simp))) fun v H3 dr3 hv => q v os n2 H3 (dr3.wide (by omega)) (by simpa using hlen) hok hv⟩
abbrev sTab : Stmt := topS 39
theorem scTab : FnScope ["_law_deck_here", "_law_demands", "_law_offers", "_law_way"] ["_law_deck_here", "_law_demands", "_law_offers"] (defScope sTab) := ⟨rfl, rfl, rfl, by decide +kernel, rfl, by decide +kernel, by decide +kernel⟩
set_option maxHeartbeats 1000000 in
theorem ok_mktab {f : Addr} {fd : FuncData} (F : Fun K "_law_table" "_law_table" sTab f fd) (B : Bn mg) (c_law_next : Cl P w K mg base 1 "_law_next" ["_law_deck_here", "_law_many"] spNext)
    (c_law_intervals : Cl P w K mg base 3 "_law_intervals" ["_law_deck_here", "_law_demands", "_law_offers"] (spMk K)) (c_law_around : Cl P w K mg base 3 "_law_around" ["_law_deck_here", "_law_demands", "_law_offers"] (spMk K))
    (c_law_any : Cl P w K mg base 3 "_law_any" ["_law_deck_here", "_law_demands", "_law_offers"] (spMk K)) : FnOk P w K mg base CX0 4 f fd ["_law_deck_here", "_law_demands", "_law_offers"] (spTable K) := by
  refine F.ok scTab (fun vs H Q E h => ?_) (fun cdv A outer s H vs Q E hr h => ?_)
  · obtain ⟨d, b, c, n, m, k, rfl, _⟩ := h
    rfl
  · obtain ⟨d, b, c, n, m, k, rfl, hD, hn, m1, m10, k10, q⟩ := h
    have nd := scTab.nd
    refine ⟨_, (pss_cons (ps_par (i := 1) (j := 2) rfl nd rfl rfl (by decide) rfl rfl (pa_cons (pe_op op_add pe_int (pe_k c_law_next hr (by decide) rfl (pa_cons (pv 0) (pa_cons (pv 1) pa_nil)))) (pa_cons (pe_k c_law_next hr (by decide) rfl (pa_cons (pv 0) (pa_cons (pe_op op_add (pv 2) pe_int) pa_nil))) pa_nil)) (by rfl))
      (pss_cons (ps_set (i := 3) nd rfl (Or.inl rfl) (pe_k c_law_next hr (by decide) rfl (pa_cons (pv 0) (pa_cons pe_int pa_nil))))
      (pss_cons (ps_if (pt_cmpR op_lt (pv 3) pe_int (nomark _)) (pss_one (ps_ret (pe_k c_law_intervals hr (by decide) rfl (pa_cons (pv 0) (pa_cons (pv 1) (pa_cons (pv 2) pa_nil)))))) pss_nil)
      (pss_one (ps_ret (pe_ifExp (pt_cmpR op_eq (pv 3) pe_int (nomark _)) (pe_k c_law_around hr (by decide) rfl (pa_cons (pv 0) (pa_cons (pv 1) (pa_cons (pv 2) pa_nil)))) (pe_k c_law_any hr (by decide) rfl (pa_cons (pv 0) (pa_cons (pv 1) (pa_cons (pv 2) pa_nil)))))))))), ?_⟩
    refine ⟨.ref d, rfl, .int m, rfl, d, b, c, n, m, rfl, hD, by omega, by omega, by omega, fun v n1 H1 v0 v1 dr1 => ⟨1, v, rfl, rfl, ?_⟩⟩
    have le1 := dr1.le
    refine ⟨.ref d, rfl, .int k, rfl, k, 1, rfl, rfl, d, b, c, n1, _, rfl, dr1.dk, by omega, by omega, by omega, fun u n2 H2 u0 u1 dr2 => ⟨.int (1 + v), .int u, rfl, ?_⟩⟩
    have le2 := dr2.le
    refine ⟨.ref d, rfl, d, b, c, n2, 5, rfl, dr2.dk, by omega, by decide, by decide, fun t n3 H3 t0 t1 dr3 => ?_⟩
    have le3 := dr3.le
    have dr13 := (dr1.step dr2).step dr3
    obtain ⟨m', hm'⟩ : ∃ m' : Nat, 1 + v = (m' : Int) := ⟨(1 + v).toNat, by omega⟩
    obtain ⟨k', hk'⟩ : ∃ k' : Nat, u = (k' : Int) := ⟨u.toNat, by omega⟩
    rw [hm', hk']
    have fin : spMk K [.ref d, .int m', .int k'] H3 Q E0 := ⟨d, b, c, n3, m', k', rfl, dr3.dk, by omega, by omega, by omega, by omega, fun x os n4 H4 dr4 hl ho hx => q x m' os n4 H4 ((dr13.step dr4).wide (by omega)) (by omega) (by omega) (by omega) ho hx⟩
    refine ⟨.int t, rfl, t, 2, rfl, rfl, _, rfl, ite2 (fun _ => ?_) (fun _ => ?_)⟩
    · exact ⟨.ref d, rfl, .int m', rfl, .int k', rfl, fin⟩
    · refine ⟨.int t, rfl, rfl, _, rfl, ite2 (fun _ => ?_) (fun _ => ?_)⟩
      · exact ⟨.ref d, rfl, .int m', rfl, .int k', rfl, fin⟩
      · exact ⟨.ref d, rfl, .int m', rfl, .int k', rfl, fin⟩
abbrev sOdd : Stmt := topS 33
theorem scOdd : FnScope ["_law_deck_here", "_law_some"] ["_law_deck_here"] (defScope sOdd) := ⟨rfl, rfl, rfl, by decide +kernel, rfl, by decide +kernel, by decide +kernel⟩
set_option maxHeartbeats 2000000 in
theorem ok_odd {f : Addr} {fd : FuncData} (F : Fun K "_law_odd" "_law_odd" sOdd f fd) (B : Bn mg) (c_law_next : Cl P w K mg base 1 "_law_next" ["_law_deck_here", "_law_many"] spNext) : FnOk P w K mg base CX0 2 f fd ["_law_deck_here"] (spOdd K) := by
  refine F.ok scOdd (fun vs H Q E h => ?_) (fun cdv A outer s H vs Q E hr h => ?_)
  · obtain ⟨S, d, b, c, n, rfl, _⟩ := h
    rfl
  · obtain ⟨S, d, b, c, n, rfl, hC, hn, q⟩ := h
    have hD := hC.dk
    have nd := scOdd.nd
    refine ⟨_, (pss_cons (ps_set (i := 1) nd rfl (Or.inl rfl) (pe_lst (pa_cons pe_non (pa_cons pe_bl (pa_cons pe_bl (pa_cons pe_int (pa_cons pe_int (pa_cons (pe_un un_neg pe_int) (pa_cons pe_int (pa_cons pe_int (pa_cons pe_int (pa_cons (pe_op op_pow pe_int pe_int) (pa_cons (pe_op op_add (pe_op op_pow pe_int pe_int) pe_int) (pa_cons (pe_op op_pow pe_int pe_int) (pa_cons pe_str (pa_cons pe_str (pa_cons pe_str (pa_cons (pe_tup pa_nil) (pa_cons (pe_tup (pa_cons pe_int pa_nil)) pa_nil)))))))))))))))))))
      (pss_one (ps_ret (pe_ix ix_list (pe_op op_cat (pv 1) (pe_lst (pa_cons (pe_tup (pa_cons pe_int (pa_cons pe_int pa_nil))) (pa_cons (pe_lst pa_nil) (pa_cons pe_dnewK (pa_cons (pe_lst (pa_cons pe_int pa_nil)) (pa_cons (pe_tup (pa_cons pe_bl pa_nil)) (pa_cons (pe_tup (pa_cons (pe_tup pa_nil) pa_nil)) pa_nil)))))))) (pe_k c_law_next hr (by decide) rfl (pa_cons (pv 0) (pa_cons pe_int pa_nil))) (fun _ _ => rfl))))), ?_⟩
    have pw : ∀ j : Int, 0 ≤ j → j ≤ 100 → CPow 10 j := fun j h0 h1 => ⟨h0, by omega, by decide⟩
    refine q_asgP (fun v H' => ∃ t1 t2 l3, v = .ref l3 ∧ Nw S d b c H' t1 (.tup []) ∧ Nw S d b c H' t2 (.tup [V.int 0]) ∧ Nw S d b c H' l3 (.lst (oddA t1 t2)) ∧ Dr d b c n H n H' ∧ Same H H') (fun Q' q' => ?_) ?_
    · refine ⟨1, rfl, 10, 12, rfl, rfl, pw 12 (by decide) (by decide), 10, 12, rfl, rfl, pw 12 (by decide) (by decide), _, 1, rfl, rfl, 10, 59, rfl, rfl, pw 59 (by decide) (by decide), Nat.zero_le _, fun t1 h1 => ⟨Pb.sz (n := 1) (by decide), fun t2 h2 => ⟨Pb.sz (n := 17) (by decide), fun l3 h3 => ?_⟩⟩⟩
      have r0 := Dr.refl hD
      have r1 := r0.new (o := .tup []) h1
      have r2 := r1.new (o := .tup [V.int 0]) h2
      have s3 := same_upd (o := .lst (oddA t1 t2)) h3
      have w1 : Nw S d b c _ t1 (.tup []) := Nw.new (o := .tup []) hC h1
      have w2 : Nw S d b c _ t2 (.tup [V.int 0]) := Nw.new (o := .tup [V.int 0]) (hC.same (same_upd h1)) h2
      exact q' (.ref l3) _ ⟨t1, t2, l3, rfl, (w1.mono (same_upd h2)).mono s3, w2.mono s3, Nw.new ((hC.same (same_upd h1)).same (same_upd h2)) h3, r2.new h3, ((same_upd h1).trans (same_upd h2)).trans s3⟩
    · rintro v H3 ⟨t1, t2, l3, rfl, w1, w2, w3, r3, s03⟩
      refine ⟨.ref l3, rfl, ?_⟩
      refine (show Ew (tLst _) _ _ (fun v H' => ∃ t4 l5 d6 l7 t8 t9 t10 l11, v = .ref l11 ∧ Nw S d b c H' t4 (.tup [V.int 0, V.int 1]) ∧ Nw S d b c H' l5 (.lst []) ∧ Nw S d b c H' d6 (.dK []) ∧ Nw S d b c H' l7 (.lst [V.int 0]) ∧ Nw S d b c H' t8 (.tup [V.bl true]) ∧ Nw S d b c H' t9 (.tup []) ∧ Nw S d b c H' t10 (.tup [V.ref t9]) ∧
        Nw S d b c H' l11 (.lst [V.ref t4, V.ref l5, V.ref d6, V.ref l7, V.ref t8, V.ref t10]) ∧ Same H3 H') from fun Q' q' => ?_) _ (fun v H4 hv => ?_)
      · refine ⟨Pb.sz (n := 2) (by decide), fun t4 h4 => ⟨Nat.zero_le _, fun l5 h5 d6 h6 => ⟨Pb.sz (n := 1) (by decide), fun l7 h7 => ⟨Pb.sz (n := 1) (by decide), fun t8 h8 => ⟨Nat.zero_le _, fun t9 h9 => ⟨Pb.sz (n := 1) (by decide), fun t10 h10 => ⟨Pb.sz (n := 6) (by decide), fun l11 h11 => ?_⟩⟩⟩⟩⟩⟩⟩
        have D3 := hC.same s03
        have D4 := D3.same (same_upd (o := .tup [V.int 0, V.int 1]) h4)
        have D5 := D4.same (same_upd (o := .lst []) h5)
        have D6 := D5.same (same_upd (o := .dK []) h6)
        have D7 := D6.same (same_upd (o := .lst [V.int 0]) h7)
        have D8 := D7.same (same_upd (o := .tup [V.bl true]) h8)
        have D9 := D8.same (same_upd (o := .tup []) h9)
        have D10 := D9.same (same_upd (o := .tup [V.ref t9]) h10)
        have s11 := same_upd (o := .lst [V.ref t4, V.ref l5, V.ref d6, V.ref l7, V.ref t8, V.ref t10]) h11
        have s10 := Same.trans (same_upd (o := .tup [V.ref t9]) h10) s11
        have s9 := Same.trans (same_upd (o := .tup []) h9) s10
        have s8 := Same.trans (same_upd (o := .tup [V.bl true]) h8) s9
        have s7 := Same.trans (same_upd (o := .lst [V.int 0]) h7) s8
        have s6 := Same.trans (same_upd (o := .dK []) h6) s7
        have s5 := Same.trans (same_upd (o := .lst []) h5) s6
        have s4 := Same.trans (same_upd (o := .tup [V.int 0, V.int 1]) h4) s5
        exact q' (.ref l11) _ ⟨t4, l5, d6, l7, t8, t9, t10, l11, rfl, (Nw.new D3 h4).mono s5, (Nw.new D4 h5).mono s6, (Nw.new D5 h6).mono s7, (Nw.new D6 h7).mono s8, (Nw.new D7 h8).mono s9, (Nw.new D8 h9).mono s10, (Nw.new D9 h10).mono s11, Nw.new D10 h11, s4⟩
      · obtain ⟨t4, l5, d6, l7, t8, t9, t10, l11, rfl, w4, w5, w6, w7, w8, w9, w10, w11, s34⟩ := hv
        refine ⟨l3, l11, _, _, rfl, rfl, (w3.mono s34).at_p, w11.at_p, Pb.sz (n := 23) (by decide), fun l12 h12 => ?_⟩
        have dr12 := (r3.more s34).new (o := .lst (oddA t1 t2 ++ [V.ref t4, V.ref l5, V.ref d6, V.ref l7, V.ref t8, V.ref t10])) h12
        have sw := same_upd (o := .lst (oddA t1 t2 ++ [V.ref t4, V.ref l5, V.ref d6, V.ref l7, V.ref t8, V.ref t10])) h12
        have w12 : Nw S d b c _ l12 (.lst (oddA t1 t2 ++ [V.ref t4, V.ref l5, V.ref d6, V.ref l7, V.ref t8, V.ref t10])) := Nw.new (hC.same (s03.trans s34)) h12
        have all : DaAll K (hs S (upd H4 l12 (.lst (oddA t1 t2 ++ [V.ref t4, V.ref l5, V.ref d6, V.ref l7, V.ref t8, V.ref t10])))) (oddA t1 t2 ++ [V.ref t4, V.ref l5, V.ref d6, V.ref l7, V.ref t8, V.ref t10]) oddL :=
          .cons .non (.cons (.bl _) (.cons (.bl _) (.cons (.int _) (.cons (.int _) (.cons (.int _) (.cons (.int _) (.cons (.int _) (.cons (.int _) (.cons (.int _) (.cons (.int _) (.cons (.int _) (.cons (.str _) (.cons (.str _) (.cons (.str _)
            (.cons (.tup ((w1.mono s34).mono sw).tup .nil) (.cons (.tup ((w2.mono s34).mono sw).tup (.cons (.int _) .nil)) (.cons (.tup (w4.mono sw).tup (.cons (.int _) (.cons (.int _) .nil))) (.cons (.lst (w5.mono sw).lst .nil) (.cons (w6.mono sw).emp
              (.cons (.lst (w7.mono sw).lst (.cons (.int _) .nil)) (.cons (.tup (w8.mono sw).tup (.cons (.bl _) .nil)) (.cons (.tup (w10.mono sw).tup (.cons (.tup (w9.mono sw).tup .nil) .nil)) .nil))))))))))))))))))))))
        have s05 := (s03.trans s34).trans sw
        generalize upd H4 l12 (.lst (oddA t1 t2 ++ [V.ref t4, V.ref l5, V.ref d6, V.ref l7, V.ref t8, V.ref t10])) = H5 at *
        generalize oddA t1 t2 ++ [V.ref t4, V.ref l5, V.ref d6, V.ref l7, V.ref t8, V.ref t10] = xs at *
        refine ⟨.ref d, rfl, d, b, c, n, 23, rfl, dr12.dk, by omega, by decide, by decide, fun v n' H6 v0 v1 dr6 => ?_⟩
        obtain ⟨j, rfl⟩ : ∃ j : Nat, v = (j : Int) := ⟨v.toNat, by omega⟩
        have xl : xs.length = 23 := DaAll.len all
        have hj : j < xs.length := by omega
        obtain ⟨e, he, hxe⟩ := DaAll.get all (List.getElem?_eq_getElem hj)
        exact ⟨l12, xs, _, xs[j], rfl, rfl, SqL.of (dr6.at w12.off w12.at_p), atI_nat (List.getElem?_eq_getElem hj), q _ e n' H6 (List.mem_of_getElem? he) (dr12.step dr6) (hxe.mono ((Ck.same hC s05).sm dr6))⟩
abbrev sSame : Stmt := topS 32
theorem scSame : FnScope ["_law_found", "_law_due_here", "_law_k"] ["_law_found", "_law_due_here"] (defScope sSame) := ⟨rfl, rfl, rfl, by decide +kernel, rfl, by decide +kernel, by decide +kernel⟩
theorem ok_same0 {f : Addr} {fd : FuncData} : FnOk P w K mg base CX0 1 f fd ["_law_found", "_law_due_here"] (spV (rSameX K 0)) := by
  refine ⟨fun vs H Q E h => ?_, fun A outer s H args us vs Q E hr he hb hv h => ?_⟩
  · obtain ⟨z, ⟨x, y, e, _, _, _, n, _⟩, _⟩ := h
    exact absurd n (Nat.not_lt_zero _)
  · obtain ⟨z, ⟨x, y, e, _, _, _, n, _⟩, _⟩ := h
    exact absurd n (Nat.not_lt_zero _)
set_option maxHeartbeats 1000000 in
theorem ok_same1 {f : Addr} {fd : FuncData} {δ : Nat} (F : Fun K "_law_same" "_law_same" sSame f fd) (B : Bn mg) (c_law_same : Cl P w K mg base (δ + 1) "_law_same" ["_law_found", "_law_due_here"] (spV (rSameX K δ))) :
    FnOk P w K mg base CX0 (δ + 2) f fd ["_law_found", "_law_due_here"] (spV (rSameX K (δ + 1))) := by
  refine F.ok scSame (fun vs H Q E h => ?_) (fun cdv A outer s H vs Q E hr h => ?_)
  · obtain ⟨z, ⟨x, y, e, rfl, _⟩, _⟩ := h
    rfl
  · obtain ⟨z, ⟨x, y, e, rfl, hx, hy, hd, hok, hnd, rfl⟩, q⟩ := h
    have nd := scSame.nd
    refine ⟨_, (pss_cons (ps_if (pt_val (pe_callB call_isiT rfl B.isinstance bt_isinstance (pa_cons (pv 1) (pa_cons (pe_tup (pa_cons (pe_ty rfl B.tuple bt_tuple) (pa_cons (pe_ty rfl B.list bt_list) pa_nil))) pa_nil)))) (pss_cons (ps_if (pt_cmpR op_ne (pe_callB call_isi rfl B.isinstance bt_isinstance (pa_cons (pv 0) (pa_cons (pe_ty rfl B.tuple bt_tuple) pa_nil))) (pe_callB call_isi rfl B.isinstance bt_isinstance (pa_cons (pv 1) (pa_cons (pe_ty rfl B.tuple bt_tuple) pa_nil))) (nomark _)) (pss_one (ps_ret pe_bl)) pss_nil)
      (pss_cons (ps_if (pt_cmpR op_ne (pe_callB call_isi rfl B.isinstance bt_isinstance (pa_cons (pv 0) (pa_cons (pe_ty rfl B.list bt_list) pa_nil))) (pe_callB call_isi rfl B.isinstance bt_isinstance (pa_cons (pv 1) (pa_cons (pe_ty rfl B.list bt_list) pa_nil))) (nomark _)) (pss_one (ps_ret pe_bl)) pss_nil)
      (pss_cons (ps_if (pt_cmpR op_ne (pe_callB call_len_seq rfl B.len bt_len (pa_cons (pv 0) pa_nil)) (pe_callB call_len_seq rfl B.len bt_len (pa_cons (pv 1) pa_nil)) (nomark _)) (pss_one (ps_ret pe_bl)) pss_nil)
      (pss_one (ps_ret (pe_cmpR (op_eq0 hr.units) (pe_lc (own := [("_law_k", 2)]) (g := gName 2) rfl nd (pi_range1 rfl B.range (pa_cons (pe_callB call_len_seq rfl B.len bt_len (pa_cons (pv 1) pa_nil)) pa_nil)) (blkOk_by (own := [("_law_k", 2)]) (N := ["_law_found", "_law_due_here", "_law_k"]) (sc := defScope sSame) (by decide +kernel)) (fun _ _ _ _ _ => (pg_name (i := 2) nd rfl (Or.inl rfl))) (fun _ _ _ _ _ => pts_one (pt_not (pt_val (pe_k c_law_same hr (by omega) rfl (pa_cons (pe_ix (ix_anyK (K := K) rfl) (pv 0) (pv 2) (fun _ _ => rfl)) (pa_cons (pe_ix (ix_anyK (K := K) rfl) (pv 1) (pv 2) (fun _ _ => rfl)) pa_nil)))))) (fun _ _ _ _ _ => (pv 2))) (pe_lst pa_nil) (nomark _))))))) pss_nil)
      (pss_cons (ps_if (pt_val (pe_callB call_isi rfl B.isinstance bt_isinstance (pa_cons (pv 1) (pa_cons (pe_ty rfl B.dict bt_dict) pa_nil)))) (pss_one (ps_ret (pe_and (pe_callB call_isi rfl B.isinstance bt_isinstance (pa_cons (pv 0) (pa_cons (pe_ty rfl B.dict bt_dict) pa_nil))) (pe_one (pe_cmpR op_eq (pv 0) (pv 1) (nomark _)))))) pss_nil)
      (pss_cons (ps_if (pt_cmpR op_isN (pv 1) pe_non (nomark _)) (pss_one (ps_ret (pe_cmpR op_isN (pv 0) pe_non (nomark _)))) pss_nil)
      (pss_cons (ps_if (pt_val (pe_callB call_isi rfl B.isinstance bt_isinstance (pa_cons (pv 1) (pa_cons (pe_ty rfl B.str bt_str) pa_nil)))) (pss_one (ps_ret (pe_and (pe_callB call_isi rfl B.isinstance bt_isinstance (pa_cons (pv 0) (pa_cons (pe_ty rfl B.str bt_str) pa_nil))) (pe_one (pe_cmpR op_eq (pv 0) (pv 1) (nomark _)))))) pss_nil)
      (pss_one (ps_ret (pe_and (pe_callB call_isi rfl B.isinstance bt_isinstance (pa_cons (pv 0) (pa_cons (pe_ty rfl B.int bt_int) pa_nil))) (pe_and (pe_cmpR op_eq (pe_callB call_isi rfl B.isinstance bt_isinstance (pa_cons (pv 0) (pa_cons (pe_ty rfl B.bool bt_bool) pa_nil))) (pe_callB call_isi rfl B.isinstance bt_isinstance (pa_cons (pv 1) (pa_cons (pe_ty rfl B.bool bt_bool) pa_nil))) (nomark _)) (pe_one (pe_cmpR op_eq (pv 0) (pv 1) (nomark _))))))))))), ?_⟩
    refine Evl.q_when (Evl.et_B (ev_isi2 (T := "tuple") (U := "list") (Evl.ev_var rfl) hy)) (fun hb H1 e1 => ?_) (fun hb H1 e1 => ?_)
    · obtain ⟨a, xs, es, rfl, hsx, hax, he⟩ := hx.seq hb
      obtain ⟨b, ys, es', rfl, hsy, hay, he'⟩ := hy.seq hb
      obtain rfl : es' = es := by
        rcases he with rfl | rfl <;> rcases he' with h' | h' <;> cases h' <;> rfl
      have hx1 := hx.mono e1
      have hy1 := hy.mono e1
      obtain ⟨l60, each⟩ := seq_partsX he hd hok hnd
      have lx := DaAll.len hax
      have ly := DaAll.len hay
      refine Evl.q_when (b := false) (Evl.et_is (Evl.et_test (Evl.ev_op (ev_isi (T := "tuple") (Evl.ev_var rfl) hx1) (ev_isi (T := "tuple") (Evl.ev_var rfl) hy1) (Evl.rv_ne rfl))) (by simp)) (fun z => by cases z) (fun _ H2 e2 => ?_)
      refine Evl.q_when (b := false) (Evl.et_is (Evl.et_test (Evl.ev_op (ev_isi (T := "list") (Evl.ev_var rfl) (hx1.mono e2)) (ev_isi (T := "list") (Evl.ev_var rfl) (hy1.mono e2)) (Evl.rv_ne rfl))) (by simp)) (fun z => by cases z) (fun _ H3 e3 => ?_)
      have e13 := (e1.trans e2).trans e3
      refine Evl.q_when (b := false) (Evl.et_is (Evl.et_test (Evl.ev_op (ev_len' (K := K) (xs := xs) (Evl.ev_var rfl) (Same.sq e13 hsx)) (ev_len' (K := K) (xs := ys) (Evl.ev_var rfl) (Same.sq e13 hsy)) (Evl.rv_ne rfl))) (by simp [lx, ly])) (fun z => by cases z) (fun _ H4 e4 => ?_)
      have e14 := e13.trans e4
      refine Evl.s_ret (Evl.ev_is (ev_eq0 (K := K) (Evl.el_lcR1 (n := (ys.length : Int)) (fun _ => false) (fun i => .int i) (Evl.ea_cons (ev_len' (K := K) (xs := ys) (Evl.ev_var rfl) (Same.sq e14 hsy)) Evl.ea_nil) (by omega) (fun _ => rfl) (fun i H5 e5 hi => ?_) (fun i H5 e5 hi hf => by cases hf))) ?_) (fun H5 e5 => q H5 (e14.trans e5))
      · have hi1 : i < ys.length := by omega
        have hi2 : i < xs.length := by omega
        obtain ⟨u, hu, hu'⟩ := DaAll.get hay (List.getElem?_eq_getElem hi1)
        obtain ⟨u2, hu2, hu2'⟩ := DaAll.get hax (List.getElem?_eq_getElem hi2)
        obtain rfl : u2 = u := by
          rw [hu] at hu2
          exact (Option.some.inj hu2).symm
        have e15 := e14.trans e5
        have ok := each _ (List.mem_of_getElem? hu)
        refine Evl.et_is (Evl.et_not (Evl.et_B (Evl.ev_call (Evl.ea_cons (Evl.ev_op (Evl.ev_var rfl) (Evl.ev_var rfl) (rv_ixA (Same.sq e15 hsx) (atI_nat (List.getElem?_eq_getElem hi2)))) (Evl.ea_cons (Evl.ev_op (Evl.ev_var rfl) (Evl.ev_var rfl) (rv_ixA (Same.sq e15 hsy) (atI_nat (List.getElem?_eq_getElem hi1)))) Evl.ea_nil)) (spV_of fun H6 e6 => ⟨_, _, u2, rfl, hu2'.mono (e15.trans e6), hu'.mono (e15.trans e6), ok.1, ok.2.1, ok.2.2, rfl⟩)))) rfl
      · unfold Evl.given
        simp
    · have hx1 := hx.mono e1
      have hy1 := hy.mono e1
      have dict : isI "dict" e = false := by
        cases e with
        | dict kvs => simp [PyData.hasDict] at hnd
        | _ => rfl
      refine Evl.q_when (b := false) (Evl.et_is (Evl.et_B (ev_isi (T := "dict") (Evl.ev_var rfl) hy1)) dict) (fun z => by cases z) (fun _ H2 e2 => ?_)
      have hx2 := hx1.mono e2
      have hy2 := hy1.mono e2
      refine Evl.q_when (Evl.et_test (ev_isN (Evl.ev_var rfl))) (fun hn H3 e3 => ?_) (fun hn H3 e3 => ?_)
      · obtain rfl : y = .non := of_decide_eq_true hn
        have : e = .none := by cases hy; rfl
        subst this
        cases hx
        exact Evl.s_ret (Evl.ev_is (ev_isN (Evl.ev_var rfl)) rfl) fun H4 e4 => q H4 (((e1.trans e2).trans e3).trans e4)
      · have hx3 := hx2.mono e3
        have hy3 := hy2.mono e3
        refine Evl.q_when (Evl.et_B (ev_isi (T := "str") (Evl.ev_var rfl) hy3)) (fun hs H4 e4 => ?_) (fun hs H4 e4 => ?_)
        · have e04 := ((e1.trans e2).trans e3).trans e4
          obtain ⟨t, rfl⟩ : ∃ t, e = .str t := by
            cases e with
            | str t => exact ⟨t, rfl⟩
            | none => simp [isI, isN, tyN] at hs
            | bool _ => simp [isI, isN, tyN] at hs
            | int _ => simp [isI, isN, tyN] at hs
            | list _ => simp [isI, isN, tyN] at hs
            | tuple _ => simp [isI, isN, tyN] at hs
            | dict _ => simp [isI, isN, tyN] at hs
          cases hx
          cases hy
          exact Evl.s_ret (Evl.ev_is (Evl.ev_andV (ev_isi (K := K) (T := "str") (Evl.ev_var rfl) (.str t)) fun _ => Evl.ev_op (Evl.ev_var rfl) (Evl.ev_var rfl) (Evl.rv_eq (x := .str t) (y := .str t) rfl)) (by simp [isI, isN, tyN])) fun H5 e5 => q H5 (e04.trans e5)
        · have e04 := ((e1.trans e2).trans e3).trans e4
          have fin : ∀ (v : V) (d : PyData), (∀ H', Da K H' v d) → isI "int" d = true → scal v v = true → x = v → y = v → (tRet (tAndV (tCB (rIsi K) (tCons (tVar 0) (tCons (tC (.ty "int")) tNil))) (tAndV (tOp rEq (tCB (rIsi K) (tCons (tVar 0) (tCons (tC (.ty "bool")) tNil))) (tCB (rIsi K) (tCons (tVar 1) (tCons (tC (.ty "bool")) tNil)))) (tOp rEq (tVar 0) (tVar 1)))) : TS) { nx := fun _ H' => Q .non H', rt := Q } (start ["_law_found", "_law_due_here", "_law_k"] [x, y]) H4 := by
            rintro v d hv hi hsc rfl rfl
            exact Evl.s_ret (Evl.ev_is (Evl.ev_andV (ev_isi (K := K) (T := "int") (Evl.ev_var rfl) (hv _)) fun _ => Evl.ev_andV (Evl.ev_op (ev_isi (K := K) (T := "bool") (Evl.ev_var rfl) (hv _)) (ev_isi (K := K) (T := "bool") (Evl.ev_var rfl) (hv _)) (Evl.rv_eq rfl)) fun _ => Evl.ev_op (Evl.ev_var rfl) (Evl.ev_var rfl) (Evl.rv_eq hsc)) (by simp [hi])) fun H5 e5 => q H5 (e04.trans e5)
          cases hx with
          | bl c =>
            cases hy
            exact fin (.bl c) _ (fun _ => .bl c) rfl rfl rfl rfl
          | int i =>
            cases hy
            exact fin (.int i) _ (fun _ => .int i) rfl rfl rfl rfl
          | non =>
            cases hy
            simp at hn
          | str t => simp [isI, isN, tyN] at hs
          | lst _ _ => simp [isI, isN, tyN] at hb
          | tup _ _ => simp [isI, isN, tyN] at hb
          | emp _ => simp [isI, isN, tyN] at dict
          | dic _ _ => simp [isI, isN, tyN] at dict
abbrev sIBadText : Stmt := inS (topS 19)
theorem scIBadText : FnScope ["self", "line"] ["self", "line"] (defScope sIBadText) := ⟨rfl, rfl, rfl, by decide +kernel, rfl, by decide +kernel, by decide +kernel⟩
theorem ok_initBadText {f C : Addr} {fd : FuncData} (F : Fun K "__init__" "BadText.__init__" sIBadText f fd) (T : OexC K C) (no : PySem.W.findIn K (.ref C) "line" = some none) : FnOk P w K mg base CX0 1 f fd ["self", "line"] (spInit C "line") := by
  refine F.ok scIBadText (fun vs H Q E h => ?_) (fun cdv A outer s H vs Q E hr h => ?_)
  · obtain ⟨a, y, rfl, _⟩ := h
    rfl
  · obtain ⟨a, y, rfl, ha, q⟩ := h
    exact ⟨_, pss_one (ps_ost (pv 0) (pv 1)), y, rfl, .ref a, rfl, a, C, rfl, T, no, .inl ⟨ha, q⟩⟩
end
end L67

set_option Elab.async false
set_option linter.all false
set_option maxRecDepth 100000
namespace L67
open PySem PySem.Spec PyProof.Rows L2 Pb
set_option maxHeartbeats 4000000 in
theorem all_mk {P : Program} {w : World} {K : PySem.W.Frag} {mg : Str → Option Value} {fa ca cb cc cd ce cf cg ch oo : Addr} {h : Heap} (X : K.In h) (G : h.Ns mainGlobals mg) (hfa : mg "law" = some (.ref fa)) (B : Bx mg)
    (g_MAX_AMOUNT : ∃ t, mg "MAX_AMOUNT" = some (.int 1000000000000 t))
    (g_MAX_DEMANDS : ∃ t, mg "MAX_DEMANDS" = some (.int 10 t))
    (g_MAX_DIGITS : ∃ t, mg "MAX_DIGITS" = some (.int 13 t))
    (g_MAX_OFFERS : ∃ t, mg "MAX_OFFERS" = some (.int 10 t))
    (goo : mg "OrderError" = some (.ref oo))
    (oohs : PySem.W.subIn K (.ref oo) (.type "BaseException") = some true)
    (oohd : PySem.W.hasDictIn K oo = true)
    (oott : PySem.W.typeIn K (.ref oo) = some (.type "type"))
    (gca : mg "NoDemand" = some (.ref ca))
    (cahg : PySem.W.findIn K (.ref ca) "__getattribute__" = some (some (.builtin "BaseException.__getattribute__")))
    (cahk : PySem.W.findIn K (.ref ca) "__getattr__" = some none)
    (cahs : PySem.W.subIn K (.ref ca) (.type "BaseException") = some true)
    (cahd : PySem.W.hasDictIn K ca = true)
    (caha : PySem.W.findIn K (.ref ca) "__class__" = some (some (.builtin "object.__class__")))
    (cahm : PySem.W.mroIn K ca (.type "object") = some true)
    (catt : PySem.W.typeIn K (.ref ca) = some (.type "type"))
    (cakk : PySem.W.keepIn K (.ref ca) = true)
    (caii : PySem.W.isClsIn K ca = true)
    (casv : PySem.W.subIn K (.ref ca) (.type "ValueError") = some true)
    (caco : PySem.W.subIn K (.ref ca) (.ref oo) = some true)
    (cano : PySem.W.findIn K (.ref ca) "demand" = some none)
    (gcb : mg "NoOrder" = some (.ref cb))
    (cbhg : PySem.W.findIn K (.ref cb) "__getattribute__" = some (some (.builtin "BaseException.__getattribute__")))
    (cbhk : PySem.W.findIn K (.ref cb) "__getattr__" = some none)
    (cbhs : PySem.W.subIn K (.ref cb) (.type "BaseException") = some true)
    (cbhd : PySem.W.hasDictIn K cb = true)
    (cbha : PySem.W.findIn K (.ref cb) "__class__" = some (some (.builtin "object.__class__")))
    (cbhm : PySem.W.mroIn K cb (.type "object") = some true)
    (cbtt : PySem.W.typeIn K (.ref cb) = some (.type "type"))
    (cbkk : PySem.W.keepIn K (.ref cb) = true)
    (cbii : PySem.W.isClsIn K cb = true)
    (cbsv : PySem.W.subIn K (.ref cb) (.type "ValueError") = some true)
    (cbco : PySem.W.subIn K (.ref cb) (.ref oo) = some true)
    (gcc : mg "NoAmount" = some (.ref cc))
    (cchg : PySem.W.findIn K (.ref cc) "__getattribute__" = some (some (.builtin "BaseException.__getattribute__")))
    (cchk : PySem.W.findIn K (.ref cc) "__getattr__" = some none)
    (cchs : PySem.W.subIn K (.ref cc) (.type "BaseException") = some true)
    (cchd : PySem.W.hasDictIn K cc = true)
    (ccha : PySem.W.findIn K (.ref cc) "__class__" = some (some (.builtin "object.__class__")))
    (cchm : PySem.W.mroIn K cc (.type "object") = some true)
    (cctt : PySem.W.typeIn K (.ref cc) = some (.type "type"))
    (cckk : PySem.W.keepIn K (.ref cc) = true)
    (ccii : PySem.W.isClsIn K cc = true)
    (ccsv : PySem.W.subIn K (.ref cc) (.type "ValueError") = some true)
    (ccco : PySem.W.subIn K (.ref cc) (.ref oo) = some true)
    (ccno : PySem.W.findIn K (.ref cc) "amount" = some none)
    (gcd : mg "TooMany" = some (.ref cd))
    (cdhg : PySem.W.findIn K (.ref cd) "__getattribute__" = some (some (.builtin "BaseException.__getattribute__")))
    (cdhk : PySem.W.findIn K (.ref cd) "__getattr__" = some none)
    (cdhs : PySem.W.subIn K (.ref cd) (.type "BaseException") = some true)
    (cdhd : PySem.W.hasDictIn K cd = true)
    (cdha : PySem.W.findIn K (.ref cd) "__class__" = some (some (.builtin "object.__class__")))
    (cdhm : PySem.W.mroIn K cd (.type "object") = some true)
    (cdtt : PySem.W.typeIn K (.ref cd) = some (.type "type"))
    (cdkk : PySem.W.keepIn K (.ref cd) = true)
    (cdii : PySem.W.isClsIn K cd = true)
    (cdsv : PySem.W.subIn K (.ref cd) (.type "ValueError") = some true)
    (cdco : PySem.W.subIn K (.ref cd) (.ref oo) = some true)
    (cdno : PySem.W.findIn K (.ref cd) "limit" = some none)
    (gce : mg "BadTable" = some (.ref ce))
    (cehg : PySem.W.findIn K (.ref ce) "__getattribute__" = some (some (.builtin "BaseException.__getattribute__")))
    (cehk : PySem.W.findIn K (.ref ce) "__getattr__" = some none)
    (cehs : PySem.W.subIn K (.ref ce) (.type "BaseException") = some true)
    (cehd : PySem.W.hasDictIn K ce = true)
    (ceha : PySem.W.findIn K (.ref ce) "__class__" = some (some (.builtin "object.__class__")))
    (cehm : PySem.W.mroIn K ce (.type "object") = some true)
    (cett : PySem.W.typeIn K (.ref ce) = some (.type "type"))
    (cekk : PySem.W.keepIn K (.ref ce) = true)
    (ceii : PySem.W.isClsIn K ce = true)
    (cesv : PySem.W.subIn K (.ref ce) (.type "ValueError") = some true)
    (ceco : PySem.W.subIn K (.ref ce) (.ref oo) = some true)
    (gcf : mg "BadPrices" = some (.ref cf))
    (cfhg : PySem.W.findIn K (.ref cf) "__getattribute__" = some (some (.builtin "BaseException.__getattribute__")))
    (cfhk : PySem.W.findIn K (.ref cf) "__getattr__" = some none)
    (cfhs : PySem.W.subIn K (.ref cf) (.type "BaseException") = some true)
    (cfhd : PySem.W.hasDictIn K cf = true)
    (cfha : PySem.W.findIn K (.ref cf) "__class__" = some (some (.builtin "object.__class__")))
    (cfhm : PySem.W.mroIn K cf (.type "object") = some true)
    (cftt : PySem.W.typeIn K (.ref cf) = some (.type "type"))
    (cfkk : PySem.W.keepIn K (.ref cf) = true)
    (cfii : PySem.W.isClsIn K cf = true)
    (cfsv : PySem.W.subIn K (.ref cf) (.type "ValueError") = some true)
    (cfco : PySem.W.subIn K (.ref cf) (.ref oo) = some true)
    (gcg : mg "BadPenalties" = some (.ref cg))
    (cghg : PySem.W.findIn K (.ref cg) "__getattribute__" = some (some (.builtin "BaseException.__getattribute__")))
    (cghk : PySem.W.findIn K (.ref cg) "__getattr__" = some none)
    (cghs : PySem.W.subIn K (.ref cg) (.type "BaseException") = some true)
    (cghd : PySem.W.hasDictIn K cg = true)
    (cgha : PySem.W.findIn K (.ref cg) "__class__" = some (some (.builtin "object.__class__")))
    (cghm : PySem.W.mroIn K cg (.type "object") = some true)
    (cgtt : PySem.W.typeIn K (.ref cg) = some (.type "type"))
    (cgkk : PySem.W.keepIn K (.ref cg) = true)
    (cgii : PySem.W.isClsIn K cg = true)
    (cgsv : PySem.W.subIn K (.ref cg) (.type "ValueError") = some true)
    (cgco : PySem.W.subIn K (.ref cg) (.ref oo) = some true)
    (gch : mg "BadText" = some (.ref ch))
    (chhg : PySem.W.findIn K (.ref ch) "__getattribute__" = some (some (.builtin "BaseException.__getattribute__")))
    (chhk : PySem.W.findIn K (.ref ch) "__getattr__" = some none)
    (chhs : PySem.W.subIn K (.ref ch) (.type "BaseException") = some true)
    (chhd : PySem.W.hasDictIn K ch = true)
    (chha : PySem.W.findIn K (.ref ch) "__class__" = some (some (.builtin "object.__class__")))
    (chhm : PySem.W.mroIn K ch (.type "object") = some true)
    (chtt : PySem.W.typeIn K (.ref ch) = some (.type "type"))
    (chkk : PySem.W.keepIn K (.ref ch) = true)
    (chii : PySem.W.isClsIn K ch = true)
    (chsv : PySem.W.subIn K (.ref ch) (.type "ValueError") = some true)
    (chco : PySem.W.subIn K (.ref ch) (.ref oo) = some true)
    (chox : ∃ nm q N bs bm sn sub ab col dd k0 k1 k2 k3 k5, K.lookup ch = some (excClassObj nm q ch N bs bm true sn sub ab col dd k0 k1 k2 k3 k5 "ValueError.__new__") ∧ PySem.HandSPX.refsVE bm = true)
    (chsa : PySem.W.findIn K (.ref ch) "__setattr__" = some (some (.builtin "object.__setattr__")))
    (chno : PySem.W.findIn K (.ref ch) "line" = some none)
    (chdi : Di K ch "BadText.__init__" sIBadText)
    (zhn : PySem.W.specialIn K (.builtin "object.__class__") "__get__" = some (some (.builtin "getset_descriptor.__get__")))
    (zht : PySem.W.takesIn K (.builtin "object.__class__") = some true)
    (nechcg : (Value.ref ch == Value.ref cg) = false)
    (suchcg : PySem.W.subIn K (.ref ch) (.ref cg) = some false)
    (nechcf : (Value.ref ch == Value.ref cf) = false)
    (suchcf : PySem.W.subIn K (.ref ch) (.ref cf) = some false)
    (nechce : (Value.ref ch == Value.ref ce) = false)
    (suchce : PySem.W.subIn K (.ref ch) (.ref ce) = some false)
    (nechcc : (Value.ref ch == Value.ref cc) = false)
    (suchcc : PySem.W.subIn K (.ref ch) (.ref cc) = some false)
    (nechca : (Value.ref ch == Value.ref ca) = false)
    (suchca : PySem.W.subIn K (.ref ch) (.ref ca) = some false)
    (nechcb : (Value.ref ch == Value.ref cb) = false)
    (suchcb : PySem.W.subIn K (.ref ch) (.ref cb) = some false)
    (nechcd : (Value.ref ch == Value.ref cd) = false)
    (suchcd : PySem.W.subIn K (.ref ch) (.ref cd) = some false)
    (D0 : Df K mg "_law_deck" sDeck)
    (D1 : Df K mg "_law_next" sNext)
    (D2 : Df K mg "_law_shuffled" sShuf)
    (D3 : Df K mg "_law_intervals" sInt)
    (D4 : Df K mg "_law_part" sPart)
    (D5 : Df K mg "_law_around" sAr)
    (D6 : Df K mg "_law_one" s__law_one)
    (D7 : Df K mg "_law_any" sAny)
    (D8 : Df K mg "_law_table" sTab)
    (D9 : Df K mg "_law_amount" s__law_amount)
    (D10 : Df K mg "_law_data" s__law_data)
    (D11 : Df K mg "_law_text" s__law_text)
    (D12 : Df K mg "_law_odd" sOdd)
    (D13 : Df K mg "_law_changed_text" s__law_changed_text)
    (D14 : Df K mg "parse_number" s_parse_number)
    (D15 : Df K mg "numbers_behind" s_numbers_behind)
    (D16 : Df K mg "is_integer" s_is_integer)
    (D17 : Df K mg "is_number_below" s_is_number_below)
    (D18 : Df K mg "is_amount" s_is_amount)
    (D19 : Df K mg "leading_penalties" s_leading_penalties)
    (D20 : Df K mg "is_ascending_below" s_is_ascending_below)
    (D21 : Df K mg "parse_offer" s_parse_offer)
    (D22 : Df K mg "parse_data" sx_parse_data)
    (D23 : Df K mg "is_distinct_below" s_is_distinct_below)
    (D24 : Df K mg "is_order" s_is_order)
    (D25 : Df K mg "parse_order" sx_parse_order)
    (D26 : Df K mg "_law_told" st__law_told)
    (D27 : Df K mg "_law_integer" s__law_integer)
    (D28 : Df K mg "_law_offer" s__law_offer)
    (D29 : Df K mg "_law_read_data" s__law_read_data)
    (D30 : Df K mg "_law_due" s__law_due)
    (D31 : Df K mg "_law_same" sSame)
    (D32 : Df K mg "law" s_law)
    : ∃ fd : FuncData, (∀ (s : Shared) (v : Value), BindsTo s fd ⟨[v], []⟩ [("_law_script", v)]) ∧ ∀ base : Heap, K.In base → base.Ns mainGlobals mg → (∃ mm, base.Ns sysModules mm) → RunG P w K mg base 8 fa fd ["_law_script"] (spLaw K) := by
  obtain ⟨f0, fd0, F0, m0⟩ := D0
  have b0 := F0.binds (ps := ["_law_script"]) fun _ _ _ _ _ _ us hl => match us, hl with | [_], _ => rfl
  obtain ⟨f1, fd1, F1, m1⟩ := D1
  have b1 := F1.binds (ps := ["_law_deck_here", "_law_many"]) fun _ _ _ _ _ _ us hl => match us, hl with | [_, _], _ => rfl
  obtain ⟨f2, fd2, F2, m2⟩ := D2
  have b2 := F2.binds (ps := ["_law_deck_here", "_law_count"]) fun _ _ _ _ _ _ us hl => match us, hl with | [_, _], _ => rfl
  obtain ⟨f3, fd3, F3, m3⟩ := D3
  have b3 := F3.binds (ps := ["_law_deck_here", "_law_demands", "_law_offers"]) fun _ _ _ _ _ _ us hl => match us, hl with | [_, _, _], _ => rfl
  obtain ⟨f4, fd4, F4, m4⟩ := D4
  have b4 := F4.binds (ps := ["_law_deck_here", "_law_items", "_law_share"]) fun _ _ _ _ _ _ us hl => match us, hl with | [_, _, _], _ => rfl
  obtain ⟨f5, fd5, F5, m5⟩ := D5
  have b5 := F5.binds (ps := ["_law_deck_here", "_law_demands", "_law_offers"]) fun _ _ _ _ _ _ us hl => match us, hl with | [_, _, _], _ => rfl
  obtain ⟨f6, fd6, F6, m6⟩ := D6
  have b6 := F6.binds (ps := ["_law_deck_here", "_law_some"]) fun _ _ _ _ _ _ us hl => match us, hl with | [_, _], _ => rfl
  obtain ⟨f7, fd7, F7, m7⟩ := D7
  have b7 := F7.binds (ps := ["_law_deck_here", "_law_demands", "_law_offers"]) fun _ _ _ _ _ _ us hl => match us, hl with | [_, _, _], _ => rfl
  obtain ⟨f8, fd8, F8, m8⟩ := D8
  have b8 := F8.binds (ps := ["_law_deck_here", "_law_demands", "_law_offers"]) fun _ _ _ _ _ _ us hl => match us, hl with | [_, _, _], _ => rfl
  obtain ⟨f9, fd9, F9, m9⟩ := D9
  have b9 := F9.binds (ps := ["_law_deck_here"]) fun _ _ _ _ _ _ us hl => match us, hl with | [_], _ => rfl
  obtain ⟨f10, fd10, F10, m10⟩ := D10
  have b10 := F10.binds (ps := ["_law_deck_here", "_law_table_here"]) fun _ _ _ _ _ _ us hl => match us, hl with | [_, _], _ => rfl
  obtain ⟨f11, fd11, F11, m11⟩ := D11
  have b11 := F11.binds (ps := ["_law_table_here", "_law_prices", "_law_penalties"]) fun _ _ _ _ _ _ us hl => match us, hl with | [_, _, _], _ => rfl
  obtain ⟨f12, fd12, F12, m12⟩ := D12
  have b12 := F12.binds (ps := ["_law_deck_here"]) fun _ _ _ _ _ _ us hl => match us, hl with | [_], _ => rfl
  obtain ⟨f13, fd13, F13, m13⟩ := D13
  have b13 := F13.binds (ps := ["_law_deck_here", "_law_text_here"]) fun _ _ _ _ _ _ us hl => match us, hl with | [_, _], _ => rfl
  obtain ⟨f14, fd14, F14, m14⟩ := D14
  have b14 := F14.binds (ps := ["word"]) fun _ _ _ _ _ _ us hl => match us, hl with | [_], _ => rfl
  obtain ⟨f15, fd15, F15, m15⟩ := D15
  have b15 := F15.binds (ps := ["word", "line"]) fun _ _ _ _ _ _ us hl => match us, hl with | [_, _], _ => rfl
  obtain ⟨f16, fd16, F16, m16⟩ := D16
  have b16 := F16.binds (ps := ["value"]) fun _ _ _ _ _ _ us hl => match us, hl with | [_], _ => rfl
  obtain ⟨f17, fd17, F17, m17⟩ := D17
  have b17 := F17.binds (ps := ["value", "count"]) fun _ _ _ _ _ _ us hl => match us, hl with | [_, _], _ => rfl
  obtain ⟨f18, fd18, F18, m18⟩ := D18
  have b18 := F18.binds (ps := ["value"]) fun _ _ _ _ _ _ us hl => match us, hl with | [_], _ => rfl
  obtain ⟨f19, fd19, F19, m19⟩ := D19
  have b19 := F19.binds (ps := ["lines"]) fun _ _ _ _ _ _ us hl => match us, hl with | [_], _ => rfl
  obtain ⟨f20, fd20, F20, m20⟩ := D20
  have b20 := F20.binds (ps := ["value", "count"]) fun _ _ _ _ _ _ us hl => match us, hl with | [_, _], _ => rfl
  obtain ⟨f21, fd21, F21, m21⟩ := D21
  have b21 := F21.binds (ps := ["line", "demands"]) fun _ _ _ _ _ _ us hl => match us, hl with | [_, _], _ => rfl
  obtain ⟨f22, fd22, F22, m22⟩ := D22
  have b22 := F22.binds (ps := ["value"]) fun _ _ _ _ _ _ us hl => match us, hl with | [_], _ => rfl
  obtain ⟨f23, fd23, F23, m23⟩ := D23
  have b23 := F23.binds (ps := ["value", "count"]) fun _ _ _ _ _ _ us hl => match us, hl with | [_, _], _ => rfl
  obtain ⟨f24, fd24, F24, m24⟩ := D24
  have b24 := F24.binds (ps := ["value", "demands"]) fun _ _ _ _ _ _ us hl => match us, hl with | [_, _], _ => rfl
  obtain ⟨f25, fd25, F25, m25⟩ := D25
  have b25 := F25.binds (ps := ["value"]) fun _ _ _ _ _ _ us hl => match us, hl with | [_], _ => rfl
  obtain ⟨f26, fd26, F26, m26⟩ := D26
  have b26 := F26.binds (ps := ["_law_door", "_law_value"]) fun _ _ _ _ _ _ us hl => match us, hl with | [_, _], _ => rfl
  obtain ⟨f27, fd27, F27, m27⟩ := D27
  have b27 := F27.binds (ps := ["_law_word"]) fun _ _ _ _ _ _ us hl => match us, hl with | [_], _ => rfl
  obtain ⟨f28, fd28, F28, m28⟩ := D28
  have b28 := F28.binds (ps := ["_law_words", "_law_demands"]) fun _ _ _ _ _ _ us hl => match us, hl with | [_, _], _ => rfl
  obtain ⟨f29, fd29, F29, m29⟩ := D29
  have b29 := F29.binds (ps := ["_law_text_here"]) fun _ _ _ _ _ _ us hl => match us, hl with | [_], _ => rfl
  obtain ⟨f30, fd30, F30, m30⟩ := D30
  have b30 := F30.binds (ps := ["_law_door", "_law_value"]) fun _ _ _ _ _ _ us hl => match us, hl with | [_, _], _ => rfl
  obtain ⟨f31, fd31, F31, m31⟩ := D31
  have b31 := F31.binds (ps := ["_law_found", "_law_due_here"]) fun _ _ _ _ _ _ us hl => match us, hl with | [_, _], _ => rfl
  obtain ⟨f32, fd32, F32, m32⟩ := D32
  have e := hfa.symm.trans m32
  cases e
  refine ⟨fd32, fun s v => ?_, fun base _ _ hb => ?_⟩
  · obtain ⟨oc, od, kV, doc, pm, an, cdv, ct, osl, rfl, lk, hcd⟩ := F32.ex
    exact .of_eq rfl
  · have caxc : ExcC K ca := ⟨cahg, cahk, cahs, cahd, caha, zhn, zht, cahm⟩
    have caem := PySem.W.exm_ref oohs oohd oott caco
    have cbxc : ExcC K cb := ⟨cbhg, cbhk, cbhs, cbhd, cbha, zhn, zht, cbhm⟩
    have cbem := PySem.W.exm_ref oohs oohd oott cbco
    have ccxc : ExcC K cc := ⟨cchg, cchk, cchs, cchd, ccha, zhn, zht, cchm⟩
    have ccem := PySem.W.exm_ref oohs oohd oott ccco
    have cdxc : ExcC K cd := ⟨cdhg, cdhk, cdhs, cdhd, cdha, zhn, zht, cdhm⟩
    have cdem := PySem.W.exm_ref oohs oohd oott cdco
    have cexc : ExcC K ce := ⟨cehg, cehk, cehs, cehd, ceha, zhn, zht, cehm⟩
    have ceem := PySem.W.exm_ref oohs oohd oott ceco
    have cfxc : ExcC K cf := ⟨cfhg, cfhk, cfhs, cfhd, cfha, zhn, zht, cfhm⟩
    have cfem := PySem.W.exm_ref oohs oohd oott cfco
    have cgxc : ExcC K cg := ⟨cghg, cghk, cghs, cghd, cgha, zhn, zht, cghm⟩
    have cgem := PySem.W.exm_ref oohs oohd oott cgco
    have chxc : ExcC K ch := ⟨chhg, chhk, chhs, chhd, chha, zhn, zht, chhm⟩
    have chem := PySem.W.exm_ref oohs oohd oott chco
    have cho : OexC K ch := ⟨chox, chsa, chhs, chtt, chkk⟩
    obtain ⟨chfi, chfd, chi1, chi2, chi3⟩ := chdi
    have cht : EcI P w K mg base "BadText" ch "line" := ⟨cho, gch, chno, chxc, chfi, chfd, "line", chi1, chi2, ok_initBadText chi3 cho chno, chi3.binds fun _ _ _ _ _ _ us hl => match us, hl with | [_, _], _ => rfl⟩
    have kchcg := kit_ref nechcg cgii cgtt suchcg
    have kchcf := kit_ref nechcf cfii cftt suchcf
    have kchce := kit_ref nechce ceii cett suchce
    have kchcc := kit_ref nechcc ccii cctt suchcc
    have kchca := kit_ref nechca caii catt suchca
    have kchcb := kit_ref nechcb cbii cbtt suchcb
    have kchcd := kit_ref nechcd cdii cdtt suchcd
    let cl : Str → Addr := fun x => if x = "NoDemand" then ca else if x = "NoOrder" then cb else if x = "NoAmount" then cc else if x = "TooMany" then cd else if x = "BadTable" then ce else if x = "BadPrices" then cf else if x = "BadPenalties" then cg else if x = "BadText" then ch else if x = "OrderError" then oo else 0
    have cl_ca : cl "NoDemand" = ca := by
      show (if ("NoDemand" : Str) = "NoDemand" then ca else if ("NoDemand" : Str) = "NoOrder" then cb else if ("NoDemand" : Str) = "NoAmount" then cc else if ("NoDemand" : Str) = "TooMany" then cd else if ("NoDemand" : Str) = "BadTable" then ce else if ("NoDemand" : Str) = "BadPrices" then cf else if ("NoDemand" : Str) = "BadPenalties" then cg else if ("NoDemand" : Str) = "BadText" then ch else if ("NoDemand" : Str) = "OrderError" then oo else 0) = ca
      rw [if_pos rfl]
    have cl_cb : cl "NoOrder" = cb := by
      show (if ("NoOrder" : Str) = "NoDemand" then ca else if ("NoOrder" : Str) = "NoOrder" then cb else if ("NoOrder" : Str) = "NoAmount" then cc else if ("NoOrder" : Str) = "TooMany" then cd else if ("NoOrder" : Str) = "BadTable" then ce else if ("NoOrder" : Str) = "BadPrices" then cf else if ("NoOrder" : Str) = "BadPenalties" then cg else if ("NoOrder" : Str) = "BadText" then ch else if ("NoOrder" : Str) = "OrderError" then oo else 0) = cb
      rw [if_neg (by decide +kernel), if_pos rfl]
    have cl_cc : cl "NoAmount" = cc := by
      show (if ("NoAmount" : Str) = "NoDemand" then ca else if ("NoAmount" : Str) = "NoOrder" then cb else if ("NoAmount" : Str) = "NoAmount" then cc else if ("NoAmount" : Str) = "TooMany" then cd else if ("NoAmount" : Str) = "BadTable" then ce else if ("NoAmount" : Str) = "BadPrices" then cf else if ("NoAmount" : Str) = "BadPenalties" then cg else if ("NoAmount" : Str) = "BadText" then ch else if ("NoAmount" : Str) = "OrderError" then oo else 0) = cc
      rw [if_neg (by decide +kernel), if_neg (by decide +kernel), if_pos rfl]
    have cl_cd : cl "TooMany" = cd := by
      show (if ("TooMany" : Str) = "NoDemand" then ca else if ("TooMany" : Str) = "NoOrder" then cb else if ("TooMany" : Str) = "NoAmount" then cc else if ("TooMany" : Str) = "TooMany" then cd else if ("TooMany" : Str) = "BadTable" then ce else if ("TooMany" : Str) = "BadPrices" then cf else if ("TooMany" : Str) = "BadPenalties" then cg else if ("TooMany" : Str) = "BadText" then ch else if ("TooMany" : Str) = "OrderError" then oo else 0) = cd
      rw [if_neg (by decide +kernel), if_neg (by decide +kernel), if_neg (by decide +kernel), if_pos rfl]
    have cl_ce : cl "BadTable" = ce := by
      show (if ("BadTable" : Str) = "NoDemand" then ca else if ("BadTable" : Str) = "NoOrder" then cb else if ("BadTable" : Str) = "NoAmount" then cc else if ("BadTable" : Str) = "TooMany" then cd else if ("BadTable" : Str) = "BadTable" then ce else if ("BadTable" : Str) = "BadPrices" then cf else if ("BadTable" : Str) = "BadPenalties" then cg else if ("BadTable" : Str) = "BadText" then ch else if ("BadTable" : Str) = "OrderError" then oo else 0) = ce
      rw [if_neg (by decide +kernel), if_neg (by decide +kernel), if_neg (by decide +kernel), if_neg (by decide +kernel), if_pos rfl]
    have cl_cf : cl "BadPrices" = cf := by
      show (if ("BadPrices" : Str) = "NoDemand" then ca else if ("BadPrices" : Str) = "NoOrder" then cb else if ("BadPrices" : Str) = "NoAmount" then cc else if ("BadPrices" : Str) = "TooMany" then cd else if ("BadPrices" : Str) = "BadTable" then ce else if ("BadPrices" : Str) = "BadPrices" then cf else if ("BadPrices" : Str) = "BadPenalties" then cg else if ("BadPrices" : Str) = "BadText" then ch else if ("BadPrices" : Str) = "OrderError" then oo else 0) = cf
      rw [if_neg (by decide +kernel), if_neg (by decide +kernel), if_neg (by decide +kernel), if_neg (by decide +kernel), if_neg (by decide +kernel), if_pos rfl]
    have cl_cg : cl "BadPenalties" = cg := by
      show (if ("BadPenalties" : Str) = "NoDemand" then ca else if ("BadPenalties" : Str) = "NoOrder" then cb else if ("BadPenalties" : Str) = "NoAmount" then cc else if ("BadPenalties" : Str) = "TooMany" then cd else if ("BadPenalties" : Str) = "BadTable" then ce else if ("BadPenalties" : Str) = "BadPrices" then cf else if ("BadPenalties" : Str) = "BadPenalties" then cg else if ("BadPenalties" : Str) = "BadText" then ch else if ("BadPenalties" : Str) = "OrderError" then oo else 0) = cg
      rw [if_neg (by decide +kernel), if_neg (by decide +kernel), if_neg (by decide +kernel), if_neg (by decide +kernel), if_neg (by decide +kernel), if_neg (by decide +kernel), if_pos rfl]
    have cl_ch : cl "BadText" = ch := by
      show (if ("BadText" : Str) = "NoDemand" then ca else if ("BadText" : Str) = "NoOrder" then cb else if ("BadText" : Str) = "NoAmount" then cc else if ("BadText" : Str) = "TooMany" then cd else if ("BadText" : Str) = "BadTable" then ce else if ("BadText" : Str) = "BadPrices" then cf else if ("BadText" : Str) = "BadPenalties" then cg else if ("BadText" : Str) = "BadText" then ch else if ("BadText" : Str) = "OrderError" then oo else 0) = ch
      rw [if_neg (by decide +kernel), if_neg (by decide +kernel), if_neg (by decide +kernel), if_neg (by decide +kernel), if_neg (by decide +kernel), if_neg (by decide +kernel), if_neg (by decide +kernel), if_pos rfl]
    have cl_oo : cl "OrderError" = oo := by
      show (if ("OrderError" : Str) = "NoDemand" then ca else if ("OrderError" : Str) = "NoOrder" then cb else if ("OrderError" : Str) = "NoAmount" then cc else if ("OrderError" : Str) = "TooMany" then cd else if ("OrderError" : Str) = "BadTable" then ce else if ("OrderError" : Str) = "BadPrices" then cf else if ("OrderError" : Str) = "BadPenalties" then cg else if ("OrderError" : Str) = "BadText" then ch else if ("OrderError" : Str) = "OrderError" then oo else 0) = oo
      rw [if_neg (by decide +kernel), if_neg (by decide +kernel), if_neg (by decide +kernel), if_neg (by decide +kernel), if_neg (by decide +kernel), if_neg (by decide +kernel), if_neg (by decide +kernel), if_neg (by decide +kernel), if_pos rfl]
    have gc_NoDemand : mg "NoDemand" = some (.ref (cl "NoDemand")) := by rw [cl_ca]; exact gca
    have gc_NoOrder : mg "NoOrder" = some (.ref (cl "NoOrder")) := by rw [cl_cb]; exact gcb
    have gc_NoAmount : mg "NoAmount" = some (.ref (cl "NoAmount")) := by rw [cl_cc]; exact gcc
    have gc_TooMany : mg "TooMany" = some (.ref (cl "TooMany")) := by rw [cl_cd]; exact gcd
    have gc_BadTable : mg "BadTable" = some (.ref (cl "BadTable")) := by rw [cl_ce]; exact gce
    have gc_BadPrices : mg "BadPrices" = some (.ref (cl "BadPrices")) := by rw [cl_cf]; exact gcf
    have gc_BadPenalties : mg "BadPenalties" = some (.ref (cl "BadPenalties")) := by rw [cl_cg]; exact gcg
    have T_BadText : EcI P w K mg base "BadText" (cl "BadText") "line" := by rw [cl_ch]; exact cht
    have gc_BadText : mg "BadText" = some (.ref (cl "BadText")) := by rw [cl_ch]; exact gch
    have no_BadText : PySem.W.findIn K (.ref (cl "BadText")) "line" = some none := by rw [cl_ch]; exact chno
    have xc_BadText : ExcC K (cl "BadText") := by rw [cl_ch]; exact chxc
    have em__law_told : ∀ x ∈ (["BadText"] : List Str), PySem.W.exmOne K (.ref (cl x)) (.ref oo) = some true := by
          intro x hx; simp only [List.mem_cons, List.not_mem_nil, or_false] at hx; rcases hx with rfl
          · rw [cl_ch]; exact chem
    have xc__law_told : ∀ x ∈ (["BadText"] : List Str), ExcC K (cl x) := by
          intro x hx; simp only [List.mem_cons, List.not_mem_nil, or_false] at hx; rcases hx with rfl
          · rw [cl_ch]; exact chxc
    have kv__law_told : ∀ x ∈ (["BadText"] : List Str), PySem.W.kitOne K (.ref (cl x)) (.type "ValueError") = some true := by
          intro x hx; simp only [List.mem_cons, List.not_mem_nil, or_false] at hx; rcases hx with rfl
          · rw [cl_ch]; exact kit_tyv meta_VE chsv
    have kt__law_told : ∀ x ∈ (["BadText"] : List Str), ∀ c ∈ (["BadText", "BadPenalties", "BadPrices", "BadTable", "NoAmount", "NoDemand", "NoOrder", "TooMany"] : List Str), PySem.W.kitOne K (.ref (cl x)) (.ref (cl c)) = some (decide (x = c)) := by
          intro x hx y hy; simp only [List.mem_cons, List.not_mem_nil, or_false] at hx; simp only [List.mem_cons, List.not_mem_nil, or_false] at hy
          rcases hx with rfl <;> rcases hy with rfl | rfl | rfl | rfl | rfl | rfl | rfl | rfl <;> simp only [cl_ca, cl_cb, cl_cc, cl_cd, cl_ce, cl_cf, cl_cg, cl_ch] <;> first | exact kit_self | exact kchcg | exact kchcf | exact kchce | exact kchcc | exact kchca | exact kchcb | exact kchcd
    have cDeck := cl_mk (P := P) (w := w) (K := K) (mg := mg) (base := base) F0 m0 b0 (ok_deck F0 B.toBn)
    have cNextX := cl_mk (P := P) (w := w) (K := K) (mg := mg) (base := base) F1 m1 b1 (ok_nextW F1 B.toBn)
    have cNextXW := cNextX.weaker (w_nextW (K := K))
    have cNext := cNextX.weaker nextW_next
    have cNextW := cNext.weaker (w_next (K := K))
    have cShuf := cl_mk (P := P) (w := w) (K := K) (mg := mg) (base := base) F2 m2 b2 (ok_shuf F2 B.toBn cNext)
    have cShufW := cShuf.weaker w_shuf
    have cInt := cl_mk (P := P) (w := w) (K := K) (mg := mg) (base := base) F3 m3 b3 (ok_intervals F3 B.toBn cNext cShuf)
    have cIntW := cInt.weaker w_mk
    have cPart := cl_mk (P := P) (w := w) (K := K) (mg := mg) (base := base) F4 m4 b4 (ok_part F4 B.toBn cNext)
    have cPartW := cPart.weaker w_part
    have cAr := cl_mk (P := P) (w := w) (K := K) (mg := mg) (base := base) F5 m5 b5 (ok_around F5 B.toBn cNext cShuf cPart)
    have cArW := cAr.weaker w_mk
    have k__law_one := cl_mk (P := P) (w := w) (K := K) (mg := mg) (base := base) F6 m6 b6 (ok__law_one F6 B cNextXW)
    have cOne := cl_mk (P := P) (w := w) (K := K) (mg := mg) (base := base) F6 m6 b6 (ok_one F6 B.toBn cNext)
    have cAny := cl_mk (P := P) (w := w) (K := K) (mg := mg) (base := base) F7 m7 b7 (ok_any F7 B.toBn cNext cOne cPart)
    have cAnyW := cAny.weaker w_mk
    have cTab := cl_mk (P := P) (w := w) (K := K) (mg := mg) (base := base) F8 m8 b8 (ok_mktab F8 B.toBn cNext cInt cAr cAny)
    have cTabW := cTab.weaker w_table
    have k__law_amount := cl_mk (P := P) (w := w) (K := K) (mg := mg) (base := base) F9 m9 b9 (ok__law_amount F9 B cNextXW)
    have k__law_data := cl_mk (P := P) (w := w) (K := K) (mg := mg) (base := base) F10 m10 b10 (ok__law_data F10 B cNextXW k__law_amount)
    have k__law_text := cl_mk (P := P) (w := w) (K := K) (mg := mg) (base := base) F11 m11 b11 (ok__law_text F11 B)
    have cOdd := cl_mk (P := P) (w := w) (K := K) (mg := mg) (base := base) F12 m12 b12 (ok_odd F12 B.toBn cNext)
    have cOddW := cOdd.weaker w_odd
    have k__law_changed_text := cl_mk (P := P) (w := w) (K := K) (mg := mg) (base := base) F13 m13 b13 (ok__law_changed_text F13 B cNextXW k__law_one)
    have k_parse_number := cl_mk (P := P) (w := w) (K := K) (mg := mg) (base := base) F14 m14 b14 (ok_parse_number F14 B g_MAX_DIGITS)
    have k_numbers_behind := cl_mk (P := P) (w := w) (K := K) (mg := mg) (base := base) F15 m15 b15 (ok_numbers_behind F15 B k_parse_number)
    have k_is_integer := cl_mk (P := P) (w := w) (K := K) (mg := mg) (base := base) F16 m16 b16 (ok_is_integer F16 B)
    have k_is_number_below := cl_mk (P := P) (w := w) (K := K) (mg := mg) (base := base) F17 m17 b17 (ok_is_number_below F17 B k_is_integer)
    have k_is_amount := cl_mk (P := P) (w := w) (K := K) (mg := mg) (base := base) F18 m18 b18 (ok_is_amount F18 B g_MAX_AMOUNT k_is_number_below)
    have k_leading_penalties := cl_mk (P := P) (w := w) (K := K) (mg := mg) (base := base) F19 m19 b19 (ok_leading_penalties F19 B g_MAX_DEMANDS k_numbers_behind k_is_amount)
    have k_is_ascending_below := cl_mk (P := P) (w := w) (K := K) (mg := mg) (base := base) F20 m20 b20 (ok_is_ascending_below F20 B k_is_number_below)
    have k_parse_offer := cl_mk (P := P) (w := w) (K := K) (mg := mg) (base := base) F21 m21 b21 (ok_parse_offer F21 B k_numbers_behind k_is_amount k_is_ascending_below)
    have x_parse_data := clx_mk (P := P) (w := w) (K := K) (mg := mg) (base := base) F22 m22 b22 (okx_parse_data (cl := cl) F22 B T_BadText g_MAX_OFFERS k_leading_penalties k_parse_offer)
    have k_is_distinct_below := cl_mk (P := P) (w := w) (K := K) (mg := mg) (base := base) F23 m23 b23 (ok_is_distinct_below F23 B k_is_number_below)
    have k_is_order := cl_mk (P := P) (w := w) (K := K) (mg := mg) (base := base) F24 m24 b24 (ok_is_order F24 B k_is_distinct_below)
    have x_parse_order := clx_mk (P := P) (w := w) (K := K) (mg := mg) (base := base) F25 m25 b25 (okx_parse_order (cl := cl) F25 B T_BadText g_MAX_DEMANDS k_parse_number k_is_order)
    have k__law_told := cl_mk (P := P) (w := w) (K := K) (mg := mg) (base := base) F26 m26 b26 (ok__law_told (cl := cl) F26 B goo em__law_told xc__law_told kt__law_told kv__law_told gc_BadText gc_BadPenalties gc_BadPrices gc_BadTable gc_NoAmount gc_NoDemand gc_NoOrder gc_TooMany xc_BadText no_BadText x_parse_data x_parse_order)
    have f__law_told := k__law_told.weaker (q_to_d told_of)
    have k__law_integer := cl_mk (P := P) (w := w) (K := K) (mg := mg) (base := base) F27 m27 b27 (ok__law_integer F27 B)
    have k__law_offer := cl_mk (P := P) (w := w) (K := K) (mg := mg) (base := base) F28 m28 b28 (ok__law_offer F28 B k__law_integer)
    have k__law_read_data := cl_mk (P := P) (w := w) (K := K) (mg := mg) (base := base) F29 m29 b29 (ok__law_read_data F29 B k__law_integer k__law_offer)
    have k__law_due := cl_mk (P := P) (w := w) (K := K) (mg := mg) (base := base) F30 m30 b30 (ok__law_due F30 B k__law_read_data k__law_integer)
    have cS0 := cl_mk (P := P) (w := w) (K := K) (mg := mg) (base := base) F31 m31 b31 (ok_same0)
    have cS1 := cl_mk (P := P) (w := w) (K := K) (mg := mg) (base := base) F31 m31 b31 (ok_same1 (δ := 0) F31 B.toBn cS0)
    have cS2 := cl_mk (P := P) (w := w) (K := K) (mg := mg) (base := base) F31 m31 b31 (ok_same1 (δ := 1) F31 B.toBn cS1)
    have cS3 := cl_mk (P := P) (w := w) (K := K) (mg := mg) (base := base) F31 m31 b31 (ok_same1 (δ := 2) F31 B.toBn cS2)
    have cS4 := cl_mk (P := P) (w := w) (K := K) (mg := mg) (base := base) F31 m31 b31 (ok_same1 (δ := 3) F31 B.toBn cS3)
    have cS5 := cl_mk (P := P) (w := w) (K := K) (mg := mg) (base := base) F31 m31 b31 (ok_same1 (δ := 4) F31 B.toBn cS4)
    have cS6 := cl_mk (P := P) (w := w) (K := K) (mg := mg) (base := base) F31 m31 b31 (ok_same1 (δ := 5) F31 B.toBn cS5)
    have cS6W := cS6.weaker w_sameX
    have cSF := cS6W.weaker same_to_fX
    exact ok_law F32 B hb cDeck cTabW k__law_data cShufW cNextXW k__law_text cOddW k__law_changed_text f__law_told k__law_due cSF law_pure
end L67

set_option Elab.async false
set_option linter.all false
open PySem PySem.W PyProof.Rows
set_option maxRecDepth 100000 in
set_option maxHeartbeats 0 in
theorem PySem.Challenge.cw_payorder_k67_invalid_texts_holds : PySem.Challenge.rw_payorder_k67_invalid_texts.Holds := by
  w_on; o_law; k_head; (case hw => w_witness2)
  k_fill
  refine Pb.walk_S (l := PySem.Challenge.rw_payorder_k67_invalid_texts) (n := 63) (k := 8) (x := "_law_script") (sp := fun w => Pb.spLaw _) (by decide +kernel) rfl (by decide) rfl ⟨rfl, by decide, by decide⟩ (fun w h Y => PySem.W.kIn_of Y) ?F (fun _ _ a ns hl _ hS => ⟨a, ns, rfl, hS, hl, fun _ => rfl⟩)
  case F =>
    intro w mg fa h KX G hmg
    have B0 : Pb.Bn mg := by
      refine' ⟨PySem.W.mg_none_of KX G ?z0, PySem.W.mg_none_of KX G ?z1, PySem.W.mg_none_of KX G ?z2, PySem.W.mg_none_of KX G ?z3, PySem.W.mg_none_of KX G ?z4, PySem.W.mg_none_of KX G ?z5, PySem.W.mg_none_of KX G ?z6, PySem.W.mg_none_of KX G ?z7, PySem.W.mg_none_of KX G ?z8, PySem.W.mg_none_of KX G ?z9, PySem.W.mg_none_of KX G ?z10, PySem.W.mg_none_of KX G ?z11, PySem.W.mg_none_of KX G ?z12, PySem.W.mg_none_of KX G ?z13, PySem.W.mg_none_of KX G ?z14⟩
      (case z0 => k_is)
      (case z1 => k_is)
      (case z2 => k_is)
      (case z3 => k_is)
      (case z4 => k_is)
      (case z5 => k_is)
      (case z6 => k_is)
      (case z7 => k_is)
      (case z8 => k_is)
      (case z9 => k_is)
      (case z10 => k_is)
      (case z11 => k_is)
      (case z12 => k_is)
      (case z13 => k_is)
      (case z14 => k_is)
    have B : Pb.Bx mg := by
      refine' ⟨B0, PySem.W.mg_none_of KX G ?zz0, PySem.W.mg_none_of KX G ?zz1, PySem.W.mg_none_of KX G ?zz2, PySem.W.mg_none_of KX G ?zz3, PySem.W.mg_none_of KX G ?zz4, PySem.W.mg_none_of KX G ?zz5, PySem.W.mg_none_of KX G ?zz6⟩
      (case zz0 => k_is)
      (case zz1 => k_is)
      (case zz2 => k_is)
      (case zz3 => k_is)
      (case zz4 => k_is)
      (case zz5 => k_is)
      (case zz6 => k_is)
    have cst0 : ∃ t, mg "MAX_AMOUNT" = some (.int 1000000000000 t) := by
      refine' Pb.ct_mk KX G ?cta ?cte
      (case cta => k_is)
      (case cte => exact ⟨_, rfl⟩)
    have cst1 : ∃ t, mg "MAX_DEMANDS" = some (.int 10 t) := by
      refine' Pb.ct_mk KX G ?cta ?cte
      (case cta => k_is)
      (case cte => exact ⟨_, rfl⟩)
    have cst2 : ∃ t, mg "MAX_DIGITS" = some (.int 13 t) := by
      refine' Pb.ct_mk KX G ?cta ?cte
      (case cta => k_is)
      (case cte => exact ⟨_, rfl⟩)
    have cst3 : ∃ t, mg "MAX_OFFERS" = some (.int 10 t) := by
      refine' Pb.ct_mk KX G ?cta ?cte
      (case cta => k_is)
      (case cte => exact ⟨_, rfl⟩)
    refine' L67.all_mk KX G hmg B cst0 cst1 cst2 cst3 (PySem.W.mg_of KX G ?x0) ?x1 ?x2 ?x3 (PySem.W.mg_of KX G ?x4) ?x5 ?x6 ?x7 ?x8 ?x9 ?x10 ?x11 ?x12 ?x13 ?x14 ?x15 ?x16 (PySem.W.mg_of KX G ?x17) ?x18 ?x19 ?x20 ?x21 ?x22 ?x23 ?x24 ?x25 ?x26 ?x27 ?x28 (PySem.W.mg_of KX G ?x29) ?x30 ?x31 ?x32 ?x33 ?x34 ?x35 ?x36 ?x37 ?x38 ?x39 ?x40 ?x41 (PySem.W.mg_of KX G ?x42) ?x43 ?x44 ?x45 ?x46 ?x47 ?x48 ?x49 ?x50 ?x51 ?x52 ?x53 ?x54 (PySem.W.mg_of KX G ?x55) ?x56 ?x57 ?x58 ?x59 ?x60 ?x61 ?x62 ?x63 ?x64 ?x65 ?x66 (PySem.W.mg_of KX G ?x67) ?x68 ?x69 ?x70 ?x71 ?x72 ?x73 ?x74 ?x75 ?x76 ?x77 ?x78 (PySem.W.mg_of KX G ?x79) ?x80 ?x81 ?x82 ?x83 ?x84 ?x85 ?x86 ?x87 ?x88 ?x89 ?x90 (PySem.W.mg_of KX G ?x91) ?x92 ?x93 ?x94 ?x95 ?x96 ?x97 ?x98 ?x99 ?x100 ?x101 ?x102 (Pb.oex_cls ?x103l ?x103r) ?x104 ?x105 (Pb.di_mk ?x106a ?x106t ?x106l ?x106c ?x106k) ?x107 ?x108 ?x109 ?x110 ?x111 ?x112 ?x113 ?x114 ?x115 ?x116 ?x117 ?x118 ?x119 ?x120 ?x121 ?x122 (Pb.df_mk KX G ?a0 ?l0 ?c0 ?k0) (Pb.df_mk KX G ?a1 ?l1 ?c1 ?k1) (Pb.df_mk KX G ?a2 ?l2 ?c2 ?k2) (Pb.df_mk KX G ?a3 ?l3 ?c3 ?k3) (Pb.df_mk KX G ?a4 ?l4 ?c4 ?k4) (Pb.df_mk KX G ?a5 ?l5 ?c5 ?k5) (Pb.df_mk KX G ?a6 ?l6 ?c6 ?k6) (Pb.df_mk KX G ?a7 ?l7 ?c7 ?k7) (Pb.df_mk KX G ?a8 ?l8 ?c8 ?k8) (Pb.df_mk KX G ?a9 ?l9 ?c9 ?k9) (Pb.df_mk KX G ?a10 ?l10 ?c10 ?k10) (Pb.df_mk KX G ?a11 ?l11 ?c11 ?k11) (Pb.df_mk KX G ?a12 ?l12 ?c12 ?k12) (Pb.df_mk KX G ?a13 ?l13 ?c13 ?k13) (Pb.df_mk KX G ?a14 ?l14 ?c14 ?k14) (Pb.df_mk KX G ?a15 ?l15 ?c15 ?k15) (Pb.df_mk KX G ?a16 ?l16 ?c16 ?k16) (Pb.df_mk KX G ?a17 ?l17 ?c17 ?k17) (Pb.df_mk KX G ?a18 ?l18 ?c18 ?k18) (Pb.df_mk KX G ?a19 ?l19 ?c19 ?k19) (Pb.df_mk KX G ?a20 ?l20 ?c20 ?k20) (Pb.df_mk KX G ?a21 ?l21 ?c21 ?k21) (Pb.df_mk KX G ?a22 ?l22 ?c22 ?k22) (Pb.df_mk KX G ?a23 ?l23 ?c23 ?k23) (Pb.df_mk KX G ?a24 ?l24 ?c24 ?k24) (Pb.df_mk KX G ?a25 ?l25 ?c25 ?k25) (Pb.df_mk KX G ?a26 ?l26 ?c26 ?k26) (Pb.df_mk KX G ?a27 ?l27 ?c27 ?k27) (Pb.df_mk KX G ?a28 ?l28 ?c28 ?k28) (Pb.df_mk KX G ?a29 ?l29 ?c29 ?k29) (Pb.df_mk KX G ?a30 ?l30 ?c30 ?k30) (Pb.df_mk KX G ?a31 ?l31 ?c31 ?k31) (Pb.df_mk KX G ?a32 ?l32 ?c32 ?k32)
    (case x0 => k_is)
    (case x1 => k_is)
    (case x2 => k_is)
    (case x3 => k_is)
    (case x4 => k_is)
    (case x5 => k_is)
    (case x6 => k_is)
    (case x7 => k_is)
    (case x8 => k_is)
    (case x9 => k_is)
    (case x10 => k_is)
    (case x11 => k_is)
    (case x12 => k_is)
    (case x13 => k_is)
    (case x14 => k_is)
    (case x15 => k_is)
    (case x16 => k_is)
    (case x17 => k_is)
    (case x18 => k_is)
    (case x19 => k_is)
    (case x20 => k_is)
    (case x21 => k_is)
    (case x22 => k_is)
    (case x23 => k_is)
    (case x24 => k_is)
    (case x25 => k_is)
    (case x26 => k_is)
    (case x27 => k_is)
    (case x28 => k_is)
    (case x29 => k_is)
    (case x30 => k_is)
    (case x31 => k_is)
    (case x32 => k_is)
    (case x33 => k_is)
    (case x34 => k_is)
    (case x35 => k_is)
    (case x36 => k_is)
    (case x37 => k_is)
    (case x38 => k_is)
    (case x39 => k_is)
    (case x40 => k_is)
    (case x41 => k_is)
    (case x42 => k_is)
    (case x43 => k_is)
    (case x44 => k_is)
    (case x45 => k_is)
    (case x46 => k_is)
    (case x47 => k_is)
    (case x48 => k_is)
    (case x49 => k_is)
    (case x50 => k_is)
    (case x51 => k_is)
    (case x52 => k_is)
    (case x53 => k_is)
    (case x54 => k_is)
    (case x55 => k_is)
    (case x56 => k_is)
    (case x57 => k_is)
    (case x58 => k_is)
    (case x59 => k_is)
    (case x60 => k_is)
    (case x61 => k_is)
    (case x62 => k_is)
    (case x63 => k_is)
    (case x64 => k_is)
    (case x65 => k_is)
    (case x66 => k_is)
    (case x67 => k_is)
    (case x68 => k_is)
    (case x69 => k_is)
    (case x70 => k_is)
    (case x71 => k_is)
    (case x72 => k_is)
    (case x73 => k_is)
    (case x74 => k_is)
    (case x75 => k_is)
    (case x76 => k_is)
    (case x77 => k_is)
    (case x78 => k_is)
    (case x79 => k_is)
    (case x80 => k_is)
    (case x81 => k_is)
    (case x82 => k_is)
    (case x83 => k_is)
    (case x84 => k_is)
    (case x85 => k_is)
    (case x86 => k_is)
    (case x87 => k_is)
    (case x88 => k_is)
    (case x89 => k_is)
    (case x90 => k_is)
    (case x91 => k_is)
    (case x92 => k_is)
    (case x93 => k_is)
    (case x94 => k_is)
    (case x95 => k_is)
    (case x96 => k_is)
    (case x97 => k_is)
    (case x98 => k_is)
    (case x99 => k_is)
    (case x100 => k_is)
    (case x101 => k_is)
    (case x102 => k_is)
    (case x103l => k_is)
    (case x103r => decide +kernel)
    (case x104 => k_is)
    (case x105 => k_is)
    (case x106a => k_is)
    (case x106t => k_is)
    (case x106l => k_is)
    (case x106c => k_is)
    (case x106k => k_is)
    (case x107 => k_is)
    (case x108 => k_is)
    (case x109 => decide)
    (case x110 => k_is)
    (case x111 => decide)
    (case x112 => k_is)
    (case x113 => decide)
    (case x114 => k_is)
    (case x115 => decide)
    (case x116 => k_is)
    (case x117 => decide)
    (case x118 => k_is)
    (case x119 => decide)
    (case x120 => k_is)
    (case x121 => decide)
    (case x122 => k_is)
    (case a0 => k_is); (case l0 => k_is); (case c0 => k_is); (case k0 => k_is)
    (case a1 => k_is); (case l1 => k_is); (case c1 => k_is); (case k1 => k_is)
    (case a2 => k_is); (case l2 => k_is); (case c2 => k_is); (case k2 => k_is)
    (case a3 => k_is); (case l3 => k_is); (case c3 => k_is); (case k3 => k_is)
    (case a4 => k_is); (case l4 => k_is); (case c4 => k_is); (case k4 => k_is)
    (case a5 => k_is); (case l5 => k_is); (case c5 => k_is); (case k5 => k_is)
    (case a6 => k_is); (case l6 => k_is); (case c6 => k_is); (case k6 => k_is)
    (case a7 => k_is); (case l7 => k_is); (case c7 => k_is); (case k7 => k_is)
    (case a8 => k_is); (case l8 => k_is); (case c8 => k_is); (case k8 => k_is)
    (case a9 => k_is); (case l9 => k_is); (case c9 => k_is); (case k9 => k_is)
    (case a10 => k_is); (case l10 => k_is); (case c10 => k_is); (case k10 => k_is)
    (case a11 => k_is); (case l11 => k_is); (case c11 => k_is); (case k11 => k_is)
    (case a12 => k_is); (case l12 => k_is); (case c12 => k_is); (case k12 => k_is)
    (case a13 => k_is); (case l13 => k_is); (case c13 => k_is); (case k13 => k_is)
    (case a14 => k_is); (case l14 => k_is); (case c14 => k_is); (case k14 => k_is)
    (case a15 => k_is); (case l15 => k_is); (case c15 => k_is); (case k15 => k_is)
    (case a16 => k_is); (case l16 => k_is); (case c16 => k_is); (case k16 => k_is)
    (case a17 => k_is); (case l17 => k_is); (case c17 => k_is); (case k17 => k_is)
    (case a18 => k_is); (case l18 => k_is); (case c18 => k_is); (case k18 => k_is)
    (case a19 => k_is); (case l19 => k_is); (case c19 => k_is); (case k19 => k_is)
    (case a20 => k_is); (case l20 => k_is); (case c20 => k_is); (case k20 => k_is)
    (case a21 => k_is); (case l21 => k_is); (case c21 => k_is); (case k21 => k_is)
    (case a22 => k_is); (case l22 => k_is); (case c22 => k_is); (case k22 => k_is)
    (case a23 => k_is); (case l23 => k_is); (case c23 => k_is); (case k23 => k_is)
    (case a24 => k_is); (case l24 => k_is); (case c24 => k_is); (case k24 => k_is)
    (case a25 => k_is); (case l25 => k_is); (case c25 => k_is); (case k25 => k_is)
    (case a26 => k_is); (case l26 => k_is); (case c26 => k_is); (case k26 => k_is)
    (case a27 => k_is); (case l27 => k_is); (case c27 => k_is); (case k27 => k_is)
    (case a28 => k_is); (case l28 => k_is); (case c28 => k_is); (case k28 => k_is)
    (case a29 => k_is); (case l29 => k_is); (case c29 => k_is); (case k29 => k_is)
    (case a30 => k_is); (case l30 => k_is); (case c30 => k_is); (case k30 => k_is)
    (case a31 => k_is); (case l31 => k_is); (case c31 => k_is); (case k31 => k_is)
    (case a32 => k_is); (case l32 => k_is); (case c32 => k_is); (case k32 => k_is)
