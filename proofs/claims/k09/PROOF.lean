import PyProof.Rows.All
import Wide.All
import OpenK.AllK
import Wide.FinOn
import HandS.ForMost
import HandS.Flow
import HandS.Style
import HandS.Wide
import HandS.WideMore
import HandS.WideBits
import HandS.Gcd
import HandS.IsInst
import HandS.Property
import HandS.TupAny
import HandS.TupMul
import HandS.OwnEq
import HandS.TryOnly
import HandS.Evl
import KE.KTupSum
import KE.KAssignIn
import KE.KOpsOwn
import KE.KCallOwn
import HandS.Defaults
import HandS.RaiseMore
import HandS.FStr
import HandS.Text
import HandS.StrMore
import HandS.Zip
import HandS.Iter
import HandS.Walk
import KE.KRevSl
import PyProof.CallFns
import PyProof.ReprRoads
import HandS.EndBits
import PyProof.Rows.Range3
import PyProof.Conv_bool
import PyProof.Rows.StrRev
import PyProof.StrOps2
import KE.KMathG
import HandS.IterVal
import PyProof.WalksMore
import KE.KOwnIter
import PyProof.SeqRoads2
import PyProof.FactsAll.range_1
import PyProof.RangeFor
import HandS.Exc
import HandS.ExcOwn
import HandS.TryMany
import HandS.WordsExc
import PyProof.ExcBaseAll.ZeroDivisionError
import PyProof.ExcBaseAll.ValueError
import PyProof.FactsAll.bool_1
import HandS.ExcInit
import HandS.ExcField
import KE.KExcSuper
import KE.KExcInit
import KE.KSuper
import PyProof.ExcBaseAll.IndexError
import PyProof.ExcBaseAll.OverflowError
import PyProof.ExcBaseAll.LookupError
import PyProof.ExcBaseAll.ArithmeticError
import HandS.Lambda
import HandS.Nested
import HandS.EndTab
import KE.KNestM
import KE.KExcLine
import KE.RegKSuper
import PyProof.FactsAll.bool_2
import PyProof.FitsReplace
import PySem.Challenge.RW_toothchain_k09_errors_of_ladders
set_option Elab.async false
set_option linter.all false
set_option maxRecDepth 100000
set_option maxHeartbeats 2000000
/-! Rules that the layer lacks: powers of great bases, attributes as targets, slices of tuples with a step, sums of tuples. -/
namespace Tc
open PySem PySem.Spec PyProof.Rows L2
/-- i ** j, the result within the model's line of bits -/
def CPowX (i j : Int) : Prop := 0 ≤ j ∧ (Builtin.Int.intBits i : Int) * j ≤ 2 ^ 27
section
variable {X : Cx}
theorem op_powX : OpR X (binaryOp .Pow) (rI CPowX fun i j => .int (i ^ j.toNat)) := opI fun _ _ _ _ _ _ _ hc q => pow_int hc.1 hc.2 q
/-- e.f as a target -/
def gFld (K : PySem.W.Frag) (ta : TE) (f : Str) : TG := fun v σ H Q => ta σ H fun x H1 => ∃ a C dx fs, x = .ref a ∧ H1 a = some (.ins C dx fs) ∧ Cls K C ∧ NoAttr K C f ∧ fs.length < 1000 ∧ Q σ (upd H1 a (.ins C dx (putF f v fs)))
theorem pg_fld {o : Expr} {f : Str} {pos : Pos} {ta : TE} (ho : PE X o ta) : PG X (.Attribute o f pos) (gFld X.K ta f) := by
  refine ⟨fun pins s σ H v u Q I r h => ?_⟩
  refine PySem.W.kas_attr (thn (ho.run pins s σ H _ I h) fun ov s2 ⟨x, H2, I2, rx, a, C, dx, fs, ex, ea, c, n, l, q2⟩ => ?_)
  subst ex
  obtain rfl : ov = Value.ref a := rx
  exact setattr_ok I2 ea c n l r fun s3 I3 => ⟨σ, _, I3, q2⟩
/-- sum(t) of a tuple of ints -/
def rSumT (K : PySem.W.Frag) : List V → Hp → VK → Prop := fun vs H Q => ∃ (a : Addr) (ns : List Int), vs = [V.ref a] ∧ SqT K H a (ns.map V.int) ∧ Q (.int ns.sum) H
theorem cr_sumT (hc : X.calm = true) : CallR X (.builtin "sum") (rSumT X.K) := by
  intro pins s σ H vs us Q I r h
  obtain ⟨a, ns, rfl, hs, q⟩ := h
  obtain ⟨its, rv, hl, _⟩ := I.tuple hs
  rw [Vals.ref1 r]
  have hi : IntsAre its ns := rv.ints
  have hm : s.heap.IsTuple a its.toArray := by
    obtain ⟨o, ho, hcl, hd⟩ := hl
    exact ⟨o, ho, hcl, hd⟩
  obtain ⟨xs, hx⟩ := hi.allInts.items
  have hn : PySem.numsOf its.toArray.toList = ns := by rw [show its.toArray.toList = its from rfl, hi.numsOf]
  rw [hx] at hm hn
  rw [nums_intItems] at hn
  refine PySem.W.ktm_sumG (I.ok.hd hc) hm fun h' tk t' hk => ⟨.int ns.sum, H, I.kept hk, ⟨t', ?_⟩, q⟩
  rw [preSum_eq, List.take_of_length_le (by simp), hn]
end
end Tc

set_option maxHeartbeats 4000000
namespace Tc
open PySem PySem.Spec PyProof.Rows L2
section
variable {X : Cx}
/-! ### len(o) by the class's own __len__ -/
def rLenOwn (C : Addr) (sp : Sp) (E : XK) : List V → Hp → VK → Prop := fun xs H Q => ∃ a dx fs, xs = [.ref a] ∧ H a = some (.ins C dx fs) ∧ sp [.ref a] H (fun z H' => ∃ i : Int, z = .int i ∧ (0 ≤ i ∧ i < 2 ^ 63) ∧ Q z H') E
theorem call_lenOwn {CX : CXT} {k : Nat} {f C : Addr} {fd : FuncData} {ps : List Str} {sp : Sp} {E : XK} (F : FnOk X.prog X.w X.K X.mg X.base CX k f fd ps sp)
    (hs : PySem.W.findIn X.K (.ref C) "__len__" = some (some (.ref f))) (hf : PySem.W.isFn X.K (.ref f) = true) (hb : Binds X.K fd ps []) (hx : Passes CX X E) (hr : Room (k + 1) X.A) : CallR X (.builtin "len") (rLenOwn C sp E) := by
  intro pins s σ H vs us Q I r h
  obtain ⟨a, dx, fs, rfl, ha, q⟩ := h
  rw [Vals.ref1 r]
  obtain ⟨mA, J, _⟩ := ins_get I.hok ha
  obtain ⟨od, J, _⟩ := J.look
  obtain ⟨m, hF⟩ := I.fr
  have hl : ([Value.ref a]).length = ps.length := by
    rw [← F.len _ _ _ _ q]
    rfl
  refine PySem.W.len_K hF I.ok.mod.kin J hs hf ?_
  refine wpAny_call (codeAny_mono (F.run X.A.in1 X.stack s H ⟨[.ref a], []⟩ [.ref a] [.ref a] _ E hr.in1 I.env0.in1 (by simpa using hb s [.ref a] I.kIn hl) (.cons rfl .nil) q) fun r' s' hq => ?_)
  cases r' with
  | error e => exact hx pins σ H s e s' I hq
  | ok fl =>
    cases fl with
    | ret w =>
      obtain ⟨z, H', I', rz, i, ez, hi, q'⟩ := I.after hq
      subst ez
      obtain ⟨t, rfl⟩ := rz
      exact ⟨hi, .int i, H', I'.tok _, ⟨_, rfl⟩, q'⟩
    | next => exact False.elim hq
    | brk => exact False.elim hq
    | cont => exact False.elim hq
end
/-! ### t[i::2] -/
/-- every second item, the first one too -/
def ev2 {α : Type} : List α → List α
  | [] => []
  | [a] => [a]
  | a :: _ :: r => a :: ev2 r
theorem ev2_map {α β : Type} (f : α → β) : ∀ l : List α, ev2 (l.map f) = (ev2 l).map f
  | [] => rfl
  | [a] => rfl
  | a :: b :: r => by
    show f a :: ev2 (r.map f) = f a :: (ev2 r).map f
    rw [ev2_map f r]
theorem ev2_pick {α : Type} : ∀ l : List α, (List.range ((l.length + 1) / 2)).filterMap (fun m => l[m * 2]?) = ev2 l
  | [] => by simp [ev2]
  | [a] => by
    have e : ([a].length + 1) / 2 = 1 := by simp
    rw [e]
    rfl
  | a :: b :: r => by
    have e : ((a :: b :: r).length + 1) / 2 = (r.length + 1) / 2 + 1 := by
      simp only [List.length_cons]
      omega
    rw [e, List.range_succ_eq_map, List.filterMap_cons, List.filterMap_map]
    have ih := ev2_pick r
    have e2 : ((fun m => (a :: b :: r)[m * 2]?) ∘ Nat.succ) = fun m => r[m * 2]? := by
      funext m
      show (a :: b :: r)[(m + 1) * 2]? = r[m * 2]?
      have : (m + 1) * 2 = m * 2 + 2 := by omega
      rw [this]
      rfl
    rw [e2, ih]
    rfl
theorem ev2_length {α : Type} : ∀ l : List α, (ev2 l).length ≤ l.length
  | [] => Nat.le_refl _
  | [a] => Nat.le_refl _
  | a :: b :: r => by
    have := ev2_length r
    show (ev2 r).length + 1 ≤ r.length + 1 + 1
    omega
theorem vals_ev2 : ∀ {xs : List V} {us : List Value}, Vals xs us → Vals (ev2 xs) (ev2 us)
  | _, _, .nil => .nil
  | _, _, .cons r .nil => .cons r .nil
  | _, _, .cons r (.cons _ t) => .cons r (vals_ev2 t)
section
variable {prog : Program} {w : World} {A : Around} {E : Value → Shared → Prop} {s : Shared}
theorem adjust2 (i n : Nat) : Builtin.Slice.sliceAdjust (some (i : Int)) none 2 (n : Int) = (((min i n : Nat) : Int), (n : Int)) := by
  unfold Builtin.Slice.sliceAdjust
  have h1 : ¬ ((2 : Int) < 0) := by omega
  have h2 : ¬ ((i : Int) < 0) := by omega
  simp only [h1, h2, if_false]
  refine Prod.ext ?_ rfl
  show min (i : Int) (n : Int) = ((min i n : Nat) : Int)
  omega
theorem places2 (i n : Nat) : Builtin.Slice.slicePlaces ((min i n : Nat) : Int) (n : Int) 2 = (n - i + 1) / 2 := by
  unfold Builtin.Slice.slicePlaces
  have h1 : (2 : Int) > 0 := by omega
  simp only [h1, if_true]
  split <;> omega
theorem applied2 {sl : Addr} {vl vs : Value} {i n : Nat} {Q : Int × Int × Nat → Shared → Prop} (hs : s.heap.IsSliceOf sl vl .none vs) (pl : IsPart vl (some (i : Int))) (ps : IsPart vs (some 2))
    (h : Q (((min i n : Nat) : Int), 2, (n - i + 1) / 2) s) : wpAny (model prog w) A (Builtin.Slice.sliceApplied (.ref sl) (pure (n : Int))) Q E s := by
  obtain ⟨os, hos, hcs, hds⟩ := id hs
  unfold Builtin.Slice.sliceApplied Builtin.Slice.sliceFields
  refine wpAny_bind (wpAny_bind (wpAny_field hos hds (x := vl) rfl (wpAny_bind (wpAny_field hos hds (x := .none) rfl (wpAny_bind (wpAny_field hos hds (x := vs) rfl (wpAny_pure ?_)))))))
  refine wpAny_bind (HT.slicePart_ ps ?_)
  show wpAny _ _ (if ((2 : Int) == 0) = true then _ else _) _ _ s
  rw [if_neg (by decide)]
  refine wpAny_bind (HT.slicePart_ pl (wpAny_bind (HT.slicePart_ (o := none) .none (wpAny_bind (wpAny_pure ?_)))))
  show wpAny _ _ (match Builtin.Slice.sliceAdjust (some (i : Int)) none 2 (n : Int) with | (lo, hi) => pure (lo, (2 : Int), Builtin.Slice.slicePlaces lo hi 2)) _ _ s
  rw [adjust2]
  show wpAny _ _ (pure (((min i n : Nat) : Int), (2 : Int), Builtin.Slice.slicePlaces ((min i n : Nat) : Int) (n : Int) 2)) _ _ s
  rw [places2]
  exact wpAny_pure h
theorem pick2 (xs : Array Value) (i : Nat) : ((List.range ((xs.size - i + 1) / 2)).filterMap fun (m : Nat) => xs[(((min i xs.size : Nat) : Int) + (m : Int) * 2).toNat]?).toArray = (ev2 (xs.toList.drop i)).toArray := by
  rw [← ev2_pick, List.length_drop, Array.length_toList]
  congr 1
  by_cases h : i ≤ xs.size
  · congr 1
    funext m
    rw [List.getElem?_drop]
    have e : (((min i xs.size : Nat) : Int) + (m : Int) * 2).toNat = i + m * 2 := by omega
    rw [e]
    simp
  · have e : (xs.size - i + 1) / 2 = 0 := by omega
    rw [e]
    rfl
theorem getItem_tuple2 {t sl : Addr} {items : Array Value} {vl vs : Value} {i : Nat} {Q : Value → Shared → Prop} (ht : IsTup s.heap t items) (hs : s.heap.IsSliceOf sl vl .none vs) (pl : IsPart vl (some (i : Int))) (ps : IsPart vs (some 2))
    (h : Q (.ref s.heap.objs.size) { s with heap := s.heap.push { cls := .type "tuple", data := .seq (ev2 (items.toList.drop i)).toArray } })
    (hsz : items.size ≤ sizeLine) : wpAny (model prog w) A (getItem (.ref t) (.ref sl)) Q E s := by
  have htake : sizeOk (.seq (ev2 (items.toList.drop i)).toArray) := by
    show (ev2 (items.toList.drop i)).toArray.size ≤ sizeLine
    have h1 := ev2_length (items.toList.drop i)
    have h2 : items.toList.length = items.size := Array.length_toList
    simp only [List.length_drop, List.size_toArray, h2] at h1 ⊢
    omega
  obtain ⟨os, hos, hcs, hds⟩ := id hs
  have hTs : s.TypeIs (.ref sl) "slice" := ⟨os, hos, hcs⟩
  unfold getItem
  try with_reducible refine wpAny_holding ?_
  first | refine wpAny_bind (wpAny_pure ?_) | skip
  refine wpAny_bind (wpAny_sequenceKey ht.typeIs (by decide) ?_)
  refine wpAny_bind (wpAny_callSpecial?_slot (name := Str.ofString "__getitem__") ht.typeIs PyProof.Rows.slot_tuple_getitem
    (wpAny_call_entry PyProof.Rows.slot_tuple_getitem ht.typeIs entry_tuple_getitem ?_ (args_tuple_getitem _ _)))
  show wpAny _ _ (Builtin.Tuple.tupleItemsOf (.ref t) >>= _) _ _ s
  refine wpAny_bind (tupleItemsOf_ ht ?_)
  refine wpAny_bind (wpAny_typeOf hTs ?_)
  rw [if_pos (by decide)]
  refine wpAny_bind (applied2 hs pl ps ?_)
  have hno : ¬ ((((min i items.size : Nat) : Int) == 0 && (2 : Int) == 1 && ((items.size - i + 1) / 2) == items.size) = true) := by
    intro q
    rw [Bool.and_eq_true, Bool.and_eq_true] at q
    exact absurd q.1.2 (by decide)
  show wpAny _ _ (if (((min i items.size : Nat) : Int) == 0 && (2 : Int) == 1 && ((items.size - i + 1) / 2) == items.size) = true then _ else _) _ _ s
  rw [if_neg hno, pick2]
  first
    | exact wpAny_bind (m := Builtin.Tuple.tupleExact _) (wpAny_newObj_type (wpAny_pure ⟨_, rfl, wpAny_pure h⟩) htake)
    | exact wpAny_bind (m := Builtin.Tuple.tupleExact _) (wpAny_newObj_type (wpAny_bind (wpAny_pure (wpAny_pure ⟨_, rfl, wpAny_pure h⟩))) htake)
    | exact wpAny_bind (wpAny_bind (m := Builtin.Tuple.tupleExact _) (wpAny_newObj_type (wpAny_pure (wpAny_pure ⟨_, rfl, wpAny_pure h⟩)) htake))
    | exact wpAny_bind (wpAny_bind (m := Builtin.Tuple.tupleExact _) (wpAny_newObj_type (wpAny_pure ⟨_, rfl, wpAny_pure h⟩) htake))
end
section
variable {X : Cx}
def tEv2 (K : PySem.W.Frag) (te tl : TE) : TE := fun σ H Q => te σ H fun x H1 => tPart tl σ H1 fun y H2 => ∃ a xs i, x = .ref a ∧ y = some ((i : Nat) : Int) ∧ SqT K H2 a xs ∧ ∀ p, H2 p = none → Q (.ref p) (upd H2 p (.tup (ev2 (xs.drop i))))
theorem pe_ev2 {e l : Expr} {te tl : TE} {k : Nat} {p1 p3 pos : Pos} (he : PE X e te) (hl : PE X l tl) : PE X (.Subscript e (.Slice (some l) none (some (.Constant (.int 2) k p1)) p3) pos) (tEv2 X.K te tl) := by
  refine ⟨fun pins s σ H Q I h => ?_⟩
  refine Subscript_ (thn (he.run pins s σ H _ I h) fun v s1 ⟨x, H1, I1, r1, q1⟩ => ?_)
  have hst : PO X (some (.Constant (.int 2) k p1)) (tPart (tC (.int 2))) := po_some pe_int
  refine wpAny_Slice (thn ((po_some hl).run pins s1 σ H1 (fun o H2 => ∃ a xs i, x = .ref a ∧ o = some ((i : Nat) : Int) ∧ SqT X.K H2 a xs ∧ ∀ p, H2 p = none → Q (.ref p) (upd H2 p (.tup (ev2 (xs.drop i))))) I1 q1) fun vl s2 ⟨o, H2, I2, pl, q2⟩ => ?_)
  obtain ⟨a, xs, i, ex, eo, hx, q⟩ := q2
  subst ex eo
  cases r1
  refine thn (po_none.run pins s2 σ H2 (fun o H3 => o = none ∧ H3 = H2) I2 ⟨rfl, rfl⟩) fun vu s3 ⟨u, H3, I3, pu, eu, e3⟩ => ?_
  subst eu e3
  cases pu
  refine thn (hst.run pins s3 σ H3 (fun o H4 => o = some 2 ∧ H4 = H3) I3 ⟨2, rfl, rfl, rfl⟩) fun vs s4 ⟨o, H4, I4, ps, eo, e4⟩ => ?_
  subst eo e4
  have I5 : Inv X pins σ H4 { s4 with heap := s4.heap.push { cls := .type "slice", data := .fields #[vl, .none, vs] } } := I4.kept (t' := s4.toks) fun b ob q => Heap.get?_push_of_some _ q
  obtain ⟨its, r, ht, hz⟩ := I5.tuple hx
  have hlen := r.length
  show wpAny (model X.prog X.w) X.A (subscriptTail e (.Slice (some l) none (some (.Constant (.int 2) k p1)) p3) (.ref a) (.ref s4.heap.objs.size)) (EP X pins σ Q) X.xe { s4 with heap := s4.heap.push { cls := .type "slice", data := .fields #[vl, .none, vs] } }
  refine tail_any (ops := [.ref a, .ref s4.heap.objs.size]) ht.typeIs PyProof.Rows.slot_tuple_getitem.lookup ?_ (by with_unfolding_all rfl)
  refine getItem_tuple2 ht (Heap.IsSliceOf.new ..) pl ps ?_ (by rw [List.size_toArray]; omega)
  refine ⟨.ref _, _, I5.laid (t' := s4.toks) (o := .tup (ev2 (xs.drop i))) (fun b ob q => Heap.get?_push_of_some _ q) (Nat.le_refl _) ?_, rfl, q _ (I5.hok.fresh (Nat.le_refl _))⟩
  refine ⟨?_, _, vals_ev2 (r.drop i), IsTup.new _ _⟩
  have := ev2_length (xs.drop i)
  rw [List.length_drop] at this
  omega
end
end Tc

set_option maxHeartbeats 4000000
namespace Tc
open PySem PySem.Spec PyProof.Rows L2
open MeetsSeq MeetsSeq2 MeetsSeq3 SeqRoads2
open AutoSeq1 (wpAny_loadPart')
theorem tuple_mul1 (l : Addr) (items : Array Value) (n : Nat) (dd : Option Addr) (sl : Array (Option Value)) (u : Tok) :
    Meets (Builtin.«tuple.__mul__» ⟨[.ref l, .int 1 u], []⟩) (fun _ R s => s.heap.get? l = some { cls := .type "tuple", dict := dd, data := .seq items n, slots := sl } ∧
      R (.ok (.ret (Value.ref l))) s) :=
  .of_wp fun prog w A R s h => by
    obtain ⟨hp, g, d, tk, os⟩ := s
    obtain ⟨hl, h⟩ := h
    have f1 := AutoSeq1.idx_int
    wp_walk using wpAny_loadPart' hl
    repeat (first
      | (refine wpAny_ite_false (by decide) ?_; wp_walk using wpAny_loadPart' hl)
      | (refine wpAny_ite_true (by simp) ?_; wp_walk using wpAny_loadPart' hl))
    exact ⟨_, rfl, h⟩
theorem tuple_mul0 (l : Addr) (items : Array Value) (n : Nat) (dd : Option Addr) (sl : Array (Option Value)) (x : Int) (u : Tok) (c0 : (decide (x < -(2 ^ 63)) || decide (x ≥ 2 ^ 63)) = false) (c1 : (items.isEmpty || x == 1) = false) (c2 : (decide (x ≤ 0) || items.isEmpty) = true) :
    Meets (Builtin.«tuple.__mul__» ⟨[.ref l, .int x u], []⟩) (fun _ R s => s.heap.get? l = some { cls := .type "tuple", dict := dd, data := .seq items n, slots := sl } ∧
      R (.ok (.ret (Value.ref s.heap.objs.size))) { s with heap := s.heap.push { cls := Value.type "tuple", data := Data.seq #[] }, toks := s.toks }) :=
  .of_wp fun prog w A R s h => by
    obtain ⟨hp, g, d, tk, os⟩ := s
    obtain ⟨hl, h⟩ := h
    have f1 := AutoSeq1.idx_int
    wp_walk using wpAny_loadPart' hl
    repeat (first
      | (refine wpAny_ite_false (decide_eq_false (by rw [c0]; exact Bool.false_ne_true)) ?_; wp_walk using wpAny_loadPart' hl)
      | (refine wpAny_ite_false (decide_eq_false (by rw [c1]; exact Bool.false_ne_true)) ?_; wp_walk using wpAny_loadPart' hl)
      | (refine wpAny_ite_true (decide_eq_true c2) ?_; wp_walk using wpAny_loadPart' hl))
    exact ⟨_, rfl, h⟩
def rRepG (K : PySem.W.Frag) : R2 := fun x y H Q => ∃ l k xs, x = .ref l ∧ y = .int k ∧ SqT K H l xs ∧ xs ≠ [] ∧ -1000 ≤ k ∧ k ≤ 1000 ∧ xs.length ≤ 1000 ∧ (k = 1 → Q (.ref l) H) ∧
  (k ≤ 0 → ∀ p, H p = none → Q (.ref p) (upd H p (.tup []))) ∧ (2 ≤ k → ∀ p, H p = none → Q (.ref p) (upd H p (.tup (List.replicate k.toNat xs).flatten)))
section
variable {X : Cx}
theorem op_repG : OpR X (binaryOp .Mult) (rRepG X.K) := by
  intro pins s σ H x y v u Q I rx ry h
  obtain ⟨l, k, xs, rfl, rfl, hT, hne, h1, h2, hz, q1, q0, q2⟩ := h
  by_cases hk2 : 2 ≤ k
  · exact op_repT pins s σ H _ _ v u Q I rx ry ⟨l, k, xs, rfl, rfl, hT, hne, hk2, h2, hz, q2 hk2⟩
  cases rx
  obtain ⟨t, rfl⟩ := ry
  obtain ⟨its, r, ⟨⟨cls, dd, data, sl⟩, ho, hc, n, hd⟩, hs⟩ := I.tuple hT
  simp only at hc hd
  subst hc hd
  have hle : its.length = xs.length := r.length.symm
  have hn : its ≠ [] := fun e => hne (by
    rw [e] at hle
    exact List.eq_nil_of_length_eq_zero hle.symm)
  have hi : its.toArray.isEmpty = false := by
    cases its with
    | nil => exact absurd rfl hn
    | cons a b => rfl
  by_cases hk1 : k = 1
  · subst hk1
    exact wpAny_binaryOp_repeat_ref (T := "tuple") (U := "int") (by decide) ⟨_, ho, rfl⟩ (fun s' => typeIs_int s' 1 t) noFill_tuple_mul F.fills_int_mul F.slot_int_rmul repeat_tuple F.slot_int_index.lookup
      (call_meets F.slot_int_rmul (typeIs_int s 1 t) F.entry_int_rmul (F.args_int_rmul_2 _ _) (int_rmul_tuple 1 t l its.toArray n dd sl)
        ⟨ho, rfl, ⟨_, ho, rfl⟩, call_meets F.slot_tuple_mul ⟨_, ho, rfl⟩ F.entry_tuple_mul (F.args_tuple_mul_2 _ _) (tuple_mul1 l its.toArray n dd sl t) ⟨ho, ⟨.ref l, H, I, rfl, q1 rfl⟩⟩⟩)
  have c0 : (decide (k < -(2 ^ 63)) || decide (k ≥ 2 ^ 63)) = false := by
    rw [decide_eq_false (by omega), decide_eq_false (by omega)] <;> rfl
  have c1 : (its.toArray.isEmpty || k == 1) = false := by
    rw [hi, Bool.false_or]
    exact beq_eq_false_iff_ne.mpr (by omega)
  have c2 : (decide (k ≤ 0) || its.toArray.isEmpty) = true := by
    rw [decide_eq_true (by omega)]
    rfl
  refine wpAny_binaryOp_repeat_ref (T := "tuple") (U := "int") (by decide) ⟨_, ho, rfl⟩ (fun s' => typeIs_int s' k t) noFill_tuple_mul F.fills_int_mul F.slot_int_rmul repeat_tuple F.slot_int_index.lookup
    (call_meets F.slot_int_rmul (typeIs_int s k t) F.entry_int_rmul (F.args_int_rmul_2 _ _) (int_rmul_tuple k t l its.toArray n dd sl)
      ⟨ho, rfl, ⟨_, ho, rfl⟩, call_meets F.slot_tuple_mul ⟨_, ho, rfl⟩ F.entry_tuple_mul (F.args_tuple_mul_2 _ _) (tuple_mul0 l its.toArray n dd sl k t c0 c1 c2) ⟨ho, ?_⟩⟩)
  refine ⟨.ref s.heap.objs.size, _, I.laid (t' := s.toks) (o := .tup []) (fun b ob q => Heap.get?_push_of_some _ q) (Nat.le_refl _) ?_, rfl, q0 (by omega) _ (I.hok.fresh (Nat.le_refl _))⟩
  exact ⟨by show 0 ≤ sizeLine; omega, [], .nil, IsTup.new _ _⟩
end
end Tc

/-! Data: rows of ints, rows of pairs, their == . -/
namespace Tc
open PySem PySem.Spec PyProof.Rows L2
def dInts (ns : List Int) : List PyData := ns.map PyData.int
def dPair (c : Int × Int) : PyData := .tuple [.int c.1, .int c.2]
theorem dpa_ints {K : PySem.W.Frag} {H : Hp} : ∀ ns : List Int, DpAll K H (ns.map V.int) (dInts ns)
  | [] => .nil
  | n :: ns => .cons (.int n) (dpa_ints ns)
theorem canLay_ints : ∀ ns : List Int, PyData.canLayAll0 (dInts ns) = true
  | [] => by simp [dInts, PyData.canLayAll0]
  | n :: ns => by
    have := canLay_ints ns
    show PyData.canLayAll0 (PyData.int n :: dInts ns) = true
    rw [PyData.canLayAll0, PyData.canLay0, this]
    rfl
theorem depth_ints : ∀ ns : List Int, PyData.depthAll (dInts ns) = 0
  | [] => by simp [dInts, PyData.depthAll]
  | n :: ns => by
    have := depth_ints ns
    show PyData.depthAll (PyData.int n :: dInts ns) = 0
    rw [PyData.depthAll, PyData.depth, this]
    rfl
theorem shp_tup (ns : List Int) : SeqAt.shaped (.tuple (dInts ns)) = true := by
  unfold SeqAt.shaped
  rw [PyData.canLay0, PyData.depth, canLay_ints, depth_ints]
  rfl
theorem shp_lst (ns : List Int) : SeqAt.shaped (.list (dInts ns)) = true := by
  unfold SeqAt.shaped
  rw [PyData.canLay0, PyData.depth, canLay_ints, depth_ints]
  rfl
def dPairs (cs : List (Int × Int)) : List PyData := cs.map dPair
theorem canLay_pairs : ∀ cs : List (Int × Int), PyData.canLayAll0 (dPairs cs) = true
  | [] => by simp [dPairs, PyData.canLayAll0]
  | c :: cs => by
    have := canLay_pairs cs
    show PyData.canLayAll0 (PyData.tuple (dInts [c.1, c.2]) :: dPairs cs) = true
    rw [PyData.canLayAll0, PyData.canLay0, canLay_ints, this]
    rfl
theorem depth_pairs : ∀ cs : List (Int × Int), PyData.depthAll (dPairs cs) ≤ 1
  | [] => by simp [dPairs, PyData.depthAll]
  | c :: cs => by
    have := depth_pairs cs
    show PyData.depthAll (PyData.tuple (dInts [c.1, c.2]) :: dPairs cs) ≤ 1
    rw [PyData.depthAll, PyData.depth, depth_ints]
    omega
theorem shp_pairs (cs : List (Int × Int)) : SeqAt.shaped (.tuple (dPairs cs)) = true := by
  unfold SeqAt.shaped
  rw [PyData.canLay0, PyData.depth, canLay_pairs]
  have := depth_pairs cs
  rw [decide_eq_true (by omega)]
  rfl
theorem eqv_self {d : PyData} (h : SeqAt.shaped d = true) : PyData.eqv d d = true := SeqAt.eqv_refl d (SeqAt.canLay_of_shaped h)
theorem eqvAll_ints : ∀ xs ys : List Int, PyData.eqvAll (dInts xs) (dInts ys) = decide (xs = ys)
  | [], [] => by simp [dInts, PyData.eqvAll]
  | [], y :: ys => by simp [dInts, PyData.eqvAll]
  | x :: xs, [] => by simp [dInts, PyData.eqvAll]
  | x :: xs, y :: ys => by
    have ih := eqvAll_ints xs ys
    show PyData.eqvAll (PyData.int x :: dInts xs) (PyData.int y :: dInts ys) = _
    rw [PyData.eqvAll, PyData.eqv, ih]
    by_cases h : x = y
    · subst h
      simp
    · simp [h]
theorem eqv_lst (xs ys : List Int) : PyData.eqv (.list (dInts xs)) (.list (dInts ys)) = decide (xs = ys) := by rw [PyData.eqv, eqvAll_ints]
theorem eqv_tup (xs ys : List Int) : PyData.eqv (.tuple (dInts xs)) (.tuple (dInts ys)) = decide (xs = ys) := by rw [PyData.eqv, eqvAll_ints]
theorem dec_int' (x y : Int) : decide (V.int x = V.int y) = decide (x = y) := by
  by_cases h : x = y
  · rw [decide_eq_true h, decide_eq_true (congrArg V.int h)]
  · rw [decide_eq_false h, decide_eq_false (fun z => h (by injection z))]
end Tc

/-! Tuples put together, repeated, cut: one word for the ways in which the object may be an old one. -/
namespace Tc
open PySem PySem.Spec PyProof.Rows L2
theorem same_upd {H : Hp} {p : Addr} {o : HO} (h : H p = none) : Same H (upd H p o) := fun b u e => by
  rw [upd_ne (ne_of_none e h)]
  exact e
def rRepS (K : PySem.W.Frag) : R2 := fun x y H Q => ∃ l k xs, x = .ref l ∧ y = .int k ∧ SqT K H l xs ∧ xs ≠ [] ∧ -1000 ≤ k ∧ k ≤ 1000 ∧ xs.length ≤ 1000 ∧
  ∀ r H', Same H H' → SqT K H' r (List.replicate k.toNat xs).flatten → Q (.ref r) H'
def rCatS (K : PySem.W.Frag) : R2 := fun x y H Q => ∃ a b xs ys, x = .ref a ∧ y = .ref b ∧ SqT K H a xs ∧ SqT K H b ys ∧ xs.length + ys.length ≤ sizeLine ∧ ∀ r H', Same H H' → SqT K H' r (xs ++ ys) → Q (.ref r) H'
def rSlS (K : PySem.W.Frag) : V → Option Int → Option Int → Hp → VK → Prop := fun x lo hi H Q => ∃ a xs, x = .ref a ∧ SqT K H a xs ∧ ∀ r H', Same H H' → SqT K H' r (cutV xs lo hi) → Q (.ref r) H'
section
variable {X : Cx}
theorem op_repS : OpR X (binaryOp .Mult) (rRepS X.K) := by
  intro pins s σ H x y v u Q I rx ry h
  obtain ⟨l, k, xs, rfl, rfl, hT, hne, h1, h2, hz, q⟩ := h
  refine op_repG pins s σ H _ _ v u Q I rx ry ⟨l, k, xs, rfl, rfl, hT, hne, h1, h2, hz, fun e => ?_, fun e p hp => ?_, fun _ p hp => ?_⟩
  · subst e
    refine q l H (Same.refl H) ?_
    have : (List.replicate (1 : Int).toNat xs).flatten = xs := by simp
    rw [this]
    exact hT
  · refine q p _ (same_upd hp) (SqT.of ?_)
    have : k.toNat = 0 := by omega
    rw [this]
    exact upd_same
  · exact q p _ (same_upd hp) (SqT.of upd_same)
theorem op_catS : OpR X (binaryOp .Add) (rCatS X.K) := by
  intro pins s σ H x y v u Q I rx ry h
  obtain ⟨a, b, xs, ys, rfl, rfl, ha, hb, hz, q⟩ := h
  refine op_catA pins s σ H _ _ v u Q I rx ry ⟨a, b, xs, ys, rfl, rfl, ha, hb, hz, fun e => ?_, fun _ e => ?_, fun _ _ p hp => ?_⟩
  · subst e
    exact q b H (Same.refl H) hb
  · subst e
    refine q a H (Same.refl H) ?_
    rw [List.append_nil]
    exact ha
  · exact q p _ (same_upd hp) (SqT.of upd_same)
theorem sl_tupS : SlR X (rSlS X.K) := by
  intro pins s σ H x v vl vu lo hi sl Q I rx hs pl pu h
  obtain ⟨a, xs, rfl, hx, q⟩ := h
  refine sl_tupA pins s σ H _ v vl vu lo hi sl Q I rx hs pl pu ⟨a, xs, rfl, hx, fun e => ?_, fun _ p hp => ?_⟩
  · refine q a H (Same.refl H) ?_
    have : cutV xs lo hi = xs := by
      unfold cutV
      rw [e.1, e.2, List.drop_zero, Nat.sub_zero, List.take_length]
    rw [this]
    exact hx
  · exact q p _ (same_upd hp) (SqT.of upd_same)
end
end Tc

set_option maxHeartbeats 4000000
/-! == and != by a class's own __eq__, whatever the other side is. -/
namespace Tc
open PySem PySem.Spec PySem.Calls PyProof.Rows L2
section
open PySem.W
variable {prog : Program} {w : World} {A : Around} {E : Value → Shared → Prop} {s : Shared} {K : Frag} {x C L f : Addr} {h₀ : Heap} {m : Str → Option Value} {ox : Obj} {od : Option Obj}
theorem isObject_K {M : Model} (X : K.In s.heap) (I : InstAt s.heap x ox C od) (hob : mroIn K C (.type "object") = some true) : Looks M s.heap (isInstance (.ref x) (.type "object")) true := by
  unfold isInstance
  exact I.type.andThen (looks_mroIn X hob)
theorem check_ne_K {M : Model} {b : Value} {Q : Unit → Shared → Prop} (X : K.In s.heap) (I : InstAt s.heap x ox C od) (hob : mroIn K C (.type "object") = some true) (hq : Q () s) :
    wpAny M A (checkBuiltinCall "object.__ne__" ⟨[.ref x, b], []⟩) Q E s := by
  simp only [checkBuiltinCall, PySem.F.cmpKind_ne, PySem.F.cmpSplit_ne]
  refine wpAny_bind ((isObject_K X I hob).here ?_)
  cases hsig : Manifest.signature? "object.__ne__" with
  | none => exact wpAny_pure hq
  | some sig =>
    have ha := PySem.F.cmpArgs_ne (.ref x) b
    simp only [argsOk, hsig] at ha
    first
      | exact wpAny_of_eq ha (wpAny_pure hq)
      | exact wpAny_of_eq ha hq
      | (simp only [ha]; exact wpAny_pure hq)
      | skip
theorem ne_bind (self : Value) : bindSpecial (.builtin "object.__ne__") self = pure (.builtin "object.__ne__", [self]) :=
  (Slot.of (T := "object") (name := "__ne__") (id := "object.__ne__") (owner := "object") (n := "__ne__") (by rw [typeLookup_type, builtinLookup_eq_fast]; kernel_rfl) (by decide +kernel) (by decide +kernel) (by decide +kernel)
    (by first | exact .inl (by decide +kernel) | exact .inr (by decide +kernel)) (by rw [isSubtype_type]; kernel_rfl)).bind self
theorem ne_plain : plainId "object.__ne__" = true := by decide +kernel
/-- object.__ne__ turns the own __eq__ round -/
theorem objNe_K {b : Value} {Q : Fin → Shared → Prop} (hu : A.units < cLine) (X : K.In s.heap) (I : InstAt s.heap x ox C od) (hs : findIn K (.ref C) "__eq__" = some (some (.ref f))) (hf : isFn K (.ref f) = true)
    (h : wpAny (model prog w) A (call (.ref f) [.ref x, b]) (fun v s' => ∃ r, v = .bool r ∧ Q (.done (.ret (.bool (!r)))) s') E s) : wpAny (model prog w) A (Builtin.«object.__ne__» ⟨[.ref x, b], []⟩) Q E s := by
  unfold Builtin.«object.__ne__»
  repeat (first
    | with_reducible refine wpAny_cRoomFor hu ?_
    | (refine wpAny_bind (m := callSpecialIfBound? (.ref x) (Str.ofString "__eq__") [b]) (ifBound_K X I hs hf (wpAny_mono h (fun r s' hr => by
          obtain ⟨q, rfl, hq⟩ := hr
          repeat (first | exact hq | exact wpAny_pure hq | exact wpAny_truthy_bool hq | (refine wpAny_bind (m := truthy (.bool _)) (wpAny_truthy_bool ?_)) | wp_step)) fun _ _ e => e)))
    | wp_step)
theorem ifNe_K {b : Value} {Q : Option Value → Shared → Prop} (hu : A.units + 1 < cLine) (X : K.In s.heap) (I : InstAt s.heap x ox C od) (hne : findIn K (.ref C) "__ne__" = some (some (.builtin "object.__ne__"))) (hob : mroIn K C (.type "object") = some true)
    (hs : findIn K (.ref C) "__eq__" = some (some (.ref f))) (hf : isFn K (.ref f) = true) (h : wpAny (model prog w) A.in1 (call (.ref f) [.ref x, b]) (fun v s' => ∃ r, v = .bool r ∧ Q (some (.bool (!r))) s') E s) :
    wpAny (model prog w) A (callSpecialIfBound? (.ref x) "__ne__" [b]) Q E s := by
  simp only [callSpecialIfBound?, bindSpecialIfBound?]
  refine wpAny_holding (wpAny_bind (wpAny_bind (wpAny_bind (I.type.here ((looks_findIn X hne).here ?_)))))
  simp only [ne_bind]
  refine wpAny_bind (wpAny_askSetting (wpAny_ite ?_))
  have fin : wpAny (model prog w) A (call (.builtin "object.__ne__") ([.ref x] ++ [b]) >>= fun v => pure (some v)) Q E s := by
    refine wpAny_bind (wpAny_call (codeAny_call_builtin ne_plain PySem.F.cmpEntry_ne (check_ne_K X I hob (objNe_K (A := A.in1) hu X I hs hf (wpAny_mono h (fun v s' hv => ?_) fun _ _ e => e)))))
    obtain ⟨r, rfl, hq⟩ := hv
    first | exact ⟨r, rfl, wpAny_pure hq⟩ | exact ⟨r, rfl, hq⟩
  split
  · exact wpAny_bind (wpAny_pure (wpAny_pure fin))
  · exact wpAny_tryCatch (wpAny_bind (wpAny_pure (wpAny_pure fin)))
theorem ne_K {b tb : Value} {Q : Value → Shared → Prop} (hu : A.units + 1 < cLine) (F : Fr h₀ L s.heap m) (X₀ : K.In h₀) (I : InstAt s.heap x ox C od) (hb : Looks (model prog w) s.heap (typeOf b) tb) (hn : notFirst K C tb = true)
    (hne : findIn K (.ref C) "__ne__" = some (some (.builtin "object.__ne__"))) (hob : mroIn K C (.type "object") = some true) (hs : findIn K (.ref C) "__eq__" = some (some (.ref f))) (hf : isFn K (.ref f) = true)
    (h : wpAny (model prog w) A.in1 (call (.ref f) [.ref x, b]) (fun v s' => ∃ r, v = .bool r ∧ Q (.bool (!r)) s') E s) : wpAny (model prog w) A (richCompare .NotEq (.ref x) b) Q E s := by
  have X := X₀.keeps F.keep
  have one : wpAny (model prog w) A (tryCompare (.ref x) "__ne__" b) (fun r s' => ∃ v, r = some v ∧ Q v s') E s := by
    unfold tryCompare
    refine wpAny_bind (ifNe_K hu X I hne hob hs hf (wpAny_mono h (fun v s' hv => ?_) fun _ _ e => e))
    obtain ⟨r, rfl, hq⟩ := hv
    exact ⟨r, rfl, wpAny_pure ⟨_, rfl, hq⟩⟩
  unfold richCompare
  simp only [oneThing_ref]
  refine wpAny_holding (wpAny_bind (wpAny_cRoomFor (Nat.lt_of_succ_lt hu) ?_))
  rw [cmpInfo_NotEq]
  dsimp only
  refine wpAny_bind (I.type.here (wpAny_bind (hb.here ?_)))
  split
  · rename_i q
    have e : subIn K tb (.ref C) = some false := by
      rcases Bool.or_eq_true_iff.mp hn with e | e
      · rw [beq_iff_eq.mp e] at q; simp at q
      · exact beq_iff_eq.mp e
    refine wpAny_bind ((looks_subIn X e).here ?_)
    simp only [Bool.false_eq_true, if_false]
    refine wpAny_bind (wpAny_mono one (fun r s' z => ?_) fun _ _ e => e)
    obtain ⟨v, rfl, hq⟩ := z
    exact wpAny_pure hq
  · refine wpAny_bind (wpAny_pure ?_)
    simp only [Bool.false_eq_true, if_false]
    refine wpAny_bind (wpAny_mono one (fun r s' z => ?_) fun _ _ e => e)
    obtain ⟨v, rfl, hq⟩ := z
    exact wpAny_pure hq
end
section
variable {X : Cx}
/-- what the top says of a class with an own __eq__ -/
structure EqC (K : PySem.W.Frag) (C f : Addr) : Prop where
  eq : PySem.W.findIn K (.ref C) "__eq__" = some (some (.ref f))
  ne : PySem.W.findIn K (.ref C) "__ne__" = some (some (.builtin "object.__ne__"))
  fn : PySem.W.isFn K (.ref f) = true
  ob : PySem.W.mroIn K C (.type "object") = some true
/-- x == y, x of the class: what the own __eq__ promises of both -/
def rEqO (K : PySem.W.Frag) (C : Addr) (sp : Sp) (E : XK) : R2 := fun x y H Q => ∃ a dx fs t, x = .ref a ∧ H a = some (.ins C dx fs) ∧ TyX K H y t ∧ PySem.W.notFirst K C t = true ∧ sp [x, y] H (fun z H' => ∃ b, z = .bl b ∧ Q (.bl b) H') E
def rNeO (K : PySem.W.Frag) (C : Addr) (sp : Sp) (E : XK) : R2 := fun x y H Q => ∃ a dx fs t, x = .ref a ∧ H a = some (.ins C dx fs) ∧ TyX K H y t ∧ PySem.W.notFirst K C t = true ∧ sp [x, y] H (fun z H' => ∃ b, z = .bl b ∧ Q (.bl (!b)) H') E
theorem op_eqO {CX : CXT} {k : Nat} {f C : Addr} {fd : FuncData} {ps : List Str} {sp : Sp} {E : XK} (c : EqC X.K C f) (F : FnOk X.prog X.w X.K X.mg X.base CX k f fd ps sp) (hb : Binds X.K fd ps []) (hx : Passes CX X E) (hr : Room k X.A) : OpR X (compareOp .Eq) (rEqO X.K C sp E) := by
  intro pins s σ H x y v u Q I rx ry h
  obtain ⟨a, dx, fs, t, rfl, ha, ty, hn, q⟩ := h
  cases rx
  obtain ⟨mA, J, _⟩ := ins_get I.hok ha
  obtain ⟨od, J, _⟩ := J.look
  obtain ⟨m, hF⟩ := I.fr
  obtain ⟨P, Z, p, _⟩ := kit_of I ry ty
  have hl : ([Value.ref a, u]).length = ps.length := by
    rw [← F.len _ _ _ _ q]
    rfl
  show wpAny (model X.prog X.w) X.A (richCompare .Eq (.ref a) u) (EP X pins σ Q) X.xe s
  refine PySem.W.cmp_K (op := .Eq) hr.units0 hF I.ok.mod.kin J (Z.ty _ _ I.kIn p) hn c.eq c.fn ?_
  refine wpAny_call (codeAny_mono (F.run X.A X.stack s H ⟨[.ref a, u], []⟩ [.ref a, u] [.ref a, y] _ E hr I.env0 (by simpa using hb s [.ref a, u] I.kIn hl) (.cons rfl (.cons ry .nil)) q) fun r' s' hq => ?_)
  cases r' with
  | error e => exact hx pins σ H s e s' I hq
  | ok fl =>
    cases fl with
    | ret w' =>
      obtain ⟨z, H', I', rz, b, ez, q'⟩ := I.after hq
      subst ez
      cases rz
      exact ⟨.bl b, H', I', rfl, q'⟩
    | next => exact False.elim hq
    | brk => exact False.elim hq
    | cont => exact False.elim hq
theorem op_neO {CX : CXT} {k : Nat} {f C : Addr} {fd : FuncData} {ps : List Str} {sp : Sp} {E : XK} (c : EqC X.K C f) (F : FnOk X.prog X.w X.K X.mg X.base CX k f fd ps sp) (hb : Binds X.K fd ps []) (hx : Passes CX X E) (hr : Room (k + 1) X.A) : OpR X (compareOp .NotEq) (rNeO X.K C sp E) := by
  intro pins s σ H x y v u Q I rx ry h
  obtain ⟨a, dx, fs, t, rfl, ha, ty, hn, q⟩ := h
  cases rx
  obtain ⟨mA, J, _⟩ := ins_get I.hok ha
  obtain ⟨od, J, _⟩ := J.look
  obtain ⟨m, hF⟩ := I.fr
  obtain ⟨P, Z, p, _⟩ := kit_of I ry ty
  have hl : ([Value.ref a, u]).length = ps.length := by
    rw [← F.len _ _ _ _ q]
    rfl
  show wpAny (model X.prog X.w) X.A (richCompare .NotEq (.ref a) u) (EP X pins σ Q) X.xe s
  refine ne_K (by have := hr.units; omega) hF I.ok.mod.kin J (Z.ty _ _ I.kIn p) hn c.ne c.ob c.eq c.fn ?_
  refine wpAny_call (codeAny_mono (F.run X.A.in1 X.stack s H ⟨[.ref a, u], []⟩ [.ref a, u] [.ref a, y] _ E hr.in1 I.env0.in1 (by simpa using hb s [.ref a, u] I.kIn hl) (.cons rfl (.cons ry .nil)) q) fun r' s' hq => ?_)
  cases r' with
  | error e => exact hx pins σ H s e s' I hq
  | ok fl =>
    cases fl with
    | ret w' =>
      obtain ⟨z, H', I', rz, b, ez, q'⟩ := I.after hq
      subst ez
      cases rz
      exact ⟨b, rfl, .bl (!b), H', I', rfl, q'⟩
    | next => exact False.elim hq
    | brk => exact False.elim hq
    | cont => exact False.elim hq
end
end Tc

set_option maxHeartbeats 4000000
/-! Own operators: +, -, * of a class with its own instances and with ints on either side; - in front; str; an index. -/
namespace Tc
open PySem PySem.Spec PySem.Calls PyProof.Rows L2
section
open PySem.W
def PlainAt (x : Addr) (s : Shared) : Prop := ∃ C dx, s.heap.get? x = some (PySem.W.instObj C dx)
theorem not_int_add (i : Int) (t : Tok) (x : Addr) : GivesAt (PlainAt x) (Builtin.«int.__add__» ⟨[.int i t, .ref x], []⟩) (.val (Value.notImplemented)) := by
  intro prog w A R s hP h
  obtain ⟨C, dx, e⟩ := hP
  obtain ⟨hp, g, d, tk, os⟩ := s
  wp_walk
  exact h
theorem not_int_sub (i : Int) (t : Tok) (x : Addr) : GivesAt (PlainAt x) (Builtin.«int.__sub__» ⟨[.int i t, .ref x], []⟩) (.val (Value.notImplemented)) := by
  intro prog w A R s hP h
  obtain ⟨C, dx, e⟩ := hP
  obtain ⟨hp, g, d, tk, os⟩ := s
  wp_walk
  exact h
theorem not_int_mul (i : Int) (t : Tok) (x : Addr) : GivesAt (PlainAt x) (Builtin.«int.__mul__» ⟨[.int i t, .ref x], []⟩) (.val (Value.notImplemented)) := by
  intro prog w A R s hP h
  obtain ⟨C, dx, e⟩ := hP
  obtain ⟨hp, g, d, tk, os⟩ := s
  wp_walk
  exact h
/-- what is known of an int's own operator -/
structure IntOp (op : Operator) (id : String) (B : Builtin) : Prop where
  fills : fillsNumberSlot (.type "int") op.info.2 = pure true
  slot : Slot "int" (dunder op.info.2) id
  entry : entryFor table id = some B
  args : ∀ a b, argsOk id ⟨[a, b], []⟩
  no : ∀ i t x, GivesAt (PlainAt x) (B ⟨[.int i t, .ref x], []⟩) (.val (Value.notImplemented))
theorem intAdd : IntOp .Add "int.__add__" Builtin.«int.__add__» := ⟨PySem.F.fills_int_add, PySem.F.slot_int_add, PySem.F.entry_int_add, PySem.F.args_int_add_2, not_int_add⟩
theorem intSub : IntOp .Sub "int.__sub__" Builtin.«int.__sub__» := ⟨PySem.F.fills_int_sub, PySem.F.slot_int_sub, PySem.F.entry_int_sub, PySem.F.args_int_sub_2, not_int_sub⟩
theorem intMul : IntOp .Mult "int.__mul__" Builtin.«int.__mul__» := ⟨PySem.F.fills_int_mul, PySem.F.slot_int_mul, PySem.F.entry_int_mul, PySem.F.args_int_mul_2, not_int_mul⟩
variable {prog : Program} {w : World} {A : Around} {E : Value → Shared → Prop} {s : Shared} {K : Frag} {x C L f g : Addr} {h₀ : Heap} {m : Str → Option Value} {ox : Obj} {od : Option Obj} {id : String} {B : Builtin}
/-- an int op one of the class: the int's operator declines, the class's reflected one answers -/
theorem rbin_K {op : Operator} {i : Int} {t : Tok} {Q : Value → Shared → Prop} (io : IntOp op id B) (F : Fr h₀ L s.heap m) (X₀ : K.In h₀) (I : InstAt s.heap x ox C od) (hP : PlainAt x s) (hc : selfFirst K C = true)
    (hs : findIn K (.ref C) (PySem.dunder op.info.2) = some (some (.ref f))) (hr : findIn K (.ref C) (dunderR op.info.2) = some (some (.ref g))) (hf : isFn K (.ref g) = true)
    (hsub : subIn K (.ref C) (.type "int") = some false)
    (h : wpAny (model prog w) A (call (.ref g) [.ref x, .int i t]) (PySem.W.CmpBack Q) E s) : wpAny (model prog w) A (binaryOp op (.int i t) (.ref x)) Q E s := by
  have X := X₀.keeps F.keep
  obtain ⟨cd, rest, hcd, hm⟩ := ksp_first hc
  obtain ⟨fl, sl, en, ar, no⟩ := io
  rcases hi : op.info with ⟨sym, nm'⟩
  rw [hi] at hs hr fl sl
  dsimp only at hs hr fl sl
  have one := ksp_try X I hr hf h
  have dec : ∀ {Q' : Option Value → Shared → Prop}, Q' none s → wpAny (model prog w) A (tryMethod (.int i t) (dunder nm') (.ref x)) Q' E s := fun q =>
    wpAny_tryMethod_declines (typeIs_int _ _ _) sl (call_givesAt sl (typeIs_int _ _ _) en (ar _ _) (no i t x) hP ⟨rfl, q⟩)
  have L1 : Looks (model prog w) s.heap (typeOf (.int i t)) (.type "int") := Looks.of_pure rfl
  have L2 : Looks (model prog w) s.heap (typeOf (.ref x)) (.ref C) := I.type
  have L3 : Looks (model prog w) s.heap (fillsNumberSlot (.ref C) nm') true := fills_K X hcd hm hs
  have L4 : Looks (model prog w) s.heap (fillsNumberSlot (.type "int") nm') true := Looks.of_pure fl
  have L5 : Looks (model prog w) s.heap (isSubtype (.ref C) (.type "int")) false := looks_subIn X hsub
  have L7 : Looks (model prog w) s.heap (numberSlotInPython (.type "int") nm') false := Looks.of_pure rfl
  have hne : (Value.type "int" == Value.ref C) = false := Bool.eq_false_iff.mpr fun q => by cases beq_iff_eq.mp q
  simp only [binaryOp, hi]
  refine wpAny_holding (wpAny_bind ?_)
  unfold binaryOp1
  refine wpAny_bind (L1.here (wpAny_bind (L2.here (wpAny_bind (L4.here ?_)))))
  simp only [hne, Bool.false_eq_true, if_false]
  refine wpAny_bind (L3.here ?_)
  simp only [Bool.and_self, if_true]
  refine wpAny_bind (L5.here ?_)
  simp only [Bool.false_eq_true, if_false, Bool.not_false, Bool.and_self, if_true, pure_bind]
  refine wpAny_bind (L7.here ?_)
  simp only [Bool.false_eq_true, if_false, pure_bind]
  refine wpAny_bind (dec ?_)
  refine wpAny_bind (wpAny_mono one (fun r s' hr' => ?_) fun _ _ e => e)
  obtain ⟨v, rfl, hq⟩ := hr'
  exact wpAny_bind (wpAny_rule (wpAny_pure (wpAny_pure hq)))
end
section
variable {X : Cx}
/-- what comes back is a value of ours, never NotImplemented -/
theorem cmp_back {pins : List (Addr × Obj)} {σ : L2.St} {Q : VK} {z : V} {w : Value} {s : Shared} {H : Hp} (I : Inv X pins σ H s) (r : RelV z w) (q : Q z H) : PySem.W.CmpBack (EP X pins σ Q) w s := by
  cases z with
  | non => cases r; exact ⟨.non, H, I, rfl, q⟩
  | bl b => cases r; exact ⟨.bl b, H, I, rfl, q⟩
  | int i => obtain ⟨t, rfl⟩ := r; exact ⟨.int i, H, I, ⟨_, rfl⟩, q⟩
  | str i => obtain ⟨t, rfl⟩ := r; exact ⟨.str i, H, I, ⟨_, rfl⟩, q⟩
  | byt i => obtain ⟨t, rfl⟩ := r; exact ⟨.byt i, H, I, ⟨_, rfl⟩, q⟩
  | flt i => obtain ⟨t, rfl⟩ := r; exact ⟨.flt i, H, I, ⟨_, rfl⟩, q⟩
  | ref a => cases r; exact ⟨.ref a, H, I, rfl, q⟩
  | ty n => cases r; exact ⟨.ty n, H, I, rfl, q⟩
/-- what the top says of a class's own operator: d its name, r the reflected one's -/
structure OpC (K : PySem.W.Frag) (C f : Addr) (d r : Str) : Prop where
  slot : PySem.W.findIn K (.ref C) d = some (some (.ref f))
  fn : PySem.W.isFn K (.ref f) = true
  first : PySem.W.selfFirst K C = true
  rc : ∃ rc, PySem.W.findIn K (.ref C) r = some rc ∧ (rc = none ∨ ∃ g : Addr, rc = some (.ref g))
  it : ∃ fo, PySem.W.findIn K (.type "int") d = some fo
  ir : ∃ ro, PySem.W.findIn K (.type "int") r = some ro
  sub : PySem.W.subIn K (.type "int") (.ref C) = some false
/-- and of the reflected one -/
structure RopC (K : PySem.W.Frag) (C f g : Addr) (d r : Str) : Prop where
  slot : PySem.W.findIn K (.ref C) d = some (some (.ref f))
  rslot : PySem.W.findIn K (.ref C) r = some (some (.ref g))
  fn : PySem.W.isFn K (.ref g) = true
  first : PySem.W.selfFirst K C = true
  sub : PySem.W.subIn K (.ref C) (.type "int") = some false
/-- x op y, x of the class, y of it or an int -/
def rOp (C : Addr) (sp : Sp) (E : XK) : R2 := fun x y H Q => ∃ a dx fs, x = .ref a ∧ H a = some (.ins C dx fs) ∧ ((∃ b dy gs, y = .ref b ∧ H b = some (.ins C dy gs)) ∨ ∃ i : Int, y = .int i) ∧ sp [x, y] H Q E
/-- an int op y, y of the class -/
def rRop (C : Addr) (sp : Sp) (E : XK) : R2 := fun x y H Q => ∃ (i : Int) (b dy : Addr) (gs : List (Str × V)), x = .int i ∧ y = .ref b ∧ H b = some (.ins C dy gs) ∧ sp [y, x] H Q E
theorem op_own {op : Operator} {CX : CXT} {k : Nat} {f C : Addr} {fd : FuncData} {ps : List Str} {sp : Sp} {E : XK} (c : OpC X.K C f (dunder op.info.2) (dunderR op.info.2)) (F : FnOk X.prog X.w X.K X.mg X.base CX k f fd ps sp) (hb : Binds X.K fd ps []) (hx : Passes CX X E) (hr : Room k X.A) : OpR X (binaryOp op) (rOp C sp E) := by
  intro pins s σ H x y v u Q I rx ry h
  obtain ⟨a, dx, fs, rfl, ha, hy, q⟩ := h
  cases rx
  obtain ⟨mA, J, _⟩ := ins_get I.hok ha
  obtain ⟨od, J, _⟩ := J.look
  obtain ⟨m, hF⟩ := I.fr
  have hl : ([Value.ref a, u]).length = ps.length := by
    rw [← F.len _ _ _ _ q]
    rfl
  have run : wpAny (model X.prog X.w) X.A (call (.ref f) [.ref a, u]) (PySem.W.CmpBack (EP X pins σ Q)) X.xe s := by
    refine wpAny_call (codeAny_mono (F.run X.A X.stack s H ⟨[.ref a, u], []⟩ [.ref a, u] [.ref a, y] _ E hr I.env0 (by simpa using hb s [.ref a, u] I.kIn hl) (.cons rfl (.cons ry .nil)) q) fun r' s' hq => ?_)
    cases r' with
    | error e => exact hx pins σ H s e s' I hq
    | ok fl =>
      cases fl with
      | ret w' =>
        obtain ⟨z, H', I', rz, q'⟩ := I.after hq
        exact cmp_back I' rz q'
      | next => exact False.elim hq
      | brk => exact False.elim hq
      | cont => exact False.elim hq
  rcases hy with ⟨b, dy, gs, rfl, hb'⟩ | ⟨i, rfl⟩
  · cases ry
    obtain ⟨mB, J', _⟩ := ins_get I.hok hb'
    obtain ⟨od', J', _⟩ := J'.look
    exact PySem.W.binop_K hF I.ok.mod.kin J J'.type c.first c.slot c.fn run
  · obtain ⟨t, rfl⟩ := ry
    obtain ⟨rc, h1, h2⟩ := c.rc
    obtain ⟨fo, h3⟩ := c.it
    obtain ⟨ro, h4⟩ := c.ir
    exact PySem.W.ksp_binT hF I.ok.mod.kin J rfl c.first c.slot c.fn h1 h2 h3 h4 c.sub run
theorem op_rown {op : Operator} {id : String} {B : Builtin} {CX : CXT} {k : Nat} {f g C : Addr} {fd : FuncData} {ps : List Str} {sp : Sp} {E : XK} (io : IntOp op id B) (c : RopC X.K C f g (dunder op.info.2) (dunderR op.info.2)) (F : FnOk X.prog X.w X.K X.mg X.base CX k g fd ps sp) (hb : Binds X.K fd ps []) (hx : Passes CX X E) (hr : Room k X.A) : OpR X (binaryOp op) (rRop C sp E) := by
  intro pins s σ H x y v u Q I rx ry h
  obtain ⟨i, b, dy, gs, rfl, rfl, hb', q⟩ := h
  obtain ⟨t, rfl⟩ := rx
  cases ry
  obtain ⟨mA, J0, _⟩ := ins_get I.hok hb'
  obtain ⟨od, J, _⟩ := J0.look
  obtain ⟨m, hF⟩ := I.fr
  have hl : ([Value.ref b, Value.int i t]).length = ps.length := by
    rw [← F.len _ _ _ _ q]
    rfl
  refine rbin_K io hF I.ok.mod.kin J ⟨C, dy, J0.obj⟩ c.first c.slot c.rslot c.fn c.sub ?_
  refine wpAny_call (codeAny_mono (F.run X.A X.stack s H ⟨[.ref b, .int i t], []⟩ [.ref b, .int i t] [.ref b, .int i] _ E hr I.env0 (by simpa using hb s [.ref b, .int i t] I.kIn hl) (.cons rfl (.cons ⟨t, rfl⟩ .nil)) q) fun r' s' hq => ?_)
  cases r' with
  | error e => exact hx pins σ H s e s' I hq
  | ok fl =>
    cases fl with
    | ret w' =>
      obtain ⟨z, H', I', rz, q'⟩ := I.after hq
      exact cmp_back I' rz q'
    | next => exact False.elim hq
    | brk => exact False.elim hq
    | cont => exact False.elim hq
/-- a method of no more arguments than the object itself, as a builtin asks for it -/
structure UnC (K : PySem.W.Frag) (C f : Addr) (d : Str) : Prop where
  slot : PySem.W.findIn K (.ref C) d = some (some (.ref f))
  fn : PySem.W.isFn K (.ref f) = true
def rUnO (C : Addr) (sp : Sp) (E : XK) : V → Hp → VK → Prop := fun x H Q => ∃ a dx fs, x = .ref a ∧ H a = some (.ins C dx fs) ∧ sp [x] H Q E
theorem un_own {CX : CXT} {k : Nat} {f C : Addr} {fd : FuncData} {ps : List Str} {sp : Sp} {E : XK} (c : UnC X.K C f "__neg__") (F : FnOk X.prog X.w X.K X.mg X.base CX k f fd ps sp) (hb : Binds X.K fd ps []) (hx : Passes CX X E) (hr : Room k X.A) : UnR X (unaryOp .USub) (rUnO C sp E) := by
  intro pins s σ H x v Q I rx h
  obtain ⟨a, dx, fs, rfl, ha, q⟩ := h
  cases rx
  obtain ⟨mA, J, _⟩ := ins_get I.hok ha
  obtain ⟨od, J, _⟩ := J.look
  obtain ⟨m, hF⟩ := I.fr
  have hl : ([Value.ref a]).length = ps.length := by
    rw [← F.len _ _ _ _ q]
    rfl
  refine PySem.W.ksp_neg hF I.ok.mod.kin J c.slot c.fn ?_
  refine wpAny_call (codeAny_mono (F.run X.A X.stack s H ⟨[.ref a], []⟩ [.ref a] [.ref a] _ E hr I.env0 (by simpa using hb s [.ref a] I.kIn hl) (.cons rfl .nil) q) fun r' s' hq => ?_)
  cases r' with
  | error e => exact hx pins σ H s e s' I hq
  | ok fl =>
    cases fl with
    | ret w' => exact I.after hq
    | next => exact False.elim hq
    | brk => exact False.elim hq
    | cont => exact False.elim hq
def rStrO (C : Addr) (sp : Sp) (E : XK) : List V → Hp → VK → Prop := fun xs H Q => ∃ a dx fs, xs = [.ref a] ∧ H a = some (.ins C dx fs) ∧ sp [.ref a] H (fun z H' => ∃ y : Str, z = .str y ∧ Q z H') E
theorem call_strOwn {CX : CXT} {k : Nat} {f C : Addr} {fd : FuncData} {ps : List Str} {sp : Sp} {E : XK} (c : UnC X.K C f "__str__") (F : FnOk X.prog X.w X.K X.mg X.base CX k f fd ps sp) (hb : Binds X.K fd ps []) (hx : Passes CX X E) (hr : Room (k + 2) X.A) : CallR X (.type "str") (rStrO C sp E) := by
  intro pins s σ H vs us Q I r h
  obtain ⟨a, dx, fs, rfl, ha, q⟩ := h
  rw [Vals.ref1 r]
  obtain ⟨mA, J, _⟩ := ins_get I.hok ha
  obtain ⟨od, J, _⟩ := J.look
  obtain ⟨m, hF⟩ := I.fr
  have hl : ([Value.ref a]).length = ps.length := by
    rw [← F.len _ _ _ _ q]
    rfl
  have hr2 : Room k X.A.in1.in1 := Room.in1 (Room.in1 hr)
  refine PySem.W.kso_call hr2.units0 (I.ok.mod.kin.keeps hF.keep) J c.slot c.fn ?_
  refine wpAny_call (codeAny_mono (F.run X.A.in1.in1 X.stack s H ⟨[.ref a], []⟩ [.ref a] [.ref a] _ E hr2 I.env0.in1.in1 (by simpa using hb s [.ref a] I.kIn hl) (.cons rfl .nil) q) fun r' s' hq => ?_)
  cases r' with
  | error e => exact hx pins σ H s e s' I hq
  | ok fl =>
    cases fl with
    | ret w =>
      obtain ⟨z, H', I', rz, i, ez, q'⟩ := I.after hq
      subst ez
      obtain ⟨t, rfl⟩ := rz
      exact ⟨.str i, H', I', ⟨_, rfl⟩, q'⟩
    | next => exact False.elim hq
    | brk => exact False.elim hq
    | cont => exact False.elim hq
def rIxO (C : Addr) (sp : Sp) (E : XK) : R2 := fun x y H Q => ∃ a dx fs, x = .ref a ∧ H a = some (.ins C dx fs) ∧ sp [x, y] H Q E
/-- x[i] by the class's own __getitem__ -/
theorem pe_ixO {CX : CXT} {k : Nat} {f C : Addr} {fd : FuncData} {ps : List Str} {sp : Sp} {E : XK} {ea eb : Expr} {ta tb : TE} {pos : Pos} (c : UnC X.K C f "__getitem__") (hfn : PySem.W.fnIn X.K f = true) (F : FnOk X.prog X.w X.K X.mg X.base CX k f fd ps sp) (hb : Binds X.K fd ps []) (hx : Passes CX X E) (hr : Room (k + 1) X.A)
    (pa : PE X ea ta) (pb : PE X eb tb) (hsl : ∀ o i, subscripted eb true o i = runValue (.builtin "lifetime.subscript" ⟨[o, i], []⟩)) : PE X (.Subscript ea eb pos) (tOp (rIxO C sp E) ta tb) := by
  refine ⟨fun pins s0 σ0 H0 Q I0 h0 => ?_⟩
  refine Subscript_ (binT pa pb I0 h0 fun v u s x y H σI rx ry h => ?_)
  have I := σI
  obtain ⟨a, dx, fs, rfl, ha, q⟩ := h
  cases rx
  obtain ⟨mA, J, _⟩ := ins_get I.hok ha
  obtain ⟨od, J, _⟩ := J.look
  obtain ⟨m, hF⟩ := I.fr
  have hl : ([Value.ref a, u]).length = ps.length := by
    rw [← F.len _ _ _ _ q]
    rfl
  refine PySem.W.sub_K hF I.ok.mod.kin J c.slot hfn c.fn ?_ ?_
  · refine wpAny_call (codeAny_mono (F.run X.A.in1 X.stack s H ⟨[.ref a, u], []⟩ [.ref a, u] [.ref a, y] _ E hr.in1 I.env0.in1 (by simpa using hb s [.ref a, u] I.kIn hl) (.cons rfl (.cons ry .nil)) q) fun r' s' hq => ?_)
    cases r' with
    | error e => exact hx pins σ0 H s e s' I hq
    | ok fl =>
      cases fl with
      | ret w' => exact I.after hq
      | next => exact False.elim hq
      | brk => exact False.elim hq
      | cont => exact False.elim hq
  · exact hsl _ _
def CDivZ (_ j : Int) : Prop := j ≠ 0 ∧ j.natAbs.log2 < 9000
theorem op_fdivZ : OpR X (binaryOp .FloorDiv) (rI CDivZ fun i j => .int (i.fdiv j)) := opI fun i j _ _ _ _ _ hc q => by
  have h1 : j.natAbs.log2 < 9000 := hc.2
  exact floordiv_int hc.1 q (.inl (PyProof.noPylong_of_log2 h1))
theorem wide_divz {i j : Int} {b : Nat} (h : j ≠ 0) (hb : j.natAbs < 2 ^ b) (h0 : 0 < b) (h9 : b ≤ 9000) : CDivZ i j := ⟨h, Nat.lt_of_lt_of_le (PySem.Flt.log2_lt_of h0 hb) h9⟩
end
end Tc

/-! Small words for every law. -/
namespace Tc
open PySem PySem.Spec PyProof.Rows L2
theorem ifF {c : Bool} {A B : Prop} (hc : c = false) (h : B) : if c = true then A else B := by
  rw [hc, if_neg Bool.false_ne_true]
  exact h
theorem ifT {c : Bool} {A B : Prop} (hc : c = true) (h : A) : if c = true then A else B := by
  rw [if_pos hc]
  exact h
theorem neD_self {d e : PyData} (h : d = e) (s : SeqAt.shaped e = true) : (!PyData.eqv d e) = false := by
  subst h
  rw [eqv_self s]
  rfl
theorem ne_self {x y : Int} (h : x = y) : (!decide (V.int x = V.int y)) = false := by
  subst h
  rw [decide_eq_true rfl]
  rfl
theorem ne_bl {x y : Bool} (h : x = y) : (!decide (V.bl x = V.bl y)) = false := by
  subst h
  rw [decide_eq_true rfl]
  rfl
theorem same_new {H : Hp} {p : Addr} {o : HO} (h : H p = none) : Same H (upd H p o) := fun b u e => by
  rw [upd_ne (ne_of_none e h)]
  exact e
theorem same_mut {H H' : Hp} {p : Addr} {o : HO} (e : Same H H') (h : H p = none) : Same H (upd H' p o) := fun b u q => by
  rw [upd_ne (ne_of_none q h)]
  exact e b u q
theorem lt_line {n : Nat} (h : n < 100000) : n < sizeLine := Nat.lt_of_lt_of_le h (by decide)
theorem made {H H1 : Hp} {x dx C : Addr} (nx : H x = none) (nd : H dx = none) (k : ∀ b o, (upd (upd H dx (.own x)) x (.ins C dx [])) b = some o → b ≠ x → H1 b = some o) : Same H H1 := fun b o e =>
  k b o (by rw [upd_ne (ne_of_none e nx), upd_ne (ne_of_none e nd)]; exact e) (ne_of_none e nx)
theorem same_up {H : Hp} {x dx C : Addr} (nx : H x = none) (nd : H dx = none) : Same H (upd (upd H dx (.own x)) x (.ins C dx [])) := fun b o e => by
  rw [upd_ne (ne_of_none e nx), upd_ne (ne_of_none e nd)]
  exact e
/-- what is not a list stands -/
def Sol (H H' : Hp) : Prop := ∀ b o, H b = some o → (∀ xs, o ≠ .lst xs) → H' b = some o
theorem same_sol {H H' : Hp} (e : Same H H') : Sol H H' := fun b o h _ => e b o h
theorem same_sqT {K : PySem.W.Frag} {H H' : Hp} {a : Addr} {xs : List V} (e : Same H H') (h : SqT K H a xs) : SqT K H' a xs := by
  rcases h with (h | ⟨o, h⟩) | h
  · exact .inl (.inl (e _ _ h))
  · exact .inl (.inr ⟨o, e _ _ h⟩)
  · exact .inr h
theorem sqT_ty {K : PySem.W.Frag} {H : Hp} {a : Addr} {xs : List V} (h : SqT K H a xs) : TyX K H (.ref a) (.type "tuple") := by
  rcases h with (h | ⟨o, h⟩) | ⟨o, its, n, h1, h2, _⟩
  · exact .base (.tup h)
  · exact .fTuple h
  · exact .kTuple h1 h2
/-! texts -/
theorem of_app (a b : String) : Str.ofString (a ++ b) = Str.ofString a ++ Str.ofString b := by
  rw [Str.ofString_eq_toList, Str.ofString_eq_toList, Str.ofString_eq_toList, String.toList_append, List.map_append]
  show _ = Str.mk (_ ++ _)
  simp
theorem join2 (a b : Str) : Txt.join (Str.ofString "") [a, b] = a ++ b := by
  have z : (Str.ofString "").cps = #[] := by decide
  unfold Txt.join
  obtain ⟨a⟩ := a
  obtain ⟨b⟩ := b
  show Str.mk _ = Str.mk (a ++ b)
  simp [z]
theorem neg_text {n : Nat} (h : 0 < n) : toString (-(n : Int)) = "-" ++ toString (n : Int) := by
  obtain ⟨m, rfl⟩ : ∃ m, n = m + 1 := ⟨n - 1, by omega⟩
  rfl
theorem emp_app (b : Str) : Str.ofString "" ++ b = b := by
  have z : (Str.ofString "").cps = #[] := by decide
  obtain ⟨b⟩ := b
  show Str.mk ((Str.ofString "").cps ++ b) = Str.mk b
  simp [z]
end Tc

set_option maxHeartbeats 4000000
/-! abs by the own __abs__, truth by the own __bool__, repr of a truth. -/
namespace Tc
open PySem PySem.Spec PySem.Calls PyProof.Rows L2
section
open PySem.W
variable {prog : Program} {w : World} {A : Around} {E : Value → Shared → Prop} {s : Shared} {K : Frag} {x C L f g : Addr} {h₀ : Heap} {m : Str → Option Value} {ox : Obj} {od : Option Obj}
theorem abs_K {Q : Value → Shared → Prop} (F : Fr h₀ L s.heap m) (X₀ : K.In h₀) (I : InstAt s.heap x ox C od) (hs : findIn K (.ref C) "__abs__" = some (some (.ref f))) (hf : isFn K (.ref f) = true)
    (h : wpAny (model prog w) A.in1 (call (.ref f) [.ref x]) Q E s) : wpAny (model prog w) A (call (.builtin "abs") [.ref x]) Q E s := by
  refine Calls.call_function_entry kind_abs plain_abs entry_abs (args_abs _) ?_
  unfold Builtin.«abs»
  refine wpAny_bind (m := oneArg "abs" _) (wpAny_pure ?_)
  refine wpAny_bind (m := callSpecial? (.ref x) (Str.ofString "__abs__")) (special_fn (X₀.keeps F.keep) I hs (beq_iff_eq.mp hf) (wpAny_mono h (fun r s' hr => ?_) fun _ _ y => y))
  exact wpAny_pure ⟨_, rfl, hr⟩
end
section
variable {X : Cx}
def rAbsO (C : Addr) (sp : Sp) (E : XK) : List V → Hp → VK → Prop := fun xs H Q => ∃ a dx fs, xs = [.ref a] ∧ H a = some (.ins C dx fs) ∧ sp [.ref a] H Q E
theorem call_absOwn {CX : CXT} {k : Nat} {f C : Addr} {fd : FuncData} {ps : List Str} {sp : Sp} {E : XK} (c : UnC X.K C f "__abs__") (F : FnOk X.prog X.w X.K X.mg X.base CX k f fd ps sp) (hb : Binds X.K fd ps []) (hx : Passes CX X E) (hr : Room (k + 1) X.A) : CallR X (.builtin "abs") (rAbsO C sp E) := by
  intro pins s σ H vs us Q I r h
  obtain ⟨a, dx, fs, rfl, ha, q⟩ := h
  rw [Vals.ref1 r]
  obtain ⟨mA, J, _⟩ := ins_get I.hok ha
  obtain ⟨od, J, _⟩ := J.look
  obtain ⟨m, hF⟩ := I.fr
  have hl : ([Value.ref a]).length = ps.length := by
    rw [← F.len _ _ _ _ q]
    rfl
  refine abs_K hF I.ok.mod.kin J c.slot c.fn ?_
  refine wpAny_call (codeAny_mono (F.run X.A.in1 X.stack s H ⟨[.ref a], []⟩ [.ref a] [.ref a] _ E hr.in1 I.env0.in1 (by simpa using hb s [.ref a] I.kIn hl) (.cons rfl .nil) q) fun r' s' hq => ?_)
  cases r' with
  | error e => exact hx pins σ H s e s' I hq
  | ok fl =>
    cases fl with
    | ret w => exact I.after hq
    | next => exact False.elim hq
    | brk => exact False.elim hq
    | cont => exact False.elim hq
theorem call_repr_bl : CallR X (.builtin "repr") (fun xs H Q => ∃ b, xs = [.bl b] ∧ Q (.str (if b then "True" else "False")) H) := by
  intro pins s σ H vs us Q I r h
  obtain ⟨b, rfl, q⟩ := h
  cases r with
  | cons r1 r2 =>
    cases r2
    cases r1
    exact PySem.P.repr_of_bool ⟨.str _, H, I.tok _, ⟨_, rfl⟩, q⟩
end
/-! a list that a law draws from; all else stands -/
def Frm (a : Addr) (H H' : Hp) : Prop := ∀ b o, b ≠ a → H b = some o → H' b = some o
theorem Frm.refl {a : Addr} {H : Hp} : Frm a H H := fun _ _ _ h => h
theorem Frm.trans {a : Addr} {H H1 H2 : Hp} (x : Frm a H H1) (y : Frm a H1 H2) : Frm a H H2 := fun b o n h => y b o n (x b o n h)
theorem same_frame {a : Addr} {H H' : Hp} (x : Same H H') : Frm a H H' := fun b o _ h => x b o h
theorem Frm.write {a : Addr} {H : Hp} {o : HO} : Frm a H (upd H a o) := fun b _ n h => by rw [upd_ne n]; exact h
theorem Frm.sol {a : Addr} {H H' : Hp} {l : List V} (x : Frm a H H') (h : H a = some (.lst l)) : Sol H H' := fun b o q n => by
  refine x b o ?_ q
  rintro rfl
  rw [h] at q
  cases q
  exact n _ rfl
def Bowl (H : Hp) (a : Addr) : Prop := ∃ g s n : Int, H a = some (.lst [.int g, .int s, .int n])
theorem Bowl.stay {a : Addr} {H H' : Hp} (B : Bowl H a) (x : Same H H') : Bowl H' a := by
  obtain ⟨g, s, n, h⟩ := B
  exact ⟨g, s, n, x _ _ h⟩
theorem pow58_10 : (0 : Int) < ((10 : Int) ^ (58 : Int).toNat) ^ (10 : Int).toNat := by decide +kernel
theorem mod_bits {x m : Int} {b : Nat} (h0 : 0 < m) (h : m ≤ 2 ^ b) : (x % m).natAbs < 2 ^ b := by
  have h1 := Int.emod_lt_of_pos x h0
  have h2 := Int.emod_nonneg x (show m ≠ 0 by omega)
  have e : (((2 : Nat) ^ b : Nat) : Int) = 2 ^ b := by norm_cast
  omega
end Tc

/-! Small words for comprehensions over walks; divmod of great numbers. -/
namespace Tc
open PySem PySem.Spec PyProof.Rows L2
theorem binds_nil {K : PySem.W.Frag} {fd : FuncData} {ps : List Str} (h : ∃ ds, Vals [] ds ∧ Binds K fd ps ds) : Binds K fd ps [] := by
  obtain ⟨ds, v, b⟩ := h
  cases v
  exact b
theorem divp_wide {i j : Int} (h : CDivW i j) : CDivP i j := ⟨h.1, PyProof.noPylong_of_log2 h.2⟩
section
variable {prog : Program} {w : World} {A : Around} {E : Value → Shared → Prop} {s : Shared}
theorem adjustR (n : Nat) : Builtin.Slice.sliceAdjust none none (-1) (n : Int) = ((n : Int) - 1, -1) := by
  unfold Builtin.Slice.sliceAdjust
  have h1 : ((-1 : Int) < 0) := by decide
  simp only [h1, if_true]
theorem placesR (n : Nat) : Builtin.Slice.slicePlaces ((n : Int) - 1) (-1) (-1) = n := by
  unfold Builtin.Slice.slicePlaces
  have h1 : ¬ ((-1 : Int) > 0) := by decide
  have h2 : (- -1 : Int) = 1 := by decide
  simp only [h1, if_false, h2, Int.ediv_one]
  split <;> omega
theorem appliedR {sl : Addr} {vs : Value} {n : Nat} {Q : Int × Int × Nat → Shared → Prop} (hs : s.heap.IsSliceOf sl .none .none vs) (ps : IsPart vs (some (-1)))
    (h : Q ((n : Int) - 1, -1, n) s) : wpAny (model prog w) A (Builtin.Slice.sliceApplied (.ref sl) (pure (n : Int))) Q E s := by
  obtain ⟨os, hos, hcs, hds⟩ := id hs
  unfold Builtin.Slice.sliceApplied Builtin.Slice.sliceFields
  refine wpAny_bind (wpAny_bind (wpAny_field hos hds (x := .none) rfl (wpAny_bind (wpAny_field hos hds (x := .none) rfl (wpAny_bind (wpAny_field hos hds (x := vs) rfl (wpAny_pure ?_)))))))
  refine wpAny_bind (HT.slicePart_ ps ?_)
  show wpAny _ _ (if ((-1 : Int) == 0) = true then _ else _) _ _ s
  rw [if_neg (by decide)]
  refine wpAny_bind (HT.slicePart_ (o := none) .none (wpAny_bind (HT.slicePart_ (o := none) .none (wpAny_bind (wpAny_pure ?_)))))
  show wpAny _ _ (match Builtin.Slice.sliceAdjust none none (-1) (n : Int) with | (lo, hi) => pure (lo, (-1 : Int), Builtin.Slice.slicePlaces lo hi (-1))) _ _ s
  rw [adjustR]
  show wpAny _ _ (pure ((n : Int) - 1, (-1 : Int), Builtin.Slice.slicePlaces ((n : Int) - 1) (-1) (-1))) _ _ s
  rw [placesR]
  exact wpAny_pure h
theorem pickR (xs : Array Value) : ((List.range xs.size).filterMap fun (m : Nat) => xs[(((xs.size : Int) - 1) + (m : Int) * (-1)).toNat]?).toArray = xs.toList.reverse.toArray := by
  congr 1
  have e : ∀ m ∈ List.range xs.size, xs[(((xs.size : Int) - 1) + (m : Int) * (-1)).toNat]? = xs.toList.reverse[m]? := fun m hm => by
    have hm' : m < xs.size := List.mem_range.mp hm
    rw [List.getElem?_reverse (by rw [Array.length_toList]; exact hm'), Array.length_toList, Array.getElem?_toList]
    congr 1
    omega
  have e2 : (List.range xs.size).filterMap (fun (m : Nat) => xs[(((xs.size : Int) - 1) + (m : Int) * (-1)).toNat]?) = (List.range xs.size).filterMap (fun m => xs.toList.reverse[m]?) := by
    have cg : ∀ l : List Nat, (∀ m ∈ l, xs[(((xs.size : Int) - 1) + (m : Int) * (-1)).toNat]? = xs.toList.reverse[m]?) → l.filterMap (fun (m : Nat) => xs[(((xs.size : Int) - 1) + (m : Int) * (-1)).toNat]?) = l.filterMap (fun m => xs.toList.reverse[m]?) := by
      intro l
      induction l with
      | nil => exact fun _ => rfl
      | cons a l ih =>
        intro h
        rw [List.filterMap_cons, List.filterMap_cons, h a (List.mem_cons_self ..), ih fun m hm => h m (List.mem_cons_of_mem _ hm)]
    exact cg _ e
  rw [e2]
  have hl : xs.size = xs.toList.reverse.length := by rw [List.length_reverse, Array.length_toList]
  rw [hl]
  generalize xs.toList.reverse = r
  induction r with
  | nil => rfl
  | cons a r ih =>
    rw [List.length_cons, List.range_succ_eq_map, List.filterMap_cons]
    simp only [List.getElem?_cons_zero, List.filterMap_map]
    congr 1
theorem getItem_tupleR {t sl : Addr} {items : Array Value} {vs : Value} {Q : Value → Shared → Prop} (ht : IsTup s.heap t items) (hs : s.heap.IsSliceOf sl .none .none vs) (ps : IsPart vs (some (-1)))
    (h : Q (.ref s.heap.objs.size) { s with heap := s.heap.push { cls := .type "tuple", data := .seq items.toList.reverse.toArray } })
    (hsz : items.size ≤ sizeLine) : wpAny (model prog w) A (getItem (.ref t) (.ref sl)) Q E s := by
  have htake : sizeOk (.seq items.toList.reverse.toArray) := by
    show items.toList.reverse.toArray.size ≤ sizeLine
    simp only [List.size_toArray, List.length_reverse, Array.length_toList]
    exact hsz
  obtain ⟨os, hos, hcs, hds⟩ := id hs
  have hTs : s.TypeIs (.ref sl) "slice" := ⟨os, hos, hcs⟩
  unfold getItem
  try with_reducible refine wpAny_holding ?_
  first | refine wpAny_bind (wpAny_pure ?_) | skip
  refine wpAny_bind (wpAny_sequenceKey ht.typeIs (by decide) ?_)
  refine wpAny_bind (wpAny_callSpecial?_slot (name := Str.ofString "__getitem__") ht.typeIs PyProof.Rows.slot_tuple_getitem
    (wpAny_call_entry PyProof.Rows.slot_tuple_getitem ht.typeIs entry_tuple_getitem ?_ (args_tuple_getitem _ _)))
  show wpAny _ _ (Builtin.Tuple.tupleItemsOf (.ref t) >>= _) _ _ s
  refine wpAny_bind (tupleItemsOf_ ht ?_)
  refine wpAny_bind (wpAny_typeOf hTs ?_)
  rw [if_pos (by decide)]
  refine wpAny_bind (appliedR hs ps ?_)
  have hno : ¬ (((((items.size : Nat) : Int) - 1) == 0 && (-1 : Int) == 1 && items.size == items.size) = true) := by
    intro q
    rw [Bool.and_eq_true, Bool.and_eq_true] at q
    exact absurd q.1.2 (by decide)
  show wpAny _ _ (if ((((items.size : Nat) : Int) - 1) == 0 && (-1 : Int) == 1 && items.size == items.size) = true then _ else _) _ _ s
  rw [if_neg hno, pickR]
  first
    | exact wpAny_bind (m := Builtin.Tuple.tupleExact _) (wpAny_newObj_type (wpAny_pure ⟨_, rfl, wpAny_pure h⟩) htake)
    | exact wpAny_bind (m := Builtin.Tuple.tupleExact _) (wpAny_newObj_type (wpAny_bind (wpAny_pure (wpAny_pure ⟨_, rfl, wpAny_pure h⟩))) htake)
    | exact wpAny_bind (wpAny_bind (m := Builtin.Tuple.tupleExact _) (wpAny_newObj_type (wpAny_pure (wpAny_pure ⟨_, rfl, wpAny_pure h⟩)) htake))
    | exact wpAny_bind (wpAny_bind (m := Builtin.Tuple.tupleExact _) (wpAny_newObj_type (wpAny_pure ⟨_, rfl, wpAny_pure h⟩) htake))
end
section
variable {X : Cx}
def tRevT (K : PySem.W.Frag) (te : TE) : TE := fun σ H Q => te σ H fun x H1 => ∃ a xs, x = .ref a ∧ SqT K H1 a xs ∧ ∀ p, H1 p = none → Q (.ref p) (upd H1 p (.tup xs.reverse))
theorem pe_revT {e : Expr} {te : TE} {k : Nat} {p1 p2 p3 pos : Pos} (he : PE X e te) : PE X (.Subscript e (.Slice none none (some (.UnaryOp .USub (.Constant (.int 1) k p1) p2)) p3) pos) (tRevT X.K te) := by
  refine ⟨fun pins s σ H Q I h => ?_⟩
  refine Subscript_ (thn (he.run pins s σ H _ I h) fun v s1 ⟨x, H1, I1, r1, q1⟩ => ?_)
  obtain ⟨a, xs, ex, hx, q⟩ := q1
  subst ex
  cases r1
  have hst : PO X (some (.UnaryOp .USub (.Constant (.int 1) k p1) p2)) (tPart (tUn (rU fun i => .int (-i)) (tC (.int 1)))) := po_some (pe_un un_neg pe_int)
  refine wpAny_Slice (thn (po_none.run pins s1 σ H1 (fun o H2 => o = none ∧ H2 = H1) I1 ⟨rfl, rfl⟩) fun vl s2 ⟨l, H2, I2, pl, el, e2⟩ => ?_)
  subst el e2
  cases pl
  refine thn (po_none.run pins s2 σ H2 (fun o H3 => o = none ∧ H3 = H2) I2 ⟨rfl, rfl⟩) fun vu s3 ⟨u, H3, I3, pu, eu, e3⟩ => ?_
  subst eu e3
  cases pu
  refine thn (hst.run pins s3 σ H3 (fun o H4 => o = some (-1) ∧ H4 = H3) I3 ⟨1, rfl, -1, rfl, rfl, rfl⟩) fun vs s4 ⟨o, H4, I4, ps, eo, e4⟩ => ?_
  subst eo e4
  have I5 : Inv X pins σ H4 { s4 with heap := s4.heap.push { cls := .type "slice", data := .fields #[.none, .none, vs] } } := I4.kept (t' := s4.toks) fun b ob q => Heap.get?_push_of_some _ q
  obtain ⟨its, r, ht, hz⟩ := I5.tuple hx
  have hlen := r.length
  show wpAny (model X.prog X.w) X.A (subscriptTail e (.Slice none none (some (.UnaryOp .USub (.Constant (.int 1) k p1) p2)) p3) (.ref a) (.ref s4.heap.objs.size)) (EP X pins σ Q) X.xe { s4 with heap := s4.heap.push { cls := .type "slice", data := .fields #[.none, .none, vs] } }
  refine tail_any (ops := [.ref a, .ref s4.heap.objs.size]) ht.typeIs PyProof.Rows.slot_tuple_getitem.lookup ?_ (by with_unfolding_all rfl)
  refine getItem_tupleR ht (Heap.IsSliceOf.new ..) ps ?_ (by rw [List.size_toArray]; omega)
  refine ⟨.ref _, _, I5.laid (t' := s4.toks) (o := .tup xs.reverse) (fun b ob q => Heap.get?_push_of_some _ q) (Nat.le_refl _) ?_, rfl, q _ (I5.hok.fresh (Nat.le_refl _))⟩
  exact ⟨by rw [List.length_reverse]; exact hz, _, r.reverse, IsTup.new _ _⟩
end
end Tc

/-! Facts carried back to the heap in which they are known. -/
namespace Tc
open PySem PySem.Spec PyProof.Rows L2
theorem back_raw {H H' : Hp} {a : Addr} {o : HO} (e : Same H H') (h : H a = some o) : H' a = some o := e _ _ h
theorem back_sqT {K : PySem.W.Frag} {H H' : Hp} {a : Addr} {xs : List V} (e : Same H H') (h : SqT K H a xs) : SqT K H' a xs := same_sqT e h
theorem same_sqL {K : PySem.W.Frag} {H H' : Hp} {a : Addr} {xs : List V} (e : Same H H') (h : SqL K H a xs) : SqL K H' a xs := Same.seq e h
theorem made2 {H H1 : Hp} {x dx C : Addr} (k : ∀ b o, (upd (upd H dx (.own x)) x (.ins C dx [])) b = some o → b ≠ x → H1 b = some o) (nx : H x = none) (nd : H dx = none) : Same H H1 := made nx nd k
theorem bowl_back {H H' : Hp} {a : Addr} (x : Same H H') (B : Bowl H a) : Bowl H' a := B.stay x
theorem frm_back {a : Addr} {H H1 H' : Hp} (y : Same H1 H') (x : Frm a H H1) : Frm a H H' := x.trans (same_frame y)
theorem frm_backF {a : Addr} {H H1 H' : Hp} (y : Frm a H1 H') (x : Frm a H H1) : Frm a H H' := x.trans y
theorem sol_frm {a : Addr} {H H' : Hp} (x : Frm a H H') (B : Bowl H a) : Sol H H' := by
  obtain ⟨g, s, n, h⟩ := B
  exact x.sol h
theorem ifTd {p : Prop} [Decidable p] {A B : Prop} (hp : p) (h : A) : if decide p = true then A else B := ifT (decide_eq_true hp) h
theorem ifFd {p : Prop} [Decidable p] {A B : Prop} (hp : ¬ p) (h : B) : if decide p = true then A else B := ifF (decide_eq_false hp) h
theorem ifTn {p : Prop} [Decidable p] {A B : Prop} (hp : ¬ p) (h : A) : if (!decide p) = true then A else B := ifT (by rw [decide_eq_false hp]; rfl) h
theorem ifFn {p : Prop} [Decidable p] {A B : Prop} (hp : p) (h : B) : if (!decide p) = true then A else B := ifF (by rw [decide_eq_true hp]; rfl) h
end Tc

/-! Numbers' bits; what draws leave. -/
namespace Tc
open PySem PySem.Spec PyProof.Rows L2
theorem Frm.free {a p : Addr} {H H' : Hp} {o : HO} (x : Frm a H H') (h : H' a = some o) (n : H' p = none) : H p = none := by
  cases e : H p with
  | none => rfl
  | some u =>
    have hp : p ≠ a := by
      rintro rfl
      rw [h] at n
      cases n
    rw [x p u hp e] at n
    cases n
theorem Frm.seq {K : PySem.W.Frag} {a b : Addr} {H H' : Hp} {xs : List V} (x : Frm a H H') (n : b ≠ a) (h : SqL K H b xs) : SqL K H' b xs := by
  rcases h with (h | ⟨o, h⟩) | h
  · exact .inl (.inl (x _ _ n h))
  · exact .inl (.inr ⟨o, x _ _ n h⟩)
  · exact .inr h
theorem Bowl.ne {a p : Addr} {H : Hp} (B : Bowl H a) (n : H p = none) : p ≠ a := by
  rintro rfl
  obtain ⟨g, s, k, h⟩ := B
  rw [h] at n
  cases n
theorem Bowl.free {a p : Addr} {H H' : Hp} (B : Bowl H' a) (x : Frm a H H') (n : H' p = none) : H p = none := by
  obtain ⟨g, s, k, h⟩ := B
  exact x.free h n
theorem same_frm {a : Addr} {H H1 H' : Hp} (x : Same H H1) (y : Frm a H1 H') : Frm a H H' := (same_frame x).trans y
theorem frm_raw {a b : Addr} {H H' : Hp} {o : HO} (y : Frm a H H') (n : b ≠ a) (h : H b = some o) : H' b = some o := y _ _ n h
theorem frm_tup {a b : Addr} {H H' : Hp} {o : HO} (y : Frm a H H') (B : Bowl H a) (h : H b = some o) (n : ∀ xs, o ≠ .lst xs) : H' b = some o := by
  obtain ⟨g, s, k, e⟩ := B
  exact y.sol e b o h n
/-! bits -/
def Bt (n : Nat) (x : Int) : Prop := x.natAbs < 2 ^ n
theorem Bt.mono {n m : Nat} {x : Int} (h : Bt n x) (l : n ≤ m) : Bt m x := Nat.lt_of_lt_of_le h (Nat.pow_le_pow_right (by decide) l)
theorem bt_lit {n : Nat} {x : Int} (h : x.natAbs < 2 ^ n) : Bt n x := h
theorem bt_neg {n : Nat} {x : Int} (h : Bt n x) : Bt n (-x) := by
  unfold Bt at *
  rwa [Int.natAbs_neg]
theorem bt_add {n m : Nat} {x y : Int} (h : Bt n x) (k : Bt m y) : Bt (n + m + 1) (x + y) := by
  have h1 := h.mono (Nat.le_add_right n m)
  have h2 := k.mono (Nat.le_add_left m n)
  unfold Bt at *
  have := Int.natAbs_add_le x y
  rw [Nat.pow_succ]
  omega
theorem bt_sub {n m : Nat} {x y : Int} (h : Bt n x) (k : Bt m y) : Bt (n + m + 1) (x - y) := by
  rw [Int.sub_eq_add_neg]
  exact bt_add h (bt_neg k)
theorem bt_addm {n : Nat} {x y : Int} (h : Bt n x) (k : Bt n y) : Bt (n + 1) (x + y) := by
  unfold Bt at *
  have := Int.natAbs_add_le x y
  rw [Nat.pow_succ]
  omega
theorem bt_subm {n : Nat} {x y : Int} (h : Bt n x) (k : Bt n y) : Bt (n + 1) (x - y) := by
  rw [Int.sub_eq_add_neg]
  exact bt_addm h (bt_neg k)
theorem bt_mul {n m : Nat} {x y : Int} (h : Bt n x) (k : Bt m y) : Bt (n + m) (x * y) := by
  unfold Bt at *
  rw [Int.natAbs_mul, Nat.pow_add]
  exact Nat.mul_lt_mul'' h k
theorem bt_div {n : Nat} {x y : Int} (h : Bt n x) : Bt (n + 1) (x / y) := by
  unfold Bt at *
  have e : (2 : Nat) ^ (n + 1) = 2 ^ n * 2 := Nat.pow_succ ..
  have hp : 0 < 2 ^ n := Nat.pow_pos (by decide)
  rcases Int.lt_trichotomy y 0 with q | q | q
  · have e2 : x / y = -(x / -y) := by rw [Int.ediv_neg, Int.neg_neg]
    rw [e2, Int.natAbs_neg]
    rcases Int.le_total 0 x with p | p
    · have := Int.ediv_le_self (-y) p
      have := Int.ediv_nonneg p (show 0 ≤ -y by omega)
      omega
    · have h1 : x ≤ x / -y := Int.le_ediv_of_mul_le (by omega) (by
        have := Int.mul_le_mul_of_nonpos_left p (show 1 ≤ -y by omega)
        omega)
      have h2 : x / -y ≤ 0 := Int.ediv_nonpos_of_nonpos_of_neg p (by omega)
      omega
  · subst q
    rw [Int.ediv_zero]
    show 0 < _
    exact Nat.pow_pos (by decide)
  · rcases Int.le_total 0 x with p | p
    · have := Int.ediv_le_self y p
      have := Int.ediv_nonneg p (show 0 ≤ y by omega)
      omega
    · have h1 : x ≤ x / y := Int.le_ediv_of_mul_le q (by
        have := Int.mul_le_mul_of_nonpos_left p (show 1 ≤ y by omega)
        omega)
      have h2 : x / y ≤ 0 := Int.ediv_nonpos_of_nonpos_of_neg p (by omega)
      omega
theorem bt_mod {n : Nat} {x y : Int} (h : 0 < y) (k : Bt n y) : Bt n (x % y) := by
  unfold Bt at *
  have := Int.emod_lt_of_pos x h
  have := Int.emod_nonneg x (show y ≠ 0 by omega)
  omega
theorem bt_le {n : Nat} {x y : Int} (h : 0 ≤ x) (l : x ≤ y) (k : Bt n y) : Bt n x := by
  unfold Bt at *
  omega
theorem bt_mulW {n m : Nat} {x y : Int} (h : Bt n x) (k : Bt m y) (l : n + m ≤ 900000) : CMulW x y :=
  wide_mul (h.mono (Nat.le_succ n)) (k.mono (Nat.le_succ m)) (Nat.succ_pos _) (Nat.succ_pos _) (by omega)
theorem bt_divW {n : Nat} {x y : Int} (p : 0 < y) (k : Bt n y) (l : n ≤ 8000) : CDivW x y := wide_div p (k.mono (Nat.le_succ n)) (Nat.succ_pos _) (by omega)
theorem bt_divP {n : Nat} {x y : Int} (p : 0 < y) (k : Bt n y) (l : n ≤ 8000) : CDivP x y := divp_wide (bt_divW p k l)
theorem bt10 {n : Nat} {x : Int} (h : -(10 ^ 60) < x) (k : x < 10 ^ 60) (l : 200 ≤ n) : Bt n x := by
  refine Bt.mono (n := 200) ?_ l
  unfold Bt
  have : (10 : Nat) ^ 60 < 2 ^ 200 := by decide +kernel
  omega
end Tc
namespace Tc
open PySem PySem.Spec PyProof.Rows L2
theorem same_snoc {H H1 H2 : Hp} (b : Same H1 H2) (a : Same H H1) : Same H H2 := Same.trans a b
theorem bowl_ne {a p : Addr} {H : Hp} (n : H p = none) (B : Bowl H a) : p ≠ a := B.ne n
end Tc
namespace Tc
open PySem PySem.Spec PyProof.Rows L2
/-- a word's end: what stands in it is not opened by itself -/
structure Stop (p : Prop) : Prop where
  h : p
theorem pass_body {W : Nat → L2.St → Hp → Prop} {m : Nat} {B : (L2.St → Hp → Prop) → Prop} (h : B (fun σ' H' => Stop (∃ m', m' < m ∧ W m' σ' H'))) : ∃ N : L2.St → Hp → Prop, (∀ σ' H', N σ' H' → ∃ m', m' < m ∧ W m' σ' H') ∧ B N :=
  ⟨fun σ' H' => Stop (∃ m', m' < m ∧ W m' σ' H'), fun _ _ z => z.h, h⟩
end Tc
namespace Tc
open PySem PySem.Spec PyProof.Rows L2
theorem tyV_lst {K : PySem.W.Frag} {H : Hp} {p : Addr} {xs : List V} (h : H p = some (.lst xs)) : tyV K "list" (.ref p) H := .inl ⟨rfl, xs, SqL.of h⟩
end Tc
namespace Tc
open PySem PySem.Spec PyProof.Rows L2
theorem sqL_K {K K' : PySem.W.Frag} {H : Hp} {a : Addr} {xs : List V} (h : SqL K H a xs) (e : K = K') : SqL K' H a xs := e ▸ h
theorem sqT_K {K K' : PySem.W.Frag} {H : Hp} {a : Addr} {xs : List V} (h : SqT K H a xs) (e : K = K') : SqT K' H a xs := e ▸ h
theorem frm_sqL {K : PySem.W.Frag} {a b : Addr} {H H' : Hp} {xs : List V} (y : Frm a H H') (n : b ≠ a) (h : SqL K H b xs) : SqL K H' b xs := y.seq n h
end Tc
namespace Tc
open PySem PySem.Spec PyProof.Rows L2
theorem free_frm {a p : Addr} {H H' : Hp} (n : H' p = none) (B : Bowl H' a) (x : Frm a H H') : H p = none := B.free x n
theorem free_same {p : Addr} {H H' : Hp} (n : H' p = none) (x : Same H H') : H p = none := x.free n
end Tc
namespace Tc
open PySem PySem.Spec PyProof.Rows L2
theorem eqv_l3 {x y z x' y' z' : Int} (h1 : x = x') (h2 : y = y') (h3 : z = z') : PyData.eqv (.list [.int x, .int y, .int z]) (.list [.int x', .int y', .int z']) = true := by
  subst h1 h2 h3
  exact eqv_self (shp_lst [x, y, z])
end Tc
namespace Tc
open PySem PySem.Spec PyProof.Rows L2
theorem ne_l3 {x y z x' y' z' : Int} (h1 : x = x') (h2 : y = y') (h3 : z = z') : (!PyData.eqv (.list [.int x, .int y, .int z]) (.list [.int x', .int y', .int z'])) = false := by
  rw [eqv_l3 h1 h2 h3]
  rfl
theorem ne_ii {x y : Int} (h : x = y) : (!decide (V.int x = V.int y)) = false := by
  subst h
  rw [decide_eq_true rfl]
  rfl
end Tc
namespace Tc
open PySem PySem.Spec PyProof.Rows L2
/-- what the bowl's holder did not know is all that changed -/
theorem same_frm_back {a : Addr} {H H1 H' : Hp} (h : H a = none) (s : Same H H1) (f : Frm a H1 H') : Same H H' := fun b o e => f b o (by
  rintro rfl
  rw [h] at e
  cases e) (s b o e)
end Tc
namespace Tc
open PySem PySem.Spec PyProof.Rows L2
def dxOf (H : Hp) (p : Addr) : Addr := match H p with
  | some (.ins _ d _) => d
  | _ => p
def fsOf (H : Hp) (p : Addr) : List (Str × V) := match H p with
  | some (.ins _ _ f) => f
  | _ => []
theorem ins_raw {C : Addr} {H : Hp} {p : Addr} (h : ∃ dx fs, H p = some (.ins C dx fs)) : H p = some (.ins C (dxOf H p) (fsOf H p)) := by
  obtain ⟨dx, fs, h⟩ := h
  unfold dxOf fsOf
  rw [h]
end Tc

/-! The mathematics of Euclid's ladders, in plain Lean. -/
namespace Tm
/-- Euclid's steps, with fuel: quotients and divisors -/
def euc : Nat → Int → Int → List (Int × Int)
  | 0, _, _ => []
  | n + 1, a, b => if 0 < b then (a / b, b) :: euc n b (a % b) else []
def eucl (a b : Int) : List (Int × Int) := euc (b.toNat + 1) a b
theorem euc_enough : ∀ (n m : Nat) (a b : Int), b.toNat < n → b.toNat < m → euc n a b = euc m a b
  | 0, _, _, _, h, _ => absurd h (Nat.not_lt_zero _)
  | _ + 1, 0, _, _, _, h => absurd h (Nat.not_lt_zero _)
  | n + 1, m + 1, a, b, h1, h2 => by
    unfold euc
    by_cases hb : 0 < b
    · rw [if_pos hb, if_pos hb]
      have h3 := Int.emod_lt_of_pos a hb
      have h4 := Int.emod_nonneg a (show b ≠ 0 by omega)
      rw [euc_enough n m b (a % b) (by omega) (by omega)]
    · rw [if_neg hb, if_neg hb]
theorem eucl_pos {a b : Int} (h : 0 < b) : eucl a b = (a / b, b) :: eucl b (a % b) := by
  have h3 := Int.emod_lt_of_pos a h
  have h4 := Int.emod_nonneg a (show b ≠ 0 by omega)
  have e : eucl a b = if 0 < b then (a / b, b) :: euc b.toNat b (a % b) else [] := rfl
  rw [e, if_pos h]
  unfold eucl
  rw [euc_enough b.toNat ((a % b).toNat + 1) b (a % b) (by omega) (by omega)]
theorem eucl_nil {a b : Int} (h : ¬ 0 < b) : eucl a b = [] := by
  have e : eucl a b = if 0 < b then (a / b, b) :: euc b.toNat b (a % b) else [] := rfl
  rw [e, if_neg h]
def quos (a b : Int) : List Int := (eucl a b).map (·.1)
def rems (a b : Int) : List Int := (eucl a b).map (·.2)
theorem quos_pos {a b : Int} (h : 0 < b) : quos a b = (a / b) :: quos b (a % b) := by unfold quos; rw [eucl_pos h]; rfl
theorem rems_pos {a b : Int} (h : 0 < b) : rems a b = b :: rems b (a % b) := by unfold rems; rw [eucl_pos h]; rfl
theorem quos_nil {a b : Int} (h : ¬ 0 < b) : quos a b = [] := by unfold quos; rw [eucl_nil h]; rfl
theorem rems_nil {a b : Int} (h : ¬ 0 < b) : rems a b = [] := by unfold rems; rw [eucl_nil h]; rfl
theorem quos_ne {a b : Int} (h : 0 < b) : quos a b ≠ [] := by rw [quos_pos h]; exact List.cons_ne_nil _ _
theorem rems_ne {a b : Int} (h : 0 < b) : rems a b ≠ [] := by rw [rems_pos h]; exact List.cons_ne_nil _ _
theorem quos_rems_len (a b : Int) : (quos a b).length = (rems a b).length := by unfold quos rems; rw [List.length_map, List.length_map]
theorem eucl_len : ∀ (k : Nat) (a b : Int), b < 2 ^ k → (eucl a b).length ≤ 2 * k
  | 0, a, b, h => by
    rw [eucl_nil (by
      have : (2 : Int) ^ 0 = 1 := rfl
      omega)]
    exact Nat.zero_le _
  | k + 1, a, b, h => by
    have e2 : (2 : Int) ^ (k + 1) = 2 ^ k * 2 := Int.pow_succ 2 k
    by_cases hb : 0 < b
    · rw [eucl_pos hb, List.length_cons]
      have h3 := Int.emod_lt_of_pos a hb
      by_cases hr : 0 < a % b
      · rw [eucl_pos hr, List.length_cons]
        have h5 := Int.emod_lt_of_pos b hr
        have h6 := Int.mul_ediv_add_emod b (a % b)
        have h7 : 1 ≤ b / (a % b) := Int.le_ediv_of_mul_le hr (by omega)
        have h8 : (a % b) * 1 ≤ (a % b) * (b / (a % b)) := Int.mul_le_mul_of_nonneg_left h7 (by omega)
        have := eucl_len k (a % b) (b % (a % b)) (by omega)
        omega
      · rw [eucl_nil hr]
        simp only [List.length_nil]
        omega
    · rw [eucl_nil hb]
      exact Nat.zero_le _
theorem quos_len {k : Nat} {a b : Int} (h : b < 2 ^ k) : (quos a b).length ≤ 2 * k := by unfold quos; rw [List.length_map]; exact eucl_len k a b h
theorem rems_len {k : Nat} {a b : Int} (h : b < 2 ^ k) : (rems a b).length ≤ 2 * k := by unfold rems; rw [List.length_map]; exact eucl_len k a b h
theorem quos_small (B : Nat) : ∀ (n : Nat) (a b : Int), b.toNat ≤ n → a.natAbs < B → b.natAbs < B → ∀ q ∈ quos a b, q.natAbs < B
  | 0, a, b, h, _, _ => by
    rw [quos_nil (by omega)]
    intro q hq
    cases hq
  | n + 1, a, b, h, h1, h2 => by
    by_cases hb : 0 < b
    · rw [quos_pos hb]
      intro q hq
      have h3 := Int.emod_lt_of_pos a hb
      have h4 := Int.emod_nonneg a (show b ≠ 0 by omega)
      cases hq with
      | head => exact Nat.lt_of_le_of_lt (Int.natAbs_ediv_le_natAbs a b) h1
      | tail _ hq => exact quos_small B n b (a % b) (by omega) h2 (by omega) q hq
    · rw [quos_nil hb]
      intro q hq
      cases hq
theorem rems_pos_all : ∀ (n : Nat) (a b : Int), b.toNat ≤ n → ∀ r ∈ rems a b, 0 < r
  | 0, a, b, h => by
    rw [rems_nil (by omega)]
    intro q hq
    cases hq
  | n + 1, a, b, h => by
    by_cases hb : 0 < b
    · rw [rems_pos hb]
      intro q hq
      have h3 := Int.emod_lt_of_pos a hb
      have h4 := Int.emod_nonneg a (show b ≠ 0 by omega)
      cases hq with
      | head => exact hb
      | tail _ hq => exact rems_pos_all n b (a % b) (by omega) q hq
    · rw [rems_nil hb]
      intro q hq
      cases hq
/-- convergents behind the two in front -/
def conv : (Int × Int) → (Int × Int) → List Int → List (Int × Int)
  | _, _, [] => []
  | p, l, q :: qs => (q * l.1 + p.1, q * l.2 + p.2) :: conv l (q * l.1 + p.1, q * l.2 + p.2) qs
def convs (qs : List Int) : List (Int × Int) := conv (0, 1) (1, 0) qs
theorem conv_len : ∀ (qs : List Int) (p l : Int × Int), (conv p l qs).length = qs.length
  | [], _, _ => rfl
  | q :: qs, p, l => by
    show (conv l _ qs).length + 1 = qs.length + 1
    rw [conv_len qs]
theorem convs_len (qs : List Int) : (convs qs).length = qs.length := conv_len qs _ _
/-- the last two, with those in front -/
def last2 : (Int × Int) → (Int × Int) → List Int → (Int × Int) × (Int × Int)
  | p, l, [] => (p, l)
  | _, l, _ :: [] => (l, l)
  | _, l, _ :: _ :: _ => (l, l)
/-- the pair (the one in front of the last, the last) behind all quotients -/
def fin : (Int × Int) → (Int × Int) → List Int → (Int × Int) × (Int × Int)
  | p, l, [] => (p, l)
  | p, l, q :: qs => fin l (q * l.1 + p.1, q * l.2 + p.2) qs
theorem conv_fin : ∀ (qs : List Int) (p l : Int × Int), (p :: l :: conv p l qs)[qs.length]? = some (fin p l qs).1 ∧ (p :: l :: conv p l qs)[qs.length + 1]? = some (fin p l qs).2
  | [], _, _ => ⟨rfl, rfl⟩
  | q :: qs, p, l => by
    have ih := conv_fin qs l (q * l.1 + p.1, q * l.2 + p.2)
    exact ih
/-- what Euclid keeps -/
theorem fin_keeps : ∀ (n : Nat) (a b : Int) (p l : Int × Int), b.toNat ≤ n → 0 < b → ∃ g : Int, (rems a b).getLast? = some g ∧ 0 < g ∧
    (fin p l (quos a b)).2.1 * g = l.1 * a + p.1 * b ∧ (fin p l (quos a b)).2.2 * g = l.2 * a + p.2 * b
  | 0, a, b, p, l, h, hb => by omega
  | n + 1, a, b, p, l, h, hb => by
    rw [quos_pos hb, rems_pos hb]
    have h3 := Int.emod_lt_of_pos a hb
    have h4 := Int.emod_nonneg a (show b ≠ 0 by omega)
    have h5 : b * (a / b) + a % b = a := Int.mul_ediv_add_emod a b
    by_cases hr : 0 < a % b
    · obtain ⟨g, e1, e2, e3, e4⟩ := fin_keeps n b (a % b) l (a / b * l.1 + p.1, a / b * l.2 + p.2) (by omega) hr
      refine ⟨g, ?_, e2, ?_, ?_⟩
      · rw [List.getLast?_cons, e1]
        rfl
      · show (fin l (a / b * l.1 + p.1, a / b * l.2 + p.2) (quos b (a % b))).2.1 * g = _
        rw [e3]
        show (a / b * l.1 + p.1) * b + l.1 * (a % b) = l.1 * a + p.1 * b
        conv => rhs; rw [← h5]
        rw [Int.add_mul, Int.mul_add, Int.mul_comm (a / b) l.1, Int.mul_assoc, Int.mul_comm (a / b) b]
        omega
      · show (fin l (a / b * l.1 + p.1, a / b * l.2 + p.2) (quos b (a % b))).2.2 * g = _
        rw [e4]
        show (a / b * l.2 + p.2) * b + l.2 * (a % b) = l.2 * a + p.2 * b
        conv => rhs; rw [← h5]
        rw [Int.add_mul, Int.mul_add, Int.mul_comm (a / b) l.2, Int.mul_assoc, Int.mul_comm (a / b) b]
        omega
    · have h0 : a % b = 0 := by omega
      rw [quos_nil hr, rems_nil hr]
      refine ⟨b, rfl, hb, ?_, ?_⟩
      · show (a / b * l.1 + p.1) * b = l.1 * a + p.1 * b
        conv => rhs; rw [← h5, h0]
        rw [Int.add_mul, Int.mul_add, Int.mul_comm (a / b) l.1, Int.mul_assoc, Int.mul_comm (a / b) b]
        omega
      · show (a / b * l.2 + p.2) * b = l.2 * a + p.2 * b
        conv => rhs; rw [← h5, h0]
        rw [Int.add_mul, Int.mul_add, Int.mul_comm (a / b) l.2, Int.mul_assoc, Int.mul_comm (a / b) b]
        omega
/-- neighbors' determinant -/
theorem fin_det : ∀ (qs : List Int) (p l : Int × Int), (fin p l qs).2.1 * (fin p l qs).1.2 - (fin p l qs).2.2 * (fin p l qs).1.1 = if qs.length % 2 = 0 then l.1 * p.2 - l.2 * p.1 else -(l.1 * p.2 - l.2 * p.1)
  | [], p, l => by simp [fin]
  | q :: qs, p, l => by
    have ih := fin_det qs l (q * l.1 + p.1, q * l.2 + p.2)
    show (fin l (q * l.1 + p.1, q * l.2 + p.2) qs).2.1 * (fin l (q * l.1 + p.1, q * l.2 + p.2) qs).1.2 - (fin l (q * l.1 + p.1, q * l.2 + p.2) qs).2.2 * (fin l (q * l.1 + p.1, q * l.2 + p.2) qs).1.1 = _
    rw [ih]
    have e : (q * l.1 + p.1) * l.2 - (q * l.2 + p.2) * l.1 = -(l.1 * p.2 - l.2 * p.1) := by
      have x1 : q * l.1 * l.2 = q * l.2 * l.1 := by rw [Int.mul_assoc, Int.mul_assoc, Int.mul_comm l.1 l.2]
      have x2 : p.1 * l.2 = l.2 * p.1 := Int.mul_comm _ _
      have x3 : p.2 * l.1 = l.1 * p.2 := Int.mul_comm _ _
      rw [Int.add_mul, Int.add_mul]
      omega
    show (if qs.length % 2 = 0 then (q * l.1 + p.1) * l.2 - (q * l.2 + p.2) * l.1 else -((q * l.1 + p.1) * l.2 - (q * l.2 + p.2) * l.1)) = _
    rw [e]
    have hl : (q :: qs).length = qs.length + 1 := rfl
    rw [hl]
    by_cases hp : qs.length % 2 = 0
    · rw [if_pos hp, if_neg (by omega)]
    · rw [if_neg hp, if_pos (by omega)]
      omega
end Tm

namespace Tm
theorem euc_scale (m : Int) (hm : 0 < m) : ∀ (n : Nat) (a b : Int), b.toNat ≤ n → eucl (a * m) (b * m) = (eucl a b).map (fun c => (c.1, m * c.2))
  | 0, a, b, h => by
    have hb : ¬ 0 < b := by omega
    have h2 : b * m ≤ 0 := Int.mul_nonpos_of_nonpos_of_nonneg (by omega) (by omega)
    rw [eucl_nil hb, eucl_nil (by omega)]
    rfl
  | n + 1, a, b, h => by
    by_cases hb : 0 < b
    · have h3 := Int.emod_lt_of_pos a hb
      have h4 := Int.emod_nonneg a (show b ≠ 0 by omega)
      have h5 : 0 < b * m := Int.mul_pos hb hm
      rw [eucl_pos hb, eucl_pos h5, Int.mul_ediv_mul_of_pos_left a b hm, show a * m % (b * m) = (a % b) * m by rw [Int.mul_comm a m, Int.mul_comm b m, Int.mul_emod_mul_of_pos _ _ hm, Int.mul_comm]]
      rw [euc_scale m hm n b (a % b) (by omega), List.map_cons, Int.mul_comm b m]
    · have h2 : b * m ≤ 0 := Int.mul_nonpos_of_nonpos_of_nonneg (by omega) (by omega)
      rw [eucl_nil hb, eucl_nil (by omega)]
      rfl
theorem quos_scale {m a b : Int} (hm : 0 < m) : quos (a * m) (b * m) = quos a b := by
  unfold quos
  rw [euc_scale m hm b.toNat a b (Nat.le_refl _), List.map_map]
  rfl
theorem rems_scale {m a b : Int} (hm : 0 < m) : rems (a * m) (b * m) = (rems a b).map (m * ·) := by
  unfold rems
  rw [euc_scale m hm b.toNat a b (Nat.le_refl _), List.map_map, List.map_map]
  rfl
/-- the last divisor: a = p g, b = q g, with p and q without a common factor -/
theorem last_rem {a b : Int} (hb : 0 < b) : ∃ g : Int, (rems a b).getLast? = some g ∧ 0 < g ∧ (fin (0, 1) (1, 0) (quos a b)).2.1 * g = a ∧ (fin (0, 1) (1, 0) (quos a b)).2.2 * g = b := by
  obtain ⟨g, h1, h2, h3, h4⟩ := fin_keeps b.toNat a b (0, 1) (1, 0) (Nat.le_refl _) hb
  refine ⟨g, h1, h2, ?_, ?_⟩
  · rw [h3]
    omega
  · rw [h4]
    omega
theorem det_ladder (a b : Int) : (fin (0, 1) (1, 0) (quos a b)).2.1 * (fin (0, 1) (1, 0) (quos a b)).1.2 - (fin (0, 1) (1, 0) (quos a b)).2.2 * (fin (0, 1) (1, 0) (quos a b)).1.1 = if (quos a b).length % 2 = 0 then 1 else -1 := by
  have h := fin_det (quos a b) (0, 1) (1, 0)
  rw [h]
  rfl
theorem last_is_gcd {a b g : Int} (hb : 0 < b) (h : (rems a b).getLast? = some g) : g = ((Nat.gcd a.natAbs b.natAbs : Nat) : Int) := by
  obtain ⟨g', h1, h2, h3, h4⟩ := last_rem (a := a) hb
  rw [h] at h1
  have e : g = g' := Option.some.inj h1
  subst e
  have d := det_ladder a b
  generalize (fin (0, 1) (1, 0) (quos a b)).2.1 = p at *
  generalize (fin (0, 1) (1, 0) (quos a b)).2.2 = q at *
  generalize (fin (0, 1) (1, 0) (quos a b)).1.1 = u at *
  generalize (fin (0, 1) (1, 0) (quos a b)).1.2 = v at *
  have ga : g.natAbs ∣ a.natAbs := Int.natAbs_dvd_natAbs.mpr ⟨p, by rw [← h3, Int.mul_comm]⟩
  have gb : g.natAbs ∣ b.natAbs := Int.natAbs_dvd_natAbs.mpr ⟨q, by rw [← h4, Int.mul_comm]⟩
  have g1 : g.natAbs ∣ Nat.gcd a.natAbs b.natAbs := Nat.dvd_gcd ga gb
  have k1 : ((Nat.gcd a.natAbs b.natAbs : Nat) : Int) ∣ a := Int.natAbs_dvd_natAbs.mp (Nat.gcd_dvd_left _ _)
  have k2 : ((Nat.gcd a.natAbs b.natAbs : Nat) : Int) ∣ b := Int.natAbs_dvd_natAbs.mp (Nat.gcd_dvd_right _ _)
  have k3 : ((Nat.gcd a.natAbs b.natAbs : Nat) : Int) ∣ a * v - b * u := Int.dvd_sub (Int.dvd_mul_of_dvd_left k1) (Int.dvd_mul_of_dvd_left k2)
  have e2 : a * v - b * u = g * (p * v - q * u) := by
    rw [← h3, ← h4, Int.mul_sub]
    have x1 : p * g * v = g * (p * v) := by rw [Int.mul_comm p g, Int.mul_assoc]
    have x2 : q * g * u = g * (q * u) := by rw [Int.mul_comm q g, Int.mul_assoc]
    rw [x1, x2]
  have k4 : ((Nat.gcd a.natAbs b.natAbs : Nat) : Int) ∣ g := by
    rw [e2, d] at k3
    split at k3
    · rwa [Int.mul_one] at k3
    · rw [Int.mul_neg, Int.mul_one] at k3
      exact (Int.dvd_neg).mp k3
  have k5 : Nat.gcd a.natAbs b.natAbs ∣ g.natAbs := Int.natAbs_dvd_natAbs.mpr k4
  have k6 := Nat.dvd_antisymm g1 k5
  omega
/-- sizes of the last two lower numbers -/
theorem fin_low : ∀ (n : Nat) (a b : Int) (p l : Int × Int), b.toNat ≤ n → 0 < b → b ≤ a → 0 ≤ p.2 → 1 ≤ l.2 → 1 ≤ (fin p l (quos a b)).1.2 ∧ (fin p l (quos a b)).1.2 ≤ (fin p l (quos a b)).2.2
  | 0, a, b, p, l, h, hb, _, _, _ => by omega
  | n + 1, a, b, p, l, h, hb, hab, hp, hl => by
    rw [quos_pos hb]
    have h3 := Int.emod_lt_of_pos a hb
    have h4 := Int.emod_nonneg a (show b ≠ 0 by omega)
    have h7 : 1 ≤ a / b := Int.le_ediv_of_mul_le hb (by omega)
    have h8 : 1 * l.2 ≤ a / b * l.2 := Int.mul_le_mul_of_nonneg_right h7 (by omega)
    by_cases hr : 0 < a % b
    · exact fin_low n b (a % b) l (a / b * l.1 + p.1, a / b * l.2 + p.2) (by omega) hr (by omega) (by omega) (by show 1 ≤ a / b * l.2 + p.2; omega)
    · rw [quos_nil hr]
      show 1 ≤ l.2 ∧ l.2 ≤ a / b * l.2 + p.2
      omega
/-- the two behind all quotients as places among the convergents -/
theorem convs_last2 {qs : List Int} {n : Nat} (h : qs.length = n + 2) : (convs qs)[n]? = some (fin (0, 1) (1, 0) qs).1 ∧ (convs qs)[n + 1]? = some (fin (0, 1) (1, 0) qs).2 := by
  have e := conv_fin qs (0, 1) (1, 0)
  rw [h] at e
  exact e
theorem quos_one {a b : Int} (hb : 0 < b) (h : (quos a b).length = 1) : ¬ 0 < a % b := by
  intro hr
  rw [quos_pos hb, quos_pos hr] at h
  simp at h
/-- the inverse is right -/
theorem inverse_right {a b : Int} (hb : 0 < b) (hg : (rems a b).getLast? = some 1) (inv : Int)
    (hi : inv = if (convs (quos a b)).length = 1 then 0 else if (convs (quos a b)).length % 2 = 0 then ((convs (quos a b))[(convs (quos a b)).length - 2]?.getD (0, 0)).2 else b - ((convs (quos a b))[(convs (quos a b)).length - 2]?.getD (0, 0)).2) :
    0 ≤ inv ∧ inv < b ∧ b ∣ a * inv - 1 := by
  rw [convs_len] at hi
  obtain ⟨g, h1, h2, h3, h4⟩ := last_rem (a := a) hb
  rw [hg] at h1
  have e : g = 1 := (Option.some.inj h1).symm
  subst e
  rw [Int.mul_one] at h3 h4
  by_cases hl : (quos a b).length = 1
  · rw [if_pos hl] at hi
    have hr := quos_one hb hl
    rw [rems_pos hb, rems_nil hr] at hg
    have e : b = 1 := Option.some.inj hg
    subst e
    subst hi
    exact ⟨Int.le_refl _, by decide, Int.one_dvd _⟩
  · have hne := quos_ne (a := a) hb
    obtain ⟨n, hn⟩ : ∃ n, (quos a b).length = n + 2 := by
      cases e : (quos a b).length with
      | zero => exact absurd (List.eq_nil_of_length_eq_zero e) hne
      | succ k =>
        cases k with
        | zero => exact absurd e hl
        | succ j => exact ⟨j, rfl⟩
    obtain ⟨l1, l2⟩ := convs_last2 hn
    have hr : 0 < a % b := by
      rcases Int.lt_or_le 0 (a % b) with h | h
      · exact h
      · exfalso
        apply hl
        rw [quos_pos hb, quos_nil (by omega)]
        rfl
    have h5 := Int.emod_lt_of_pos a hb
    have low := fin_low (a % b).toNat b (a % b) (1, 0) (a / b * 1 + 0, a / b * 0 + 1) (Nat.le_refl _) hr (by omega) (Int.le_refl _) (by show 1 ≤ a / b * 0 + 1; omega)
    have ef : fin (0, 1) (1, 0) (quos a b) = fin (1, 0) (a / b * 1 + 0, a / b * 0 + 1) (quos b (a % b)) := by
      rw [quos_pos hb]
      rfl
    rw [← ef, h4] at low
    have d := det_ladder a b
    rw [h3, h4] at d
    rw [if_neg hl, hn, show n + 2 - 2 = n by omega, l1] at hi
    rw [hn] at d
    have hi' : inv = if (n + 2) % 2 = 0 then (fin (0, 1) (1, 0) (quos a b)).1.2 else b - (fin (0, 1) (1, 0) (quos a b)).1.2 := hi
    generalize (fin (0, 1) (1, 0) (quos a b)).1.1 = u at *
    generalize (fin (0, 1) (1, 0) (quos a b)).1.2 = v at *
    by_cases hp : (n + 2) % 2 = 0
    · rw [if_pos hp] at hi' d
      subst hi'
      refine ⟨by omega, ?_, ⟨u, by omega⟩⟩
      rcases Int.lt_or_le inv b with h | h
      · exact h
      · exfalso
        have e : inv = b := by omega
        subst e
        have h6 : inv * (a - u) = 1 := by
          rw [Int.mul_sub, Int.mul_comm inv a]
          exact d
        have h7 : inv ∣ 1 := ⟨a - u, h6.symm⟩
        have h8 : inv = 1 := Int.eq_one_of_dvd_one (by omega) h7
        rw [h8] at hr
        have := Int.emod_one a
        omega
    · rw [if_neg hp] at hi' d
      subst hi'
      refine ⟨by omega, by omega, ⟨a - u, ?_⟩⟩
      rw [Int.mul_sub, Int.mul_sub, Int.mul_comm a b]
      omega
/-- no inverse with a common factor -/
theorem no_inverse {a b g x : Int} (hb : 0 < b) (hg : (rems a b).getLast? = some g) (h : b ∣ a * x - 1) : g = 1 := by
  obtain ⟨g', h1, h2, h3, h4⟩ := last_rem (a := a) hb
  rw [hg] at h1
  have e : g = g' := Option.some.inj h1
  subst e
  have d1 : g ∣ b := ⟨_, by rw [Int.mul_comm]; exact h4.symm⟩
  have d2 : g ∣ a := ⟨_, by rw [Int.mul_comm]; exact h3.symm⟩
  have d3 : g ∣ a * x - 1 := Int.dvd_trans d1 h
  have d4 : g ∣ a * x := Int.dvd_mul_of_dvd_left d2
  have d5 : g ∣ a * x - (a * x - 1) := Int.dvd_sub d4 d3
  rw [show a * x - (a * x - 1) = 1 by omega] at d5
  exact Int.eq_one_of_dvd_one (by omega) d5
theorem inverse_unique {a b x y : Int} (hb : 0 < b) (hx : b ∣ a * x - 1) (hy : b ∣ a * y - 1) (x0 : 0 ≤ x) (x1 : x < b) (y0 : 0 ≤ y) (y1 : y < b) : x = y := by
  have d1 : b ∣ a * (x - y) := by
    have := Int.dvd_sub hx hy
    rw [Int.mul_sub]
    rwa [show a * x - 1 - (a * y - 1) = a * x - a * y by omega] at this
  have d2 : b ∣ x * (a * (x - y)) := Int.dvd_mul_of_dvd_right d1
  have d3 : b ∣ (a * x - 1) * (x - y) := Int.dvd_mul_of_dvd_left hx
  have d4 : b ∣ x * (a * (x - y)) - (a * x - 1) * (x - y) := Int.dvd_sub d2 d3
  have e : x * (a * (x - y)) - (a * x - 1) * (x - y) = x - y := by
    rw [Int.sub_mul, ← Int.mul_assoc, Int.mul_comm x a, Int.one_mul]
    omega
  rw [e] at d4
  rcases Int.lt_trichotomy x y with h | h | h
  · exfalso
    have := Int.le_of_dvd (show 0 < y - x by omega) (by rw [show y - x = -(x - y) by omega]; exact Int.dvd_neg.mpr d4)
    omega
  · exact h
  · exfalso
    have := Int.le_of_dvd (show 0 < x - y by omega) d4
    omega
end Tm

namespace Tm
/-- 1, 2, 3, 5, 8, .. : this one and the next -/
def fg : Nat → Nat → Nat → Nat × Nat
  | 0, x, y => (x, y)
  | n + 1, x, y => fg n y (x + y)
def fib2 (n : Nat) : Int := ((fg n 1 2).1 : Int)
theorem fg_next : ∀ (n x y : Nat), fg (n + 1) x y = ((fg n x y).2, (fg n x y).1 + (fg n x y).2)
  | 0, _, _ => rfl
  | n + 1, x, y => fg_next n y (x + y)
theorem fib2_next (n : Nat) : fib2 (n + 2) = fib2 n + fib2 (n + 1) := by
  unfold fib2
  rw [fg_next (n + 1), fg_next n]
  simp
theorem fib2_0 : fib2 0 = 1 := rfl
theorem fib2_1 : fib2 1 = 2 := rfl
theorem fib2_pos : ∀ n : Nat, 1 ≤ fib2 n ∧ fib2 n < fib2 (n + 1)
  | 0 => by decide
  | n + 1 => by
    have h := fib2_pos n
    have e : fib2 (n + 1 + 1) = fib2 n + fib2 (n + 1) := fib2_next n
    omega
theorem fib2_mono : ∀ {m n : Nat}, m ≤ n → fib2 m ≤ fib2 n
  | m, 0, h => by
    have : m = 0 := by omega
    subst this
    exact Int.le_refl _
  | m, n + 1, h => by
    rcases Nat.lt_or_ge n m with h1 | h1
    · have : m = n + 1 := by omega
      subst this
      exact Int.le_refl _
    · exact Int.le_trans (fib2_mono h1) (Int.le_of_lt (fib2_pos n).2)
theorem fib2_270 : fib2 270 < 10 ^ 59 := by decide +kernel
theorem fib2_290 : 10 ^ 59 ≤ fib2 290 := by decide +kernel
theorem fib2_290b : fib2 290 < 10 ^ 60 * 1000 := by decide +kernel
theorem quos_fib : ∀ c : Nat, quos (fib2 (c + 1)) (fib2 c) = List.replicate c 1 ++ [2]
  | 0 => by
    rw [fib2_0, fib2_1]
    rfl
  | c + 1 => by
    have h := fib2_pos c
    have h1 := fib2_pos (c + 1)
    have e := fib2_next c
    rw [quos_pos (by omega), e]
    have d : (fib2 c + fib2 (c + 1)) / fib2 (c + 1) = 1 := by
      rw [Int.add_ediv_of_dvd_right (Int.dvd_refl _), Int.ediv_self (by omega), Int.ediv_eq_zero_of_lt (by omega) h.2]
      rfl
    have m : (fib2 c + fib2 (c + 1)) % fib2 (c + 1) = fib2 c := by
      rw [Int.add_emod_right, Int.emod_eq_of_lt (by omega) h.2]
    rw [d, m, quos_fib c]
    rfl
theorem quos_fib' (c : Nat) : quos (fib2 c) (fib2 (c + 1)) = 0 :: (List.replicate c 1 ++ [2]) := by
  have h := fib2_pos c
  rw [quos_pos (by omega), Int.ediv_eq_zero_of_lt (by omega) h.2, Int.emod_eq_of_lt (by omega) h.2, quos_fib c]
/-- what the law goes through: x below j with b dividing a x - 1 -/
def due (a b : Int) (j : Nat) : List Int := ((List.range j).filter (fun x : Nat => decide ((a * (0 + (x : Int)) - 1) % b = 0))).map (fun x : Nat => 0 + (x : Int))
theorem due_yes {a b : Int} {j : Nat} (h : (a * (0 + (j : Int)) - 1) % b = 0) : due a b (j + 1) = due a b j ++ [0 + (j : Int)] := by
  unfold due
  rw [List.range_succ, List.filter_append, List.map_append, List.filter_cons, if_pos (by rw [decide_eq_true h])]
  rfl
theorem due_no {a b : Int} {j : Nat} (h : ¬ (a * (0 + (j : Int)) - 1) % b = 0) : due a b (j + 1) = due a b j := by
  unfold due
  rw [List.range_succ, List.filter_append, List.map_append, List.filter_cons, if_neg (by rw [decide_eq_false h]; decide)]
  exact List.append_nil _
theorem due_len (a b : Int) (j : Nat) : (due a b j).length ≤ j := by
  unfold due
  rw [List.length_map]
  have h := List.length_filter_le (fun x : Nat => decide ((a * (0 + (x : Int)) - 1) % b = 0)) (List.range j)
  rw [List.length_range] at h
  exact h
theorem filter_none {p : Nat → Bool} : ∀ n : Nat, (∀ x, x < n → p x = false) → (List.range n).filter p = []
  | 0, _ => rfl
  | n + 1, h => by
    rw [List.range_succ, List.filter_append, filter_none n fun x hx => h x (by omega), List.filter_cons, if_neg (by rw [h n (by omega)]; decide)]
    rfl
theorem filter_one {p : Nat → Bool} : ∀ (n i : Nat), i < n → p i = true → (∀ x, x < n → x ≠ i → p x = false) → (List.range n).filter p = [i]
  | 0, i, h, _, _ => absurd h (Nat.not_lt_zero _)
  | n + 1, i, h, hi, ho => by
    rw [List.range_succ, List.filter_append]
    by_cases e : i = n
    · subst e
      rw [filter_none i fun x hx => ho x (by omega) (by omega), List.filter_cons, if_pos hi]
      rfl
    · rw [filter_one n i (by omega) hi fun x hx hne => ho x (by omega) hne, List.filter_cons, if_neg (by rw [ho n (by omega) (by omega)]; decide)]
      rfl
theorem due_none {a b g : Int} (hb : 0 < b) (hg : (rems a b).getLast? = some g) (h : g ≠ 1) : due a b b.toNat = [] := by
  unfold due
  rw [filter_none b.toNat fun x hx => decide_eq_false fun z => h (no_inverse (x := 0 + (x : Int)) hb hg (Int.dvd_of_emod_eq_zero z))]
  rfl
theorem due_one {a b x : Int} (hb : 0 < b) (x0 : 0 ≤ x) (x1 : x < b) (hx : b ∣ a * x - 1) : due a b b.toNat = [x] := by
  unfold due
  have e : (0 : Int) + ((x.toNat : Nat) : Int) = x := by omega
  rw [filter_one b.toNat x.toNat (by omega) (decide_eq_true (by rw [e]; exact Int.emod_eq_zero_of_dvd hx)) fun y hy hne => decide_eq_false fun z => hne ?_]
  · show [(0 : Int) + ((x.toNat : Nat) : Int)] = [x]
    rw [e]
  · have := inverse_unique hb (Int.dvd_of_emod_eq_zero z) hx (by omega) (by omega) x0 x1
    omega
end Tm

namespace Tm
theorem conv_nb : ∀ (i : Nat) (qs : List Int) (p l c d : Int × Int), (conv p l qs)[i]? = some c → (conv p l qs)[i + 1]? = some d → c.1 * d.2 - c.2 * d.1 = if i % 2 = 0 then -(l.1 * p.2 - l.2 * p.1) else l.1 * p.2 - l.2 * p.1
  | 0, [], _, _, _, _, h, _ => by simp [conv] at h
  | 0, [q], _, _, _, _, _, h => by simp [conv] at h
  | 0, q :: r :: qs, p, l, c, d, h1, h2 => by
    have e1 : (q * l.1 + p.1, q * l.2 + p.2) = c := Option.some.inj h1
    have e2 : (r * (q * l.1 + p.1) + l.1, r * (q * l.2 + p.2) + l.2) = d := Option.some.inj h2
    subst e1 e2
    show (q * l.1 + p.1) * (r * (q * l.2 + p.2) + l.2) - (q * l.2 + p.2) * (r * (q * l.1 + p.1) + l.1) = -(l.1 * p.2 - l.2 * p.1)
    generalize hX : q * l.1 + p.1 = X
    generalize hY : q * l.2 + p.2 = Y
    have z : X * (r * Y) = Y * (r * X) := by rw [Int.mul_left_comm, Int.mul_comm X Y, ← Int.mul_left_comm]
    have f : X * l.2 - Y * l.1 = -(l.1 * p.2 - l.2 * p.1) := by
      rw [← hX, ← hY, Int.add_mul, Int.add_mul]
      have x1 : q * l.1 * l.2 = q * l.2 * l.1 := by rw [Int.mul_assoc, Int.mul_assoc, Int.mul_comm l.1 l.2]
      have x2 : p.1 * l.2 = l.2 * p.1 := Int.mul_comm _ _
      have x3 : p.2 * l.1 = l.1 * p.2 := Int.mul_comm _ _
      omega
    rw [Int.mul_add, Int.mul_add]
    omega
  | i + 1, [], _, _, _, _, h, _ => by simp [conv] at h
  | i + 1, q :: qs, p, l, c, d, h1, h2 => by
    have ih := conv_nb i qs l (q * l.1 + p.1, q * l.2 + p.2) c d h1 h2
    rw [ih]
    have e : (q * l.1 + p.1) * l.2 - (q * l.2 + p.2) * l.1 = -(l.1 * p.2 - l.2 * p.1) := by
      have x1 : q * l.1 * l.2 = q * l.2 * l.1 := by rw [Int.mul_assoc, Int.mul_assoc, Int.mul_comm l.1 l.2]
      have x2 : p.1 * l.2 = l.2 * p.1 := Int.mul_comm _ _
      have x3 : p.2 * l.1 = l.1 * p.2 := Int.mul_comm _ _
      rw [Int.add_mul, Int.add_mul]
      omega
    show (if i % 2 = 0 then -((q * l.1 + p.1) * l.2 - (q * l.2 + p.2) * l.1) else (q * l.1 + p.1) * l.2 - (q * l.2 + p.2) * l.1) = _
    rw [e]
    by_cases h : i % 2 = 0
    · rw [if_pos h, if_neg (by omega)]
      omega
    · rw [if_neg h, if_pos (by omega)]
theorem convs_nb {i : Nat} {qs : List Int} {c d : Int × Int} (h1 : (convs qs)[i]? = some c) (h2 : (convs qs)[i + 1]? = some d) : c.1 * d.2 - c.2 * d.1 = if (i : Int) % 2 = 1 then 1 else -1 := by
  have h := conv_nb i qs (0, 1) (1, 0) c d h1 h2
  rw [h]
  by_cases e : i % 2 = 0
  · rw [if_pos e, if_neg (by omega)]
    rfl
  · rw [if_neg e, if_pos (by omega)]
    rfl
theorem convs_last {a b g : Int} (hb : 0 < b) (hg : (rems a b).getLast? = some g) : (convs (quos a b))[(convs (quos a b)).length - 1]? = some (a / g, b / g) := by
  obtain ⟨g', h1, h2, h3, h4⟩ := last_rem (a := a) hb
  rw [hg] at h1
  have e : g = g' := Option.some.inj h1
  subst e
  have hne := quos_ne (a := a) hb
  rw [convs_len]
  have hf := (conv_fin (quos a b) (0, 1) (1, 0)).2
  cases hq : quos a b with
  | nil => exact absurd hq hne
  | cons q qs =>
    rw [hq] at hf h3 h4
    have hf' : (convs (q :: qs))[qs.length]? = some (fin (0, 1) (1, 0) (q :: qs)).2 := hf
    show (convs (q :: qs))[qs.length]? = some (a / g, b / g)
    rw [hf', ← h3, ← h4, Int.mul_ediv_cancel _ (by omega), Int.mul_ediv_cancel _ (by omega)]
/-! shifting, exchanging -/
theorem quos_shift {a b t : Int} (hb : 0 < b) : quos (a + t * b) b = (a / b + t) :: quos b (a % b) := by
  rw [quos_pos hb, Int.add_mul_ediv_right _ _ (by omega), Int.add_mul_emod_self_right]
theorem rems_shift {a b t : Int} (hb : 0 < b) : rems (a + t * b) b = rems a b := by
  rw [rems_pos hb, rems_pos hb, Int.add_mul_emod_self_right]
theorem quos_less {a b : Int} (h0 : 0 ≤ a) (h : a < b) : quos a b = 0 :: quos b a := by
  rw [quos_pos (by omega), Int.ediv_eq_zero_of_lt h0 h, Int.emod_eq_of_lt h0 h]
theorem quos_same {a : Int} (h : 0 < a) : quos a a = [1] := by
  rw [quos_pos h, Int.ediv_self (by omega), Int.emod_self, quos_nil (by omega)]
theorem gcd_of_inverse {a b x : Int} (hb : 0 < b) (h : b ∣ a * x - 1) : Nat.gcd a.natAbs b.natAbs = 1 := by
  obtain ⟨g, h1, h2, _⟩ := last_rem (a := a) hb
  have e := no_inverse hb h1 h
  have e2 := last_is_gcd hb h1
  omega
theorem last_one {a b : Int} (hb : 0 < b) (h : Nat.gcd a.natAbs b.natAbs = 1) : (rems a b).getLast? = some 1 := by
  obtain ⟨g, h1, h2, _⟩ := last_rem (a := a) hb
  have e2 := last_is_gcd hb h1
  rw [h] at e2
  rw [h1, e2]
  rfl
/-- the rules of inverses -/
theorem dvd_emod_mul {a b x : Int} (h : b ∣ a * x - 1) : b ∣ (a % b) * x - 1 := by
  have e : (a % b) * x - 1 = a * x - 1 - b * (a / b * x) := by
    have := Int.mul_ediv_add_emod a b
    have e2 : a * x = (b * (a / b) + a % b) * x := by rw [this]
    rw [e2, Int.add_mul, Int.mul_assoc]
    omega
  rw [e]
  exact Int.dvd_sub h (Int.dvd_mul_right _ _)
theorem inv_inv {a b x : Int} (h : b ∣ a * x - 1) : b ∣ x * (a % b) - 1 := by
  rw [Int.mul_comm]
  exact dvd_emod_mul h
theorem inv_neg {a b x : Int} (h : b ∣ a * x - 1) : b ∣ (0 - a) * ((0 - x) % b) - 1 := by
  rw [Int.mul_comm]
  refine dvd_emod_mul ?_
  have e : (0 - x) * (0 - a) = a * x := by
    rw [Int.zero_sub, Int.zero_sub, Int.neg_mul_neg, Int.mul_comm]
  rw [e]
  exact h
theorem inv_mul {a c b x y : Int} (h1 : b ∣ a * x - 1) (h2 : b ∣ c * y - 1) : b ∣ a * c * ((x * y) % b) - 1 := by
  rw [Int.mul_comm]
  refine dvd_emod_mul ?_
  have e : x * y * (a * c) - 1 = (a * x - 1) * (c * y) + (c * y - 1) := by
    have z : x * y * (a * c) = a * x * (c * y) := by
      rw [Int.mul_comm a c, Int.mul_assoc, Int.mul_comm a x, Int.mul_assoc, ← Int.mul_assoc y c a, Int.mul_comm y c, Int.mul_comm (c * y) a]
    rw [z, Int.sub_mul, Int.one_mul]
    omega
  rw [e]
  exact Int.dvd_add (Int.dvd_mul_of_dvd_left h1) h2
end Tm

namespace Tm
/-- the second numbers of the last two convergents, step by step -/
def fsn : Int → Int → List Int → Int × Int
  | u, v, [] => (u, v)
  | u, v, q :: qs => fsn v (q * v + u) qs
theorem fin_fsn : ∀ (qs : List Int) (p l : Int × Int), ((fin p l qs).1.2, (fin p l qs).2.2) = fsn p.2 l.2 qs
  | [], _, _ => rfl
  | q :: qs, p, l => fin_fsn qs l (q * l.1 + p.1, q * l.2 + p.2)
theorem convs_below {qs : List Int} (h : 2 ≤ qs.length) : ((convs qs)[(convs qs).length - 2]?.getD (0, 0)).2 = (fsn 0 1 (qs.drop 1)).1 := by
  obtain ⟨n, hn⟩ : ∃ n, qs.length = n + 2 := ⟨qs.length - 2, by omega⟩
  have e := (convs_last2 hn).1
  have e2 : (convs qs).length - 2 = n := by
    rw [convs_len, hn]
    rfl
  rw [e2, e]
  cases qs with
  | nil => simp at hn
  | cons q qs =>
    have f := fin_fsn qs (1, 0) (q * 1 + 0, q * 0 + 1)
    have g : (fin (0, 1) (1, 0) (q :: qs)).1.2 = (fin (1, 0) (q * 1 + 0, q * 0 + 1) qs).1.2 := rfl
    show (fin (0, 1) (1, 0) (q :: qs)).1.2 = (fsn 0 1 qs).1
    rw [g]
    have f' := congrArg Prod.fst f
    have z : q * 0 + 1 = 1 := by omega
    simp only [z] at f'
    simp only [z]
    exact f'
end Tm

/-! Totals of floors along lines, in plain Lean. -/
namespace Tm
/-- the total of f i for i below n -/
def sm (f : Nat → Int) : Nat → Int
  | 0 => 0
  | n + 1 => sm f n + f n
theorem sm_congr {f g : Nat → Int} : ∀ n : Nat, (∀ i, i < n → f i = g i) → sm f n = sm g n
  | 0, _ => rfl
  | n + 1, h => by
    show sm f n + f n = sm g n + g n
    rw [sm_congr n fun i hi => h i (by omega), h n (by omega)]
theorem sm_add (f g : Nat → Int) : ∀ n : Nat, sm (fun i => f i + g i) n = sm f n + sm g n
  | 0 => rfl
  | n + 1 => by
    show sm (fun i => f i + g i) n + (f n + g n) = (sm f n + f n) + (sm g n + g n)
    rw [sm_add f g n]
    omega
theorem sm_mul (c : Int) (f : Nat → Int) : ∀ n : Nat, sm (fun i => c * f i) n = c * sm f n
  | 0 => (Int.mul_zero c).symm
  | n + 1 => by
    show sm (fun i => c * f i) n + c * f n = c * (sm f n + f n)
    rw [sm_mul c f n, Int.mul_add]
theorem sm_neg (f : Nat → Int) (n : Nat) : sm (fun i => - f i) n = - sm f n := by
  have h := sm_mul (-1) f n
  have e : sm (fun i => - f i) n = sm (fun i => -1 * f i) n := sm_congr n fun i _ => by omega
  rw [e, h]
  omega
theorem sm_sub (f g : Nat → Int) (n : Nat) : sm (fun i => f i - g i) n = sm f n - sm g n := by
  have e : sm (fun i => f i - g i) n = sm (fun i => f i + - g i) n := sm_congr n fun i _ => by omega
  rw [e, sm_add, sm_neg]
  omega
theorem sm_const (c : Int) : ∀ n : Nat, sm (fun _ => c) n = c * n
  | 0 => by simp [sm]
  | n + 1 => by
    show sm (fun _ => c) n + c = c * ((n + 1 : Nat) : Int)
    rw [sm_const c n, Int.natCast_add, Int.mul_add]
    simp
theorem sm_app (f : Nat → Int) (m : Nat) : ∀ n : Nat, sm f (m + n) = sm f m + sm (fun i => f (m + i)) n
  | 0 => by simp [sm]
  | n + 1 => by
    show sm f (m + n) + f (m + n) = sm f m + (sm (fun i => f (m + i)) n + f (m + n))
    rw [sm_app f m n]
    omega
theorem sm_rev (f : Nat → Int) : ∀ n : Nat, sm (fun i => f (n - 1 - i)) n = sm f n
  | 0 => rfl
  | n + 1 => by
    have h := sm_app (fun i => f (n + 1 - 1 - i)) 1 n
    have e1 : n + 1 = 1 + n := by omega
    conv => lhs; rw [e1]
    show sm (fun i => f (1 + n - 1 - i)) (1 + n) = sm f n + f n
    have e2 : sm (fun i => f (1 + n - 1 - i)) (1 + n) = sm (fun i => f (n + 1 - 1 - i)) (1 + n) := sm_congr _ fun i _ => by rw [show 1 + n - 1 - i = n + 1 - 1 - i by omega]
    rw [e2, h]
    have e3 : sm (fun i => f (n + 1 - 1 - (1 + i))) n = sm (fun i => f (n - 1 - i)) n := sm_congr _ fun i _ => by rw [show n + 1 - 1 - (1 + i) = n - 1 - i by omega]
    rw [e3, sm_rev f n]
    show 0 + f (n + 1 - 1 - 0) + sm f n = sm f n + f n
    rw [show n + 1 - 1 - 0 = n by omega]
    omega
theorem sm_swap (f : Nat → Nat → Int) (m : Nat) : ∀ n : Nat, sm (fun i => sm (fun j => f i j) m) n = sm (fun j => sm (fun i => f i j) n) m
  | 0 => by
    have e : sm (fun j => sm (fun i => f i j) 0) m = sm (fun _ => 0) m := rfl
    rw [e, sm_const, Int.zero_mul]
    rfl
  | n + 1 => by
    show sm (fun i => sm (fun j => f i j) m) n + sm (fun j => f n j) m = sm (fun j => sm (fun i => f i j) n + f n j) m
    rw [sm_add, sm_swap f m n]
theorem sm_bound {f : Nat → Int} {B : Int} : ∀ n : Nat, (∀ i, i < n → -B ≤ f i ∧ f i ≤ B) → -(B * n) ≤ sm f n ∧ sm f n ≤ B * n
  | 0, _ => by simp [sm]
  | n + 1, h => by
    have h1 := sm_bound n fun i hi => h i (by omega)
    have h2 := h n (by omega)
    have e : B * ((n + 1 : Nat) : Int) = B * n + B := by rw [Int.natCast_add, Int.mul_add]; simp
    rw [e]
    show -(B * n + B) ≤ sm f n + f n ∧ sm f n + f n ≤ B * n + B
    omega
/-! ### ones, indices, squares -/
theorem two_mul_half {x : Int} (h : x % 2 = 0) : 2 * (x / 2) = x := by omega
theorem sm_id (n : Nat) : 2 * sm (fun i => (i : Int)) n = (n : Int) * ((n : Int) - 1) := by
  induction n with
  | zero => rfl
  | succ n ih =>
    show 2 * (sm (fun i => (i : Int)) n + (n : Int)) = ((n + 1 : Nat) : Int) * (((n + 1 : Nat) : Int) - 1)
    rw [Int.mul_add, ih, Int.natCast_add]
    generalize (n : Int) = x
    simp only [Int.mul_sub, Int.mul_add, Int.add_mul]
    simp
    omega
theorem sm_sq (n : Nat) : 6 * sm (fun i => (i : Int) * i) n = (n : Int) * ((n : Int) - 1) * (2 * (n : Int) - 1) := by
  induction n with
  | zero => rfl
  | succ n ih =>
    show 6 * (sm (fun i => (i : Int) * i) n + (n : Int) * n) = ((n + 1 : Nat) : Int) * (((n + 1 : Nat) : Int) - 1) * (2 * ((n + 1 : Nat) : Int) - 1)
    rw [Int.mul_add, ih, Int.natCast_add]
    generalize (n : Int) = x
    have e1 : ((x + ((1 : Nat) : Int)) - 1) = x := by simp
    rw [e1]
    simp only [Int.mul_sub, Int.mul_add, Int.add_mul, Int.sub_mul, Int.mul_one, Int.one_mul]
    have : x * x * (2 * x) = 2 * (x * x * x) := by rw [Int.mul_comm 2 x, ← Int.mul_assoc, Int.mul_comm _ 2]
    have : x * (2 * x) = 2 * (x * x) := by rw [← Int.mul_assoc, Int.mul_comm x 2, Int.mul_assoc]
    have : x * ((1 : Nat) : Int) = x := by simp
    simp only [Int.natCast_one, Int.mul_one, Int.one_mul] at *
    omega
def half (n : Int) : Int := n * (n - 1) / 2
def sixth (n : Int) : Int := n * (n - 1) * (2 * n - 1) / 6
theorem half_sm (n : Nat) : sm (fun i => (i : Int)) n = half n := by
  have h := sm_id n
  unfold half
  omega
theorem sixth_sm (n : Nat) : sm (fun i => (i : Int) * i) n = sixth n := by
  have h := sm_sq n
  unfold sixth
  omega
/-! ### floors -/
def fl (a c m : Int) (i : Nat) : Int := (a * i + c) / m
def S0 (n : Nat) (a c m : Int) : Int := sm (fl a c m) n
def S1 (n : Nat) (a c m : Int) : Int := sm (fun i => (i : Int) * fl a c m i) n
def S2 (n : Nat) (a c m : Int) : Int := sm (fun i => fl a c m i * fl a c m i) n
theorem fl_lift {a c m u v : Int} (hm : m ≠ 0) (i : Nat) : fl (a + u * m) (c + v * m) m i = fl a c m i + (u * i + v) := by
  unfold fl
  have e : (a + u * m) * i + (c + v * m) = (a * i + c) + (u * i + v) * m := by
    rw [Int.add_mul, Int.add_mul, Int.mul_assoc u m i, Int.mul_comm m i, ← Int.mul_assoc u i m]
    omega
  rw [e, Int.add_mul_ediv_right _ _ hm]
theorem S0_lift {n : Nat} {a c m u v : Int} (hm : m ≠ 0) : S0 n (a + u * m) (c + v * m) m = S0 n a c m + u * half n + v * n := by
  unfold S0
  have e : sm (fun i => fl (a + u * m) (c + v * m) m i) n = sm (fun i => (fl a c m i + u * (i : Int)) + v) n := sm_congr n fun i _ => by rw [fl_lift hm]; omega
  rw [e, sm_add, sm_add, sm_mul, sm_const, half_sm]
theorem S1_lift {n : Nat} {a c m u v : Int} (hm : m ≠ 0) : S1 n (a + u * m) (c + v * m) m = S1 n a c m + u * sixth n + v * half n := by
  unfold S1
  have e : sm (fun i => (i : Int) * fl (a + u * m) (c + v * m) m i) n = sm (fun i => ((i : Int) * fl a c m i + u * ((i : Int) * i)) + v * (i : Int)) n := sm_congr n fun i _ => by
    rw [fl_lift hm, Int.mul_add, Int.mul_add, Int.mul_comm (i : Int) v, ← Int.mul_assoc (i : Int) u, Int.mul_comm (i : Int) u, Int.mul_assoc u]
    omega
  rw [e, sm_add, sm_add, sm_mul, sm_mul, half_sm, sixth_sm]
theorem S2_lift {n : Nat} {a c m u v : Int} (hm : m ≠ 0) :
    S2 n (a + u * m) (c + v * m) m = S2 n a c m + 2 * u * S1 n a c m + 2 * v * S0 n a c m + (u * u * sixth n + 2 * u * v * half n + v * v * n) := by
  unfold S2 S1 S0
  have e : sm (fun i => fl (a + u * m) (c + v * m) m i * fl (a + u * m) (c + v * m) m i) n =
      sm (fun i => ((((fl a c m i * fl a c m i + 2 * u * ((i : Int) * fl a c m i)) + 2 * v * fl a c m i) + u * u * ((i : Int) * i)) + 2 * u * v * (i : Int)) + v * v) n := sm_congr n fun i _ => by
    rw [fl_lift hm]
    generalize fl a c m i = f
    generalize (i : Int) = x
    have e1 : (f + (u * x + v)) * (f + (u * x + v)) = f * f + 2 * (f * (u * x)) + 2 * (f * v) + (u * x) * (u * x) + 2 * (u * x * v) + v * v := by
      simp only [Int.mul_add, Int.add_mul]
      rw [Int.mul_comm (u * x) f, Int.mul_comm v f, Int.mul_comm v (u * x)]
      omega
    rw [e1]
    have e2 : f * (u * x) = u * (x * f) := by rw [Int.mul_comm f, Int.mul_assoc]
    have e3 : (u * x) * (u * x) = u * u * (x * x) := by rw [Int.mul_assoc, ← Int.mul_assoc x u x, Int.mul_comm x u, Int.mul_assoc u x x, ← Int.mul_assoc]
    have e4 : u * x * v = u * v * x := by rw [Int.mul_assoc, Int.mul_comm x v, ← Int.mul_assoc]
    have e5 : f * v = v * f := Int.mul_comm _ _
    rw [e2, e3, e4, e5, Int.mul_assoc 2 u, Int.mul_assoc 2 v, Int.mul_assoc 2 u v, Int.mul_assoc 2 (u * v) x]
  rw [e, sm_add, sm_add, sm_add, sm_add, sm_add, sm_mul, sm_mul, sm_mul, sm_mul, sm_const, half_sm, sixth_sm]
  omega
/-! ### the mirror image -/
/-- how many j below h have g j < i, weighed -/
def ind (p : Bool) : Int := if p then 1 else 0
theorem sm_ind_lt : ∀ (h k : Nat), sm (fun j => ind (decide (j < k))) h = (min h k : Nat)
  | 0, k => by simp [sm]
  | h + 1, k => by
    show sm (fun j => ind (decide (j < k))) h + ind (decide (h < k)) = _
    rw [sm_ind_lt h k]
    unfold ind
    by_cases q : h < k
    · rw [decide_eq_true q, if_pos rfl]
      omega
    · rw [decide_eq_false q, if_neg (by decide)]
      omega

theorem sm_odd_lt : ∀ (h k : Nat), sm (fun j => (2 * (j : Int) + 1) * ind (decide (j < k))) h = ((min h k : Nat) : Int) * ((min h k : Nat) : Int)
  | 0, k => by simp [sm]
  | h + 1, k => by
    show sm (fun j => (2 * (j : Int) + 1) * ind (decide (j < k))) h + (2 * (h : Int) + 1) * ind (decide (h < k)) = _
    rw [sm_odd_lt h k]
    unfold ind
    by_cases q : h < k
    · rw [decide_eq_true q, if_pos rfl, show min h k = h by omega, show min (h + 1) k = h + 1 by omega, Int.natCast_add]
      simp only [Int.mul_add, Int.add_mul, Int.mul_one, Int.natCast_one, Int.one_mul]
      omega
    · rw [decide_eq_false q, if_neg (by decide), show min h k = min (h + 1) k by omega]
      omega
theorem sm_above : ∀ (n : Nat) (g : Int), -1 ≤ g → g ≤ (n : Int) → sm (fun i => ind (decide (g < (i : Int)))) (n + 1) = (n : Int) - g
  | 0, g, h0, h1 => by
    show 0 + ind (decide (g < ((0 : Nat) : Int))) = _
    unfold ind
    by_cases q : g < 0
    · rw [decide_eq_true (show g < ((0 : Nat) : Int) from q), if_pos rfl]
      omega
    · rw [decide_eq_false (show ¬ g < ((0 : Nat) : Int) from q), if_neg (by decide)]
      omega
  | n + 1, g, h0, h1 => by
    show sm (fun i => ind (decide (g < (i : Int)))) (n + 1) + ind (decide (g < ((n + 1 : Nat) : Int))) = _
    unfold ind
    by_cases q : g ≤ n
    · have := sm_above n g h0 q
      unfold ind at this
      rw [this, decide_eq_true (by omega), if_pos rfl]
      omega
    · have e : g = ((n + 1 : Nat) : Int) := by omega
      have z : sm (fun i => if decide (g < (i : Int)) = true then 1 else 0) (n + 1) = sm (fun _ => 0) (n + 1) := sm_congr _ fun i hi => by rw [decide_eq_false (by omega), if_neg (by decide)]
      rw [z, sm_const, decide_eq_false (by omega), if_neg (by decide)]
      omega
theorem sm_above_id : ∀ (n : Nat) (g : Int), -1 ≤ g → g ≤ (n : Int) → 2 * sm (fun i => (i : Int) * ind (decide (g < (i : Int)))) (n + 1) = ((n : Int) + 1) * n - g * (g + 1)
  | 0, g, h0, h1 => by
    have : g = -1 ∨ g = 0 := by omega
    rcases this with rfl | rfl <;> rfl
  | n + 1, g, h0, h1 => by
    show 2 * (sm (fun i => (i : Int) * ind (decide (g < (i : Int)))) (n + 1) + ((n + 1 : Nat) : Int) * ind (decide (g < ((n + 1 : Nat) : Int)))) = _
    by_cases q : g ≤ n
    · rw [Int.mul_add, sm_above_id n g h0 q]
      unfold ind
      rw [decide_eq_true (by omega), if_pos rfl, Int.natCast_add]
      generalize g * (g + 1) = z
      generalize (n : Int) = x
      simp only [Int.mul_add, Int.add_mul, Int.mul_one, Int.natCast_one, Int.one_mul]
      omega
    · have e : g = ((n + 1 : Nat) : Int) := by omega
      have z : sm (fun i => (i : Int) * ind (decide (g < (i : Int)))) (n + 1) = sm (fun _ => 0) (n + 1) := sm_congr _ fun i hi => by
        unfold ind
        rw [decide_eq_false (by omega), if_neg (by decide), Int.mul_zero]
      rw [z, sm_const]
      unfold ind
      rw [decide_eq_false (by omega), if_neg (by decide), e, Int.mul_comm (((n + 1 : Nat) : Int) + 1)]
      omega
theorem fl_lt {a c m : Int} (ha : 0 < a) (hm : 0 < m) (i j : Nat) : (j : Int) < fl a c m i ↔ fl m (m - c - 1) a j < (i : Int) := by
  unfold fl
  have h1 : (j : Int) < (a * i + c) / m ↔ ((j : Int) + 1) * m ≤ a * i + c := by
    rw [← Int.le_ediv_iff_mul_le hm]
    omega
  have h2 : (m * (j : Int) + (m - c - 1)) / a < (i : Int) ↔ m * (j : Int) + (m - c - 1) < i * a := Int.ediv_lt_iff_lt_mul ha
  rw [h1, h2, Int.add_mul, Int.one_mul, Int.mul_comm (j : Int) m, Int.mul_comm (i : Int) a]
  omega
theorem fl_nn {a c m : Int} (ha : 0 ≤ a) (hc : 0 ≤ c) (hm : 0 < m) (i : Nat) : 0 ≤ fl a c m i :=
  Int.ediv_nonneg (by have := Int.mul_nonneg ha (Int.natCast_nonneg i); omega) (by omega)
theorem fl_mono {a c m : Int} (ha : 0 ≤ a) (hm : 0 < m) {i j : Nat} (h : i ≤ j) : fl a c m i ≤ fl a c m j := by
  unfold fl
  refine Int.ediv_le_ediv hm ?_
  have : a * (i : Int) ≤ a * (j : Int) := Int.mul_le_mul_of_nonneg_left (by omega) ha
  omega
/-- each floor counts the mirror image's below it -/
theorem fl_count {a c m : Int} (ha : 0 < a) (hc : 0 ≤ c) (hm : 0 < m) {h : Nat} {i : Nat} (hf : fl a c m i ≤ h) :
    fl a c m i = sm (fun j => ind (decide (fl m (m - c - 1) a j < (i : Int)))) h ∧ fl a c m i * fl a c m i = sm (fun j => (2 * (j : Int) + 1) * ind (decide (fl m (m - c - 1) a j < (i : Int)))) h := by
  have h0 := fl_nn (Int.le_of_lt ha) hc hm i
  obtain ⟨k, hk⟩ : ∃ k : Nat, fl a c m i = k := ⟨(fl a c m i).toNat, by omega⟩
  have e : ∀ j : Nat, decide (fl m (m - c - 1) a j < (i : Int)) = decide (j < k) := fun j => by
    have := fl_lt (c := c) ha hm i j
    rw [hk] at this
    by_cases q : j < k
    · rw [decide_eq_true q, decide_eq_true (this.mp (by omega))]
    · rw [decide_eq_false q, decide_eq_false (fun z => q (by have := this.mpr z; omega))]
  simp only [e]
  rw [sm_ind_lt, sm_odd_lt, hk, show min h k = k by omega]
  exact ⟨rfl, rfl⟩
theorem mirror {a c m : Int} {n h : Nat} (ha : 0 < a) (hc : 0 ≤ c) (hm : 0 < m) (hf : ∀ i, i < n + 1 → fl a c m i ≤ h) (hg : ∀ j, j < h → -1 ≤ fl m (m - c - 1) a j ∧ fl m (m - c - 1) a j ≤ n) :
    S0 (n + 1) a c m = (h : Int) * n - S0 h m (m - c - 1) a ∧
    2 * S1 (n + 1) a c m = (h : Int) * (((n : Int) + 1) * n) - S2 h m (m - c - 1) a - S0 h m (m - c - 1) a ∧
    S2 (n + 1) a c m = (h : Int) * h * n - 2 * S1 h m (m - c - 1) a - S0 h m (m - c - 1) a := by
  have g0 := fun j hj => (hg j hj).1
  have g1 := fun j hj => (hg j hj).2
  generalize hG : fl m (m - c - 1) a = g at *
  refine ⟨?_, ?_, ?_⟩
  · unfold S0
    have e1 : sm (fl a c m) (n + 1) = sm (fun i => sm (fun j => ind (decide (g j < (i : Int)))) h) (n + 1) := sm_congr _ fun i hi => by
      have := (fl_count ha hc hm (hf i hi)).1
      rw [hG] at this
      exact this
    rw [e1, sm_swap]
    have e2 : sm (fun j => sm (fun i => ind (decide (g j < (i : Int)))) (n + 1)) h = sm (fun j => (n : Int) - g j) h := sm_congr _ fun j hj => sm_above n (g j) (g0 j hj) (g1 j hj)
    rw [e2, sm_sub, sm_const, Int.mul_comm, hG]
  · unfold S1 S2 S0
    have e1 : sm (fun i => (i : Int) * fl a c m i) (n + 1) = sm (fun i => sm (fun j => (i : Int) * ind (decide (g j < (i : Int)))) h) (n + 1) := sm_congr _ fun i hi => by
      have := (fl_count ha hc hm (hf i hi)).1
      rw [hG] at this
      rw [this, sm_mul]
    rw [e1, sm_swap, ← sm_mul]
    have e2 : sm (fun j => 2 * sm (fun i => (i : Int) * ind (decide (g j < (i : Int)))) (n + 1)) h = sm (fun j => ((n : Int) + 1) * n - (g j * g j + g j)) h := sm_congr _ fun j hj => by
      rw [sm_above_id n (g j) (g0 j hj) (g1 j hj), Int.mul_add, Int.mul_one]
    rw [e2, sm_sub, sm_const, sm_add, Int.mul_comm, hG]
    omega
  · unfold S1 S2 S0
    have e1 : sm (fun i => fl a c m i * fl a c m i) (n + 1) = sm (fun i => sm (fun j => (2 * (j : Int) + 1) * ind (decide (g j < (i : Int)))) h) (n + 1) := sm_congr _ fun i hi => by
      have := (fl_count ha hc hm (hf i hi)).2
      rw [hG] at this
      exact this
    rw [e1, sm_swap]
    have e2 : sm (fun j => sm (fun i => (2 * (j : Int) + 1) * ind (decide (g j < (i : Int)))) (n + 1)) h = sm (fun j => ((n : Int) * (2 * (j : Int)) + n) - (2 * ((j : Int) * g j) + g j)) h := sm_congr _ fun j hj => by
      rw [sm_mul, sm_above n (g j) (g0 j hj) (g1 j hj), Int.mul_sub, Int.add_mul, Int.add_mul, Int.one_mul, Int.one_mul, Int.mul_comm (2 * (j : Int)) n, Int.mul_assoc]
    rw [e2, sm_sub, sm_add, sm_add, sm_mul, sm_mul, sm_mul, sm_const, hG, sm_id, Int.mul_sub]
    have e3 : (n : Int) * ((h : Int) * h) = (h : Int) * h * n := Int.mul_comm _ _
    rw [← e3, Int.mul_sub, Int.mul_one]
    omega
/-! ### lines put together -/
theorem fl_shift (a c m : Int) (p i : Nat) : fl a c m (p + i) = fl a (c + a * p) m i := by
  unfold fl
  rw [Int.natCast_add, Int.mul_add]
  congr 1
  omega
theorem S0_part (a c m : Int) (p r : Nat) : S0 (p + r) a c m = S0 p a c m + S0 r a (c + a * p) m := by
  unfold S0
  rw [sm_app, sm_congr r fun i _ => fl_shift a c m p i]
theorem S1_part (a c m : Int) (p r : Nat) : S1 (p + r) a c m = S1 p a c m + S1 r a (c + a * p) m + p * S0 r a (c + a * p) m := by
  unfold S1 S0
  rw [sm_app]
  have e : sm (fun i => ((p + i : Nat) : Int) * fl a c m (p + i)) r = sm (fun i => (i : Int) * fl a (c + a * p) m i + (p : Int) * fl a (c + a * p) m i) r := sm_congr r fun i _ => by
    rw [fl_shift, Int.natCast_add, Int.add_mul]
    omega
  rw [e, sm_add, sm_mul]
  omega
theorem S2_part (a c m : Int) (p r : Nat) : S2 (p + r) a c m = S2 p a c m + S2 r a (c + a * p) m := by
  unfold S2
  rw [sm_app, sm_congr r fun i _ => by rw [fl_shift]]
theorem S0_rev (a c m : Int) (n : Nat) (h : 0 < n) : S0 n (0 - a) (c + a * ((n : Int) - 1)) m = S0 n a c m := by
  unfold S0
  rw [← sm_rev (fl a c m) n]
  refine sm_congr n fun i hi => ?_
  unfold fl
  congr 1
  rw [show ((n - 1 - i : Nat) : Int) = (n : Int) - 1 - i by omega, Int.mul_sub a ((n : Int) - 1) i]
  have : (0 - a) * (i : Int) = - (a * i) := by rw [Int.zero_sub, Int.neg_mul]
  omega
end Tm

/-! The layers of a line: what the loops keep. -/
namespace Tm
structure Ly where
  n : Int
  u : Int
  s : Int
  h : Int
/-- the high end of the flat line -/
def hi (n a c m : Int) : Int := ((a % m) * (n - 1) + c % m) / m
/-- layers, with fuel -/
def lays : Nat → Int → Int → Int → Int → List Ly
  | 0, _, _, _, _ => []
  | k + 1, n, a, c, m => if 0 < n then ⟨n, a / m, c / m, hi n a c m⟩ :: lays k (hi n a c m) m (m - c % m - 1) (a % m) else []
def mir (n h : Int) (t : Int × Int × Int) : Int × Int × Int := (h * (n - 1) - t.1, (h * (n - 1) * n - t.2.2 - t.1) / 2, h * (n - 1) * h - 2 * t.2.1 - t.1)
def lif (n u s : Int) (t : Int × Int × Int) : Int × Int × Int :=
  (t.1 + u * half n + s * n, t.2.1 + u * sixth n + s * half n, t.2.2 + 2 * u * t.2.1 + 2 * s * t.1 + (u * u * sixth n + 2 * u * s * half n + s * s * n))
def tot : List Ly → Int × Int × Int
  | [] => (0, 0, 0)
  | l :: r => lif l.n l.u l.s (mir l.n l.h (tot r))
def SS (n a c m : Int) : Int × Int × Int := (S0 n.toNat a c m, S1 n.toNat a c m, S2 n.toNat a c m)
theorem hi_nn {n a c m : Int} (hm : 0 < m) (hn : 0 < n) : 0 ≤ hi n a c m := by
  unfold hi
  have h1 := Int.emod_nonneg a (show m ≠ 0 by omega)
  have h2 := Int.emod_nonneg c (show m ≠ 0 by omega)
  exact Int.ediv_nonneg (by have := Int.mul_nonneg h1 (show 0 ≤ n - 1 by omega); omega) (by omega)
theorem hi_le {n a c m : Int} (hm : 0 < m) (hn : 0 < n) : hi n a c m < n := by
  unfold hi
  have h1 := Int.emod_lt_of_pos a hm
  have h2 := Int.emod_lt_of_pos c hm
  refine (Int.ediv_lt_iff_lt_mul hm).mpr ?_
  have : (a % m) * (n - 1) ≤ (m - 1) * (n - 1) := Int.mul_le_mul_of_nonneg_right (by omega) (by omega)
  have e : (m - 1) * (n - 1) = n * m - m - (n - 1) := by
    rw [Int.sub_mul, Int.mul_sub, Int.mul_comm n m]
    omega
  omega
theorem hi_pos {n a c m : Int} (hm : 0 < m) (hn : 0 < n) (h : 0 < hi n a c m) : 0 < a % m := by
  have h1 := Int.emod_nonneg a (show m ≠ 0 by omega)
  have h2 := Int.emod_lt_of_pos c hm
  have h3 := Int.emod_nonneg c (show m ≠ 0 by omega)
  rcases Int.lt_or_eq_of_le h1 with q | q
  · exact q
  · exfalso
    unfold hi at h
    rw [← q, Int.zero_mul, Int.zero_add, Int.ediv_eq_zero_of_lt h3 h2] at h
    omega
theorem lift_SS {n a c m : Int} (hm : 0 < m) (hn : 0 ≤ n) : SS n a c m = lif n (a / m) (c / m) (SS n (a % m) (c % m) m) := by
  have e1 : a = a % m + a / m * m := by
    have := Int.emod_add_mul_ediv a m
    rw [Int.mul_comm] at this
    omega
  have e2 : c = c % m + c / m * m := by
    have := Int.emod_add_mul_ediv c m
    rw [Int.mul_comm] at this
    omega
  have en : ((n.toNat : Nat) : Int) = n := by omega
  have x0 := S0_lift (n := n.toNat) (a := a % m) (c := c % m) (u := a / m) (v := c / m) (show m ≠ 0 by omega)
  have x1 := S1_lift (n := n.toNat) (a := a % m) (c := c % m) (u := a / m) (v := c / m) (show m ≠ 0 by omega)
  have x2 := S2_lift (n := n.toNat) (a := a % m) (c := c % m) (u := a / m) (v := c / m) (show m ≠ 0 by omega)
  rw [← e1, ← e2, en] at x0 x1 x2
  unfold SS lif
  rw [x0, x1, x2]
theorem mir_SS {n a c m : Int} (hm : 0 < m) (hn : 0 < n) : SS n (a % m) (c % m) m = mir n (hi n a c m) (SS (hi n a c m) m (m - c % m - 1) (a % m)) := by
  have h1 := Int.emod_nonneg a (show m ≠ 0 by omega)
  have h2 := Int.emod_lt_of_pos c hm
  have h3 := Int.emod_nonneg c (show m ≠ 0 by omega)
  have h4 := Int.emod_lt_of_pos a hm
  obtain ⟨k, rfl⟩ : ∃ k : Nat, n = (k : Int) + 1 := ⟨(n - 1).toNat, by omega⟩
  have n0 := hi_nn (n := (k : Int) + 1) (a := a) (c := c) hm hn
  obtain ⟨h, hh⟩ : ∃ h : Nat, hi ((k : Int) + 1) a c m = (h : Int) := ⟨(hi ((k : Int) + 1) a c m).toNat, by omega⟩
  have et : ((k : Int) + 1).toNat = k + 1 := by omega
  have ek : ((k : Int) + 1 - 1) = (k : Int) := by omega
  have hk : fl (a % m) (c % m) m k = (h : Int) := by
    rw [← hh]
    unfold hi fl
    rw [ek]
  have hf : ∀ i, i < k + 1 → fl (a % m) (c % m) m i ≤ h := fun i hi => by
    rw [← hk]
    exact fl_mono h1 hm (by omega)
  rw [hh]
  unfold SS mir
  rw [et, ek, Int.toNat_natCast]
  rcases Int.lt_or_eq_of_le h1 with q | q
  · have hg : ∀ j, j < h → -1 ≤ fl m (m - c % m - 1) (a % m) j ∧ fl m (m - c % m - 1) (a % m) j ≤ k := fun j hj => by
      have g0 := fl_nn (Int.le_of_lt hm) (show 0 ≤ m - c % m - 1 by omega) q j
      have := (fl_lt (c := c % m) q hm k j).mp (by omega)
      omega
    obtain ⟨y0, y1, y2⟩ := mirror q h3 hm hf hg
    rw [y0, y2]
    refine Prod.ext rfl (Prod.ext ?_ ?_)
    · show S1 (k + 1) (a % m) (c % m) m = ((h : Int) * k * ((k : Int) + 1) - S2 h m (m - c % m - 1) (a % m) - S0 h m (m - c % m - 1) (a % m)) / 2
      have e : (h : Int) * k * ((k : Int) + 1) = (h : Int) * (((k : Int) + 1) * k) := by rw [Int.mul_assoc, Int.mul_comm (k : Int)]
      rw [e]
      omega
    · show (h : Int) * h * k - 2 * S1 h m (m - c % m - 1) (a % m) - S0 h m (m - c % m - 1) (a % m) = (h : Int) * k * h - 2 * S1 h m (m - c % m - 1) (a % m) - S0 h m (m - c % m - 1) (a % m)
      have e : (h : Int) * h * k = (h : Int) * k * h := Int.mul_right_comm _ _ _
      rw [e]
  · have z : h = 0 := by
      have : ¬ 0 < hi ((k : Int) + 1) a c m := fun z => by
        have := hi_pos hm hn z
        omega
      omega
    subst z
    have fz : ∀ i, i < k + 1 → fl (a % m) (c % m) m i = 0 := fun i hi => by
      have := hf i hi
      have := fl_nn h1 h3 hm i
      omega
    have s0 : S0 (k + 1) (a % m) (c % m) m = 0 := by
      unfold S0
      rw [sm_congr (g := fun _ => 0) _ fz, sm_const, Int.zero_mul]
    have s1 : S1 (k + 1) (a % m) (c % m) m = 0 := by
      unfold S1
      rw [sm_congr (g := fun _ => 0) _ fun i hi => by rw [fz i hi, Int.mul_zero], sm_const, Int.zero_mul]
    have s2 : S2 (k + 1) (a % m) (c % m) m = 0 := by
      unfold S2
      rw [sm_congr (g := fun _ => 0) _ fun i hi => by rw [fz i hi, Int.mul_zero], sm_const, Int.zero_mul]
    rw [s0, s1, s2]
    simp [S0, S1, S2, sm]
/-- the layers lead to the totals -/
theorem tot_lays : ∀ (k : Nat) (n a c m : Int), 0 ≤ n → (0 < n → 0 < m) → (0 < n → m.toNat < k) → tot (lays k n a c m) = SS n a c m
  | 0, n, a, c, m, h0, h1, h2 => by
    have : n = 0 := by
      rcases Int.lt_or_eq_of_le h0 with q | q
      · exact absurd (h2 q) (Nat.not_lt_zero _)
      · exact q.symm
    subst this
    rfl
  | k + 1, n, a, c, m, h0, h1, h2 => by
    unfold lays
    by_cases q : 0 < n
    · rw [if_pos q]
      have hm := h1 q
      have h4 := Int.emod_lt_of_pos a hm
      show lif n (a / m) (c / m) (mir n (hi n a c m) (tot (lays k (hi n a c m) m (m - c % m - 1) (a % m)))) = _
      rw [tot_lays k _ _ _ _ (hi_nn hm q) (fun z => hi_pos hm q z) (fun z => by have := h2 q; omega), ← mir_SS hm q, ← lift_SS hm h0]
    · rw [if_neg q]
      have : n = 0 := by omega
      subst this
      rfl
/-- how many layers there are -/
theorem lays_len : ∀ (j k : Nat) (n a c m : Int), (0 < n → 0 < m) → (0 < n → m < 2 ^ j) → (lays k n a c m).length ≤ 2 * j + 1
  | j, 0, n, a, c, m, _, _ => Nat.zero_le _
  | 0, k + 1, n, a, c, m, h1, h2 => by
    unfold lays
    by_cases q : 0 < n
    · have := h1 q
      have := h2 q
      have e : (2 : Int) ^ 0 = 1 := rfl
      omega
    · rw [if_neg q]
      exact Nat.zero_le _
  | j + 1, k + 1, n, a, c, m, h1, h2 => by
    unfold lays
    by_cases q : 0 < n
    · rw [if_pos q, List.length_cons]
      have hm := h1 q
      have h4 := Int.emod_lt_of_pos a hm
      have hn := hi_nn (a := a) (c := c) hm q
      have hp := hi_pos (a := a) (c := c) hm q
      generalize hi n a c m = n1 at *
      generalize m - c % m - 1 = c1
      cases k with
      | zero => exact Nat.succ_le_succ (Nat.zero_le _)
      | succ k =>
        unfold lays
        by_cases q1 : 0 < n1
        · rw [if_pos q1, List.length_cons]
          have ha := hp q1
          have h5 := Int.emod_lt_of_pos m ha
          have e2 : (2 : Int) ^ (j + 1) = 2 ^ j * 2 := Int.pow_succ 2 j
          have h6 := Int.mul_ediv_add_emod m (a % m)
          have h7 : 1 ≤ m / (a % m) := Int.le_ediv_of_mul_le ha (by omega)
          have h8 : (a % m) * 1 ≤ (a % m) * (m / (a % m)) := Int.mul_le_mul_of_nonneg_left h7 (by omega)
          have := lays_len j k (hi n1 m c1 (a % m)) (a % m) (a % m - c1 % (a % m) - 1) (m % (a % m)) (fun z => hi_pos ha q1 z) (fun z => by have := h2 q; omega)
          omega
        · rw [if_neg q1]
          simp only [List.length_cons, List.length_nil]
          omega
    · rw [if_neg q]
      exact Nat.zero_le _

/-! the law's own exchange of both directions -/
theorem area_step {n a c m : Int} (hm : 0 < m) (hn : 0 ≤ n) (ha : 0 < a % m) : S0 n.toNat a c m = (a / m) * half n + (c / m) * n +
    (n * (((a % m) * n + c % m) / m) - S0 (((a % m) * n + c % m) / m).toNat m (m - c % m - 1 + a % m) (a % m)) := by
  have h1 := Int.emod_nonneg a (show m ≠ 0 by omega)
  have h2 := Int.emod_lt_of_pos c hm
  have h3 := Int.emod_nonneg c (show m ≠ 0 by omega)
  have h4 := Int.emod_lt_of_pos a hm
  have x := congrArg Prod.fst (lift_SS (a := a) (c := c) hm hn)
  have x' : S0 n.toNat a c m = S0 n.toNat (a % m) (c % m) m + a / m * half n + c / m * n := x
  rw [x']
  have nn : 0 ≤ ((a % m) * n + c % m) / m := Int.ediv_nonneg (by have := Int.mul_nonneg h1 hn; omega) (by omega)
  obtain ⟨h, hh⟩ : ∃ h : Nat, ((a % m) * n + c % m) / m = (h : Int) := ⟨(((a % m) * n + c % m) / m).toNat, by omega⟩
  obtain ⟨k, rfl⟩ : ∃ k : Nat, n = k := ⟨n.toNat, by omega⟩
  rw [hh, Int.toNat_natCast, Int.toNat_natCast]
  have sh : ∀ j : Nat, fl m (m - c % m - 1 + a % m) (a % m) j = fl m (m - c % m - 1) (a % m) j + 1 := fun j => by
    unfold fl
    have z := Int.add_mul_ediv_right (m * (j : Int) + (m - c % m - 1)) 1 (show a % m ≠ 0 by omega)
    rw [Int.one_mul] at z
    rw [← Int.add_assoc, z]
  have e1 : S0 h m (m - c % m - 1 + a % m) (a % m) = S0 h m (m - c % m - 1) (a % m) + h := by
    unfold S0
    rw [sm_congr h fun j _ => sh j, sm_add, sm_const, Int.one_mul]
  rw [e1]
  cases k with
  | zero =>
    have z : h = 0 := by
      have : ((a % m) * ((0 : Nat) : Int) + c % m) / m = 0 := by
        rw [show ((0 : Nat) : Int) = 0 from rfl, Int.mul_zero, Int.zero_add]
        exact Int.ediv_eq_zero_of_lt h3 h2
      omega
    subst z
    simp [S0, sm, half]
  | succ k =>
    have hk : fl (a % m) (c % m) m (k + 1) = (h : Int) := hh
    have hf : ∀ i, i < k + 1 → fl (a % m) (c % m) m i ≤ h := fun i hi => by
      rw [← hk]
      exact fl_mono h1 hm (by omega)
    have hg : ∀ j, j < h → -1 ≤ fl m (m - c % m - 1) (a % m) j ∧ fl m (m - c % m - 1) (a % m) j ≤ k := fun j hj => by
      have g0 := fl_nn (Int.le_of_lt hm) (show 0 ≤ m - c % m - 1 by omega) ha j
      have := (fl_lt (c := c % m) ha hm (k + 1) j).mp (by omega)
      omega
    have y := (mirror ha h3 hm hf hg).1
    rw [y, Int.natCast_add, Int.add_mul, Int.mul_comm (k : Int) h]
    simp only [Int.natCast_one, Int.one_mul]
    omega
theorem area_end {n a c m : Int} (hm : 0 < m) (hn : 0 ≤ n) (h : a % m = 0 ∨ ((a % m) * n + c % m) / m = 0) : S0 n.toNat a c m = (a / m) * half n + (c / m) * n := by
  have h1 := Int.emod_nonneg a (show m ≠ 0 by omega)
  have h2 := Int.emod_lt_of_pos c hm
  have h3 := Int.emod_nonneg c (show m ≠ 0 by omega)
  have x := congrArg Prod.fst (lift_SS (a := a) (c := c) hm hn)
  have x' : S0 n.toNat a c m = S0 n.toNat (a % m) (c % m) m + a / m * half n + c / m * n := x
  obtain ⟨k, rfl⟩ : ∃ k : Nat, n = k := ⟨n.toNat, by omega⟩
  have fz : ∀ i, i < k → fl (a % m) (c % m) m i = 0 := fun i hi => by
    have u0 := fl_nn h1 h3 hm i
    rcases h with h | h
    · unfold fl
      rw [h, Int.zero_mul, Int.zero_add]
      exact Int.ediv_eq_zero_of_lt h3 h2
    · have := fl_mono (a := a % m) (c := c % m) h1 hm (show i ≤ k by omega)
      have e : fl (a % m) (c % m) m k = 0 := h
      omega
  rw [x', Int.toNat_natCast]
  have : S0 k (a % m) (c % m) m = 0 := by
    unfold S0
    rw [sm_congr (g := fun _ => 0) _ fz, sm_const, Int.zero_mul]
  rw [this]
  omega
end Tm

namespace Tm
theorem tot_foldl (ls : List Ly) : tot ls = ls.reverse.foldl (fun t l => lif l.n l.u l.s (mir l.n l.h t)) (0, 0, 0) := by
  rw [List.foldl_reverse]
  induction ls with
  | nil => rfl
  | cons l r ih =>
    show lif l.n l.u l.s (mir l.n l.h (tot r)) = _
    rw [ih]
    rfl
def tsum (r : List Ly) (i : Nat) : Int × Int × Int := (r.take i).foldl (fun t l => lif l.n l.u l.s (mir l.n l.h t)) (0, 0, 0)
theorem tsum_zero (r : List Ly) : tsum r 0 = (0, 0, 0) := rfl
theorem tsum_succ {r : List Ly} {i : Nat} {l : Ly} (h : r[i]? = some l) : tsum r (i + 1) = lif l.n l.u l.s (mir l.n l.h (tsum r i)) := by
  unfold tsum
  rw [List.take_add_one, h, List.foldl_append]
  rfl
theorem tsum_end (ls : List Ly) : tsum ls.reverse ls.reverse.length = tot ls := by
  unfold tsum
  rw [List.take_length, tot_foldl]
end Tm

namespace Tm
/-- the law's own turns end in time: i turns done -/
def Turn (i : Nat) (a m : Int) : Prop := ∀ k : Nat, (i = 2 * k → m * 2 ^ k < 2 ^ 180) ∧ (i = 2 * k + 1 → a * 2 ^ k < 2 ^ 180 ∧ m < a)
theorem turn_zero {a m : Int} (h : m < 2 ^ 180) : Turn 0 a m := fun k => ⟨fun e => by
  have : k = 0 := by omega
  subst this
  rw [Int.pow_zero, Int.mul_one]
  exact h, fun e => by omega⟩
theorem turn_succ {i : Nat} {a m : Int} (hm : 0 < m) (hr : 0 < a % m) (t : Turn i a m) : Turn (i + 1) m (a % m) := fun k => ⟨fun e => by
  obtain ⟨j, rfl⟩ : ∃ j, k = j + 1 := ⟨k - 1, by omega⟩
  obtain ⟨h1, h2⟩ := (t j).2 (by omega)
  have h3 := Int.mul_ediv_add_emod a m
  have h4 := Int.emod_lt_of_pos a hm
  have h5 : 1 ≤ a / m := Int.le_ediv_of_mul_le hm (by omega)
  have h6 : m * 1 ≤ m * (a / m) := Int.mul_le_mul_of_nonneg_left h5 (by omega)
  have h7 : (a % m) * 2 ≤ a := by omega
  have h8 : (0 : Int) ≤ 2 ^ j := Int.le_of_lt (Int.pow_pos (by decide))
  have h9 := Int.mul_le_mul_of_nonneg_right h7 h8
  have e2 : (2 : Int) ^ (j + 1) = 2 * 2 ^ j := by rw [Int.pow_succ, Int.mul_comm]
  rw [e2, ← Int.mul_assoc]
  omega, fun e => ⟨(t k).1 (by omega), Int.emod_lt_of_pos a hm⟩⟩
theorem turn_end {a m : Int} (hm : 0 < m) (t : Turn 400 a m) : False := by
  have h := (t 200).1 rfl
  have h2 : 1 * 2 ^ 200 ≤ m * 2 ^ 200 := Int.mul_le_mul_of_nonneg_right (show (1 : Int) ≤ m by omega) (by decide +kernel)
  have h3 : ((2 : Int) ^ 180 ≤ 1 * 2 ^ 200) := by decide +kernel
  omega
theorem sgn_area {f s x y z T : Int} (e : f + s * T = z) (h : T = x + y) : (f + s * x) + s * y = z := by
  rw [h, Int.mul_add] at e
  omega
theorem sgn_step {f s n h R S z : Int} (e : f + s * (n * h - R) = z) (hs : S = R) : (f + s * n * h) + (0 - s) * S = z := by
  rw [Int.mul_sub, ← Int.mul_assoc] at e
  rw [hs, Int.sub_mul, Int.zero_mul]
  omega
theorem high_le {n a c m : Int} (hm : 0 < m) (hn : 0 ≤ n) : 0 ≤ ((a % m) * n + c % m) / m ∧ ((a % m) * n + c % m) / m ≤ n := by
  have h1 := Int.emod_nonneg a (show m ≠ 0 by omega)
  have h2 := Int.emod_lt_of_pos a hm
  have h3 := Int.emod_nonneg c (show m ≠ 0 by omega)
  have h4 := Int.emod_lt_of_pos c hm
  refine ⟨Int.ediv_nonneg (by have := Int.mul_nonneg h1 hn; omega) (by omega), ?_⟩
  have : ((a % m) * n + c % m) / m < n + 1 := by
    refine (Int.ediv_lt_iff_lt_mul hm).mpr ?_
    have : (a % m) * n ≤ m * n := Int.mul_le_mul_of_nonneg_right (by omega) hn
    rw [Int.add_mul, Int.one_mul, Int.mul_comm n m]
    omega
  omega
end Tm
namespace Tm
theorem div_abs {x m B : Int} (hm : 0 < m) (h0 : 0 ≤ B) (h : -B ≤ x ∧ x ≤ B) : -B ≤ x / m ∧ x / m ≤ B := by
  have h1 : -B ≤ x / m := Int.le_ediv_of_mul_le hm (by
    have := Int.mul_le_mul_of_nonneg_left (show 1 ≤ m by omega) h0
    have e : -B * m = -(B * m) := Int.neg_mul _ _
    omega)
  have h2 : x / m < B + 1 := by
    refine (Int.ediv_lt_iff_lt_mul hm).mpr ?_
    have := Int.mul_le_mul_of_nonneg_left (show 1 ≤ m by omega) (show 0 ≤ B + 1 by omega)
    omega
  omega
theorem S0_abs {n : Nat} {a c m B : Int} (hm : 0 < m) (hB : 0 ≤ B) (h : ∀ i : Nat, i < n → -B ≤ a * i + c ∧ a * i + c ≤ B) : -(B * n) ≤ S0 n a c m ∧ S0 n a c m ≤ B * n :=
  sm_bound n fun i hi => div_abs hm hB (h i hi)
/-- crude: bits of the total -/
theorem S0_lt {n a c m : Int} {k : Nat} (hm : 0 < m) (hn : 0 ≤ n) (ka : a.natAbs < 2 ^ k) (kc : c.natAbs < 2 ^ k) (kn : n.natAbs < 2 ^ k) : (S0 n.toNat a c m).natAbs < 2 ^ (3 * k + 2) := by
  have hb : ∀ i : Nat, i < n.toNat → -(2 ^ (2 * k + 1) : Int) ≤ a * i + c ∧ a * i + c ≤ 2 ^ (2 * k + 1) := fun i hi => by
    have h1 : (a * i).natAbs ≤ 2 ^ k * 2 ^ k := by
      rw [Int.natAbs_mul]
      exact Nat.mul_le_mul (by omega) (by omega)
    have h2 : (2 : Nat) ^ (2 * k + 1) = 2 ^ k * 2 ^ k * 2 := by rw [Nat.pow_succ, Nat.two_mul, Nat.pow_add]
    have h3 : (((2 : Nat) ^ (2 * k + 1) : Nat) : Int) = 2 ^ (2 * k + 1) := by norm_cast
    have h4 : 2 ^ k ≤ 2 ^ k * 2 ^ k := Nat.le_mul_of_pos_left _ (Nat.pow_pos (by decide))
    omega
  obtain ⟨h1, h2⟩ := S0_abs (B := 2 ^ (2 * k + 1)) hm (Int.le_of_lt (Int.pow_pos (by decide))) hb
  have h3 : ((2 : Int) ^ (2 * k + 1)) * (n.toNat : Int) ≤ 2 ^ (2 * k + 1) * 2 ^ k := Int.mul_le_mul_of_nonneg_left (by
    have h3 : (((2 : Nat) ^ k : Nat) : Int) = 2 ^ k := by norm_cast
    omega) (Int.le_of_lt (Int.pow_pos (by decide)))
  have h5 : ((2 : Int) ^ (2 * k + 1) * 2 ^ k) = 2 ^ (3 * k + 1) := by rw [← Int.pow_add, show 2 * k + 1 + k = 3 * k + 1 by omega]
  have h6 : (((2 : Nat) ^ (3 * k + 1) : Nat) : Int) = 2 ^ (3 * k + 1) := by norm_cast
  have h7 : (2 : Nat) ^ (3 * k + 2) = 2 ^ (3 * k + 1) * 2 := Nat.pow_succ ..
  have h8 : 0 < (2 : Nat) ^ (3 * k + 1) := Nat.pow_pos (by decide)
  omega
end Tm

/-! Rests along lines: how many are 0, and periods. -/
namespace Tm
/-- how many i below n are hit -/
def cnt (a c m : Int) (n : Nat) : Int := sm (fun i => ind (decide ((a * (i : Int) + c) % m = 0))) n
def rs (a c m : Int) (i : Nat) : Int := (a * (i : Int) + c) % m
theorem rs_fl (a c m : Int) (i : Nat) : rs a c m i = a * (i : Int) + c - m * fl a c m i := by
  unfold rs fl
  exact Int.emod_def _ _
theorem rs_sum (a c m : Int) (n : Nat) : sm (rs a c m) n = a * half n + c * n - m * S0 n a c m := by
  rw [sm_congr n fun i _ => rs_fl a c m i, sm_sub, sm_mul]
  have e : sm (fun i => a * (i : Int) + c) n = a * half n + c * n := by rw [sm_add, sm_mul, sm_const, half_sm]
  rw [e]
  rfl
theorem neg_div {x m : Int} (hm : 0 < m) : (-x) / m = -(x / m) - 1 + ind (decide (x % m = 0)) := by
  have h1 := Int.emod_nonneg x (show m ≠ 0 by omega)
  have h2 := Int.emod_lt_of_pos x hm
  have h3 := Int.mul_ediv_add_emod x m
  unfold ind
  by_cases h : x % m = 0
  · rw [decide_eq_true h, if_pos rfl]
    have e : -x = -(x / m) * m := by rw [Int.neg_mul, Int.mul_comm (x / m)]; omega
    rw [e, Int.mul_ediv_cancel _ (by omega)]
    omega
  · rw [decide_eq_false h, if_neg (by decide)]
    have e : -x = (m - x % m) + (-(x / m) - 1) * m := by
      rw [Int.sub_mul, Int.neg_mul, Int.mul_comm (x / m)]
      omega
    rw [e, Int.add_mul_ediv_right _ _ (by omega), Int.ediv_eq_zero_of_lt (by omega) (by omega)]
    omega
theorem fl_neg {a c m : Int} (hm : 0 < m) (i : Nat) : fl (0 - a) (0 - c) m i = - fl a c m i - 1 + ind (decide ((a * (i : Int) + c) % m = 0)) := by
  unfold fl
  have e : (0 - a) * (i : Int) + (0 - c) = -(a * (i : Int) + c) := by
    have : (0 - a) * (i : Int) = -(a * i) := by rw [Int.zero_sub, Int.neg_mul]
    omega
  rw [e, neg_div hm]
theorem S0_neg {a c m : Int} (hm : 0 < m) (n : Nat) : S0 n (0 - a) (0 - c) m = - S0 n a c m - n + cnt a c m n := by
  unfold S0 cnt
  rw [sm_congr n fun i _ => fl_neg hm i, sm_add, sm_sub, sm_neg, sm_const]
  omega
theorem cnt_neg (a c m : Int) (n : Nat) : cnt (0 - a) (0 - c) m n = cnt a c m n := by
  unfold cnt
  refine sm_congr n fun i _ => ?_
  have e : (0 - a) * (i : Int) + (0 - c) = -(a * (i : Int) + c) := by
    have : (0 - a) * (i : Int) = -(a * i) := by rw [Int.zero_sub, Int.neg_mul]
    omega
  rw [e]
  have e3 : ∀ x : Int, decide ((-x) % m = 0) = decide (x % m = 0) := fun x => decide_eq_decide.mpr (by rw [← Int.dvd_iff_emod_eq_zero, ← Int.dvd_iff_emod_eq_zero, Int.dvd_neg])
  rw [e3]
theorem pred_div {x k : Int} (hk : 0 < k) : (x - 1) / k = x / k - ind (decide (x % k = 0)) := by
  have h1 := Int.emod_nonneg x (show k ≠ 0 by omega)
  have h2 := Int.emod_lt_of_pos x hk
  have h3 := Int.mul_ediv_add_emod x k
  unfold ind
  by_cases h : x % k = 0
  · rw [decide_eq_true h, if_pos rfl]
    have e : x - 1 = (k - 1) + (x / k - 1) * k := by rw [Int.sub_mul, Int.mul_comm (x / k)]; omega
    rw [e, Int.add_mul_ediv_right _ _ (by omega), Int.ediv_eq_zero_of_lt (by omega) (by omega)]
    omega
  · rw [decide_eq_false h, if_neg (by decide)]
    have e : x - 1 = (x % k - 1) + (x / k) * k := by rw [Int.mul_comm (x / k)]; omega
    rw [e, Int.add_mul_ediv_right _ _ (by omega), Int.ediv_eq_zero_of_lt (by omega) (by omega)]
    omega
/-- one in each period -/
theorem cnt_per {f k : Int} (hk : 0 < k) (hf : 0 ≤ f) (hfk : f < k) : ∀ n : Nat, sm (fun i => ind (decide (((i : Int) - f) % k = 0))) n = ((n : Int) - 1 - f) / k + 1
  | 0 => by
    show (0 : Int) = _
    have e : ((0 : Nat) : Int) - 1 - f = (k - 1 - f) + (-1) * k := by omega
    rw [e, Int.add_mul_ediv_right _ _ (by omega), Int.ediv_eq_zero_of_lt (by omega) (by omega)]
    omega
  | n + 1 => by
    show sm (fun i => ind (decide (((i : Int) - f) % k = 0))) n + ind (decide (((n : Int) - f) % k = 0)) = _
    rw [cnt_per hk hf hfk n]
    have e : ((n + 1 : Nat) : Int) - 1 - f = (n : Int) - f := by omega
    rw [e]
    have e2 : (n : Int) - 1 - f = (n : Int) - f - 1 := by omega
    rw [e2, pred_div hk]
    omega
/-- which i are hit: none, or one in each period -/
theorem cnt_none {a c m g : Int} (hga : g ∣ a) (hgm : g ∣ m) (h : c % g ≠ 0) (n : Nat) : cnt a c m n = 0 := by
  unfold cnt
  have e : ∀ i, i < n → ind (decide ((a * (i : Int) + c) % m = 0)) = 0 := fun i _ => by
    unfold ind
    rw [if_neg]
    intro z
    have z := of_decide_eq_true z
    have d : m ∣ a * (i : Int) + c := Int.dvd_of_emod_eq_zero z
    have d2 : g ∣ a * (i : Int) + c := Int.dvd_trans hgm d
    have d3 : g ∣ a * (i : Int) := Int.dvd_mul_of_dvd_left hga
    exact h (Int.emod_eq_zero_of_dvd ((Int.dvd_add_right d3).mp d2))
  rw [sm_congr n e, sm_const, Int.zero_mul]
theorem cnt_some {a c g k v : Int} (hg : 0 < g) (hk : 0 < k) (hv : (a * v) % k = 1 % k) (n : Nat) : cnt (g * a) (g * c) (g * k) n = ((n : Int) - 1 - (-c * v) % k) / k + 1 := by
  have f0 := Int.emod_nonneg (-c * v) (show k ≠ 0 by omega)
  have f1 := Int.emod_lt_of_pos (-c * v) hk
  rw [← cnt_per hk f0 f1]
  unfold cnt
  refine sm_congr n fun i _ => ?_
  congr 1
  refine decide_eq_decide.mpr ?_
  have e1 : g * a * (i : Int) + g * c = g * (a * i + c) := by rw [Int.mul_add, Int.mul_assoc]
  rw [e1, Int.mul_emod_mul_of_pos _ _ hg]
  have hd : k ∣ a * v - 1 := Int.dvd_of_emod_eq_zero (Int.emod_eq_emod_iff_emod_sub_eq_zero.mp hv)
  have s1 : g * ((a * i + c) % k) = 0 ↔ k ∣ a * i + c := by
    constructor
    · intro z
      rcases Int.mul_eq_zero.mp z with q | q
      · omega
      · exact Int.dvd_of_emod_eq_zero q
    · intro z
      rw [Int.emod_eq_zero_of_dvd z, Int.mul_zero]
  rw [s1]
  have s2 : ((i : Int) - (-c * v) % k) % k = 0 ↔ k ∣ (i : Int) + c * v := by
    have e : (i : Int) - (-c * v) % k = ((i : Int) + c * v) + ((-c * v) / k) * k := by
      have := Int.emod_def (-c * v) k
      rw [this, Int.mul_comm k, Int.neg_mul]
      omega
    rw [e, Int.add_mul_emod_self_right]
    exact ⟨Int.dvd_of_emod_eq_zero, Int.emod_eq_zero_of_dvd⟩
  rw [s2]
  constructor
  · intro z
    have z2 : k ∣ v * (a * i + c) := Int.dvd_mul_of_dvd_right z
    have e : v * (a * i + c) = ((i : Int) + c * v) + (a * v - 1) * i := by
      rw [Int.mul_add, Int.sub_mul, Int.one_mul, ← Int.mul_assoc, Int.mul_comm v a, Int.mul_comm v c]
      omega
    rw [e] at z2
    exact (Int.dvd_add_left (Int.dvd_mul_of_dvd_left hd)).mp z2
  · intro z
    have z2 : k ∣ a * ((i : Int) + c * v) := Int.dvd_mul_of_dvd_right z
    have e : a * ((i : Int) + c * v) = (a * i + c) + (a * v - 1) * c := by
      rw [Int.mul_add, Int.sub_mul, Int.one_mul, ← Int.mul_assoc a c v, Int.mul_comm a c, Int.mul_assoc c a v, Int.mul_comm c (a * v)]
      omega
    rw [e] at z2
    exact (Int.dvd_add_left (Int.dvd_mul_of_dvd_left hd)).mp z2
theorem gcd_dvd_l (a m : Int) : ((a.natAbs.gcd m.natAbs : Nat) : Int) ∣ a := by
  have h : ((Int.gcd a m : Nat) : Int) ∣ a := by first | exact Int.gcd_dvd_left .. | exact Int.gcd_dvd_left
  exact h
theorem gcd_dvd_r (a m : Int) : ((a.natAbs.gcd m.natAbs : Nat) : Int) ∣ m := by
  have h : ((Int.gcd a m : Nat) : Int) ∣ m := by first | exact Int.gcd_dvd_right .. | exact Int.gcd_dvd_right
  exact h
theorem pos_right {g k : Int} (hg : 0 < g) (h : 1 ≤ g * k) : 0 < k := Int.not_le.mp fun z => by
  have := Int.mul_le_mul_of_nonneg_left z (Int.le_of_lt hg)
  rw [Int.mul_zero] at this
  omega
theorem rs_square (a c m : Int) (n : Nat) : sm (fun i => rs a c m i * rs a c m i) n =
    (a * a * sixth n + 2 * a * c * half n + c * c * n) - 2 * m * (a * S1 n a c m + c * S0 n a c m) + m * m * S2 n a c m := by
  have e : ∀ i, i < n → rs a c m i * rs a c m i = (((a * a * ((i : Int) * i) + 2 * a * c * (i : Int)) + c * c) - 2 * m * (a * ((i : Int) * fl a c m i) + c * fl a c m i)) + m * m * (fl a c m i * fl a c m i) := fun i _ => by
    rw [rs_fl]
    generalize fl a c m i = f
    generalize (i : Int) = x
    simp only [Int.mul_add, Int.add_mul, Int.mul_sub, Int.sub_mul]
    have r1 : a * x * (a * x) = a * a * (x * x) := by rw [Int.mul_assoc, ← Int.mul_assoc x a x, Int.mul_comm x a, Int.mul_assoc a x x, ← Int.mul_assoc]
    have r2 : c * (a * x) = a * c * x := by rw [← Int.mul_assoc, Int.mul_comm c a]
    have r3 : a * x * c = a * c * x := by rw [Int.mul_assoc, Int.mul_comm x c, ← Int.mul_assoc]
    have r4 : m * f * (a * x) = m * (a * (x * f)) := by rw [Int.mul_assoc, ← Int.mul_assoc f a x, Int.mul_comm f a, Int.mul_assoc a f x, Int.mul_comm f x]
    have r5 : a * x * (m * f) = m * (a * (x * f)) := by rw [Int.mul_comm, r4]
    have r6 : m * f * c = m * (c * f) := by rw [Int.mul_assoc, Int.mul_comm f c]
    have r7 : c * (m * f) = m * (c * f) := by rw [Int.mul_comm, r6]
    have r8 : m * f * (m * f) = m * m * (f * f) := by rw [Int.mul_assoc, ← Int.mul_assoc f m f, Int.mul_comm f m, Int.mul_assoc m f f, ← Int.mul_assoc]
    have r9 : 2 * a * c * x = 2 * (a * c * x) := by rw [Int.mul_assoc 2 a c, Int.mul_assoc 2 (a * c) x]
    have r10 : 2 * m * (a * (x * f)) = 2 * (m * (a * (x * f))) := Int.mul_assoc ..
    have r11 : 2 * m * (c * f) = 2 * (m * (c * f)) := Int.mul_assoc ..
    rw [r1, r2, r3, r4, r5, r6, r7, r8, r9, r10, r11]
    omega
  rw [sm_congr n e, sm_add, sm_sub, sm_add, sm_add, sm_mul, sm_mul, sm_const, sm_mul, sm_add, sm_mul, sm_mul, sm_mul, half_sm, sixth_sm]
  rfl
theorem cnt_lt {n a c m : Int} {k : Nat} (hn : 0 ≤ n) (kn : n.natAbs < 2 ^ k) : (cnt a c m n.toNat).natAbs < 2 ^ k := by
  have : ∀ j : Nat, 0 ≤ cnt a c m j ∧ cnt a c m j ≤ j := by
    intro j
    induction j with
    | zero => exact ⟨Int.le_refl 0, Int.le_refl 0⟩
    | succ j ih =>
      have e : cnt a c m (j + 1) = cnt a c m j + ind (decide ((a * (j : Int) + c) % m = 0)) := rfl
      have h : 0 ≤ ind (decide ((a * (j : Int) + c) % m = 0)) ∧ ind (decide ((a * (j : Int) + c) % m = 0)) ≤ 1 := by
        unfold ind
        split <;> omega
      rw [e]
      omega
  have := this n.toNat
  omega
theorem fl_abs {n : Nat} {a c m B : Int} (hm : 0 < m) (hB : 0 ≤ B) (h : ∀ i : Nat, i < n → -B ≤ a * i + c ∧ a * i + c ≤ B) : ∀ i, i < n → (fl a c m i).natAbs ≤ B.natAbs := fun i hi => by
  have := div_abs hm hB (h i hi)
  unfold fl
  omega
theorem line_abs {n a c : Int} {k : Nat} (ka : a.natAbs < 2 ^ k) (kc : c.natAbs < 2 ^ k) (kn : n.natAbs < 2 ^ k) : ∀ i : Nat, i < n.toNat → -(2 ^ (2 * k + 1) : Int) ≤ a * i + c ∧ a * i + c ≤ 2 ^ (2 * k + 1) := fun i hi => by
  have h1 : (a * i).natAbs ≤ 2 ^ k * 2 ^ k := by
    rw [Int.natAbs_mul]
    exact Nat.mul_le_mul (by omega) (by omega)
  have h2 : (2 : Nat) ^ (2 * k + 1) = 2 ^ k * 2 ^ k * 2 := by rw [Nat.pow_succ, Nat.two_mul, Nat.pow_add]
  have h3 : (((2 : Nat) ^ (2 * k + 1) : Nat) : Int) = 2 ^ (2 * k + 1) := by norm_cast
  have h4 : 2 ^ k ≤ 2 ^ k * 2 ^ k := Nat.le_mul_of_pos_left _ (Nat.pow_pos (by decide))
  omega
theorem sm_nat {f : Nat → Int} {B : Nat} (n : Nat) (h : ∀ i, i < n → (f i).natAbs ≤ B) : (sm f n).natAbs ≤ B * n := by
  have := sm_bound (B := (B : Int)) n (f := f) fun i hi => by
    have := h i hi
    omega
  have e : (B : Int) * (n : Int) = ((B * n : Nat) : Int) := by norm_cast
  rw [e] at this
  omega
theorem pow_bits {k : Nat} : (2 : Nat) ^ (2 * k + 1) * 2 ^ k * 2 ^ k ≤ 2 ^ (4 * k + 1) ∧ (2 : Nat) ^ (2 * k + 1) * 2 ^ (2 * k + 1) * 2 ^ k ≤ 2 ^ (5 * k + 2) := by
  rw [← Nat.pow_add, ← Nat.pow_add, ← Nat.pow_add, ← Nat.pow_add]
  exact ⟨Nat.pow_le_pow_right (by decide) (by omega), Nat.pow_le_pow_right (by decide) (by omega)⟩
theorem S1_lt {n a c m : Int} {k : Nat} (hm : 0 < m) (hn : 0 ≤ n) (ka : a.natAbs < 2 ^ k) (kc : c.natAbs < 2 ^ k) (kn : n.natAbs < 2 ^ k) : (S1 n.toNat a c m).natAbs < 2 ^ (4 * k + 2) := by
  have hf := fl_abs (n := n.toNat) (a := a) (c := c) (m := m) hm (Int.le_of_lt (Int.pow_pos (by decide))) (line_abs ka kc kn)
  have e : ((2 : Int) ^ (2 * k + 1)).natAbs = 2 ^ (2 * k + 1) := by rw [Int.natAbs_pow]; rfl
  rw [e] at hf
  have h := sm_nat (f := fun i => (i : Int) * fl a c m i) (B := 2 ^ (2 * k + 1) * 2 ^ k) n.toNat fun i hi => by
    rw [Int.natAbs_mul, Nat.mul_comm]
    exact Nat.mul_le_mul (hf i hi) (by rw [Int.natAbs_natCast]; omega)
  have h2 : 2 ^ (2 * k + 1) * 2 ^ k * n.toNat ≤ 2 ^ (2 * k + 1) * 2 ^ k * 2 ^ k := Nat.mul_le_mul_left _ (by omega)
  have h3 := (pow_bits (k := k)).1
  have h4 : (2 : Nat) ^ (4 * k + 1) < 2 ^ (4 * k + 2) := Nat.pow_lt_pow_right (by decide) (by omega)
  unfold S1
  omega
theorem S2_lt {n a c m : Int} {k : Nat} (hm : 0 < m) (hn : 0 ≤ n) (ka : a.natAbs < 2 ^ k) (kc : c.natAbs < 2 ^ k) (kn : n.natAbs < 2 ^ k) : (S2 n.toNat a c m).natAbs < 2 ^ (5 * k + 3) := by
  have hf := fl_abs (n := n.toNat) (a := a) (c := c) (m := m) hm (Int.le_of_lt (Int.pow_pos (by decide))) (line_abs ka kc kn)
  have e : ((2 : Int) ^ (2 * k + 1)).natAbs = 2 ^ (2 * k + 1) := by rw [Int.natAbs_pow]; rfl
  rw [e] at hf
  have h := sm_nat (f := fun i => fl a c m i * fl a c m i) (B := 2 ^ (2 * k + 1) * 2 ^ (2 * k + 1)) n.toNat fun i hi => by
    rw [Int.natAbs_mul]
    exact Nat.mul_le_mul (hf i hi) (hf i hi)
  have h2 : 2 ^ (2 * k + 1) * 2 ^ (2 * k + 1) * n.toNat ≤ 2 ^ (2 * k + 1) * 2 ^ (2 * k + 1) * 2 ^ k := Nat.mul_le_mul_left _ (by omega)
  have h3 := (pow_bits (k := k)).2
  have h4 : (2 : Nat) ^ (5 * k + 2) < 2 ^ (5 * k + 3) := Nat.pow_lt_pow_right (by decide) (by omega)
  unfold S2
  omega
end Tm

/-! Rests over whole periods. -/
namespace Tm
theorem sm_pick (f : Nat → Int) (r : Nat) : ∀ k : Nat, r < k → sm (fun j => f j * ind (decide (r = j))) k = f r
  | 0, h => absurd h (Nat.not_lt_zero _)
  | k + 1, h => by
    show sm (fun j => f j * ind (decide (r = j))) k + f k * ind (decide (r = k)) = f r
    by_cases e : r = k
    · subst e
      have z : sm (fun j => f j * ind (decide (r = j))) r = sm (fun _ => 0) r := sm_congr _ fun j hj => by
        unfold ind
        rw [decide_eq_false (by omega), if_neg (by decide), Int.mul_zero]
      rw [z, sm_const]
      unfold ind
      rw [decide_eq_true rfl, if_pos rfl]
      omega
    · rw [sm_pick f r k (by omega)]
      unfold ind
      rw [decide_eq_false e, if_neg (by decide)]
      omega
theorem one_div {k f : Int} (hk : 0 < k) (f0 : 0 ≤ f) (f1 : f < k) (t : Int) : (k * t - 1 - f) / k + 1 = t := by
  have e : k * t - 1 - f = (k - 1 - f) + (t - 1) * k := by rw [Int.sub_mul, Int.mul_comm t]; omega
  rw [e, Int.add_mul_ediv_right _ _ (by omega), Int.ediv_eq_zero_of_lt (by omega) (by omega)]
  omega
/-- each rest once in a period -/
theorem perm_sum {a c v : Int} {k : Nat} (hk : 0 < k) (hv : (a * v) % k = 1 % k) (f : Nat → Int) : sm (fun i => f ((a * (i : Int) + c) % k).toNat) k = sm f k := by
  have e1 : ∀ i, i < k → f ((a * (i : Int) + c) % k).toNat = sm (fun j => f j * ind (decide (((a * (i : Int) + c) % k).toNat = j))) k := fun i _ => by
    have h1 := Int.emod_nonneg (a * (i : Int) + c) (show (k : Int) ≠ 0 by omega)
    have h2 := Int.emod_lt_of_pos (a * (i : Int) + c) (show 0 < (k : Int) by omega)
    rw [sm_pick f _ k (by omega)]
  rw [sm_congr k e1, sm_swap]
  refine sm_congr k fun j hj => ?_
  rw [sm_mul]
  have e2 : sm (fun i => ind (decide (((a * (i : Int) + c) % k).toNat = j))) k = cnt (1 * a) (1 * (c - j)) (1 * (k : Int)) k := by
    unfold cnt
    refine sm_congr k fun i _ => ?_
    have h1 := Int.emod_nonneg (a * (i : Int) + c) (show (k : Int) ≠ 0 by omega)
    have h2 := Int.emod_lt_of_pos (a * (i : Int) + c) (show 0 < (k : Int) by omega)
    congr 1
    refine decide_eq_decide.mpr ?_
    rw [Int.one_mul, Int.one_mul, Int.one_mul]
    have e3 : a * (i : Int) + (c - j) = (a * (i : Int) + c) - j := by omega
    rw [e3]
    constructor
    · intro z
      have z2 : (a * (i : Int) + c) % k = (j : Int) := by omega
      have z3 : (a * (i : Int) + c) % k = (j : Int) % k := by rw [z2, Int.emod_eq_of_lt (by omega) (by omega)]
      exact Int.emod_eq_emod_iff_emod_sub_eq_zero.mp z3
    · intro z
      have z3 : (a * (i : Int) + c) % k = (j : Int) % k := Int.emod_eq_emod_iff_emod_sub_eq_zero.mpr z
      rw [Int.emod_eq_of_lt (show (0 : Int) ≤ j by omega) (by omega)] at z3
      omega
  rw [e2, cnt_some (v := v) (by decide) (by omega) hv]
  have h3 := Int.emod_nonneg (-(c - j) * v) (show (k : Int) ≠ 0 by omega)
  have h4 := Int.emod_lt_of_pos (-(c - j) * v) (show 0 < (k : Int) by omega)
  have := one_div (k := (k : Int)) (by omega) h3 h4 1
  rw [Int.mul_one] at this
  rw [this, Int.mul_one]
theorem per_sum {g : Nat → Int} {k : Nat} (h : ∀ i, g (k + i) = g i) : ∀ t : Nat, sm g (k * t) = t * sm g k
  | 0 => by simp [sm]
  | t + 1 => by
    have e : k * (t + 1) = k + k * t := by rw [Nat.mul_add, Nat.mul_one, Nat.add_comm]
    rw [e, sm_app, sm_congr (k * t) fun i _ => h i, per_sum h t, Int.natCast_add, Int.add_mul]
    simp
    omega
/-- a rest is the least one and so many common factors -/
theorem rs_split {a c l g k : Int} (hg : 0 < g) (hk : 0 < k) (l0 : 0 ≤ l) (l1 : l < g) (i : Nat) : rs (g * a) (g * c + l) (g * k) i = l + g * ((a * (i : Int) + c) % k) := by
  unfold rs
  have e : g * a * (i : Int) + (g * c + l) = l + g * (a * i + c) := by rw [Int.mul_add, Int.mul_assoc]; omega
  rw [e]
  have h1 := Int.emod_nonneg (a * (i : Int) + c) (show k ≠ 0 by omega)
  have h2 := Int.emod_lt_of_pos (a * (i : Int) + c) hk
  have h3 := Int.mul_ediv_add_emod (a * (i : Int) + c) k
  generalize (a * (i : Int) + c) / k = q at *
  generalize (a * (i : Int) + c) % k = r at *
  rw [← h3]
  have e2 : l + g * (k * q + r) = (l + g * r) + g * k * q := by rw [Int.mul_add, ← Int.mul_assoc]; omega
  have h4 : g * r ≤ g * (k - 1) := Int.mul_le_mul_of_nonneg_left (by omega) (by omega)
  have h5 : 0 ≤ g * r := Int.mul_nonneg (by omega) h1
  rw [Int.mul_sub] at h4
  rw [e2, Int.add_mul_emod_self_left, Int.emod_eq_of_lt (by omega) (by omega)]
theorem rs_per {a c m : Int} {k i : Nat} (h : m ∣ a * (k : Int)) : rs a c m (k + i) = rs a c m i := by
  unfold rs
  obtain ⟨q, e⟩ := h
  rw [Int.natCast_add, Int.mul_add, e, Int.add_assoc, Int.add_comm, Int.add_mul_emod_self_left]
section
variable {a c l g v : Int} {k : Nat} (hg : 0 < g) (hk : 0 < k) (l0 : 0 ≤ l) (l1 : l < g) (hv : (a * v) % k = 1 % k) (t : Nat)
include hg hk l0 l1 hv
theorem rs_all (F : Int → Int) : sm (fun i => F (rs (g * a) (g * c + l) (g * k) i)) (k * t) = t * sm (fun j => F (l + g * (j : Int))) k := by
  rw [per_sum (k := k) fun i => by
    show F (rs _ _ _ (k + i)) = F (rs _ _ _ i)
    rw [rs_per ⟨a, by rw [Int.mul_assoc, Int.mul_assoc, Int.mul_comm a]⟩]]
  congr 1
  rw [← perm_sum (c := c) hk hv fun j => F (l + g * (j : Int))]
  refine sm_congr k fun i _ => ?_
  have h1 := Int.emod_nonneg (a * (i : Int) + c) (show (k : Int) ≠ 0 by omega)
  rw [rs_split hg (by omega) l0 l1, show ((((a * (i : Int) + c) % k).toNat : Nat) : Int) = (a * (i : Int) + c) % k by omega]
theorem rs_one : sm (rs (g * a) (g * c + l) (g * k)) (k * t) = t * (g * half k + l * k) := by
  have h := rs_all (c := c) hg hk l0 l1 hv t fun x => x
  rw [h, sm_add, sm_const, sm_mul, half_sm]
  congr 1
  omega
theorem rs_two : sm (fun i => rs (g * a) (g * c + l) (g * k) i * rs (g * a) (g * c + l) (g * k) i) (k * t) = t * (g * g * sixth k + l * l * k + g * l * k * ((k : Int) - 1)) := by
  have h := rs_all (c := c) hg hk l0 l1 hv t fun x => x * x
  rw [h]
  congr 1
  have e : ∀ j, j < k → (l + g * (j : Int)) * (l + g * (j : Int)) = (l * l + 2 * (g * l) * (j : Int)) + g * g * ((j : Int) * j) := fun j _ => by
    generalize (j : Int) = x
    simp only [Int.mul_add, Int.add_mul]
    have r1 : l * (g * x) = g * l * x := by rw [← Int.mul_assoc, Int.mul_comm l g]
    have r2 : g * x * l = g * l * x := by rw [Int.mul_assoc, Int.mul_comm x l, ← Int.mul_assoc]
    have r3 : g * x * (g * x) = g * g * (x * x) := by rw [Int.mul_assoc, ← Int.mul_assoc x g x, Int.mul_comm x g, Int.mul_assoc g x x, ← Int.mul_assoc]
    have r4 : 2 * (g * l) * x = 2 * (g * l * x) := Int.mul_assoc ..
    rw [r1, r2, r3, r4]
    omega
  rw [sm_congr k e, sm_add, sm_add, sm_const, sm_mul, sm_mul, half_sm, sixth_sm]
  have e2 : 2 * (g * l) * half k = g * l * k * ((k : Int) - 1) := by
    have h2 := sm_id k
    rw [half_sm] at h2
    rw [Int.mul_comm 2, Int.mul_assoc, h2, ← Int.mul_assoc]
  rw [e2]
  omega
theorem cnt_all : cnt (g * a) (g * c + l) (g * k) (k * t) = t * (if l = 0 then 1 else 0) := by
  by_cases h : l = 0
  · subst h
    rw [if_pos rfl, Int.add_zero, cnt_some (v := v) hg (by omega) hv]
    have h3 := Int.emod_nonneg (-c * v) (show (k : Int) ≠ 0 by omega)
    have h4 := Int.emod_lt_of_pos (-c * v) (show 0 < (k : Int) by omega)
    have := one_div (k := (k : Int)) (by omega) h3 h4 t
    rw [Int.natCast_mul, this, Int.mul_one]
  · rw [if_neg h, Int.mul_zero]
    refine cnt_none (g := g) ⟨a, rfl⟩ ⟨k, rfl⟩ ?_ _
    rw [Int.add_comm, Int.add_mul_emod_self_left, Int.emod_eq_of_lt l0 l1]
    exact h
end
end Tm
namespace Tm
theorem sum_range (f : Nat → Int) : ∀ n : Nat, ((List.range n).map f).sum = sm f n
  | 0 => rfl
  | n + 1 => by
    rw [List.range_succ, List.map_append, List.sum_append, sum_range f n]
    show sm f n + (f n + 0) = sm f n + f n
    omega
/-- how many are 0 -/
theorem cnt_filter (a c m : Int) : ∀ n : Nat, ((((List.range n).map (rs a c m)).filter fun x => decide (x = 0)).length : Int) = cnt a c m n
  | 0 => rfl
  | n + 1 => by
    rw [List.range_succ, List.map_append, List.filter_append, List.length_append, Int.natCast_add, cnt_filter a c m n]
    show cnt a c m n + ((List.filter (fun x => decide (x = 0)) [rs a c m n]).length : Int) = cnt a c m n + ind (decide ((a * (n : Int) + c) % m = 0))
    congr 1
    unfold ind
    by_cases h : (a * (n : Int) + c) % m = 0
    · rw [decide_eq_true h, if_pos rfl, List.filter_cons_of_pos (by show decide (rs a c m n = 0) = true; exact decide_eq_true h)]
      rfl
    · rw [decide_eq_false h, if_neg (by decide), List.filter_cons_of_neg (by show ¬ decide (rs a c m n = 0) = true; rw [decide_eq_true_iff]; exact h)]
      rfl
/-- the teeth of the rests -/
theorem teeth_filter (a c m : Int) : ∀ n : Nat, ((((List.range n).map (rs a c m)).filter fun x => !decide (x = 0)).map fun x => 2 * x - m).sum = 2 * sm (rs a c m) n - ((n : Int) - cnt a c m n) * m
  | 0 => by
    show (0 : Int) = 2 * 0 - (((0 : Nat) : Int) - 0) * m
    simp
  | n + 1 => by
    rw [List.range_succ, List.map_append, List.filter_append, List.map_append, List.sum_append, teeth_filter a c m n]
    show _ + (List.map (fun x => 2 * x - m) (List.filter (fun x => !decide (x = 0)) [rs a c m n])).sum = 2 * (sm (rs a c m) n + rs a c m n) - (((n + 1 : Nat) : Int) - (cnt a c m n + ind (decide ((a * (n : Int) + c) % m = 0)))) * m
    unfold ind
    by_cases h : (a * (n : Int) + c) % m = 0
    · have h' : rs a c m n = 0 := h
      rw [decide_eq_true h, if_pos rfl, List.filter_cons_of_neg (by rw [decide_eq_true h']; decide), h']
      show _ + (0 : Int) = _
      have e : ((n + 1 : Nat) : Int) - (cnt a c m n + 1) = (n : Int) - cnt a c m n := by omega
      rw [e]
      omega
    · have h' : ¬ rs a c m n = 0 := h
      rw [decide_eq_false h, if_neg (by decide), List.filter_cons_of_pos (by rw [decide_eq_false h']; rfl)]
      show _ + ((2 * rs a c m n - m) + 0) = _
      have e : ((n + 1 : Nat) : Int) - (cnt a c m n + 0) = ((n : Int) - cnt a c m n) + 1 := by omega
      rw [e, Int.add_mul]
      omega
end Tm
namespace Tm
theorem cnt_range (a c m : Int) : ∀ j : Nat, 0 ≤ cnt a c m j ∧ cnt a c m j ≤ j
  | 0 => ⟨Int.le_refl 0, Int.le_refl 0⟩
  | j + 1 => by
    have ih := cnt_range a c m j
    have e : cnt a c m (j + 1) = cnt a c m j + ind (decide ((a * (j : Int) + c) % m = 0)) := rfl
    have h : 0 ≤ ind (decide ((a * (j : Int) + c) % m = 0)) ∧ ind (decide ((a * (j : Int) + c) % m = 0)) ≤ 1 := by
      unfold ind
      split <;> omega
    rw [e]
    omega
theorem teeth_abs {a c m : Int} (hm : 0 < m) (n : Nat) : (2 * sm (rs a c m) n - ((n : Int) - cnt a c m n) * m).natAbs ≤ 3 * (m.natAbs * n) := by
  have h1 := sm_nat (f := rs a c m) (B := m.natAbs) n fun i _ => by
    have := Int.emod_nonneg (a * (i : Int) + c) (show m ≠ 0 by omega)
    have := Int.emod_lt_of_pos (a * (i : Int) + c) hm
    unfold rs
    omega
  have h2 := cnt_range a c m n
  have h3 : (((n : Int) - cnt a c m n) * m).natAbs ≤ m.natAbs * n := by
    rw [Int.natAbs_mul, Nat.mul_comm]
    exact Nat.mul_le_mul_left _ (by omega)
  omega
end Tm

/-! Digits of great numbers, put together. -/
namespace Tm
def dg (n : Nat) : List Char := Nat.toDigits 10 n
/-- with zeros in front, at least k signs -/
def pad (k n : Nat) : List Char := List.replicate (k - (dg n).length) '0' ++ dg n
theorem dg_step {n d : Nat} (hn : 0 < n) (hd : d < 10) : dg (10 * n + d) = dg n ++ dg d := (Nat.toDigits_append_toDigits (by decide) hn hd).symm
theorem dg_lt {d : Nat} (h : d < 10) : dg d = [d.digitChar] := Nat.toDigits_of_lt_base h
theorem dg_len_lt : ∀ (k n : Nat), n < 10 ^ (k + 1) → (dg n).length ≤ k + 1
  | 0, n, h => by
    rw [dg_lt (by simpa using h)]
    exact Nat.le_refl _
  | k + 1, n, h => by
    by_cases q : n < 10
    · rw [dg_lt q]
      simp
    · have e : n = 10 * (n / 10) + n % 10 := by omega
      have e2 : (10 : Nat) ^ (k + 1 + 1) = 10 ^ (k + 1) * 10 := Nat.pow_succ ..
      rw [e, dg_step (by omega) (by omega), List.length_append, dg_lt (show n % 10 < 10 by omega)]
      have := dg_len_lt k (n / 10) (by omega)
      simp only [List.length_cons, List.length_nil]
      omega
theorem pad_step {k r : Nat} (hr : r < 10 ^ (k + 2)) : pad (k + 2) r = pad (k + 1) (r / 10) ++ dg (r % 10) := by
  unfold pad
  by_cases q : r < 10
  · have e0 : r / 10 = 0 := by omega
    have e1 : r % 10 = r := by omega
    rw [e0, e1, dg_lt q, dg_lt (show 0 < 10 by decide)]
    simp only [List.length_cons, List.length_nil]
    rw [show k + 2 - (0 + 1) = k + 1 by omega, show k + 1 - (0 + 1) = k by omega, List.replicate_succ']
    rfl
  · have e : r = 10 * (r / 10) + r % 10 := by omega
    have e3 : dg r = dg (r / 10) ++ dg (r % 10) := by
      conv => lhs; rw [e]
      exact dg_step (by omega) (by omega)
    have e4 : (dg (r % 10)).length = 1 := by rw [dg_lt (by omega)]; rfl
    rw [e3, List.length_append, e4, show k + 2 - ((dg (r / 10)).length + 1) = k + 1 - (dg (r / 10)).length by omega, List.append_assoc]
theorem dg_pad {n : Nat} (hn : 0 < n) : ∀ (k r : Nat), r < 10 ^ (k + 1) → dg (n * 10 ^ (k + 1) + r) = dg n ++ pad (k + 1) r
  | 0, r, h => by
    have h' : r < 10 := by simpa using h
    have e : n * 10 ^ (0 + 1) + r = 10 * n + r := by
      rw [show (10 : Nat) ^ (0 + 1) = 10 from rfl]
      omega
    rw [e, dg_step hn h']
    unfold pad
    rw [dg_lt h']
    rfl
  | k + 1, r, h => by
    have e2 : (10 : Nat) ^ (k + 1 + 1) = 10 ^ (k + 1) * 10 := Nat.pow_succ ..
    have e : n * 10 ^ (k + 1 + 1) + r = 10 * (n * 10 ^ (k + 1) + r / 10) + r % 10 := by
      rw [e2, ← Nat.mul_assoc]
      omega
    have hp : 0 < n * 10 ^ (k + 1) := Nat.mul_pos hn (Nat.pow_pos (by decide))
    rw [e, dg_step (by omega) (by omega), dg_pad hn k (r / 10) (by omega), List.append_assoc, pad_step h]
theorem pad_len {k r : Nat} (h : r < 10 ^ (k + 1)) : (pad (k + 1) r).length = k + 1 := by
  unfold pad
  have := dg_len_lt k r h
  rw [List.length_append, List.length_replicate]
  omega
end Tm

namespace Tm
theorem opp_div {x k : Int} (hk : 0 < k) : (-x - 1) / k = -(x / k) - 1 := by
  have h0 := Int.mul_ediv_add_emod x k
  have h1 := Int.emod_nonneg x (show k ≠ 0 by omega)
  have h2 := Int.emod_lt_of_pos x hk
  have e : -x - 1 = (k - 1 - x % k) + (-(x / k) - 1) * k := by
    rw [Int.sub_mul, Int.neg_mul, Int.one_mul, Int.mul_comm (x / k) k]
    omega
  rw [e, Int.add_mul_ediv_right _ _ (by omega), Int.ediv_eq_zero_of_lt (by omega) (by omega)]
  omega
theorem S0_turned {n h a c m : Int} (ha : 0 < a) (h0 : 0 ≤ h) (eh : h = (a * n + c) / m) : S0 h.toNat m (m - c - 1 + a) a = n * h - S0 h.toNat m ((a * n + c) % m) a := by
  have e0 : m * h + (a * n + c) % m = a * n + c := by
    rw [eh]
    exact Int.mul_ediv_add_emod _ _
  generalize (a * n + c) % m = r at *
  unfold S0
  rw [← sm_rev (fl m (m - c - 1 + a) a) h.toNat]
  have e1 : sm (fun i => fl m (m - c - 1 + a) a (h.toNat - 1 - i)) h.toNat = sm (fun i => n - fl m r a i) h.toNat := sm_congr _ fun i hi => by
    unfold fl
    have e2 : ((h.toNat - 1 - i : Nat) : Int) = h - 1 - i := by omega
    have e3 : m * (h - 1 - (i : Int)) + (m - c - 1 + a) = (-(m * (i : Int) + r) - 1) + (n + 1) * a := by
      simp only [Int.mul_sub, Int.add_mul, Int.mul_one, Int.one_mul]
      rw [Int.mul_comm n a]
      omega
    rw [e2, e3, Int.add_mul_ediv_right _ _ (by omega), opp_div ha]
    omega
  rw [e1, sm_sub, sm_const, show ((h.toNat : Nat) : Int) = h by omega]
/-- one turn of a total of floors: the line's other axis -/
theorem floor_go {n a c m : Int} (hm : 0 < m) (hn : 0 ≤ n) (ha : 0 < a % m) : S0 n.toNat a c m = ((a / m) * half n + (c / m) * n) + S0 (((a % m) * n + c % m) / m).toNat m (((a % m) * n + c % m) % m) (a % m) := by
  obtain ⟨q0, _⟩ := high_le (a := a) (c := c) hm hn
  rw [area_step hm hn ha, S0_turned ha q0 rfl]
  omega
theorem floor_pos {n a c m : Int} (hm : 0 < m) (hn : 0 ≤ n) (h : ((a % m) * n + c % m) / m ≠ 0) : 0 < a % m := by
  have h1 := Int.emod_nonneg a (show m ≠ 0 by omega)
  have h3 := Int.emod_nonneg c (show m ≠ 0 by omega)
  have h4 := Int.emod_lt_of_pos c hm
  by_cases z : a % m = 0
  · rw [z, Int.zero_mul, Int.zero_add, Int.ediv_eq_zero_of_lt h3 h4] at h
    exact absurd rfl h
  · omega
end Tm

namespace Tm
/-! An inverse by remainders whose lower digits hold what the first number was multiplied by. -/
def IvN (a b B U L : Int) : Prop := ∃ r0 r1 s0 s1 : Int, U = r0 * B - s0 ∧ L = r1 * B + s1 ∧ 0 ≤ s0 ∧ 0 < s1 ∧ 0 ≤ r1 ∧ r1 < r0 ∧ r0 * s1 + r1 * s0 = b ∧ b ∣ (r0 + a * s0) ∧ b ∣ (r1 - a * s1) ∧ Int.gcd r0 r1 = Int.gcd a b
def IvE (a b B U L : Int) : Prop := ∃ g s t : Int, U = g * B + s - t ∧ L = t ∧ g * t = b ∧ 0 < t ∧ 0 < g ∧ b ∣ (g - a * s) ∧ (Int.gcd a b : Int) = g
theorem gcd_mod (x y : Int) : Int.gcd (x % y) y = Int.gcd x y := by
  have h := Int.mul_ediv_add_emod x y
  refine Nat.dvd_antisymm ?_ ?_
  · refine Int.dvd_gcd ?_ (Int.gcd_dvd_right ..)
    have h1 : ((Int.gcd (x % y) y : Nat) : Int) ∣ y * (x / y) := Int.dvd_trans (Int.gcd_dvd_right ..) (Int.dvd_mul_right ..)
    have h2 : ((Int.gcd (x % y) y : Nat) : Int) ∣ x % y := Int.gcd_dvd_left ..
    have h3 := Int.dvd_add h1 h2
    rwa [h] at h3
  · refine Int.dvd_gcd ?_ (Int.gcd_dvd_right ..)
    have h1 : ((Int.gcd x y : Nat) : Int) ∣ y * (x / y) := Int.dvd_trans (Int.gcd_dvd_right ..) (Int.dvd_mul_right ..)
    have h2 : ((Int.gcd x y : Nat) : Int) ∣ x := Int.gcd_dvd_left ..
    have h3 := Int.dvd_sub h2 h1
    have e : x - y * (x / y) = x % y := by omega
    rwa [e] at h3
theorem mul_ge {x y : Int} (hx : 1 ≤ x) (hy : 0 ≤ y) : y ≤ x * y := by
  have := Int.mul_le_mul_of_nonneg_right hx hy
  omega
theorem ivN_start {a b B : Int} (hb : 0 < b) : IvN a b B (b * B) (a % b * B + 1) := by
  have h1 := Int.emod_nonneg a (show b ≠ 0 by omega)
  have h2 := Int.emod_lt_of_pos a hb
  refine ⟨b, a % b, 0, 1, by omega, rfl, by omega, by omega, h1, h2, by omega, ⟨1, by omega⟩, ⟨-(a / b), ?_⟩, ?_⟩
  · have := Int.mul_ediv_add_emod a b
    rw [Int.mul_neg]
    omega
  · rw [Int.gcd_comm, gcd_mod]
theorem ivN_go {a b B U L : Int} (hb : 0 < b) (hB : 4 * b < B) (h : IvN a b B U L) (hl : b < L) : 0 < U % L ∧ 0 ≤ L % (U % L) ∧ L % (U % L) < L ∧ (IvN a b B (U % L) (L % (U % L)) ∨ IvE a b B (U % L) (L % (U % L))) := by
  obtain ⟨r0, r1, s0, s1, rfl, rfl, p1, p2, p3, p4, d, c0, c1, g⟩ := h
  have s1b : s1 ≤ b := by
    have h1 := mul_ge (x := r0) (y := s1) (by omega) (by omega)
    have h2 := Int.mul_nonneg p3 p1
    omega
  have q1 : 1 ≤ r1 := by
    rcases Int.lt_or_le r1 1 with z | z
    · have : r1 = 0 := by omega
      subst this
      omega
    · exact z
  have s0b : s0 ≤ b := by
    have h1 := mul_ge (x := r1) (y := s0) q1 p1
    have h2 := Int.mul_nonneg (show 0 ≤ r0 by omega) (show 0 ≤ s1 by omega)
    omega
  have LB : B ≤ r1 * B := mul_ge q1 (by omega)
  have e0 := Int.mul_ediv_add_emod r0 r1
  have m0 := Int.emod_nonneg r0 (show r1 ≠ 0 by omega)
  have m1 := Int.emod_lt_of_pos r0 (show 0 < r1 by omega)
  have k0 : 1 ≤ r0 / r1 := Int.le_ediv_of_mul_le (by omega) (by omega)
  generalize hk : r0 / r1 = k at *
  generalize hr : r0 % r1 = r2 at *
  have gg : Int.gcd r1 r2 = Int.gcd a b := by
    rw [← g, ← hr, Int.gcd_comm r1, gcd_mod]
  -- what is taken away
  have t0 : 0 < s0 + k * s1 := by
    have := mul_ge k0 (show 0 ≤ s1 by omega)
    omega
  have d2 : r1 * (s0 + k * s1) + r2 * s1 = b := by
    have e : r0 * s1 = r1 * (k * s1) + r2 * s1 := by
      rw [← e0, Int.add_mul, Int.mul_assoc]
    rw [Int.mul_add]
    omega
  have c2 : b ∣ (r2 + a * (s0 + k * s1)) := by
    obtain ⟨x, hx⟩ := c0
    obtain ⟨y, hy⟩ := c1
    refine ⟨x - k * y, ?_⟩
    have e1 : b * (x - k * y) = b * x - k * (b * y) := by
      rw [Int.mul_sub, ← Int.mul_assoc, ← Int.mul_assoc, Int.mul_comm b k]
    rw [e1, ← hx, ← hy, Int.mul_sub, Int.mul_add]
    have e2 : a * (k * s1) = k * (a * s1) := by rw [← Int.mul_assoc, Int.mul_comm a k, Int.mul_assoc]
    have e3 : k * r1 = r1 * k := Int.mul_comm _ _
    omega
  have t1 : s0 + k * s1 ≤ b := by
    have h1 := mul_ge (x := r1) (y := s0 + k * s1) q1 (by omega)
    have h2 := Int.mul_nonneg m0 (show 0 ≤ s1 by omega)
    omega
  generalize ht : s0 + k * s1 = s2 at *
  have eU : r0 * B - s0 = (r2 * B - s2) + k * (r1 * B + s1) := by
    rw [← e0, ← ht, Int.add_mul, Int.mul_add, ← Int.mul_assoc k, Int.mul_comm k r1]
    omega
  rcases Int.lt_or_le 0 r2 with z | z
  · have h1 := mul_ge (x := r2) (y := B) (by omega) (by omega)
    have h2 : r2 * B + B ≤ r1 * B := by
      have := Int.mul_le_mul_of_nonneg_right (show r2 + 1 ≤ r1 by omega) (show 0 ≤ B by omega)
      rw [Int.add_mul, Int.one_mul] at this
      exact this
    have u1 : (r0 * B - s0) % (r1 * B + s1) = r2 * B - s2 := by
      rw [eU, Int.add_mul_emod_self_right, Int.emod_eq_of_lt (by omega) (by omega)]
    rw [u1]
    have f0 := Int.mul_ediv_add_emod r1 r2
    have n0 := Int.emod_nonneg r1 (show r2 ≠ 0 by omega)
    have n1 := Int.emod_lt_of_pos r1 z
    have j0 : 1 ≤ r1 / r2 := Int.le_ediv_of_mul_le (by omega) (by omega)
    generalize hj : r1 / r2 = j at *
    generalize hr3 : r1 % r2 = r3 at *
    have g3 : Int.gcd r2 r3 = Int.gcd a b := by
      rw [← gg, ← hr3, Int.gcd_comm r2, gcd_mod]
    have d3 : r2 * (s1 + j * s2) + r3 * s2 = b := by
      have e : r1 * s2 = r2 * (j * s2) + r3 * s2 := by
        rw [← f0, Int.add_mul, Int.mul_assoc]
      rw [Int.mul_add]
      omega
    have c3 : b ∣ (r3 - a * (s1 + j * s2)) := by
      obtain ⟨x, hx⟩ := c1
      obtain ⟨y, hy⟩ := c2
      refine ⟨x - j * y, ?_⟩
      have e1 : b * (x - j * y) = b * x - j * (b * y) := by
        rw [Int.mul_sub, ← Int.mul_assoc, ← Int.mul_assoc, Int.mul_comm b j]
      rw [e1, ← hx, ← hy, Int.mul_add, Int.mul_add]
      have e2 : a * (j * s2) = j * (a * s2) := by rw [← Int.mul_assoc, Int.mul_comm a j, Int.mul_assoc]
      have e3 : j * r2 = r2 * j := Int.mul_comm _ _
      omega
    have w0 : 0 < s1 + j * s2 := by
      have := mul_ge j0 (show 0 ≤ s2 by omega)
      omega
    have w1 : s1 + j * s2 ≤ b := by
      have h1 := mul_ge (x := r2) (y := s1 + j * s2) (by omega) (by omega)
      have h2 := Int.mul_nonneg n0 (show 0 ≤ s2 by omega)
      omega
    generalize hw : s1 + j * s2 = s3 at *
    have eL : r1 * B + s1 = (r3 * B + s3) + j * (r2 * B - s2) := by
      rw [← f0, ← hw, Int.add_mul, Int.mul_sub, ← Int.mul_assoc j, Int.mul_comm j r2]
      omega
    have h3 := Int.mul_nonneg n0 (show 0 ≤ B by omega)
    have h4 : r3 * B + B ≤ r2 * B := by
      have := Int.mul_le_mul_of_nonneg_right (show r3 + 1 ≤ r2 by omega) (show 0 ≤ B by omega)
      rw [Int.add_mul, Int.one_mul] at this
      exact this
    have u2 : (r1 * B + s1) % (r2 * B - s2) = r3 * B + s3 := by
      rw [eL, Int.add_mul_emod_self_right, Int.emod_eq_of_lt (by omega) (by omega)]
    rw [u2]
    exact ⟨by omega, by omega, by omega, .inl ⟨r2, r3, s2, s3, rfl, rfl, by omega, w0, n0, n1, d3, c2, c3, g3⟩⟩
  · have z : r2 = 0 := by omega
    have u1 : (r0 * B - s0) % (r1 * B + s1) = r1 * B + s1 - s2 := by
      have e : r0 * B - s0 = (r1 * B + s1 - s2) + (k - 1) * (r1 * B + s1) := by
        rw [eU, z, Int.zero_mul, Int.sub_mul, Int.one_mul]
        omega
      rw [e, Int.add_mul_emod_self_right, Int.emod_eq_of_lt (by omega) (by omega)]
    have u2 : (r1 * B + s1) % (r1 * B + s1 - s2) = s2 := by
      have yB : B ≤ r1 * B + s1 := by omega
      generalize r1 * B + s1 = y at *
      have e : y = s2 + 1 * (y - s2) := by omega
      conv => lhs; lhs; rw [e]
      rw [Int.add_mul_emod_self_right, Int.emod_eq_of_lt (by omega) (by omega)]
    rw [u1, u2]
    refine ⟨by omega, by omega, by omega, .inr ⟨r1, s1, s2, by omega, rfl, ?_, t0, by omega, c1, ?_⟩⟩
    · rw [z, Int.zero_mul] at d2
      omega
    · rw [← gg, z, Int.gcd_zero_right]
      omega
theorem ivE_end {a b B U L : Int} (h : IvE a b B U L) : L ≤ b := by
  obtain ⟨g, s, t, _, rfl, e, h1, h2, _⟩ := h
  have := mul_ge (x := g) (y := L) (by omega) (by omega)
  omega
theorem mul_one_eq {g t : Int} (ht : 0 < t) (h : g * t = t) : g = 1 := by
  have : (g - 1) * t = 0 := by
    rw [Int.sub_mul, Int.one_mul]
    omega
  rcases Int.mul_eq_zero.mp this with z | z <;> omega
theorem iv_fin {a b B U L : Int} (hb : 0 < b) (hB : 4 * b < B) (h : IvN a b B U L ∨ IvE a b B U L) (hl : ¬ b < L) :
    (L = b → Int.gcd a b = 1 ∧ b ∣ (a * ((U - B) % b) - 1)) ∧ (Int.gcd a b = 1 → L = b) := by
  have key : ∀ v x : Int, b ∣ (1 - a * v) → x % b = v % b → b ∣ (a * (x % b) - 1) := fun v x h e => by
    rw [e]
    obtain ⟨y, hy⟩ := h
    refine ⟨-y - a * (v / b), ?_⟩
    have h1 := Int.mul_ediv_add_emod v b
    have h2 : a * v = a * (b * (v / b)) + a * (v % b) := by rw [← Int.mul_add, h1]
    have h3 : b * (a * (v / b)) = a * (b * (v / b)) := by rw [← Int.mul_assoc, Int.mul_comm b a, Int.mul_assoc]
    rw [Int.mul_sub, Int.mul_neg, h3]
    omega
  rcases h with ⟨r0, r1, s0, s1, rfl, rfl, p1, p2, p3, p4, d, c0, c1, g⟩ | ⟨g, s, t, rfl, rfl, e, h1, h2, c, eg⟩
  · have z : r1 = 0 := by
      rcases Int.lt_or_le 0 r1 with z | z
      · have := mul_ge (x := r1) (y := B) (by omega) (by omega)
        omega
      · omega
    subst z
    rw [Int.zero_mul, Int.add_zero] at d
    rw [Int.gcd_zero_right] at g
    refine ⟨fun el => ?_, fun eg => ?_⟩
    · have e1 : r0 = 1 := mul_one_eq p2 (by omega)
      subst e1
      refine ⟨by omega, key (-s0) _ ?_ ?_⟩
      · rw [Int.mul_neg]
        have : (1 : Int) - -(a * s0) = 1 + a * s0 := by omega
        rw [this]
        exact c0
      · congr 1
        omega
    · have : r0 = 1 := by omega
      subst this
      omega
  · refine ⟨fun el => ?_, fun z => ?_⟩
    · have e1 : g = 1 := mul_one_eq h1 (by omega)
      subst e1
      refine ⟨by omega, key s _ c ?_⟩
      have e2 : 1 * B + s - L - B = s + (-1) * b := by omega
      rw [e2, Int.add_mul_emod_self_right]
    · have : g = 1 := by omega
      subst this
      omega
theorem inv_ex {a b : Int} (hb : 0 < b) (h : a.natAbs.gcd b.natAbs = 1) : ∃ v, 0 ≤ v ∧ v < b ∧ b ∣ a * v - 1 := by
  obtain ⟨g, h1, _⟩ := last_rem (a := a) hb
  have e := last_is_gcd hb h1
  have : g = 1 := by
    rw [e, h]
    rfl
  subst this
  exact ⟨_, inverse_right hb h1 _ rfl⟩
theorem inv_unique {a b v w : Int} (hb : 0 < b) (v0 : 0 ≤ v) (v1 : v < b) (w0 : 0 ≤ w) (w1 : w < b) (hv : b ∣ (a * v - 1)) (hw : b ∣ (a * w - 1)) : v = w := by
  have h : b ∣ (v - w) := by
    obtain ⟨x, hx⟩ := hv
    obtain ⟨y, hy⟩ := hw
    refine ⟨v * -y + w * x, ?_⟩
    have e1 : b * (v * -y + w * x) = w * (b * x) - v * (b * y) := by
      rw [Int.mul_add, Int.mul_neg, Int.mul_neg, ← Int.mul_assoc b v, ← Int.mul_assoc b w, Int.mul_comm b v, Int.mul_comm b w, Int.mul_assoc v, Int.mul_assoc w]
      omega
    rw [e1, ← hx, ← hy, Int.mul_sub, Int.mul_sub]
    have e2 : w * (a * v) = v * (a * w) := by rw [Int.mul_left_comm, Int.mul_comm w v, Int.mul_left_comm]
    omega
  obtain ⟨k, hk⟩ := h
  rcases Int.lt_trichotomy k 0 with z | z | z
  · have := Int.mul_le_mul_of_nonneg_left (show k ≤ -1 by omega) (show 0 ≤ b by omega)
    omega
  · subst z
    omega
  · have := Int.mul_le_mul_of_nonneg_left (show 1 ≤ k by omega) (show 0 ≤ b by omega)
    omega
end Tm

namespace Tm
/-! Sums of teeth: what Euclid's steps tell of them. -/
theorem six_sixth (n : Nat) : 6 * sixth n = (n : Int) * ((n : Int) - 1) * (2 * (n : Int) - 1) := by
  rw [← sixth_sm, sm_sq]
theorem two_half (n : Nat) : 2 * half n = (n : Int) * ((n : Int) - 1) := by
  rw [← half_sm, sm_id]
/-- 12 b s(a, b) of a coprime pair -/
def T1 (a b : Int) : Int := 2 * a * (b - 1) * (2 * b - 1) - 3 * b * (b - 1) - 12 * S1 b.toNat a 0 b
theorem T1_lift {a b u : Int} (hb : 0 < b) : T1 (a + u * b) b = T1 a b := by
  obtain ⟨n, rfl⟩ : ∃ n : Nat, b = n := ⟨b.toNat, by omega⟩
  have h := S1_lift (n := n) (a := a) (c := 0) (m := n) (u := u) (v := 0) (by omega)
  rw [Int.zero_mul, Int.zero_add] at h
  have s := six_sixth n
  unfold T1
  rw [Int.toNat_natCast, h]
  grind
theorem T1_mod {a b : Int} (hb : 0 < b) : T1 (a % b) b = T1 a b := by
  have e : a = a % b + a / b * b := by have := Int.emod_add_mul_ediv a b; rw [Int.mul_comm b] at this; omega
  conv => rhs; rw [e]
  rw [T1_lift hb]
theorem T1_zero : T1 0 1 = 0 := by decide +kernel
theorem cop_ndvd {p q j : Nat} (hg : Nat.gcd p q = 1) (j0 : 0 < j) (j1 : j < p) : ((q : Int) * (j : Int)) % (p : Int) ≠ 0 := by
  intro z
  have h : (p : Int) ∣ (q : Int) * (j : Int) := Int.dvd_of_emod_eq_zero z
  rw [← Int.natCast_mul, Int.natCast_dvd_natCast] at h
  have := Nat.le_of_dvd j0 (Nat.Coprime.dvd_of_dvd_mul_left hg h)
  omega
theorem inv_of_gcd {p q : Nat} (hp : 0 < p) (hg : Nat.gcd p q = 1) : ∃ v : Int, ((q : Int) * v) % (p : Int) = 1 % (p : Int) := by
  obtain ⟨v, _, _, h⟩ := inv_ex (a := q) (b := p) (by omega) (by rw [Int.natAbs_natCast, Int.natAbs_natCast, Nat.gcd_comm]; exact hg)
  exact ⟨v, (Int.emod_eq_emod_iff_emod_sub_eq_zero.mpr (Int.emod_eq_zero_of_dvd h))⟩
theorem rs_zero_sq {p q : Nat} (hp : 0 < p) (hg : Nat.gcd p q = 1) : sm (fun i => rs q 0 p i * rs q 0 p i) p = sixth p ∧ sm (rs q 0 p) p = half p := by
  obtain ⟨v, hv⟩ := inv_of_gcd hp hg
  have cast : ∀ i : Nat, ((((q : Int) * (i : Int) + 0) % (p : Int)).toNat : Int) = rs q 0 p i := fun i => by
    have := Int.emod_nonneg ((q : Int) * (i : Int) + 0) (show (p : Int) ≠ 0 by omega)
    unfold rs
    omega
  have h1 := perm_sum (a := q) (c := 0) (v := v) (k := p) hp hv (fun j => (j : Int) * j)
  have h2 := perm_sum (a := q) (c := 0) (v := v) (k := p) hp hv (fun j => (j : Int))
  simp only [cast] at h1 h2
  exact ⟨h1.trans (sixth_sm p), h2.trans (half_sm p)⟩
/-- the sums of a coprime pair and of the exchanged one -/
theorem T1_recip {p q : Nat} (hp : 0 < p) (hpq : p < q) (hg : Nat.gcd p q = 1) : (p : Int) * T1 p q + q * T1 q p = p * p + q * q + 1 - 3 * (p * q) := by
  obtain ⟨n, rfl⟩ : ∃ n, q = n + 1 := ⟨q - 1, by omega⟩
  obtain ⟨h, rfl⟩ : ∃ h, p = h + 1 := ⟨p - 1, by omega⟩
  have hm := mirror (a := ((h + 1 : Nat) : Int)) (c := 0) (m := ((n + 1 : Nat) : Int)) (n := n) (h := h) (by omega) (by omega) (by omega)
    (fun i hi => by
      unfold fl
      have : (((h + 1 : Nat) : Int) * i + 0) / ((n + 1 : Nat) : Int) < ((h + 1 : Nat) : Int) := by
        refine Int.ediv_lt_of_lt_mul (by omega) ?_
        have := Int.mul_lt_mul_of_pos_left (show (i : Int) < ((n + 1 : Nat) : Int) by omega) (show 0 < ((h + 1 : Nat) : Int) by omega)
        omega
      omega)
    (fun j hj => by
      unfold fl
      have h0 : 0 ≤ (((n + 1 : Nat) : Int) * j + (((n + 1 : Nat) : Int) - 0 - 1)) / ((h + 1 : Nat) : Int) := Int.ediv_nonneg (by have := Int.mul_nonneg (show 0 ≤ ((n + 1 : Nat) : Int) by omega) (show 0 ≤ (j : Int) by omega); omega) (by omega)
      have h1 : (((n + 1 : Nat) : Int) * j + (((n + 1 : Nat) : Int) - 0 - 1)) / ((h + 1 : Nat) : Int) < ((n + 1 : Nat) : Int) := by
        refine Int.ediv_lt_of_lt_mul (by omega) ?_
        have := Int.mul_le_mul_of_nonneg_left (show (j : Int) + 1 ≤ ((h + 1 : Nat) : Int) by omega) (show 0 ≤ ((n + 1 : Nat) : Int) by omega)
        rw [Int.mul_add] at this
        omega
      omega)
  obtain ⟨m0, m1, _⟩ := hm
  -- the mirror's floors are those of the exchanged line, one further
  have sh : ∀ j, j < h → fl ((n + 1 : Nat) : Int) (((n + 1 : Nat) : Int) - 0 - 1) ((h + 1 : Nat) : Int) j = fl ((n + 1 : Nat) : Int) 0 ((h + 1 : Nat) : Int) (1 + j) := fun j hj => by
    unfold fl
    have nd := cop_ndvd (q := n + 1) hg (j := 1 + j) (by omega) (by omega)
    have e : ((n + 1 : Nat) : Int) * (j : Int) + (((n + 1 : Nat) : Int) - 0 - 1) = ((n + 1 : Nat) : Int) * ((1 + j : Nat) : Int) - 1 := by
      rw [Int.natCast_add 1 j, Int.mul_add]
      omega
    rw [e, pred_div (by omega), Int.add_zero]
    rw [show ind (decide (((n + 1 : Nat) : Int) * ((1 + j : Nat) : Int) % ((h + 1 : Nat) : Int) = 0)) = 0 by rw [decide_eq_false nd]; rfl]
    omega
  have z0 : fl ((n + 1 : Nat) : Int) 0 ((h + 1 : Nat) : Int) 0 = 0 := by
    unfold fl
    rw [Int.natCast_zero, Int.mul_zero, Int.zero_add]
    exact Int.zero_ediv _
  have a0 : S0 (h + 1) ((n + 1 : Nat) : Int) 0 ((h + 1 : Nat) : Int) = S0 h ((n + 1 : Nat) : Int) (((n + 1 : Nat) : Int) - 0 - 1) ((h + 1 : Nat) : Int) := by
    unfold S0
    rw [show h + 1 = 1 + h by omega, sm_app]
    rw [show 1 + h = h + 1 by omega]
    rw [sm_congr (f := fl ((n + 1 : Nat) : Int) (((n + 1 : Nat) : Int) - 0 - 1) ((h + 1 : Nat) : Int)) h sh]
    show 0 + fl _ 0 _ 0 + _ = _
    rw [z0]
    omega
  have a1 : S1 (h + 1) ((n + 1 : Nat) : Int) 0 ((h + 1 : Nat) : Int) = S1 h ((n + 1 : Nat) : Int) (((n + 1 : Nat) : Int) - 0 - 1) ((h + 1 : Nat) : Int) + S0 h ((n + 1 : Nat) : Int) (((n + 1 : Nat) : Int) - 0 - 1) ((h + 1 : Nat) : Int) := by
    unfold S1 S0
    rw [show h + 1 = 1 + h by omega, sm_app]
    rw [show 1 + h = h + 1 by omega, ← sm_add]
    rw [sm_congr (f := fun i => (i : Int) * fl ((n + 1 : Nat) : Int) (((n + 1 : Nat) : Int) - 0 - 1) ((h + 1 : Nat) : Int) i + fl ((n + 1 : Nat) : Int) (((n + 1 : Nat) : Int) - 0 - 1) ((h + 1 : Nat) : Int) i) (g := fun i => ((1 + i : Nat) : Int) * fl ((n + 1 : Nat) : Int) 0 ((h + 1 : Nat) : Int) (1 + i)) h (fun j hj => by
      rw [sh j hj, Int.natCast_add 1 j, Int.add_mul]
      omega)]
    show 0 + ((0 : Nat) : Int) * fl _ 0 _ 0 + _ = _
    rw [z0]
    omega
  have a2 : S2 (h + 1) ((n + 1 : Nat) : Int) 0 ((h + 1 : Nat) : Int) = S2 h ((n + 1 : Nat) : Int) (((n + 1 : Nat) : Int) - 0 - 1) ((h + 1 : Nat) : Int) := by
    unfold S2
    rw [show h + 1 = 1 + h by omega, sm_app]
    rw [show 1 + h = h + 1 by omega]
    rw [sm_congr (f := fun i => fl ((n + 1 : Nat) : Int) (((n + 1 : Nat) : Int) - 0 - 1) ((h + 1 : Nat) : Int) i * fl ((n + 1 : Nat) : Int) (((n + 1 : Nat) : Int) - 0 - 1) ((h + 1 : Nat) : Int) i) (g := fun i => fl ((n + 1 : Nat) : Int) 0 ((h + 1 : Nat) : Int) (1 + i) * fl ((n + 1 : Nat) : Int) 0 ((h + 1 : Nat) : Int) (1 + i)) h (fun j hj => by rw [sh j hj])]
    show 0 + fl _ 0 _ 0 * fl _ 0 _ 0 + _ = _
    rw [z0]
    omega
  -- all remainders
  obtain ⟨r2, r1⟩ := rs_zero_sq (p := h + 1) (q := n + 1) (by omega) hg
  rw [rs_sum] at r1
  rw [rs_square] at r2
  have s6 := six_sixth (h + 1)
  have s2 := two_half (h + 1)
  unfold T1
  rw [Int.toNat_natCast, Int.toNat_natCast]
  generalize S1 (n + 1) ((h + 1 : Nat) : Int) 0 ((n + 1 : Nat) : Int) = X at *
  rw [← a0] at m0 a1 m1
  rw [← a2] at m1
  clear a2 a0 sh z0 hg m0
  have m2 : 2 * X = (h : Int) * (((n : Int) + 1) * n) - S2 (h + 1) ((n + 1 : Nat) : Int) 0 ((h + 1 : Nat) : Int) - S0 (h + 1) ((n + 1 : Nat) : Int) 0 ((h + 1 : Nat) : Int) := m1
  generalize S0 (h + 1) ((n + 1 : Nat) : Int) 0 ((h + 1 : Nat) : Int) = B0 at *
  generalize S1 (h + 1) ((n + 1 : Nat) : Int) 0 ((h + 1 : Nat) : Int) = B1 at *
  generalize S2 (h + 1) ((n + 1 : Nat) : Int) 0 ((h + 1 : Nat) : Int) = B2 at *
  clear m1 a1
  generalize half ((h + 1 : Nat) : Int) = hh at *
  generalize sixth ((h + 1 : Nat) : Int) = ss at *
  rw [show ((n + 1 : Nat) : Int) = (n : Int) + 1 by omega, show ((h + 1 : Nat) : Int) = (h : Int) + 1 by omega] at *
  have hp0 : (h : Int) + 1 ≠ 0 := by omega
  generalize (n : Int) = n at *
  generalize (h : Int) = h at *
  -- multiplied by p
  simp only [Int.zero_mul, Int.mul_zero, Int.add_zero] at r1 r2
  clear hp hpq
  rename_i right
  clear right
  have k0 : 2 * B0 = n * h := by
    have : (h + 1) * (2 * B0) = (h + 1) * (n * h) := by
      have e := congrArg (n * ·) s2
      clear s6 r2 m2 s2
      grind
    exact Int.eq_of_mul_eq_mul_left hp0 this
  have k2 : 6 * (h + 1) * B2 = 12 * (n + 1) * B1 + h * (2 * h + 1) * (1 - (n + 1) * (n + 1)) := by
    have : (h + 1) * (6 * (h + 1) * B2) = (h + 1) * (12 * (n + 1) * B1 + h * (2 * h + 1) * (1 - (n + 1) * (n + 1))) := by
      have e := congrArg ((1 - (n + 1) * (n + 1)) * ·) s6
      clear s2 r1 m2 k0 s6
      grind
    exact Int.eq_of_mul_eq_mul_left hp0 this
  clear r1 r2 s2 s6 hp0
  grind
end Tm

namespace Tm
/-! Sums of teeth by Euclid's steps. -/
def gc (a b : Int) : Int := (Int.gcd a b : Nat)
/-- 12 b s(a, b) of a pair -/
def TT (a b : Int) : Int := gc a b * T1 (a / gc a b) (b / gc a b)
theorem gc_pos {a b : Int} (hb : 0 < b) : 0 < gc a b := by
  have : 0 < Int.gcd a b := Int.gcd_pos_of_ne_zero_right _ (by omega)
  unfold gc
  omega
theorem gc_mod {a b : Int} : gc (a % b) b = gc a b := by
  unfold gc
  rw [gcd_mod]
theorem gc_comm {a b : Int} : gc a b = gc b a := by
  unfold gc
  rw [Int.gcd_comm]
theorem gc_l (a b : Int) : gc a b ∣ a := Int.gcd_dvd_left ..
theorem gc_r (a b : Int) : gc a b ∣ b := Int.gcd_dvd_right ..
/-- a pair over its common factor -/
theorem gc_parts {a b : Int} (hb : 0 < b) : ∃ x y : Int, a = gc a b * x ∧ b = gc a b * y ∧ 0 < y ∧ a / gc a b = x ∧ b / gc a b = y ∧ gc x y = 1 := by
  have g0 := gc_pos (a := a) hb
  obtain ⟨x, hx⟩ := gc_l a b
  obtain ⟨y, hy⟩ := gc_r a b
  have ex : a / gc a b = x := by conv => lhs; lhs; rw [hx]
                                 exact Int.mul_ediv_cancel_left _ (by omega)
  have ey : b / gc a b = y := by conv => lhs; lhs; rw [hy]
                                 exact Int.mul_ediv_cancel_left _ (by omega)
  have y0 : 0 < y := by
    rcases Int.lt_or_le 0 y with z | z
    · exact z
    · have := Int.mul_le_mul_of_nonneg_left z (show 0 ≤ gc a b by omega)
      omega
  refine ⟨x, y, hx, hy, y0, ex, ey, ?_⟩
  have e : Int.gcd (gc a b * x) (gc a b * y) = (gc a b).natAbs * Int.gcd x y := Int.gcd_mul_left ..
  rw [← hx, ← hy] at e
  have e2 : (gc a b).natAbs = Int.gcd a b := by unfold gc; exact Int.natAbs_natCast _
  rw [e2] at e
  have g1 : 0 < Int.gcd a b := by unfold gc at g0; omega
  have : Int.gcd x y = 1 := by
    have h : Int.gcd a b * 1 = Int.gcd a b * Int.gcd x y := by omega
    exact (Nat.eq_of_mul_eq_mul_left g1 h).symm
  unfold gc
  rw [this]
  rfl
theorem TT_mod {a b : Int} (hb : 0 < b) : TT (a % b) b = TT a b := by
  unfold TT
  rw [gc_mod]
  obtain ⟨x, y, hx, hy, y0, ex, ey, _⟩ := gc_parts (a := a) hb
  have g0 := gc_pos (a := a) hb
  rw [ex, ey]
  have e : a % b / gc a b = x % y := by
    have : a % b = gc a b * (x % y) := by
      have t := Int.mul_emod_mul_of_pos x y g0
      rw [← hx, ← hy] at t
      exact t
    rw [this, Int.mul_ediv_cancel_left _ (by omega)]
  rw [e, T1_mod y0]
theorem TT_zero {b : Int} (hb : 0 < b) : TT 0 b = 0 := by
  have e : gc 0 b = b := by
    unfold gc
    rw [Int.gcd_zero_left]
    omega
  unfold TT
  rw [e, Int.zero_ediv, Int.ediv_self (by omega), T1_zero, Int.mul_zero]
theorem T1_rec {p q : Int} (hp : 0 < p) (hpq : p < q) (hg : gc p q = 1) : p * T1 p q + q * T1 q p = p * p + q * q + 1 - 3 * (p * q) := by
  obtain ⟨m, rfl⟩ : ∃ m : Nat, p = m := ⟨p.toNat, by omega⟩
  obtain ⟨n, rfl⟩ : ∃ n : Nat, q = n := ⟨q.toNat, by omega⟩
  exact T1_recip (by omega) (by omega) (by unfold gc at hg; have : Int.gcd (m : Int) (n : Int) = 1 := by omega
                                           exact this)
theorem TT_rec {l u : Int} (hl : 0 < l) (hlu : l < u) : l * TT l u + u * TT u l = l * l + u * u + gc l u * gc l u - 3 * (l * u) := by
  obtain ⟨x, y, hx, hy, y0, ex, ey, h1⟩ := gc_parts (a := l) (b := u) (by omega)
  have g0 := gc_pos (a := l) (b := u) (by omega)
  have e1 : TT l u = gc l u * T1 x y := by
    unfold TT
    rw [ex, ey]
  have e2 : TT u l = gc l u * T1 y x := by
    unfold TT
    rw [gc_comm, ex, ey]
  rw [e1, e2]
  generalize hg : gc l u = g at *
  subst hx
  subst hy
  have x0 : 0 < x := by
    rcases Int.lt_or_le 0 x with z | z
    · exact z
    · have := Int.mul_le_mul_of_nonneg_left z (show 0 ≤ g by omega)
      omega
  have xy : x < y := by
    rcases Int.lt_or_le x y with z | z
    · exact z
    · have := Int.mul_le_mul_of_nonneg_left z (show 0 ≤ g by omega)
      omega
  have r := T1_rec x0 xy h1
  clear hlu hl y0 x0 xy h1 ex ey e1 e2 hg
  grind
def Fd (l u : Int) : Int := TT l u - l
/-- two of Euclid's steps -/
theorem F_two {u l : Int} (hl : 0 < l) (hlu : l < u) (hu : 0 < u % l) : Fd l u * (u % l) = (u / l - l / (u % l)) * u * (u % l) + u * Fd (l % (u % l)) (u % l) - (u / l) * (gc l u * gc l u) := by
  have r1 := TT_rec hl hlu
  have r2 := TT_rec hu (Int.emod_lt_of_pos u hl)
  have g2 : gc (u % l) l = gc l u := by rw [gc_mod, gc_comm]
  rw [g2, TT_mod hl] at r2
  have m1 : TT l (u % l) = TT (l % (u % l)) (u % l) := (TT_mod hu).symm
  rw [m1] at r2
  have d1 := Int.mul_ediv_add_emod u l
  have d2 := Int.mul_ediv_add_emod l (u % l)
  unfold Fd
  generalize TT l u = X at *
  generalize TT u l = Y at *
  generalize TT (l % (u % l)) (u % l) = Z at *
  generalize gc l u = g at *
  generalize l % (u % l) = l' at *
  generalize l / (u % l) = j at *
  generalize u % l = u' at *
  generalize u / l = k at *
  clear g2 m1 hlu hu
  have : l * ((X - l) * u') = l * ((k - j) * u * u' + u * (Z - l') - k * (g * g)) := by grind
  exact Int.eq_of_mul_eq_mul_left (by omega) this
def fo : List Int → Int × Int → Int × Int
  | [], s => s
  | q :: qs, s => fo qs (s.2, q * s.2 + s.1)
def alts : List Int → Int
  | [] => 0
  | q :: qs => q - alts qs
/-- what the steps keep -/
structure StI (A B g alt bef las u l : Int) : Prop where
  hF : Fd A B * u = alt * B * u + B * Fd l u - bef * (g * g)
  hB : B = las * u + bef * l
  hg : gc l u = g
  l0 : 0 ≤ l
  lu : l < u
  b0 : 0 ≤ bef
  s0 : 0 < las
  bs : bef ≤ las
  a0 : -las ≤ alt
  a1 : alt ≤ bef
  d1 : B ∣ (l - las * A)
  d2 : B ∣ (u + bef * A)
  xr : alts (quos B A) = alt + alts (quos u l) ∧ fo (quos B A) (0, 1) = fo (quos u l) (bef, las) ∧ (quos B A).length % 2 = (quos u l).length % 2
theorem StI.start {A B : Int} (h0 : 0 ≤ A) (h1 : A < B) : StI A B (gc A B) 0 0 1 B A :=
  ⟨by simp [Int.zero_mul]; grind, by omega, rfl, h0, h1, by omega, by omega, by omega, by omega, by omega, ⟨0, by omega⟩, ⟨1, by omega⟩, (Int.zero_add _).symm, rfl, rfl⟩
theorem StI.las_le {A B g alt bef las u l : Int} (h : StI A B g alt bef las u l) : las ≤ B ∧ u ≤ B := by
  have := h.hB
  have h1 := Int.mul_nonneg h.b0 h.l0
  have h2 := mul_ge (x := u) (y := las) (by have := h.l0; have := h.lu; omega) (by have := h.s0; omega)
  have h3 := mul_ge (x := las) (y := u) (by have := h.s0; omega) (by have := h.l0; have := h.lu; omega)
  rw [Int.mul_comm] at h2
  omega
theorem go_F {X Y Z B alt bef las u l g k j u' : Int} (hF : X * u = alt * B * u + B * Y - bef * (g * g)) (hB : B = las * u + bef * l) (e1 : l * k + u' = u) (F : Y * u' = (k - j) * u * u' + u * Z - k * (g * g)) :
    u * (X * u') = u * ((alt + k - j) * B * u' + B * Z - (bef + k * las) * (g * g)) := by
  have a3 : B * k + bef * u' = (bef + k * las) * u := by
    clear hF F
    subst hB
    subst e1
    grind
  calc u * (X * u') = u' * (X * u) := by clear hF hB e1 F a3; grind
    _ = u' * (alt * B * u + B * Y - bef * (g * g)) := by rw [hF]
    _ = alt * B * u * u' + B * (Y * u') - bef * (g * g) * u' := by clear hF hB e1 F a3; grind
    _ = alt * B * u * u' + B * ((k - j) * u * u' + u * Z - k * (g * g)) - bef * (g * g) * u' := by rw [F]
    _ = u * ((alt + k - j) * B * u') + u * (B * Z) - (g * g) * (B * k + bef * u') := by clear hF hB e1 F a3; grind
    _ = u * ((alt + k - j) * B * u') + u * (B * Z) - (g * g) * ((bef + k * las) * u) := by rw [a3]
    _ = u * ((alt + k - j) * B * u' + B * Z - (bef + k * las) * (g * g)) := by clear hF hB e1 F a3; grind
theorem go_B {B bef las u l k j u' l' : Int} (hB : B = las * u + bef * l) (e1 : l * k + u' = u) (e2 : u' * j + l' = l) : B = (las + j * (bef + k * las)) * u' + (bef + k * las) * l' := by
  subst e1
  subst e2
  rw [hB]
  clear hB
  grind
theorem go_l {A B bef las u l k j u' l' x y : Int} (hx : l - las * A = B * x) (hy : u + bef * A = B * y) (e1 : l * k + u' = u) (e2 : u' * j + l' = l) : l' - (las + j * (bef + k * las)) * A = B * (x - j * (y - k * x)) := by
  have : B * (x - j * (y - k * x)) = B * x - j * (B * y - k * (B * x)) := by grind
  rw [this, ← hx, ← hy]
  clear this hx hy
  subst e1
  have : l' = l - u' * j := by omega
  rw [this]
  clear this e2
  grind
theorem go_u {A B bef las u l k u' x y : Int} (hx : l - las * A = B * x) (hy : u + bef * A = B * y) (e1 : l * k + u' = u) : u' + (bef + k * las) * A = B * (y - k * x) := by
  have : B * (y - k * x) = B * y - k * (B * x) := by grind
  rw [this, ← hx, ← hy]
  clear this hx hy
  subst e1
  grind
theorem StI.go {A B g alt bef las u l : Int} (h : StI A B g alt bef las u l) (hl : 0 < l) (hu : 0 < u % l) :
    StI A B g (alt + u / l - l / (u % l)) (bef + u / l * las) (las + l / (u % l) * (bef + u / l * las)) (u % l) (l % (u % l)) := by
  obtain ⟨hF, hB, hg, l0, lu, b0, s0, bs, a0, a1, d1, d2, x1, x2, x3⟩ := h
  have y1 : alts (quos u l) = u / l - (l / (u % l) - alts (quos (u % l) (l % (u % l)))) := by rw [quos_pos hl, quos_pos hu]; rfl
  have y2 : fo (quos u l) (bef, las) = fo (quos (u % l) (l % (u % l))) (bef + u / l * las, las + l / (u % l) * (bef + u / l * las)) := by
    rw [quos_pos hl, quos_pos hu]
    show fo _ (u / l * las + bef, l / (u % l) * (u / l * las + bef) + las) = _
    rw [Int.add_comm (u / l * las) bef, Int.add_comm _ las]
  have y3 : (quos u l).length = (quos (u % l) (l % (u % l))).length + 1 + 1 := by rw [quos_pos hl, quos_pos hu]; rfl
  have xr : alts (quos B A) = (alt + u / l - l / (u % l)) + alts (quos (u % l) (l % (u % l))) ∧ fo (quos B A) (0, 1) = fo (quos (u % l) (l % (u % l))) (bef + u / l * las, las + l / (u % l) * (bef + u / l * las)) ∧ (quos B A).length % 2 = (quos (u % l) (l % (u % l))).length % 2 := ⟨by omega, x2.trans y2, by omega⟩
  clear x1 x2 x3 y1 y2 y3
  have F := F_two hl lu hu
  rw [hg] at F
  have g3 : gc (l % (u % l)) (u % l) = g := by rw [gc_mod, gc_comm, gc_mod, gc_comm, hg]
  have e1 := Int.mul_ediv_add_emod u l
  have e2 := Int.mul_ediv_add_emod l (u % l)
  have n0 := Int.emod_nonneg l (show u % l ≠ 0 by omega)
  have n1 := Int.emod_lt_of_pos l hu
  have k0 : 1 ≤ u / l := Int.le_ediv_of_mul_le (by omega) (by omega)
  have ml := Int.emod_lt_of_pos u hl
  have j0 : 1 ≤ l / (u % l) := Int.le_ediv_of_mul_le (by omega) (by omega)
  generalize l % (u % l) = l' at *
  generalize l / (u % l) = j at *
  generalize u % l = u' at *
  generalize u / l = k at *
  have p1 := mul_ge k0 (show 0 ≤ las by omega)
  have q1 : 0 ≤ bef + k * las := by omega
  have p2 := mul_ge j0 q1
  have p3 : k ≤ k * las := by
    have := mul_ge (x := las) (y := k) (by omega) (by omega)
    rw [Int.mul_comm] at this
    exact this
  have p4 : j ≤ j * (bef + k * las) := by
    have := mul_ge (x := bef + k * las) (y := j) (by omega) (by omega)
    rw [Int.mul_comm] at this
    exact this
  have hu0 : u ≠ 0 := by omega
  refine ⟨?_, ?_, g3, n0, n1, q1, by omega, by omega, by omega, by omega, ?_, ?_, xr⟩
  · exact Int.eq_of_mul_eq_mul_left hu0 (go_F hF hB e1 F)
  · exact go_B hB e1 e2
  · obtain ⟨x, hx⟩ := d1
    obtain ⟨y, hy⟩ := d2
    exact ⟨x - j * (y - k * x), go_l hx hy e1 e2⟩
  · obtain ⟨x, hx⟩ := d1
    obtain ⟨y, hy⟩ := d2
    exact ⟨y - k * x, go_u hx hy e1⟩
/-- what the steps tell -/
structure StO (A B m f c t : Int) : Prop where
  hT : (m + t) * B + A + f * c = TT A B
  hc : gc A B = c
  hd : B ∣ (c - f * A)
  f0 : -B ≤ f
  f1 : f ≤ B
  m0 : -B ≤ m
  m1 : m ≤ 2 * B
  t0 : t = -3 ∨ t = 0
  xo : m = alts (quos B A) ∧ (((quos B A).length % 2 = 0 ∧ f = -(fo (quos B A) (0, 1)).1 ∧ t = 0) ∨ ((quos B A).length % 2 = 1 ∧ f = (fo (quos B A) (0, 1)).1 ∧ t = -3))
theorem TT_unit {l k : Int} (hl : 0 < l) (hk : 1 < k) : TT l (l * k) = l * (k * k - 3 * k + 2) := by
  have r := TT_rec (l := l) (u := l * k) hl (by have := Int.mul_lt_mul_of_pos_left hk hl; omega)
  have g : gc l (l * k) = l := by
    unfold gc
    have : Int.gcd (l * 1) (l * k) = l.natAbs * Int.gcd 1 k := Int.gcd_mul_left ..
    rw [Int.mul_one, Int.gcd_one_left] at this
    rw [this]
    omega
  have z : TT (l * k) l = 0 := by
    rw [← TT_mod hl, Int.mul_emod_right, TT_zero hl]
  rw [g, z] at r
  have : l * TT l (l * k) = l * (l * (k * k - 3 * k + 2)) := by grind
  exact Int.eq_of_mul_eq_mul_left (by omega) this
theorem StI.endA {A B g alt bef las u l : Int} (h : StI A B g alt bef las u l) (hc : gc A B = g) (hl : 0 < l) (hu : u % l = 0) : StO A B (alt + u / l) las l (-3) := by
  have lb := h.las_le
  obtain ⟨hF, hB, hg, l0, lu, b0, s0, bs, a0, a1, d1, d2, x1, x2, x3⟩ := h
  have xo : alt + u / l = alts (quos B A) ∧ (((quos B A).length % 2 = 0 ∧ las = -(fo (quos B A) (0, 1)).1 ∧ (-3 : Int) = 0) ∨ ((quos B A).length % 2 = 1 ∧ las = (fo (quos B A) (0, 1)).1 ∧ (-3 : Int) = -3)) := by
    rw [quos_pos hl, hu, quos_nil (a := l) (b := 0) (by decide)] at x1 x2 x3
    rw [x1, x2, x3]
    exact ⟨by simp only [alts]; omega, .inr ⟨rfl, rfl, rfl⟩⟩
  clear x1 x2 x3
  have e1 := Int.mul_ediv_add_emod u l
  rw [hu, Int.add_zero] at e1
  have k1 : 1 < u / l := by
    rcases Int.lt_or_le 1 (u / l) with z | z
    · exact z
    · have := Int.mul_le_mul_of_nonneg_left z (show 0 ≤ l by omega)
      omega
  have gl : g = l := by
    rw [← hg]
    have := gc_mod (a := u) (b := l)
    rw [hu] at this
    rw [gc_comm, ← this]
    unfold gc
    rw [Int.gcd_zero_left]
    omega
  have ku : u / l ≤ u := by
    have := mul_ge (x := l) (y := u / l) (by omega) (by omega)
    omega
  have tu : Fd l u = l * (u / l * (u / l) - 3 * (u / l) + 2) - l := by
    unfold Fd
    rw [← TT_unit hl k1, e1]
  rw [tu] at hF
  subst gl
  generalize u / g = k at *
  have hTd : TT A B = Fd A B + A := by unfold Fd; omega
  refine ⟨?_, hc, d1, by omega, by omega, by omega, by omega, .inl rfl, xo⟩
  rw [hTd]
  generalize Fd A B = X at *
  have hu0 : u ≠ 0 := by omega
  have : u * X = u * ((alt + k - 3) * B + las * g) := by
    clear lb b0 s0 bs a0 a1 d1 d2 k1 ku hu0 hTd tu hg hc l0 lu hl hu
    grind
  have := Int.eq_of_mul_eq_mul_left hu0 this
  rw [this]
  grind
theorem StI.endB {A B g alt bef las u : Int} (h : StI A B g alt bef las u 0) (hc : gc A B = g) : StO A B alt (-bef) u 0 := by
  have lb := h.las_le
  obtain ⟨hF, hB, hg, l0, lu, b0, s0, bs, a0, a1, d1, d2, x1, x2, x3⟩ := h
  have xo : alt = alts (quos B A) ∧ (((quos B A).length % 2 = 0 ∧ -bef = -(fo (quos B A) (0, 1)).1 ∧ (0 : Int) = 0) ∨ ((quos B A).length % 2 = 1 ∧ -bef = (fo (quos B A) (0, 1)).1 ∧ (0 : Int) = -3)) := by
    rw [quos_nil (a := u) (b := 0) (by decide)] at x1 x2 x3
    rw [x1, x2, x3]
    exact ⟨by simp only [alts]; omega, .inl ⟨rfl, rfl, rfl⟩⟩
  clear x1 x2 x3
  have gu : g = u := by
    rw [← hg]
    unfold gc
    rw [Int.gcd_zero_left]
    omega
  have fz : Fd 0 u = 0 := by
    unfold Fd
    rw [TT_zero lu]
    rfl
  rw [fz] at hF
  subst gu
  have hTd : TT A B = Fd A B + A := by unfold Fd; omega
  refine ⟨?_, hc, ?_, by omega, by omega, by omega, by omega, .inr rfl, xo⟩
  · rw [hTd]
    generalize Fd A B = X at *
    have : g * X = g * (alt * B - bef * g) := by grind
    have := Int.eq_of_mul_eq_mul_left (by omega) this
    rw [this]
    grind
  · obtain ⟨y, hy⟩ := d2
    exact ⟨y, by rw [← hy]; grind⟩
end Tm

namespace Tm
/-! Euclid's steps with packed remainders. -/
theorem sti_ex {A B g : Int} (hc : gc A B = g) : ∀ (n : Nat) {alt bef las u l : Int}, l.toNat ≤ n → StI A B g alt bef las u l → ∃ m f c t, StO A B m f c t := by
  intro n
  induction n with
  | zero =>
    intro alt bef las u l hn S
    have l0 := S.l0
    have z : l = 0 := by omega
    subst z
    exact ⟨_, _, _, _, S.endB hc⟩
  | succ n ih =>
    intro alt bef las u l hn S
    have l0 := S.l0
    rcases Int.lt_or_eq_of_le l0 with hl | z
    · have hu0 := Int.emod_nonneg u (show l ≠ 0 by omega)
      rcases Int.lt_or_eq_of_le hu0 with hu | hu
      · have lt := Int.emod_lt_of_pos l hu
        have lt2 := Int.emod_lt_of_pos u hl
        exact ih (by omega) (S.go hl hu)
      · exact ⟨_, _, _, _, S.endA hc hl hu.symm⟩
    · subst z
      exact ⟨_, _, _, _, S.endB hc⟩
theorem sto_ex {A B : Int} (h0 : 0 ≤ A) (h1 : A < B) : ∃ m f c t, StO A B m f c t := sti_ex rfl A.toNat (Nat.le_refl _) (StI.start h0 h1)
def Pk (A B Bt g alt U L : Int) : Prop := ∃ u l s0 s1 : Int, U = u * Bt - s0 ∧ L = l * Bt + s1 ∧ StI A B g alt s0 s1 u l
structure PkE (A B Bt g alt U L : Int) : Prop where
  w0 : U ≤ g * Bt
  w1 : g * Bt ≤ U + B
  L0 : 0 < L
  LB : L ≤ B
  g0 : 0 < g
  gB : g ≤ B
  LG : L * g = B
  hT : alt * B + A + (U - g * Bt) * g = TT A B
  a0 : -B ≤ alt
  a1 : alt ≤ B
theorem dm {x y q r : Int} (h : x = r + q * y) (h0 : 0 ≤ r) (h1 : r < y) : x / y = q ∧ x % y = r := by
  subst h
  refine ⟨?_, ?_⟩
  · rw [Int.add_mul_ediv_right _ _ (by omega), Int.ediv_eq_zero_of_lt h0 h1, Int.zero_add]
  · rw [Int.add_mul_emod_self_right, Int.emod_eq_of_lt h0 h1]
theorem pk_start {A B Bt : Int} (h0 : 0 ≤ A) (h1 : A < B) : Pk A B Bt (gc A B) 0 (B * Bt) (A * Bt + 1) := ⟨B, A, 0, 1, by omega, rfl, StI.start h0 h1⟩
theorem pk_e {TA alt k s0 s1 g A B Y : Int} (hF : (TA - A) * (k * g) = alt * B * (k * g) + B * Y - s0 * (g * g)) (hB : B = s1 * (k * g) + s0 * g) (hY : Y = g * (k * k - 3 * k + 2) - g) (n0 : k * g ≠ 0) :
    (alt + (k - 1) - 1) * B + A + (s1 - (s0 + k * s1)) * g = TA := by
  have : (k * g) * ((alt + (k - 1) - 1) * B + A + (s1 - (s0 + k * s1)) * g) = (k * g) * TA := by
    have e : (k * g) * TA = (alt * B * (k * g) + B * Y - s0 * (g * g)) + (k * g) * A := by
      rw [← hF]
      clear hF hB hY n0
      grind
    rw [e, hY]
    clear e hF hY n0
    subst hB
    grind
  exact Int.eq_of_mul_eq_mul_left n0 this
theorem pk_go {A B Bt g alt U L : Int} (hB : 4 * B < Bt) (h : Pk A B Bt g alt U L) (hl : 2 * Bt ≤ L) (hg : gc A B = g) :
    0 < U % L ∧ 0 ≤ L % (U % L) ∧ L % (U % L) < L ∧ (Pk A B Bt g (alt + U / L - L / (U % L)) (U % L) (L % (U % L)) ∨ PkE A B Bt g (alt + U / L - L / (U % L)) (U % L) (L % (U % L))) := by
  obtain ⟨u, l, s0, s1, rfl, rfl, S⟩ := h
  have sl := S.las_le
  have sb := S.bs
  have sp := S.s0
  have sn := S.b0
  have l1 : 1 ≤ l := by
    rcases Int.lt_or_le l 1 with z | z
    · have := Int.mul_le_mul_of_nonneg_right (show l ≤ 0 by omega) (show 0 ≤ Bt by omega)
      omega
    · exact z
  have lu := S.lu
  have e0 := Int.mul_ediv_add_emod u l
  have m0 := Int.emod_nonneg u (show l ≠ 0 by omega)
  have m1 := Int.emod_lt_of_pos u (show 0 < l by omega)
  have k0 : 1 ≤ u / l := Int.le_ediv_of_mul_le (by omega) (by omega)
  have LB : Bt ≤ l * Bt := mul_ge l1 (by omega)
  rcases Int.lt_or_le 0 (u % l) with z | z
  · have S2 := S.go (by omega) z
    have sl2 := S2.las_le
    have sb2 := S2.bs
    have sp2 := S2.s0
    have sn2 := S2.b0
    have f0 := Int.mul_ediv_add_emod l (u % l)
    have n0 := Int.emod_nonneg l (show u % l ≠ 0 by omega)
    have n1 := Int.emod_lt_of_pos l z
    generalize hk : u / l = k at *
    generalize hj : l / (u % l) = j at *
    generalize hl3 : l % (u % l) = l' at *
    generalize hu3 : u % l = u' at *
    have h1 := mul_ge (x := u') (y := Bt) (by omega) (by omega)
    have h2 : u' * Bt + Bt ≤ l * Bt := by
      have := Int.mul_le_mul_of_nonneg_right (show u' + 1 ≤ l by omega) (show 0 ≤ Bt by omega)
      rw [Int.add_mul, Int.one_mul] at this
      exact this
    have eU : u * Bt - s0 = (u' * Bt - (s0 + k * s1)) + k * (l * Bt + s1) := by
      rw [← e0]
      clear S S2 hk hj hl3 hu3 h1 h2 f0
      grind
    have dU := dm eU (by omega) (by omega)
    rw [dU.1, dU.2]
    have h3 := Int.mul_nonneg n0 (show 0 ≤ Bt by omega)
    have h4 : l' * Bt + Bt ≤ u' * Bt := by
      have := Int.mul_le_mul_of_nonneg_right (show l' + 1 ≤ u' by omega) (show 0 ≤ Bt by omega)
      rw [Int.add_mul, Int.one_mul] at this
      exact this
    have eL : l * Bt + s1 = (l' * Bt + (s1 + j * (s0 + k * s1))) + j * (u' * Bt - (s0 + k * s1)) := by
      conv => lhs; rw [← f0]
      clear S S2 hk hj hl3 hu3 h1 h2 f0 eU dU
      grind
    have dL := dm eL (by omega) (by omega)
    rw [dL.1, dL.2]
    exact ⟨by omega, by omega, by omega, .inl ⟨u', l', _, _, rfl, rfl, S2⟩⟩
  · have z : u % l = 0 := by omega
    rw [z, Int.add_zero] at e0
    have gl : g = l := by
      have h1 := S.hg
      have := gc_mod (a := u) (b := l)
      rw [z] at this
      rw [← h1, gc_comm, ← this]
      unfold gc
      rw [Int.gcd_zero_left]
      omega
    have k1 : 1 < u / l := by
      rcases Int.lt_or_le 1 (u / l) with z | z
      · exact z
      · have := Int.mul_le_mul_of_nonneg_left z (show 0 ≤ l by omega)
        omega
    have tu : Fd l u = l * (u / l * (u / l) - 3 * (u / l) + 2) - l := by
      unfold Fd
      rw [← TT_unit (by omega) k1, e0]
    have hF := S.hF
    have hBB := S.hB
    have aa0 := S.a0
    have aa1 := S.a1
    generalize Fd l u = Y at *
    generalize hk : u / l = k at *
    subst gl
    have tB : (s0 + k * s1) * g = B := by
      rw [hBB, ← e0]
      clear hF hBB tu S hk
      grind
    have t0 : 0 < s0 + k * s1 := by
      have := mul_ge k0 (show 0 ≤ s1 by omega)
      omega
    have t1 : s0 + k * s1 ≤ B := by
      have := mul_ge (x := g) (y := s0 + k * s1) (by omega) (by omega)
      rw [Int.mul_comm g] at this
      omega
    have k2 : s1 ≤ (k - 1) * s1 := mul_ge (by omega) (by omega)
    have k3 : (k - 1) * s1 = k * s1 - s1 := by rw [Int.sub_mul, Int.one_mul]
    have eU : u * Bt - s0 = (g * Bt + s1 - (s0 + k * s1)) + (k - 1) * (g * Bt + s1) := by
      rw [← e0]
      clear hF hBB tu S hk tB
      grind
    have dU := dm eU (by omega) (by omega)
    rw [dU.1, dU.2]
    have eL : g * Bt + s1 = (s0 + k * s1) + 1 * (g * Bt + s1 - (s0 + k * s1)) := by omega
    have dL := dm eL (by omega) (by omega)
    rw [dL.1, dL.2]
    have hT : (alt + (k - 1) - 1) * B + A + (s1 - (s0 + k * s1)) * g = TT A B := by
      refine pk_e (Y := Y) ?_ ?_ tu (by rw [Int.mul_comm, e0]; omega)
      · rw [Int.mul_comm k g, e0]
        exact hF
      · rw [Int.mul_comm k g, e0]
        exact hBB
    have kB : k * s1 ≤ B := by omega
    have kk : k ≤ k * s1 := by
      have := mul_ge (x := s1) (y := k) (by omega) (by omega)
      rw [Int.mul_comm] at this
      exact this
    have gB : g ≤ B := by
      have := mul_ge (x := s0 + k * s1) (y := g) (by omega) (by omega)
      omega
    refine ⟨by omega, by omega, by omega, .inr ⟨by omega, by omega, t0, t1, by omega, gB, tB, ?_, by omega, by omega⟩⟩
    have : g * Bt + s1 - (s0 + k * s1) - g * Bt = s1 - (s0 + k * s1) := by omega
    rw [this]
    exact hT
theorem pk_final {TA TL alt m t f x c s0 s1 u l A B Bt : Int} (hF : (TA - A) * u = alt * B * u + B * (TL - l) - s0 * (c * c)) (hB : B = s1 * u + s0 * l) (hT : (m + t) * u + l + f * c = TL) (hx : c - f * l = u * x) (n0 : u ≠ 0) :
    (alt + m + t) * B + A + (x * (u * Bt - s0) + f * (l * Bt + s1) - c * Bt) * c = TA := by
  have e1 : x * (u * Bt - s0) + f * (l * Bt + s1) - c * Bt = f * s1 - x * s0 := by
    have : c = u * x + f * l := by omega
    rw [this]
    clear this hF hB hT hx n0
    grind
  rw [e1]
  have : u * ((alt + m + t) * B + A + (f * s1 - x * s0) * c) = u * TA := by
    have e : u * TA = (alt * B * u + B * (TL - l) - s0 * (c * c)) + u * A := by
      rw [← hF]
      clear hF hB hT hx n0 e1
      grind
    rw [e, ← hT]
    have e3 : u * (x * s0) = s0 * (c - f * l) := by
      rw [hx]
      clear hF hB hT hx n0 e1 e
      grind
    have e4 : u * ((alt + m + t) * B + A + (f * s1 - x * s0) * c) = (alt + m + t) * B * u + u * A + (f * (s1 * u) - u * (x * s0)) * c := by
      clear hF hB hT hx n0 e1 e e3
      grind
    rw [e4, e3]
    have e5 : s1 * u = B - s0 * l := by omega
    rw [e5]
    clear hF hB hT hx n0 e1 e e3 e4 e5
    grind
  exact Int.eq_of_mul_eq_mul_left n0 this
theorem pk_fin {A B Bt g alt U L : Int} (hB : 4 * B < Bt) (hg : gc A B = g) (h : Pk A B Bt g alt U L ∨ PkE A B Bt g alt U L) :
    ∃ u l : Int, -((-U) / Bt) = u ∧ L / Bt = l ∧ 0 ≤ l ∧ l < u ∧ u ≤ B ∧ -B ≤ alt ∧ alt ≤ B ∧ 0 ≤ L ∧ 0 ≤ U ∧ U ≤ B * Bt ∧ L ≤ B * Bt ∧ ∀ m f c t, StO l u m f c t → (alt + m + t) * B + A + ((c - f * l) / u * U + f * L - c * Bt) * c = TT A B := by
  rcases h with ⟨u, l, s0, s1, rfl, rfl, S⟩ | ⟨w0, w1, L0, LB, g0, gB, LG, hT, a0, a1⟩
  · have sl := S.las_le
    have sb := S.bs
    have sp := S.s0
    have sn := S.b0
    have l0 := S.l0
    have lu := S.lu
    have aa0 := S.a0
    have aa1 := S.a1
    have d1 := dm (x := -(u * Bt - s0)) (y := Bt) (q := -u) (r := s0) (by rw [Int.neg_mul]; omega) (by omega) (by omega)
    have d2 := dm (x := l * Bt + s1) (y := Bt) (q := l) (r := s1) (by omega) (by omega) (by omega)
    have h1 := Int.mul_nonneg l0 (show 0 ≤ Bt by omega)
    have h2 := mul_ge (x := u) (y := Bt) (by omega) (by omega)
    have h3 : u * Bt ≤ B * Bt := Int.mul_le_mul_of_nonneg_right sl.2 (by omega)
    have h4 : l * Bt + Bt ≤ u * Bt := by
      have := Int.mul_le_mul_of_nonneg_right (show l + 1 ≤ u by omega) (show 0 ≤ Bt by omega)
      rw [Int.add_mul, Int.one_mul] at this
      exact this
    refine ⟨u, l, by omega, d2.1, l0, lu, sl.2, by omega, by omega, by omega, by omega, by omega, by omega, ?_⟩
    intro m f c t O
    have cg : c = g := by rw [← O.hc, S.hg]
    subst cg
    obtain ⟨x, hx⟩ := O.hd
    have ex : (c - f * l) / u = x := by rw [hx, Int.mul_ediv_cancel_left _ (by omega)]
    rw [ex]
    have hF := S.hF
    unfold Fd at hF
    exact pk_final hF S.hB O.hT hx (by omega)
  · have d1 := dm (x := -U) (y := Bt) (q := -g) (r := g * Bt - U) (by rw [Int.neg_mul]; omega) (by omega) (by omega)
    have d2 := dm (x := L) (y := Bt) (q := 0) (r := L) (by omega) (by omega) (by omega)
    have h2 := mul_ge (x := g) (y := Bt) (by omega) (by omega)
    have h3 : g * Bt ≤ B * Bt := Int.mul_le_mul_of_nonneg_right gB (by omega)
    refine ⟨g, 0, by omega, d2.1, by omega, g0, gB, a0, a1, by omega, by omega, by omega, by omega, ?_⟩
    intro m f c t O
    have cg : c = g := by
      rw [← O.hc]
      unfold gc
      rw [Int.gcd_zero_left]
      omega
    subst cg
    have o := O.hT
    rw [TT_zero g0, Int.add_zero] at o
    have mt : m + t = -f := by
      have : c * (m + t) = c * (-f) := by
        rw [Int.mul_neg, Int.mul_comm c, Int.mul_comm c]
        omega
      exact Int.eq_of_mul_eq_mul_left (by omega) this
    rw [Int.mul_zero, Int.sub_zero, Int.ediv_self (by omega), Int.one_mul]
    have e : alt + m + t = alt + -f := by omega
    rw [e, ← hT]
    have e2 : f * B = f * L * c := by rw [← LG, Int.mul_assoc]
    rw [Int.add_mul, Int.neg_mul, e2]
    clear hT o mt e e2 O
    grind
end Tm

namespace Tm
/-! The sum of a coprime pair by its teeth. -/
theorem inv_int {a : Int} {n : Nat} (hn : 0 < n) (hg : gc a n = 1) : ∃ v : Int, (a * v) % (n : Int) = 1 % (n : Int) := by
  obtain ⟨v, _, _, h⟩ := inv_ex (a := a) (b := n) (by omega) (by unfold gc at hg; have : Int.gcd a (n : Int) = 1 := by omega
                                                                 exact this)
  exact ⟨v, (Int.emod_eq_emod_iff_emod_sub_eq_zero.mpr (Int.emod_eq_zero_of_dvd h))⟩
theorem cop_rest {a b k : Int} (hb : 0 < b) (hg : gc a b = 1) (k0 : 0 < k) (k1 : k < b) : (a * k) % b ≠ 0 := by
  intro z
  obtain ⟨v, _, _, x, hx⟩ := inv_ex (a := a) (b := b) hb (by unfold gc at hg; have : Int.gcd a b = 1 := by omega
                                                             exact this)
  obtain ⟨y, hy⟩ := Int.dvd_of_emod_eq_zero z
  have : k = b * (y * v - x * k) := by
    have e1 : b * (y * v - x * k) = (b * y) * v - (b * x) * k := by grind
    rw [e1, ← hy, ← hx]
    grind
  have d : b ∣ k := ⟨_, this⟩
  have := Int.le_of_dvd k0 d
  omega
theorem rs_half {a : Int} {n : Nat} (hn : 0 < n) (hg : gc a n = 1) : sm (rs a 0 n) n = half n := by
  obtain ⟨v, hv⟩ := inv_int hn hg
  have cast : ∀ i : Nat, (((a * (i : Int) + 0) % (n : Int)).toNat : Int) = rs a 0 n i := fun i => by
    have := Int.emod_nonneg (a * (i : Int) + 0) (show (n : Int) ≠ 0 by omega)
    unfold rs
    omega
  have h2 := perm_sum (a := a) (c := 0) (v := v) (k := n) hn hv (fun j => (j : Int))
  simp only [cast] at h2
  exact h2.trans (half_sm n)
theorem S0_cop {a : Int} {n : Nat} (hn : 0 < n) (hg : gc a n = 1) : 2 * S0 n a 0 n = (a - 1) * ((n : Int) - 1) := by
  have h := rs_half hn hg
  rw [rs_sum] at h
  have t := two_half n
  have n0 : (n : Int) ≠ 0 := by omega
  have : (n : Int) * (2 * S0 n a 0 n) = n * ((a - 1) * ((n : Int) - 1)) := by
    have e : (n : Int) * ((a - 1) * ((n : Int) - 1)) = (a - 1) * ((n : Int) * ((n : Int) - 1)) := by grind
    rw [e, ← t]
    rw [Int.zero_mul, Int.add_zero] at h
    grind
  exact Int.eq_of_mul_eq_mul_left n0 this
theorem sm_krs (a : Int) (m : Int) (n : Nat) : sm (fun i => (i : Int) * rs a 0 m i) n = a * sixth n - m * S1 n a 0 m := by
  have e : ∀ i, i < n → (i : Int) * rs a 0 m i = a * ((i : Int) * i) - m * ((i : Int) * fl a 0 m i) := fun i _ => by
    rw [rs_fl]
    grind
  rw [sm_congr n e, sm_sub, sm_mul, sm_mul, sixth_sm]
  rfl
theorem plain_eq {a : Int} {n : Nat} (hn : 0 < n) (hg : gc a n = 1) : 3 * sm (fun j => (2 * ((1 + j : Nat) : Int) - n) * (2 * rs a 0 n (1 + j) - n)) (n - 1) = n * T1 a n := by
  have e0 : sm (fun i => (2 * (i : Int) - n) * (2 * rs a 0 n i - n)) n = n * n + sm (fun j => (2 * ((1 + j : Nat) : Int) - n) * (2 * rs a 0 n (1 + j) - n)) (n - 1) := by
    conv => lhs; arg 2; rw [show n = 1 + (n - 1) by omega]
    rw [sm_app]
    have z : rs a 0 (n : Int) 0 = 0 := by
      unfold rs
      rw [Int.natCast_zero, Int.mul_zero, Int.zero_add]
      exact Int.zero_emod _
    have z1 : sm (fun i => (2 * (i : Int) - n) * (2 * rs a 0 n i - n)) 1 = n * n := by
      show 0 + (2 * ((0 : Nat) : Int) - n) * (2 * rs a 0 n 0 - n) = _
      rw [z, Int.natCast_zero]
      grind
    rw [z1]
  have e1 : sm (fun i => (2 * (i : Int) - n) * (2 * rs a 0 n i - n)) n = 4 * (a * sixth n - n * S1 n a 0 n) - 2 * n * half n - 2 * n * half n + n * n * n := by
    have e : ∀ i, i < n → (2 * (i : Int) - n) * (2 * rs a 0 n i - n) = ((4 * ((i : Int) * rs a 0 n i) - (2 * (n : Int)) * (i : Int)) - (2 * (n : Int)) * rs a 0 n i) + (n : Int) * n := fun i _ => by
      generalize rs a 0 (n : Int) i = r
      grind
    rw [sm_congr n e, sm_add, sm_sub, sm_sub, sm_mul, sm_mul, sm_mul, sm_const, sm_krs, rs_half hn hg, half_sm]
  have h6 := six_sixth n
  have h2 := two_half n
  unfold T1
  rw [Int.toNat_natCast]
  generalize S1 n a 0 (n : Int) = S at *
  generalize sm (fun j => (2 * ((1 + j : Nat) : Int) - n) * (2 * rs a 0 n (1 + j) - n)) (n - 1) = X at *
  generalize sm (fun i => (2 * (i : Int) - n) * (2 * rs a 0 n i - n)) n = Y at *
  have ex : X = 4 * (a * sixth n - n * S) - 2 * n * half n - 2 * n * half n + n * n * n - n * n := by omega
  rw [ex]
  have r1 : 3 * (4 * (a * sixth n - n * S) - 2 * n * half n - 2 * n * half n + n * n * n - n * n) = 2 * a * (6 * sixth n) - 12 * n * S - 6 * n * (2 * half n) + 3 * (n * n * n) - 3 * (n * n) := by grind
  rw [r1, h6, h2]
  grind
end Tm

namespace Tm
/-! Points of triangles. -/
/-- points with a x + b y at most n -/
def Tri (a b n : Int) : Int := if n < 0 then 0 else (n / b + 1) + S0 (n / b + 1).toNat b (n % b) a
theorem PT_neg {a b n : Int} (h : n < 0) : Tri a b n = 0 := if_pos h
/-- row by row -/
theorem PT_rows {a b n : Int} (ha : 0 < a) (hb : 0 < b) (hn : 0 ≤ n) : Tri a b n = sm (fun y => (n - b * (y : Int)) / a + 1) (n / b + 1).toNat := by
  unfold Tri
  rw [if_neg (by omega)]
  have q0 : 0 ≤ n / b := Int.ediv_nonneg hn (by omega)
  obtain ⟨k, hk⟩ : ∃ k : Nat, n / b = k := ⟨(n / b).toNat, by omega⟩
  have e := Int.mul_ediv_add_emod n b
  rw [hk] at e ⊢
  have ek : ((k : Int) + 1).toNat = k + 1 := by omega
  rw [ek, sm_add, sm_const]
  unfold S0
  rw [← sm_rev]
  have c : ∀ i, i < k + 1 → fl b (n % b) a (k + 1 - 1 - i) = (n - b * (i : Int)) / a := fun i hi => by
    unfold fl
    congr 1
    have : ((k + 1 - 1 - i : Nat) : Int) = (k : Int) - i := by omega
    rw [this, Int.mul_sub]
    omega
  rw [sm_congr _ c]
  omega
/-- the count over a box -/
def CT (a b n : Int) (N : Nat) : Int := sm (fun y => sm (fun x => ind (decide (a * (x : Int) + b * (y : Int) ≤ n))) N) N
theorem CT_swap (a b n : Int) (N : Nat) : CT a b n N = CT b a n N := by
  unfold CT
  rw [sm_swap]
  refine sm_congr _ fun y _ => sm_congr _ fun x _ => ?_
  rw [Int.add_comm]
theorem sm_ind_le {a m : Int} (ha : 0 < a) (hm : 0 ≤ m) : ∀ N : Nat, m / a + 1 ≤ N → sm (fun x => ind (decide (a * (x : Int) ≤ m))) N = m / a + 1 := by
  intro N hN
  have q0 : 0 ≤ m / a := Int.ediv_nonneg hm (by omega)
  obtain ⟨k, hk⟩ : ∃ k : Nat, m / a + 1 = k := ⟨(m / a + 1).toNat, by omega⟩
  have e : ∀ x : Nat, decide (a * (x : Int) ≤ m) = decide (x < k) := fun x => by
    have h : a * (x : Int) ≤ m ↔ (x : Int) ≤ m / a := by rw [Int.mul_comm]; exact (Int.le_ediv_iff_mul_le ha).symm
    by_cases z : x < k
    · rw [decide_eq_true z, decide_eq_true (h.mpr (by omega))]
    · rw [decide_eq_false z, decide_eq_false (fun w => z (by have := h.mp w; omega))]
  simp only [e]
  rw [sm_ind_lt, hk, show min N k = k by omega]
theorem sm_zero {f : Nat → Int} : ∀ n : Nat, (∀ i, i < n → f i = 0) → sm f n = 0 := by
  intro n h
  rw [sm_congr n h, sm_const, Int.zero_mul]
theorem PT_CT {a b n : Int} (ha : 0 < a) (hb : 0 < b) (hn : 0 ≤ n) {N : Nat} (hN : n + 1 ≤ N) : Tri a b n = CT a b n N := by
  rw [PT_rows ha hb hn]
  unfold CT
  have q0 : 0 ≤ n / b := Int.ediv_nonneg hn (by omega)
  have qn : n / b ≤ n := Int.ediv_le_self _ hn
  obtain ⟨k, hk⟩ : ∃ k : Nat, n / b + 1 = k := ⟨(n / b + 1).toNat, by omega⟩
  obtain ⟨r, rfl⟩ : ∃ r : Nat, N = k + r := ⟨N - k, by omega⟩
  rw [hk, sm_app]
  have z : sm (fun i => sm (fun x => ind (decide (a * (x : Int) + b * ((k + i : Nat) : Int) ≤ n))) (k + r)) r = 0 := sm_zero _ fun i _ => sm_zero _ fun x _ => by
    have e := Int.mul_ediv_add_emod n b
    have e2 := Int.emod_lt_of_pos n hb
    have h1 : b * (n / b + 1) ≤ b * ((k + i : Nat) : Int) := Int.mul_le_mul_of_nonneg_left (by omega) (by omega)
    have h2 := Int.mul_nonneg (show 0 ≤ a by omega) (show 0 ≤ (x : Int) by omega)
    rw [Int.mul_add, Int.mul_one] at h1
    rw [decide_eq_false (by omega)]
    rfl
  rw [z, Int.add_zero, show (k : Int).toNat = k by omega]
  refine sm_congr _ fun y hy => ?_
  have hb2 : b * (y : Int) ≤ n := by
    have := (Int.le_ediv_iff_mul_le hb (a := (y : Int)) (b := n)).mp (by omega)
    rw [Int.mul_comm]
    exact this
  have hby := Int.mul_nonneg (show 0 ≤ b by omega) (show 0 ≤ (y : Int) by omega)
  have e : ∀ x : Nat, decide (a * (x : Int) + b * (y : Int) ≤ n) = decide (a * (x : Int) ≤ n - b * (y : Int)) := fun x => by
    congr 1
    exact propext ⟨fun h => by omega, fun h => by omega⟩
  simp only [e]
  rw [sm_ind_le ha (by omega)]
  have : (n - b * (y : Int)) / a ≤ n - b * (y : Int) := Int.ediv_le_self _ (by omega)
  omega
theorem PT_swap {a b n : Int} (ha : 0 < a) (hb : 0 < b) : Tri a b n = Tri b a n := by
  rcases Int.lt_or_le n 0 with h | h
  · rw [PT_neg h, PT_neg h]
  · rw [PT_CT ha hb h (N := (n + 1).toNat) (by omega), PT_CT hb ha h (N := (n + 1).toNat) (by omega), CT_swap]
/-- without its lowest row -/
theorem PT_row {a b n : Int} (ha : 0 < a) (hb : 0 < b) (hn : 0 ≤ n) : Tri a b n = n / a + 1 + Tri a b (n - b) := by
  rw [PT_rows ha hb hn]
  have q0 : 0 ≤ n / b := Int.ediv_nonneg hn (by omega)
  have e1 : (n - b) / b = n / b - 1 := by
    have := Int.add_mul_ediv_right n (-1) (show b ≠ 0 by omega)
    rw [show n + -1 * b = n - b by omega] at this
    omega
  obtain ⟨k, hk⟩ : ∃ k : Nat, n / b = k := ⟨(n / b).toNat, by omega⟩
  rw [hk, show ((k : Int) + 1).toNat = 1 + k by omega, sm_app]
  have z : sm (fun y => (n - b * (y : Int)) / a + 1) 1 = n / a + 1 := by
    show 0 + ((n - b * ((0 : Nat) : Int)) / a + 1) = _
    rw [Int.natCast_zero, Int.mul_zero, Int.sub_zero, Int.zero_add]
  rw [z]
  congr 1
  rcases Int.lt_or_le n b with h | h
  · have : n / b = 0 := Int.ediv_eq_zero_of_lt hn h
    have k0 : k = 0 := by omega
    subst k0
    rw [PT_neg (by omega)]
    rfl
  · rw [PT_rows ha hb (by omega), e1, hk, show ((k : Int) - 1 + 1).toNat = k by omega]
    refine sm_congr _ fun y _ => ?_
    congr 2
    rw [Int.natCast_add, Int.mul_add]
    omega
theorem PT_scale {a b n f r : Int} (ha : 0 < a) (hb : 0 < b) (hf : 0 < f) (r0 : 0 ≤ r) (r1 : r < f) : Tri (f * a) (f * b) (f * n + r) = Tri a b n := by
  have dv : ∀ m c : Int, 0 < c → (f * m + r) / (f * c) = m / c := fun m c hc => by
    have e := Int.mul_ediv_add_emod m c
    have s0 := Int.emod_nonneg m (show c ≠ 0 by omega)
    have s1 := Int.emod_lt_of_pos m hc
    have h1 : f * (m % c + 1) ≤ f * c := Int.mul_le_mul_of_nonneg_left (by omega) (by omega)
    have h2 := Int.mul_nonneg (show 0 ≤ f by omega) s0
    rw [Int.mul_add, Int.mul_one] at h1
    refine (dm (r := f * (m % c) + r) ?_ (by omega) (by omega)).1
    conv => lhs; rw [← e]
    clear e s0 s1 h1 h2
    grind
  rcases Int.lt_or_le n 0 with h | h
  · have := Int.mul_le_mul_of_nonneg_left (show n ≤ -1 by omega) (show 0 ≤ f by omega)
    rw [PT_neg h, PT_neg (by omega)]
  · have h0 := Int.mul_nonneg (show 0 ≤ f by omega) h
    rw [PT_rows (Int.mul_pos hf ha) (Int.mul_pos hf hb) (by omega), PT_rows ha hb h, dv _ _ hb]
    refine sm_congr _ fun y _ => ?_
    have : f * n + r - f * b * (y : Int) = f * (n - b * (y : Int)) + r := by
      rw [Int.mul_sub, Int.mul_assoc]
      omega
    rw [this, dv _ _ ha]
/-- what one more in the limit adds -/
theorem PT_step {a b n : Int} (ha : 0 < a) (hb : 0 < b) (hn : 0 ≤ n) : Tri a b n - Tri a b (n - 1) = cnt (0 - a) n b (n / a + 1).toNat := by
  rw [PT_swap ha hb, PT_swap ha hb]
  have q0 : 0 ≤ n / a := Int.ediv_nonneg hn (by omega)
  obtain ⟨k, hk⟩ : ∃ k : Nat, n / a + 1 = k := ⟨(n / a + 1).toNat, by omega⟩
  have row : ∀ y : Nat, (n - a * (y : Int)) / b + 1 - ((n - 1 - a * (y : Int)) / b + 1) = ind (decide (((0 - a) * (y : Int) + n) % b = 0)) := fun y => by
    have e : n - 1 - a * (y : Int) = n - a * (y : Int) - 1 := by omega
    rw [e, pred_div hb]
    have e2 : (0 - a) * (y : Int) + n = n - a * (y : Int) := by
      rw [Int.sub_mul, Int.zero_mul]
      omega
    rw [e2]
    omega
  have h1 : Tri b a n = sm (fun y => (n - a * (y : Int)) / b + 1) k := by
    rw [PT_rows hb ha hn, hk]
    rfl
  have h2 : Tri b a (n - 1) = sm (fun y => (n - 1 - a * (y : Int)) / b + 1) k := by
    rcases Int.lt_or_le (n - 1) 0 with h | h
    · have n0 : n = 0 := by omega
      subst n0
      have k1 : k = 1 := by
        rw [Int.zero_ediv] at hk
        omega
      subst k1
      rw [PT_neg (by omega)]
      show 0 = 0 + ((0 - 1 - a * ((0 : Nat) : Int)) / b + 1)
      have : ((0 : Int) - 1 - a * ((0 : Nat) : Int)) / b = -1 := by
        rw [Int.natCast_zero, Int.mul_zero]
        exact (dm (q := -1) (r := b - 1) (by omega) (by omega) (by omega)).1
      rw [this]
      rfl
    · rw [PT_rows hb ha h]
      have e := Int.mul_ediv_add_emod n a
      have e0 := Int.emod_nonneg n (show a ≠ 0 by omega)
      have e1 := Int.emod_lt_of_pos n ha
      rw [pred_div ha]
      by_cases z : n % a = 0
      · rw [decide_eq_true z]
        have t : (n / a - ind true + 1).toNat = k - 1 := by
          show (n / a - 1 + 1).toNat = _
          omega
        rw [t]
        obtain ⟨j, rfl⟩ : ∃ j, k = j + 1 := ⟨k - 1, by omega⟩
        show sm _ j = sm _ j + ((n - 1 - a * (j : Int)) / b + 1)
        have aj : a * (j : Int) = n := by
          rw [z, Int.add_zero] at e
          rw [← e]
          congr 1
          omega
        have : (n - 1 - a * (j : Int)) / b = -1 := by
          rw [aj]
          exact (dm (q := -1) (r := b - 1) (by omega) (by omega) (by omega)).1
        rw [this]
        omega
      · rw [decide_eq_false z]
        have t : (n / a - ind false + 1).toNat = k := by
          show (n / a - 0 + 1).toNat = _
          omega
        rw [t]
  rw [h1, h2, ← sm_sub]
  unfold cnt
  rw [show (n / a + 1).toNat = k by omega]
  exact sm_congr _ fun y _ => row y
end Tm

namespace Tm
/-! Boxes and ways. -/
theorem inv_gen {a b : Int} (hb : 0 < b) (hg : gc a b = 1) : ∃ v : Int, (a * v) % b = 1 % b := by
  obtain ⟨n, rfl⟩ : ∃ n : Nat, b = n := ⟨b.toNat, by omega⟩
  exact inv_int (by omega) hg
theorem PT_box {a b t : Int} (ha : 0 < a) (hb : 0 < b) (ht : 0 ≤ t) : 2 * Tri a b (a * b * t) = (b * t + 1) * (a * t + 1) + (t * gc a b + 1) := by
  have at0 := Int.mul_nonneg (show 0 ≤ a by omega) ht
  have n0 : 0 ≤ a * b * t := Int.mul_nonneg (Int.mul_nonneg (by omega) (by omega)) ht
  have e1 : a * b * t = b * (a * t) := by grind
  have q : a * b * t / b = a * t := by rw [e1, Int.mul_ediv_cancel_left _ (by omega)]
  have r : a * b * t % b = 0 := by rw [e1, Int.mul_emod_right]
  unfold Tri
  rw [if_neg (by omega), q, r]
  obtain ⟨N, hN⟩ : ∃ N : Nat, a * t = N := ⟨(a * t).toNat, by omega⟩
  rw [hN, show ((N : Int) + 1).toNat = N + 1 by omega]
  have rv := S0_rev b 0 a (N + 1) (by omega)
  have ne := S0_neg (a := b) (c := 0) ha (N + 1)
  have li := S0_lift (n := N + 1) (a := 0 - b) (c := 0) (m := a) (u := 0) (v := b * t) (by omega)
  have e2 : (0 : Int) + b * (((N + 1 : Nat) : Int) - 1) = 0 + b * t * a := by
    have : ((N + 1 : Nat) : Int) - 1 = a * t := by omega
    rw [this]
    grind
  rw [e2] at rv
  rw [show (0 : Int) - b + 0 * a = 0 - b by omega] at li
  rw [li] at rv
  rw [show (0 : Int) - 0 = 0 by omega] at ne
  rw [ne] at rv
  -- how many are hit
  have hc : cnt b 0 a (N + 1) = t * gc a b + 1 := by
    obtain ⟨x, y, hx, hy, y0, ex, ey, h1⟩ := gc_parts (a := b) (b := a) ha
    have g0 := gc_pos (a := b) ha
    obtain ⟨v, hv⟩ := inv_gen y0 h1
    have c := cnt_some (a := x) (c := 0) (g := gc b a) (k := y) (v := v) g0 y0 hv (N + 1)
    rw [← hx, ← hy, Int.mul_zero] at c
    rw [c, gc_comm (a := a)]
    have z : (-0 * v) % y = 0 := by
      rw [show (-0 : Int) = 0 by rfl, Int.zero_mul, Int.zero_emod]
    rw [z]
    have : ((N + 1 : Nat) : Int) - 1 - 0 = y * (t * gc b a) := by
      have : ((N + 1 : Nat) : Int) - 1 - 0 = a * t := by omega
      rw [this]
      conv => lhs; lhs; rw [hy]
      grind
    rw [this, Int.mul_ediv_cancel_left _ (by omega)]
  rw [hc] at rv
  have hN2 : ((N + 1 : Nat) : Int) = a * t + 1 := by omega
  rw [hN2] at rv
  rw [← hN]
  generalize S0 (N + 1) b 0 a = S at *
  generalize gc a b = g at *
  clear li ne e2 hc hN hN2 q r e1 n0 at0
  rw [Int.zero_mul, Int.add_zero] at rv
  grind
theorem gc_one {b : Int} : gc 1 b = 1 := by
  unfold gc
  rw [Int.gcd_one_left]
  rfl
/-- the ways to reach a number -/
theorem cnt_ways {a b n v : Int} (ha : 0 < a) (hb : 0 < b) (hn : 0 ≤ n) {g A B m : Int} (g0 : 0 < g) (hA : a = g * A) (hB : b = g * B) (hm : n = g * m) (hv : (A * v) % B = 1 % B) (A0 : 0 < A) (B0 : 0 < B) :
    cnt (0 - a) n b (n / a + 1).toNat = if 0 ≤ m - m * v % B * A then (m - m * v % B * A) / (A * B) + 1 else 0 := by
  have m0 : 0 ≤ m := by
    rcases Int.lt_or_le m 0 with z | z
    · have := Int.mul_le_mul_of_nonneg_left (show m ≤ -1 by omega) (show 0 ≤ g by omega)
      omega
    · exact z
  have hv2 : ((0 - A) * (-v)) % B = 1 % B := by
    rw [show (0 - A) * (-v) = A * v by grind]
    exact hv
  have q0 : 0 ≤ n / a := Int.ediv_nonneg hn (by omega)
  have qe : n / a = m / A := by rw [hm, hA, Int.mul_ediv_mul_of_pos _ _ g0]
  have c := cnt_some (a := 0 - A) (c := m) (g := g) (k := B) (v := -v) g0 B0 hv2 (n / a + 1).toNat
  rw [← hm, ← hB, show g * (0 - A) = 0 - a by rw [hA]; grind] at c
  rw [c, show (((n / a + 1).toNat : Nat) : Int) - 1 = m / A by rw [← qe]; omega, show -m * -v = m * v by grind]
  have l0 := Int.emod_nonneg (m * v) (show B ≠ 0 by omega)
  have l1 := Int.emod_lt_of_pos (m * v) B0
  generalize m * v % B = w at *
  have mA0 : 0 ≤ m / A := Int.ediv_nonneg m0 (by omega)
  have e := Int.mul_ediv_add_emod m A
  have e0 := Int.emod_nonneg m (show A ≠ 0 by omega)
  have e1 := Int.emod_lt_of_pos m A0
  have sub : (m - w * A) / A = m / A - w := by
    refine (dm (r := m % A) ?_ e0 e1).1
    conv => lhs; lhs; rw [← e]
    clear c hv hv2 e
    grind
  split
  · rename_i h
    rw [← Int.ediv_ediv_of_nonneg (by omega), sub]
  · rename_i h
    have : m / A < w := by
      rcases Int.lt_or_le (m / A) w with z | z
      · exact z
      · have := Int.mul_le_mul_of_nonneg_right z (show 0 ≤ A by omega)
        rw [Int.mul_comm (m / A)] at this
        omega
    have := (dm (x := m / A - w) (y := B) (q := -1) (r := m / A - w + B) (by omega) (by omega) (by omega)).1
    omega
theorem PT_inner {a b : Int} (ha : 0 < a) (hb : 0 < b) : Tri a b (a * b - a - b - 1) * 2 = (a - 1) * (b - 1) - (gc a b - 1) := by
  have bx := PT_box (t := 1) ha hb (by omega)
  rw [Int.mul_one, Int.mul_one, Int.mul_one, Int.one_mul] at bx
  have ab0 : 0 < a * b := Int.mul_pos ha hb
  have r1 := PT_row (n := a * b) ha hb (by omega)
  rw [Int.mul_ediv_cancel_left _ (show a ≠ 0 by omega)] at r1
  have h2 : 0 ≤ a * b - b := by
    have := mul_ge (x := a) (y := b) (by omega) (by omega)
    omega
  have r2 := PT_row (n := a * b - b) hb ha h2
  have d2 : (a * b - b) / b = a - 1 := by
    rw [show a * b - b = b * (a - 1) by grind, Int.mul_ediv_cancel_left _ (by omega)]
  rw [d2, PT_swap hb ha, PT_swap hb ha] at r2
  rw [show a * b - b - a = a * b - a - b by omega] at r2
  rcases Int.lt_or_le (a * b - a - b) 0 with h | h
  · rw [PT_neg (by omega), Int.zero_mul]
    rw [PT_neg h] at r2
    rw [show (a * b - b) = a * b - b by rfl] at r1
    rw [r2] at r1
    rw [r1] at bx
    generalize gc a b = g at *
    clear r1 r2 d2 h2
    have nn := Int.mul_nonneg (show 0 ≤ a - 1 by omega) (show 0 ≤ b - 1 by omega)
    have ex : (a - 1) * (b - 1) = a * b - a - b + 1 := by grind
    have ex2 : (b + 1) * (a + 1) = a * b + a + b + 1 := by grind
    rw [ex] at nn ⊢
    rw [ex2] at bx
    omega
  · have st := PT_step ha hb h
    obtain ⟨x, y, hx, hy, y0, ex, ey, h1⟩ := gc_parts (a := a) (b := b) hb
    have g0 := gc_pos (a := a) hb
    have x0 : 0 < x := by
      rcases Int.lt_or_le 0 x with z | z
      · exact z
      · have := Int.mul_le_mul_of_nonneg_left z (show 0 ≤ gc a b by omega)
        omega
    obtain ⟨v, hv⟩ := inv_gen y0 h1
    generalize hG : gc a b = g at *
    have hm : a * b - a - b = g * (g * x * y - x - y) := by
      conv => lhs; rw [hx, hy]
      grind
    have w := cnt_ways ha hb h g0 hx hy hm hv x0 y0
    have lw : (g * x * y - x - y) * v % y = y - 1 := by
      obtain ⟨k, hk⟩ := Int.dvd_of_emod_eq_zero (Int.emod_eq_emod_iff_emod_sub_eq_zero.mp hv)
      have : (g * x * y - x - y) * v = (y - 1) + (g * x * v - v - k - 1) * y := by
        have e : x * v = 1 + y * k := by omega
        have e2 : (g * x * y - x - y) * v = g * (x * v) * y - x * v - y * v := by grind
        rw [e2, e]
        have e3 : g * x * v = g * (1 + y * k) := by rw [← e]; grind
        rw [e3]
        clear hv hk e e2 e3 st w hm r1 r2 bx
        grind
      rw [this, Int.add_mul_emod_self_right, Int.emod_eq_of_lt (by omega) (by omega)]
    rw [lw] at w
    have cs : g * x * y - x - y - (y - 1) * x = (g - 1) * (x * y) - y := by grind
    rw [cs] at w
    have xy0 : 0 < x * y := Int.mul_pos x0 y0
    have xy1 : y ≤ x * y := mul_ge (by omega) (by omega)
    have cv : cnt (0 - a) (a * b - a - b) b ((a * b - a - b) / a + 1).toNat = g - 1 := by
      rw [w]
      rcases Int.lt_or_le 1 g with z | z
      · have := Int.mul_le_mul_of_nonneg_right (show 1 ≤ g - 1 by omega) (show 0 ≤ x * y by omega)
        rw [if_pos (by omega)]
        have := (dm (x := (g - 1) * (x * y) - y) (y := x * y) (q := g - 2) (r := x * y - y) (by grind) (by omega) (by omega)).1
        omega
      · have : g = 1 := by omega
        subst this
        rw [if_neg (by omega)]
        rfl
    rw [cv] at st
    rw [r2] at r1
    clear w cv lw cs hv h1 hm ex ey hx hy
    grind
end Tm

namespace Tm
/-! Rules of the sums. -/
theorem T1_rests {a : Int} {n : Nat} (hn : 0 < n) : (n : Int) * T1 a n = 12 * sm (fun i => (i : Int) * rs a 0 n i) n - 3 * n * n * (n - 1) := by
  have e := sm_krs a n n
  have s := six_sixth n
  unfold T1
  rw [e, show ((n : Int)).toNat = n by omega]
  generalize S1 n a 0 n = z at *
  generalize sixth (n : Int) = y at *
  clear e
  grind
theorem inv_rest {a v : Int} {n : Nat} (hn : 0 < n) (hv : (a * v) % (n : Int) = 1 % (n : Int)) {i : Nat} (hi : i < n) : (v * ((a * (i : Int)) % (n : Int))) % (n : Int) = i := by
  have e1 : (v * ((a * (i : Int)) % (n : Int))) % (n : Int) = (v * (a * (i : Int))) % (n : Int) := by
    rw [Int.mul_emod, Int.emod_emod_of_dvd _ (Int.dvd_refl _), ← Int.mul_emod]
  rw [e1, show v * (a * (i : Int)) = (a * v) * (i : Int) by grind, Int.mul_emod, hv, ← Int.mul_emod, Int.one_mul]
  exact Int.emod_eq_of_lt (by omega) (by omega)
theorem T1_inv {a v : Int} {n : Nat} (hn : 0 < n) (hv : (a * v) % (n : Int) = 1 % (n : Int)) : T1 v n = T1 a n := by
  have h1 := T1_rests (a := a) hn
  have h2 := T1_rests (a := v) hn
  have p := perm_sum (a := a) (c := 0) (v := v) hn hv (fun j => (j : Int) * rs v 0 n j)
  have c : sm (fun i => (fun j : Nat => (j : Int) * rs v 0 n j) ((a * (i : Int) + 0) % (n : Int)).toNat) n = sm (fun i => (i : Int) * rs a 0 n i) n := sm_congr n fun i hi => by
    have r0 := Int.emod_nonneg (a * (i : Int)) (show (n : Int) ≠ 0 by omega)
    show ((((a * (i : Int) + 0) % (n : Int)).toNat : Nat) : Int) * rs v 0 n _ = _
    rw [Int.add_zero]
    have e : ((((a * (i : Int)) % (n : Int)).toNat : Nat) : Int) = (a * (i : Int)) % (n : Int) := by omega
    unfold rs
    rw [e, Int.add_zero, Int.add_zero, inv_rest hn hv hi, Int.mul_comm]
  rw [c] at p
  rw [← p] at h2
  have := h2.trans h1.symm
  exact Int.eq_of_mul_eq_mul_left (by omega) this
theorem T1_neg {a : Int} {n : Nat} (hn : 0 < n) (hg : gc a n = 1) : T1 (-a) n = - T1 a n := by
  have e : S1 n (-a) 0 n = - S1 n a 0 n - half n := by
    unfold S1
    rw [← half_sm, ← sm_neg, ← sm_sub]
    refine sm_congr n fun i hi => ?_
    have f := fl_neg (a := a) (c := 0) (m := n) (by omega) i
    rw [show (0 : Int) - a = -a by omega, show (0 : Int) - 0 = 0 by omega] at f
    rw [f]
    by_cases z : i = 0
    · subst z
      rw [Int.natCast_zero, Int.zero_mul, Int.zero_mul]
      rfl
    · have nz := cop_rest (a := a) (b := n) (k := i) (by omega) hg (by omega) (by omega)
      rw [decide_eq_false (by rw [Int.add_zero]; exact nz)]
      show (i : Int) * (- fl a 0 n i - 1 + 0) = _
      rw [Int.add_zero, Int.mul_sub, Int.mul_neg, Int.mul_one]
  have h := two_half n
  unfold T1
  rw [show ((n : Int)).toNat = n by omega, e]
  generalize S1 n a 0 n = z at *
  generalize half (n : Int) = y at *
  clear e hg
  grind
theorem gc_neg {a b : Int} : gc (-a) b = gc a b := by
  unfold gc
  rw [Int.neg_gcd]
theorem TT_neg {a b : Int} (hb : 0 < b) : TT (-a) b = - TT a b := by
  obtain ⟨x, y, hx, hy, y0, ex, ey, h1⟩ := gc_parts (a := a) hb
  have g0 := gc_pos (a := a) hb
  unfold TT
  rw [gc_neg]
  have e : -a / gc a b = -x := by
    conv => lhs; lhs; rw [hx]
    rw [← Int.mul_neg, Int.mul_ediv_cancel_left _ (by omega)]
  rw [e, ex, ey]
  obtain ⟨n, rfl⟩ : ∃ n : Nat, y = n := ⟨y.toNat, by omega⟩
  rw [T1_neg (by omega) h1, Int.mul_neg]
theorem gc_scale {a b f : Int} (hf : 0 < f) : gc (a * f) (b * f) = gc a b * f := by
  unfold gc
  rw [Int.gcd_mul_right, Int.natCast_mul, Int.natAbs_of_nonneg (by omega)]
theorem TT_scale {a b f : Int} (hb : 0 < b) (hf : 0 < f) : TT (a * f) (b * f) = f * TT a b := by
  have g0 := gc_pos (a := a) hb
  unfold TT
  rw [gc_scale hf, Int.mul_ediv_mul_of_pos_left _ _ hf, Int.mul_ediv_mul_of_pos_left _ _ hf, Int.mul_comm (gc a b) f, Int.mul_assoc]
theorem T1_one : T1 1 1 = 0 := by decide +kernel
theorem T1_any {p q : Int} (hp : 0 < p) (hq : 0 < q) (hg : gc p q = 1) : p * T1 p q + q * T1 q p = p * p + q * q + 1 - 3 * (p * q) := by
  rcases Int.lt_trichotomy p q with h | h | h
  · exact T1_rec hp h hg
  · subst h
    have : p = 1 := by
      unfold gc at hg
      rw [Int.gcd_self] at hg
      omega
    subst this
    rw [T1_one]
    rfl
  · have := T1_rec hq h (by rw [gc_comm]; exact hg)
    rw [Int.mul_comm q p] at this
    omega
end Tm

namespace Tm
/-! Three numbers at once: whose share of a side is the greatest. -/
theorem sm_mul_sm (f g : Nat → Int) (m n : Nat) : sm f m * sm g n = sm (fun j => sm (fun k => f j * g k) n) m := by
  have e : ∀ j, j < m → sm (fun k => f j * g k) n = sm g n * f j := fun j _ => by rw [sm_mul, Int.mul_comm]
  rw [sm_congr m e, sm_mul, Int.mul_comm]
/-- no ties -/
theorem no_tie {a b x y : Nat} (hg : gc a b = 1) (x0 : 0 < x) (x1 : x < a) : (a : Int) * y ≠ b * x := by
  intro h
  have z := cop_rest (a := b) (b := a) (k := x) (by omega) (by rw [gc_comm]; exact hg) (by omega) (by omega)
  apply z
  rw [← h, Int.mul_emod_right]
theorem fl_side {a b : Nat} (ha : 0 < a) (hb : 0 < b) (hg : gc a b = 1) {i : Nat} (hi : 1 + i < a) :
    fl b 0 a (1 + i) = sm (fun j => ind (decide ((a : Int) * ((1 + j : Nat) : Int) < b * ((1 + i : Nat) : Int)))) (b - 1) := by
  have q0 : 0 ≤ fl b 0 a (1 + i) := fl_nn (by omega) (by omega) (by omega) _
  obtain ⟨k, hk⟩ : ∃ k : Nat, fl b 0 a (1 + i) = k := ⟨(fl b 0 a (1 + i)).toNat, by omega⟩
  have hq : (b : Int) * ((1 + i : Nat) : Int) / a = k := by
    have : fl b 0 a (1 + i) = ((b : Int) * ((1 + i : Nat) : Int) + 0) / a := rfl
    rw [Int.add_zero] at this
    rw [← this, hk]
  have c : ∀ j, j < b - 1 → ind (decide ((a : Int) * ((1 + j : Nat) : Int) < b * ((1 + i : Nat) : Int))) = ind (decide (j < k)) := fun j _ => by
    congr 1
    have t := no_tie (y := 1 + j) hg (show 0 < 1 + i by omega) hi
    have l : (((1 + j : Nat) : Int)) ≤ (b : Int) * ((1 + i : Nat) : Int) / a ↔ ((1 + j : Nat) : Int) * a ≤ b * ((1 + i : Nat) : Int) := Int.le_ediv_iff_mul_le (by omega)
    rw [hq, Int.mul_comm ((1 + j : Nat) : Int)] at l
    exact decide_eq_decide.mpr ⟨fun h => by have := l.mpr (by omega); omega, fun h => by have := l.mp (by omega); omega⟩
  have kb : k ≤ b - 1 := by
    have h1 : (b : Int) * ((1 + i : Nat) : Int) < b * a := Int.mul_lt_mul_of_pos_left (by omega) (by omega)
    have h2 : (b : Int) * ((1 + i : Nat) : Int) / a < b := Int.ediv_lt_of_lt_mul (by omega) h1
    omega
  rw [sm_congr _ c, sm_ind_lt, hk, Nat.min_eq_right kb]
theorem sm_from1 {f : Nat → Int} (h : f 0 = 0) {n : Nat} (hn : 0 < n) : sm f n = sm (fun i => f (1 + i)) (n - 1) := by
  obtain ⟨m, rfl⟩ : ∃ m, n = 1 + m := ⟨n - 1, by omega⟩
  rw [sm_app]
  show 0 + f 0 + _ = _
  rw [h, show 1 + m - 1 = m by omega]
  omega
/-- products of floors of two lines -/
def Gf (a b c : Nat) : Int := sm (fun i => fl b 0 a i * fl c 0 a i) a
theorem Gf_count {a b c : Nat} (ha : 0 < a) (hb : 0 < b) (hc : 0 < c) (h1 : gc a b = 1) (h2 : gc a c = 1) :
    Gf a b c = sm (fun i => sm (fun j => sm (fun k => ind (decide ((a : Int) * ((1 + j : Nat) : Int) < b * ((1 + i : Nat) : Int))) * ind (decide ((a : Int) * ((1 + k : Nat) : Int) < c * ((1 + i : Nat) : Int)))) (c - 1)) (b - 1)) (a - 1) := by
  unfold Gf
  rw [sm_from1 (by show ((b : Int) * ((0 : Nat) : Int) + 0) / a * _ = 0; rw [Int.natCast_zero, Int.mul_zero, Int.zero_add, Int.zero_ediv, Int.zero_mul]) ha]
  refine sm_congr _ fun i hi => ?_
  rw [fl_side ha hb h1 (by omega), fl_side ha hc h2 (by omega), sm_mul_sm]
theorem ind_flip {p q : Int} (h : p ≠ q) : ind (decide (q < p)) = 1 - ind (decide (p < q)) := by
  by_cases z : p < q
  · rw [decide_eq_true z, decide_eq_false (by omega)]
    rfl
  · rw [decide_eq_false z, decide_eq_true (by omega)]
    rfl
theorem ind_cases (p : Prop) [Decidable p] : (p ∧ ind (decide p) = 1) ∨ (¬ p ∧ ind (decide p) = 0) := by
  by_cases z : p
  · exact .inl ⟨z, by rw [decide_eq_true z]; rfl⟩
  · exact .inr ⟨z, by rw [decide_eq_false z]; rfl⟩
theorem three_one {a b c x y z : Nat} (ha : 0 < a) (hb : 0 < b) (hc : 0 < c) (t1 : (a : Int) * y ≠ b * x) (t2 : (a : Int) * z ≠ c * x) (t3 : (b : Int) * z ≠ c * y) :
    ind (decide ((a : Int) * y < b * x)) * ind (decide ((a : Int) * z < c * x)) + ind (decide ((b : Int) * z < c * y)) * ind (decide ((b : Int) * x < a * y)) + ind (decide ((c : Int) * x < a * z)) * ind (decide ((c : Int) * y < b * z)) = 1 := by
  rw [ind_flip t1, ind_flip t2, ind_flip t3]
  have a0 : 0 < (a : Int) := by omega
  have b0 : 0 < (b : Int) := by omega
  have c0 : 0 < (c : Int) := by omega
  have e1 : (c : Int) * (a * y) = a * (c * y) := by grind
  have e2 : (c : Int) * (b * x) = b * (c * x) := by grind
  have e3 : (b : Int) * (a * z) = a * (b * z) := by grind
  rcases ind_cases ((a : Int) * y < b * x) with ⟨p, e⟩ | ⟨p, e⟩ <;> rcases ind_cases ((a : Int) * z < c * x) with ⟨q, f⟩ | ⟨q, f⟩ <;> rcases ind_cases ((b : Int) * z < c * y) with ⟨r, g⟩ | ⟨r, g⟩ <;> rw [e, f, g] <;> try rfl
  · exfalso
    have h1 := Int.mul_lt_mul_of_pos_left p c0
    have h2 := Int.mul_lt_mul_of_pos_left (show (c : Int) * x < a * z by omega) b0
    have h3 := Int.mul_lt_mul_of_pos_left r a0
    omega
  · exfalso
    have h1 := Int.mul_lt_mul_of_pos_left (show (b : Int) * x < a * y by omega) c0
    have h2 := Int.mul_lt_mul_of_pos_left q b0
    have h3 := Int.mul_lt_mul_of_pos_left (show (c : Int) * y < b * z by omega) a0
    omega
theorem three_count {a b c : Nat} (ha : 0 < a) (hb : 0 < b) (hc : 0 < c) (h1 : gc a b = 1) (h2 : gc b c = 1) (h3 : gc c a = 1) : Gf a b c + Gf b c a + Gf c a b = ((a : Int) - 1) * ((b : Int) - 1) * ((c : Int) - 1) := by
  rw [Gf_count ha hb hc h1 (by rw [gc_comm]; exact h3), Gf_count hb hc ha h2 (by rw [gc_comm]; exact h1), Gf_count hc ha hb h3 (by rw [gc_comm]; exact h2)]
  -- the second one: over j, k, i; the third: over k, i, j
  have s2 : ∀ F : Nat → Nat → Nat → Int, sm (fun j => sm (fun k => sm (fun i => F i j k) (a - 1)) (c - 1)) (b - 1) = sm (fun i => sm (fun j => sm (fun k => F i j k) (c - 1)) (b - 1)) (a - 1) := fun F => by
    have e : ∀ j, j < b - 1 → sm (fun k => sm (fun i => F i j k) (a - 1)) (c - 1) = sm (fun i => sm (fun k => F i j k) (c - 1)) (a - 1) := fun j _ => sm_swap _ _ _
    rw [sm_congr _ e, sm_swap]
  have s3 : ∀ F : Nat → Nat → Nat → Int, sm (fun k => sm (fun i => sm (fun j => F i j k) (b - 1)) (a - 1)) (c - 1) = sm (fun i => sm (fun j => sm (fun k => F i j k) (c - 1)) (b - 1)) (a - 1) := fun F => by
    rw [sm_swap]
    refine sm_congr _ fun i _ => ?_
    rw [sm_swap]
  rw [s2 (fun i j k => ind (decide ((b : Int) * ((1 + k : Nat) : Int) < c * ((1 + j : Nat) : Int))) * ind (decide ((b : Int) * ((1 + i : Nat) : Int) < a * ((1 + j : Nat) : Int)))),
    s3 (fun i j k => ind (decide ((c : Int) * ((1 + i : Nat) : Int) < a * ((1 + k : Nat) : Int))) * ind (decide ((c : Int) * ((1 + j : Nat) : Int) < b * ((1 + k : Nat) : Int))))]
  rw [← sm_add, ← sm_add]
  refine (sm_congr (g := fun _ => ((b - 1 : Nat) : Int) * ((c - 1 : Nat) : Int)) _ fun i hi => ?_).trans ?_
  · show sm _ _ + sm _ _ + sm _ _ = _
    rw [← sm_add, ← sm_add]
    refine (sm_congr (g := fun _ => ((c - 1 : Nat) : Int)) _ fun j hj => ?_).trans ?_
    · show sm _ _ + sm _ _ + sm _ _ = _
      rw [← sm_add, ← sm_add]
      refine (sm_congr (g := fun _ => 1) _ fun k hk => ?_).trans ?_
      · exact three_one (x := 1 + i) (y := 1 + j) (z := 1 + k) ha hb hc (no_tie h1 (by omega) (by omega)) (no_tie (by rw [gc_comm]; exact h3) (by omega) (by omega)) (no_tie h2 (by omega) (by omega))
      · rw [sm_const, Int.one_mul]
    · rw [sm_const, Int.mul_comm]
  rw [sm_const]
  have x1 : ((a - 1 : Nat) : Int) = (a : Int) - 1 := by omega
  have x2 : ((b - 1 : Nat) : Int) = (b : Int) - 1 := by omega
  have x3 : ((c - 1 : Nat) : Int) = (c : Int) - 1 := by omega
  rw [x1, x2, x3]
  grind
/-- products of rests -/
theorem rests_inv {a : Nat} {b c v : Int} (ha : 0 < a) (hv : (c * v) % (a : Int) = 1 % (a : Int)) : sm (fun i => rs b 0 a i * rs c 0 a i) a = sm (fun i => (i : Int) * rs (b * v) 0 a i) a := by
  have p := perm_sum (a := c) (c := 0) (v := v) ha hv (fun j => (j : Int) * rs (b * v) 0 a j)
  rw [← p]
  refine sm_congr a fun i hi => ?_
  have r0 := Int.emod_nonneg (c * (i : Int)) (show (a : Int) ≠ 0 by omega)
  show _ = ((((c * (i : Int) + 0) % (a : Int)).toNat : Nat) : Int) * rs (b * v) 0 a _
  rw [Int.add_zero]
  have e : ((((c * (i : Int)) % (a : Int)).toNat : Nat) : Int) = (c * (i : Int)) % (a : Int) := by omega
  unfold rs
  rw [e, Int.add_zero, Int.add_zero, Int.add_zero, Int.mul_comm]
  congr 1
  have h := inv_rest (i := i) ha hv hi
  have e1 : (b * v * ((c * (i : Int)) % (a : Int))) % (a : Int) = (b * ((v * ((c * (i : Int)) % (a : Int))) % (a : Int))) % (a : Int) := by
    rw [Int.mul_assoc b v, Int.mul_emod b (v * _), Int.mul_emod b ((v * _) % _), Int.emod_emod_of_dvd _ (Int.dvd_refl _)]
  rw [e1, h]
theorem Gf_T {a : Nat} {b c : Nat} {v : Int} (ha : 0 < a) (hv : ((c : Int) * v) % (a : Int) = 1 % (a : Int)) :
    12 * ((a : Int) * Gf a b c) = 2 * b * c * (a - 1) * (2 * a - 1) - b * T1 c a - c * T1 b a + T1 (b * v) a - 3 * a * (a - 1) * (b + c - 1) := by
  have e : (a : Int) * (a * Gf a b c) = b * c * sixth a - b * sm (fun i => (i : Int) * rs c 0 a i) a - c * sm (fun i => (i : Int) * rs b 0 a i) a + sm (fun i => rs b 0 a i * rs c 0 a i) a := by
    unfold Gf
    rw [← sixth_sm, ← sm_mul, ← sm_mul, ← sm_mul, ← sm_mul, ← sm_mul, ← sm_sub, ← sm_sub, ← sm_add]
    refine sm_congr a fun i _ => ?_
    rw [rs_fl, rs_fl]
    grind
  rw [rests_inv ha hv] at e
  have h1 := T1_rests (a := c) ha
  have h2 := T1_rests (a := b) ha
  have h3 := T1_rests (a := b * v) ha
  have s := six_sixth a
  generalize Gf a b c = G at *
  generalize sixth (a : Int) = S at *
  generalize sm (fun i => (i : Int) * rs c 0 a i) a = Q1 at *
  generalize sm (fun i => (i : Int) * rs b 0 a i) a = Q2 at *
  generalize sm (fun i => (i : Int) * rs (b * v) 0 a i) a = Q3 at *
  generalize T1 c a = t1 at *
  generalize T1 b a = t2 at *
  generalize T1 (b * v) a = t3 at *
  have a0 : (a : Int) ≠ 0 := by omega
  refine Int.eq_of_mul_eq_mul_left a0 ?_
  clear hv a0 ha
  have k1 : 12 * Q1 = a * t1 + 3 * a * a * (a - 1) := by rw [h1, Int.sub_add_cancel]
  have k2 : 12 * Q2 = a * t2 + 3 * a * a * (a - 1) := by rw [h2, Int.sub_add_cancel]
  have k3 : 12 * Q3 = a * t3 + 3 * a * a * (a - 1) := by rw [h3, Int.sub_add_cancel]
  have k : (a : Int) * (12 * (a * G)) = 2 * b * c * (6 * S) - b * (12 * Q1) - c * (12 * Q2) + 12 * Q3 := by
    have : (a : Int) * (12 * (a * G)) = 12 * (a * (a * G)) := by grind
    rw [this, e]
    clear this e h1 h2 h3 k1 k2 k3 s
    grind
  rw [k, s, k1, k2, k3]
  clear e h1 h2 h3 k1 k2 k3 s k
  grind
/-- three numbers at once -/
theorem T1_three {a b c : Nat} {u v w : Int} (ha : 0 < a) (hb : 0 < b) (hc : 0 < c) (h1 : gc a b = 1) (h2 : gc b c = 1) (h3 : gc c a = 1)
    (hu : ((c : Int) * u) % (a : Int) = 1 % (a : Int)) (hv : ((a : Int) * v) % (b : Int) = 1 % (b : Int)) (hw : ((b : Int) * w) % (c : Int) = 1 % (c : Int)) :
    (b : Int) * c * T1 (b * u) a + c * a * T1 (c * v) b + a * b * T1 (a * w) c = a * a + b * b + c * c - 3 * (a * b * c) := by
  have g := three_count ha hb hc h1 h2 h3
  have f1 := Gf_T (b := b) ha hu
  have f2 := Gf_T (b := c) hb hv
  have f3 := Gf_T (b := a) hc hw
  have r1 := T1_any (p := a) (q := b) (by omega) (by omega) h1
  have r2 := T1_any (p := b) (q := c) (by omega) (by omega) h2
  have r3 := T1_any (p := c) (q := a) (by omega) (by omega) h3
  generalize Gf a b c = G1 at *
  generalize Gf b c a = G2 at *
  generalize Gf c a b = G3 at *
  generalize T1 (b * u) a = A at *
  generalize T1 (c * v) b = B at *
  generalize T1 (a * w) c = C at *
  generalize T1 (a : Int) b = t1 at *
  generalize T1 (b : Int) a = t2 at *
  generalize T1 (b : Int) c = t3 at *
  generalize T1 (c : Int) b = t4 at *
  generalize T1 (c : Int) a = t5 at *
  generalize T1 (a : Int) c = t6 at *
  generalize (a : Int) = a' at *
  generalize (b : Int) = b' at *
  generalize (c : Int) = c' at *
  clear hu hv hw ha hb hc h1 h2 h3
  have eA : A = 12 * (a' * G1) - 2 * b' * c' * (a' - 1) * (2 * a' - 1) + b' * t5 + c' * t2 + 3 * a' * (a' - 1) * (b' + c' - 1) := by
    rw [f1]
    clear f1 f2 f3 r1 r2 r3 g
    grind
  have eB : B = 12 * (b' * G2) - 2 * c' * a' * (b' - 1) * (2 * b' - 1) + c' * t1 + a' * t4 + 3 * b' * (b' - 1) * (c' + a' - 1) := by
    rw [f2]
    clear f1 f2 f3 r1 r2 r3 g eA
    grind
  have eC : C = 12 * (c' * G3) - 2 * a' * b' * (c' - 1) * (2 * c' - 1) + a' * t3 + b' * t6 + 3 * c' * (c' - 1) * (a' + b' - 1) := by
    rw [f3]
    clear f1 f2 f3 r1 r2 r3 g eA eB
    grind
  have big : b' * c' * A + c' * a' * B + a' * b' * C = 12 * (a' * b' * c') * (G1 + G2 + G3) + c' * c' * (a' * t1 + b' * t2) + a' * a' * (b' * t3 + c' * t4) + b' * b' * (c' * t5 + a' * t6)
      + (3 * (a' * b' * c') * ((a' - 1) * (b' + c' - 1) + (b' - 1) * (c' + a' - 1) + (c' - 1) * (a' + b' - 1)) - 2 * (b' * c' * (b' * c') * (a' - 1) * (2 * a' - 1) + c' * a' * (c' * a') * (b' - 1) * (2 * b' - 1) + a' * b' * (a' * b') * (c' - 1) * (2 * c' - 1))) := by
    rw [eA, eB, eC]
    clear f1 f2 f3 r1 r2 r3 g eA eB eC
    grind
  rw [big, g, r1, r2, r3]
  clear f1 f2 f3 r1 r2 r3 g eA eB eC big
  grind
end Tm

namespace Tm
/-! The greatest sums. -/
theorem sm_nonneg {f : Nat → Int} : ∀ n : Nat, (∀ i, i < n → 0 ≤ f i) → 0 ≤ sm f n
  | 0, _ => Int.le_refl 0
  | n + 1, h => Int.add_nonneg (sm_nonneg n fun i hi => h i (by omega)) (h n (by omega))
theorem sm_zero_all {f : Nat → Int} : ∀ n : Nat, (∀ i, i < n → 0 ≤ f i) → sm f n = 0 → ∀ i, i < n → f i = 0
  | 0, _, _, i, hi => by omega
  | n + 1, h, e, i, hi => by
    have e : sm f n + f n = 0 := e
    have h1 := sm_nonneg n fun i hi => h i (by omega)
    have h2 := h n (by omega)
    rcases Nat.lt_or_ge i n with z | z
    · exact sm_zero_all n (fun i hi => h i (by omega)) (by omega) i z
    · rw [show i = n by omega]
      omega
theorem sq_nonneg (x : Int) : 0 ≤ x * x := by
  rcases Int.le_total 0 x with h | h
  · exact Int.mul_nonneg h h
  · exact Int.mul_nonneg_of_nonpos_of_nonpos h h
/-- how far a sum is from the greatest one -/
theorem T1_far {a : Int} {n : Nat} (hn : 0 < n) (hg : gc a n = 1) : (n : Int) * (((n : Int) - 1) * ((n : Int) - 2) - T1 a n) = 6 * sm (fun i => ((i : Int) - rs a 0 n i) * ((i : Int) - rs a 0 n i)) n := by
  obtain ⟨v, hv⟩ := inv_int hn hg
  have p := perm_sum (a := a) (c := 0) hn hv (fun j => (j : Int) * j)
  have c : sm (fun i => (fun j : Nat => (j : Int) * j) ((a * (i : Int) + 0) % (n : Int)).toNat) n = sm (fun i => rs a 0 n i * rs a 0 n i) n := sm_congr n fun i _ => by
    have r0 := Int.emod_nonneg (a * (i : Int) + 0) (show (n : Int) ≠ 0 by omega)
    show ((((a * (i : Int) + 0) % (n : Int)).toNat : Nat) : Int) * ((((a * (i : Int) + 0) % (n : Int)).toNat : Nat) : Int) = _
    rw [show ((((a * (i : Int) + 0) % (n : Int)).toNat : Nat) : Int) = (a * (i : Int) + 0) % (n : Int) by omega]
    rfl
  rw [c, sixth_sm] at p
  have e : sm (fun i => ((i : Int) - rs a 0 n i) * ((i : Int) - rs a 0 n i)) n = sixth n - 2 * sm (fun i => (i : Int) * rs a 0 n i) n + sixth n := by
    rw [← sixth_sm, ← sm_mul, ← sm_sub]
    conv => rhs; rhs; rw [sixth_sm, ← p]
    rw [← sm_add]
    refine sm_congr n fun i _ => ?_
    grind
  have h1 := T1_rests (a := a) hn
  have s := six_sixth n
  rw [e, Int.mul_sub, h1]
  generalize sm (fun i => (i : Int) * rs a 0 n i) n = Q at *
  generalize sixth (n : Int) = S at *
  clear e p c hv h1
  have : 6 * (S - 2 * Q + S) = 2 * (6 * S) - 12 * Q := by grind
  rw [this, s]
  clear this s
  grind
theorem T1_le {a : Int} {n : Nat} (hn : 0 < n) (hg : gc a n = 1) : T1 a n ≤ ((n : Int) - 1) * ((n : Int) - 2) := by
  have f := T1_far hn hg
  have p := sm_nonneg n fun i (_ : i < n) => sq_nonneg ((i : Int) - rs a 0 n i)
  rcases Int.lt_or_le (((n : Int) - 1) * ((n : Int) - 2) - T1 a n) 0 with h | h
  · have := Int.mul_lt_mul_of_pos_left h (show 0 < (n : Int) by omega)
    omega
  · omega
theorem T1_ge {a : Int} {n : Nat} (hn : 0 < n) (hg : gc a n = 1) : -(((n : Int) - 1) * ((n : Int) - 2)) ≤ T1 a n := by
  have h := T1_le (a := -a) hn (by rw [gc_neg]; exact hg)
  rw [T1_neg hn hg] at h
  omega
theorem T1_eq {a : Int} {n : Nat} (hn : 1 < n) (hg : gc a n = 1) (h : T1 a n = ((n : Int) - 1) * ((n : Int) - 2)) : a % n = 1 := by
  have f := T1_far (by omega) hg
  rw [h, Int.sub_self, Int.mul_zero] at f
  have z := sm_zero_all n (fun i (_ : i < n) => sq_nonneg ((i : Int) - rs a 0 n i)) (by omega) 1 hn
  have z1 : ((1 : Nat) : Int) - rs a 0 n 1 = 0 := by
    rcases Int.mul_eq_zero.mp z with z | z <;> exact z
  unfold rs at z1
  rw [show a * ((1 : Nat) : Int) + 0 = a by omega] at z1
  omega
theorem T1_eq_neg {a : Int} {n : Nat} (hn : 1 < n) (hg : gc a n = 1) (h : T1 a n = -(((n : Int) - 1) * ((n : Int) - 2))) : a % n = n - 1 := by
  have e := T1_eq (a := -a) hn (by rw [gc_neg]; exact hg) (by rw [T1_neg (by omega) hg]; omega)
  have d : (n : Int) ∣ (-a - 1) := by
    obtain ⟨k, hk⟩ : ∃ k, k = (-a) / n := ⟨_, rfl⟩
    have := Int.emod_add_mul_ediv (-a) n
    exact ⟨k, by rw [hk]; omega⟩
  obtain ⟨k, hk⟩ := d
  have : a = (n - 1) + n * (-k - 1) := by
    rw [Int.mul_sub, Int.mul_neg]
    omega
  rw [this, Int.add_mul_emod_self_left]
  exact Int.emod_eq_of_lt (by omega) (by omega)
theorem T1_max {n : Int} (hn : 1 < n) : T1 1 n = (n - 1) * (n - 2) := by
  have h := TT_unit (l := 1) (k := n) (by decide) hn
  rw [Int.one_mul, Int.one_mul] at h
  have g : gc 1 n = 1 := gc_one
  unfold TT at h
  rw [g, Int.ediv_one, Int.ediv_one, Int.one_mul] at h
  rw [h]
  grind
/-- of all pairs with one second number -/
theorem TT_bound {a b : Int} (hb : 0 < b) : TT a b ≤ (b - 1) * (b - 2) ∧ -((b - 1) * (b - 2)) ≤ TT a b := by
  obtain ⟨x, y, hx, hy, y0, ex, ey, h1⟩ := gc_parts (a := a) hb
  have g0 := gc_pos (a := a) hb
  obtain ⟨n, rfl⟩ : ∃ n : Nat, y = n := ⟨y.toNat, by omega⟩
  have l := T1_le (by omega) h1
  have g := T1_ge (by omega) h1
  unfold TT
  rw [ex, ey]
  have m1 := Int.mul_le_mul_of_nonneg_left l (show 0 ≤ gc a b by omega)
  have m2 := Int.mul_le_mul_of_nonneg_left g (show 0 ≤ gc a b by omega)
  have k : gc a b * (((n : Int) - 1) * ((n : Int) - 2)) ≤ (b - 1) * (b - 2) := by
    conv => rhs; rw [hy]
    generalize gc a b = G at *
    have d : (G * (n : Int) - 1) * (G * n - 2) - G * ((n - 1) * (n - 2)) = (G - 1) * (G * (n * n) - 2) := by
      clear l g m1 m2 hx hy ex ey
      grind
    have e0 : 0 ≤ (G - 1) * (G * ((n : Int) * n) - 2) := by
      rcases Int.lt_or_le 1 G with z | z
      · have nn : 0 < (n : Int) * n := Int.mul_pos (by omega) (by omega)
        have h1 : (2 : Int) * 1 ≤ G * ((n : Int) * n) := Int.mul_le_mul (by omega) (by omega) (by omega) (by omega)
        exact Int.mul_nonneg (by omega) (by omega)
      · rw [show G = 1 by omega, Int.sub_self, Int.zero_mul]
        exact Int.le_refl 0
    omega
  rw [Int.mul_neg] at m2
  exact ⟨by omega, by omega⟩
end Tm

/-! Texts of great integers. -/
namespace Tc
open PySem PySem.Spec PyProof.Rows L2 Tm
def tx (l : List Char) : Str := ⟨(l.map Char.toNat).toArray⟩
theorem tx_app (a b : List Char) : tx (a ++ b) = tx a ++ tx b := by
  show Str.mk _ = Str.mk ((a.map Char.toNat).toArray ++ (b.map Char.toNat).toArray)
  simp
theorem tx_len (a : List Char) : (tx a).length = a.length := by
  show (a.map Char.toNat).toArray.size = _
  simp
theorem ofString_tx (s : String) : Str.ofString s = tx s.toList := Str.ofString_eq_toList s
theorem nat_tx (n : Nat) : Str.ofString (toString (n : Int)) = tx (dg n) := by
  have e : toString (n : Int) = Nat.repr n := rfl
  rw [e, Nat.repr_eq_ofList_toDigits, ofString_tx, String.toList_ofList]
  rfl
end Tc
namespace Tc
open PySem PySem.Spec PyProof.Rows L2 Tm
theorem dg_ne (n : Nat) : dg n ≠ [] := by
  intro h
  have : (dg n).length = 0 := by rw [h]; rfl
  unfold dg at this
  have := Nat.length_toDigits_pos (b := 10) (n := n)
  omega
theorem dg_digit {n : Nat} {c : Char} (h : c ∈ dg n) : 48 ≤ c.toNat ∧ c.toNat ≤ 57 := by
  have := Nat.isDigit_of_mem_toDigits (by decide) (by decide) h
  unfold Char.isDigit at this
  rw [Bool.and_eq_true, decide_eq_true_iff, decide_eq_true_iff] at this
  exact ⟨this.1, this.2⟩
theorem zfill_tx {k r : Nat} (h : r < 10 ^ (k + 1)) : Txt.zfill (tx (dg r)) ((k + 1 : Nat) : Int) = tx (pad (k + 1) r) := by
  have hl := dg_len_lt k r h
  unfold Txt.zfill pad
  rw [tx_len]
  split
  · rename_i q
    have : k + 1 - (dg r).length = 0 := by omega
    rw [this]
    rfl
  · rename_i q
    have e : (((k + 1 : Nat) : Int).toNat - (dg r).length) = k + 1 - (dg r).length := by omega
    rw [e]
    obtain ⟨c, l, hc⟩ : ∃ c l, dg r = c :: l := by
      cases hd : dg r with
      | nil => exact absurd hd (dg_ne r)
      | cons c l => exact ⟨c, l, rfl⟩
    have hd := dg_digit (n := r) (c := c) (by rw [hc]; exact List.mem_cons_self ..)
    have hx : (tx (dg r)).cps[0]? = some c.toNat := by
      rw [hc]
      rfl
    have hz : PySem.zfilled (tx (dg r)) (k + 1 - (dg r).length) = Builtin.Str.padded (tx (dg r)) (k + 1 - (dg r).length) 0 48 := by
      unfold PySem.zfilled
      rw [hx]
      split
      · rename_i z
        have := Option.some.inj z
        omega
      · rename_i z
        have := Option.some.inj z
        omega
      · rfl
    rw [hz, tx_app]
    show Str.mk (Array.replicate (k + 1 - (dg r).length) 48 ++ (tx (dg r)).cps ++ Array.replicate 0 48) = Str.mk ((tx (List.replicate (k + 1 - (dg r).length) '0')).cps ++ (tx (dg r)).cps)
    congr 1
    rw [show Array.replicate 0 48 = (#[] : Array Nat) from rfl, Array.append_empty]
    congr 1
    show _ = ((List.replicate (k + 1 - (dg r).length) '0').map Char.toNat).toArray
    rw [List.map_replicate]
    exact (List.toArray_replicate ..).symm
end Tc
namespace Tc
open PySem PySem.Spec PyProof.Rows L2 Tm
theorem glue_fold (g : Str) (hg : g.cps = #[]) : ∀ (ls : List (List Char)) (acc : List Char), ((ls.map tx).foldl (fun a p => a ++ g.cps ++ p.cps) (tx acc).cps) = (tx (acc ++ ls.flatten)).cps
  | [], acc => by simp
  | l :: ls, acc => by
    rw [List.map_cons, List.foldl_cons, hg, Array.append_empty]
    have e : (tx acc).cps ++ (tx l).cps = (tx (acc ++ l)).cps := by rw [tx_app]; rfl
    rw [e]
    have := glue_fold g hg ls (acc ++ l)
    rw [hg] at this
    rw [this, List.flatten_cons, List.append_assoc]
theorem join_tx (ls : List (List Char)) : Txt.join (Str.ofString "") (ls.map tx) = tx ls.flatten := by
  have hg : (Str.ofString "").cps = #[] := by decide
  cases ls with
  | nil => rfl
  | cons l ls =>
    show Str.mk (((ls.map tx)).foldl (fun acc p => acc ++ (Str.ofString "").cps ++ p.cps) (tx l).cps) = _
    rw [glue_fold _ hg, List.flatten_cons]
theorem int_tx (n : Int) : Str.ofString (toString n) = tx ((if n < 0 then ['-'] else []) ++ dg n.natAbs) := by
  by_cases h : n < 0
  · rw [if_pos h]
    obtain ⟨m, rfl, hm⟩ : ∃ m : Nat, n = -(m : Int) ∧ 0 < m := ⟨n.natAbs, by omega, by omega⟩
    rw [neg_text hm, of_app, nat_tx, Int.natAbs_neg, Int.natAbs_natCast, tx_app]
    rfl
  · rw [if_neg h]
    obtain ⟨m, rfl⟩ : ∃ m : Nat, n = m := ⟨n.natAbs, by omega⟩
    rw [nat_tx]
    rfl
theorem log_lt {n : Int} (h0 : 0 ≤ n) (h : n < 10 ^ 60) : n.natAbs.log2 < 1920 := by
  have : (10 : Nat) ^ 60 < 2 ^ 200 := by decide +kernel
  exact Nat.lt_of_lt_of_le (PySem.Flt.log2_lt_of (k := 200) (by decide) (by omega)) (by decide)
end Tc

/-! An integer is neither True nor False. -/
namespace Tc
open PySem PySem.Spec PyProof.Rows L2
variable {X : Cx}
def rNotIB : R2 := fun x y H Q => ∃ (i : Int) (b : Bool), x = .int i ∧ y = .bl b ∧ Q (.bl true) H
theorem op_notIB : OpR X (compareOp .IsNot) rNotIB := by
  intro pins s σ H x y v u Q I rx ry h
  obtain ⟨i, b, rfl, rfl, q⟩ := h
  obtain ⟨t, rfl⟩ := rx
  cases (show u = Value.bool b from ry)
  exact wpAny_isNot_other rfl (fun z => by cases z) ⟨.bl true, H, I, rfl, q⟩
end Tc

/-! A power whose value has a name. -/
namespace Tc
open PySem PySem.Spec PyProof.Rows L2
section
variable {X : Cx}
def rPowG : R2 := fun x y H Q => ∃ i j : Int, x = .int i ∧ y = .int j ∧ CPowX i j ∧ ∀ z : Int, z = i ^ j.toNat → Q (.int z) H
theorem op_powG : OpR X (binaryOp .Pow) rPowG := fun pins s σ H x y v u Q I rx ry ⟨i, j, e1, e2, c, q⟩ => op_powX pins s σ H x y v u Q I rx ry ⟨i, j, e1, e2, c, q _ rfl⟩
end
end Tc

/-! repr of a truth. -/
namespace Tc
open PySem PySem.Spec PyProof.Rows L2
section
variable {X : Cx}
def truthText (b : Bool) : Str := if b then "True" else "False"
theorem call_repr_bool : CallR X (.builtin "repr") (fun xs H Q => ∃ b, xs = [.bl b] ∧ Q (.str (truthText b)) H) := by
  intro pins s σ H xs us Q I r h
  obtain ⟨b, rfl, q⟩ := h
  cases r with
  | cons h1 t =>
    cases t
    cases (show _ = Value.bool b from h1)
    exact PySem.P.repr_of_bool ⟨.str _, H, I.tok _, ⟨_, rfl⟩, q⟩
theorem truthText_inj {a b : Bool} : truthText a = truthText b ↔ a = b := by
  cases a <;> cases b <;> decide
end
end Tc

/-! A call whose keywords name positional parameters with defaults. -/
namespace Tc
open PySem PySem.Spec PyProof.Rows L2
section
variable {K : PySem.W.Frag} {x qual : Str} {params : Arguments} {body : List Stmt} {scope : Scope} {dvs : List V} {f : Addr} {fd : FuncData} {ps : List Str}
theorem kb1 (F : FunD K x qual params body scope dvs [] f fd) (n : Nat) (ks : List Str) (hd : dvs ≠ [])
    (h : ∀ (T : Addr) (kV doc pm : Value) (an : Option Addr) (cdv ct : Value) (us its ws : List Value), us.length = n → its.length = dvs.length → ws.length = ks.length →
      ∃ k, bindArgs (PySem.W.fnOf x qual params body scope (.ref T) kV doc pm an cdv ct) ⟨us, ks.zip ws⟩ = seqItems? (.ref T) >>= k ∧ k (some its.toArray) = pure (ps.zip (us ++ ws))) :
    KBn K fd ps n ks (fun us ws => us ++ ws) (fun vs zs => vs ++ zs) := by
  obtain ⟨oc, od, dV, kV, doc, pm, an, cdv, ct, osl, rfl, lk, hcd, hD, hK⟩ := F.ex
  rcases hD with ⟨e, _⟩ | ⟨_, T, o, its, m, rfl, lT, oT, rT⟩
  · exact absurd e hd
  · refine ⟨fun s us ws X l1 l2 => ?_, fun r1 r2 => r1.append r2⟩
    obtain ⟨k, e1, e2⟩ := h T kV doc pm an cdv ct us its ws l1 rT.length.symm l2
    refine BindsTo.of_looks fun M => ?_
    rw [e1]
    exact looks_items X lT oT (.of_pure e2)
end
end Tc

set_option maxHeartbeats 2000000
/-! Defs that write lists as texts: promises where no writing of a list is under way. -/
namespace Tc
open PySem PySem.Spec PyProof.Rows L2
section
variable {P : Program} {w : World} {K : PySem.W.Frag} {mg : Str → Option Value} {base : Heap}
/-- a promise where no list is being written -/
structure FnG (P : Program) (w : World) (K : PySem.W.Frag) (mg : Str → Option Value) (base : Heap) (CX : CXT) (k : Nat) (f : Addr) (fd : FuncData) (ps : List Str) (sp : Sp) : Prop where
  lens : ∀ vs H Q E, sp vs H Q E → vs.length = ps.length
  goes : ∀ (B : Around), B.guards = some [] → ∀ (os : List Env) (s : Shared) (H : Hp) (as : Args) (us : List Value) (vs : List V) (Q : VK) (E : XK), Room k B → Env0 P w K mg base B os s H → BindsTo s fd as (ps.zip us) → Vals vs us → sp vs H Q E →
    codeAny (model P w) B (.call (.ref f) as) (CR CX os P w H s Q E) s
theorem okG {x qual : Str} {st : Stmt} {f : Addr} {fd : FuncData} {N ps : List Str} {k : Nat} {sp : Sp} (F : Fun K x qual st f fd) (S : FnScope N ps (defScope st)) (ln : ∀ vs H Q E, sp vs H Q E → vs.length = ps.length)
    (hb0 : ∀ (cdv : Value) (B : Around) (os : List Env) (s : Shared) (H : Hp) (vs : List V) (Q : VK) (E : XK), Room k (B.deeper (envOfC qual (defScope st) s.heap.objs.size f cdv)) → (B.deeper (envOfC qual (defScope st) s.heap.objs.size f cdv)).guards = some [] → sp vs H Q E →
      ∃ t, PSs (cxOf CX0 P w K mg base N qual (defScope st) f cdv B os s H E).nox (defBody st) t ∧ t { nx := fun _ H' => Q .non H', rt := Q } (start N vs) H) : FnG P w K mg base CX0 (k + 1) f fd ps sp := by
  obtain ⟨oc, od, kV, doc, pm, an, cdv, ct, osl, rfl, lk, hcd⟩ := F.ex
  constructor
  · exact ln
  intro B hg os s H as us vs Q E hr e0 hb r hs
  have hl : vs.length = ps.length := ln _ _ _ _ hs
  have bk : ∀ b o, base.get? b = some o → s.heap.get? b = some o := fun b o e => (e0.bs b o e).1
  have KX : K.In s.heap := e0.mod.kin.keeps bk
  have kinds : ∀ y ∈ ps.zip us, (defScope st).names.lookup y.1 = some .local ∨ ((defScope st).names.lookup y.1 = some .cell ∧ ((cellsFrom (s.heap.objs.size + 1) (defScope st).names []).lookup y.1).isSome = true) := by
    rintro ⟨n, v⟩ hy
    have hn := (List.of_mem_zip hy).1
    rcases S.par n hn with q | q
    · left; exact q
    · right; exact ⟨q, PySem.W.cellsFrom_some _ _ _ (.inl q)⟩
  refine codeAny_call_function hr.depth (KX _ _ lk) rfl S.co S.gen rfl (PySem.W.codeRec_of KX hcd) (hb _ _ _ _ (wpAny_newFunctionEnv_cells S.kind kinds fun env he s1 x => ?_))
  cases he
  refine ⟨(e0.mod.nolimit.keeps bk).keeps x.toInCall.keep, codeAny_func ?_⟩
  obtain ⟨t, ht, hq⟩ := hb0 cdv B os s H vs Q E (hr.deeper _) hg hs
  have I0 := inv_start S hr.hd e0 hl r x (CX := CX0) (E := E)
  refine wpAny_mono (ht.nox.run [] s1 (start N vs) H _ I0 hq) ?_ fun _ _ z => z
  intro fl s2 hz
  have done : ∀ {σ2 : L2.St} {H2 : Hp} {v : V} {u : Value}, Inv (cxOf CX0 P w K mg base N qual (defScope st) f cdv B os s H E) [] σ2 H2 s2 → RelV v u → Q v H2 → CE os P w H s Q u s2 := by
    intro σ2 H2 v u J rv q
    exact ⟨v, H2, J.os, J.bare, J.base, J.hok, rv, q⟩
  rcases fl with _ | _ | _ | u
  · obtain ⟨σ2, H2, J, q⟩ := hz
    exact done (v := V.non) (u := Value.none) J rfl q
  · obtain ⟨_, _, _, q⟩ := hz
    exact q.elim
  · obtain ⟨_, _, _, q⟩ := hz
    exact q.elim
  · obtain ⟨v, σ2, H2, J, rv, q⟩ := hz
    exact done J rv q
end
section
variable {X : Cx} {x : Str} {p pos : Pos} {e : Expr} {es : List Expr} {t : TA} {CX : CXT} {k : Nat} {f : Addr} {fd : FuncData} {ps : List Str} {sp : Sp} {ds : List Value} {dvs : List V} {E : XK}
/-- f(e, ..) of a def with such a promise -/
theorem pe_callG (F : FnG X.prog X.w X.K X.mg X.base CX k f fd ps sp) (h0 : X.A.guards = some []) (hr : Room k X.A) (gl : Gl X x) (at_ : X.mg x = some (.ref f)) (kp : PySem.W.keepIn X.K (.ref f) = true) (bi : Binds X.K fd ps ds) (dv : Vals dvs ds) (pa : Passes CX X E)
    (as : PA X (e :: es) t) (nd : (x == ("__debug__" : Str)) = false := by decide) (st : starEach (e :: es) X.env = (false, eval e X.env) :: starEach es X.env := by rfl) (np : (backTo pos (starEach es X.env)).any (·.1) = false := by rfl) :
    PE X (.Call (.Name x p) (e :: es) [] pos) (tCall sp dvs E t) := by
  constructor
  intro pins s σ H Q I h
  refine wpAny_Call_Name_kw (ld_glob I gl at_ ?_ nd)
  refine PySem.W.callWith_K (h₀ := X.base) I.ok.mod.kin kp (thn (as.run pos pins s σ H _ I h) ?_) st np
  rintro us s1 ⟨vs, H1, I1, r, q⟩
  refine ⟨I1.kIn, ?_⟩
  have rr : Vals (vs ++ dvs) (us ++ ds) := r.append dv
  have ll : (us ++ ds).length = ps.length := rr.length.symm.trans (F.lens _ _ _ _ q)
  refine wpAny_call (codeAny_mono (F.goes X.A h0 X.stack s1 H1 ⟨us, []⟩ _ _ Q E hr I1.env0 (bi s1 us I1.kIn ll) rr q) ?_)
  intro res s2 hq
  rcases res with er | fl
  · exact pa pins σ H1 s1 er s2 I1 hq
  · rcases fl with _ | _ | _ | u
    · exact hq.elim
    · exact hq.elim
    · exact hq.elim
    · exact I1.after hq
/-- repr of a display of plain data -/
def rShow (K : PySem.W.Frag) : List V → Hp → VK → Prop := fun xs H Q => ∃ v d, xs = [v] ∧ Dp K H v d ∧ d.showable = true ∧ d.hasDict = false ∧ isDisplay d = true ∧ d.depth ≤ 20 ∧ d.shown.length ≤ sizeLine ∧ Q (.str d.shown) H
theorem call_reprG (h0 : X.A.guards = some []) (hu : X.A.units + 64 < cLine) : CallR X (.builtin "repr") (rShow X.K) := by
  intro pins s σ H xs us Q I r h
  obtain ⟨v, d, rfl, hd, h1, h2, h3, h4, h5, q⟩ := h
  cases r with
  | @cons _ u _ _ rv t =>
    cases t
    obtain ⟨as, rd⟩ := Dp.reads I d v u hd rv
    obtain ⟨a, rfl⟩ := isRef_of_reads rd h3
    refine repr_of_reads' rd h1 (PyData.noDict_hsm h2) h0 (by omega) (fun _ _ e => e) (fun h' u tk hk => ?_) h5
    exact ⟨.str _, H, I.kept hk, ⟨_, rfl⟩, q⟩
end
/-- the law's own call, by such a promise -/
theorem law_goesG {P : Program} {w : World} {K : PySem.W.Frag} {mg mb : Str → Option Value} {k : Nat} {fa a : Addr} {fd : FuncData} {x : Str} {sp : Sp} {s0 : Shared} {us : List Value} {ns : List Int}
    (KX : K.In s0.heap) (hn : s0.heap.Ns mainGlobals mg) (hb : s0.heap.Ns builtinsNs mb) (hm : ∀ y : Str, y ≠ "__name__" → mb y = bootBuiltins y) (nl : s0.heap.NoLimit) (gn : s0.gens = #[])
    (ha : s0.heap.get? a = some { cls := .type "list", data := .seq us.toArray }) (hi : IntsAre us ns) (hl : ns.length ≤ sizeLine) (hr : Room k callerA)
    (F : ∀ b : Heap, K.In b → b.Ns mainGlobals mg → FnG P w K mg b CX0 k fa fd [x] sp) (bi : ∀ (s : Shared) (u : Value), BindsTo s fd ⟨[u], []⟩ [(x, u)])
    (hs : ∀ H : Hp, Only H → SqL K H a (ns.map V.int) → sp [.ref a] H (fun v _ => v = .bl true) fun _ _ _ => False) :
    codeAny (model P w) callerA (.call (.ref fa) ⟨[.ref a], []⟩) (fun r s' => r = .ok (.ret (.bool true)) ∧ OldK s0.heap s'.heap ∧ s'.os = s0.os ∧ AllBare s'.gens) s0 := by
  have rv := vals_ints hi
  have lv := hi.length
  have main : ∀ H : Hp, Only H → SqL K H a (ns.map V.int) → HOk P w H s0.heap → (∀ b, H b ≠ none → b = a) → (H a ≠ none → K.lookup a = none) →
      codeAny (model P w) callerA (.call (.ref fa) ⟨[.ref a], []⟩) (fun r s' => r = .ok (.ret (.bool true)) ∧ OldK s0.heap s'.heap ∧ s'.os = s0.os ∧ AllBare s'.gens) s0 := by
    intro H only sq ok one nk
    have free : ∀ {b : Addr} {o : Obj}, s0.heap.get? b = some o → (b = a → False) → H b = none := by
      intro b o _ ne
      rcases hh : H b with _ | u
      · rfl
      · exact (ne (one b (by rw [hh]; simp))).elim
    have stay : ∀ {b : Addr} {m : Str → Option Value}, s0.heap.Ns b m → (hidT s0.heap H).Ns b m := by
      rintro b m ⟨o, es, ep, e, d, r⟩
      refine ⟨o, es, ep, hidT_get e (free e fun z => ?_), d, r⟩
      subst z
      rw [ha] at e
      cases e
      exact absurd (show Data.seq us.toArray _ = Data.dict es ep from d) (by simp)
    have inK : K.In (hidT s0.heap H) := by
      intro b o e
      refine hidT_get (KX b o e) ?_
      rcases hh : H b with _ | u
      · rfl
      · have z := one b (by rw [hh]; simp)
        subst z
        rw [nk (by rw [hh]; simp)] at e
        cases e
    obtain ⟨mc, l1, l2⟩ := nl
    have md : Mod K mg (hidT s0.heap H) := ⟨inK, stay hn, ⟨mb, stay hb, hm⟩, mc, stay l1, l2⟩
    have en : Env0 P w K mg (hidT s0.heap H) callerA [] s0 H := ⟨rfl, md, fun b o e => of_hidT e, Nat.le_of_eq (hidT_size _ _), trivial, fun b z => (List.not_mem_nil z).elim, ok, .of_eq gn⟩
    refine codeAny_mono ((F _ inK (stay hn)).goes callerA rfl [] s0 H ⟨[.ref a], []⟩ [.ref a] [.ref a] _ _ hr en (bi s0 (.ref a)) (.cons rfl .nil) (hs H only sq)) ?_
    intro res s' h
    rcases res with er | fl
    · exact h.elim
    rcases fl with _ | _ | _ | u
    · exact h.elim
    · exact h.elim
    · exact h.elim
    obtain ⟨v, H', os, bare, un, ok', r', q⟩ := h
    obtain rfl : v = .bl true := q
    obtain rfl : u = Value.bool true := r'
    refine ⟨rfl, OldK.of_keep fun b o e => ?_, os, bare⟩
    rcases hh : H b with _ | u
    · exact un.keep b o e hh (fun z => (List.not_mem_nil z).elim) (by simp)
    · rcases only b with z | ⟨ob, xs, z⟩
      · rw [hh] at z
        cases z
      · obtain ⟨e1, _⟩ := ok b _ z
        obtain ⟨e2, _⟩ := ok' b _ (un.frzs b ob _ z)
        rw [e] at e1
        cases e1
        exact e2
  rcases hk : K.lookup a with _ | o
  · have at' : ∀ b, b ≠ a → (fun b => if b = a then some (HO.frz { cls := .type "list", data := .seq us.toArray } (.lst (ns.map V.int))) else none) b = none := fun b ne => if_neg ne
    refine main (fun b => if b = a then some (.frz { cls := .type "list", data := .seq us.toArray } (.lst (ns.map V.int))) else none) ?_ (.inl (.inr ⟨{ cls := .type "list", data := .seq us.toArray }, if_pos rfl⟩)) ?_ ?_ fun _ => hk
    · intro b
      rcases Classical.em (b = a) with z | z
      · exact .inr ⟨_, _, if_pos z⟩
      · exact .inl (at' b z)
    · intro b u z
      rcases Classical.em (b = a) with y | y
      · subst y
        cases (if_pos rfl).symm.trans z
        exact ⟨ha, by rw [List.length_map]; exact hl, us, _, rv, ha⟩
      · cases (at' b y).symm.trans z
    · intro b z
      exact Classical.byContradiction fun y => z (at' b y)
  · have e := KX a o hk
    rw [ha] at e
    cases e
    refine main (fun _ => none) (fun _ => .inl rfl) (.inr ⟨_, us.toArray, _, hk, rfl, rfl, rfl, by rw [List.size_toArray, lv]; exact hl, by simpa using rv⟩) ?_ (fun b z => (z rfl).elim) fun z => (z rfl).elim
    intro b u z
    cases (show (none : Option HO) = some u from z)
theorem walk_ofG {l : PySem.W.OpenLaw} {n k : Nat} {q : Program} {loose : List Str} {XP : (Str → Option Value) → Heap → Prop} {YP : World → Heap → Prop} {d : DefRec} {K : Params → PySem.W.Frag} {sp : World → Sp} {x : Str}
    (hn : l.most = some n) (n2 : n ≤ sizeLine) (nd : d.params.defaults = []) (hr : Room k callerA) (hY : ∀ (w : World) (h : Heap), YP w h → (K w.params).In h)
    (F : ∀ (w : World) (mg : Str → Option Value) (fa : Addr) (h : Heap), (K w.params).In h → h.Ns mainGlobals mg → mg d.name = some (.ref fa) →
      ∃ fd : FuncData, (∀ (s : Shared) (u : Value), BindsTo s fd ⟨[u], []⟩ [(x, u)]) ∧ ∀ b : Heap, (K w.params).In b → b.Ns mainGlobals mg → FnG l.prog w (K w.params) mg b CX0 k fa fd [x] (sp w))
    (hs : ∀ (w : World) (H : Hp) (a : Addr) (ns : List Int), ns.length ≤ n → Only H → SqL (K w.params) H a (ns.map V.int) → sp w [.ref a] H (fun v _ => v = .bl true) fun _ _ _ => False) :
    PySem.W.WalkO q loose XP YP l.row.toRowW d [] (fun f vs => PySem.call f vs) := by
  refine Att.attach_call hn nd ?_
  intro w s₀ s1 mg mb fa o pm cd doc a us ns G Y ho hd hcd hmg hobj hints hlen hg
  have KX := hY w _ Y
  obtain ⟨fd, hb, hF⟩ := F w mg fa _ KX G.T.g hmg
  exact law_goesG KX G.T.g G.T.b G.T.builtins G.T.nolimit hg hobj hints (Nat.le_trans hlen n2) hr hF hb (fun H hO hS => hs w H a ns hlen hO hS)
end Tc

set_option maxHeartbeats 4000000
/-! bool() of an own object with its __bool__. -/
namespace Tc
open PySem PySem.Spec PySem.Calls PyProof.Rows L2
section
open PySem.W
variable {prog : Program} {w : World} {A : Around} {E : Value → Shared → Prop} {s : Shared} {K : Frag} {x C L f g : Addr} {h₀ : Heap} {m : Str → Option Value} {ox : Obj} {od : Option Obj}
theorem truthy_K {Q : Bool → Shared → Prop} (F : Fr h₀ L s.heap m) (X₀ : K.In h₀) (I : InstAt s.heap x ox C od) (hs : findIn K (.ref C) "__bool__" = some (some (.ref f))) (hf : isFn K (.ref f) = true)
    (h : wpAny (model prog w) A (call (.ref f) [.ref x]) (fun v s' => ∃ b, v = .bool b ∧ Q b s') E s) : wpAny (model prog w) A (truthy (.ref x)) Q E s := by
  unfold truthy
  refine wpAny_bind (m := callSpecial? (.ref x) (Str.ofString "__bool__")) (special_fn (X₀.keeps F.keep) I hs (beq_iff_eq.mp hf) (wpAny_mono h (fun r s' hr => ?_) fun _ _ y => y))
  obtain ⟨b, rfl, hq⟩ := hr
  exact wpAny_pure hq
theorem bool_new_own : MeetsIn prog w (Builtin.«bool.__new__» ⟨[.type "bool", .ref x], []⟩) (fun B R s => wpAny (model prog w) B.in1 (truthy (.ref x)) (fun b s' => R (.ok (.ret (.bool b))) s') (fun e s' => R (.error e) s') s) :=
  MeetsIn.of_wp fun A R s hs => by
    obtain ⟨hp, g, d, tk, os⟩ := s
    have f1 := F.conv_sub_bool
    have tr : ∀ {Q' : Bool → Shared → Prop}, (∀ b s', R (.ok (.ret (.bool b))) s' → Q' b s') → wpAny (model prog w) A.in1 (truthy (.ref x)) Q' (fun e s' => R (.error e) s') { heap := hp, gens := g, drawn := d, toks := tk, os := os } := fun h => wpAny_mono hs (fun b s' z => h b s' z) (fun _ _ z => z)
    unfold Builtin.«bool.__new__»
    repeat (any_goals (first | assumption | with_reducible apply tr | wp_step))
    intro b s' z
    repeat (any_goals (first | assumption | wp_step))
    exact ⟨_, rfl, z⟩
theorem bool_K {Q : Value → Shared → Prop} (FR : Fr h₀ L s.heap m) (X₀ : K.In h₀) (I : InstAt s.heap x ox C od) (hs : findIn K (.ref C) "__bool__" = some (some (.ref f))) (hf : isFn K (.ref f) = true)
    (h : wpAny (model prog w) A.in1.in1 (call (.ref f) [.ref x]) (fun v s' => ∃ b, v = .bool b ∧ Q (.bool b) s') E s) : wpAny (model prog w) A (call (.type "bool") [.ref x]) Q E s := by
  refine callType_newIn F.called_bool F.newNe_bool (F.typeCall_bool_1 (.ref x)) (F.newCall_bool_1 (.ref x)) (fun obj => F.args_object_init_2 obj (.ref x)) F.entry_bool_new bool_new_own ?_
  exact truthy_K FR X₀ I hs hf (wpAny_mono h (fun v s' ⟨b, e, q⟩ => ⟨b, e, rfl, q⟩) fun _ _ z => z)
end
section
variable {X : Cx}
def rBoolO (C : Addr) (sp : Sp) (E : XK) : List V → Hp → VK → Prop := fun xs H Q => ∃ a dx fs, xs = [.ref a] ∧ H a = some (.ins C dx fs) ∧ sp [.ref a] H (fun v H' => ∃ b, v = .bl b ∧ Q (.bl b) H') E
theorem call_boolOwn {CX : CXT} {k : Nat} {f C : Addr} {fd : FuncData} {ps : List Str} {sp : Sp} {E : XK} (c : UnC X.K C f "__bool__") (F : FnOk X.prog X.w X.K X.mg X.base CX k f fd ps sp) (hb : Binds X.K fd ps []) (hx : Passes CX X E) (hr : Room (k + 1) X.A) : CallR X (.type "bool") (rBoolO C sp E) := by
  intro pins s σ H vs us Q I r h
  obtain ⟨a, dx, fs, rfl, ha, q⟩ := h
  rw [Vals.ref1 r]
  obtain ⟨mA, J, _⟩ := ins_get I.hok ha
  obtain ⟨od, J, _⟩ := J.look
  obtain ⟨m, hF⟩ := I.fr
  have hl : ([Value.ref a]).length = ps.length := (F.len _ _ _ _ q).symm ▸ rfl
  refine bool_K hF I.ok.mod.kin J c.slot c.fn ?_
  have hr2 : Room k X.A.in1.in1 := ⟨hr.hd, by have := hr.dp; show X.A.depth + 3 * k + 5 < _; omega, by have := hr.un; show X.A.units + 1 + 1 + 16 * k + 200 < _; omega⟩
  refine wpAny_call (codeAny_mono (F.run X.A.in1.in1 X.stack s H ⟨[.ref a], []⟩ [.ref a] [.ref a] _ E hr2 I.env0.in1.in1 (by simpa using hb s [.ref a] I.kIn hl) (.cons rfl .nil) q) ?_)
  intro res s' hq
  rcases res with e | fl
  · exact hx pins σ H s e s' I hq
  · rcases fl with _ | _ | _ | u
    · exact hq.elim
    · exact hq.elim
    · exact hq.elim
    · obtain ⟨v, H', J, rv, b, rfl, qq⟩ := I.after hq
      exact ⟨b, rv, ⟨.bl b, H', J, rfl, qq⟩⟩
end
end Tc

set_option maxHeartbeats 4000000
/-! != of two tuples whose things are equal one by one, by their own ==. -/
namespace Tc
open PySem PySem.Spec PyProof.Rows L2
open AutoSeq1 (wpAny_loadPart')
open MeetsSeq MeetsSeq2 MeetsSeq3 SeqRoads2
section
variable {prog : Program} {w : World} {A : Around} {R : Result → Shared → Prop}
theorem tup_neG (l b : Addr) (us vs : Array Value) (n n2 : Nat) (dd dd2 : Option Addr) (sl sl2 : Array (Option Value)) (hsz : us.size = vs.size) (I : Nat → Shared → Prop)
    (turn : ∀ i (h1 : i < us.size) (h2 : i < vs.size) s, I i s → wpAny (model prog w) A.in1 (eqBool us[i] vs[i]) (fun r s' => r = true ∧ I (i + 1) s') (fun e s' => R (.error e) s') s)
    (fin : ∀ s, I us.size s → R (.ok (.ret (.bool false))) s) {s : Shared} (hl1 : s.heap.get? l = some { cls := .type "tuple", dict := dd, data := .seq us n, slots := sl }) (hb1 : s.heap.get? b = some { cls := .type "tuple", dict := dd2, data := .seq vs n2, slots := sl2 }) (h : I 0 s) :
    wpAny (model prog w) A.in1 (Builtin.«tuple.__ne__» ⟨[.ref l, .ref b], []⟩) (GQ.FinOf prog w A R) (fun e s' => R (.error e) s') s := by
  have f2 := AutoSeq1.sub_tuple_tuple
  have zl : (us.toList.zip vs.toList).length = us.size := by simp [hsz]
  have h0 := h
  obtain ⟨hp, g, d, tk, os⟩ := s
  wp_walk using wpAny_loadPart' hl1, wpAny_loadPart' hb1, wpAny_forIn_list _ (fun rest b s' => b.1 = none ∧ ∃ i, rest = (us.toList.zip vs.toList).drop i ∧ i ≤ us.size ∧ I i s') _
  case turn =>
    rintro ⟨y, x⟩ rest b s' ⟨hb', i, hz, hi, hI⟩
    have h1 : i < us.size := by
      rcases Nat.lt_or_ge i (us.toList.zip vs.toList).length with z | z
      · omega
      · rw [List.drop_of_length_le z] at hz
        cases hz
    have h2 : i < vs.size := by omega
    rw [List.drop_eq_getElem_cons (by omega)] at hz
    injection hz with hyx hrest
    have hy : y = us[i] := by simpa using congrArg Prod.fst hyx
    have hx : x = vs[i] := by simpa using congrArg Prod.snd hyx
    subst hy hx
    refine wpAny_bind (wpAny_mono (turn i h1 h2 s' hI) (fun r s2 q2 => ?_) fun _ _ x => x)
    obtain ⟨rfl, q2⟩ := q2
    wp_walk
    exact ⟨rfl, i + 1, hrest, h1, q2⟩
  case fin =>
    rintro ⟨b1, b2⟩ s' ⟨hb', i, hz, hi, hI⟩
    simp only at hb'
    subst hb'
    have ei : i = us.size := by
      rcases Nat.lt_or_ge i (us.toList.zip vs.toList).length with z | z
      · rw [List.drop_eq_getElem_cons z] at hz
        cases hz
      · omega
    have hR : R (.ok (.ret (.bool false))) s' := fin s' (ei ▸ hI)
    wp_walk
    simpa [Builtin.Tuple.tupleCompareSizes, hsz] using hR
  case h =>
    exact ⟨rfl, 0, rfl, Nat.zero_le _, h0⟩
end
section
variable {X : Cx} {n : Nat} {D : Eqv}
def rNeG (D : Eqv) : R2 := fun x y H Q => D x y H ∧ ∀ H', Ext H H' → Q (.bl false) H'
theorem op_neG (hD : Mon D) (h : EqG X n D) (hr : Room (n + 1) X.A) : OpR X (compareOp .NotEq) (rNeG (DTup X.K D)) := by
  intro pins s σ H x y v u Q I rx ry hq
  obtain ⟨d, q⟩ := hq
  obtain ⟨a, b, xs, ys, rfl, rfl, ha, hb, p⟩ := d
  cases rx
  cases ry
  obtain ⟨its, r, e, z⟩ := I.tuple ha
  obtain ⟨its2, r2, e2, z2⟩ := I.tuple hb
  have hsz : its.toArray.size = its2.toArray.size := by rw [List.size_toArray, List.size_toArray, ← r.length, ← r2.length]; exact p.1
  have sb : Sub X (n + 1) X.A := ⟨hr, rfl⟩
  show wpAny (model X.prog X.w) X.A (richCompare .NotEq (.ref a) (.ref b)) (EP X pins σ Q) X.xe s
  obtain ⟨⟨cls, dd, data, sl⟩, ho, hc, n1, hd⟩ := id e
  obtain ⟨⟨cls2, dd2, data2, sl2⟩, ho2, hc2, n2, hd2⟩ := id e2
  simp only at hc hd hc2 hd2
  subst hc hd hc2 hd2
  refine wpAny_richCompare_same_room (op := .NotEq) ⟨_, ho, rfl⟩ ⟨_, ho2, rfl⟩ F.slot_tuple_ne (GQ.call_here F.slot_tuple_ne ⟨_, ho, rfl⟩ F.entry_tuple_ne (F.args_tuple_ne_2 _ _) ?_) sb.room.units0
  refine tup_neG (R := wants (fun v s' => v ≠ .notImplemented ∧ EP X pins σ Q v s') X.xe) a b its.toArray its2.toArray n1 n2 dd dd2 sl sl2 hsz (fun _ s' => LoopI X pins σ H s') (fun i h1 h2 s' q => turnG hD h sb p r r2 i h1 h2 s' q) (fun s' q2 => ⟨(fun x => nomatch x), ?_⟩) ho ho2 ⟨H, I, Ext.rfl'⟩
  obtain ⟨H', I', e⟩ := q2
  exact ⟨.bl false, H', I', rfl, q H' e⟩
theorem op_neTO {CX : CXT} {k : Nat} {f C : Addr} {fd : FuncData} {ps : List Str} {sp : Sp} {E : XK} {R : Addr → Addr → Hp → Prop} (c : EqC X.K C f) (F : FnOk X.prog X.w X.K X.mg X.base CX k f fd ps sp)
    (hi : ∀ vs H Q E, spEq R vs H Q E → sp vs H Q E) (hm : ∀ a b H H', Ext H H' → R a b H → R a b H') (hb : Binds X.K fd ps []) (hx : Passes CX X E) (hr : Room (k + 1) X.A) : OpR X (compareOp .NotEq) (rNeG (DTup X.K (DIns C R))) :=
  op_neG (mon_ins hm) (eqG_ins (F.imp hi) c.eq c.fn hb hx) hr
end
end Tc

/-! A comprehension's loop over any walk, its body left open: serves the outer and the inner loop of two. -/
namespace Tc
open PySem PySem.Spec PyProof.Rows L2
theorem lc_any {J : It} {n : Nat} {G : Hp → Prop} {Y : Nat → Hp → V → Hp → Prop} (w : Walk J n G Y) {g : TG} {B : L2.St → Hp → (Hp → Prop) → Prop} {σ : L2.St} {H1 : Hp} {Qd : Hp → Prop} (Pv : Nat → Hp → Prop) (h0 : Pv 0 H1) (hG : ∀ i H, i ≤ n → Pv i H → G H)
    (hs : ∀ i x H H', i < n → Pv i H → Y i H x H' → g x σ H' fun σ2 H2 => B σ2 H2 (Pv (i + 1))) (hd : ∀ H, Pv n H → Qd H) :
    ∃ W : Nat → Nat → Hp → Prop, (∃ m, W 0 m H1) ∧ ∀ i m H, W i m H →
      (J.stop i H ∧ Qd H) ∨ (J.go i H ∧ ∃ Nx : Hp → Prop, (∀ H', Nx H' → ∃ m', m' < m ∧ W (i + 1) m' H') ∧ ∀ x H', J.yld i H x H' → g x σ H' fun σ2 H2 => B σ2 H2 Nx) := by
  refine ⟨fun i m H => m = n - i ∧ i ≤ n ∧ Pv i H, ⟨n, by simp, Nat.zero_le _, h0⟩, ?_⟩
  rintro i m H ⟨rfl, hi, p⟩
  have q := hG i H hi p
  by_cases hlt : i < n
  · refine .inr ⟨w.goes i H hlt q, Pv (i + 1), fun H' p' => ⟨n - (i + 1), by omega, rfl, hlt, p'⟩, fun x H' y => hs i x H H' hlt p (w.yields i H x H' hlt q y)⟩
  · have e : i = n := by omega
    subst e
    exact .inl ⟨w.stops H q, hd H p⟩
end Tc

set_option maxHeartbeats 4000000
/-! An int != one of a class with an own __eq__: the int declines, the class answers. -/
namespace Tc
open PySem PySem.Spec PySem.Calls PyProof.Rows L2
section
open PySem.W
theorem not_int_ne (i : Int) (t : Tok) (x : Addr) : GivesAt (PlainAt x) (Builtin.«int.__ne__» ⟨[.int i t, .ref x], []⟩) (.val (Value.notImplemented)) := by
  intro prog w A R s hP h
  obtain ⟨C, dx, e⟩ := hP
  obtain ⟨hp, g, d, tk, os⟩ := s
  wp_walk
  exact h
variable {prog : Program} {w : World} {A : Around} {E : Value → Shared → Prop} {s : Shared} {K : Frag} {x C L f g : Addr} {h₀ : Heap} {m : Str → Option Value} {ox : Obj} {od : Option Obj}
theorem nerev_K {i : Int} {t : Tok} {Q : Value → Shared → Prop} (hu : A.units + 1 < cLine) (F : Fr h₀ L s.heap m) (X₀ : K.In h₀) (I : InstAt s.heap x ox C od) (hP : PlainAt x s) (hsub : subIn K (.ref C) (.type "int") = some false)
    (hne : findIn K (.ref C) "__ne__" = some (some (.builtin "object.__ne__"))) (hob : mroIn K C (.type "object") = some true) (hs : findIn K (.ref C) "__eq__" = some (some (.ref f))) (hf : isFn K (.ref f) = true)
    (h : wpAny (model prog w) A.in1 (call (.ref f) [.ref x, .int i t]) (fun v s' => ∃ r, v = .bool r ∧ Q (.bool (!r)) s') E s) : wpAny (model prog w) A (richCompare .NotEq (.int i t) (.ref x)) Q E s := by
  have X := X₀.keeps F.keep
  have one : wpAny (model prog w) A (tryCompare (.ref x) "__ne__" (.int i t)) (fun r s' => ∃ v, r = some v ∧ Q v s') E s := by
    unfold tryCompare
    refine wpAny_bind (ifNe_K hu X I hne hob hs hf (wpAny_mono h (fun v s' hv => ?_) fun _ _ e => e))
    obtain ⟨r, rfl, hq⟩ := hv
    exact ⟨r, rfl, wpAny_pure ⟨_, rfl, hq⟩⟩
  have L1 : Looks (model prog w) s.heap (typeOf (.int i t)) (.type "int") := Looks.of_pure rfl
  have L5 : Looks (model prog w) s.heap (isSubtype (.ref C) (.type "int")) false := looks_subIn X hsub
  have hnt : (Value.type "int" != Value.ref C) = true := by
    show (!(Value.type "int" == Value.ref C)) = true
    rw [Bool.eq_false_iff.mpr (fun q => by cases beq_iff_eq.mp q : ¬ (Value.type "int" == Value.ref C) = true)]
    rfl
  have dec : ∀ {Q' : Option Value → Shared → Prop}, Q' none s → wpAny (model prog w) A (tryCompare (.int i t) "__ne__" (.ref x)) Q' E s := fun q =>
    wpAny_tryCompare_declines (typeIs_int _ _ _) PySem.F.slot_int_ne (call_givesAt PySem.F.slot_int_ne (typeIs_int _ _ _) PySem.F.entry_int_ne (PySem.F.args_int_ne_2 _ _) (not_int_ne i t x) hP ⟨rfl, q⟩)
  unfold richCompare
  simp only [(typeIs_int s i t).oneThing_none]
  refine wpAny_holding (wpAny_bind (wpAny_cRoomFor (Nat.lt_of_succ_lt hu) ?_))
  rw [cmpInfo_NotEq]
  dsimp only
  refine wpAny_bind (L1.here (wpAny_bind (I.type.here ?_)))
  simp only [hnt, if_true]
  refine wpAny_bind (L5.here ?_)
  simp only [Bool.false_eq_true, if_false, Bool.not_false, if_true]
  refine wpAny_bind (dec ?_)
  refine wpAny_bind (wpAny_mono one (fun r s' z => ?_) fun _ _ e => e)
  obtain ⟨v, rfl, hq⟩ := z
  exact wpAny_pure hq
end
section
variable {X : Cx}
/-- i != y, y of the class: what the own __eq__ promises of both -/
def rNeRev (C : Addr) (sp : Sp) (E : XK) : R2 := fun x y H Q => ∃ (i : Int) (b dy : Addr) (gs : List (Str × V)), x = .int i ∧ y = .ref b ∧ H b = some (.ins C dy gs) ∧ sp [y, x] H (fun z H' => ∃ r, z = .bl r ∧ Q (.bl (!r)) H') E
theorem op_neRev {CX : CXT} {k : Nat} {f C : Addr} {fd : FuncData} {ps : List Str} {sp : Sp} {E : XK} (hsub : PySem.W.subIn X.K (.ref C) (.type "int") = some false) (c : EqC X.K C f) (F : FnOk X.prog X.w X.K X.mg X.base CX k f fd ps sp) (hb : Binds X.K fd ps []) (hx : Passes CX X E) (hr : Room (k + 1) X.A) : OpR X (compareOp .NotEq) (rNeRev C sp E) := by
  intro pins s σ H x y v u Q I rx ry h
  obtain ⟨i, b, dy, gs, rfl, rfl, hb', q⟩ := h
  obtain ⟨t, rfl⟩ := rx
  cases ry
  obtain ⟨mA, J0, _⟩ := ins_get I.hok hb'
  obtain ⟨od, J, _⟩ := J0.look
  obtain ⟨m, hF⟩ := I.fr
  have hl : ([Value.ref b, Value.int i t]).length = ps.length := by
    rw [← F.len _ _ _ _ q]
    rfl
  show wpAny (model X.prog X.w) X.A (richCompare .NotEq (.int i t) (.ref b)) (EP X pins σ Q) X.xe s
  refine nerev_K (by have := hr.units; omega) hF I.ok.mod.kin J ⟨C, dy, J0.obj⟩ hsub c.ne c.ob c.eq c.fn ?_
  refine wpAny_call (codeAny_mono (F.run X.A.in1 X.stack s H ⟨[.ref b, .int i t], []⟩ [.ref b, .int i t] [.ref b, .int i] _ E hr.in1 I.env0.in1 (by simpa using hb s [.ref b, .int i t] I.kIn hl) (.cons rfl (.cons ⟨_, rfl⟩ .nil)) q) fun r' s' hq => ?_)
  cases r' with
  | error e => exact hx pins σ H s e s' I hq
  | ok fl =>
    cases fl with
    | ret w' =>
      obtain ⟨z, H', I', rz, b', ez, q'⟩ := I.after hq
      subst ez
      cases rz
      exact ⟨b', rfl, .bl (!b'), H', I', rfl, q'⟩
    | next => exact False.elim hq
    | brk => exact False.elim hq
    | cont => exact False.elim hq
end
end Tc

/-! What stands within a comprehension names the fragment, not the block's own. -/
namespace Tc
open PySem PySem.Spec PyProof.Rows L2
def rTupK (K : PySem.W.Frag) : List V → Hp → VK → Prop := fun xs H Q => ∃ p ys, xs = [.ref p] ∧ ((SqL K H p ys ∧ ∀ l, H l = none → Q (.ref l) (upd H l (.tup ys))) ∨ (SqT K H p ys ∧ Q (.ref p) H))
end Tc

set_option maxHeartbeats 2000000
/-! Texts: read from the end, repeated. -/
namespace Tc
open PySem PySem.Spec PyProof.Rows L2
section
variable {X : Cx}
def revS (z : Str) : Str := ⟨z.cps.toList.reverse.toArray⟩
def repS (z : Str) (k : Nat) : Str := ⟨(List.replicate k z.cps.toList).flatten.toArray⟩
def tRevS (te : TE) : TE := fun σ H Q => te σ H fun x H1 => ∃ z, x = .str z ∧ z.length ≤ sizeLine ∧ Q (.str (revS z)) H1
theorem rev_cps (z : Str) : ((Builtin.Str.strSliceIndices none none (-1) z.length).filterMap (z.cps[·]?)).toArray = (revS z).cps := by
  rw [picked_rev, filterMap_get]
  · rw [List.map_map]
    unfold revS
    congr 1
    apply List.ext_getElem
    · simp [Str.length]
    · intro i h1 h2
      have hi : i < z.cps.size := by simpa [Str.length] using h1
      simp only [List.getElem_map, List.getElem_range, Function.comp, List.getElem_reverse, Array.getElem_toList, Array.length_toList]
      have : z.length - 1 - i < z.cps.size := by show z.cps.size - 1 - i < z.cps.size; omega
      show z.cps.getD (z.length - 1 - i) 0 = z.cps[z.cps.size - 1 - i]
      have e1 : z.length = z.cps.size := rfl
      simp only [e1]
      rw [Array.getD, dif_pos (by omega)]
      rfl
  · intro i hi
    obtain ⟨k, hk, rfl⟩ := List.mem_map.mp hi
    have hk' : k < z.length := List.mem_range.mp hk
    show z.length - 1 - k < z.cps.size
    show z.length - 1 - k < z.length
    omega
theorem pe_revS {e : Expr} {te : TE} {k : Nat} {p1 p2 p3 pos : Pos} (he : PE X e te) : PE X (.Subscript e (.Slice none none (some (.UnaryOp .USub (.Constant (.int 1) k p1) p2)) p3) pos) (tRevS te) := by
  refine ⟨fun pins s σ H Q I h => ?_⟩
  refine Subscript_ (thn (he.run pins s σ H _ I h) fun v s1 ⟨x, H1, I1, r1, q1⟩ => ?_)
  obtain ⟨z, ex, hz, q⟩ := q1
  subst ex
  obtain ⟨t, rfl⟩ := r1
  have hst : PO X (some (.UnaryOp .USub (.Constant (.int 1) k p1) p2)) (tPart (tUn (rU fun i => .int (-i)) (tC (.int 1)))) := po_some (pe_un un_neg pe_int)
  refine wpAny_Slice (thn (po_none.run pins s1 σ H1 (fun o H2 => o = none ∧ H2 = H1) I1 ⟨rfl, rfl⟩) fun vl s2 ⟨l, H2, I2, pl, el, e2⟩ => ?_)
  subst el e2
  refine thn (po_none.run pins s2 σ H2 (fun o H3 => o = none ∧ H3 = H2) I2 ⟨rfl, rfl⟩) fun vu s3 ⟨u, H3, I3, pu, eu, e3⟩ => ?_
  subst eu e3
  refine thn (hst.run pins s3 σ H3 (fun o H4 => o = some (-1) ∧ H4 = H3) I3 ⟨1, rfl, -1, rfl, rfl, rfl⟩) fun vs s4 ⟨o, H4, I4, ps, eo, e4⟩ => ?_
  subst eo e4
  have I5 : Inv X pins σ H4 { s4 with heap := s4.heap.push { cls := .type "slice", data := .fields #[vl, vu, vs] } } := I4.kept (t' := s4.toks) fun b ob q => Heap.get?_push_of_some _ q
  show wpAny (model X.prog X.w) X.A (subscriptTail e (.Slice none none (some (.UnaryOp .USub (.Constant (.int 1) k p1) p2)) p3) (.str z t) (.ref s4.heap.objs.size)) (EP X pins σ Q) X.xe { s4 with heap := s4.heap.push { cls := .type "slice", data := .fields #[vl, vu, vs] } }
  have pl' : IsPart vl none := pl
  have pu' : IsPart vu none := pu
  have ps' : IsPart vs (some (-1)) := ps
  obtain ⟨l, hl1, hl2⟩ := IsPart.raw pl'
  obtain ⟨u, hu1, hu2⟩ := IsPart.raw pu'
  obtain ⟨st, hs1, hs2⟩ := IsPart.raw ps'
  subst hl1 hu1 hs1
  refine tail_any (ops := [.ref s4.heap.objs.size, .str z t]) (typeIs_str _ _ _) F.slot_str_getitem.lookup ?_ (by with_unfolding_all rfl)
  refine wpAny_getItem_str_slice (l := l) (u := u) (st := st) (Heap.IsSliceOf.new s4.heap (partValue l) (partValue u) (partValue st)) (by rw [hs2]; rfl) ?_
  have e1 : (sliceMade z t l u st) = Made.str (revS z) := by
    unfold sliceMade slicePicked
    rw [hl2, hu2, hs2]
    rw [if_neg (by
      have : ((some (-1 : Int)).getD 1 == 1) = false := rfl
      rw [this]; simp)]
    exact congrArg Made.str (congrArg Str.mk (rev_cps z))
  rw [e1]
  refine ⟨?_, .str _, H4, I5.tok _, ⟨_, rfl⟩, q⟩
  show (revS z).length ≤ sizeLine
  have : (revS z).length = z.length := by unfold revS Str.length; simp
  omega
theorem op_rep_str : OpR X (binaryOp .Mult) (fun x y H Q => ∃ z k, x = .str z ∧ y = .int k ∧ 2 ≤ k ∧ k ≤ 1000 ∧ z.length ≤ 1000 ∧ Q (.str (repS z k.toNat)) H) := by
  intro pins s σ H x y v u Q I rx ry h
  obtain ⟨z, k, rfl, rfl, h2, h9, hz, q⟩ := h
  obtain ⟨t, rfl⟩ := rx
  obtain ⟨tk, rfl⟩ := ry
  have hl : z.length * k.toNat ≤ 1000000 := Nat.mul_le_mul hz (show k.toNat ≤ 1000 by omega)
  have sl : 1000000 ≤ sizeLine := by decide
  refine P.mul_str ?_ ?_ ?_ ?_
  · rw [decide_eq_false (by omega), decide_eq_false (by omega)]; rfl
  · intro _ _
    have : (1000 : Int) ≤ (2 ^ 63 - 1) / k := Int.le_ediv_of_mul_le (by omega) (by omega)
    omega
  · intro _ _
    show PySem.Builtin.Str.tooLong (z.length * k.toNat) = false
    unfold PySem.Builtin.Str.tooLong
    exact decide_eq_false (by omega)
  · rw [if_neg (by omega)]
    by_cases c : (k == 1 || z.length == 0) = true
    · rw [if_pos c]
      have z0 : z.length = 0 := by
        have : (k == 1) = false := by simp; omega
        rw [this] at c
        simpa using c
      have e : repS z k.toNat = z := by
        obtain ⟨cs⟩ := z
        have : cs.toList = [] := by
          have : cs.size = 0 := z0
          exact List.length_eq_zero_iff.mp (by simpa using this)
        unfold repS
        rw [this]
        have e2 : (List.replicate k.toNat ([] : List Nat)).flatten = [] := by simp
        rw [e2]
        congr 1
        exact Array.toList_inj.mp this.symm
      rw [e] at q
      exact ⟨.str z, H, I, ⟨t, rfl⟩, q⟩
    · rw [if_neg c]
      have e : (⟨(List.replicate k.toNat z.cps).foldl (· ++ ·) #[]⟩ : Str) = repS z k.toNat := by
        unfold repS
        congr 1
        have : ∀ (n : Nat) (a : Array Nat), ((List.replicate n z.cps).foldl (· ++ ·) a) = (a.toList ++ (List.replicate n z.cps.toList).flatten).toArray := by
          intro n
          induction n with
          | zero => intro a; simp
          | succ n ih => intro a; rw [List.replicate_succ, List.foldl_cons, ih, List.replicate_succ, List.flatten_cons]; simp
        rw [this]
        simp
      rw [e]
      refine ⟨?_, .str _, H, I.tok _, ⟨_, rfl⟩, q⟩
      have : (repS z k.toNat).length = k.toNat * z.length := by unfold repS Str.length; simp
      show (repS z k.toNat).length ≤ sizeLine
      rw [this, Nat.mul_comm]
      omega
end
end Tc

set_option maxHeartbeats 2000000
/-! The whole part of a square root. -/
namespace Tc
open PySem PySem.Spec PyProof.Rows L2
section
variable {X : Cx}
def rIsq : List V → Hp → VK → Prop := fun vs H Q => ∃ a : Int, vs = [.int a] ∧ 0 ≤ a ∧ a.natAbs < 2 ^ 4000 ∧ Q (.int ((Float64.isqrt a.toNat : Nat) : Int)) H
theorem vals_int1 {i : Int} {us : List Value} (r : Vals [V.int i] us) : ∃ t, us = [Value.int i t] := by
  cases r with
  | cons r t =>
    cases t
    obtain ⟨t, rfl⟩ := r
    exact ⟨t, rfl⟩
theorem log_le {n k : Nat} (h : n < 2 ^ (k + 1)) : n.log2 ≤ k := by
  by_cases h0 : n = 0
  · subst h0
    rw [Nat.log2_zero]
    exact Nat.zero_le _
  · exact Nat.le_of_lt_succ ((Nat.log2_lt h0).mpr h)
theorem cr_isq : CallR X (.builtin "math.isqrt") rIsq := by
  intro pins s σ H vs us Q I r h
  obtain ⟨a, rfl, h0, h1, q⟩ := h
  obtain ⟨t, rfl⟩ := vals_int1 r
  have hl : a.toNat.log2 ≤ 3999 := log_le (show a.toNat < 2 ^ (3999 + 1) from Nat.lt_of_le_of_lt (show a.toNat ≤ a.natAbs by omega) h1)
  refine call_function_meets PySem.W.MGF.kind_isqrt PySem.W.MGF.plain_isqrt PySem.W.MGF.entry_isqrt (PySem.W.MGF.args_isqrt _) (PySem.W.mg_run_isqrt a t (by omega) (by omega) (by omega)).meets ?_
  exact ⟨.int _, H, I.tok _, ⟨_, rfl⟩, q⟩
theorem rbh_le : ∀ k n : Nat, Float64.rootByHalves k n ≤ n
  | 0, n => by
    unfold Float64.rootByHalves Float64.rootBelow8
    split
    · omega
    · rename_i h
      have : n ≠ 0 := fun z => h (by rw [z]; rfl)
      split <;> omega
  | k + 1, n => by
    unfold Float64.rootByHalves
    split
    · unfold Float64.rootBelow8
      split
      · omega
      · rename_i h
        have : n ≠ 0 := fun z => h (by rw [z]; rfl)
        split <;> omega
    · rename_i h8
      dsimp only
      have n0 : n ≠ 0 := by omega
      have l3 : 3 ≤ n.log2 := (Nat.le_log2 n0).mpr (show 2 ^ 3 ≤ n by omega)
      have hn : 2 ^ n.log2 ≤ n := Nat.log2_self_le n0
      generalize hL : n.log2 = L at *
      generalize hK : (L + 1) / 4 = K
      have k1 : 1 ≤ K := by omega
      have e1 : 2 * 2 ^ K ≤ n := by
        have : 2 ^ (K + 1) ≤ 2 ^ L := Nat.pow_le_pow_right (by decide) (by omega)
        rw [Nat.pow_succ] at this
        omega
      have ih := rbh_le k (n / 4 ^ K)
      generalize hr : Float64.rootByHalves k (n / 4 ^ K) = r at *
      have e2 : (r + 1) * 2 ^ K ≤ n := by
        have p2 : 2 ≤ 2 ^ K := Nat.pow_le_pow_right (show 0 < 2 by decide) k1
        have e4 : (4 : Nat) ^ K = 2 ^ K * 2 ^ K := by rw [← Nat.mul_pow]
        rw [e4, ← Nat.div_div_eq_div_mul] at ih
        generalize 2 ^ K = P at *
        have q1 : n / P / P * P ≤ n / P := Nat.div_mul_le_self _ _
        have q2 : r * P ≤ n / P / P * P := Nat.mul_le_mul_right _ ih
        have q3 : n / P ≤ n / 2 := Nat.div_le_div_left p2 (by decide)
        rw [Nat.add_mul]
        omega
      generalize (r + 1) * 2 ^ K = x at *
      have e3 : n / x ≤ n := Nat.div_le_self _ _
      split <;> omega
theorem isq_le (n : Nat) : Float64.isqrt n ≤ n := rbh_le _ n
end
end Tc

set_option maxHeartbeats 2000000
/-! t[::c] of a tuple, c above 1. -/
namespace HT
open PySem PyProof.Rows
section
variable {prog : Program} {w : World} {A : Around} {E : Value → Shared → Prop} {s : Shared}
theorem sliceApplied_step {sl : Addr} {vk : Value} {c : Int} {n : Nat} {Q : Int × Int × Nat → Shared → Prop} (hs : s.heap.IsSliceOf sl .none .none vk) (pk : IsPart vk (some c)) (hc : 1 < c)
    (h : Q (0, c, Builtin.Slice.slicePlaces 0 (n : Int) c) s) : wpAny (model prog w) A (Builtin.Slice.sliceApplied (.ref sl) (pure (n : Int))) Q E s := by
  obtain ⟨os, hos, hcs, hds⟩ := id hs
  unfold Builtin.Slice.sliceApplied Builtin.Slice.sliceFields
  refine wpAny_bind (wpAny_bind (wpAny_field hos hds (x := .none) rfl (wpAny_bind (wpAny_field hos hds (x := .none) rfl (wpAny_bind (wpAny_field hos hds (x := vk) rfl (wpAny_pure ?_)))))))
  refine wpAny_bind (slicePart_ pk ?_)
  show wpAny _ _ (if (c == 0) = true then _ else _) _ _ s
  rw [if_neg (by rw [beq_iff_eq]; omega)]
  refine wpAny_bind (slicePart_none (wpAny_bind (slicePart_none (wpAny_bind (wpAny_pure ?_)))))
  show wpAny _ _ (match Builtin.Slice.sliceAdjust none none c (n : Int) with | (lo, hi) => pure (lo, c, Builtin.Slice.slicePlaces lo hi c)) _ _ s
  have e : Builtin.Slice.sliceAdjust none none c (n : Int) = (0, (n : Int)) := by
    unfold Builtin.Slice.sliceAdjust
    have h1 : ¬ c < 0 := by omega
    simp only [h1, if_false]
  rw [e]
  exact wpAny_pure h
def picks {α : Type} (xs : List α) (c : Int) : List α := (List.range (Builtin.Slice.slicePlaces 0 (xs.length : Int) c)).filterMap fun (m : Nat) => xs[((0 : Int) + (m : Int) * c).toNat]?
theorem picks_len {α : Type} (xs : List α) {c : Int} (hc : 1 < c) : (picks xs c).length ≤ xs.length := by
  unfold picks
  refine Nat.le_trans (List.length_filterMap_le _ _) ?_
  rw [List.length_range]
  unfold Builtin.Slice.slicePlaces
  rw [if_pos (by omega)]
  split
  · have h0 : 0 ≤ ((xs.length : Int) - 0 - 1) := by omega
    have := Int.ediv_le_self c h0
    omega
  · simp
theorem getItem_tuple_step {t sl : Addr} {items : Array Value} {vk : Value} {c : Int} {Q : Value → Shared → Prop} (ht : IsTup s.heap t items) (hs : s.heap.IsSliceOf sl .none .none vk) (pk : IsPart vk (some c)) (hc : 1 < c)
    (h : Q (.ref s.heap.objs.size) { s with heap := s.heap.push { cls := .type "tuple", data := .seq (picks items.toList c).toArray } })
    (hsz : items.size ≤ sizeLine) : wpAny (model prog w) A (getItem (.ref t) (.ref sl)) Q E s := by
  have htake : sizeOk (.seq (picks items.toList c).toArray) := by
    have := picks_len items.toList hc
    rw [Array.length_toList] at this
    exact Nat.le_trans this hsz
  obtain ⟨os, hos, hcs, hds⟩ := id hs
  have hTs : s.TypeIs (.ref sl) "slice" := ⟨os, hos, hcs⟩
  unfold getItem
  try with_reducible refine wpAny_holding ?_
  first | refine wpAny_bind (wpAny_pure ?_) | skip
  refine wpAny_bind (wpAny_sequenceKey ht.typeIs (by decide) ?_)
  refine wpAny_bind (wpAny_callSpecial?_slot (name := Str.ofString "__getitem__") ht.typeIs PyProof.Rows.slot_tuple_getitem
    (wpAny_call_entry PyProof.Rows.slot_tuple_getitem ht.typeIs entry_tuple_getitem ?_ (args_tuple_getitem _ _)))
  show wpAny _ _ (Builtin.Tuple.tupleItemsOf (.ref t) >>= _) _ _ s
  refine wpAny_bind (tupleItemsOf_ ht ?_)
  refine wpAny_bind (wpAny_typeOf hTs ?_)
  rw [if_pos (by decide)]
  refine wpAny_bind (sliceApplied_step hs pk hc ?_)
  have hno : ¬ (((0 : Int) == 0 && c == 1 && (Builtin.Slice.slicePlaces 0 (items.size : Int) c) == items.size) = true) := by
    intro q
    rw [Bool.and_eq_true, Bool.and_eq_true] at q
    have q1 : c = 1 := eq_of_beq q.1.2
    omega
  show wpAny _ _ (if ((0 : Int) == 0 && c == 1 && (Builtin.Slice.slicePlaces 0 (items.size : Int) c) == items.size) = true then _ else _) _ _ s
  rw [if_neg hno]
  have e : ((List.range (Builtin.Slice.slicePlaces 0 (items.size : Int) c)).filterMap fun (m : Nat) => items[((0 : Int) + (m : Int) * c).toNat]?).toArray = (picks items.toList c).toArray := by
    unfold picks
    simp only [Array.length_toList, Array.getElem?_toList]
  rw [e]
  first
    | exact wpAny_bind (m := Builtin.Tuple.tupleExact _) (wpAny_newObj_type (wpAny_pure ⟨_, rfl, wpAny_pure h⟩) htake)
    | exact wpAny_bind (m := Builtin.Tuple.tupleExact _) (wpAny_newObj_type (wpAny_bind (wpAny_pure (wpAny_pure ⟨_, rfl, wpAny_pure h⟩))) htake)
    | exact wpAny_bind (wpAny_bind (m := Builtin.Tuple.tupleExact _) (wpAny_newObj_type (wpAny_pure (wpAny_pure ⟨_, rfl, wpAny_pure h⟩)) htake))
    | exact wpAny_bind (wpAny_bind (m := Builtin.Tuple.tupleExact _) (wpAny_newObj_type (wpAny_pure ⟨_, rfl, wpAny_pure h⟩) htake))
end
end HT
namespace Tc
open PySem PySem.Spec PyProof.Rows L2
theorem vals_at {xs : List V} {us : List Value} (r : Vals xs us) : ∀ i : Nat, (xs[i]? = none ∧ us[i]? = none) ∨ ∃ v u, xs[i]? = some v ∧ us[i]? = some u ∧ RelV v u := by
  induction r with
  | nil => intro i; exact .inl ⟨by simp, by simp⟩
  | cons h t ih =>
    intro i
    cases i with
    | zero => exact .inr ⟨_, _, by simp, by simp, h⟩
    | succ i => simpa using ih i
theorem vals_pick {xs : List V} {us : List Value} (r : Vals xs us) (f : Nat → Nat) : ∀ is : List Nat, Vals (is.filterMap fun m => xs[f m]?) (is.filterMap fun m => us[f m]?)
  | [] => .nil
  | i :: is => by
    rcases vals_at r (f i) with ⟨h1, h2⟩ | ⟨v, u, h1, h2, h3⟩
    · rw [List.filterMap_cons, List.filterMap_cons, h1, h2]
      exact vals_pick r f is
    · rw [List.filterMap_cons, List.filterMap_cons, h1, h2]
      exact .cons h3 (vals_pick r f is)
section
variable {X : Cx}
def tStpT (K : PySem.W.Frag) (c : Int) (te : TE) : TE := fun σ H Q => te σ H fun x H1 => ∃ a xs, x = .ref a ∧ SqT K H1 a xs ∧ ∀ p, H1 p = none → Q (.ref p) (upd H1 p (.tup (HT.picks xs c)))
theorem pe_stpT {e : Expr} {te : TE} {k : Nat} {c : Int} {p1 p3 pos : Pos} (hc : 1 < c) (he : PE X e te) : PE X (.Subscript e (.Slice none none (some (.Constant (.int c) k p1)) p3) pos) (tStpT X.K c te) := by
  refine ⟨fun pins s σ H Q I h => ?_⟩
  refine Subscript_ (thn (he.run pins s σ H _ I h) fun v s1 ⟨x, H1, I1, r1, q1⟩ => ?_)
  obtain ⟨a, xs, ex, hx, q⟩ := q1
  subst ex
  cases r1
  have hst : PO X (some (.Constant (.int c) k p1)) (tPart (tC (.int c))) := po_some pe_int
  refine wpAny_Slice (thn (po_none.run pins s1 σ H1 (fun o H2 => o = none ∧ H2 = H1) I1 ⟨rfl, rfl⟩) fun vl s2 ⟨l, H2, I2, pl, el, e2⟩ => ?_)
  subst el e2
  refine thn (po_none.run pins s2 σ H2 (fun o H3 => o = none ∧ H3 = H2) I2 ⟨rfl, rfl⟩) fun vu s3 ⟨u, H3, I3, pu, eu, e3⟩ => ?_
  subst eu e3
  refine thn (hst.run pins s3 σ H3 (fun o H4 => o = some c ∧ H4 = H3) I3 ⟨c, rfl, rfl, rfl⟩) fun vs s4 ⟨o, H4, I4, ps, eo, e4⟩ => ?_
  subst eo e4
  have I5 : Inv X pins σ H4 { s4 with heap := s4.heap.push { cls := .type "slice", data := .fields #[vl, vu, vs] } } := I4.kept (t' := s4.toks) fun b ob q => Heap.get?_push_of_some _ q
  show wpAny (model X.prog X.w) X.A (subscriptTail e (.Slice none none (some (.Constant (.int c) k p1)) p3) (.ref a) (.ref s4.heap.objs.size)) (EP X pins σ Q) X.xe { s4 with heap := s4.heap.push { cls := .type "slice", data := .fields #[vl, vu, vs] } }
  have pl' : IsPart vl none := pl
  have pu' : IsPart vu none := pu
  have ps' : IsPart vs (some c) := ps
  cases pl'
  cases pu'
  obtain ⟨its, r, ht, hz⟩ := I5.tuple hx
  refine tail_any (ops := [.ref a, .ref s4.heap.objs.size]) ht.typeIs PyProof.Rows.slot_tuple_getitem.lookup ?_ (by with_unfolding_all rfl)
  refine HT.getItem_tuple_step ht (Heap.IsSliceOf.new s4.heap _ _ _) ps' hc ?_ (by rw [List.size_toArray, ← r.length]; exact hz)
  have lp := HT.picks_len xs hc
  refine ⟨.ref _, _, I5.laid (t' := s4.toks) (o := .tup (HT.picks xs c)) (fun b ob q => Heap.get?_push_of_some _ q) (Nat.le_refl _) ?_, rfl, q _ (I5.hok.fresh (Nat.le_refl _))⟩
  refine ⟨by omega, _, ?_, IsTup.new _ _⟩
  show Vals (HT.picks xs c) (HT.picks its c)
  unfold HT.picks
  rw [r.length]
  exact vals_pick r _ _
end
end Tc
/-! d[k] of a dict written at the top, whole numbers as keys. -/
namespace Tc
open PySem PySem.Spec PyProof.Rows L2
def KeysI : List DictEntry → Prop
  | [] => True
  | e :: r => (∃ i t, e.key = .int i t ∧ e.hash = hashInt i) ∧ KeysI r
theorem KeysI.all : ∀ {l : List DictEntry}, KeysI l → ∀ e ∈ l, ∃ i t, e.key = .int i t ∧ e.hash = hashInt i
  | _ :: _, ⟨h, _⟩, _, .head _ => h
  | _ :: _, ⟨_, r⟩, _, .tail _ m => r.all _ m
/-- the dict at a has v under i -/
def KDctI (K : PySem.W.Frag) (a : Addr) (i : Int) (v : V) : Prop :=
  ∃ es n u, K.lookup a = some ⟨.type "dict", none, .dict es n, #[]⟩ ∧ KeysI es.toList ∧ findBy Value.isInt es i = some u ∧ RelV v u
def rIxDI (K : PySem.W.Frag) : R2 := fun x y H Q => ∃ p i v, x = .ref p ∧ y = .int i ∧ KDctI K p i v ∧ Q v H
section
variable {X : Cx}
theorem ix_kdictI : IxR X (rIxDI X.K) := by
  intro value slice pins s σ H x y v u Q I rx ry h hs
  obtain ⟨p, i, r, rfl, rfl, ⟨es, n, u0, hl, hk, e, ru⟩, q⟩ := h
  obtain rfl : v = Value.ref p := rx
  obtain ⟨t, rfl⟩ := ry
  have hm : s.heap.MapOf (intKind X.prog X.w) p (fun k => findBy Value.isInt es k) :=
    ⟨_, es, n, I.kIn _ _ hl, ⟨rfl, rfl, rfl⟩, rfl, fun e he => by
      obtain ⟨x, t, e1, e2⟩ := hk.all e (Array.mem_toList_iff.mpr he)
      exact ⟨x, by rw [e1]; exact intKind_is X.prog X.w x t, e2⟩, fun _ => rfl⟩
  exact tail_any hm.typeIs slot_dict_getitem.lookup (wpAny_getItem_of (intKind_is X.prog X.w i t) hm e ⟨r, H, I.tok _, ru, q⟩) hs
end
end Tc

set_option maxHeartbeats 2000000
/-! A walk over an object whose own __iter__ hands out a tuple's iterator. -/
namespace Tc
open PySem PySem.Spec PyProof.Rows L2
section
variable {P : Program} {w : World} {K : PySem.W.Frag} {mg : Str → Option Value} {base : Heap}
/-- a promise that may speak of how many objects stood when the call began -/
structure FnZ (P : Program) (w : World) (K : PySem.W.Frag) (mg : Str → Option Value) (base : Heap) (CX : CXT) (k : Nat) (f : Addr) (fd : FuncData) (ps : List Str) (sp : Nat → Sp) : Prop where
  lens : ∀ n vs H Q E, sp n vs H Q E → vs.length = ps.length
  goes : ∀ (B : Around) (os : List Env) (s : Shared) (H : Hp) (as : Args) (us : List Value) (vs : List V) (Q : VK) (E : XK), Room k B → Env0 P w K mg base B os s H → BindsTo s fd as (ps.zip us) → Vals vs us → sp s.heap.objs.size vs H Q E →
    codeAny (model P w) B (.call (.ref f) as) (CR CX os P w H s Q E) s
theorem okZ {x qual : Str} {st : Stmt} {f : Addr} {fd : FuncData} {N ps : List Str} {k : Nat} {sp : Nat → Sp} (F : Fun K x qual st f fd) (S : FnScope N ps (defScope st)) (ln : ∀ n vs H Q E, sp n vs H Q E → vs.length = ps.length)
    (hb0 : ∀ (cdv : Value) (B : Around) (os : List Env) (s : Shared) (H : Hp) (vs : List V) (Q : VK) (E : XK), Room k (B.deeper (envOfC qual (defScope st) s.heap.objs.size f cdv)) → sp s.heap.objs.size vs H Q E →
      ∃ t, PSs (cxOf CX0 P w K mg base N qual (defScope st) f cdv B os s H E).nox (defBody st) t ∧ t { nx := fun _ H' => Q .non H', rt := Q } (start N vs) H) : FnZ P w K mg base CX0 (k + 1) f fd ps sp := by
  obtain ⟨oc, od, kV, doc, pm, an, cdv, ct, osl, rfl, lk, hcd⟩ := F.ex
  constructor
  · exact ln
  intro B os s H as us vs Q E hr e0 hb r hs
  have hl : vs.length = ps.length := ln _ _ _ _ _ hs
  have bk : ∀ b o, base.get? b = some o → s.heap.get? b = some o := fun b o e => (e0.bs b o e).1
  have KX : K.In s.heap := e0.mod.kin.keeps bk
  have kinds : ∀ y ∈ ps.zip us, (defScope st).names.lookup y.1 = some .local ∨ ((defScope st).names.lookup y.1 = some .cell ∧ ((cellsFrom (s.heap.objs.size + 1) (defScope st).names []).lookup y.1).isSome = true) := by
    rintro ⟨n, v⟩ hy
    have hn := (List.of_mem_zip hy).1
    rcases S.par n hn with q | q
    · left; exact q
    · right; exact ⟨q, PySem.W.cellsFrom_some _ _ _ (.inl q)⟩
  refine codeAny_call_function hr.depth (KX _ _ lk) rfl S.co S.gen rfl (PySem.W.codeRec_of KX hcd) (hb _ _ _ _ (wpAny_newFunctionEnv_cells S.kind kinds fun env he s1 x => ?_))
  cases he
  refine ⟨(e0.mod.nolimit.keeps bk).keeps x.toInCall.keep, codeAny_func ?_⟩
  obtain ⟨t, ht, hq⟩ := hb0 cdv B os s H vs Q E (hr.deeper _) hs
  have I0 := inv_start S hr.hd e0 hl r x (CX := CX0) (E := E)
  refine wpAny_mono (ht.nox.run [] s1 (start N vs) H _ I0 hq) ?_ fun _ _ z => z
  intro fl s2 hz
  have done : ∀ {σ2 : L2.St} {H2 : Hp} {v : V} {u : Value}, Inv (cxOf CX0 P w K mg base N qual (defScope st) f cdv B os s H E) [] σ2 H2 s2 → RelV v u → Q v H2 → CE os P w H s Q u s2 := by
    intro σ2 H2 v u J rv q
    exact ⟨v, H2, J.os, J.bare, J.base, J.hok, rv, q⟩
  rcases fl with _ | _ | _ | u
  · obtain ⟨σ2, H2, J, q⟩ := hz
    exact done (v := V.non) (u := Value.none) J rfl q
  · obtain ⟨_, _, _, q⟩ := hz
    exact q.elim
  · obtain ⟨_, _, _, q⟩ := hz
    exact q.elim
  · obtain ⟨v, σ2, H2, J, rv, q⟩ := hz
    exact done J rv q
end
/-- at it an iterator of the tuple at t, at its start -/
def TitO (t it : Addr) : HO := .ext fun h => h.get? it = some { cls := .type "tuple_iterator", data := .fields #[.ref t, .int 0 0] }
theorem titO_ok {P : Program} {w : World} {H : Hp} {h : Heap} {t it : Addr} (e : h.get? it = some { cls := .type "tuple_iterator", data := .fields #[.ref t, .int 0 0] }) : ObjOk P w H h it (TitO t it) :=
  ⟨e, ⟨_, e⟩, fun _ _ q k => k _ q⟩
def rTit (K : PySem.W.Frag) (n : Nat) : List V → Hp → VK → Prop := fun xs H Q => ∃ (t : Addr) (zs : List V), xs = [.ref t] ∧ SqT K H t zs ∧ ∀ it, H it = none → n ≤ it → Q (.ref it) (upd H it (TitO t it))
section
variable {X : Cx}
/-- iter(t) of a tuple -/
theorem call_tit : CallR X (.builtin "iter") (rTit X.K X.s_0.heap.objs.size) := by
  intro pins s σ H xs us Q I r h
  obtain ⟨t, zs, e0, hq, q⟩ := h
  subst e0
  obtain rfl := Vals.ref1 r
  obtain ⟨its, rv, p, hz⟩ := I.tuple hq
  refine Calls.call_function_entry (by decide +kernel) (by decide +kernel) PySem.W.kdk_entry_iter (PySem.W.kdk_args_iter _) ?_
  unfold Builtin.«iter»
  refine wpAny_bind (m := someArgs "iter" 1 2 _) (wpAny_of_eq (a := [Value.ref t]) (by first | rfl | kernel_rfl!) ?_)
  show wpAny _ _ (pyIter (.ref t) >>= fun _ => _) _ _ _
  refine wpAny_bind (wpAny_pyIter_tuple (show s.heap.IsTuple t its.toArray from p) (wpAny_pure ⟨_, rfl, ?_⟩))
  refine ⟨.ref s.heap.objs.size, _, I.laid (t' := s.toks) (fun b u e => Heap.get?_push_of_some _ e) (Nat.le_refl _) (titO_ok (t := t) (Heap.get?_push_size _ rfl)), rfl, ?_⟩
  exact q _ (I.hok.fresh (Nat.le_refl _)) I.sz
def iOwnT (K : PySem.W.Frag) (C : Addr) (sp : Nat → Sp) (te : TE) : TI := fun σ H R => te σ H fun x H1 => ∃ a dx fs, x = .ref a ∧ H1 a = some (.ins C dx fs) ∧
  ∀ n, sp n [.ref a] H1 (fun v H2 => ∃ it t, v = .ref it ∧ H2 it = some (TitO t it) ∧ n ≤ it ∧ R (Itt K t) (ItX.dropH H2 it)) E0
theorem pi_ownT {C fi : Addr} {k : Nat} {fd : FuncData} {ps : List Str} {sp : Nat → Sp} {tg e : Expr} {te : TE} (he : PE X e te) (c : UnC X.K C fi "__iter__") (F : FnZ X.prog X.w X.K X.mg X.base CX0 k fi fd ps sp) (hr : Room k X.A) (bi : Binds X.K fd ps []) :
    PI X tg e (iOwnT X.K C sp te) := by
  constructor
  intro pins s σ H R I h
  refine thn (he.run pins s σ H _ I h) ?_
  rintro v s1 ⟨x, H1, I1, r1, a, dx, fs, rfl, ha, hs⟩
  cases r1
  obtain ⟨mA, J, _⟩ := ins_get I1.hok ha
  obtain ⟨od, J, _⟩ := J.look
  obtain ⟨m0, hF⟩ := I1.fr
  refine PySem.W.owit_iter hF I1.ok.mod.kin J c.slot c.fn ?_
  have hs1 := hs s1.heap.objs.size
  have ll := F.lens _ _ _ _ _ hs1
  have bb := bi s1 [.ref a] I1.kIn (by simpa using ll)
  simp only [List.append_nil] at bb
  refine wpAny_call (codeAny_mono (F.goes X.A X.stack s1 H1 ⟨[.ref a], []⟩ [.ref a] [.ref a] _ E0 hr I1.env0 bb (.cons rfl .nil) hs1) ?_)
  intro res s2 hq
  rcases res with er | fl
  · exact (show False from hq).elim
  · rcases fl with _ | _ | _ | u
    · exact hq.elim
    · exact hq.elim
    · exact hq.elim
    · obtain ⟨v, H2, I2, rv, it, t, rfl, hi, hn, hR⟩ := I1.after hq
      cases rv
      have eo : s2.heap.get? it = some { cls := .type "tuple_iterator", data := .fields #[.ref t, .int 0 0] } := (I2.hok it _ hi).1
      have st : s2.heap.IsTupleIter it t 0 := ⟨_, eo, rfl, rfl⟩
      unfold PySem.W.OwitIt
      refine wpAny_specialOf (name := Str.ofString "__next__") st.typeIs PySem.F.slot_tuple_iterator_next.lookup ?_
      have hi' := hi
      unfold TitO at hi'
      refine ⟨it, [it], _, Itt X.K t, ItX.dropH H2 it, rfl, ItX.inv_drop I2 hi', turn_tuple t it, st, fun b hb => ?_, hR⟩
      have e : b = it := by simpa using hb
      rw [e]
      exact ItX.inv_fp I2 hi (Nat.le_trans I1.sz hn)
/-- at r the range from 0 to n -/
def RgO (r : Addr) (n : Int) : HO := .ext fun h => ∃ t u v : Tok, h.get? r = some { cls := .type "range", data := .fields #[.int 0 t, .int n u, .int 1 v] }
theorem rgO_ok {P : Program} {w : World} {H : Hp} {h : Heap} {r : Addr} {n : Int} {t u v : Tok} (e : h.get? r = some { cls := .type "range", data := .fields #[.int 0 t, .int n u, .int 1 v] }) : ObjOk P w H h r (RgO r n) :=
  ⟨⟨t, u, v, e⟩, ⟨_, e⟩, fun _ _ ⟨t, u, v, q⟩ k => ⟨t, u, v, k _ q⟩⟩
def rRgV : List V → Hp → VK → Prop := fun xs H Q => ∃ n : Int, xs = [.int n] ∧ ∀ r, H r = none → Q (.ref r) (upd H r (RgO r n))
/-- range(n) as a value -/
theorem call_rgV : CallR X (.type "range") rRgV := by
  intro pins s σ H xs us Q I r h
  obtain ⟨n, e0, q⟩ := h
  subst e0
  cases r with
  | cons r rr =>
    cases rr
    obtain ⟨t, rfl⟩ := r
    refine call_range_1 ?_
    exact ⟨.ref s.heap.objs.size, _, I.laid (t' := s.toks + 1 + 1) (fun b u e => Heap.get?_push_of_some _ e) (Nat.le_refl _) (rgO_ok (Heap.get?_push_size _ rfl)), rfl, q _ (I.hok.fresh (Nat.le_refl _))⟩
theorem rg_contains (r : Addr) (i n : Int) (t u v w : Tok) : Meets (Builtin.«range.__contains__» ⟨[.ref r, .int i w], []⟩)
    (fun _ R s => s.heap.get? r = some { cls := .type "range", data := .fields #[.int 0 t, .int n u, .int 1 v] } ∧ R (.ok (.ret (.bool (decide (0 ≤ i ∧ i < n))))) s) := by
  intro prog wd A R s h
  obtain ⟨hl, h⟩ := h
  have e : (Builtin.Range.rangePlace? 0 n 1 i).isSome = decide (0 ≤ i ∧ i < n) := by
    unfold Builtin.Range.rangePlace?
    by_cases z : 0 ≤ i ∧ i < n
    · simp [z.1, z.2]
    · have : (decide (0 ≤ i) && decide (i < n)) = false := by
        by_cases a : 0 ≤ i
        · have : ¬ i < n := fun b => z ⟨a, b⟩
          simp [a, this]
        · simp [a]
      rw [decide_eq_false z]
      simp [this]
  obtain ⟨hp, g, d, tk, os⟩ := s
  wp_walk using wpAny_loadPart' hl
  show R (.ok (.ret (.bool (Builtin.Range.rangePlace? 0 n 1 i).isSome))) _
  rw [e]
  exact h
def rInRg : R2 := fun x y H Q => ∃ (i n : Int) (r : Addr), x = .int i ∧ y = .ref r ∧ H r = some (RgO r n) ∧ Q (.bl (decide (0 ≤ i ∧ i < n))) H
theorem op_inRg : OpR X (compareOp .In) rInRg := by
  intro pins s σ H x y v u Q I rx ry h
  obtain ⟨i, n, r, e1, e2, hr, q⟩ := h
  subst e1 e2
  obtain ⟨w, e3⟩ := rx
  subst e3
  cases ry
  have z : ∃ t u v : Tok, s.heap.get? r = some { cls := .type "range", data := .fields #[.int 0 t, .int n u, .int 1 v] } := (I.hok r _ hr).1
  obtain ⟨t, u, v, e⟩ := z
  exact PySem.SeqRoads2.in_meets ⟨_, e, rfl⟩ PySem.F.slot_range_contains PySem.F.entry_range_contains (PySem.F.args_range_contains_2 _ _) (rg_contains r i n t u v w) ⟨e, _, rfl, .bl _, H, I, rfl, q⟩
theorem rev2_bounds {n : Nat} (h : 0 < n) : sliceBounds (some (-2)) none (some (-1)) n = (((n - 1 : Nat) : Int) - 1, -1, -1) := by
  unfold sliceBounds
  have e : (if (-2 : Int) < 0 then -2 + (n : Int) else -2) = (n : Int) - 2 := by
    rw [if_pos (by decide)]
    omega
  have z : ¬ ((-1 : Int) > 0) := by decide
  simp only [Option.getD_some, z, if_false, e]
  refine Prod.ext ?_ rfl
  show max (-1) (min ((n : Int) - 2) ((n : Int) - 1)) = _
  omega
theorem rev2_pick (items : Array Value) (h : 0 < items.size) : slicePick items (some (-2)) none (some (-1)) = items.toList.dropLast.reverse.toArray := by
  unfold slicePick
  rw [rev2_bounds h]
  show ((sliceRange (((items.size - 1 : Nat) : Int) - 1) (-1) (-1)).filterMap (items[·]?)).toArray = _
  rw [PySem.W.krv_sliceRange, PySem.W.krv_range, List.filterMap_reverse]
  have q := pick_run items 0 (items.size - 1)
  have e : (List.range (items.size - 1)).map (0 + ·) = List.range (items.size - 1) := by
    rw [show ((0 + ·) : Nat → Nat) = id from funext fun k => Nat.zero_add k, List.map_id]
  rw [e, List.drop_zero] at q
  rw [q, List.dropLast_eq_take, Array.length_toList]
def tRev2 (K : PySem.W.Frag) (te : TE) : TE := fun σ H Q => te σ H fun x H1 => ∃ a xs, x = .ref a ∧ SqL K H1 a xs ∧ xs ≠ [] ∧ ∀ p, H1 p = none → Q (.ref p) (upd H1 p (.lst xs.dropLast.reverse))
theorem vals_drop {xs : List V} {us : List Value} (r : Vals xs us) : Vals xs.dropLast us.dropLast := by
  induction r with
  | nil => exact .nil
  | cons h t ih =>
    cases t with
    | nil => exact .nil
    | cons h2 t2 => exact .cons h ih
/-- xs[-2::-1] of a list -/
theorem pe_rev2 {e : Expr} {te : TE} {k k2 : Nat} {p1 p2 p3 p4 p5 pos : Pos} (he : PE X e te) : PE X (.Subscript e (.Slice (some (.UnaryOp .USub (.Constant (.int 2) k2 p4) p5)) none (some (.UnaryOp .USub (.Constant (.int 1) k p1) p2)) p3) pos) (tRev2 X.K te) := by
  constructor
  intro pins s σ H Q I h
  refine Subscript_ (thn (he.run pins s σ H _ I h) ?_)
  rintro v s1 ⟨x, H1, I1, r1, a, xs, rfl, hx, hne, q⟩
  cases r1
  have hlo : PO X (some (.UnaryOp .USub (.Constant (.int 2) k2 p4) p5)) (tPart (tUn (rU fun i => .int (-i)) (tC (.int 2)))) := po_some (pe_un un_neg pe_int)
  have hst : PO X (some (.UnaryOp .USub (.Constant (.int 1) k p1) p2)) (tPart (tUn (rU fun i => .int (-i)) (tC (.int 1)))) := po_some (pe_un un_neg pe_int)
  refine wpAny_Slice (thn (hlo.run pins s1 σ H1 (fun o G => o = some (-2) ∧ G = H1) I1 ⟨2, rfl, -2, rfl, rfl, rfl⟩) ?_)
  rintro w1 s2 ⟨l, G2, I2, pl, rfl, rfl⟩
  refine thn (po_none.run pins s2 σ G2 (fun o G => o = none ∧ G = G2) I2 ⟨rfl, rfl⟩) ?_
  rintro w2 s3 ⟨u, G3, I3, pu, rfl, rfl⟩
  refine thn (hst.run pins s3 σ G3 (fun o G => o = some (-1) ∧ G = G3) I3 ⟨1, rfl, -1, rfl, rfl, rfl⟩) ?_
  rintro w3 s4 ⟨o, G4, I4, ps, rfl, rfl⟩
  have I5 : Inv X pins σ G4 { s4 with heap := s4.heap.push { cls := .type "slice", data := .fields #[w1, w2, w3] } } := I4.kept (t' := s4.toks) fun b ob q => Heap.get?_push_of_some _ q
  obtain ⟨its, r, ht, hz⟩ := I5.list hx
  have hlen := r.length
  have pos : 0 < its.length := by
    cases its with
    | nil =>
      cases r
      exact absurd rfl hne
    | cons _ _ => exact Nat.succ_pos _
  refine tail_any (ops := [.ref a, .ref s4.heap.objs.size]) ht.isList.typeIs (PySem.slot_list_getitem.lookup) ?_ (by with_unfolding_all rfl)
  refine wpAny_getItem_list_slice ht.isList (Heap.IsSliceOf.new _ w1 w2 w3) pl pu ps (by decide) ?_ (by rw [List.size_toArray]; omega)
  rw [rev2_pick _ (by simpa using pos)]
  refine ⟨.ref _, _, I5.laid (t' := s4.toks) (o := .lst xs.dropLast.reverse) (fun b ob q => Heap.get?_push_of_some _ q) (Nat.le_refl _) ?_, rfl, q _ (I5.hok.fresh (Nat.le_refl _))⟩
  refine ⟨by rw [List.length_reverse, List.length_dropLast]; omega, _, 0, (vals_drop r).reverse, ?_⟩
  exact Heap.get?_push_size _ rfl
end
end Tc

namespace Tc
open PySem PySem.Spec PyProof.Rows L2
/-- what a call lets out is taken by the clauses of the try around it, whatever the slots hold -/
theorem passW {X : Cx} {W : WX} (tk : Takes X W) : Passes (L2.CX X.prog X.w) X (fun cls d H => ∀ σ, W cls d σ H) := passes_call tk fun _ _ σ _ h => h σ
/-- value is not True, value is not False: an int or a truth value -/
def rNotIBV : R2 := fun x y H Q => ∃ b : Bool, y = .bl b ∧ ((∃ i : Int, x = .int i ∧ Q (.bl true) H) ∨ ∃ a : Bool, x = .bl a ∧ Q (.bl (!decide (a = b))) H)
theorem op_notIBV {X : Cx} : OpR X (compareOp .IsNot) rNotIBV := by
  intro pins s σ H x y v u Q I rx ry h
  obtain ⟨b, ey, h⟩ := h
  rcases h with ⟨i, ex, q⟩ | ⟨a, ex, q⟩
  · exact op_notIB pins s σ H x y v u Q I rx ry ⟨i, b, ex, ey, q⟩
  · subst ex
    subst ey
    cases (show v = Value.bool a from rx)
    cases (show u = Value.bool b from ry)
    cases a <;> cases b
    · exact wpAny_isNot_self rfl ⟨.bl false, H, I, rfl, q⟩
    · exact wpAny_isNot_other rfl (fun z => nomatch z) ⟨.bl true, H, I, rfl, q⟩
    · exact wpAny_isNot_other rfl (fun z => nomatch z) ⟨.bl true, H, I, rfl, q⟩
    · exact wpAny_isNot_self rfl ⟨.bl false, H, I, rfl, q⟩
theorem exm_by {K : PySem.W.Frag} {C : Value} {D : Addr} {b : Bool} (sb : PySem.W.subIn K (.ref D) (.type "BaseException") = some true) (ic : PySem.W.isClsIn K D = true) (ty : PySem.W.typeIn K (.ref D) = some (.type "type")) (su : PySem.W.subIn K C (.ref D) = some b) : PySem.W.exmOne K C (.ref D) = some b := by
  have h : (PySem.W.clsIn K D).isSome = true := ic
  unfold PySem.W.exmOne PySem.W.kitCls
  simp [sb, ty, h, su]
theorem kit_no {K : PySem.W.Frag} {C D : Addr} (ic : PySem.W.isClsIn K D = true) (ty : PySem.W.typeIn K (.ref D) = some (.type "type")) (su : PySem.W.subIn K (.ref C) (.ref D) = some false) (ss : PySem.W.subIn K (.ref C) (.ref C) = some true) : PySem.W.kitOne K (.ref C) (.ref D) = some false := by
  have h : (PySem.W.clsIn K D).isSome = true := ic
  have ne : ¬ C = D := fun z => by
    subst z
    rw [ss] at su
    cases su
  unfold PySem.W.kitOne PySem.W.kitCls
  simp [ty, h, su, ne]
end Tc

set_option maxHeartbeats 4000000
/-! A truth value == one of a class with an own __eq__: the truth value declines, the class answers. -/
namespace Tc
open PySem PySem.Spec PySem.Calls PyProof.Rows L2
section
open PySem.W
theorem not_bool_eq (b : Bool) (x : Addr) : GivesAt (PlainAt x) (Builtin.«int.__eq__» ⟨[.bool b, .ref x], []⟩) (.val (Value.notImplemented)) := by
  intro prog w A R s hP h
  obtain ⟨C, dx, e⟩ := hP
  obtain ⟨hp, g, d, tk, os⟩ := s
  wp_walk
  exact h
variable {prog : Program} {w : World} {A : Around} {E : Value → Shared → Prop} {s : Shared} {K : Frag} {x C L f g : Addr} {h₀ : Heap} {m : Str → Option Value} {ox : Obj} {od : Option Obj}
theorem eqrev_K {b : Bool} {Q : Value → Shared → Prop} (hu : A.units < cLine) (F : Fr h₀ L s.heap m) (X₀ : K.In h₀) (I : InstAt s.heap x ox C od) (hP : PlainAt x s) (hsub : subIn K (.ref C) (.type "bool") = some false)
    (hs : findIn K (.ref C) "__eq__" = some (some (.ref f))) (hf : isFn K (.ref f) = true)
    (h : wpAny (model prog w) A (call (.ref f) [.ref x, .bool b]) (PySem.W.CmpBack Q) E s) : wpAny (model prog w) A (richCompare .Eq (.bool b) (.ref x)) Q E s := by
  have X := X₀.keeps F.keep
  have one : wpAny (model prog w) A (tryCompare (.ref x) "__eq__" (.bool b)) (fun r s' => ∃ v, r = some v ∧ Q v s') E s := by
    unfold tryCompare
    refine wpAny_bind (ifBound_K X I hs hf (wpAny_mono h (fun v s' hv => ?_) fun _ _ e => e))
    cases v <;> first | exact hv.elim | exact wpAny_pure ⟨_, rfl, hv⟩
  have L1 : Looks (model prog w) s.heap (typeOf (.bool b)) (.type "bool") := Looks.of_pure rfl
  have L5 : Looks (model prog w) s.heap (isSubtype (.ref C) (.type "bool")) false := looks_subIn X hsub
  have hnt : (Value.type "bool" != Value.ref C) = true := by
    show (!(Value.type "bool" == Value.ref C)) = true
    rw [Bool.eq_false_iff.mpr (fun q => by cases beq_iff_eq.mp q : ¬ (Value.type "bool" == Value.ref C) = true)]
    rfl
  have tb : s.TypeIs (.bool b) "bool" := rfl
  have dec : ∀ {Q' : Option Value → Shared → Prop}, Q' none s → wpAny (model prog w) A (tryCompare (.bool b) "__eq__" (.ref x)) Q' E s := fun q =>
    wpAny_tryCompare_declines tb PySem.F.slot_bool_eq (call_givesAt PySem.F.slot_bool_eq tb PySem.F.entry_int_eq (PySem.F.args_int_eq_2 _ _) (not_bool_eq b x) hP ⟨rfl, q⟩)
  unfold richCompare
  simp only [tb.oneThing_none]
  refine wpAny_holding (wpAny_bind (wpAny_cRoomFor hu ?_))
  rw [cmpInfo_Eq]
  dsimp only
  refine wpAny_bind (L1.here (wpAny_bind (I.type.here ?_)))
  simp only [hnt, if_true]
  refine wpAny_bind (L5.here ?_)
  simp only [Bool.false_eq_true, if_false, Bool.not_false, if_true]
  refine wpAny_bind (dec ?_)
  refine wpAny_bind (wpAny_mono one (fun r s' z => ?_) fun _ _ e => e)
  obtain ⟨v, rfl, hq⟩ := z
  exact wpAny_pure hq
end
section
variable {X : Cx}
/-- b == y, y of the class: what the own __eq__ promises of both -/
def rEqRevB (C : Addr) (sp : Sp) (E : XK) : R2 := fun x y H Q => ∃ (i : Bool) (b dy : Addr) (gs : List (Str × V)), x = .bl i ∧ y = .ref b ∧ H b = some (.ins C dy gs) ∧ sp [y, x] H (fun z H' => ∃ r, z = .bl r ∧ Q (.bl r) H') E
theorem op_eqRevB {CX : CXT} {k : Nat} {f C : Addr} {fd : FuncData} {ps : List Str} {sp : Sp} {E : XK} (hsub : PySem.W.subIn X.K (.ref C) (.type "bool") = some false) (c : EqC X.K C f) (F : FnOk X.prog X.w X.K X.mg X.base CX k f fd ps sp) (hb : Binds X.K fd ps []) (hx : Passes CX X E) (hr : Room k X.A) : OpR X (compareOp .Eq) (rEqRevB C sp E) := by
  intro pins s σ H x y v u Q I rx ry h
  obtain ⟨i, b, dy, gs, rfl, rfl, hb', q⟩ := h
  cases (show v = Value.bool i from rx)
  cases ry
  obtain ⟨mA, J0, _⟩ := ins_get I.hok hb'
  obtain ⟨od, J, _⟩ := J0.look
  obtain ⟨m, hF⟩ := I.fr
  have hl : ([Value.ref b, Value.bool i]).length = ps.length := by
    rw [← F.len _ _ _ _ q]
    rfl
  show wpAny (model X.prog X.w) X.A (richCompare .Eq (.bool i) (.ref b)) (EP X pins σ Q) X.xe s
  refine eqrev_K hr.units0 hF I.ok.mod.kin J ⟨C, dy, J0.obj⟩ hsub c.eq c.fn ?_
  refine wpAny_call (codeAny_mono (F.run X.A X.stack s H ⟨[.ref b, .bool i], []⟩ [.ref b, .bool i] [.ref b, .bl i] _ E hr I.env0 (by simpa using hb s [.ref b, .bool i] I.kIn hl) (.cons rfl (.cons rfl .nil)) q) fun r' s' hq => ?_)
  cases r' with
  | error e => exact hx pins σ H s e s' I hq
  | ok fl =>
    cases fl with
    | ret w' =>
      obtain ⟨z, H', I', rz, b', ez, q'⟩ := I.after hq
      subst ez
      cases rz
      exact ⟨.bl b', H', I', rfl, q'⟩
    | next => exact False.elim hq
    | brk => exact False.elim hq
    | cont => exact False.elim hq
/-- not x of an own object with its __bool__ -/
def tNotO (C : Addr) (sp : Sp) (E : XK) (ta : TE) : TE := fun σ H Q => ta σ H fun x H1 => ∃ a dx fs, x = .ref a ∧ H1 a = some (.ins C dx fs) ∧ sp [.ref a] H1 (fun v H' => ∃ b, v = .bl b ∧ Q (.bl (!b)) H') E
theorem pe_notO {a : Expr} {ta : TE} {pos : Pos} {CX : CXT} {k : Nat} {f C : Addr} {fd : FuncData} {ps : List Str} {sp : Sp} {E : XK} (c : UnC X.K C f "__bool__") (F : FnOk X.prog X.w X.K X.mg X.base CX k f fd ps sp) (hb : Binds X.K fd ps []) (hx : Passes CX X E) (hr : Room k X.A) (ha : PE X a ta) : PE X (.UnaryOp .Not a pos) (tNotO C sp E ta) := by
  refine ⟨fun pins s σ H Q I h => ?_⟩
  refine UnaryOp_ (thn (ha.run pins s σ H _ I h) fun v s1 ⟨x, H1, I1, r1, q1⟩ => ?_)
  obtain ⟨a, dx, fs, rfl, ha', q⟩ := q1
  cases r1
  obtain ⟨mA, J, _⟩ := ins_get I1.hok ha'
  obtain ⟨od, J, _⟩ := J.look
  obtain ⟨m, hF⟩ := I1.fr
  have hl : ([Value.ref a]).length = ps.length := (F.len _ _ _ _ q).symm ▸ rfl
  refine not_of (truthy_K hF I1.ok.mod.kin J c.slot c.fn ?_)
  refine wpAny_call (codeAny_mono (F.run X.A X.stack s1 H1 ⟨[.ref a], []⟩ [.ref a] [.ref a] _ E hr I1.env0 (by simpa using hb s1 [.ref a] I1.kIn hl) (.cons rfl .nil) q) ?_)
  intro res s' hq
  rcases res with e | fl
  · exact hx pins σ H1 s1 e s' I1 hq
  · rcases fl with _ | _ | _ | u
    · exact hq.elim
    · exact hq.elim
    · exact hq.elim
    · obtain ⟨v, H', J, rv, b, rfl, qq⟩ := I1.after hq
      exact ⟨b, rv, ⟨.bl (!b), H', J, rfl, qq⟩⟩
end
end Tc

set_option maxHeartbeats 4000000
/-! An own exception class over any built-in one whose __init__ says super().__init__(a text); self.f = f. -/
namespace Tc
open PySem PySem.Spec PySem.Calls PyProof.Rows L2 PySem.W
abbrev supA (f : Str) (p1 p2 : Pos) : Arguments := { posonlyargs := [], args := [{ arg := "self", annotation := none, pos := p1 }, { arg := f, annotation := none, pos := p2 }], vararg := none, kwonlyargs := [], kw_defaults := [], kwarg := none, defaults := [] }
abbrev supB (f txt : Str) (j : Nat) (q1 q2 q3 q4 q5 q6 q7 q8 q9 q0 : Pos) : List Stmt :=
  [.Expr (.Call (.Attribute (.Call (.Name "super" q1) [] [] q2) "__init__" q3) [.Constant (.str txt) j q4] [] q5) q6, .Assign [.Attribute (.Name "self" q7) f q8] (.Name f q9) q0]
abbrev supS (f : Str) : Scope := { kind := .function, names := [(Str.ofString "self", .local), (f, .local), (Str.ofString "__class__", .free), (Str.ofString "super", .globalImplicit)], isGenerator := false, isCoroutine := false, more := [] }
theorem sup_mc (env : Env) (txt : Str) (j : Nat) (q1 q2 q3 q4 q5 : Pos) (hl : (q3.endLine == q5.line) = true) : eval (.Call (.Attribute (.Call (.Name "super" q1) [] [] q2) "__init__" q3) [.Constant (.str txt) j q4] [] q5) env = (do
      let ov ← attributeBase (.Call (.Name "super" q1) [] [] q2) "__init__" env (eval (.Call (.Name "super" q1) [] [] q2) env)
      standAt q3.atName
      let (g, first) ← holding [ov] (getMethod ov "__init__" (do return (← importBound (.Call (.Name "super" q1) [] [] q2) env).getD true))
      callWith q5 g first (backTo q5 (starEach [.Constant (.str txt) j q4] env)) []) := by
  show (do
      let ov ← attributeBase (.Call (.Name "super" q1) [] [] q2) "__init__" env (eval (.Call (.Name "super" q1) [] [] q2) env)
      standAt q3.atName
      methodCall (.Call (.Name "super" q1) [] [] q2) "__init__" q3 q5 env ov 1 (backTo q5 (starEach [.Constant (.str txt) j q4] env)) []) = _
  have e : ∀ ov, methodCall (.Call (.Name "super" q1) [] [] q2) "__init__" q3 q5 env ov 1 (backTo q5 (starEach [.Constant (.str txt) j q4] env)) [] = (do
      let (g, first) ← holding [ov] (getMethod ov "__init__" (do return (← importBound (.Call (.Name "super" q1) [] [] q2) env).getD true))
      callWith q5 g first (backTo q5 (starEach [.Constant (.str txt) j q4] env)) []) := fun ov => by
    have f : methodCallForm 1 (backTo q5 (starEach [.Constant (.str txt) j q4] env)) [] = true := rfl
    unfold methodCall methodCallPos
    rw [f, hl]
    rfl
  simp only [e]
/-- what stands written of the class at C and of its __init__ at fI -/
structure SupTxt (P : Program) (K : Frag) (mg : Str → Option Value) (x qual f txt : Str) (B initId newId : String) (bmB : List Value) (C fI : Addr) : Prop where
  gC : mg x = some (.ref C)
  ei : excInitIn K C bmB newId = true
  ov : excOver K C bmB = true
  sa : findIn K (.ref C) "__setattr__" = some (some (.builtin "object.__setattr__"))
  ga : findIn K (.ref C) "__getattribute__" = some (some (.builtin "BaseException.__getattribute__"))
  gg : findIn K (.ref C) "__getattr__" = some none
  noN : findIn K (.ref C) f = some none
  iC : findIn K (.ref C) "__init__" = some (some (.ref fI))
  tC : typeIn K (.ref fI) = some (.type "function")
  kC : keepIn K (.ref C) = true
  exC : subIn K (.ref C) (.type "BaseException") = some true
  tyC : typeIn K (.ref C) = some (.type "type")
  hdC : hasDictIn K C = true
  su : ks_superIn K C C "__init__" = some (some (.builtin initId))
  sB : subIn K (.ref C) (.type B) = some true
  mr : mroIn K C (.ref C) = some true
  op : nsIn K cStatics "thirdparty.any" = some none
  ns : mg "super" = none
  mt : (P.main.scope.names.lookup ("super" : Str)).isSome = false
  fn : ∃ (oc : Value) (od : Option Addr) (doc pm : Value) (an : Option Addr) (cda cc : Addr) (ct : Value) (osl : Array (Option Value)) (p1 p2 q1 q2 q3 q4 q5 q6 q7 q8 q9 q0 : Pos) (j : Nat) (cl ccl : Value) (cld cdd : Option Addr) (csl ccs : Array (Option Value)) (vs : Array Value) (file : Str) (tf : Tok) (cdD : ClassData),
    K.lookup fI = some ⟨oc, od, .func (ksFn "__init__" qual (supA f p1 p2) (supB f txt j q1 q2 q3 q4 q5 q6 q7 q8 q9 q0) (supS f) .none .none doc pm an (.ref cda) ct cc), osl⟩ ∧ codeIn K (.ref cda) qual = true ∧
      K.lookup cc = some ⟨cl, cld, .cell (some (.ref C)), csl⟩ ∧ K.lookup cda = some ⟨ccl, cdd, .fields vs, ccs⟩ ∧ vs[2]? = some (.str file tf) ∧ ((P.main.file : Str) == file) = true ∧ clsIn K C = some cdD ∧ (q3.endLine == q5.line) = true
theorem ksld {M : Model} {A : Around} {E : Value → Shared → Prop} {s : Shared} {env : Env} {m : Str → Option Value} {x : Str} {pos : Pos} {v : Value} {Q : Value → Shared → Prop} (hk : env.scope.kind = .function) (hl : env.scope.names.lookup x = some .local) (hn : s.heap.Ns env.locals m) (hv : m x = some v) (h : Q v s) (hd : (x == ("__debug__" : Str)) = false) : wpAny M A (eval (.Name x pos) env) Q E s :=
  wpAny_Name (wpAny_loadName_local hk hl hn hv h) hd
/-- what a name of such an __init__ asks: it is not one of the others -/
structure SupN (f : Str) : Prop where
  n1 : (f == ("self" : Str)) = false
  n2 : (f == ("super" : Str)) = false
  n3 : (f == ("__class__" : Str)) = false
  n4 : (f == ("__debug__" : Str)) = false
  bnd : ∀ (qual : Str) (p1 p2 : Pos) (body : List Stmt) (doc pm : Value) (an : Option Addr) (cd ct : Value) (cc : Addr) (a v : Value), bindArgs (ksFn "__init__" qual (supA f p1 p2) body (supS f) .none .none doc pm an cd ct cc) ⟨[a, v], []⟩ = pure [(Str.ofString "self", a), (f, v)]
theorem supN_given : SupN "given" := ⟨by decide, by decide, by decide, by decide, fun _ _ _ _ _ _ _ _ _ _ _ _ => rfl⟩
theorem supN_limit : SupN "limit" := ⟨by decide, by decide, by decide, by decide, fun _ _ _ _ _ _ _ _ _ _ _ _ => rfl⟩
theorem supN_many : SupN "many" := ⟨by decide, by decide, by decide, by decide, fun _ _ _ _ _ _ _ _ _ _ _ _ => rfl⟩
theorem supN_claim : SupN "claim" := ⟨by decide, by decide, by decide, by decide, fun _ _ _ _ _ _ _ _ _ _ _ _ => rfl⟩
theorem supN_at : SupN "at" := ⟨by decide, by decide, by decide, by decide, fun _ _ _ _ _ _ _ _ _ _ _ _ => rfl⟩
theorem SupN.cells (f : Str) : ∀ x ∈ (supS f).names, x.2 ≠ .cell := fun x hx => by
  simp only [List.mem_cons, List.not_mem_nil, or_false] at hx
  rcases hx with rfl | rfl | rfl | rfl <;> exact fun z => nomatch z
theorem SupN.lf {f : Str} (N : SupN f) : (supS f).names.lookup f = some .local := by
  show List.lookup f [(Str.ofString "self", NameKind.local), (f, .local), (Str.ofString "__class__", .free), (Str.ofString "super", .globalImplicit)] = _
  simp [List.lookup, N.n1]
theorem SupN.ls {f : Str} : (supS f).names.lookup ("self" : Str) = some .local := rfl
theorem SupN.lc {f : Str} (N : SupN f) : (supS f).names.lookup ("__class__" : Str) = some .free := by
  have e : (("__class__" : Str) == f) = false := by rw [Bool.beq_comm]; exact N.n3
  show List.lookup ("__class__" : Str) [(Str.ofString "self", NameKind.local), (f, .local), (Str.ofString "__class__", .free), (Str.ofString "super", .globalImplicit)] = _
  have e0 : (("__class__" : Str) == (Str.ofString "self")) = false := by decide
  simp [List.lookup, e, e0]
theorem SupN.lsu {f : Str} (N : SupN f) : (supS f).names.lookup ("super" : Str) = some .globalImplicit := by
  have e : (("super" : Str) == f) = false := by rw [Bool.beq_comm]; exact N.n2
  show List.lookup ("super" : Str) [(Str.ofString "self", NameKind.local), (f, .local), (Str.ofString "__class__", .free), (Str.ofString "super", .globalImplicit)] = _
  have e0 : (("super" : Str) == (Str.ofString "self")) = false := by decide
  have e1 : (("super" : Str) == (Str.ofString "__class__")) = false := by decide
  simp [List.lookup, e, e0, e1]
/-- the new exception behind the call -/
structure SupMade (h h' : Heap) (e C d : Addr) (f : Str) (v : Value) : Prop where
  keep : ∀ b o, h.get? b = some o → h'.get? b = some o
  new : h.objs.size ≤ e
  obj : ∃ oe vs, h'.get? e = some oe ∧ oe.cls = .ref C ∧ oe.dict = some d ∧ oe.data = .fields vs ∧ vs[1]? = some .none
  dbig : h.objs.size ≤ d
  dne : d ≠ e
  ns : h'.Ns1 d (fun y => if y = f then some v else none)
section
variable {P : Program} {w : World} {A : Around} {E : Value → Shared → Prop} {R : Result → Shared → Prop} {K : Frag} {mg : Str → Option Value} {base : Heap} {x qual f txt : Str} {B initId newId : String} {bmB : List Value} {C fI : Addr}
theorem sup_made (T : SupTxt P K mg x qual f txt B initId newId bmB C fI) (N4 : SupN f) (MD : Mod K mg base) (FB : ExcBaseFacts B newId initId bmB) (KF : KxsFacts B initId) (SF : StoreFacts B bmB "object.__setattr__" "object") {s : Shared} (bk : ∀ b o, base.get? b = some o → s.heap.get? b = some o) {v : Value} (hroom : A.depth + 1 < recursionLimit)
    (hq : ∀ h' tk e d, SupMade s.heap h' e C d f v → R (.ok (.ret (.ref e))) { s with heap := h', toks := tk }) : codeAny (model P w) A (.call (.ref C) ⟨[v], []⟩) R s := by
  obtain ⟨oc, od, doc, pm, an, cda, cc, ct, osl, p1, p2, q1, q2, q3, q4, q5, q6, q7, q8, q9, q0, j, cl, ccl, cld, cdd, csl, ccs, vs, file, tf, cdD, hfn, hcd, hcell, hcode, hvs, hfile, hD, hline⟩ := T.fn
  have KX : K.In s.heap := MD.kin.keeps bk
  have LX : s.heap.NoLimit := MD.nolimit.keeps bk
  obtain ⟨nm, N', qn, bs, bm, hdct, sn, sub, ab, col, dd, k0, k1, k2, k3, k5, hC, hT⟩ := excInit_of KX T.ei
  obtain ⟨hp, g, dr, tk, os⟩ := s
  have kk : ∀ b o, hp.get? b = some o → ((hp.push (kdv_tup [v])).push (HandSPX.excO C hp.objs.size)).get? b = some o := fun b o e => Heap.get?_push_of_some _ (Heap.get?_push_of_some _ e)
  have hget : ((hp.push (kdv_tup [v])).push (HandSPX.excO C hp.objs.size)).get? (hp.objs.size + 1) = some (HandSPX.excO C hp.objs.size) := by heap_get
  refine HandSPX.call_own FB hT hC (looks_findIn KX T.iC) (fun self => bind_fn KX self T.tC) (by rw [sizeLine_eq]; exact (by decide : 1 ≤ 16777216)) ?_
  generalize hG : (hp.push (kdv_tup [v])).push (HandSPX.excO C hp.objs.size) = G at kk hget
  have gs : hp.objs.size + 1 < G.objs.size := Heap.lt_size hget
  have KG : K.In G := KX.keeps kk
  refine ks_codeAny_call_defAt (binds := [(Str.ofString "self", .ref (hp.objs.size + 1)), (f, v)]) (by rw [make_depth]; exact hroom) (KG _ _ hfn) rfl (LX.keeps kk) (codeRec_of KG hcd) rfl (BindsTo.of_eq (N4.bnd ..)) (SupN.cells f) ?_ (fun h₁ hns hk₁ => ?_) rfl rfl rfl
  · intro y hy
    simp only [List.mem_cons, List.not_mem_nil, or_false] at hy
    rcases hy with rfl | rfl
    · exact SupN.ls
    · exact N4.lf
  obtain ⟨m0, hm0⟩ : ∃ m0 : Str → Option Value, m0 = fun y => ([(Str.ofString "self", Value.ref (hp.objs.size + 1)), (f, v)] : List (Str × Value)).reverse.lookup y := ⟨_, rfl⟩
  have F1 : Fr hp G.objs.size h₁ m0 := ⟨by rw [hm0]; exact hns, fun b o e => hk₁ b o (kk b o e), by show hp.objs.size ≤ G.objs.size; omega⟩
  have mS : m0 "self" = some (.ref (hp.objs.size + 1)) := by
    rw [hm0]
    have e : (("self" : Str) == f) = false := by rw [Bool.beq_comm]; exact N4.n1
    show List.lookup ("self" : Str) [(f, v), (Str.ofString "self", Value.ref (hp.objs.size + 1))] = _
    simp [List.lookup, e]
  have mF : m0 f = some v := by
    rw [hm0]
    show List.lookup f [(f, v), (Str.ofString "self", Value.ref (hp.objs.size + 1))] = _
    simp [List.lookup]
  have N1 : News hp G.objs.size h₁ [(hp.objs.size + 1, excObj C hp.objs.size none .none)] := fun p hm => by
    obtain rfl := List.mem_singleton.mp hm
    refine ⟨hk₁ _ _ hget, Nat.ne_of_lt gs, ?_⟩
    cases z : hp.get? (hp.objs.size + 1) with
    | none => rfl
    | some o => exact absurd (Heap.lt_size z) (by show ¬ hp.objs.size + 1 < hp.objs.size; omega)
  have K1 : K.In h₁ := KG.keeps hk₁
  have bk1 : ∀ b o, base.get? b = some o → h₁.get? b = some o := fun b o e => hk₁ b o (kk b o (bk b o e))
  obtain ⟨mb, mbN, mbE⟩ := MD.blt
  obtain ⟨oD, hD1, hD2⟩ : ∃ oD, h₁.get? C = some oD ∧ oD.data = .cls cdD := by
    have z := hD
    unfold clsIn at z
    split at z
    · rename_i c d cd' sl ho
      cases z
      exact ⟨_, K1 _ _ ho, rfl⟩
    · cases z
  have I1 : InstAt h₁ (hp.objs.size + 1) (excObj C hp.objs.size none .none) C none := ⟨(N1 _ (.head _)).1, rfl, rfl, trivial⟩
  generalize hA' : (A.under (.builtin "type.__call__" ⟨Value.ref C :: [v], []⟩)) = A1
  refine ks_wpAt_execs_cons (ks_wpAt_Expr_any (ks_wpAt_MethodCall ?_ (sup_mc _ txt j q1 q2 q3 q4 q5 hline)))
  refine ks_wpAt_super_base (env := ksEnv qual (supS f) G.objs.size fI (.ref cda) cc) N4.lsu N4.lc (by decide) rfl (K1 _ _ hfn) rfl rfl rfl (K1 _ _ hcode) rfl hvs hfile T.mt ?_
  refine ks_loadName_global rfl N4.lsu (loadGlobal_builtin (env := ksEnv qual (supS f) G.objs.size fI (.ref cda) cc) (MD.glob.keeps bk1) T.ns (mbN.keeps bk1) ((mbE _ (by decide)).trans (by rfl)) ⟨rfl, ?_⟩)
  refine wpAny_loadName_free rfl N4.lc rfl ⟨_, K1 _ _ hcell, rfl⟩ ?_
  refine wpAny_loadName_local rfl SupN.ls F1.ns mS ?_
  refine ks_wpAny_isType_cls hD1 hD2 ⟨rfl, ?_⟩
  refine ks_wpAny_call_super hD1 hD2 I1.at_ I1.cls (fun c e => nomatch e) (looks_mroIn K1 T.mr) (fun h2 e2 k2 => ?_)
  obtain ⟨F2, N2, l2⟩ := ks_newsPush (s := ⟨h₁, g, dr, tk, os⟩) F1 N1 rfl e2 k2
  refine kxs_method (odx := none) KF F2 KX N2 (.head _) ⟨(N2 _ (.tail _ (.head _))).1, rfl, rfl, trivial⟩ T.op T.su T.sB (by decide) (fun u h3 F3 N3 l3 => ?_)
  refine kxs_callWith1 N3 (.head _) ?_
  show wpAny _ _ (spliced [(false, eval (.Constant (.str txt) j q4) _)]) _ _ _
  refine spliced_cons (Constant_str (spliced_nil ⟨kxs_at N3 (.head _), ?_⟩))
  have ne2 : h₁.objs.size ≠ hp.objs.size + 1 := Nat.ne_of_gt (l2 _ (.head _))
  have ne3 : u ≠ hp.objs.size + 1 := Nat.ne_of_gt (l3 _ (.tail _ (.head _)))
  refine kxs_call F3 KX N3 FB T.ei (.head _) (.tail ne3 (.tail ne2 (.head (fun _ z => nomatch z)))) (by rw [sizeLine_eq]; exact (by decide : 1 ≤ 16777216)) (fun t4 h4 F4 N4' _ => ?_)
  refine ks_wpAt_execs_cons (ks_wpAt_Assign_Attr ?_ (by rfl))
  refine wpAt_of_wpAny ?_
  refine ksld (m := m0) (x := f) ?_ ?_ ?_ mF ?_ N4.n4
  · rfl
  · exact N4.lf
  · exact F4.ns
  refine ksld (m := m0) (x := "self") ?_ ?_ ?_ mS ?_ (by decide)
  · rfl
  · exact SupN.ls
  · exact F4.ns
  have K4 : K.In h4 := KX.keeps F4.keep
  have e4 : h4.get? (hp.objs.size + 1) = some (excObj C t4 none .none) := (N4' (hp.objs.size + 1, excObj C t4 none .none) (by simp)).1
  have tki : takerIn K C f = some none := by
    unfold takerIn
    rw [T.noN]
    rfl
  refine set_plain K4 (ox := excObj C t4 none .none) (od := none) ⟨e4, rfl, rfl, trivial⟩ T.sa ?_
  refine osa_openX (od := none) SF K4 ⟨e4, rfl, rfl, trivial⟩ T.ov tki fun b => ?_
  obtain ⟨cd, hc5, hd5⟩ := any_some T.hdC
  refine wpAny_bind (wpAny_pure (wpAny_bind (instanceDict_exc e4 (looks_clsIn K4 hc5) hd5 ?_)))
  refine HandSPX.store_in_new (dx := h4.objs.size) ?_ (fun h5 tk5 hn5 hs5 => ?_)
  · have xs : hp.objs.size + 1 ≠ h4.objs.size := Nat.ne_of_lt (Heap.lt_size e4)
    exact ⟨dictOf [] 0, #[], 0, (Heap.get?_update_ne _ _ _ _ (Ne.symm xs)).trans (Heap.get?_push_at rfl rfl), rfl, fun z hz => absurd hz (by simp), fun _ => rfl⟩
  show PySem.wpAt _ _ _ (execs [] _) _ _ _
  refine wpAt_of_wpAny (wpAny_execs_nil ?_)
  have xl : hp.objs.size + 1 < h4.objs.size := Heap.lt_size e4
  refine ⟨rfl, hq h5 tk5 (hp.objs.size + 1) h4.objs.size ⟨fun b o e => ?_, Nat.le_succ _, ⟨excObj C t4 (some h4.objs.size) .none, _, ?_, rfl, rfl, rfl, rfl⟩, ?_, ?_, hn5⟩⟩
  · have e : hp.get? b = some o := e
    have h4b := F4.keep b o e
    have b1 : b ≠ hp.objs.size + 1 := Nat.ne_of_lt (Nat.lt_succ_of_lt (Heap.lt_size e))
    exact (hs5.2 b (Nat.ne_of_lt (Heap.lt_size h4b))).trans ((Heap.get?_update_ne _ _ _ _ b1).trans (Heap.get?_push_of_some _ h4b))
  · exact (hs5.2 _ (Nat.ne_of_lt xl)).trans (Heap.get?_update_self _ (Heap.get?_push_of_some _ e4) rfl)
  · exact Nat.le_of_lt (Nat.lt_of_succ_lt xl)
  · exact Nat.ne_of_gt xl
end
theorem relO_sup {f : Str} {v : V} {v' : Value} (r : RelV v v') (y : Str) : RelO (List.lookup y [(f, v)]) (if y = f then some v' else none) := by
  by_cases h : y = f
  · subst h
    have e : List.lookup y [(y, v)] = some v := by simp [List.lookup]
    rw [if_pos rfl, e]
    exact r
  · have q : (y == f) = false := by simpa using h
    have e : List.lookup y [(f, v)] = none := by simp [List.lookup, q]
    rw [if_neg h, e]
    trivial
section
variable {X : Cx} {x qual f txt : Str} {B initId newId : String} {bmB : List Value} {C fI : Addr}
/-- x(e): the error's own dict d, new, holds the field -/
def tMkSup (C : Addr) (f : Str) (ta : TA) : L2.St → Hp → XK → Prop := fun σ H Q => ta σ H fun vs H1 => ∃ v, vs = [v] ∧ ∀ d, H1 d = none → Q (.ref C) (some d) (upd H1 d (.xd [(f, v)]))
theorem pmk_sup {a : Expr} {ta : TA} {p pos : Pos} {k : Nat} (T : SupTxt X.prog X.K X.mg x qual f txt B initId newId bmB C fI) (N4 : SupN f) (FB : ExcBaseFacts B newId initId bmB) (KF : KxsFacts B initId) (SF : StoreFacts B bmB "object.__setattr__" "object") (hr : Room k X.A) (hg : Gl X x) (ha : PA X [a] ta)
    (hdb : (x == ("__debug__" : Str)) = false := by decide) (he : starEach (a :: []) X.env = (false, eval a X.env) :: starEach [] X.env := by rfl) (hpl : (backTo pos (starEach [] X.env)).any (·.1) = false := by rfl) :
    PMk X (.Call (.Name x p) [a] [] pos) (tMkSup C f ta) := by
  intro pins s σ H Q I h
  refine wpAny_Call_Name_kw (ld_glob I hg T.gC ?_ hdb)
  refine PySem.W.callWith_K (h₀ := X.base) I.ok.mod.kin T.kC (thn (ha.run pos pins s σ H _ I h) fun us s1 hh => ?_) he hpl
  obtain ⟨vs, H1, I1, r1, v, rfl, q1⟩ := hh
  refine ⟨I1.kIn, ?_⟩
  cases r1 with
  | cons rv rn =>
    rename_i v' us'
    cases rn
    show wpAny _ _ (call (.ref C) [v']) _ _ _
    have bk1 := I1.bk
    obtain ⟨hp, g, dr, tk, os⟩ := s1
    refine wpAny_call (sup_made T N4 I1.ok.mod FB KF SF bk1 (by have := hr.dp; omega) fun h' tk' e d M => ?_)
    show MkP X pins σ Q (.ref e) ⟨h', g, dr, tk', os⟩
    obtain ⟨oe, fv, hoe, hc, hd, hdat, h1⟩ := M.obj
    have hns := M.ns
    obtain ⟨G', g1, g2⟩ := restrict h' fun b => decide (b ≠ e)
    have gk : ∀ b, b ≠ e → G'.get? b = h'.get? b := fun b hb => g1 b (decide_eq_true hb)
    have ge : G'.get? e = none := g2 e (by simp)
    have old : ∀ b o, hp.get? b = some o → G'.get? b = some o := fun b o z => (gk b (Nat.ne_of_lt (Nat.lt_of_lt_of_le (Heap.lt_size z) M.new))).trans (M.keep b o z)
    have ob : ObjOk X.prog X.w (upd H1 d (.xd [(f, v)])) G' d (.xd [(f, v)]) := ⟨_, hns.at (fun o z => (gk d M.dne).trans z), fun y => relO_sup rv y⟩
    have J : Inv X pins σ (upd H1 d (.xd [(f, v)])) ⟨G', g, dr, tk', os⟩ := I1.laid (t' := tk') old M.dbig ob
    refine ⟨e, oe, fv, ⟨G', g, dr, tk', os⟩, _, .ref C, some d, rfl, J, fun b o z => ?_, ge, hoe, ⟨hc, hd⟩, hdat, h1, ?_, rfl, I1.bare, raises_own T.exC T.tyC, q1 d (I1.hok.fresh M.dbig)⟩
    · by_cases hb : b = e
      · have z' : G'.get? b = some o := z
        rw [hb, ge] at z'
        cases z'
      · exact (gk b hb).symm.trans z
    · rw [upd_ne (Ne.symm M.dne)]
      exact I1.hok.fresh M.new
/-- raise x(e) -/
def tRaiseSup (C : Addr) (f : Str) (W : WX) (ta : TA) : TS := fun _ σ H => tMkSup C f ta σ H fun cls d H' => W cls d σ H'
theorem ps_raiseSup {a : Expr} {ta : TA} {W : WX} {p pos pos2 : Pos} {k : Nat} (hc : X.calm = true) (T : SupTxt X.prog X.K X.mg x qual f txt B initId newId bmB C fI) (N4 : SupN f) (FB : ExcBaseFacts B newId initId bmB) (KF : KxsFacts B initId) (SF : StoreFacts B bmB "object.__setattr__" "object") (hr : Room k X.A) (tk : Takes X W) (hg : Gl X x) (ha : PA X [a] ta)
    (hdb : (x == ("__debug__" : Str)) = false := by decide) (he : starEach (a :: []) X.env = (false, eval a X.env) :: starEach [] X.env := by rfl) (hpl : (backTo pos (starEach [] X.env)).any (·.1) = false := by rfl) :
    PS X (.Raise (some (.Call (.Name x p) [a] [] pos)) none pos2) (tRaiseSup C f W ta) := ps_raise hc tk (pmk_sup T N4 FB KF SF hr hg ha hdb he hpl)
theorem SupTxt.xf {P : Program} {K : Frag} {mg : Str → Option Value} (T : SupTxt P K mg x qual f txt B initId newId bmB C fI) : XfC K C := ⟨T.ga, T.gg, T.exC, T.hdC⟩
end
end Tc

set_option maxHeartbeats 4000000
/-! try with several clauses, some of them with a name: what each clause asks is told by a rule of its own. -/
namespace Tc
open PySem PySem.Spec PyProof.Rows L2
/-- an exception at a, of the class cls with the own dict d, was caught in the frame of X and is looked at by the clauses -/
structure Caught (X : Cx) (pins : List (Addr × Obj)) (σ : L2.St) (H : Hp) (a : Addr) (cls : Value) (d : Option Addr) (s : Shared) : Prop where
  inv : ∃ (B : Heap) (sI : Shared), L2.Inv X pins σ H sI ∧ (∀ b o, sI.heap.get? b = some o → ¬ b ∈ frs X.stack → B.get? b = some o) ∧ sI.heap.UpToSlots s.heap ∧ s.os = sI.os ∧ AllBare s.gens ∧ HandSPX.FlyingZ B (X.env :: X.outer) a (Zc cls d) s.heap
  na : H a = none
/-- what the clauses hds do with it, where w is asked -/
def Handles (X : Cx) (pins : List (Addr × Obj)) (D : Ends) (hds : List ExceptHandler) (w : WX) : Prop :=
  ∀ (σ : L2.St) (H : Hp) (a : Addr) (cls : Value) (d : Option Addr) (s : Shared), Caught X pins σ H a cls d s → w cls d σ H → wpAny (model X.prog X.w) X.A (handleBy (.ref a) X.env hds) (SP X pins D) X.xe s
section
variable {X : Cx} {pins : List (Addr × Obj)} {σ : L2.St} {H : Hp} {a : Addr} {cls : Value} {d : Option Addr} {s : Shared} {D : Ends}
theorem Caught.now (c : Caught X pins σ H a cls d s) : L2.Inv X pins σ H s := by
  obtain ⟨B, sI, J, nb, up, os, ag, fl⟩ := c.inv
  exact J.landed nb fl.1 up os ag
theorem Caught.obj (c : Caught X pins σ H a cls d s) : ∃ oe vs, s.heap.get? a = some oe ∧ Zc cls d oe ∧ oe.data = .fields vs := by
  obtain ⟨B, sI, J, nb, up, os, ag, fl⟩ := c.inv
  exact fl.there
theorem Caught.off (hf : X.env.frame = some X.env.locals) (c : Caught X pins σ H a cls d s) : a ≠ X.env.locals ∧ a ∉ X.fs := by
  obtain ⟨B, sI, J, nb, up, os, ag, fl⟩ := c.inv
  obtain ⟨oe, vs, he, hz, hd⟩ := fl.there
  have no : a ∉ frs (X.env :: X.outer) := fun hm => by
    obtain ⟨_, o2, e2, hn⟩ := fl.2.2.1.mem hm
    rw [he] at e2
    cases e2
    exact hn _ hd
  refine ⟨fun z => no (List.mem_filterMap.mpr ⟨X.env, List.mem_cons_self, by rw [z]; exact hf⟩), fun hm => ?_⟩
  obtain ⟨e, he', q⟩ := List.mem_filterMap.mp hm
  exact no (List.mem_filterMap.mpr ⟨e, List.mem_cons_of_mem _ he', q⟩)
/-- the flight's mark is taken off: still caught -/
theorem Caught.off_flight {M : Model} {A : Around} {E : Value → Shared → Prop} {Q : Unit → Shared → Prop} (c : Caught X pins σ H a cls d s) (h : ∀ s', Caught X pins σ H a cls d s' → Q () s') : wpAny M A (setFlight (.ref a) none) Q E s := by
  obtain ⟨B, sI, J, nb, up, os, ag, fl⟩ := c.inv
  exact HandSPX.lands_againZ fl fun h4 fl4 up4 => h _ ⟨⟨B, sI, J, nb, up.trans up4, os, ag, fl4⟩, c.na⟩
/-- it flies on, out of the try -/
theorem Caught.on {Wout : WX} (hs : X.stack = X.env :: X.outer) (hf : X.env.frame = some X.env.locals) (tk : Takes X Wout) (c : Caught X pins σ H a cls d s) (w : Wout cls d σ H) (f : String) : wpAny (model X.prog X.w) X.A (PySem.passOn f (.ref a) X.env) (SP X pins D) X.xe s := by
  obtain ⟨B, sI, J, nb, up, os, ag, fl⟩ := c.inv
  obtain ⟨_, _, _, oe, vs, T, oT, ts, he, hz, hd, h1, hr⟩ := id fl
  have nT : ¬ ((Value.ref T == Value.none) = true) := by simp
  have last : wpAny (model X.prog X.w) X.A (setFlight (.ref a) X.env.frame) (fun _ s4 => wpAny (model X.prog X.w) X.A (throw (.ref a) : Sem Flow) (SP X pins D) X.xe s4) X.xe s := by
    rw [hf]
    exact HandSPX.setFlight_upZ fl fun h4 hh4 up4 => wpAny_throw (tk _ _ ⟨a, B, sI, pins, σ, H, cls, d, rfl, J, nb, up.trans up4, .inr (.inr (by rw [hs]; exact hh4)), c.na, os, ag, w⟩)
  unfold PySem.passOn
  refine wpAny_bind (wpAny_field he hd h1 ?_)
  rw [if_neg nT]
  first
    | exact wpAny_bind (wpAny_pure (wpAny_bind last))
    | exact wpAny_bind last
theorem handles_nil {Wout : WX} (hs : X.stack = X.env :: X.outer) (hf : X.env.frame = some X.env.locals) (tk : Takes X Wout) : Handles X pins D [] Wout :=
  fun σ H a cls d s c w => wpAny_handleBy_nil (c.on hs hf tk w _)
/-- the class that a clause names, looked up -/
theorem Caught.test {x : Str} {c : Value} {np : Pos} {Q : Value → Shared → Prop} {E : Value → Shared → Prop} (hf : X.env.frame = some X.env.locals) (k : Caught X pins σ H a cls d s) (hc : Names X x c) (q : Q c s) : wpAny (model X.prog X.w) (X.A.mark (some (.ref a))) (eval (.Name x np) X.env) Q E s := by
  obtain ⟨oe, vs, he, hz, hd⟩ := k.obj
  obtain ⟨nL, nF⟩ := k.off hf
  have S := k.now.suite he hd k.na nL nF
  obtain ⟨hg, hdbg, hm | ⟨hm, hv, hnn⟩⟩ := hc
  · exact ld_glob (X := X.suite a ((a, oe) :: (X.pn ++ pins))) S hg hm q hdbg
  · exact ld_blt (X := X.suite a ((a, oe) :: (X.pn ++ pins))) S hg hm hv q hnn hdbg
/-- does the class match: b -/
theorem Caught.matches {c : Value} {b : Bool} {A : Around} {Q : Bool → Shared → Prop} {E : Value → Shared → Prop} (k : Caught X pins σ H a cls d s) (hb : PySem.W.exmOne X.K cls c = some b) (q : Q b s) : wpAny (model X.prog X.w) A (excMatches (.ref a) c) Q E s := by
  obtain ⟨oe, vs, he, hz, hd⟩ := k.obj
  have LT : PySem.W.Looks (model X.prog X.w) s.heap (typeOf (.ref a)) cls := fun A Q E s' k' q' => wpAny_typeOf_ref (k' _ _ he) (by rw [hz.1]; exact q')
  exact (PySem.W.exm_one (M := model X.prog X.w) k.now.kIn LT hb).here q
/-- except x: suite, ahead of the clauses hds -/
def wPlain (K : PySem.W.Frag) (c : Value) (ts : Addr → Value → Option Addr → TS) (D : Ends) (w : WX) : WX := fun cls d σ H =>
  ∃ b, PySem.W.exmOne K cls c = some b ∧ (b = true → ∀ a, H a = none → ts a cls d D σ H) ∧ (b = false → w cls d σ H)
theorem handles_plain {x : Str} {c : Value} {ts : Addr → Value → Option Addr → TS} {b₀ : Stmt} {suite : List Stmt} {np pos : Pos} {hds : List ExceptHandler} {w : WX} (hf : X.env.frame = some X.env.locals) (hc : Names X x c)
    (hsu : ∀ (a : Addr) (oe : Obj) (cls : Value) (d : Option Addr) (pn : List (Addr × Obj)), Zc cls d oe → (∃ vs, oe.data = .fields vs) → PSs (X.suite a ((a, oe) :: pn)) (b₀ :: suite) (ts a cls d)) (r : Handles X pins D hds w) :
    Handles X pins D (.ExceptHandler (some (.Name x np)) none (b₀ :: suite) pos :: hds) (wPlain X.K c ts D w) := by
  intro σ H a cls d s k ⟨b, e, hy, hn⟩
  have ok := k.now.ok
  refine wpAny_handleBy_cons (codeAny_handlers_test (k.test hf hc (k.matches e ?_))) (fun z => nomatch z)
  cases b with
  | false => exact r σ H a cls d s k (hn rfl)
  | true =>
    refine codeAny_handlers_suite (k.off_flight fun s4 k4 => ?_)
    obtain ⟨oe, vs, he, hz, hd⟩ := k4.obj
    obtain ⟨nL, nF⟩ := k4.off hf
    refine wpAny_mono ((hsu a oe cls d (X.pn ++ pins) hz ⟨_, hd⟩).run [] _ _ H _ (k4.now.suite he hd k4.na nL nF) (hy rfl a k.na)) (fun f s6 q => ?_) (fun _ _ z => False.elim z)
    cases f with
    | ret u =>
      obtain ⟨v6, σ6, H6, S6, r6, q6⟩ := q
      exact ⟨v6, σ6, H6, S6.unsuite ok, r6, q6⟩
    | next =>
      obtain ⟨σ6, H6, S6, q6⟩ := q
      exact ⟨σ6, H6, S6.unsuite ok, q6⟩
    | brk =>
      obtain ⟨σ6, H6, S6, q6⟩ := q
      exact ⟨σ6, H6, S6.unsuite ok, q6⟩
    | cont =>
      obtain ⟨σ6, H6, S6, q6⟩ := q
      exact ⟨σ6, H6, S6.unsuite ok, q6⟩
/-- except x as n: suite (slot i is n's) -/
def wNamed (K : PySem.W.Frag) (c : Value) (i : Nat) (ts : Addr → Value → Option Addr → TS) (D : Ends) (w : WX) : WX := wAs K c i ts w D
theorem handles_named {x n : Str} {c : Value} {i : Nat} {ts : Addr → Value → Option Addr → TS} {b₀ : Stmt} {suite : List Stmt} {np pos : Pos} {hds : List ExceptHandler} {w : WX} (hf : X.env.frame = some X.env.locals) (hN : X.N.Nodup) (hi : X.N[i]? = some n) (hl : X.env.kindOf n = some .local) (hc : Names X x c)
    (hsu : ∀ (a : Addr) (oe : Obj) (cls : Value) (d : Option Addr) (pn : List (Addr × Obj)), Zc cls d oe → (∃ vs, oe.data = .fields vs) → PSs (X.suite a ((a, oe) :: pn)) (b₀ :: suite) (ts a cls d)) (r : Handles X pins D hds w) :
    Handles X pins D (.ExceptHandler (some (.Name x np)) (some n) (b₀ :: suite) pos :: hds) (wNamed X.K c i ts D w) := by
  intro σ H a cls d s k ⟨b, e, hy, hn⟩
  have ok := k.now.ok
  refine wpAny_handleBy_cons (codeAny_handlers_test (k.test hf hc (k.matches e ?_))) (fun z => nomatch z)
  cases b with
  | false => exact r σ H a cls d s k (hn rfl)
  | true =>
    refine codeAny_handlers_suite_as (k.off_flight fun s4 k4 => ?_)
    obtain ⟨oe, vs, he, hz, hd⟩ := k4.obj
    obtain ⟨nL, nF⟩ := k4.off hf
    refine store_ok (X := X.suite a ((a, oe) :: (X.pn ++ pins))) (v := .ref a) (k4.now.suite he hd k4.na nL nF) hN hi (.inl hl) rfl (fun s5 S5 => ?_) (.inr hl)
    refine wpAny_mono ((hsu a oe cls d (X.pn ++ pins) hz ⟨_, hd⟩).run [] s5 _ H _ S5 (hy rfl a k.na)) (fun f s6 q => ?_) (fun _ _ z => False.elim z)
    cases f with
    | ret u =>
      obtain ⟨v6, σ6, H6, S6, r6, q6⟩ := q
      exact gone_ok (S6.unsuite ok) hN hi hl fun s7 J7 => ⟨v6, _, H6, J7, r6, q6⟩
    | next =>
      obtain ⟨σ6, H6, S6, q6⟩ := q
      exact gone_ok (S6.unsuite ok) hN hi hl fun s7 J7 => ⟨_, H6, J7, q6⟩
    | brk =>
      obtain ⟨σ6, H6, S6, q6⟩ := q
      exact gone_ok (S6.unsuite ok) hN hi hl fun s7 J7 => ⟨_, H6, J7, q6⟩
    | cont =>
      obtain ⟨σ6, H6, S6, q6⟩ := q
      exact gone_ok (S6.unsuite ok) hN hi hl fun s7 J7 => ⟨_, H6, J7, q6⟩
end
/-- try: body, then clauses of any kind -/
theorem ps_try_mix {X : Cx} {body : List Stmt} {h₀ : ExceptHandler} {hds : List ExceptHandler} {pos : Pos} {tb : WX → TS} {w : Ends → WX} (hs : X.stack = X.env :: X.outer)
    (hb : ∀ (W : WX) (pn : List (Addr × Obj)) (xe : Value → Shared → Prop), Takes (X.tr pn xe) W → PassesOwn (model X.prog X.w) X.A X.env xe → PSs (X.tr pn xe) body (tb W))
    (hf : X.env.frame = some X.env.locals) (hh : ∀ (pins : List (Addr × Obj)) (D : Ends), Handles X pins D (h₀ :: hds) (w D)) : PS X (.Try body (h₀ :: hds) [] [] pos) (fun D σ H => tb (w D) D σ H) := by
  refine ⟨fun pins s σ H D I h => ?_⟩
  have ok := I.ok
  have fr : X.A.frames = some (X.env :: X.outer) := ok.frames.trans (congrArg some hs)
  have run := (hb (w D) (X.pn ++ pins) (fun e s₁ => wpAny (model X.prog X.w) X.A (noteFrame e X.env) (fun _ s₂ => wpAny (model X.prog X.w) X.A (setFlight e none) (fun _ s₃ => wpAny (model X.prog X.w) X.A (handleBy e X.env (h₀ :: hds)) (SP X pins D) X.xe s₃) X.xe s₂) X.xe s₁)
    (fun u s' x => by
      obtain ⟨a, B, sI, pins', σ', H', cls, d, rfl, J', nb, up, sky, na, os, ag, hw⟩ := x
      refine Sky.land Zc.steady fr hf (by rw [← hs]; exact sky) fun h3 fl3 up3 => ?_
      exact hh pins D σ' H' a cls d _ ⟨⟨B, sI, J'.ofTry ok, nb, up.trans up3, os, ag, fl3⟩, na⟩ hw) PassesOwn.looking).run [] s σ H D (I.toTry _) h
  refine wpAny_Try_except (wpAny_mono run (fun f s1 q => ?_) fun e s1 he => he)
  cases f with
  | next =>
    obtain ⟨σ', H', J', q⟩ := q
    exact wpAny_execs_nil ⟨σ', H', J'.ofTry ok, q⟩
  | ret v => obtain ⟨v', σ', H', J', r, q⟩ := q; exact ⟨v', σ', H', J'.ofTry ok, r, q⟩
  | brk => obtain ⟨σ', H', J', q⟩ := q; exact ⟨σ', H', J'.ofTry ok, q⟩
  | cont => obtain ⟨σ', H', J', q⟩ := q; exact ⟨σ', H', J'.ofTry ok, q⟩
end Tc

set_option maxHeartbeats 4000000
/-! Lambdas without parameters as values: known objects of the heap, kept in a list, called by a def that gets them. -/
namespace Tc
open PySem PySem.Spec PyProof.Rows L2 LamX NdefX
/-- the object at f is the lambda of X with this text, its code object at c -/
def LamO (X : Cx) (params : Arguments) (body : Expr) (scope : Scope) (f c : Addr) : HO := .ext fun h => ∃ pm ctv : Value, h.get? f = some (PySem.W.kla_obj "<lambda>" (X.env.qual ++ "<lambda>") params body scope (cloFrom X.env.cells scope.names []) pm c ctv)
section
variable {X : Cx} {pins : List (Addr × Obj)} {σ : L2.St} {H : Hp} {s : Shared} {params : Arguments} {body : Expr} {scope : Scope}
theorem lamO_laid {c : Addr} {pm ctv : Value} {t' : Nat} {hb : Heap} {H0 : Hp} (I : Inv X pins σ H0 ⟨hb, s.gens, s.drawn, t', s.os⟩) :
    Inv X pins σ (upd H0 hb.objs.size (LamO X params body scope hb.objs.size c)) ⟨hb.push (PySem.W.kla_obj "<lambda>" (X.env.qual ++ "<lambda>") params body scope (cloFrom X.env.cells scope.names []) pm c ctv), s.gens, s.drawn, t', s.os⟩ := by
  refine I.laid (t' := t') (a := hb.objs.size) (fun b u e => Heap.get?_push_of_some _ e) (Nat.le_refl _) ?_
  have e : (hb.push (PySem.W.kla_obj "<lambda>" (X.env.qual ++ "<lambda>") params body scope (cloFrom X.env.cells scope.names []) pm c ctv)).get? hb.objs.size = some (PySem.W.kla_obj "<lambda>" (X.env.qual ++ "<lambda>") params body scope (cloFrom X.env.cells scope.names []) pm c ctv) := Heap.get?_push_size _ rfl
  exact ⟨⟨pm, ctv, e⟩, ⟨_, e⟩, fun h1 h2 ⟨p, t, z⟩ st => ⟨p, t, st _ z⟩⟩
theorem lamO_ne {f c : Addr} (ps : Array Value) : LamO X params body scope f c ≠ .tbl ps := fun z => by
  unfold LamO at z
  cases z
theorem lamO_at {P : Program} {w : World} {h : Heap} {f c : Addr} (hok : HOk P w H h) (e : H f = some (LamO X params body scope f c)) : ∃ pm ctv : Value, h.get? f = some (PySem.W.kla_obj "<lambda>" (X.env.qual ++ "<lambda>") params body scope (cloFrom X.env.cells scope.names []) pm c ctv) := by
  obtain ⟨z, _, _⟩ := hok f _ e
  exact z
/-- a lambda is made: a new object, known from now on -/
theorem lam_new {T : List (Addr × Str)} {c P : Addr} {pos : Pos} {E : Value → Shared → Prop} {Q : Value → Shared → Prop} (I : Inv X pins σ H s) (TB : TabB X.base X.mg c P) (hcode : X.env.code = .ref c)
    (hm : (P, X.env.qual ++ "<lambda>") ∈ T) (hu : ∀ p ∈ T, p.1 = P → p.2 = X.env.qual ++ "<lambda>") (hT : Tabs T H) (hdef : defaultsOf params X.env = ([], [])) (hfree : ∀ y ∈ scope.names, y.2 = .free → ∃ c, X.env.cells.lookup y.1 = some c)
    (h : ∀ (f c' : Addr) (H1 : Hp) (s' : Shared), Inv X pins σ H1 s' → ExtN H H1 → Tabs T H1 → H f = none → H1 f = some (LamO X params body scope f c') → H1 c' = some (CodeO c' (X.env.qual ++ "<lambda>")) → Q (.ref f) s') :
    wpAny (model X.prog X.w) X.A (eval (.Lambda params body scope pos) X.env) Q E s := by
  obtain ⟨ps, hP, tri, told⟩ := hT _ hm
  have bP := TB.bm.keeps I.bk
  have oP : s.heap.get? P = some { cls := .none, data := .fields ps } := I.hok P _ hP
  have cl := closure_ok hfree
  -- what is left, once the code object c' is known in H0, in the heap hb
  have last : ∀ (H0 : Hp) (hb : Heap) (t' : Nat) (c' : Addr) (pm ctv : Value), Inv X pins σ H0 ⟨hb, s.gens, s.drawn, t', s.os⟩ → ExtN H H0 → Tabs T H0 → s.heap.objs.size ≤ hb.objs.size → H0 c' = some (CodeO c' (X.env.qual ++ "<lambda>")) →
      Q (.ref hb.objs.size) ⟨hb.push (PySem.W.kla_obj "<lambda>" (X.env.qual ++ "<lambda>") params body scope (cloFrom X.env.cells scope.names []) pm c' ctv), s.gens, s.drawn, t', s.os⟩ := fun H0 hb t' c' pm ctv J e0 t0 sz hc => by
    have nF : H0 hb.objs.size = none := J.hok.fresh (Nat.le_refl _)
    have st : ∀ b o, H0 b = some o → upd H0 hb.objs.size (LamO X params body scope hb.objs.size c') b = some o := fun b o e => by rw [upd_ne (ne_of_none e nF)]; exact e
    exact h _ c' _ _ (lamO_laid J) (e0.trans (ExtN.of st)) (t0.ext st) (I.hok.fresh sz) upd_same (st _ _ hc)
  refine PySem.W.kla_eval hdef ?_
  rcases hc : codeAmong pos ps.toList with _ | cv
  · refine PySem.W.kla_makeFunction (mg := X.mg) (c := c) (P := P) (ps := ps) cl I.ok.glob (I.mod.glob.keeps I.bk) hcode (TB.code.keeps I.bk) oP tri hc TB.gP bP fun c' ctv hb tk ex ge lt ⟨c2, oc, vs, t, e2, hoc, hd, hv⟩ htb => ?_
    cases e2
    have nC : H c' = none := I.hok.fresh ge
    have J := inv_table (t' := tk) (q := X.env.qual ++ "<lambda>") (more := #[rawInt pos.line, rawInt pos.col, .ref c']) (h' := hb) I hP ex htb ge ⟨oc, vs, t, hoc, hd, hv⟩
    generalize hH0 : upd (upd H P (.tbl (ps ++ #[rawInt pos.line, rawInt pos.col, .ref c']))) c' (CodeO c' (X.env.qual ++ "<lambda>")) = H0 at J
    have cC : H0 c' = some (CodeO c' (X.env.qual ++ "<lambda>")) := by rw [← hH0]; exact upd_same
    have cP : H0 P = some (.tbl (ps ++ #[rawInt pos.line, rawInt pos.col, .ref c'])) := by rw [← hH0, upd_ne (ne_of_none hP nC)]; exact upd_same
    have e0 : ExtN H H0 := fun b o e n => by
      have nb : b ≠ P := fun z => n ps (Option.some.inj (e.symm.trans (by rw [z]; exact hP)))
      rw [← hH0, upd_ne (ne_of_none e nC), upd_ne nb]
      exact e
    refine last H0 hb tk c' _ ctv J e0 (fun p hp => ?_) (Nat.le_trans ge (Nat.le_of_lt lt)) cC
    by_cases hb' : p.1 = P
    · rw [hu p hp hb', hb']
      have el : (ps ++ #[rawInt pos.line, rawInt pos.col, .ref c']).toList = ps.toList ++ [rawInt pos.line, rawInt pos.col, .ref c'] := by simp
      refine ⟨_, cP, by rw [el]; exact PySem.TriplesOk_snoc _ _ _ _ tri, fun p' cv hcv => ?_⟩
      rw [el] at hcv
      rcases among_app _ tri hcv with z | z
      · obtain ⟨c0, e1, e2⟩ := told p' cv z
        exact ⟨c0, e1, e0 _ _ e2 codeO_ne⟩
      · exact ⟨c', z, cC⟩
    · obtain ⟨ps', a1, a2, a3⟩ := hT p hp
      have kp : H0 p.1 = some (.tbl ps') := by rw [← hH0, upd_ne (ne_of_none a1 nC), upd_ne hb']; exact a1
      refine ⟨ps', kp, a2, fun p' cv hcv => ?_⟩
      obtain ⟨c0, e1, e2⟩ := a3 p' cv hcv
      exact ⟨c0, e1, e0 _ _ e2 codeO_ne⟩
  · obtain ⟨c', e, hco⟩ := told pos cv hc
    subst e
    refine PySem.W.kla_makeFunctionHit (mg := X.mg) (c := c) (P := P) (ps := ps) cl I.ok.glob (I.mod.glob.keeps I.bk) hcode (TB.code.keeps I.bk) oP tri hc bP fun ctv hb tk ex sz => ?_
    exact last H hb tk c' _ ctv (I.kept fun b o e => ex b o e) (ExtN.refl H) hT sz hco
/-- a() in a def that runs over X: the lambda of X in slot i -/
theorem lam_act {CXg : CXT} {Eg : XK} {Ng : List Str} {qg : Str} {sg : Scope} {g : Addr} {cdg : Value} {k i : Nat} {a : Str} {pn : List (Addr × Obj)} {xe : Value → Shared → Prop} {W : WX} {E : XK} {tb : TE} {p1 p2 : Pos} (I : Inv X pins σ H s) (L : LamS X.env.scope scope)
    (hbind : ∀ (pm ctv : Value) (c' : Addr), bindArgs (PySem.W.kla_fn "<lambda>" (X.env.qual ++ "<lambda>") params body scope (cloFrom X.env.cells scope.names []) pm (.ref c') ctv) ⟨[], []⟩ = pure [])
    (tk : Takes ((cxOf CXg X.prog X.w X.K X.mg X.base Ng qg sg g cdg X.A X.stack s H Eg).tr pn xe) W) (hW : ∀ cls d σ' H', σ'.length = Ng.length → E cls d H' → W cls d σ' H') (hr : Room (k + 1) (X.A.deeper (envOfC qg sg s.heap.objs.size g cdg)))
    (hbody : ∀ (A : Around) (outer : List Env) (s : Shared) (H : Hp) (f c' : Addr), Room k (A.deeper (lamEnv X scope s.heap.objs.size f c')) → PE (lamCx X A outer s H E scope f c') body tb)
    (hN : Ng[i]? = some a) (hv : Vis sg a) (hd : (a == ("__debug__" : Str)) = false) (hcd : (a == ("__classdict__" : Str)) = false) :
    PE ((cxOf CXg X.prog X.w X.K X.mg X.base Ng qg sg g cdg X.A X.stack s H Eg).tr pn xe) (.Call (.Name a p1) [] [] p2)
      (fun σZ HZ Q => ∃ f c' : Addr, σZ[i]? = some (some (.ref f)) ∧ HZ f = some (LamO X params body scope f c') ∧ HZ c' = some (CodeO c' (X.env.qual ++ "<lambda>")) ∧ tb σ HZ Q) := by
  refine ⟨fun pinsZ sZ σZ HZ Q IZ ⟨f, c', hs, hf, hc, ht⟩ => ?_⟩
  have var := (pe_var (pos := p1) (i := i) hN hv hd hcd).run pinsZ sZ σZ HZ (fun v H1 => v = .ref f ∧ H1 = HZ) IZ ⟨.ref f, hs, rfl, rfl⟩
  refine wpAny_Call_Name_kw (thn var fun u s1 ⟨v, H1, I1, r1, ev, eH⟩ => ?_)
  subst ev eH
  obtain rfl : u = Value.ref f := r1
  obtain ⟨pm, ctv, of1⟩ := lamO_at I1.hok hf
  refine PySem.W.callWith_F0 ⟨_, _, _, _, of1⟩ ?_
  have rec1 := codeO_at I1.hok hc
  have un : Un (frs X.stack) [] H H1 s.heap s1.heap := I1.base
  have code : codeAny (model X.prog X.w) (X.A.deeper (envOfC qg sg s.heap.objs.size g cdg)) (.call (.ref f) ⟨[], []⟩) (CR (L2.CX X.prog X.w) (envOfC qg sg s.heap.objs.size g cdg :: X.stack) X.prog X.w H1 s1 Q E) s1 := by
    refine PySem.W.kla_callFunE hr.depth of1 rfl L.co L.gen rfl rec1 ?_
    rw [hbind]
    refine wpAny_pure (wpAny_newFunctionEnv (fun y hy => (L.own y hy).2) (fun y hy => absurd hy (by simp)) (fun h₁ hns hsb => ⟨I1.nolimit.fresh _ hsb, ?_⟩) L.kind)
    have kp : ∀ b o, s1.heap.get? b = some o → h₁.get? b = some o := fun b o e => hsb.extBut b o (Nat.ne_of_lt (Heap.lt_size e)) (Heap.get?_push_of_some _ e)
    have J := lam_start2 (E := E) (f := f) (c' := c') (tk := s1.toks + ([] : List (Str × Value)).length) I L I1.env0 hr.hd un hns kp
    refine PySem.W.kla_codeExpr (wpAny_mono ((hbody _ _ s1 H1 f c' (hr.deeper _)).run [] _ _ H1 Q J ht) (fun v s' ⟨w', H', J', rv, q⟩ => ?_) fun e s' hq => hq)
    exact ⟨w', H', J'.os, J'.bare, J'.base, J'.hok, rv, q⟩
  let Z := (cxOf CXg X.prog X.w X.K X.mg X.base Ng qg sg g cdg X.A X.stack s H Eg).tr pn xe
  have px : Passes (L2.CX X.prog X.w) Z E := fun _ σ' _ _ e s' I c => tk e s' (XE.of_call I (fun cls d H' h => hW cls d σ' H' I.len h) c)
  refine wpAny_call (codeAny_mono code fun r s' hq => ?_)
  rcases r with e | fl
  · exact px pinsZ σZ H1 s1 e s' I1 hq
  · cases fl with
    | ret u => exact I1.after hq
    | next => exact False.elim hq
    | brk => exact False.elim hq
    | cont => exact False.elim hq
end
section
variable {X : Cx}
/-- [elt for target in iter], where the element's rule may use how the maker of the list stood when the block began -/
theorem pe_lcL {elt tg iter : Expr} {scope : Scope} {own : List (Str × Nat)} {pos : Pos} {wi : TI} {g : TG} {te : L2.St → TE} (hc : X.calm = true) (hN : X.N.Nodup) (hi : PI X tg iter wi) (ok : BlkOk X.N X.env.scope scope own)
    (hg : ∀ (s : Shared) (H : Hp) (C : Addr) (cl : List (Str × Addr)) (fp : List Addr), PG (X.blk s H scope (compEnvC scope cl C X.env) fp) tg g)
    (he : ∀ (pins : List (Addr × Obj)) (s : Shared) (σ : L2.St) (H : Hp) (C : Addr) (cl : List (Str × Addr)) (fp : List Addr), L2.Inv X pins σ H s → (∀ b ∈ fp, FpOk X pins H b) → PE (X.blk s H scope (compEnvC scope cl C X.env) fp) elt (te σ))
    (hs : ∀ x, foldedSetIterable iter X.env x = pure x := by intro _; rfl) :
    PE X (.ListComp elt [⟨tg, iter, [], 0⟩] scope pos) (fun σ H Q => tLc wi g tYes (te σ) (own.map (·.2)) σ H Q) := by
  refine ⟨fun pins s σ H Q I h => ?_⟩
  rw [eval_ListComp]
  have free : ∀ y ∈ scope.names, y.2 = .free → ∃ c, X.env.cells.lookup y.1 = some c := fun y hy e => (ok.free y hy e).elim (fun k => I.ok.has _ (.inl k)) fun k => I.ok.has _ (.inr k)
  refine wpAny_comprehension_free (use := none) rfl hs (closure_ok free) ok.kind (fun y hy e => by rw [ok.uniq y hy, e]) (thn (hi.run pins s σ H _ I h) fun xv s1 hx => thn hx fun itv s2 ⟨it, fp, tn, J, H2, e, I2, T, st2, f2, q⟩ => ?_)
  subst e
  refine wpAny_newObj_type (newEnv_comp ?_) (by show 0 ≤ sizeLine; decide)
  -- the new list at D
  obtain ⟨D, hD⟩ : ∃ D, s2.heap.objs.size = D := ⟨_, rfl⟩
  have nD : H2 D = none := I2.hok.fresh (Nat.le_of_eq hD)
  obtain ⟨W, ⟨m0, w0⟩, turn⟩ := q D nD
  rw [hD]
  generalize hs3 : ({ s2 with heap := s2.heap.push { cls := .type "list", data := .seq ([] : List Value).toArray } } : Shared) = s3
  have k23 : ∀ b o, s2.heap.get? b = some o → s3.heap.get? b = some o := fun b o e => by
    rw [← hs3]
    exact Heap.get?_push_of_some _ e
  have J3 : L2.Inv X pins σ (upd H2 D (.lst [])) s3 := by
    rw [← hs3]
    refine I2.laid (t' := s2.toks) (fun b o e => Heap.get?_push_of_some _ e) (Nat.le_of_eq hD) ⟨Nat.zero_le _, [], 0, .nil, ?_⟩
    rw [← hD]
    exact Heap.get?_push_size _ rfl
  obtain ⟨H3, hH3⟩ : ∃ H3, upd H2 D (.lst []) = H3 := ⟨_, rfl⟩
  rw [hH3] at J3 w0
  have lt2 : ∀ b ∈ fp, b < s2.heap.objs.size := fun b hb => by
    obtain ⟨o, e, _⟩ := T.obj _ _ st2 b hb
    exact Heap.lt_size e
  have f3 : ∀ b ∈ fp, FpOk X pins H3 b ∧ b < s3.heap.objs.size := fun b hb => by
    obtain ⟨o, e, _⟩ := T.obj _ _ st2 b hb
    refine ⟨⟨?_, (f2 b hb).2⟩, Heap.lt_size (k23 _ _ e)⟩
    rw [← hH3, upd_ne (Nat.ne_of_lt (by rw [← hD]; exact lt2 b hb))]
    exact (f2 b hb).1
  have st3 : tn 0 s3.heap := T.keep _ _ _ st2 fun b _ o e => k23 b o e
  have B4 := block_start J3 ok hN f3
  have pg := hg s3 H3 s3.heap.objs.size (cellsFrom (s3.heap.objs.size + 1) scope.names (cloFrom X.env.cells scope.names [])) fp
  have pe := he pins s3 σ H3 s3.heap.objs.size (cellsFrom (s3.heap.objs.size + 1) scope.names (cloFrom X.env.cells scope.names [])) fp J3 fun b hb => (f3 b hb).1
  generalize hcl : cellsFrom (s3.heap.objs.size + 1) scope.names (cloFrom X.env.cells scope.names []) = cl at B4 pg pe
  generalize hbk : pushCells (s3.heap.push { cls := .type "dict", data := .dict #[] }) scope.names = hB at B4
  have k34 : ∀ b o, s3.heap.get? b = some o → hB.get? b = some o := fun b o e => by
    rw [← hbk]
    exact pushCells_keeps _ _ _ _ (Heap.get?_push_of_some _ e)
  have goal : codeAny (model X.prog X.w) X.A (.compStart (.ListComp elt [⟨tg, iter, [], 0⟩] scope pos) 0 (.ref it) (.ref D) (compEnvC scope cl s3.heap.objs.size X.env))
      (compPost (model X.prog X.w) X.A X.xe none (EP X pins σ Q) (.ref D) s3.heap.objs.size) { s3 with heap := hB } := by
    have st4 : tn 0 hB := T.keep _ _ _ st3 fun b _ o e => k34 b o e
    have nfp : ∀ b ∈ fp, H3 b = none := fun b hb => (f3 b hb).1.1
    generalize hce : compEnvC scope cl s3.heap.objs.size X.env = ce at B4 pg pe ⊢
    have cL : ce.locals = s3.heap.objs.size := by rw [← hce]; rfl
    have fpY : ∀ {σ' : L2.St} {H' : Hp} {s' : Shared}, L2.Inv (X.blk s3 H3 scope ce fp) [] σ' H' s' → (∀ b ∈ fp, H' b = none) → ∀ b ∈ fp, FpOk (X.blk s3 H3 scope ce fp) [] H' b := fun J hn b hb =>
      ⟨hn b hb, (J.ok.exf b hb).1, J.ok.exfs b hb, .inl hb, fun x c e => (J.ok.exf b hb).2 x c e, fun p hp => (nomatch (show p ∈ ([] : List (Addr × Obj)) from by simpa using hp))⟩
    have loop : codeAny (model X.prog X.w) X.A (.compLoop (.ListComp elt [⟨tg, iter, [], 0⟩] scope pos) 0 (.ref it) (.ref D) ce) (compPost (model X.prog X.w) X.A X.xe none (EP X pins σ Q) (.ref D) s3.heap.objs.size) { s3 with heap := hB } := by
      refine compLoop_any (fun n s' => ∃ i H', L2.Inv (X.blk s3 H3 scope ce fp) [] (wipe σ (own.map (·.2))) H' s' ∧ tn i s'.heap ∧ (∀ b ∈ fp, H' b = none) ∧ W i n H') ?_ m0 ⟨0, H3, B4, st4, nfp, w0⟩
      rintro n s5 ⟨i, H5, J5, st5, n5, w5⟩
      rcases turn i n H5 w5 with ⟨stop, qq⟩ | ⟨go, Nx, hNx, step⟩
      · have fin := T.done (X.blk s3 H3 scope ce fp) rfl rfl rfl hc i [] s5 _ H5 (fun _ _ => False) J5 (fpY J5 n5) st5 stop
        refine thnF fin fun r s6 ⟨hr, J6⟩ => ?_
        subst hr
        have back : L2.Inv X pins σ H5 s6 := J3.call' (ch := fp) J6.os J6.base J6.hok J6.bare fun b hb => by
          obtain ⟨_, a1, _, a2, a3, a4⟩ := (f3 b hb).1
          exact ⟨a2, a1, a3, a4⟩
        obtain ⟨m, hn, _⟩ := J6.loc
        have hn : s6.heap.Ns s3.heap.objs.size m := by rw [← cL]; exact hn
        have nC : H5 s3.heap.objs.size = none := by
          have z : H5 ce.locals = none := J6.free
          rw [cL] at z
          exact z
        obtain ⟨f0, f1, f2', f3', f4, f5⟩ := J3.fpOk (Nat.le_refl _) nC
        refine ⟨m, hn, fun h'' sb => ?_⟩
        exact ⟨.ref D, H5, back.turned (t' := s6.toks) (fun b o hb e => (sb.2 b hb).trans e) f0 f1 f3' f4 f5, rfl, qq⟩
      · have nxt := T.item (X.blk s3 H3 scope ce fp) rfl rfl rfl hc i [] s5 _ H5 (fun _ _ => False) J5 (fpY J5 n5) st5 go
        refine thnF nxt fun r s6 ⟨u, hr, h6⟩ => ?_
        subst hr
        refine thnF h6 fun _ s7 ⟨x, H7, J7, r7, y7, st7, n7⟩ => ?_
        have P7 := J7.pinned (fpY J7 n7) (T.obj _ _ st7)
        refine thnF (pg.run _ s7 _ H7 x u _ P7 r7 (step x H7 y7)) fun _ s8 ⟨σ8, H8, J8, hw8, q8⟩ => wpAny_tests_nil ?_
        simp only [if_true] at q8 ⊢
        have q8 : te σ σ8 H8 _ := q8
        refine thnF (pe.run _ s8 σ8 H8 _ J8 q8) fun z s10 ⟨yv, H10, J10, r10, acc, hD10, hz10, nx⟩ => ?_
        refine app_ok (X := X.blk s3 H3 scope ce fp) J10 hD10 hz10 r10 fun s11 J11 => ?_
        obtain ⟨m', hm, w'⟩ := hNx _ nx
        have pin' : ∀ b ∈ fp, ∀ o, s7.heap.get? b = some o → s11.heap.get? b = some o ∧ upd H10 D (.lst (acc ++ [yv])) b = none := fun b hb o e => by
          obtain ⟨z1, z2, _⟩ := J11.pin (b, o) (List.mem_append_right _ (List.mem_append_right _ (mem_pinsAt hb e)))
          exact ⟨z1, z2⟩
        have hl : (wipe σ (own.map (·.2))).length = σ8.length := by rw [← hw8, wipe_length]
        refine ⟨m', hm, i + 1, _, (J11.unpinned (pins := [])).weak hl (fun j v e => ?_), T.keep _ _ _ st7 fun b hb o e => (pin' b hb o e).1, fun b hb => ?_, w'⟩
        · rw [← hw8] at e
          exact (wipe_some e).1
        · obtain ⟨o, e, _⟩ := T.obj _ _ st7 b hb
          exact (pin' b hb o e).2
    exact codeAny_compStart_list loop (T.self X.A 0 _ _ _ st4 loop)
  exact goal
end
/-- v is a lambda of X whose body reads as t: with what it lets out (E), at the maker's slots -/
def LamAt (X : Cx) (k : Nat) (H : Hp) (v : V) (t : XK → TE) : Prop := ∃ (params : Arguments) (body : Expr) (scope : Scope) (f c' : Addr), v = .ref f ∧ H f = some (LamO X params body scope f c') ∧ H c' = some (CodeO c' (X.env.qual ++ "<lambda>")) ∧ LamS X.env.scope scope ∧
  (∀ (pm ctv : Value) (c' : Addr), bindArgs (PySem.W.kla_fn "<lambda>" (X.env.qual ++ "<lambda>") params body scope (cloFrom X.env.cells scope.names []) pm (.ref c') ctv) ⟨[], []⟩ = pure []) ∧
  ∀ (A : Around) (outer : List Env) (s : Shared) (H : Hp) (E : XK) (f c' : Addr), Room k (A.deeper (lamEnv X scope s.heap.objs.size f c')) → PE (lamCx X A outer s H E scope f c') body (t E)
theorem LamAt.ext {X : Cx} {k : Nat} {H H' : Hp} {v : V} {t : XK → TE} (e : ExtN H H') (h : LamAt X k H v t) : LamAt X k H' v t := by
  obtain ⟨p, b, sc, f, c', rfl, h1, h2, h3, h4, h5⟩ := h
  exact ⟨p, b, sc, f, c', rfl, e _ _ h1 lamO_ne, e _ _ h2 codeO_ne, h3, h4, h5⟩
/-- lambda: body -/
def tLamV (X : Cx) (k : Nat) (T : List (Addr × Str)) (t : XK → TE) : TE := fun _ H Q => Tabs T H ∧ ∀ v H1, ExtN H H1 → Tabs T H1 → LamAt X k H1 v t → Q v H1
theorem pe_lamV {X : Cx} {k : Nat} {T : List (Addr × Str)} {c P : Addr} {params : Arguments} {body : Expr} {scope : Scope} {t : XK → TE} {lpos : Pos} (TB : TabB X.base X.mg c P) (hcode : X.env.code = .ref c) (hmT : (P, X.env.qual ++ "<lambda>") ∈ T) (hu : ∀ p ∈ T, p.1 = P → p.2 = X.env.qual ++ "<lambda>")
    (L : LamS X.env.scope scope) (hdef : defaultsOf params X.env = ([], []))
    (hbind : ∀ (pm ctv : Value) (c' : Addr), bindArgs (PySem.W.kla_fn "<lambda>" (X.env.qual ++ "<lambda>") params body scope (cloFrom X.env.cells scope.names []) pm (.ref c') ctv) ⟨[], []⟩ = pure [])
    (hbody : ∀ (A : Around) (outer : List Env) (s : Shared) (H : Hp) (E : XK) (f c' : Addr), Room k (A.deeper (lamEnv X scope s.heap.objs.size f c')) → PE (lamCx X A outer s H E scope f c') body (t E)) :
    PE X (.Lambda params body scope lpos) (tLamV X k T t) := by
  refine ⟨fun pins s σ H Q I ⟨hT, h⟩ => ?_⟩
  refine lam_new I TB hcode hmT hu hT hdef (L.has I.ok) fun f c' H1 s' I1 eN T1 _ hf hc => ?_
  exact ⟨.ref f, H1, I1, rfl, h _ _ eN T1 ⟨params, body, scope, f, c', rfl, hf, hc, L, hbind, hbody⟩⟩
/-- a def that calls what it gets, within a try: TT is what it makes of that call's reading -/
def MetOk (P : Program) (w : World) (K : PySem.W.Frag) (mg : Str → Option Value) (base : Heap) (k : Nat) (gq : Str) (st : Stmt) (g : Addr) (N : List Str) (a : Str) (TT : (XK → Hp → VK → Prop) → Hp → VK → Prop) : Prop :=
  ∀ (cdv : Value) (A : Around) (outer : List Env) (s : Shared) (H : Hp) (Q : VK) (v : V) (Hold : Hp → Prop) (tl : XK → Hp → VK → Prop),
    Room k (A.deeper (envOfC gq (defScope st) s.heap.objs.size g cdv)) → (A.deeper (envOfC gq (defScope st) s.heap.objs.size g cdv)).guards = some [] →
    (∀ (W : WX) (pn : List (Addr × Obj)) (xe : Value → Shared → Prop) (E : XK) (p1 p2 : Pos), Takes ((cxOf CX0 P w K mg base N gq (defScope st) g cdv A outer s H E0).nox.tr pn xe) W → (∀ cls d σ' H', σ'.length = N.length → E cls d H' → W cls d σ' H') →
      PE ((cxOf CX0 P w K mg base N gq (defScope st) g cdv A outer s H E0).nox.tr pn xe) (.Call (.Name a p1) [] [] p2) (fun σZ HZ Q => σZ[0]? = some (some v) ∧ Hold HZ ∧ tl E HZ Q)) →
    Hold H → TT tl H Q →
    ∃ t, PSs (cxOf CX0 P w K mg base N gq (defScope st) g cdv A outer s H E0).nox (defBody st) t ∧ t { nx := fun _ H' => Q .non H', rt := Q } (L2.start N [v]) H
section
variable {X : Cx} {pins : List (Addr × Obj)} {σ : L2.St} {H : Hp} {s : Shared}
theorem met_run {g gq a : Str} {st : Stmt} {ga : Addr} {fd : FuncData} {N : List Str} {k : Nat} {TT : (XK → Hp → VK → Prop) → Hp → VK → Prop} {v : V} {t : XK → TE} {Q : VK} (J : L2.Inv X pins σ H s) (F : L2.Fun X.K g gq st ga fd) (S : FnScope N [a] (defScope st)) (hN0 : N[0]? = some a) (hv : Vis (defScope st) a)
    (M : MetOk X.prog X.w X.K X.mg X.base (k + 1) gq st ga N a TT) (hb : L2.Binds X.K fd [a] []) (hr : Room (k + 2) X.A) (hgd : X.A.guards = some []) (hda : (a == ("__debug__" : Str)) = false) (hca : (a == ("__classdict__" : Str)) = false) (L : LamAt X k H v t) (h : TT (fun E H' Q' => t E σ H' Q') H Q) :
    ∃ f, v = .ref f ∧ codeAny (model X.prog X.w) X.A (.call (.ref ga) ⟨[.ref f], []⟩) (CR CX0 X.stack X.prog X.w H s Q E0) s := by
  obtain ⟨params, body, scope, f, c', rfl, hf, hc, LS, hbd, hbody⟩ := L
  obtain ⟨oc, od, kV, doc, pm, an, cdv, ct, osl, rfl, lk, hcd⟩ := F.ex
  refine ⟨f, rfl, ?_⟩
  refine run_ofS (N := N) (ps := [a]) (us := [.ref f]) (vs := [.ref f]) lk hcd S hr J.env0 (by simpa using hb s [.ref f] J.kIn rfl) (.cons rfl .nil) rfl fun hr' => ?_
  have act : ∀ (W : WX) (pn : List (Addr × Obj)) (xe : Value → Shared → Prop) (E : XK) (p1 p2 : Pos), Takes ((cxOf CX0 X.prog X.w X.K X.mg X.base N gq (defScope st) ga cdv X.A X.stack s H E0).nox.tr pn xe) W → (∀ cls d σ' H', σ'.length = N.length → E cls d H' → W cls d σ' H') →
      PE ((cxOf CX0 X.prog X.w X.K X.mg X.base N gq (defScope st) ga cdv X.A X.stack s H E0).nox.tr pn xe) (.Call (.Name a p1) [] [] p2) (fun σZ HZ Q => σZ[0]? = some (some (.ref f)) ∧ (HZ f = some (LamO X params body scope f c') ∧ HZ c' = some (CodeO c' (X.env.qual ++ "<lambda>"))) ∧ t E σ HZ Q) := fun W pn xe E p1 p2 tk hW => by
    have z := lam_act (X := X) (CXg := CX0) (Eg := E0) (params := params) (body := body) (pn := pn) (xe := xe) (W := W) (E := E) (tb := t E) (p1 := p1) (p2 := p2) (i := 0) (a := a) (Ng := N) (cdg := cdv) (g := ga) (qg := gq) (sg := defScope st) J LS hbd tk hW hr' (fun A outer s H f c' hr2 => hbody A outer s H E f c' hr2) hN0 hv hda hca
    exact ⟨fun pinsZ sZ σZ HZ Q IZ ⟨h1, ⟨h2, h3⟩, h4⟩ => z.run pinsZ sZ σZ HZ Q IZ ⟨f, c', h1, h2, h3, h4⟩⟩
  obtain ⟨t', ht', hq'⟩ := M cdv X.A X.stack s H Q (.ref f) (fun HZ => HZ f = some (LamO X params body scope f c') ∧ HZ c' = some (CodeO c' (X.env.qual ++ "<lambda>"))) (fun E H' Q' => t E σ H' Q') hr' hgd act ⟨hf, hc⟩ h
  exact ⟨t', ht'.nox, hq'⟩
/-- what a call of such a def asks: X is the lambda's maker, standing at σ0 -/
def tMetX (X : Cx) (k : Nat) (TT : (XK → Hp → VK → Prop) → Hp → VK → Prop) (σ0 : L2.St) (ta : TA) : TE := fun σ H Q => ta σ H fun vs H1 => ∃ (v : V) (t : XK → TE), vs = [v] ∧ LamAt X k H1 v t ∧ TT (fun E H' Q' => t E σ0 H' Q') H1 Q
/-- g(arg) where the lambda was made -/
theorem pe_metX {g gq a : Str} {st : Stmt} {ga : Addr} {fd : FuncData} {N : List Str} {k : Nat} {TT : (XK → Hp → VK → Prop) → Hp → VK → Prop} {arg : Expr} {ta : TA} {p pos : Pos} (F : L2.Fun X.K g gq st ga fd) (S : FnScope N [a] (defScope st)) (hN0 : N[0]? = some a) (hv : Vis (defScope st) a)
    (M : MetOk X.prog X.w X.K X.mg X.base (k + 1) gq st ga N a TT) (hb : L2.Binds X.K fd [a] []) (hg : Gl X g) (hm : X.mg g = some (.ref ga)) (hr : Room (k + 2) X.A) (hgd : X.A.guards = some []) (ha : PA X [arg] ta)
    (hdb : (g == ("__debug__" : Str)) = false := by decide) (hda : (a == ("__debug__" : Str)) = false := by decide) (hca : (a == ("__classdict__" : Str)) = false := by decide)
    (he : starEach (arg :: []) X.env = (false, eval arg X.env) :: starEach [] X.env := by rfl) (hpl : (backTo pos (starEach [] X.env)).any (·.1) = false := by rfl) :
    PE X (.Call (.Name g p) [arg] [] pos) (fun σ H Q => tMetX X k TT σ ta σ H Q) := by
  refine ⟨fun pins s σ H Q I h => ?_⟩
  refine wpAny_Call_Name_kw (ld_glob I hg hm ?_ hdb)
  refine PySem.W.callWith_K (h₀ := X.base) I.ok.mod.kin F.kp (thn (ha.run pos pins s σ H _ I h) fun us s1 ⟨vs, H1, I1, r1, v, t, ev, L, q⟩ => ⟨I1.kIn, ?_⟩) he hpl
  obtain ⟨f, rfl, rc⟩ := met_run I1 F S hN0 hv M hb hr hgd hda hca L q
  subst ev
  rw [Vals.ref1 r1]
  refine wpAny_call (codeAny_mono rc fun r s2 hq => ?_)
  rcases r with e | fl
  · exact (show False from hq).elim
  · cases fl with
    | ret u => exact I1.after hq
    | next => exact False.elim hq
    | brk => exact False.elim hq
    | cont => exact False.elim hq
/-- g(arg) in a comprehension of the maker -/
theorem pe_metB {g gq a : Str} {st : Stmt} {ga : Addr} {fd : FuncData} {N : List Str} {k : Nat} {TT : (XK → Hp → VK → Prop) → Hp → VK → Prop} {arg : Expr} {ta : TA} {p pos : Pos} {H3 : Hp} {s3 : Shared} {scope : Scope} {ce : Env} {fp : List Addr} (J3 : L2.Inv X pins σ H3 s3) (hfp : ∀ b ∈ fp, FpOk X pins H3 b)
    (F : L2.Fun X.K g gq st ga fd) (S : FnScope N [a] (defScope st)) (hN0 : N[0]? = some a) (hv : Vis (defScope st) a)
    (M : MetOk X.prog X.w X.K X.mg X.base (k + 1) gq st ga N a TT) (hb : L2.Binds X.K fd [a] []) (hg : Gl (X.blk s3 H3 scope ce fp) g) (hm : X.mg g = some (.ref ga)) (hr : Room (k + 2) X.A) (hgd : X.A.guards = some []) (ha : PA (X.blk s3 H3 scope ce fp) [arg] ta)
    (hdb : (g == ("__debug__" : Str)) = false := by decide) (hda : (a == ("__debug__" : Str)) = false := by decide) (hca : (a == ("__classdict__" : Str)) = false := by decide)
    (he : starEach (arg :: []) (X.blk s3 H3 scope ce fp).env = (false, eval arg (X.blk s3 H3 scope ce fp).env) :: starEach [] (X.blk s3 H3 scope ce fp).env := by rfl) (hpl : (backTo pos (starEach [] (X.blk s3 H3 scope ce fp).env)).any (·.1) = false := by rfl) :
    PE (X.blk s3 H3 scope ce fp) (.Call (.Name g p) [arg] [] pos) (tMetX X k TT σ ta) := by
  refine ⟨fun pinsY sY σY HY Q I h => ?_⟩
  refine wpAny_Call_Name_kw (ld_glob I hg hm ?_ hdb)
  refine PySem.W.callWith_K (h₀ := X.base) J3.ok.mod.kin F.kp (thn (ha.run pos pinsY sY σY HY _ I h) fun us s1 ⟨vs, H1, I1, r1, v, t, ev, L, q⟩ => ⟨I1.kIn, ?_⟩) he hpl
  have J : L2.Inv X pins σ H1 s1 := J3.call' (ch := fp) I1.os I1.base I1.hok I1.bare fun b hb => by
    obtain ⟨_, a1, _, a2, a3, a4⟩ := hfp b hb
    exact ⟨a2, a1, a3, a4⟩
  obtain ⟨f, rfl, rc⟩ := met_run J F S hN0 hv M hb hr hgd hda hca L q
  subst ev
  rw [Vals.ref1 r1]
  refine wpAny_call (codeAny_mono rc fun r s2 hq => ?_)
  rcases r with e | fl
  · exact (show False from hq).elim
  · cases fl with
    | ret u => exact I1.after hq
    | next => exact False.elim hq
    | brk => exact False.elim hq
    | cont => exact False.elim hq
end
/-- a() as a statement within the try of such a def -/
theorem ps_act {Z : Cx} {n : Nat} {a : Str} {v : V} {Hold : Hp → Prop} {tl : XK → Hp → VK → Prop} {W : WX} {p1 p2 p3 : Pos} (act : ∀ E : XK, (∀ cls d σ' H', σ'.length = n → E cls d H' → W cls d σ' H') → PE Z (.Call (.Name a p1) [] [] p2) (fun σZ HZ Q => σZ[0]? = some (some v) ∧ Hold HZ ∧ tl E HZ Q)) :
    PS Z (.Expr (.Call (.Name a p1) [] [] p2) p3) (fun D σ H => ∃ E : XK, (∀ cls d σ' H', σ'.length = n → E cls d H' → W cls d σ' H') ∧ σ[0]? = some (some v) ∧ Hold H ∧ tl E H (fun _ H' => D.nx σ H')) :=
  ⟨fun pins s σ H D I ⟨E, hW, h1, h2, h3⟩ => (ps_expr (act E hW)).run pins s σ H D I ⟨h1, h2, h3⟩⟩
end Tc

set_option maxHeartbeats 4000000
/-! The end of a law that writes lists as texts (guards known) and makes lambdas (tables of code objects). -/
namespace Tc
open PySem PySem.Spec PyProof.Rows L2 LamX
/-- a def whose code object is known -/
structure FunC (K : PySem.W.Frag) (x qual : Str) (st : Stmt) (f : Addr) (fd : FuncData) (c : Addr) : Prop where
  ex : ∃ (oc : Value) (od : Option Addr) (kV doc pm : Value) (an : Option Addr) (ct : Value) (osl : Array (Option Value)),
    fd = PySem.W.fnOf x qual (defArgs st) (defBody st) (defScope st) .none kV doc pm an (.ref c) ct ∧ K.lookup f = some ⟨oc, od, .func fd, osl⟩ ∧ PySem.W.codeIn K (.ref c) qual = true
section
variable {P : Program} {w : World} {K : PySem.W.Frag} {mg : Str → Option Value} {base : Heap}
/-- a def by its body, which makes lambdas -/
theorem okL {x qual : Str} {st : Stmt} {f c : Addr} {fd : FuncData} {N ps : List Str} {k : Nat} {sp : Sp} (F : FunC K x qual st f fd c) (S : FnScope N ps (defScope st)) (ln : ∀ vs H Q E, sp vs H Q E → vs.length = ps.length)
    (hb0 : ∀ (B : Around) (os : List Env) (s : Shared) (H : Hp) (vs : List V) (Q : VK) (E : XK), Room k (B.deeper (envOfC qual (defScope st) s.heap.objs.size f (.ref c))) → (B.deeper (envOfC qual (defScope st) s.heap.objs.size f (.ref c))).guards = some [] → sp vs H Q E →
      ∃ t, PSs (cxOf CX0 P w K mg base N qual (defScope st) f (.ref c) B os s H E).nox (defBody st) t ∧ t { nx := fun _ H' => Q .non H', rt := Q } (start N vs) H) : FnG P w K mg base CX0 (k + 1) f fd ps sp := by
  obtain ⟨oc, od, kV, doc, pm, an, ct, osl, rfl, lk, hcd⟩ := F.ex
  refine ⟨ln, fun B hg os s H as us vs Q E hr e0 hb r hs => ?_⟩
  have bk : ∀ b o, base.get? b = some o → s.heap.get? b = some o := fun b o e => (e0.bs b o e).1
  refine run_ofS lk hcd S hr e0 hb r (ln _ _ _ _ hs) fun hr' => ?_
  obtain ⟨t, ht, hq⟩ := hb0 B os s H vs Q E hr' hg hs
  exact ⟨t, ht.nox, hq⟩
end
/-- the heap of a call of the law: nothing is tracked but the script (locked) and the tables (empty) -/
def OnlyT (ts : List Addr) (H : Hp) : Prop := ∀ b, H b = none ∨ (b ∈ ts ∧ H b = some (.tbl #[])) ∨ ∃ o xs, H b = some (.frz o (.lst xs))
/-- the law's own call: cs, the code objects that make lambdas and their tables -/
theorem law_goesT {P : Program} {w : World} {K : PySem.W.Frag} {mg mb : Str → Option Value} {k : Nat} {fa a : Addr} {cs : List (Addr × Addr)} {fd : FuncData} {x : Str} {sp : Sp} {s0 : Shared} {us : List Value} {ns : List Int}
    (KX : K.In s0.heap) (hn : s0.heap.Ns mainGlobals mg) (hb : s0.heap.Ns builtinsNs mb) (hm : ∀ y : Str, y ≠ "__name__" → mb y = bootBuiltins y) (nl : s0.heap.NoLimit) (gn : s0.gens = #[])
    (hT : ∀ p ∈ cs, s0.heap.get? p.2 = some { cls := .none, data := .fields #[] }) (nT : ∀ p ∈ cs, K.lookup p.2 = none) (C : ∀ p ∈ cs, PySem.W.CodeHd s0.heap p.1 p.2)
    (hbm : ∃ (bm : Addr) (ob : Obj), mg "__builtins__" = some (.ref bm) ∧ bm ≠ builtinsNs ∧ s0.heap.get? bm = some ob ∧ ob.cls = .type "module" ∧ ob.dict = some builtinsNs ∧ ob.data = .plain)
    (ha : s0.heap.get? a = some { cls := .type "list", data := .seq us.toArray }) (hi : IntsAre us ns) (hl : ns.length ≤ sizeLine) (hr : Room k callerA)
    (F : ∀ b : Heap, K.In b → b.Ns mainGlobals mg → (∀ p ∈ cs, TabB b mg p.1 p.2) → FnG P w K mg b CX0 k fa fd [x] sp) (bi : ∀ (s : Shared) (u : Value), BindsTo s fd ⟨[u], []⟩ [(x, u)])
    (hs : ∀ H : Hp, (∀ p ∈ cs, H p.2 = some (.tbl #[])) → SqL K H a (ns.map V.int) → sp [.ref a] H (fun v _ => v = .bl true) fun _ _ _ => False) :
    codeAny (model P w) callerA (.call (.ref fa) ⟨[.ref a], []⟩) (fun r s' => r = .ok (.ret (.bool true)) ∧ OldK s0.heap s'.heap ∧ s'.os = s0.os ∧ AllBare s'.gens) s0 := by
  have rv := vals_ints hi
  have lv := hi.length
  obtain ⟨ts, hts⟩ : ∃ ts, ts = cs.map (·.2) := ⟨_, rfl⟩
  have tab : ∀ b ∈ ts, s0.heap.get? b = some { cls := .none, data := .fields #[] } := by
    intro b z
    rw [hts] at z
    obtain ⟨p, hp, rfl⟩ := List.mem_map.mp z
    exact hT p hp
  have tab_in : ∀ p ∈ cs, p.2 ∈ ts := fun p hp => by
    rw [hts]
    exact List.mem_map.mpr ⟨p, hp, rfl⟩
  have aT : a ∉ ts := fun z => by
    have y := tab a z
    rw [ha] at y
    exact absurd (congrArg Obj.data (Option.some.inj y)) (by simp)
  have main : ∀ H : Hp, OnlyT ts H → (∀ p ∈ cs, H p.2 = some (.tbl #[])) → SqL K H a (ns.map V.int) → HOk P w H s0.heap → (∀ b, H b ≠ none → b = a ∨ b ∈ ts) → (H a ≠ none → K.lookup a = none) →
      codeAny (model P w) callerA (.call (.ref fa) ⟨[.ref a], []⟩) (fun r s' => r = .ok (.ret (.bool true)) ∧ OldK s0.heap s'.heap ∧ s'.os = s0.os ∧ AllBare s'.gens) s0 := by
    intro H only hH sq ok one nk
    -- what is neither the script nor a table is not tracked
    have free : ∀ {b : Addr} {o : Obj}, s0.heap.get? b = some o → (b = a → False) → (b ∈ ts → False) → H b = none := by
      intro b o _ n1 n2
      rcases hh : H b with _ | u
      · rfl
      · rcases one b (by rw [hh]; simp) with z | z
        · exact (n1 z).elim
        · exact (n2 z).elim
    have notS : ∀ {b : Addr} {o : Obj}, s0.heap.get? b = some o → (∀ vs n, o.data ≠ .seq vs n) → o.data ≠ .fields #[] → H b = none := by
      intro b o e d1 d2
      refine free e (fun z => ?_) fun z => ?_
      · rw [z, ha] at e
        cases e
        exact d1 _ _ rfl
      · rw [tab b z] at e
        cases e
        exact d2 rfl
    have stay : ∀ {b : Addr} {m : Str → Option Value}, s0.heap.Ns b m → (hidT s0.heap H).Ns b m := by
      rintro b m ⟨o, es, ep, e, d, r⟩
      exact ⟨o, es, ep, hidT_get e (notS e (fun vs n z => by rw [d] at z; cases z) fun z => by rw [d] at z; cases z), d, r⟩
    have inK : K.In (hidT s0.heap H) := by
      intro b o e
      refine hidT_get (KX b o e) ?_
      rcases hh : H b with _ | u
      · rfl
      · rcases one b (by rw [hh]; simp) with z | z
        · subst z
          rw [nk (by rw [hh]; simp)] at e
          cases e
        · rw [hts] at z
          obtain ⟨p, hp, rfl⟩ := List.mem_map.mp z
          rw [nT p hp] at e
          cases e
    obtain ⟨mc, l1, l2⟩ := nl
    have md : Mod K mg (hidT s0.heap H) := ⟨inK, stay hn, ⟨mb, stay hb, hm⟩, mc, stay l1, l2⟩
    have en : Env0 P w K mg (hidT s0.heap H) callerA [] s0 H := ⟨rfl, md, fun b o e => of_hidT e, Nat.le_of_eq (hidT_size _ _), trivial, fun b z => (List.not_mem_nil z).elim, ok, .of_eq gn⟩
    have TB : ∀ p ∈ cs, TabB (hidT s0.heap H) mg p.1 p.2 := by
      intro p hp
      have tp := hT p hp
      obtain ⟨o, vs, file, tf, flags, tg, inF, text, tt, e1, r1, r2, r3, r4⟩ := C p hp
      obtain ⟨bm, ob, b1, b2, b3, b4, b5, b6⟩ := hbm
      have ng : bm ≠ mainGlobals := by
        rintro rfl
        obtain ⟨o, es, ep, e, d, _⟩ := hn
        rw [e] at b3
        cases b3
        rw [d] at b6
        cases b6
      have np : bm ≠ p.2 := by
        rintro rfl
        rw [tp] at b3
        cases b3
        cases b6
      refine ⟨⟨o, vs, file, tf, flags, tg, inF, text, tt, hidT_get e1 (notS e1 (fun _ _ z => by rw [r2] at z; cases z) fun z => ?_), r1, r2, r3, r4⟩, ⟨bm, ob, b1, b2, ng, np, hidT_get b3 (notS b3 (fun _ _ z => by rw [b6] at z; cases z) fun z => by rw [b6] at z; cases z), b4, b5, b6⟩, ?_⟩
      · rw [r2] at z
        cases z
        simp at r3
      · intro z
        obtain ⟨o, es, ep, e, d, _⟩ := hn
        rw [z, tp] at e
        cases e
        cases d
    refine codeAny_mono ((F _ inK (stay hn) TB).goes callerA rfl [] s0 H ⟨[.ref a], []⟩ [.ref a] [.ref a] _ _ hr en (bi s0 (.ref a)) (.cons rfl .nil) (hs H hH sq)) ?_
    intro res s' h
    rcases res with er | fl
    · exact h.elim
    rcases fl with _ | _ | _ | u
    · exact h.elim
    · exact h.elim
    · exact h.elim
    obtain ⟨v, H', os, bare, un, ok', r', q⟩ := h
    obtain rfl : v = .bl true := q
    obtain rfl : u = Value.bool true := r'
    have old : ∀ b o, b ∉ ts → s0.heap.get? b = some o → s'.heap.get? b = some o := by
      intro b o nb e
      rcases hh : H b with _ | u
      · exact un.keep b o e hh (fun z => (List.not_mem_nil z).elim) (by simp)
      · rcases only b with z | ⟨z, _⟩ | ⟨ob, xs, z⟩
        · rw [hh] at z
          cases z
        · exact (nb z).elim
        · obtain ⟨e1, _⟩ := ok b _ z
          obtain ⟨e2, _⟩ := ok' b _ (un.frzs b ob _ z)
          rw [e] at e1
          cases e1
          exact e2
    have grown : ∀ p ∈ cs, ∃ more : Array Value, s'.heap.get? p.2 = some { cls := .none, data := .fields more } := by
      intro p hp
      obtain ⟨more, z⟩ := un.tbls p.2 #[] (hH p hp)
      exact ⟨_, ok' p.2 _ z⟩
    refine ⟨rfl, ⟨fun b o e => ?_, fun b o e => ?_⟩, os, bare⟩
    · rcases Classical.em (b ∈ ts) with z | z
      · rw [hts] at z
        obtain ⟨p, hp, rfl⟩ := List.mem_map.mp z
        obtain ⟨more, hmore⟩ := grown p hp
        rw [hT p hp] at e
        cases e
        exact .inr (.inl ⟨((C p hp).tab (hT p hp)).isCodeTable, rfl, #[], more, rfl, by rw [Array.empty_append]; exact hmore⟩)
      · exact .inl (old b o z e)
    · rcases Classical.em (b ∈ ts) with z | z
      · rw [hts] at z
        obtain ⟨p, hp, rfl⟩ := List.mem_map.mp z
        obtain ⟨more, hmore⟩ := grown p hp
        exact ⟨_, hmore⟩
      · exact ⟨o, old b o z e⟩
  rcases hk : K.lookup a with _ | o
  · let H1 : Hp := fun b => if b = a then some (.frz { cls := .type "list", data := .seq us.toArray } (.lst (ns.map V.int))) else if b ∈ ts then some (.tbl #[]) else none
    have h1a : H1 a = some (.frz { cls := .type "list", data := .seq us.toArray } (.lst (ns.map V.int))) := if_pos rfl
    have h1t : ∀ b, b ≠ a → b ∈ ts → H1 b = some (.tbl #[]) := fun b n z => (if_neg n).trans (if_pos z)
    have h1n : ∀ b, b ≠ a → b ∉ ts → H1 b = none := fun b n z => (if_neg n).trans (if_neg z)
    have nta : ∀ b ∈ ts, b ≠ a := fun b z y => aT (by rw [← y]; exact z)
    refine main H1 (fun b => ?_) (fun p hp => h1t _ (nta _ (tab_in p hp)) (tab_in p hp)) (.inl (.inr ⟨_, h1a⟩)) (fun b u z => ?_) (fun b z => ?_) fun _ => hk
    · rcases Classical.em (b = a) with y | y
      · subst y
        exact .inr (.inr ⟨_, _, h1a⟩)
      · rcases Classical.em (b ∈ ts) with t | t
        · exact .inr (.inl ⟨t, h1t b y t⟩)
        · exact .inl (h1n b y t)
    · rcases Classical.em (b = a) with y | y
      · subst y
        cases h1a.symm.trans z
        exact ⟨ha, by rw [List.length_map]; exact hl, us, _, rv, ha⟩
      · rcases Classical.em (b ∈ ts) with t | t
        · cases (h1t b y t).symm.trans z
          exact tab b t
        · cases (h1n b y t).symm.trans z
    · rcases Classical.em (b = a) with y | y
      · exact .inl y
      · rcases Classical.em (b ∈ ts) with t | t
        · exact .inr t
        · exact (z (h1n b y t)).elim
  · have e := KX a o hk
    rw [ha] at e
    cases e
    let H1 : Hp := fun b => if b ∈ ts then some (.tbl #[]) else none
    have h1t : ∀ b, b ∈ ts → H1 b = some (.tbl #[]) := fun b z => if_pos z
    have h1n : ∀ b, b ∉ ts → H1 b = none := fun b z => if_neg z
    refine main H1 (fun b => ?_) (fun p hp => h1t _ (tab_in p hp)) (.inr ⟨_, us.toArray, _, hk, rfl, rfl, rfl, by rw [List.size_toArray, lv]; exact hl, by simpa using rv⟩) (fun b u z => ?_) (fun b z => ?_) fun z => (z (h1n a aT)).elim
    · rcases Classical.em (b ∈ ts) with t | t
      · exact .inr (.inl ⟨t, h1t b t⟩)
      · exact .inl (h1n b t)
    · rcases Classical.em (b ∈ ts) with t | t
      · cases (h1t b t).symm.trans z
        exact tab b t
      · cases (h1n b t).symm.trans z
    · rcases Classical.em (b ∈ ts) with t | t
      · exact .inr t
      · exact (z (h1n b t)).elim
theorem walk_ofGT {l : PySem.W.OpenLaw} {n k : Nat} {q : Program} {loose : List Str} {XP : (Str → Option Value) → Heap → Prop} {YP : World → Heap → Prop} {d : DefRec} {K : Params → PySem.W.Frag} {x : Str}
    (hn : l.most = some n) (n2 : n ≤ sizeLine) (nd : d.params.defaults = []) (hr : Room k callerA) (hY : ∀ (w : World) (h : Heap), YP w h → (K w.params).In h)
    (F : ∀ (w : World) (mg : Str → Option Value) (fa : Addr) (h : Heap), YP w h → (K w.params).In h → h.Ns mainGlobals mg → mg d.name = some (.ref fa) →
      ∃ (fd : FuncData) (cs : List (Addr × Addr)) (sp : Sp), (∀ p ∈ cs, h.get? p.2 = some { cls := .none, data := .fields #[] }) ∧ (∀ p ∈ cs, (K w.params).lookup p.2 = none) ∧ (∀ p ∈ cs, PySem.W.codeHdIn (K w.params) p.1 p.2 = true) ∧ (∀ (s : Shared) (u : Value), BindsTo s fd ⟨[u], []⟩ [(x, u)]) ∧
        (∀ (H : Hp) (a : Addr) (ns : List Int), ns.length ≤ n → (∀ p ∈ cs, H p.2 = some (.tbl #[])) → SqL (K w.params) H a (ns.map V.int) → sp [.ref a] H (fun v _ => v = .bl true) fun _ _ _ => False) ∧
        ∀ b : Heap, (K w.params).In b → b.Ns mainGlobals mg → (∀ p ∈ cs, TabB b mg p.1 p.2) → FnG l.prog w (K w.params) mg b CX0 k fa fd [x] sp) :
    PySem.W.WalkO q loose XP YP l.row.toRowW d [] (fun f vs => PySem.call f vs) := by
  refine Att.attach_call hn nd ?_
  intro w s₀ s1 mg mb fa o pm cd doc a us ns G Y ho hd hcd hmg hobj hints hlen hg
  have KX := hY w _ Y
  obtain ⟨fd, cs, sp, hT, nT, C, hb, hs, hF⟩ := F w mg fa _ Y KX G.T.g hmg
  exact law_goesT KX G.T.g G.T.b G.T.builtins G.T.nolimit hg hT nT (fun p hp => PySem.W.codeHd_of_K KX (C p hp)) G.T.bmain hobj hints (Nat.le_trans hlen n2) hr hF hb (fun H hH hS => hs H a ns hlen hH hS)
end Tc

set_option maxHeartbeats 4000000
/-! Lists of lambdas: made one by one, called one by one. -/
namespace Tc
open PySem PySem.Spec PyProof.Rows L2 LamX
/-- the values at these places are lambdas that read so -/
def Lams (X : Cx) (k : Nat) (H : Hp) : List V → List (XK → TE) → Prop
  | [], [] => True
  | v :: vs, t :: ts => LamAt X k H v t ∧ Lams X k H vs ts
  | _, _ => False
theorem Lams.ext {X : Cx} {k : Nat} {H H' : Hp} (e : ExtN H H') : ∀ {vs : List V} {ts : List (XK → TE)}, Lams X k H vs ts → Lams X k H' vs ts
  | [], [], _ => trivial
  | _ :: _, _ :: _, ⟨a, b⟩ => ⟨a.ext e, b.ext e⟩
  | [], _ :: _, h => h.elim
  | _ :: _, [], h => h.elim
theorem Lams.snoc {X : Cx} {k : Nat} {H : Hp} {v : V} {t : XK → TE} (h : LamAt X k H v t) : ∀ {vs : List V} {ts : List (XK → TE)}, Lams X k H vs ts → Lams X k H (vs ++ [v]) (ts ++ [t])
  | [], [], _ => ⟨h, trivial⟩
  | _ :: _, _ :: _, ⟨a, b⟩ => ⟨a, b.snoc h⟩
  | [], _ :: _, z => z.elim
  | _ :: _, [], z => z.elim
theorem Lams.length {X : Cx} {k : Nat} {H : Hp} : ∀ {vs : List V} {ts : List (XK → TE)}, Lams X k H vs ts → vs.length = ts.length
  | [], [], _ => rfl
  | _ :: _, _ :: _, ⟨_, b⟩ => congrArg (· + 1) b.length
  | [], _ :: _, z => z.elim
  | _ :: _, [], z => z.elim
theorem Lams.get {X : Cx} {k : Nat} {H : Hp} : ∀ {vs : List V} {ts : List (XK → TE)} {i : Nat} {v : V}, Lams X k H vs ts → vs[i]? = some v → ∃ t, ts[i]? = some t ∧ LamAt X k H v t
  | v :: _, t :: _, 0, _, ⟨a, _⟩, e => ⟨t, rfl, by cases e; exact a⟩
  | _ :: _, _ :: _, i + 1, _, ⟨_, b⟩, e => b.get (i := i) e
  | [], _, _, _, _, e => by simp at e
  | _ :: _, [], _, _, h, _ => h.elim
/-- all but the tables and the object at l stay -/
def ExtL (l : Addr) (H H' : Hp) : Prop := ∀ b o, b ≠ l → H b = some o → (∀ ps, o ≠ .tbl ps) → H' b = some o
theorem ExtL.refl {l : Addr} {H : Hp} : ExtL l H H := fun _ _ _ e _ => e
theorem ExtL.trans {l : Addr} {H H1 H2 : Hp} (a : ExtL l H H1) (b : ExtL l H1 H2) : ExtL l H H2 := fun c o n e t => b c o n (a c o n e t) t
theorem ExtN.upd_lst {l : Addr} {H : Hp} {xs : List V} {o : HO} (e : H l = some (.lst xs)) : ExtL l H (upd H l o) := fun b u n e' _ => by rw [upd_ne n]; exact e'
theorem lamAt_upd {X : Cx} {k : Nat} {H : Hp} {l : Addr} {xs ys : List V} {v : V} {t : XK → TE} (e : H l = some (.lst xs)) (h : LamAt X k H v t) : LamAt X k (upd H l (.lst ys)) v t := by
  obtain ⟨p, b, sc, f, c', rfl, h1, h2, h3, h4, h5⟩ := h
  have n1 : f ≠ l := fun z => by
    rw [show H f = some (.lst xs) from by rw [z]; exact e] at h1
    have z' : HO.lst xs = LamO X p b sc f c' := Option.some.inj h1
    unfold LamO at z'
    cases z'
  have n2 : c' ≠ l := fun z => by
    rw [z, e] at h2
    have z' : HO.lst xs = CodeO l (X.env.qual ++ "<lambda>") := Option.some.inj h2
    unfold CodeO at z'
    cases z'
  exact ⟨p, b, sc, f, c', rfl, by rw [upd_ne n1]; exact h1, by rw [upd_ne n2]; exact h2, h3, h4, h5⟩
theorem lams_upd {X : Cx} {k : Nat} {H : Hp} {l : Addr} {xs ys : List V} (e : H l = some (.lst xs)) : ∀ {vs : List V} {ts : List (XK → TE)}, Lams X k H vs ts → Lams X k (upd H l (.lst ys)) vs ts
  | [], [], _ => trivial
  | _ :: _, _ :: _, ⟨a, b⟩ => ⟨lamAt_upd e a, lams_upd e b⟩
  | [], _ :: _, h => h.elim
  | _ :: _, [], h => h.elim
theorem tabs_upd {T : List (Addr × Str)} {H : Hp} {l : Addr} {xs ys : List V} (e : H l = some (.lst xs)) (t : Tabs T H) : Tabs T (upd H l (.lst ys)) := fun p hp => by
  obtain ⟨ps, h1, h2, h3⟩ := t p hp
  have n1 : p.1 ≠ l := fun z => by
    rw [z, e] at h1
    cases h1
  refine ⟨ps, by rw [upd_ne n1]; exact h1, h2, fun pos cv hc => ?_⟩
  obtain ⟨c, e1, e2⟩ := h3 pos cv hc
  have n2 : c ≠ l := fun z => by
    rw [z, e] at e2
    have z' : HO.lst xs = CodeO l p.2 := Option.some.inj e2
    unfold CodeO at z'
    cases z'
  exact ⟨c, e1, by rw [upd_ne n2]; exact e2⟩
/-- calls.append(lambda: ..) -/
theorem app_lam {X : Cx} {k : Nat} {K : PySem.W.Frag} {T : List (Addr × Str)} {i : Nat} {l : Addr} {vs : List V} {ts : List (XK → TE)} {t : XK → TE} {σ : L2.St} {H : Hp} {D : Ends} (hs : σ[i]? = some (some (.ref l))) (hl : H l = some (.lst vs)) (hL : Lams X k H vs ts) (hT : Tabs T H) (hz : vs.length < sizeLine)
    (h : ∀ v H1, H1 l = some (.lst (vs ++ [v])) → ExtL l H H1 → Tabs T H1 → Lams X k H1 (vs ++ [v]) (ts ++ [t]) → D.nx σ H1) :
    tDrop (tBM K "list" rAppend (tVar i) (tCons (tLamV X k T t) tNil)) D σ H := by
  refine ⟨.ref l, hs, Or.inl ⟨rfl, _, SqL.of hl⟩, hT, fun v H1 e1 T1 L1 => ?_⟩
  have g1 : H1 l = some (.lst vs) := e1 _ _ hl (fun ps z => nomatch z)
  refine ⟨l, vs, v, rfl, rfl, g1, hz, ?_⟩
  have el : ExtL l H H1 := fun b o _ e n => e1 b o e n
  exact h v _ upd_same (el.trans (ExtN.upd_lst g1)) (tabs_upd g1 T1) ((lams_upd g1 (hL.ext e1)).snoc (lamAt_upd g1 L1))
/-- the call of this lambda gives the text r, and leaves all that is known -/
def Runs (TT : (XK → Hp → VK → Prop) → Hp → VK → Prop) (t : XK → TE) (σ : L2.St) (H : Hp) (r : Str) : Prop :=
  ∀ H1, Same H H1 → ∀ Q : VK, (∀ H2, Same H1 H2 → Q (.str r) H2) → TT (fun E H' Q' => t E σ H' Q') H1 Q
/-- [met(call) for call in calls] -/
theorem lc_met {X : Cx} {k : Nat} {K : PySem.W.Frag} {TT : (XK → Hp → VK → Prop) → Hp → VK → Prop} {σ : L2.St} {H : Hp} {Q : VK} {c j : Nat} {l : Addr} {vs : List V} {ts : List (XK → TE)} {due : List Str} (hs : σ[c]? = some (some (.ref l))) (hl : H l = some (.lst vs)) (hL : Lams X k H vs ts) (hj : j < σ.length) (hz : vs.length < sizeLine)
    (hd : due.length = ts.length) (hR : ∀ (i : Nat) (t : XK → TE) (r : Str), ts[i]? = some t → due[i]? = some r → Runs TT t σ H r) (h : ∀ D H', H D = none → Same H H' → H' D = some (.lst (due.map V.str)) → Q (.ref D) H') :
    tLc (iList K (tVar c)) (gName j) tYes (tMetX X k TT σ (tCons (tVar j) tNil)) [j] σ H Q := by
  refine ⟨.ref l, hs, l, rfl, ⟨_, SqL.of hl⟩, fun D nD => ?_⟩
  have sD : Same H (upd H D (.lst [])) := same_new nD
  refine lc_list (K := K) (a := l) (xs := vs) (fun i H' => H' D = some (.lst ((due.take i).map V.str)) ∧ Same H H') ⟨by rw [upd_same]; rfl, sD⟩ (fun i H' _ ⟨_, s⟩ => SqL.of (s _ _ hl)) ?_ ?_
  · rintro i v H1 hv ⟨g1, s1⟩
    obtain ⟨t, et, L⟩ := hL.get hv
    have li : i < ts.length := (List.getElem?_eq_some_iff.mp et).1
    obtain ⟨r, er⟩ : ∃ r, due[i]? = some r := ⟨_, List.getElem?_eq_getElem (by omega)⟩
    have set1 : ((wipe σ [j]).set j (some v))[j]? = some (some v) := List.getElem?_set_self (by rw [wipe_length]; exact hj)
    refine ⟨by simp [wipe, List.set_set], ?_⟩
    show tMetX X k TT σ (tCons (tVar j) tNil) _ H1 _
    refine ⟨v, set1, v, t, rfl, L.ext (ExtN.of s1), ?_⟩
    refine hR i t r et er H1 s1 _ fun H2 s2 => ?_
    have g2 := s2 _ _ g1
    refine ⟨_, g2, ?_, ?_, ?_⟩
    · rw [List.length_map, List.length_take]
      have := hL.length
      omega
    · rw [upd_same, List.take_add_one, er]
      simp
    · intro b o e
      have nb : b ≠ D := ne_of_none e nD
      rw [upd_ne nb]
      exact s2 _ _ (s1 _ _ e)
  · rintro H1 ⟨g1, s1⟩
    refine h D H1 nD s1 ?_
    rw [g1, List.take_of_length_le]
    rw [hL.length, ← hd]
    exact Nat.le_refl _
end Tc

set_option maxHeartbeats 4000000
/-! repr of values of many kinds. -/
namespace Tc
open PySem PySem.Spec PyProof.Rows L2
/-- the value v is written as the text t -/
def Shw (K : PySem.W.Frag) (H : Hp) (v : V) (t : Str) : Prop :=
  (v = .non ∧ t = "None") ∨ (∃ b : Bool, v = .bl b ∧ t = (if b then Str.ofString "True" else Str.ofString "False")) ∨ (∃ i : Int, v = .int i ∧ i.natAbs.log2 < 1920 ∧ t = toString i) ∨ (∃ s : Str, v = .str s ∧ (reprText s).length ≤ sizeLine ∧ t = reprText s) ∨
  (∃ d : PyData, Dp K H v d ∧ d.showable = true ∧ d.hasDict = false ∧ isDisplay d = true ∧ d.depth ≤ 20 ∧ d.shown.length ≤ sizeLine ∧ t = d.shown) ∨ (∃ a : Addr, v = .ref a ∧ H a = some (.dK []) ∧ t = "{}")
/-- .. whatever is made later -/
def ShwS (K : PySem.W.Frag) (H : Hp) (v : V) (t : Str) : Prop := ∀ H', Same H H' → Shw K H' v t
theorem ShwS.now {K : PySem.W.Frag} {H : Hp} {v : V} {t : Str} (h : ShwS K H v t) : Shw K H v t := h _ (Same.refl _)
theorem ShwS.stay {K : PySem.W.Frag} {H H' : Hp} {v : V} {t : Str} (e : Same H H') (h : ShwS K H v t) : ShwS K H' v t := fun _ s => h _ (e.trans s)
theorem shw_non {K : PySem.W.Frag} {H : Hp} : ShwS K H .non "None" := fun _ _ => .inl ⟨rfl, rfl⟩
theorem shw_bl {K : PySem.W.Frag} {H : Hp} {b : Bool} : ShwS K H (.bl b) (if b then Str.ofString "True" else Str.ofString "False") := fun _ _ => .inr (.inl ⟨b, rfl, rfl⟩)
theorem shw_int {K : PySem.W.Frag} {H : Hp} {i : Int} (h : i.natAbs.log2 < 1920) : ShwS K H (.int i) (toString i) := fun _ _ => .inr (.inr (.inl ⟨i, rfl, h, rfl⟩))
theorem shw_str {K : PySem.W.Frag} {H : Hp} {s : Str} (h : (reprText s).length ≤ sizeLine) : ShwS K H (.str s) (reprText s) := fun _ _ => .inr (.inr (.inr (.inl ⟨s, rfl, h, rfl⟩)))
theorem shw_dat {K : PySem.W.Frag} {H : Hp} {v : V} {d : PyData} (hd : ∀ H', Same H H' → Dp K H' v d) (h1 : d.showable = true) (h2 : d.hasDict = false) (h3 : isDisplay d = true) (h4 : d.depth ≤ 20) (h5 : d.shown.length ≤ sizeLine) : ShwS K H v d.shown :=
  fun H' s => .inr (.inr (.inr (.inr (.inl ⟨d, hd H' s, h1, h2, h3, h4, h5, rfl⟩))))
theorem shw_dK {K : PySem.W.Frag} {H : Hp} {a : Addr} (h : H a = some (.dK [])) : ShwS K H (.ref a) "{}" := fun _ s => .inr (.inr (.inr (.inr (.inr ⟨a, rfl, s _ _ h, rfl⟩))))
section
variable {X : Cx}
theorem call_reprA (h0 : X.A.guards = some []) (hu : X.A.units + 64 < cLine) : CallR X (.builtin "repr") (fun xs H Q => ∃ v t, xs = [v] ∧ Shw X.K H v t ∧ Q (.str t) H) := by
  intro pins s σ H xs us Q I r ⟨v, t, ev, hv, q⟩
  subst ev
  rcases hv with ⟨rfl, rfl⟩ | ⟨b, rfl, rfl⟩ | ⟨i, rfl, hz, rfl⟩ | ⟨x, rfl, hz, rfl⟩ | ⟨d, h1, h2, h3, h4, h5, h6, rfl⟩ | ⟨a, rfl, ha, rfl⟩
  · cases r with
    | cons r1 r2 =>
      cases r2
      cases r1
      exact PySem.P.repr_of_none ⟨.str _, H, I.tok _, ⟨_, rfl⟩, q⟩
  · exact call_repr_bl pins s σ H _ us Q I r ⟨b, rfl, by cases b <;> exact q⟩
  · exact SkE.call_repr_int pins s σ H _ us Q I r ⟨i, rfl, hz, q⟩
  · cases r with
    | cons r1 r2 =>
      cases r2
      obtain ⟨tk, rfl⟩ := r1
      exact PySem.P.repr_of_str ⟨.str _, H, I.tok _, ⟨_, rfl⟩, q⟩ hz
  · exact call_reprG h0 hu pins s σ H _ us Q I r ⟨v, d, rfl, h1, h2, h3, h4, h5, h6, q⟩
  · cases r with
    | cons r1 r2 =>
      cases r2
      cases r1
      obtain ⟨_, ns, vs, kv, o, es, ep, e1, e2, e3, e4⟩ := I.hok a _ ha
      obtain rfl : vs = [] := by cases kv; rfl
      have el : es.toList = [] := by
        have z := e4.2.1
        cases hh : es.toList with
        | nil => rfl
        | cons x r =>
          rw [hh] at z
          cases z
      have rd : Reads s.heap (.ref a) (.dict []) (a :: [] ++ []) := .dict e1 e2.1 e3 (by rw [el]; exact .nil) (by rw [el]; exact .nil)
      refine PySem.repr_of_reads' rd (by decide +kernel) (fun _ z => ?_) h0 (by show X.A.units + (1 + 1) < cLine; omega) (fun _ _ e => e) (fun h' u tk hk => ?_) (by decide +kernel)
      · simp at z
        rw [z] at ns
        simp at ns
      · exact ⟨.str _, H, I.kept hk, ⟨_, rfl⟩, q⟩
end
end Tc

set_option maxHeartbeats 4000000
namespace Tc
open PySem PySem.Spec PySem.Calls PyProof.Rows L2
section
open PySem.W
theorem gt_bool_int (b : Bool) (a : Int) (t : Tok) : Gives (Builtin.«int.__gt__» ⟨[.bool b, .int a t], []⟩) (.val (Value.bool (decide (b2i b > a)))) :=
  .of_wp fun M A E s Q h => by obtain ⟨hp, g, d, tk, os⟩ := s; wp_walk; exact ⟨_, rfl, h⟩
variable {prog : Program} {w : World} {A : Around} {E : Value → Shared → Prop} {s : Shared}
/-- an int < a truth value: the truth value's reflected way is asked first -/
theorem lt_int_bool {a : Int} {t : Tok} {b : Bool} {Q : Value → Shared → Prop} (h : Q (.bool (decide (b2i b > a))) s) : wpAny (model prog w) A (richCompare .Lt (.int a t) (.bool b)) Q E s := by
  have ta : s.TypeIs (.int a t) "int" := rfl
  have tb : s.TypeIs (.bool b) "bool" := rfl
  have sl := PySem.F.slot_bool_gt_refl
  rcases hi : cmpInfo .Lt with ⟨sym, f, r⟩
  rw [hi] at sl
  simp only [richCompare, hi, ta.oneThing_none]
  try with_reducible refine wpAny_holding ?_
  refine wpAny_bind (wpAny_cRoomFor_or (.inl rfl) ?_)
  refine wpAny_bind (wpAny_typeOf ta (wpAny_bind (wpAny_typeOf tb ?_)))
  rw [if_pos (show (Value.type "int" != Value.type "bool") = true by decide)]
  refine wpAny_bind (wpAny_of_eq (a := true) (by rw [isSubtype_type]; kernel_rfl) ?_)
  simp only [if_true]
  have hc : wpAny (model prog w) A (call (.builtin "int.__gt__") [.bool b, .int a t]) (fun v s' => v = .bool (decide (b2i b > a)) ∧ s' = s) E s := call_gives sl tb PySem.F.entry_int_gt (PySem.F.args_int_gt_2 _ _) (gt_bool_int b a t) ⟨rfl, rfl⟩
  refine wpAny_bind (wpAny_tryCompare_slot tb sl (wpAny_mono hc (fun v s' h' => ?_) fun _ _ h' => h'))
  obtain ⟨rfl, rfl⟩ := h'
  refine ⟨(fun z => by cases z), ?_⟩
  exact wpAny_bind (wpAny_rule (wpAny_pure h))
end
section
variable {X : Cx}
/-- i < y, y an int or a truth value -/
def rLtIB : R2 := fun x y H Q => ∃ i : Int, x = .int i ∧ ((∃ j : Int, y = .int j ∧ Q (.bl (decide (i < j))) H) ∨ ∃ b : Bool, y = .bl b ∧ Q (.bl (decide (i < b2i b))) H)
theorem op_ltIB : OpR X (compareOp .Lt) rLtIB := by
  intro pins s σ H x y v u Q I rx ry h
  obtain ⟨i, rfl, ⟨j, rfl, q⟩ | ⟨b, rfl, q⟩⟩ := h
  · exact op_lt pins s σ H _ _ v u Q I rx ry ⟨i, j, rfl, rfl, q⟩
  · obtain ⟨t, rfl⟩ := rx
    cases ry
    show wpAny (model X.prog X.w) X.A (richCompare .Lt (.int i t) (.bool b)) (EP X pins σ Q) X.xe s
    exact lt_int_bool ⟨.bl _, H, I, rfl, q⟩
end
section
variable {P : Program} {w : World} {K : PySem.W.Frag} {mg : Str → Option Value} {base : Heap} {CX : CXT} {k : Nat} {f : Addr} {fd : FuncData} {ps : List Str} {s1 s2 : Sp}
/-- a promise in two parts -/
theorem or_fn (h1 : FnOk P w K mg base CX k f fd ps s1) (h2 : FnOk P w K mg base CX k f fd ps s2) : FnOk P w K mg base CX k f fd ps (fun vs H Q E => s1 vs H Q E ∨ s2 vs H Q E) :=
  ⟨fun vs H Q E h => h.elim (h1.len vs H Q E) (h2.len vs H Q E), fun A outer s H as us vs Q E hr he hb hv h => h.elim (h1.run A outer s H as us vs Q E hr he hb hv) (h2.run A outer s H as us vs Q E hr he hb hv)⟩
/-- what raises nothing keeps a promise that may raise -/
theorem lift_fn {CX' : CXT} (h1 : FnOk P w K mg base CX0 k f fd ps s1) : FnOk P w K mg base CX' k f fd ps s1 :=
  ⟨h1.len, fun A outer s H as us vs Q E hr he hb hv h => PySem.codeAny_mono (h1.run A outer s H as us vs Q E hr he hb hv h) (fun r s' z => by
    cases r with
    | error e => exact z.elim
    | ok a => cases a <;> exact z)⟩
/-- a promise that says less -/
theorem less_fn (h1 : FnOk P w K mg base CX k f fd ps s1) (h : ∀ vs H Q E, s2 vs H Q E → s1 vs H Q E) : FnOk P w K mg base CX k f fd ps s2 :=
  ⟨fun vs H Q E z => h1.len vs H Q E (h _ _ _ _ z), fun A outer s H as us vs Q E hr he hb hv z => h1.run A outer s H as us vs Q E hr he hb hv (h _ _ _ _ z)⟩
end
/-- repr of a value of any of these kinds -/
def rShw (K : PySem.W.Frag) : List V → Hp → VK → Prop := fun xs H Q => ∃ v t, xs = [v] ∧ Shw K H v t ∧ Q (.str t) H
section
variable {X : Cx}
/-- the clauses of a try, one after another, for every end -/
theorem hs_nil {Wout : WX} (hs : X.stack = X.env :: X.outer) (hf : X.env.frame = some X.env.locals) (tk : Takes X Wout) : ∀ (pins : List (Addr × Obj)) (D : Ends), Handles X pins D [] Wout := fun _ _ => handles_nil hs hf tk
theorem hs_plain {x : Str} {c : Value} {ts : Addr → Value → Option Addr → TS} {b₀ : Stmt} {suite : List Stmt} {np pos : Pos} {hds : List ExceptHandler} {w : Ends → WX} (hf : X.env.frame = some X.env.locals) (hc : Names X x c)
    (hsu : ∀ (a : Addr) (oe : Obj) (cls : Value) (d : Option Addr) (pn : List (Addr × Obj)), Zc cls d oe → (∃ vs, oe.data = .fields vs) → PSs (X.suite a ((a, oe) :: pn)) (b₀ :: suite) (ts a cls d)) (r : ∀ (pins : List (Addr × Obj)) (D : Ends), Handles X pins D hds (w D)) :
    ∀ (pins : List (Addr × Obj)) (D : Ends), Handles X pins D (.ExceptHandler (some (.Name x np)) none (b₀ :: suite) pos :: hds) (wPlain X.K c ts D (w D)) := fun pins D => handles_plain hf hc hsu (r pins D)
theorem hs_named {x n : Str} {c : Value} {i : Nat} {ts : Addr → Value → Option Addr → TS} {b₀ : Stmt} {suite : List Stmt} {np pos : Pos} {hds : List ExceptHandler} {w : Ends → WX} (hf : X.env.frame = some X.env.locals) (hN : X.N.Nodup) (hi : X.N[i]? = some n) (hl : X.env.kindOf n = some .local) (hc : Names X x c)
    (hsu : ∀ (a : Addr) (oe : Obj) (cls : Value) (d : Option Addr) (pn : List (Addr × Obj)), Zc cls d oe → (∃ vs, oe.data = .fields vs) → PSs (X.suite a ((a, oe) :: pn)) (b₀ :: suite) (ts a cls d)) (r : ∀ (pins : List (Addr × Obj)) (D : Ends), Handles X pins D hds (w D)) :
    ∀ (pins : List (Addr × Obj)) (D : Ends), Handles X pins D (.ExceptHandler (some (.Name x np)) (some n) (b₀ :: suite) pos :: hds) (wNamed X.K c i ts D (w D)) := fun pins D => handles_named hf hN hi hl hc hsu (r pins D)
end
end Tc

set_option maxHeartbeats 4000000
/-! A row of `calls.append(lambda: ..)` read at once. -/
namespace Tc
open PySem PySem.Spec PyProof.Rows L2 LamX
def appSeq (K : PySem.W.Frag) (X : Cx) (k : Nat) (T : List (Addr × Str)) (i : Nat) (u : TS) : List (XK → TE) → TS
  | [] => u
  | t :: ts => tSeq (tDrop (tBM K "list" rAppend (tVar i) (tCons (tLamV X k T t) tNil))) (appSeq K X k T i u ts)
theorem app_seq {X : Cx} {k : Nat} {K : PySem.W.Frag} {T : List (Addr × Str)} {i : Nat} {l : Addr} {σ : L2.St} {D : Ends} {u : TS} (hs : σ[i]? = some (some (.ref l))) : ∀ {ts' : List (XK → TE)} {vs : List V} {ts : List (XK → TE)} {H : Hp}, H l = some (.lst vs) → Lams X k H vs ts → Tabs T H → vs.length + ts'.length ≤ sizeLine →
    (∀ vs' H1, vs'.length = ts'.length → H1 l = some (.lst (vs ++ vs')) → ExtL l H H1 → Tabs T H1 → Lams X k H1 (vs ++ vs') (ts ++ ts') → u D σ H1) →
    appSeq K X k T i u ts' D σ H
  | [], vs, ts, H, hl, hL, hT, hz, h => h [] H rfl (by rw [List.append_nil]; exact hl) (ExtL.refl) hT (by rw [List.append_nil, List.append_nil]; exact hL)
  | t :: ts', vs, ts, H, hl, hL, hT, hz, h => by
    refine app_lam hs hl hL hT (Nat.lt_of_lt_of_le (by rw [List.length_cons]; omega) hz) fun v H1 g1 x1 T1 L1 => ?_
    refine app_seq hs g1 L1 T1 (by rw [List.length_append]; rw [List.length_cons] at hz; simp only [List.length_cons, List.length_nil]; omega) fun vs' H2 e g2 x2 T2 L2 => ?_
    refine h (v :: vs') H2 (by rw [List.length_cons, List.length_cons, e]) ?_ (x1.trans x2) T2 ?_
    · rw [g2, List.append_assoc]; rfl
    · rw [List.append_assoc, List.append_assoc] at L2; exact L2
/-- the first lambda stands in the list as it is made -/
theorem app_lams {X : Cx} {k : Nat} {K : PySem.W.Frag} {T : List (Addr × Str)} {i : Nat} {l : Addr} {σ : L2.St} {D : Ends} {u : TS} {t : XK → TE} {ts' : List (XK → TE)} {v : V} {H : Hp} (hs : σ[i]? = some (some (.ref l))) (hl : H l = some (.lst [v])) (hL : LamAt X k H v t) (hT : Tabs T H) (hz : 1 + ts'.length ≤ sizeLine)
    (h : ∀ vs' H1, (v :: vs').length = (t :: ts').length → H1 l = some (.lst (v :: vs')) → ExtL l H H1 → Tabs T H1 → Lams X k H1 (v :: vs') (t :: ts') → u D σ H1) :
    appSeq K X k T i u ts' D σ H :=
  app_seq (ts := [t]) hs hl (show Lams X k H [v] [t] from ⟨hL, trivial⟩) hT hz fun vs' H1 e g x T1 L1 => h vs' H1 (by rw [List.length_cons, List.length_cons, e]) g x T1 L1
end Tc

set_option maxHeartbeats 4000000
namespace Tc
open PySem PySem.Spec PyProof.Rows L2 LamX
/-- a truth value is True, is False -/
def rIsBB : R2 := fun x y H Q => ∃ a b : Bool, x = .bl a ∧ y = .bl b ∧ Q (.bl (decide (a = b))) H
theorem op_isBB {X : Cx} : OpR X (compareOp .Is) rIsBB := by
  intro pins s σ H x y v u Q I rx ry h
  obtain ⟨a, b, ex, ey, q⟩ := h
  subst ex
  subst ey
  cases (show v = Value.bool a from rx)
  cases (show u = Value.bool b from ry)
  cases a <;> cases b
  · exact wpAny_is_self rfl ⟨.bl true, H, I, rfl, q⟩
  · exact wpAny_is_other rfl (fun z => nomatch z) ⟨.bl false, H, I, rfl, q⟩
  · exact wpAny_is_other rfl (fun z => nomatch z) ⟨.bl false, H, I, rfl, q⟩
  · exact wpAny_is_self rfl ⟨.bl true, H, I, rfl, q⟩
end Tc

set_option maxHeartbeats 2000000
namespace Tk
open PySem PySem.Spec PyProof.Rows L2 Tc
def top (i : Nat) : Stmt := PySem.Challenge.pw_toothchain_k09_errors_of_ladders.main.body.getD i (.Pass ⟨0, 0, 0, 0⟩)
abbrev s_Long___init__ : Stmt := inClass (top 9) 0
abbrev n_Long___init__ : List Str := ["self", "number"]
theorem sc_Long___init__ : FnScope n_Long___init__ ["self", "number"] (defScope s_Long___init__) := ⟨rfl, rfl, rfl, by decide +kernel, rfl, by decide +kernel, by decide +kernel⟩
abbrev s_is_short_integer : Stmt := top 10
abbrev n_is_short_integer : List Str := ["value"]
theorem sc_is_short_integer : FnScope n_is_short_integer ["value"] (defScope s_is_short_integer) := ⟨rfl, rfl, rfl, by decide +kernel, rfl, by decide +kernel, by decide +kernel⟩
abbrev s_checked_integer : Stmt := top 11
abbrev n_checked_integer : List Str := ["value"]
theorem sc_checked_integer : FnScope n_checked_integer ["value"] (defScope s_checked_integer) := ⟨rfl, rfl, rfl, by decide +kernel, rfl, by decide +kernel, by decide +kernel⟩
abbrev s_checked_from : Stmt := top 12
abbrev n_checked_from : List Str := ["least", "value", "number"]
theorem sc_checked_from : FnScope n_checked_from ["least", "value"] (defScope s_checked_from) := ⟨rfl, rfl, rfl, by decide +kernel, rfl, by decide +kernel, by decide +kernel⟩
abbrev s_checked_pair : Stmt := top 13
abbrev n_checked_pair : List Str := ["a", "b"]
theorem sc_checked_pair : FnScope n_checked_pair ["a", "b"] (defScope s_checked_pair) := ⟨rfl, rfl, rfl, by decide +kernel, rfl, by decide +kernel, by decide +kernel⟩
abbrev s_inverse_or_none : Stmt := top 23
abbrev n_inverse_or_none : List Str := ["a", "b", "bits", "upper", "lower"]
theorem sc_inverse_or_none : FnScope n_inverse_or_none ["a", "b"] (defScope s_inverse_or_none) := ⟨rfl, rfl, rfl, by decide +kernel, rfl, by decide +kernel, by decide +kernel⟩
abbrev s_Ladder___init__ : Stmt := inClass (top 18) 0
abbrev n_Ladder___init__ : List Str := ["self", "a", "b"]
theorem sc_Ladder___init__ : FnScope n_Ladder___init__ ["self", "a", "b"] (defScope s_Ladder___init__) := ⟨rfl, rfl, rfl, by decide +kernel, rfl, by decide +kernel, by decide +kernel⟩
abbrev s_Ladder_a : Stmt := inClass (top 18) 1
abbrev n_Ladder_a : List Str := ["self"]
theorem sc_Ladder_a : FnScope n_Ladder_a ["self"] (defScope s_Ladder_a) := ⟨rfl, rfl, rfl, by decide +kernel, rfl, by decide +kernel, by decide +kernel⟩
abbrev s_Ladder_b : Stmt := inClass (top 18) 2
abbrev n_Ladder_b : List Str := ["self"]
theorem sc_Ladder_b : FnScope n_Ladder_b ["self"] (defScope s_Ladder_b) := ⟨rfl, rfl, rfl, by decide +kernel, rfl, by decide +kernel, by decide +kernel⟩
abbrev s_Ladder_quotients : Stmt := inClass (top 18) 3
abbrev n_Ladder_quotients : List Str := ["self"]
theorem sc_Ladder_quotients : FnScope n_Ladder_quotients ["self"] (defScope s_Ladder_quotients) := ⟨rfl, rfl, rfl, by decide +kernel, rfl, by decide +kernel, by decide +kernel⟩
abbrev s_Ladder_shifted : Stmt := inClass (top 18) 9
abbrev n_Ladder_shifted : List Str := ["self", "times", "shift"]
theorem sc_Ladder_shifted : FnScope n_Ladder_shifted ["self", "times"] (defScope s_Ladder_shifted) := ⟨rfl, rfl, rfl, by decide +kernel, rfl, by decide +kernel, by decide +kernel⟩
abbrev s_Ladder_exchanged : Stmt := inClass (top 18) 10
abbrev n_Ladder_exchanged : List Str := ["self"]
theorem sc_Ladder_exchanged : FnScope n_Ladder_exchanged ["self"] (defScope s_Ladder_exchanged) := ⟨rfl, rfl, rfl, by decide +kernel, rfl, by decide +kernel, by decide +kernel⟩
abbrev s_Ladder___getitem__ : Stmt := inClass (top 18) 11
abbrev n_Ladder___getitem__ : List Str := ["self", "at"]
theorem sc_Ladder___getitem__ : FnScope n_Ladder___getitem__ ["self", "at"] (defScope s_Ladder___getitem__) := ⟨rfl, rfl, rfl, by decide +kernel, rfl, by decide +kernel, by decide +kernel⟩
abbrev s_Ladder___len__ : Stmt := inClass (top 18) 13
abbrev n_Ladder___len__ : List Str := ["self"]
theorem sc_Ladder___len__ : FnScope n_Ladder___len__ ["self"] (defScope s_Ladder___len__) := ⟨rfl, rfl, rfl, by decide +kernel, rfl, by decide +kernel, by decide +kernel⟩
abbrev s_Ladder___eq__ : Stmt := inClass (top 18) 14
abbrev n_Ladder___eq__ : List Str := ["self", "other"]
theorem sc_Ladder___eq__ : FnScope n_Ladder___eq__ ["self", "other"] (defScope s_Ladder___eq__) := ⟨rfl, rfl, rfl, by decide +kernel, rfl, by decide +kernel, by decide +kernel⟩
abbrev s_common_factor : Stmt := top 19
abbrev n_common_factor : List Str := ["a", "b", "first", "second"]
theorem sc_common_factor : FnScope n_common_factor ["a", "b"] (defScope s_common_factor) := ⟨rfl, rfl, rfl, by decide +kernel, rfl, by decide +kernel, by decide +kernel⟩
abbrev s_inverse_of : Stmt := top 20
abbrev n_inverse_of : List Str := ["a", "b", "first", "second", "inverse"]
theorem sc_inverse_of : FnScope n_inverse_of ["a", "b"] (defScope s_inverse_of) := ⟨rfl, rfl, rfl, by decide +kernel, rfl, by decide +kernel, by decide +kernel⟩
abbrev s_are_coprime : Stmt := top 21
abbrev n_are_coprime : List Str := ["a", "b"]
theorem sc_are_coprime : FnScope n_are_coprime ["a", "b"] (defScope s_are_coprime) := ⟨rfl, rfl, rfl, by decide +kernel, rfl, by decide +kernel, by decide +kernel⟩
abbrev s_pair_from : Stmt := top 22
abbrev n_pair_from : List Str := ["quotients"]
theorem sc_pair_from : FnScope n_pair_from ["quotients"] (defScope s_pair_from) := ⟨rfl, rfl, rfl, by decide +kernel, rfl, by decide +kernel, by decide +kernel⟩
abbrev s__are_quotients : Stmt := top 24
abbrev n__are_quotients : List Str := ["value", "one"]
theorem sc__are_quotients : FnScope n__are_quotients ["value"] (defScope s__are_quotients) := ⟨rfl, rfl, rfl, by decide +kernel, rfl, by decide +kernel, by decide +kernel⟩
abbrev s__euclid_steps : Stmt := top 25
abbrev n__euclid_steps : List Str := ["a", "b", "quotient", "rest", "quotients", "remainders"]
theorem sc__euclid_steps : FnScope n__euclid_steps ["a", "b"] (defScope s__euclid_steps) := ⟨rfl, rfl, rfl, by decide +kernel, rfl, by decide +kernel, by decide +kernel⟩
abbrev s__convergents_of : Stmt := top 26
abbrev n__convergents_of : List Str := ["quotients", "convergents", "before", "last", "quotient"]
theorem sc__convergents_of : FnScope n__convergents_of ["quotients"] (defScope s__convergents_of) := ⟨rfl, rfl, rfl, by decide +kernel, rfl, by decide +kernel, by decide +kernel⟩
abbrev s__law_bowl : Stmt := top 29
abbrev n__law_bowl : List Str := ["_law_script", "_law_at", "_law_cell", "_law_great_here", "_law_seed"]
theorem sc__law_bowl : FnScope n__law_bowl ["_law_script", "_law_at"] (defScope s__law_bowl) := ⟨rfl, rfl, rfl, by decide +kernel, rfl, by decide +kernel, by decide +kernel⟩
abbrev s__law_sip : Stmt := top 30
abbrev n__law_sip : List Str := ["_law_bowl_here", "_law_size", "_law_found", "_law_one", "_law_two", "_law_three"]
theorem sc__law_sip : FnScope n__law_sip ["_law_bowl_here", "_law_size"] (defScope s__law_sip) := ⟨rfl, rfl, rfl, by decide +kernel, rfl, by decide +kernel, by decide +kernel⟩
abbrev s__law_great : Stmt := top 31
abbrev n__law_great : List Str := ["_law_bowl_here", "_law_most", "_law_found", "_law_turn"]
theorem sc__law_great : FnScope n__law_great ["_law_bowl_here", "_law_most"] (defScope s__law_great) := ⟨rfl, rfl, rfl, by decide +kernel, rfl, by decide +kernel, by decide +kernel⟩
abbrev s__law_pair : Stmt := top 32
abbrev n__law_pair : List Str := ["_law_bowl_here", "_law_way", "_law_a", "_law_b", "_law_both"]
theorem sc__law_pair : FnScope n__law_pair ["_law_bowl_here"] (defScope s__law_pair) := ⟨rfl, rfl, rfl, by decide +kernel, rfl, by decide +kernel, by decide +kernel⟩
abbrev s__law_one_of : Stmt := top 33
abbrev n__law_one_of : List Str := ["_law_bowl_here", "_law_items"]
theorem sc__law_one_of : FnScope n__law_one_of ["_law_bowl_here", "_law_items"] (defScope s__law_one_of) := ⟨rfl, rfl, rfl, by decide +kernel, rfl, by decide +kernel, by decide +kernel⟩
abbrev s__law_called : Stmt := top 34
abbrev n__law_called : List Str := ["_law_call", "e"]
theorem sc__law_called : FnScope n__law_called ["_law_call"] (defScope s__law_called) := ⟨rfl, rfl, rfl, by decide +kernel, rfl, by decide +kernel, by decide +kernel⟩
abbrev s__law_common : Stmt := top 35
abbrev n__law_common : List Str := ["_law_one", "_law_other"]
theorem sc__law_common : FnScope n__law_common ["_law_one", "_law_other"] (defScope s__law_common) := ⟨rfl, rfl, rfl, by decide +kernel, rfl, by decide +kernel, by decide +kernel⟩
abbrev s__law_right : Stmt := top 36
abbrev n__law_right : List Str := ["_law_bowl_here", "_law_a", "_law_b", "_law_bad", "_law_low", "_law_ladder", "_law_far", "_law_rows", "_law_calls", "_law_word", "_law_near", "_law_call", "_law_due"]
theorem sc__law_right : FnScope n__law_right ["_law_bowl_here"] (defScope s__law_right) := ⟨rfl, rfl, rfl, by decide +kernel, rfl, by decide +kernel, by decide +kernel⟩
abbrev s_law : Stmt := top 37
abbrev n_law : List Str := ["_law_script", "_law_at", "_law_bowl_here", "_law_turn", "_law_calls", "_law_call"]
theorem sc_law : FnScope n_law ["_law_script"] (defScope s_law) := ⟨rfl, rfl, rfl, by decide +kernel, rfl, by decide +kernel, by decide +kernel⟩
abbrev PW : Program := PySem.Challenge.pw_toothchain_k09_errors_of_ladders
abbrev si_InvalidNumber : Stmt := inClass (top 5) 0
theorem sx_InvalidNumber : ∃ (p1 p2 q1 q2 q3 q4 q5 q6 q7 q8 q9 q0 : Pos) (j : Nat), defArgs si_InvalidNumber = supA "given" p1 p2 ∧ defBody si_InvalidNumber = supB "given" "this is no integer in the range that is wanted" j q1 q2 q3 q4 q5 q6 q7 q8 q9 q0 ∧ defScope si_InvalidNumber = supS "given" ∧ (q3.endLine == q5.line) = true := ⟨_, _, _, _, _, _, _, _, _, _, _, _, _, rfl, rfl, rfl, rfl⟩
/-- where things stand -/
structure Ad where
  f_Long___init__ : Addr
  d_Long___init__ : FuncData
  f_is_short_integer : Addr
  d_is_short_integer : FuncData
  f_checked_integer : Addr
  d_checked_integer : FuncData
  f_checked_from : Addr
  d_checked_from : FuncData
  f_checked_pair : Addr
  d_checked_pair : FuncData
  f_inverse_or_none : Addr
  d_inverse_or_none : FuncData
  f_Ladder___init__ : Addr
  d_Ladder___init__ : FuncData
  f_Ladder_a : Addr
  d_Ladder_a : FuncData
  f_Ladder_b : Addr
  d_Ladder_b : FuncData
  f_Ladder_quotients : Addr
  d_Ladder_quotients : FuncData
  f_Ladder_shifted : Addr
  d_Ladder_shifted : FuncData
  f_Ladder_exchanged : Addr
  d_Ladder_exchanged : FuncData
  f_Ladder___getitem__ : Addr
  d_Ladder___getitem__ : FuncData
  f_Ladder___len__ : Addr
  d_Ladder___len__ : FuncData
  f_Ladder___eq__ : Addr
  d_Ladder___eq__ : FuncData
  f_common_factor : Addr
  d_common_factor : FuncData
  f_inverse_of : Addr
  d_inverse_of : FuncData
  f_are_coprime : Addr
  d_are_coprime : FuncData
  f_pair_from : Addr
  d_pair_from : FuncData
  f__are_quotients : Addr
  d__are_quotients : FuncData
  f__euclid_steps : Addr
  d__euclid_steps : FuncData
  f__convergents_of : Addr
  d__convergents_of : FuncData
  f__law_bowl : Addr
  d__law_bowl : FuncData
  f__law_sip : Addr
  d__law_sip : FuncData
  f__law_great : Addr
  d__law_great : FuncData
  f__law_pair : Addr
  d__law_pair : FuncData
  f__law_one_of : Addr
  d__law_one_of : FuncData
  f__law_called : Addr
  d__law_called : FuncData
  f__law_common : Addr
  d__law_common : FuncData
  f__law_right : Addr
  d__law_right : FuncData
  f_law : Addr
  d_law : FuncData
  pp_Ladder_a : Addr
  pp_Ladder_b : Addr
  pp_Ladder_quotients : Addr
  a_Long : Addr
  a_Ladder : Addr
  a_InvalidNumber : Addr
  i_InvalidNumber : Addr
  cd__law_right : Addr
  tb__law_right : Addr
  cd_law : Addr
  tb_law : Addr
  a_InvalidOperation : Addr
/-- what the top has written -/
structure Txt (K : PySem.W.Frag) (mg : Str → Option Value) (A : Ad) : Prop where
  F_Long___init__ : Fun K "__init__" "Long.__init__" s_Long___init__ A.f_Long___init__ A.d_Long___init__
  b_Long___init__ : Binds K A.d_Long___init__ ["self", "number"] []
  mk_Long : Mk K A.a_Long A.f_Long___init__
  F_is_short_integer : Fun K "is_short_integer" "is_short_integer" s_is_short_integer A.f_is_short_integer A.d_is_short_integer
  b_is_short_integer : Binds K A.d_is_short_integer ["value"] []
  m_is_short_integer : mg "is_short_integer" = some (.ref A.f_is_short_integer)
  F_checked_integer : Fun K "checked_integer" "checked_integer" s_checked_integer A.f_checked_integer A.d_checked_integer
  b_checked_integer : Binds K A.d_checked_integer ["value"] []
  m_checked_integer : mg "checked_integer" = some (.ref A.f_checked_integer)
  F_checked_from : Fun K "checked_from" "checked_from" s_checked_from A.f_checked_from A.d_checked_from
  b_checked_from : Binds K A.d_checked_from ["least", "value"] []
  m_checked_from : mg "checked_from" = some (.ref A.f_checked_from)
  F_checked_pair : Fun K "checked_pair" "checked_pair" s_checked_pair A.f_checked_pair A.d_checked_pair
  b_checked_pair : Binds K A.d_checked_pair ["a", "b"] []
  m_checked_pair : mg "checked_pair" = some (.ref A.f_checked_pair)
  F_inverse_or_none : Fun K "inverse_or_none" "inverse_or_none" s_inverse_or_none A.f_inverse_or_none A.d_inverse_or_none
  b_inverse_or_none : Binds K A.d_inverse_or_none ["a", "b"] []
  m_inverse_or_none : mg "inverse_or_none" = some (.ref A.f_inverse_or_none)
  F_Ladder___init__ : Fun K "__init__" "Ladder.__init__" s_Ladder___init__ A.f_Ladder___init__ A.d_Ladder___init__
  b_Ladder___init__ : Binds K A.d_Ladder___init__ ["self", "a", "b"] []
  mk_Ladder : Mk K A.a_Ladder A.f_Ladder___init__
  F_Ladder_a : Fun K "a" "Ladder.a" s_Ladder_a A.f_Ladder_a A.d_Ladder_a
  b_Ladder_a : Binds K A.d_Ladder_a ["self"] []
  p_Ladder_a : PropOf K A.a_Ladder "a" A.pp_Ladder_a A.f_Ladder_a
  F_Ladder_b : Fun K "b" "Ladder.b" s_Ladder_b A.f_Ladder_b A.d_Ladder_b
  b_Ladder_b : Binds K A.d_Ladder_b ["self"] []
  p_Ladder_b : PropOf K A.a_Ladder "b" A.pp_Ladder_b A.f_Ladder_b
  F_Ladder_quotients : Fun K "quotients" "Ladder.quotients" s_Ladder_quotients A.f_Ladder_quotients A.d_Ladder_quotients
  b_Ladder_quotients : Binds K A.d_Ladder_quotients ["self"] []
  p_Ladder_quotients : PropOf K A.a_Ladder "quotients" A.pp_Ladder_quotients A.f_Ladder_quotients
  F_Ladder_shifted : Fun K "shifted" "Ladder.shifted" s_Ladder_shifted A.f_Ladder_shifted A.d_Ladder_shifted
  b_Ladder_shifted : Binds K A.d_Ladder_shifted ["self", "times"] []
  me_Ladder_shifted : Meth K A.a_Ladder "shifted" A.f_Ladder_shifted
  F_Ladder_exchanged : Fun K "exchanged" "Ladder.exchanged" s_Ladder_exchanged A.f_Ladder_exchanged A.d_Ladder_exchanged
  b_Ladder_exchanged : Binds K A.d_Ladder_exchanged ["self"] []
  me_Ladder_exchanged : Meth K A.a_Ladder "exchanged" A.f_Ladder_exchanged
  F_Ladder___getitem__ : Fun K "__getitem__" "Ladder.__getitem__" s_Ladder___getitem__ A.f_Ladder___getitem__ A.d_Ladder___getitem__
  b_Ladder___getitem__ : Binds K A.d_Ladder___getitem__ ["self", "at"] []
  me_Ladder___getitem__ : Meth K A.a_Ladder "__getitem__" A.f_Ladder___getitem__
  F_Ladder___len__ : Fun K "__len__" "Ladder.__len__" s_Ladder___len__ A.f_Ladder___len__ A.d_Ladder___len__
  b_Ladder___len__ : Binds K A.d_Ladder___len__ ["self"] []
  me_Ladder___len__ : Meth K A.a_Ladder "__len__" A.f_Ladder___len__
  F_Ladder___eq__ : Fun K "__eq__" "Ladder.__eq__" s_Ladder___eq__ A.f_Ladder___eq__ A.d_Ladder___eq__
  b_Ladder___eq__ : Binds K A.d_Ladder___eq__ ["self", "other"] []
  me_Ladder___eq__ : Meth K A.a_Ladder "__eq__" A.f_Ladder___eq__
  F_common_factor : Fun K "common_factor" "common_factor" s_common_factor A.f_common_factor A.d_common_factor
  b_common_factor : Binds K A.d_common_factor ["a", "b"] []
  m_common_factor : mg "common_factor" = some (.ref A.f_common_factor)
  F_inverse_of : Fun K "inverse_of" "inverse_of" s_inverse_of A.f_inverse_of A.d_inverse_of
  b_inverse_of : Binds K A.d_inverse_of ["a", "b"] []
  m_inverse_of : mg "inverse_of" = some (.ref A.f_inverse_of)
  F_are_coprime : Fun K "are_coprime" "are_coprime" s_are_coprime A.f_are_coprime A.d_are_coprime
  b_are_coprime : Binds K A.d_are_coprime ["a", "b"] []
  m_are_coprime : mg "are_coprime" = some (.ref A.f_are_coprime)
  F_pair_from : Fun K "pair_from" "pair_from" s_pair_from A.f_pair_from A.d_pair_from
  b_pair_from : Binds K A.d_pair_from ["quotients"] []
  m_pair_from : mg "pair_from" = some (.ref A.f_pair_from)
  F__are_quotients : Fun K "_are_quotients" "_are_quotients" s__are_quotients A.f__are_quotients A.d__are_quotients
  b__are_quotients : Binds K A.d__are_quotients ["value"] []
  m__are_quotients : mg "_are_quotients" = some (.ref A.f__are_quotients)
  F__euclid_steps : Fun K "_euclid_steps" "_euclid_steps" s__euclid_steps A.f__euclid_steps A.d__euclid_steps
  b__euclid_steps : Binds K A.d__euclid_steps ["a", "b"] []
  m__euclid_steps : mg "_euclid_steps" = some (.ref A.f__euclid_steps)
  F__convergents_of : Fun K "_convergents_of" "_convergents_of" s__convergents_of A.f__convergents_of A.d__convergents_of
  b__convergents_of : Binds K A.d__convergents_of ["quotients"] []
  m__convergents_of : mg "_convergents_of" = some (.ref A.f__convergents_of)
  F__law_bowl : Fun K "_law_bowl" "_law_bowl" s__law_bowl A.f__law_bowl A.d__law_bowl
  b__law_bowl : Binds K A.d__law_bowl ["_law_script", "_law_at"] []
  m__law_bowl : mg "_law_bowl" = some (.ref A.f__law_bowl)
  F__law_sip : Fun K "_law_sip" "_law_sip" s__law_sip A.f__law_sip A.d__law_sip
  b__law_sip : Binds K A.d__law_sip ["_law_bowl_here", "_law_size"] []
  m__law_sip : mg "_law_sip" = some (.ref A.f__law_sip)
  F__law_great : Fun K "_law_great" "_law_great" s__law_great A.f__law_great A.d__law_great
  b__law_great : Binds K A.d__law_great ["_law_bowl_here", "_law_most"] []
  m__law_great : mg "_law_great" = some (.ref A.f__law_great)
  F__law_pair : Fun K "_law_pair" "_law_pair" s__law_pair A.f__law_pair A.d__law_pair
  b__law_pair : Binds K A.d__law_pair ["_law_bowl_here"] []
  m__law_pair : mg "_law_pair" = some (.ref A.f__law_pair)
  F__law_one_of : Fun K "_law_one_of" "_law_one_of" s__law_one_of A.f__law_one_of A.d__law_one_of
  b__law_one_of : Binds K A.d__law_one_of ["_law_bowl_here", "_law_items"] []
  m__law_one_of : mg "_law_one_of" = some (.ref A.f__law_one_of)
  F__law_called : Fun K "_law_called" "_law_called" s__law_called A.f__law_called A.d__law_called
  b__law_called : Binds K A.d__law_called ["_law_call"] []
  m__law_called : mg "_law_called" = some (.ref A.f__law_called)
  F__law_common : Fun K "_law_common" "_law_common" s__law_common A.f__law_common A.d__law_common
  b__law_common : Binds K A.d__law_common ["_law_one", "_law_other"] []
  m__law_common : mg "_law_common" = some (.ref A.f__law_common)
  F__law_right : Fun K "_law_right" "_law_right" s__law_right A.f__law_right A.d__law_right
  b__law_right : Binds K A.d__law_right ["_law_bowl_here"] []
  m__law_right : mg "_law_right" = some (.ref A.f__law_right)
  F_law : Fun K "law" "law" s_law A.f_law A.d_law
  b_law : Binds K A.d_law ["_law_script"] []
  m_law : mg "law" = some (.ref A.f_law)
  c_Long : Cls K A.a_Long
  m_Long : mg "Long" = some (.ref A.a_Long)
  na_Long_number : NoAttr K A.a_Long "number"
  ic_Long : PySem.W.isClsIn K A.a_Long = true
  ty_Long : PySem.W.typeIn K (.ref A.a_Long) = some (.type "type")
  cl_Long : PySem.W.findIn K (.ref A.a_Long) "__class__" = some (some (.builtin "object.__class__"))
  ob_Long : PySem.W.mroIn K A.a_Long (.type "object") = some true
  oi_Long : PySem.W.mroIn K A.a_Long (.type "int") = some false
  c_Ladder : Cls K A.a_Ladder
  m_Ladder : mg "Ladder" = some (.ref A.a_Ladder)
  na_Ladder__a : NoAttr K A.a_Ladder "_a"
  na_Ladder__b : NoAttr K A.a_Ladder "_b"
  na_Ladder__quotients : NoAttr K A.a_Ladder "_quotients"
  na_Ladder__remainders : NoAttr K A.a_Ladder "_remainders"
  ic_Ladder : PySem.W.isClsIn K A.a_Ladder = true
  ty_Ladder : PySem.W.typeIn K (.ref A.a_Ladder) = some (.type "type")
  cl_Ladder : PySem.W.findIn K (.ref A.a_Ladder) "__class__" = some (some (.builtin "object.__class__"))
  ob_Ladder : PySem.W.mroIn K A.a_Ladder (.type "object") = some true
  oi_Ladder : PySem.W.mroIn K A.a_Ladder (.type "int") = some false
  sg : PySem.W.specialIn K (.builtin "object.__class__") "__get__" = some (some (.builtin "getset_descriptor.__get__"))
  tk : PySem.W.takesIn K (.builtin "object.__class__") = some true
  m_InvalidOperation : mg "InvalidOperation" = some (.ref A.a_InvalidOperation)
  x_InvalidOperation : PySem.W.excIn K A.a_InvalidOperation [.type "ValueError", .type "Exception", .type "BaseException", .type "object"] "ValueError.__new__" = true
  k_InvalidOperation : PySem.W.keepIn K (.ref A.a_InvalidOperation) = true
  sb_InvalidOperation : PySem.W.subIn K (.ref A.a_InvalidOperation) (.type "BaseException") = some true
  ty_InvalidOperation : PySem.W.typeIn K (.ref A.a_InvalidOperation) = some (.type "type")
  e_InvalidOperation_InvalidOperation : PySem.W.exmOne K (.ref A.a_InvalidOperation) (.ref A.a_InvalidOperation) = some true
  e_InvalidOperation_InvalidNumber : PySem.W.exmOne K (.ref A.a_InvalidOperation) (.ref A.a_InvalidNumber) = some false
  m_InvalidNumber : mg "InvalidNumber" = some (.ref A.a_InvalidNumber)
  s_InvalidNumber : SupTxt PW K mg "InvalidNumber" "InvalidNumber.__init__" "given" "this is no integer in the range that is wanted" "IndexError" "IndexError.__init__" "IndexError.__new__" [.type "IndexError", .type "LookupError", .type "Exception", .type "BaseException", .type "object"] A.a_InvalidNumber A.i_InvalidNumber
  e_InvalidNumber_InvalidOperation : PySem.W.exmOne K (.ref A.a_InvalidNumber) (.ref A.a_InvalidOperation) = some false
  e_InvalidNumber_InvalidNumber : PySem.W.exmOne K (.ref A.a_InvalidNumber) (.ref A.a_InvalidNumber) = some true
  L__law_right : FunC K "_law_right" "_law_right" s__law_right A.f__law_right A.d__law_right A.cd__law_right
  L_law : FunC K "law" "law" s_law A.f_law A.d_law A.cd_law
  nt__law_right_law : A.tb__law_right ≠ A.tb_law
  eq_Ladder : EqC K A.a_Ladder A.f_Ladder___eq__
  ln_Ladder : PySem.W.findIn K (.ref A.a_Ladder) "__len__" = some (some (.ref A.f_Ladder___len__))
  lf_Ladder : PySem.W.isFn K (.ref A.f_Ladder___len__) = true
  b_len : mg "len" = none
  b_abs : mg "abs" = none
  b_max : mg "max" = none
  b_min : mg "min" = none
  b_isinstance : mg "isinstance" = none
  b_range : mg "range" = none
  b_int : mg "int" = none
  b_bool : mg "bool" = none
  b_tuple : mg "tuple" = none
  b_divmod : mg "divmod" = none
  b_repr : mg "repr" = none
  b_all : mg "all" = none
  m__TOO_LONG : ∃ t, mg "_TOO_LONG" = some (.int (10 ^ 60) t)
  m__TOO_LONG_QUOTIENT : ∃ t, mg "_TOO_LONG_QUOTIENT" = some (.int (10 ^ 12) t)
  m__MAX_QUOTIENTS : ∃ t, mg "_MAX_QUOTIENTS" = some (.int (300) t)
  m_gcd : mg "gcd" = some (.builtin "math.gcd")
  ou_item : UnC K A.a_Ladder A.f_Ladder___getitem__ "__getitem__"
/-- the tables of code objects, and the name that each of their code objects has -/
abbrev TL (A : Ad) : List (Addr × Str) := [(A.tb__law_right, (("_law_right" : Str) ++ ".<locals>.") ++ "<lambda>"), (A.tb_law, (("law" : Str) ++ ".<locals>.") ++ "<lambda>")]
theorem mT__law_right (A : Ad) : (A.tb__law_right, (("_law_right" : Str) ++ ".<locals>.") ++ "<lambda>") ∈ TL A := .head _
theorem hu__law_right {K : PySem.W.Frag} {mg : Str → Option Value} {A : Ad} (T : Txt K mg A) : ∀ p ∈ TL A, p.1 = A.tb__law_right → p.2 = (("_law_right" : Str) ++ ".<locals>.") ++ "<lambda>" := by
  intro p hp e
  simp only [List.mem_cons, List.not_mem_nil, or_false] at hp
  rcases hp with rfl | rfl
  · exact rfl
  · exact absurd e (Ne.symm T.nt__law_right_law)
theorem mT_law (A : Ad) : (A.tb_law, (("law" : Str) ++ ".<locals>.") ++ "<lambda>") ∈ TL A := .tail _ (.head _)
theorem hu_law {K : PySem.W.Frag} {mg : Str → Option Value} {A : Ad} (T : Txt K mg A) : ∀ p ∈ TL A, p.1 = A.tb_law → p.2 = (("law" : Str) ++ ".<locals>.") ++ "<lambda>" := by
  intro p hp e
  simp only [List.mem_cons, List.not_mem_nil, or_false] at hp
  rcases hp with rfl | rfl
  · exact absurd e (T.nt__law_right_law)
  · exact rfl
end Tk

set_option maxHeartbeats 2000000
namespace Tk
open PySem PySem.Spec PyProof.Rows L2 Tc
section
variable {P : Program} {w : World} {K : PySem.W.Frag} {mg : Str → Option Value} {base : Heap} {A : Ad}
theorem rel_int (i : Int) (t : Tok) : RelV (.int i) (Value.int i t) := ⟨t, rfl⟩
theorem rel_ref (a : Addr) : RelV (.ref a) (Value.ref a) := rfl
theorem kit_own {C : Addr} {T : String} (ic : PySem.W.isClsIn K C = true) (ty : PySem.W.typeIn K (.ref C) = some (.type "type")) (h : (PySem.fastBuiltinMro T).map (fun l => l.all fun v => match v with | .type _ => true | _ => false) = some true) : PySem.W.kitOne K (.type T) (.ref C) = some false := by
  have e1 : ((PySem.W.clsIn K C).isSome && PySem.W.typeIn K (.ref C) == some (.type "type")) = true := by
    have h2 : (PySem.W.clsIn K C).isSome = true := ic
    rw [h2, ty]
    rfl
  show (if (Value.type T == Value.ref C) = true then some true else (if ((PySem.W.clsIn K C).isSome && PySem.W.typeIn K (.ref C) == some (.type "type")) = true then PySem.W.subIn K (.type T) (.ref C) else none)) = some false
  rw [if_neg (by intro z; cases eq_of_beq z), if_pos e1]
  show (PySem.fastBuiltinMro T).map (·.contains (Value.ref C)) = some false
  cases e : PySem.fastBuiltinMro T with
  | none => rw [e] at h; cases h
  | some l =>
    rw [e] at h
    have h' : (l.all fun v => match v with | .type _ => true | _ => false) = true := Option.some.inj h
    show some (l.contains (Value.ref C)) = some false
    congr 1
    cases q : l.contains (Value.ref C) with
    | false => rfl
    | true =>
      have m := List.contains_iff_mem.mp q
      have := List.all_eq_true.mp h' _ m
      cases this
theorem ty_ins {C p dx : Addr} {fs : List (Str × V)} {H : Hp} (h : H p = some (.ins C dx fs)) (c : Cls K C) (cl : PySem.W.findIn K (.ref C) "__class__" = some (some (.builtin "object.__class__"))) (ob : PySem.W.mroIn K C (.type "object") = some true) (T : Txt K mg A) : TyX K H (.ref p) (.ref C) :=
  .base (.ins h c cl T.sg T.tk ob)
theorem kit_self {C : Addr} : PySem.W.kitOne K (.ref C) (.ref C) = some true := by
  unfold PySem.W.kitOne
  rw [if_pos (beq_self_eq_true _)]
theorem lk_here {k : Str} {v : V} {r : List (Str × V)} : List.lookup k ((k, v) :: r) = some v := by
  have e : (k == k) = true := beq_self_eq_true k
  simp only [List.lookup, e]
theorem lk_past {k g : Str} {v : V} {r : List (Str × V)} (h : (k == g) = false) : List.lookup k ((g, v) :: r) = List.lookup k r := by
  simp only [List.lookup, h]
theorem put_past {f g : Str} {v x : V} {r : List (Str × V)} (h : ¬ g = f) : putF f v ((g, x) :: r) = (g, x) :: putF f v r := if_neg h
theorem kit_int {C : Addr} (h : PySem.W.mroIn K C (.type "int") = some false) : PySem.W.kitOne K (.ref C) (.type "int") = some false := by
  show (if (Value.ref C == Value.type "int") = true then some true else PySem.W.kitCls K (.ref C) (.type "int")) = some false
  rw [if_neg (by intro z; cases eq_of_beq z)]
  show (if PySem.W.kitMeta "int" = true then PySem.W.subIn K (.ref C) (.type "int") else none) = some false
  rw [if_pos (by decide +kernel)]
  exact h
/- ints alone -/
def sp_is_any_integer : Sp := fun vs H Q _ => ∃ i : Int, vs = [.int i] ∧ Q (.bl true) H
def Short (i : Int) : Prop := -(10 ^ 60) < i ∧ i < 10 ^ 60
def NotInt (K : PySem.W.Frag) (H : Hp) (v : V) : Prop := ∃ t, TyX K H v t ∧ PySem.W.kitOne K t (.type "int") = some false
def sp_is_short_integer (K : PySem.W.Frag) : Sp := fun vs H Q _ => ∃ v, vs = [v] ∧ ((∃ i : Int, v = .int i ∧ Short i ∧ Q (.bl true) H) ∨ (NotInt K H v ∧ Q (.bl false) H))
theorem ok_is_short_integer (T : Txt K mg A) : FnOk P w K mg base CX0 2 A.f_is_short_integer A.d_is_short_integer ["value"] (sp_is_short_integer K) := by
  refine T.F_is_short_integer.ok sc_is_short_integer (fun vs H Q E h => ?_) (fun cdv Ar outer s H vs Q E hr h => ?_)
  · obtain ⟨v, rfl, _⟩ := h
    rfl
  · obtain ⟨v, rfl, k⟩ := h
    have hu := hu_of hr
    refine ⟨_, (pss_one (ps_ret (pe_and (pe_callB call_isi (by rfl) T.b_isinstance (by decide +kernel) (pa_cons (pv 0) (pa_cons (pe_bltn (v := .ty "int") (by rfl) T.b_int (by decide +kernel) rfl) pa_nil))) (pe_and (pe_cmpR op_notIB (pv 0) pe_bl (nomark _)) (pe_and (pe_cmpR op_notIB (pv 0) pe_bl (nomark _)) (pe_one (pe_chain op_lt op_lt (pe_un un_neg (pe_glob rfl T.m__TOO_LONG.choose_spec (rel_int _ _))) (pv 0) (pe_glob rfl T.m__TOO_LONG.choose_spec (rel_int _ _))))))))), ?_⟩
    rcases k with ⟨i, rfl, hi, k⟩ | ⟨⟨t, h1, h2⟩, k⟩
    · refine ⟨_, rfl, _, _, _, _, true, rfl, .ty "int", .base (.int i), kit_ty (by decide +kernel), _, rfl, ?_⟩
      refine iteT ?_
      refine ⟨_, rfl, _, _, rfl, rfl, _, rfl, ?_⟩
      refine iteT ?_
      refine ⟨_, rfl, _, _, rfl, rfl, _, rfl, ?_⟩
      refine iteT ?_
      refine ⟨_, rfl, _, rfl, _, _, rfl, rfl, _, rfl, ?_⟩
      rw [decide_eq_true hi.1]
      refine iteT ?_
      refine ⟨_, _, rfl, rfl, ?_⟩
      show Q (V.bl (decide (i < 10 ^ 60))) H
      rw [decide_eq_true hi.2]
      exact k
    · refine ⟨_, rfl, _, _, _, _, false, rfl, .ty "int", h1, h2, _, rfl, ?_⟩
      refine iteF ?_
      exact k
end
end Tk

set_option maxHeartbeats 2000000
namespace Tk
open PySem PySem.Spec PyProof.Rows L2 Tc
section
variable {P : Program} {w : World} {K : PySem.W.Frag} {mg : Str → Option Value} {base : Heap} {A : Ad}
/- an int that may be passed, or one of any length within a Long -/
inductive Num (A : Ad) (H : Hp) : V → Int → Prop where
  | int {i : Int} (h : Short i) : Num A H (.int i) i
  | long {p dx : Addr} {i : Int} (h : H p = some (.ins A.a_Long dx [("number", .int i)])) : Num A H (.ref p) i
def sp_checked_integer (A : Ad) : Sp := fun vs H Q _ => ∃ (v : V) (i : Int), vs = [v] ∧ Num A H v i ∧ Q (.int i) H
theorem ok_checked_integer (T : Txt K mg A) : FnOk P w K mg base CX0 4 A.f_checked_integer A.d_checked_integer ["value"] (sp_checked_integer A) := by
  refine T.F_checked_integer.ok sc_checked_integer (fun vs H Q E h => ?_) (fun cdv Ar outer s H vs Q E hr h => ?_)
  · obtain ⟨v, i, rfl, _⟩ := h
    rfl
  · obtain ⟨v, i, rfl, hv, k⟩ := h
    have hu := hu_of hr
    refine ⟨_, (pss_cons (ps_if (pt_val (pe_call (ok_is_short_integer T) (hr.mono (by decide)) rfl T.m_is_short_integer T.F_is_short_integer.kp T.b_is_short_integer .nil pass0 (pa_cons (pv 0) pa_nil)))
        (pss_one (ps_ret (pv 0)))
        pss_nil)
      (pss_cons (ps_if (pt_val (pe_callB call_isi (by rfl) T.b_isinstance (by decide +kernel) (pa_cons (pv 0) (pa_cons (pe_glob rfl T.m_Long (rel_ref _)) pa_nil))))
        (pss_one (ps_ret (pe_fld (pv 0) rfl)))
        pss_nil)
      (pss_one ps_never))), ?_⟩
    cases hv with
    | int hi =>
      refine ⟨_, rfl, _, rfl, .inl ⟨i, rfl, hi, _, rfl, ?_⟩⟩
      refine iteT ?_
      exact ⟨_, rfl, k⟩
    | @long p dx i hp =>
      refine ⟨_, rfl, _, rfl, .inr ⟨⟨_, ty_ins hp T.c_Long T.cl_Long T.ob_Long T, kit_int T.oi_Long⟩, _, rfl, ?_⟩⟩
      refine iteF ?_
      refine ⟨_, rfl, _, _, _, _, true, rfl, .own A.a_Long, ty_ins hp T.c_Long T.cl_Long T.ob_Long T, kit_self, _, rfl, ?_⟩
      refine iteT ?_
      exact ⟨_, rfl, p, A.a_Long, dx, _, _, rfl, hp, T.c_Long, T.na_Long_number, lk_here, k⟩
def sp_checked_from (A : Ad) : Sp := fun vs H Q _ => ∃ (l : Int) (v : V) (i : Int), vs = [.int l, v] ∧ Num A H v i ∧ l ≤ i ∧ Q (.int i) H
theorem ok_checked_from (T : Txt K mg A) : FnOk P w K mg base CX0 5 A.f_checked_from A.d_checked_from ["least", "value"] (sp_checked_from A) := by
  refine T.F_checked_from.ok sc_checked_from (fun vs H Q E h => ?_) (fun cdv Ar outer s H vs Q E hr h => ?_)
  · obtain ⟨l, v, i, rfl, _⟩ := h
    rfl
  · obtain ⟨l, v, i, rfl, hv, hl, k⟩ := h
    have hu := hu_of hr
    refine ⟨_, (pss_cons (ps_set (i := 2) sc_checked_from.nd rfl (Or.inl rfl) (pe_call (ok_checked_integer T) (hr.mono (by decide)) rfl T.m_checked_integer T.F_checked_integer.kp T.b_checked_integer .nil pass0 (pa_cons (pv 1) pa_nil)))
      (pss_cons (ps_if (pt_cmpR op_lt (pv 2) (pv 0) (nomark _))
        (pss_one ps_never)
        pss_nil)
      (pss_one (ps_ret (pv 2))))), ?_⟩
    refine ⟨_, rfl, v, i, rfl, hv, ?_⟩
    refine ⟨_, rfl, _, rfl, _, _, rfl, rfl, _, rfl, ?_⟩
    rw [decide_eq_false (by omega)]
    refine iteF ?_
    exact ⟨_, rfl, k⟩
def sp_checked_pair (A : Ad) : Sp := fun vs H Q _ => ∃ (u v : V) (a b : Int), vs = [u, v] ∧ Num A H u a ∧ Num A H v b ∧ 1 ≤ b ∧ ∀ p H', H p = none → Same H H' → H' p = some (.tup [.int a, .int b]) → Q (.ref p) H'
theorem ok_checked_pair (T : Txt K mg A) : FnOk P w K mg base CX0 6 A.f_checked_pair A.d_checked_pair ["a", "b"] (sp_checked_pair A) := by
  refine T.F_checked_pair.ok sc_checked_pair (fun vs H Q E h => ?_) (fun cdv Ar outer s H vs Q E hr h => ?_)
  · obtain ⟨u, v, a, b, rfl, _⟩ := h
    rfl
  · obtain ⟨u, v, a, b, rfl, ha, hb, h1, k⟩ := h
    have hu := hu_of hr
    refine ⟨_, (pss_cons (ps_if (PW.pt (pw_and (pt_val (pe_callB call_isi (by rfl) T.b_isinstance (by decide +kernel) (pa_cons (pv 0) (pa_cons (pe_bltn (v := .ty "int") (by rfl) T.b_int (by decide +kernel) rfl) pa_nil)))) (pw_and (pt_val (pe_callB call_isi (by rfl) T.b_isinstance (by decide +kernel) (pa_cons (pv 1) (pa_cons (pe_bltn (v := .ty "int") (by rfl) T.b_int (by decide +kernel) rfl) pa_nil)))) (pw_and (pt_cmpR op_notIB (pv 0) pe_bl (nomark _)) (pw_and (pt_cmpR op_notIB (pv 0) pe_bl (nomark _)) (pw_and1 (pt_cmpR op_notIB (pv 1) pe_bl (nomark _))))))))
        (pss_one (ps_if (PW.pt (pw_and (pt_chain op_lt op_lt (pe_un un_neg (pe_glob rfl T.m__TOO_LONG.choose_spec (rel_int _ _))) (pv 0) (pe_glob rfl T.m__TOO_LONG.choose_spec (rel_int _ _))) (pw_and1 (pt_chain op_lt op_lt pe_int (pv 1) (pe_glob rfl T.m__TOO_LONG.choose_spec (rel_int _ _))))))
            (pss_one (ps_ret (pe_tup (pa_cons (pv 0) (pa_cons (pv 1) pa_nil)))))
            pss_nil))
        pss_nil)
      (pss_one (ps_ret (pe_tup (pa_cons (pe_call (ok_checked_integer T) (hr.mono (by decide)) rfl T.m_checked_integer T.F_checked_integer.kp T.b_checked_integer .nil pass0 (pa_cons (pv 0) pa_nil)) (pa_cons (pe_call (ok_checked_from T) (hr.mono (by decide)) rfl T.m_checked_from T.F_checked_from.kp T.b_checked_from .nil pass0 (pa_cons pe_int (pa_cons (pv 1) pa_nil))) pa_nil)))))), ?_⟩
    have fin : ∀ p, H p = none → Q (.ref p) (upd H p (.tup [.int a, .int b])) := fun p hp => k p _ hp (fun b o e => by rw [upd_ne (ne_of_none e hp)]; exact e) upd_same
    cases ha with
    | int hi =>
      refine ⟨_, rfl, _, _, _, _, true, rfl, .ty "int", .base (.int a), kit_ty (by decide +kernel), _, rfl, ?_⟩
      refine iteT ?_
      cases hb with
      | int hj =>
        refine ⟨_, rfl, _, _, _, _, true, rfl, .ty "int", .base (.int b), kit_ty (by decide +kernel), _, rfl, ?_⟩
        refine iteT ?_
        refine ⟨_, rfl, _, _, rfl, rfl, _, rfl, ?_⟩
        refine iteT ?_
        refine ⟨_, rfl, _, _, rfl, rfl, _, rfl, ?_⟩
        refine iteT ?_
        refine ⟨_, rfl, _, _, rfl, rfl, _, rfl, ?_⟩
        refine iteT ?_
        refine ⟨_, rfl, _, rfl, _, _, rfl, rfl, _, rfl, ?_⟩
        rw [decide_eq_true hi.1]
        refine iteT ?_
        refine ⟨_, _, rfl, rfl, _, rfl, ?_⟩
        rw [decide_eq_true hi.2]
        refine iteT ?_
        refine ⟨_, rfl, _, _, rfl, rfl, _, rfl, ?_⟩
        rw [decide_eq_true (show 0 < b by omega)]
        refine iteT ?_
        refine ⟨_, _, rfl, rfl, _, rfl, ?_⟩
        rw [decide_eq_true hj.2]
        refine iteT ?_
        exact ⟨_, rfl, _, rfl, by show 2 ≤ sizeLine; decide, fin⟩
      | @long p dx j hp =>
        refine ⟨_, rfl, _, _, _, _, false, rfl, .ty "int", ty_ins hp T.c_Long T.cl_Long T.ob_Long T, kit_int T.oi_Long, _, rfl, ?_⟩
        refine iteF ?_
        refine iteF ?_
        exact ⟨_, rfl, _, a, rfl, .int hi, _, rfl, 1, _, b, rfl, .long hp, h1, by show 2 ≤ sizeLine; decide, fin⟩
    | @long p dx i hp =>
      refine ⟨_, rfl, _, _, _, _, false, rfl, .ty "int", ty_ins hp T.c_Long T.cl_Long T.ob_Long T, kit_int T.oi_Long, _, rfl, ?_⟩
      refine iteF ?_
      refine iteF ?_
      exact ⟨_, rfl, _, a, rfl, .long hp, _, rfl, 1, _, b, rfl, hb, h1, by show 2 ≤ sizeLine; decide, fin⟩
def sp_Long___init__ (A : Ad) : Sp := fun vs H Q _ => ∃ (p dx : Addr) (v : V), vs = [.ref p, v] ∧ H p = some (.ins A.a_Long dx []) ∧ ∀ H', H' p = some (.ins A.a_Long dx [("number", v)]) → (∀ x o, H x = some o → x ≠ p → H' x = some o) → Q .non H'
theorem ok_Long___init__ (T : Txt K mg A) : FnOk P w K mg base CX0 1 A.f_Long___init__ A.d_Long___init__ ["self", "number"] (sp_Long___init__ A) := by
  refine T.F_Long___init__.ok sc_Long___init__ (fun vs H Q E h => ?_) (fun cdv Ar outer s H vs Q E hr h => ?_)
  · obtain ⟨p, dx, v, rfl, _⟩ := h
    rfl
  · obtain ⟨p, dx, v, rfl, hp, k⟩ := h
    have hu := hu_of hr
    refine ⟨_, (pss_one (ps_fld (pv 0) (pv 1) rfl)), ?_⟩
    refine ⟨_, rfl, _, rfl, p, A.a_Long, dx, [], rfl, hp, T.c_Long, T.na_Long_number, by show 0 < 1000; decide, ?_⟩
    exact k _ upd_same fun x o e ne => by rw [upd_ne ne]; exact e
end
end Tk

set_option maxHeartbeats 2000000
namespace Tk
open PySem PySem.Spec PyProof.Rows L2 Tc
section
variable {P : Program} {w : World} {K : PySem.W.Frag} {mg : Str → Option Value} {base : Heap} {A : Ad}
open Tm
local macro_rules | `(tactic| walk_at "arr") => `(tactic| first
  | with_reducible assumption
  | ((with_reducible apply same_new); with_reducible assumption))
local macro_rules | `(tactic| walk_at "f") => `(tactic| first
  | with_reducible assumption
  | with_reducible exact upd_same
  | with_reducible exact Same.refl _
  | with_reducible exact Frm.refl
  | ((with_reducible apply sqL_K); (focus with_reducible assumption); rfl)
  | ((with_reducible apply sqT_K); (focus with_reducible assumption); rfl)
  | ((with_reducible apply SqT.of); walk_at "f")
  | ((with_reducible apply SqL.of); walk_at "f")
  | ((with_reducible apply back_raw); (focus walk_at "arr"); walk_at "f")
  | ((with_reducible apply frm_tup); (focus with_reducible assumption); (focus walk_at "f"); (focus walk_at "f"); (focus (intro _ z; cases z; done)))
  | ((with_reducible apply frm_raw); (focus with_reducible assumption); (focus walk_at "f"); walk_at "f")
  | ((with_reducible apply bowl_back); (focus walk_at "arr"); walk_at "f")
  | ((with_reducible apply bowl_ne); (focus with_reducible assumption); walk_at "f")
  | ((with_reducible apply Num.int); with_reducible assumption)
  | ((with_reducible apply same_snoc); (focus walk_at "arr"); walk_at "f")
  | ((with_reducible apply frm_back); (focus walk_at "arr"); walk_at "f")
  | ((with_reducible apply frm_backF); (focus with_reducible assumption); walk_at "f")
  | ((with_reducible apply back_sqT); (focus walk_at "arr"); walk_at "f")
  | ((with_reducible apply same_sqL); (focus walk_at "arr"); walk_at "f")
  | ((with_reducible apply free_same); (focus with_reducible assumption); walk_at "f")
  | ((with_reducible apply free_frm); (focus with_reducible assumption); (focus with_reducible assumption); walk_at "f")
  | ((with_reducible apply frm_sqL); (focus with_reducible assumption); (focus walk_at "f"); walk_at "f"))
local macro_rules | `(tactic| walk_at "bt") => `(tactic| first
  | with_reducible assumption
  | ((with_reducible apply bt_mul); (focus walk_at "bt"); walk_at "bt")
  | ((with_reducible apply bt_add); (focus walk_at "bt"); walk_at "bt")
  | ((with_reducible apply bt_sub); (focus walk_at "bt"); walk_at "bt")
  | ((with_reducible apply bt_neg); walk_at "bt")
  | ((with_reducible apply bt_div); walk_at "bt")
  | ((with_reducible apply bt_mod); (focus (first | assumption | omega)); walk_at "bt")
  | exact bt_lit (n := 64) (by decide)
  | exact bt_lit (n := 200) (by decide +kernel))
local macro_rules | `(tactic| walk_at "lin") => `(tactic| first
  | exact (by decide : 1 ≤ sizeLine) | exact (by decide : 2 ≤ sizeLine) | exact (by decide : 3 ≤ sizeLine) | exact (by decide : 4 ≤ sizeLine) | exact (by decide : 0 ≤ sizeLine) | exact (by decide : 5 ≤ sizeLine) | exact (by decide : 6 ≤ sizeLine))
local macro_rules | `(tactic| walk_at "dp") => `(tactic| first
  | exact Dp.int _
  | exact DpAll.nil
  | ((with_reducible apply Dp.lst); (focus walk_at "f"); walk_at "dp")
  | ((with_reducible apply Dp.tup); (focus walk_at "f"); walk_at "dp")
  | ((with_reducible apply DpAll.cons); (focus walk_at "dp"); walk_at "dp"))
local macro_rules | `(tactic| walk_at "sv") => `(tactic| first
  | with_reducible rfl
  | walk_at "f"
  | exact rfl
  | walk_at "dp"
  | exact shp_lst [_] | exact shp_lst [_, _] | exact shp_lst [_, _, _] | exact shp_lst [_, _, _, _] | exact shp_tup [_, _] | exact shp_tup [_, _, _]
  | ((apply tyV_lst); walk_at "f")
  | ((with_reducible apply bt_mulW); (focus walk_at "bt"); (focus walk_at "bt"); (focus (first | decide | omega)))
  | ((with_reducible apply bt_divW); (focus (first | decide | assumption | omega)); (focus walk_at "bt"); (focus (first | decide | omega)))
  | ((with_reducible apply bt_divP); (focus (first | decide | assumption | omega)); (focus walk_at "bt"); (focus (first | decide | omega)))
  | exact ⟨by decide, by decide +kernel⟩
  | exact Or.inl (by decide)
  | exact Or.inr (by decide)
  | exact Or.inl ⟨by omega, by omega⟩
  | exact Or.inr ⟨by omega, by omega⟩
  | ((with_reducible apply Or.inl); walk_at "sv")
  | ((with_reducible apply Or.inr); walk_at "sv")
  | ((with_reducible apply Exists.intro); walk_at "sv")
  | ((with_reducible apply And.intro); (focus walk_at "sv"); walk_at "sv")
  | walk_at "lin"
  | decide
  | omega
  | (simp only [List.length_cons, List.length_nil, List.length_map]; first | done | omega))
local macro_rules | `(tactic| walk_at "one") => `(tactic| first
  | ((fail_if_success refine' @Exists.intro (Nat → L2.St → Hp → Prop) _ ?_ ?_); (fail_if_success refine' @Exists.intro (Nat → Nat → L2.St → Hp → Prop) _ ?_ ?_); (fail_if_success refine' @Exists.intro (L2.St → Hp → Prop) _ ?_ ?_); (fail_if_success refine' @Exists.intro (Nat → Nat → Hp → Prop) _ ?_ ?_); (fail_if_success refine' @Exists.intro (Hp → Prop) _ ?_ ?_); apply Exists.intro)
  | (apply And.intro; (focus walk_at "sv"))
  | intro _
  | (apply ifT; (focus rfl))
  | (apply ifF; (focus rfl))
  | ((apply Or.inl); (apply Exists.intro); (apply And.intro); (focus exact rfl))
  | ((apply Or.inl); (apply And.intro); (focus walk_at "f"))
  | ((apply Or.inr); (apply Exists.intro); (apply And.intro); (focus exact rfl))
  | (apply ifTd; (focus (first | assumption | omega)))
  | (apply ifFd; (focus (first | assumption | omega))))
local macro_rules | `(tactic| walk_at "go") => `(tactic| repeat walk_at "one")
local macro_rules | `(tactic| walk_at "nm") => `(tactic| try simp only [List.set_cons_zero, List.set_cons_succ])
local macro_rules | `(tactic| walk_at "gon") => `(tactic| repeat (walk_at "one"; walk_at "nm"))
theorem bits_gt {b : Int} (h : 0 < b) : 4 * b < 2 ^ (((Builtin.Int.intBits b : Nat) : Int) + 2).toNat := by
  have e : (((Builtin.Int.intBits b : Nat) : Int) + 2).toNat = Builtin.Int.intBits b + 2 := by omega
  rw [e]
  have e2 : Builtin.Int.intBits b = b.natAbs.log2 + 1 := by
    unfold Builtin.Int.intBits
    rw [if_neg (by intro z; have := eq_of_beq z; omega)]
  have l : b.natAbs < 2 ^ (b.natAbs.log2 + 1) := Nat.lt_log2_self
  rw [← e2] at l
  have e3 : (((2 : Nat) ^ (Builtin.Int.intBits b) : Nat) : Int) = 2 ^ (Builtin.Int.intBits b) := by norm_cast
  have e4 : (2 : Int) ^ (Builtin.Int.intBits b + 2) = 2 ^ (Builtin.Int.intBits b) * 4 := by
    rw [Int.pow_add]
    rfl
  omega
theorem bits_shl {x b : Int} (hx : x.natAbs < 2 ^ 500) (hb : b.natAbs < 2 ^ 500) : CShl x (((Builtin.Int.intBits b : Nat) : Int) + 2) := by
  have h := PyProof.Rows.intBits_le hb
  have c := shl_ok (i := x) (j := Builtin.Int.intBits b + 2) hx (by omega)
  exact c
def sp_inverse_or_none : Sp := fun vs H Q _ => ∃ a b : Int, vs = [.int a, .int b] ∧ 1 ≤ b ∧ b.natAbs < 2 ^ 500 ∧
  (Int.gcd a b = 1 → ∀ v, 0 ≤ v → v < b → b ∣ (a * v - 1) → Q (.int v) H) ∧ (Int.gcd a b ≠ 1 → Q .non H)
theorem ok_inverse_or_none (T : Txt K mg A) : FnOk P w K mg base CX0 1 A.f_inverse_or_none A.d_inverse_or_none ["a", "b"] sp_inverse_or_none := by
  refine T.F_inverse_or_none.ok sc_inverse_or_none (fun vs H Q E h => ?_) (fun cdv Ar outer s H vs Q E hr h => ?_)
  · obtain ⟨_, _, rfl, _⟩ := h
    rfl
  · obtain ⟨a, b, rfl, h1, hb, k1, k2⟩ := h
    have hu := hu_of hr
    refine ⟨_, (pss_cons (ps_set (i := 2) sc_inverse_or_none.nd rfl (Or.inl rfl) (pe_op op_add (pe_bits (pv 1)) pe_int))
      (pss_cons (ps_par (i := 3) (j := 4) (by rfl) sc_inverse_or_none.nd rfl rfl (by decide) rfl rfl (pa_cons (pe_op op_shlW (pv 1) (pv 2)) (pa_cons (pe_op op_add (pe_op op_shlW (pe_op op_mod (pv 0) (pv 1)) (pv 2)) pe_int) pa_nil)) (by rfl))
      (pss_cons (ps_while PassesOwn.never (pt_cmpR op_gt (pv 4) (pv 1) (nomark _))
        (pss_cons (ps_set (i := 3) sc_inverse_or_none.nd rfl (Or.inl rfl) (pe_op op_mod (pv 3) (pv 4)))
          (pss_one (ps_set (i := 4) sc_inverse_or_none.nd rfl (Or.inl rfl) (pe_op op_mod (pv 4) (pv 3))))))
      (pss_one (ps_ret (pe_ifExp (pt_cmpR op_eq (pv 4) (pv 1) (nomark _)) (pe_op op_mod (pe_op op_sub (pv 3) (pe_op op_shlW pe_int (pv 2))) (pv 1)) pe_non)))))), ?_⟩
    have m0 := Int.emod_nonneg a (show b ≠ 0 by omega)
    have m1 := Int.emod_lt_of_pos a (show 0 < b by omega)
    have c1 := bits_shl hb hb
    have c2 := bits_shl (x := a % b) (by omega) hb
    have c3 := bits_shl (x := 1) (Nat.lt_of_lt_of_le (show (1 : Int).natAbs < 2 ^ 1 by decide) (Nat.pow_le_pow_right (by decide) (by decide))) hb
    have hB := bits_gt (b := b) (by omega)
    walk_at "go"
    refine ⟨fun m' σ H' => Stop (∃ (U L : Int), m' = L.toNat ∧ σ = [some (.int a), some (.int b), some (.int (((Builtin.Int.intBits b : Nat) : Int) + 2)), some (.int U), some (.int L)] ∧ H' = H ∧
      (IvN a b (2 ^ (((Builtin.Int.intBits b : Nat) : Int) + 2).toNat) U L ∨ IvE a b (2 ^ (((Builtin.Int.intBits b : Nat) : Int) + 2).toNat) U L)), ⟨_, ⟨_, _, rfl, rfl, rfl, .inl (ivN_start (by omega))⟩⟩, ?_⟩
    rintro m' σ H1 ⟨⟨U, L, rfl, rfl, rfl, inv⟩⟩
    walk_at "go"
    refine ite2 (fun hy => ?_) (fun hy => ?_)
    · have hy : b < L := of_decide_eq_true hy
      have hN : IvN a b (2 ^ (((Builtin.Int.intBits b : Nat) : Int) + 2).toNat) U L := by
        rcases inv with z | z
        · exact z
        · have := ivE_end z
          omega
      obtain ⟨g1, g2, g3, g4⟩ := ivN_go (by omega) hB hN hy
      refine pass_body ?_
      walk_at "go"
      exact ⟨_, (show (L % (U % L)).toNat < L.toNat by omega), ⟨_, _, rfl, rfl, rfl, g4⟩⟩
    · have hy : ¬ b < L := fun z => hy (decide_eq_true z)
      obtain ⟨f1, f2⟩ := iv_fin (by omega) hB inv hy
      walk_at "go"
      refine ite2 (fun he => ?_) (fun he => ?_)
      · have he : L = b := of_decide_eq_true ((dec_int' L b).symm.trans he)
        obtain ⟨g, d⟩ := f1 he
        have w0 := Int.emod_nonneg (U - 2 ^ (((Builtin.Int.intBits b : Nat) : Int) + 2).toNat) (show b ≠ 0 by omega)
        have w1 := Int.emod_lt_of_pos (U - 2 ^ (((Builtin.Int.intBits b : Nat) : Int) + 2).toNat) (show 0 < b by omega)
        have e := k1 g _ w0 w1 d
        have e1 : (1 : Int) * 2 ^ (((Builtin.Int.intBits b : Nat) : Int) + 2).toNat = 2 ^ (((Builtin.Int.intBits b : Nat) : Int) + 2).toNat := Int.one_mul _
        rw [← e1] at e
        walk_at "go"
        exact e
      · have he : L ≠ b := fun z => he ((dec_int' L b).trans (decide_eq_true z))
        have e := k2 (fun z => he (f2 z))
        walk_at "go"
        exact e
end
end Tk

set_option maxHeartbeats 2000000
namespace Tk
open PySem PySem.Spec PyProof.Rows L2 Tc
section
variable {P : Program} {w : World} {K : PySem.W.Frag} {mg : Str → Option Value} {base : Heap} {A : Ad}
open Tm
theorem snoc_map {α β : Type} (f : α → β) (xs : List α) (x : α) : xs.map f ++ [f x] = (xs ++ [x]).map f := by rw [List.map_append]; rfl
/- tuples of two ints, one after another -/
inductive PrA (H : Hp) : List Addr → List (Int × Int) → Prop where
  | nil : PrA H [] []
  | cons {a : Addr} {c : Int × Int} {as : List Addr} {cs : List (Int × Int)} (h : H a = some (.tup [.int c.1, .int c.2])) (t : PrA H as cs) : PrA H (a :: as) (c :: cs)
theorem PrA.snoc {H : Hp} {a : Addr} {c : Int × Int} (h : H a = some (.tup [.int c.1, .int c.2])) : ∀ {as : List Addr} {cs : List (Int × Int)}, PrA H as cs → PrA H (as ++ [a]) (cs ++ [c])
  | _, _, .nil => .cons h .nil
  | _, _, .cons h' t => .cons h' (PrA.snoc h t)
theorem PrA.len {H : Hp} : ∀ {as : List Addr} {cs : List (Int × Int)}, PrA H as cs → as.length = cs.length
  | _, _, .nil => rfl
  | _, _, .cons _ t => congrArg (· + 1) t.len
/- tuples stay -/
def Tups (H H' : Hp) : Prop := ∀ b xs, H b = some (.tup xs) → H' b = some (.tup xs)
theorem Same.tups {H H' : Hp} (e : Same H H') : Tups H H' := fun b xs h => e b _ h
theorem PrA.stay {H H' : Hp} (e : Tups H H') : ∀ {as : List Addr} {cs : List (Int × Int)}, PrA H as cs → PrA H' as cs
  | _, _, .nil => .nil
  | _, _, .cons h t => .cons (e _ _ h) (t.stay e)
theorem PrA.get {H : Hp} : ∀ {as : List Addr} {cs : List (Int × Int)} {i : Nat} {c : Int × Int}, PrA H as cs → cs[i]? = some c → ∃ a, as[i]? = some a ∧ H a = some (.tup [.int c.1, .int c.2])
  | _, _, 0, _, .cons h _, e => ⟨_, rfl, by cases e; exact h⟩
  | _, _, i + 1, _, .cons _ t, e => PrA.get (i := i) t (by simpa using e)
theorem same_new {H : Hp} {p : Addr} {o : HO} (h : H p = none) : Same H (upd H p o) := fun b u e => by
  rw [upd_ne (ne_of_none e h)]
  exact e
/- a thing that H did not know is changed -/
theorem same_mut {H H' : Hp} {p : Addr} {o : HO} (e : Same H H') (h : H p = none) : Same H (upd H' p o) := fun b u q => by
  rw [upd_ne (ne_of_none q h)]
  exact e b u q
theorem lt_line {n : Nat} (h : n < 100000) : n < sizeLine := Nat.lt_of_lt_of_le h (by decide)
def sp__euclid_steps : Sp := fun vs H Q _ => ∃ a b : Int, vs = [.int a, .int b] ∧ 1 ≤ b ∧ b < 2 ^ 400 ∧
  ∀ p q r H', Same H H' → H' p = some (.tup [.ref q, .ref r]) → H' q = some (.tup ((quos a b).map V.int)) → H' r = some (.tup ((rems a b).map V.int)) → Q (.ref p) H'
theorem ok__euclid_steps (T : Txt K mg A) : FnOk P w K mg base CX0 1 A.f__euclid_steps A.d__euclid_steps ["a", "b"] sp__euclid_steps := by
  refine T.F__euclid_steps.ok sc__euclid_steps (fun vs H Q E h => ?_) (fun cdv Ar outer s H vs Q E hr h => ?_)
  · obtain ⟨a, b, rfl, _⟩ := h
    rfl
  · obtain ⟨a, b, rfl, h1, hb, k⟩ := h
    have hu := hu_of hr
    refine ⟨_, (pss_cons (ps_asg (pe_callB call_divmodW (by rfl) T.b_divmod (by decide +kernel) (pa_cons (pv 0) (pa_cons (pv 1) pa_nil))) (pg_tup rfl (pgs_cons (pg_name (i := 2) sc__euclid_steps.nd rfl (Or.inl rfl)) (pgs_cons (pg_name (i := 3) sc__euclid_steps.nd rfl (Or.inl rfl)) pgs_nil))))
      (pss_cons (ps_set (i := 4) sc__euclid_steps.nd rfl (Or.inl rfl) (pe_lst (pa_cons (pv 2) pa_nil)))
      (pss_cons (ps_set (i := 5) sc__euclid_steps.nd rfl (Or.inl rfl) (pe_lst (pa_cons (pv 1) pa_nil)))
      (pss_cons (ps_while PassesOwn.never (pt_truth (pv 3) (fun _ => rfl))
        (pss_cons (ps_expr (pe_bm PySem.F.plainAttrs_list PySem.F.slot_list_append PySem.F.type_list_append mt_append (pv 5) (pa_cons (pv 3) pa_nil)))
          (pss_cons (ps_par (i := 0) (j := 1) (by rfl) sc__euclid_steps.nd rfl rfl (by decide) rfl rfl (pa_cons (pv 1) (pa_cons (pv 3) pa_nil)) (by rfl))
          (pss_cons (ps_set (i := 3) sc__euclid_steps.nd rfl (Or.inl rfl) (pe_op op_sub (pv 0) (pv 1)))
          (pss_one (ps_if (pt_cmpR op_lt (pv 3) (pv 1) (nomark _))
            (pss_one (ps_expr (pe_bm PySem.F.plainAttrs_list PySem.F.slot_list_append PySem.F.type_list_append mt_append (pv 4) (pa_cons pe_int pa_nil))))
            (pss_cons (ps_asg (pe_callB call_divmodW (by rfl) T.b_divmod (by decide +kernel) (pa_cons (pv 0) (pa_cons (pv 1) pa_nil))) (pg_tup rfl (pgs_cons (pg_name (i := 2) sc__euclid_steps.nd rfl (Or.inl rfl)) (pgs_cons (pg_name (i := 3) sc__euclid_steps.nd rfl (Or.inl rfl)) pgs_nil))))
              (pss_one (ps_expr (pe_bm PySem.F.plainAttrs_list PySem.F.slot_list_append PySem.F.type_list_append mt_append (pv 4) (pa_cons (pv 2) pa_nil)))))))))))
      (pss_one (ps_ret (pe_tup (pa_cons (pe_callTy call_tuple_of (by rfl) T.b_tuple (by decide +kernel) (pa_cons (pv 4) pa_nil)) (pa_cons (pe_callTy call_tuple_of (by rfl) T.b_tuple (by decide +kernel) (pa_cons (pv 5) pa_nil)) pa_nil))))))))), ?_⟩
    have cd : CDivP a b := divp_wide (wide_div (b := 400) (by omega) (by omega) (by decide) (by decide))
    refine ⟨_, rfl, _, rfl, _, _, rfl, cd, fun p0 h0 => ⟨p0, _, rfl, SqT.of upd_same, rfl, _, _, rfl, _, _, rfl, rfl, ?_⟩⟩
    have s0 : Same H (upd H p0 (.tup [.int (a / b), .int (a % b)])) := same_new h0
    refine ⟨_, rfl, by show 1 ≤ sizeLine; decide, fun l hl0 => ?_⟩
    refine ⟨_, rfl, by show 1 ≤ sizeLine; decide, fun r hr0 => ?_⟩
    have hlr : l ≠ r := by
      rintro rfl
      rw [upd_same] at hr0
      cases hr0
    have hl : H l = none := s0.free hl0
    have hH : H r = none := s0.free ((same_new hl0).free hr0)
    have h3 := Int.emod_lt_of_pos a (show 0 < b by omega)
    have h4 := Int.emod_nonneg a (show b ≠ 0 by omega)
    refine ⟨fun m σ H' => ∃ (x y z : Int) (v2 : Option V) (qs rs : List Int), m = z.toNat ∧ σ = [some (.int x), some (.int y), v2, some (.int z), some (.ref l), some (.ref r)] ∧ Same H H' ∧
      H' l = some (.lst (qs.map V.int)) ∧ H' r = some (.lst (rs.map V.int)) ∧ 0 ≤ z ∧ z < y ∧ y < 2 ^ 400 ∧ qs ++ quos y z = quos a b ∧ rs ++ rems y z = rems a b,
      ⟨_, a, b, a % b, _, [a / b], [b], rfl, rfl, (s0.trans (same_new hl0)).trans (same_new hr0), by rw [upd_ne hlr, upd_same]; rfl, by rw [upd_same]; rfl, h4, h3, hb, (quos_pos (by omega)).symm, (rems_pos (by omega)).symm⟩, ?_⟩
    rintro m σ H' ⟨x, y, z, v2, qs, rs, rfl, rfl, s1, g1, g2, z0, z1, y1, e1, e2⟩
    have lq : qs.length + (quos y z).length = (quos a b).length := by rw [← e1, List.length_append]
    have lr : rs.length + (rems y z).length = (rems a b).length := by rw [← e2, List.length_append]
    have lq' := quos_len (k := 400) (a := a) hb
    have lr' := rems_len (k := 400) (a := a) hb
    refine ⟨_, rfl, _, rfl, ?_⟩
    refine ite2 (fun hy => ?_) (fun hy => ?_)
    · have hz' : 0 < z := by
        have : z ≠ 0 := by intro e; subst e; cases hy
        omega
      have d3 := Int.emod_lt_of_pos y hz'
      have d4 := Int.emod_nonneg y (show z ≠ 0 by omega)
      refine ⟨fun σ' H' => ∃ m', m' < z.toNat ∧ _, fun _ _ z => z, ?_⟩
      refine ⟨_, rfl, .inl ⟨rfl, _, SqL.of g2⟩, _, rfl, r, _, _, rfl, rfl, g2, lt_line (by rw [List.length_map]; omega), ?_⟩
      have s2 : Same H (upd H' r (.lst (rs.map V.int ++ [.int z]))) := same_mut s1 hH
      refine ⟨_, rfl, _, rfl, _, _, rfl, ?_⟩
      refine ⟨_, rfl, _, rfl, _, _, rfl, rfl, ?_⟩
      refine ⟨_, rfl, _, rfl, _, _, rfl, rfl, _, rfl, ?_⟩
      have gl : (upd H' r (.lst (rs.map V.int ++ [.int z]))) l = some (.lst (qs.map V.int)) := by rw [upd_ne hlr]; exact g1
      have dm : z * (y / z) + y % z = y := Int.mul_ediv_add_emod y z
      refine ite2 (fun hlt => ?_) (fun hlt => ?_)
      · have hlt := of_decide_eq_true hlt
        have hlt' : y - z < z := hlt
        have hq1 : y / z = 1 := by
          refine (Int.ediv_emod_unique (b := z) (r := y - z) (q := 1) hz').mpr ⟨by omega, by omega, by omega⟩ |>.1
        have hq2 : y % z = y - z := by
          rw [hq1] at dm
          omega
        refine ⟨_, rfl, .inl ⟨rfl, _, SqL.of gl⟩, l, _, _, rfl, rfl, gl, lt_line (by rw [List.length_map]; have := quos_len (k := 400) (a := a) hb; omega), ?_⟩
        refine ⟨(y - z).toNat, by omega, y, z, y - z, v2, qs ++ [1], rs ++ [z], rfl, rfl, same_mut s2 hl, by rw [upd_same, ← snoc_map], by rw [upd_ne hlr.symm, upd_same, ← snoc_map], by omega, hlt', by omega, ?_, ?_⟩
        · rw [← e1, quos_pos hz', List.append_assoc, hq1, hq2]
          rfl
        · rw [← e2, rems_pos hz', List.append_assoc, hq2]
          rfl
      · have cd2 : CDivP y z := divp_wide (wide_div (b := 400) hz' (by omega) (by decide) (by decide))
        refine ⟨_, rfl, _, rfl, _, _, rfl, cd2, fun p1 hp1 => ⟨p1, _, rfl, SqT.of upd_same, rfl, _, _, rfl, _, _, rfl, rfl, ?_⟩⟩
        have s3 : Same H (upd (upd H' r (.lst (rs.map V.int ++ [.int z]))) p1 (.tup [.int (y / z), .int (y % z)])) := s2.trans (same_new hp1)
        have np1 : l ≠ p1 := ne_of_none gl hp1
        have nr1 : r ≠ p1 := ne_of_none upd_same hp1
        have gl2 : (upd (upd H' r (.lst (rs.map V.int ++ [.int z]))) p1 (.tup [.int (y / z), .int (y % z)])) l = some (.lst (qs.map V.int)) := by rw [upd_ne np1]; exact gl
        refine ⟨_, rfl, .inl ⟨rfl, _, SqL.of gl2⟩, _, rfl, l, _, _, rfl, rfl, gl2, lt_line (by rw [List.length_map]; omega), ?_⟩
        refine ⟨(y % z).toNat, by omega, y, z, y % z, _, qs ++ [y / z], rs ++ [z], rfl, rfl, same_mut s3 hl, by rw [upd_same, ← snoc_map], by rw [upd_ne hlr.symm, upd_ne nr1, upd_same, ← snoc_map], d4, d3, by omega, ?_, ?_⟩
        · rw [← e1, quos_pos hz', List.append_assoc]
          rfl
        · rw [← e2, rems_pos hz', List.append_assoc]
          rfl
    · have hy' : ¬ 0 < z := fun h => hy (by
        show (z != 0) = true
        have : z ≠ 0 := by omega
        simp [this])
      rw [quos_nil hy', List.append_nil] at e1
      rw [rems_nil hy', List.append_nil] at e2
      subst e1 e2
      refine ⟨_, rfl, l, _, rfl, .inl ⟨SqL.of g1, fun t1 ht1 => ?_⟩⟩
      have n1 : l ≠ t1 := ne_of_none g1 ht1
      have n2 : r ≠ t1 := ne_of_none g2 ht1
      refine ⟨_, rfl, r, _, rfl, .inl ⟨SqL.of (by rw [upd_ne n2]; exact g2), fun t2 ht2 => ?_⟩⟩
      refine ⟨by show 2 ≤ sizeLine; decide, fun p hp => ?_⟩
      have n3 : t1 ≠ t2 := by
        rintro rfl
        rw [upd_same] at ht2
        cases ht2
      have s2 : Same H' (upd (upd H' t1 (.tup ((quos a b).map V.int))) t2 (.tup ((rems a b).map V.int))) := (same_new ht1).trans (same_new ht2)
      refine k p t1 t2 _ (s1.trans (s2.trans (same_new hp))) upd_same ?_ ?_
      · rw [upd_ne (by rintro rfl; rw [upd_ne n3, upd_same] at hp; cases hp), upd_ne n3, upd_same]
      · rw [upd_ne (by rintro rfl; rw [upd_same] at hp; cases hp), upd_same]
/- the convergents' sizes, crudely -/
def Sz (i : Nat) (c : Int × Int) : Prop := c.1.natAbs < 2 ^ (401 * i + 1) ∧ c.2.natAbs < 2 ^ (401 * i + 1)
theorem sz_one {i : Nat} {q x y : Int} (hq : q.natAbs < 2 ^ 400) (hx : x.natAbs < 2 ^ (401 * (i + 1) + 1)) (hy : y.natAbs < 2 ^ (401 * i + 1)) : (q * x + y).natAbs < 2 ^ (401 * (i + 1 + 1) + 1) := by
  have h1 : (q * x).natAbs < 2 ^ 400 * 2 ^ (401 * (i + 1) + 1) := by
    rw [Int.natAbs_mul]
    exact Nat.mul_lt_mul'' hq hx
  have e1 : 401 * (i + 1 + 1) + 1 = 400 + (401 * (i + 1) + 1) + 1 := by omega
  have e2 : (2 : Nat) ^ (401 * i + 1) ≤ 2 ^ 400 * 2 ^ (401 * (i + 1) + 1) := by
    rw [← Nat.pow_add]
    exact Nat.pow_le_pow_right (by decide) (by omega)
  rw [e1, Nat.pow_succ, Nat.pow_add]
  have h2 := Int.natAbs_add_le (q * x) y
  generalize (2 : Nat) ^ 200 * 2 ^ (401 * (i + 1) + 1) = Z at *
  omega
def sp__convergents_of (K : PySem.W.Frag) : Sp := fun vs H Q _ => ∃ (a : Addr) (qs : List Int), vs = [.ref a] ∧ SqT K H a (qs.map V.int) ∧ qs.length ≤ 1000 ∧ (∀ q ∈ qs, q.natAbs < 2 ^ 400) ∧
  ∀ p as H', Same H H' → H' p = some (.tup (as.map V.ref)) → PrA H' as (convs qs) → Q (.ref p) H'
theorem Same.sqT {H H' : Hp} {a : Addr} {xs : List V} (e : Same H H') (h : SqT K H a xs) : SqT K H' a xs := by
  rcases h with (h | ⟨o, h⟩) | h
  · exact .inl (.inl (e _ _ h))
  · exact .inl (.inr ⟨o, e _ _ h⟩)
  · exact .inr h
theorem map_get {ns : List Int} {i : Nat} {x : V} (h : (ns.map V.int)[i]? = some x) : ∃ z, ns[i]? = some z ∧ x = V.int z := by
  rw [List.getElem?_map] at h
  cases e : ns[i]? with
  | none =>
    rw [e] at h
    cases h
  | some z =>
    rw [e] at h
    exact ⟨z, rfl, (Option.some.inj h).symm⟩
theorem drop_at {α : Type} {l : List α} {i : Nat} {x : α} (h : l[i]? = some x) : l.drop i = x :: l.drop (i + 1) := by
  obtain ⟨hi, e⟩ := List.getElem?_eq_some_iff.mp h
  rw [List.drop_eq_getElem_cons hi, e]
theorem ok__convergents_of (T : Txt K mg A) : FnOk P w K mg base CX0 1 A.f__convergents_of A.d__convergents_of ["quotients"] (sp__convergents_of K) := by
  refine T.F__convergents_of.ok sc__convergents_of (fun vs H Q E h => ?_) (fun cdv Ar outer s H vs Q E hr h => ?_)
  · obtain ⟨a, qs, rfl, _⟩ := h
    rfl
  · obtain ⟨a, qs, rfl, hS, hn, hq, k⟩ := h
    have hu := hu_of hr
    refine ⟨_, (pss_cons (ps_set (i := 1) sc__convergents_of.nd rfl (Or.inl rfl) (pe_lst pa_nil))
      (pss_cons (ps_asg (pe_tup (pa_cons (pe_tup (pa_cons pe_int (pa_cons pe_int pa_nil))) (pa_cons (pe_tup (pa_cons pe_int (pa_cons pe_int pa_nil))) pa_nil))) (pg_tup rfl (pgs_cons (pg_name (i := 2) sc__convergents_of.nd rfl (Or.inl rfl)) (pgs_cons (pg_name (i := 3) sc__convergents_of.nd rfl (Or.inl rfl)) pgs_nil))))
      (pss_cons (ps_for PassesOwn.never rfl (pi_tup (pv 0)) (pg_name (i := 4) sc__convergents_of.nd rfl (Or.inl rfl))
        (pss_cons (ps_par (i := 2) (j := 3) (by rfl) sc__convergents_of.nd rfl rfl (by decide) rfl rfl (pa_cons (pv 3) (pa_cons (pe_tup (pa_cons (pe_op op_add (pe_op op_mulW (pv 4) (pe_ix ix_tup (pv 3) pe_int (fun _ _ => rfl))) (pe_ix ix_tup (pv 2) pe_int (fun _ _ => rfl))) (pa_cons (pe_op op_add (pe_op op_mulW (pv 4) (pe_ix ix_tup (pv 3) pe_int (fun _ _ => rfl))) (pe_ix ix_tup (pv 2) pe_int (fun _ _ => rfl))) pa_nil))) pa_nil)) (by rfl))
          (pss_one (ps_expr (pe_bm PySem.F.plainAttrs_list PySem.F.slot_list_append PySem.F.type_list_append mt_append (pv 1) (pa_cons (pv 3) pa_nil))))))
      (pss_one (ps_ret (pe_callTy call_tuple_of (by rfl) T.b_tuple (by decide +kernel) (pa_cons (pv 1) pa_nil))))))), ?_⟩
    refine ⟨Nat.zero_le _, fun c hc => ?_⟩
    refine ⟨by show 2 ≤ sizeLine; decide, fun p0 h0 => ?_⟩
    refine ⟨by show 2 ≤ sizeLine; decide, fun p1 h1 => ?_⟩
    refine ⟨by show 2 ≤ sizeLine; decide, fun pt ht => ⟨pt, _, rfl, SqT.of upd_same, rfl, _, _, rfl, _, _, rfl, rfl, ?_⟩⟩
    have n0 : p0 ≠ pt := by rintro rfl; rw [upd_ne (by rintro rfl; rw [upd_same] at h1; cases h1), upd_same] at ht; cases ht
    have n1 : p1 ≠ pt := by rintro rfl; rw [upd_same] at ht; cases ht
    have nc : c ≠ pt := by rintro rfl; rw [upd_ne (by rintro rfl; rw [upd_ne (by rintro rfl; rw [upd_same] at h0; cases h0), upd_same] at h1; cases h1), upd_ne (by rintro rfl; rw [upd_same] at h0; cases h0), upd_same] at ht; cases ht
    have c0 : c ≠ p0 := by rintro rfl; rw [upd_same] at h0; cases h0
    have c1 : c ≠ p1 := by rintro rfl; rw [upd_ne c0, upd_same] at h1; cases h1
    have p01 : p0 ≠ p1 := by rintro rfl; rw [upd_same] at h1; cases h1
    have s0 := (((same_new (o := .lst []) hc).trans (same_new (o := .tup [.int 0, .int 1]) h0)).trans (same_new (o := .tup [.int 1, .int 0]) h1)).trans (same_new (o := .tup [.ref p0, .ref p1]) ht)
    refine ⟨_, rfl, a, rfl, ⟨_, Same.sqT s0 hS⟩, for_tup (K := K) (a := a) (xs := qs.map V.int) (fun i σ H' => ∃ (bp lp : Addr) (pb pl : Int × Int) (as : List Addr) (cs : List (Int × Int)) (v : Option V),
      σ = [some (.ref a), some (.ref c), some (.ref bp), some (.ref lp), v] ∧ Same H H' ∧ H' c = some (.lst (as.map V.ref)) ∧ PrA H' as cs ∧ as.length = i ∧
      H' bp = some (.tup [.int pb.1, .int pb.2]) ∧ H' lp = some (.tup [.int pl.1, .int pl.2]) ∧ cs ++ conv pb pl (qs.drop i) = convs qs ∧ Sz i pb ∧ Sz (i + 1) pl)
      ⟨p0, p1, (0, 1), (1, 0), [], [], none, rfl, s0, ?_, .nil, rfl, ?_, by rw [upd_ne n1, upd_same], rfl, ⟨by decide, by decide⟩, ⟨by decide +kernel, by decide +kernel⟩⟩ (fun i σ H' _ ⟨_, _, _, _, _, _, _, _, s1, _⟩ => Same.sqT s1 hS) ?_ ?_⟩
    · rw [upd_ne nc, upd_ne c1, upd_ne c0, upd_same]
      rfl
    · rw [upd_ne n0, upd_ne p01, upd_same]
    · rintro i z σ H' hi ⟨bp, lp, pb, pl, as, cs, v, rfl, s1, g1, g2, e0, g3, g4, e1, z1, z2⟩
      obtain ⟨q, hqi, rfl⟩ := map_get hi
      have hil : i < qs.length := (List.getElem?_eq_some_iff.mp hqi).1
      have hqs : q.natAbs < 2 ^ 400 := hq q (List.mem_of_getElem? hqi)
      have b1 : CMulW q pl.1 := wide_mul hqs z2.1 (by decide) (by omega) (by omega)
      have b2 : CMulW q pl.2 := wide_mul hqs z2.2 (by decide) (by omega) (by omega)
      refine ⟨_, rfl, ?_⟩
      refine ⟨_, rfl, _, rfl, lp, _, _, _, rfl, rfl, SqT.of g4, rfl, _, _, rfl, rfl, b1, _, rfl, bp, _, _, _, rfl, rfl, SqT.of g3, rfl, _, _, rfl, rfl, ?_⟩
      refine ⟨_, rfl, _, rfl, lp, _, _, _, rfl, rfl, SqT.of g4, rfl, _, _, rfl, rfl, b2, _, rfl, bp, _, _, _, rfl, rfl, SqT.of g3, rfl, _, _, rfl, rfl, ?_⟩
      refine ⟨by show 2 ≤ sizeLine; decide, fun n hn' => ?_⟩
      refine ⟨_, _, rfl, ?_⟩
      have nc : c ≠ n := ne_of_none g1 hn'
      have s2 : Same H' (upd H' n (.tup [.int (q * pl.1 + pb.1), .int (q * pl.2 + pb.2)])) := same_new hn'
      refine ⟨_, rfl, .inl ⟨rfl, _, SqL.of (by rw [upd_ne nc]; exact g1)⟩, _, rfl, c, _, _, rfl, rfl, by rw [upd_ne nc]; exact g1, lt_line (by rw [List.length_map]; omega), ?_⟩
      have t3 : Tups H' (upd (upd H' n (.tup [.int (q * pl.1 + pb.1), .int (q * pl.2 + pb.2)])) c (.lst (as.map V.ref ++ [V.ref n]))) := fun b xs e => by
        rw [upd_ne (ne_of e g1 (by intro z; cases z))]
        exact s2 b _ e
      have gn : (upd (upd H' n (.tup [.int (q * pl.1 + pb.1), .int (q * pl.2 + pb.2)])) c (.lst (as.map V.ref ++ [V.ref n]))) n = some (.tup [.int (q * pl.1 + pb.1), .int (q * pl.2 + pb.2)]) := by
        rw [upd_ne nc.symm, upd_same]
      refine ⟨lp, n, pl, (q * pl.1 + pb.1, q * pl.2 + pb.2), as ++ [n], cs ++ [(q * pl.1 + pb.1, q * pl.2 + pb.2)], _, rfl, same_mut (s1.trans s2) hc, ?_, ?_, ?_, t3 _ _ g4, gn, ?_, z2, ⟨sz_one hqs z2.1 z1.1, sz_one hqs z2.2 z1.2⟩⟩
      · rw [upd_same, ← snoc_map]
      · exact PrA.snoc gn (g2.stay t3)
      · rw [List.length_append, e0]
        rfl
      · rw [← e1, drop_at hqi, List.append_assoc]
        rfl
    · rintro σ H' ⟨bp, lp, pb, pl, as, cs, v, rfl, s1, g1, g2, e0, g3, g4, e1, z1, z2⟩
      rw [List.length_map, List.drop_length] at e1
      have e1' : cs = convs qs := by
        rw [← e1]
        exact (List.append_nil cs).symm
      subst e1'
      refine ⟨_, rfl, c, _, rfl, .inl ⟨SqL.of g1, fun t ht => ?_⟩⟩
      exact k t as _ (s1.trans (same_new ht)) upd_same (g2.stay (Same.tups (same_new ht)))
end
end Tk

set_option maxHeartbeats 2000000
namespace Tk
open PySem PySem.Spec PyProof.Rows L2 Tc
section
variable {P : Program} {w : World} {K : PySem.W.Frag} {mg : Str → Option Value} {base : Heap} {A : Ad}
open Tm
theorem upd_none {H : Hp} {a b : Addr} {o : HO} (h : upd H a o b = none) : b ≠ a ∧ H b = none := by
  by_cases e : b = a
  · subst e
    rw [upd_same] at h
    cases h
  · rw [upd_ne e] at h
    exact ⟨e, h⟩
theorem atI_neg {xs : List V} {k : Nat} {v : V} (h1 : 1 ≤ k) (h2 : k ≤ xs.length) (e : xs[xs.length - k]? = some v) : atI xs (-(k : Int)) = some v := by
  unfold atI ixN
  rw [if_neg (by omega), if_pos (by omega)]
  have : (-(k : Int) + (xs.length : Int)).toNat = xs.length - k := by omega
  show xs[(-(k : Int) + (xs.length : Int)).toNat]? = some v
  rw [this]
  exact e
/- the inverse that a ladder tells -/
def invOf (cs : List (Int × Int)) (b : Int) : Int := if cs.length = 1 then 0 else if cs.length % 2 = 0 then (cs[cs.length - 2]?.getD (0, 0)).2 else b - (cs[cs.length - 2]?.getD (0, 0)).2
/-! ### a ladder as it lies -/
def ladF (a b : Int) (q r : Addr) : List (Str × V) := [("_a", .int a), ("_b", .int b), ("_quotients", .ref q), ("_remainders", .ref r)]
section
variable {a b : Int} {q r : Addr}
theorem lad_a : (ladF a b q r).lookup ("_a" : Str) = some (.int a) := lk_here
theorem lad_b : (ladF a b q r).lookup ("_b" : Str) = some (.int b) := (lk_past (by decide +kernel)).trans lk_here
theorem lad_q : (ladF a b q r).lookup ("_quotients" : Str) = some (.ref q) := (lk_past (by decide +kernel)).trans ((lk_past (by decide +kernel)).trans lk_here)
theorem lad_r : (ladF a b q r).lookup ("_remainders" : Str) = some (.ref r) := (lk_past (by decide +kernel)).trans ((lk_past (by decide +kernel)).trans ((lk_past (by decide +kernel)).trans lk_here))
theorem put1 {v : V} : putF "_b" v [("_a", .int a)] = ([("_a", .int a), ("_b", v)] : List (Str × V)) := (put_past (by decide +kernel)).trans rfl
theorem put2 {v : V} : putF "_quotients" v [("_a", .int a), ("_b", .int b)] = ([("_a", .int a), ("_b", .int b), ("_quotients", v)] : List (Str × V)) := (put_past (by decide +kernel)).trans (congrArg _ ((put_past (by decide +kernel)).trans rfl))
theorem put3 {v : V} : putF "_remainders" v [("_a", .int a), ("_b", .int b), ("_quotients", .ref q)] = ([("_a", .int a), ("_b", .int b), ("_quotients", .ref q), ("_remainders", v)] : List (Str × V)) := (put_past (by decide +kernel)).trans (congrArg _ ((put_past (by decide +kernel)).trans (congrArg _ ((put_past (by decide +kernel)).trans rfl))))
end
/- a ladder of (a, b) at p -/
structure LadAt (C : Addr) (H : Hp) (p : Addr) (a b : Int) : Prop where
  pos : 1 ≤ b
  big : b < 2 ^ 400
  biga : a.natAbs < 2 ^ 400
  ob : ∃ dx q r, H p = some (.ins C dx (ladF a b q r)) ∧ H q = some (.tup ((quos a b).map V.int)) ∧ H r = some (.tup ((rems a b).map V.int))
/- everything but lists stays -/
def Sol (H H' : Hp) : Prop := ∀ b o, H b = some o → (∀ xs, o ≠ .lst xs) → H' b = some o
theorem Same.sol {H H' : Hp} (e : Same H H') : Sol H H' := fun b o h _ => e b o h
theorem Sol.tups {H H' : Hp} (e : Sol H H') : Tups H H' := fun b xs h => e b _ h (fun _ z => by cases z)
theorem LadAt.stay {C : Addr} {H H' : Hp} {p : Addr} {a b : Int} (e : Sol H H') (L : LadAt C H p a b) : LadAt C H' p a b := by
  obtain ⟨h1, h2, h3, dx, q, r, g1, g2, g3⟩ := L
  exact ⟨h1, h2, h3, dx, q, r, e _ _ g1 (fun _ z => by cases z), e.tups _ _ g2, e.tups _ _ g3⟩
theorem short_400 {i : Int} (h : Short i) : i.natAbs < 2 ^ 400 := by
  obtain ⟨h1, h2⟩ := h
  have e : (10 : Nat) ^ 60 < 2 ^ 400 := by decide +kernel
  omega
theorem int_400 {b : Int} (h : b.natAbs < 2 ^ 400) : b < 2 ^ 400 := by
  have e2 : (((2 : Nat) ^ 400 : Nat) : Int) = 2 ^ 400 := by norm_cast
  omega
theorem nat_400 {b : Int} (h0 : 0 ≤ b) (h : b < 2 ^ 400) : b.natAbs < 2 ^ 400 := by
  have e2 : (((2 : Nat) ^ 400 : Nat) : Int) = 2 ^ 400 := by norm_cast
  omega
theorem Num.stay {H H' : Hp} {v : V} {i : Int} (n : Num A H v i) (e : ∀ p dx fs, H p = some (.ins A.a_Long dx fs) → H' p = some (.ins A.a_Long dx fs)) : Num A H' v i := by
  cases n with
  | int h => exact .int h
  | long h => exact .long (e _ _ _ h)
def sp_Ladder___init__ (A : Ad) : Sp := fun vs H Q _ => ∃ (p dx : Addr) (u v : V) (a b : Int), vs = [.ref p, u, v] ∧ H p = some (.ins A.a_Ladder dx []) ∧ Num A H u a ∧ Num A H v b ∧ a.natAbs < 2 ^ 400 ∧ b < 2 ^ 400 ∧ 1 ≤ b ∧
  ∀ H', LadAt A.a_Ladder H' p a b → (∀ x o, H x = some o → x ≠ p → H' x = some o) → Q .non H'
theorem ok_Ladder___init__ (T : Txt K mg A) : FnOk P w K mg base CX0 7 A.f_Ladder___init__ A.d_Ladder___init__ ["self", "a", "b"] (sp_Ladder___init__ A) := by
  refine T.F_Ladder___init__.ok sc_Ladder___init__ (fun vs H Q E h => ?_) (fun cdv Ar outer s H vs Q E hr h => ?_)
  · obtain ⟨p, dx, u, v, a, b, rfl, _⟩ := h
    rfl
  · obtain ⟨p, dx, vu, vv, a, b, rfl, hp, ha, hb, ha4, hbI, h1, k⟩ := h
    have hu := hu_of hr
    refine ⟨_, (pss_cons (ps_asg (pe_call (ok_checked_pair T) (hr.mono (by decide)) rfl T.m_checked_pair T.F_checked_pair.kp T.b_checked_pair .nil pass0 (pa_cons (pv 1) (pa_cons (pv 2) pa_nil))) (pg_tup rfl (pgs_cons (pg_fld (pv 0)) (pgs_cons (pg_fld (pv 0)) pgs_nil))))
      (pss_one (ps_asg (pe_call (ok__euclid_steps T) (hr.mono (by decide)) rfl T.m__euclid_steps T.F__euclid_steps.kp T.b__euclid_steps .nil pass0 (pa_cons (pe_fld (pv 0) rfl) (pa_cons (pe_fld (pv 0) rfl) pa_nil))) (pg_tup rfl (pgs_cons (pg_fld (pv 0)) (pgs_cons (pg_fld (pv 0)) pgs_nil)))))), ?_⟩
    refine ⟨_, rfl, _, rfl, vu, vv, a, b, rfl, ha, hb, h1, fun t H1 hn s1 g1 => ?_⟩
    have hp1 := s1 _ _ hp
    have npt : p ≠ t := ne_of hp1 g1 (by intro z; cases z)
    refine ⟨t, _, rfl, SqT.of g1, rfl, _, _, rfl, ?_⟩
    refine ⟨_, rfl, p, A.a_Ladder, dx, [], rfl, hp1, T.c_Ladder, T.na_Ladder__a, by show 0 < 1000; decide, _, _, rfl, ?_⟩
    refine ⟨_, rfl, p, A.a_Ladder, dx, _, rfl, upd_same, T.c_Ladder, T.na_Ladder__b, by show 1 < 1000; decide, rfl, ?_⟩
    rw [upd_upd]
    have e1 : putF "_b" (.int b) (putF "_a" (.int a) []) = ([("_a", .int a), ("_b", .int b)] : List (Str × V)) := put1
    rw [e1]
    refine ⟨_, rfl, p, A.a_Ladder, dx, _, _, rfl, upd_same, T.c_Ladder, T.na_Ladder__a, lk_here, _, rfl, p, A.a_Ladder, dx, _, _, rfl, upd_same, T.c_Ladder, T.na_Ladder__b, (lk_past (by decide +kernel)).trans lk_here, ?_⟩
    refine ⟨a, b, rfl, h1, hbI, fun u q r H2 s2 g2 g3 g4 => ?_⟩
    have hp2 := s2 _ _ upd_same
    refine ⟨u, _, rfl, SqT.of g2, rfl, _, _, rfl, ?_⟩
    refine ⟨_, rfl, p, A.a_Ladder, dx, _, rfl, hp2, T.c_Ladder, T.na_Ladder__quotients, by show 2 < 1000; decide, _, _, rfl, ?_⟩
    refine ⟨_, rfl, p, A.a_Ladder, dx, _, rfl, upd_same, T.c_Ladder, T.na_Ladder__remainders, by rw [put2]; show 3 < 1000; decide, rfl, ?_⟩
    rw [upd_upd, put2, put3]
    have npq : q ≠ p := ne_of g3 hp2 (by intro z; cases z)
    have npr : r ≠ p := ne_of g4 hp2 (by intro z; cases z)
    have t2 : Tups H2 (upd H2 p (.ins A.a_Ladder dx (ladF a b q r))) := fun x xs e => by
      rw [upd_ne (ne_of e hp2 (by intro z; cases z))]
      exact e
    refine k _ ⟨h1, hbI, ha4, dx, q, r, upd_same, t2 _ _ g3, t2 _ _ g4⟩ fun x o e ne => ?_
    rw [upd_ne ne]
    refine s2 x o ?_
    rw [upd_ne ne]
    exact s1 x o e
def gcdOf (a b : Int) : Int := (rems a b).getLast?.getD 0
def altOf (qs : List Int) : Int := (ev2 (qs.drop 1)).sum - (ev2 (qs.drop 2)).sum
theorem last_at {xs : List Int} (h : xs ≠ []) : (xs.map V.int)[(xs.map V.int).length - 1]? = some (.int (xs.getLast?.getD 0)) := by
  rw [List.length_map, List.getElem?_map, ← List.getLast?_eq_getElem?]
  cases e : xs.getLast? with
  | none => exact absurd (List.getLast?_eq_none_iff.mp e) h
  | some z => rfl
def sp_Ladder_quotients (A : Ad) : Sp := fun vs H Q _ => ∃ (p : Addr) (a b : Int), vs = [.ref p] ∧ LadAt A.a_Ladder H p a b ∧ ∀ q, H q = some (.tup ((quos a b).map V.int)) → Q (.ref q) H
theorem ok_Ladder_quotients (T : Txt K mg A) : FnOk P w K mg base CX0 1 A.f_Ladder_quotients A.d_Ladder_quotients ["self"] (sp_Ladder_quotients A) := by
  refine T.F_Ladder_quotients.ok sc_Ladder_quotients (fun vs H Q E h => ?_) (fun cdv Ar outer s H vs Q E hr h => ?_)
  · obtain ⟨p, a, b, rfl, _⟩ := h
    rfl
  · obtain ⟨p, a, b, rfl, ⟨h1, h2, h3, dx, q, r, g1, g2, g3⟩, k⟩ := h
    have hu := hu_of hr
    refine ⟨_, (pss_one (ps_ret (pe_fld (pv 0) rfl))), ?_⟩
    exact ⟨_, rfl, p, A.a_Ladder, dx, _, _, rfl, g1, T.c_Ladder, T.na_Ladder__quotients, lad_q, k q g2⟩
def sp_Ladder_remainders (A : Ad) : Sp := fun vs H Q _ => ∃ (p : Addr) (a b : Int), vs = [.ref p] ∧ LadAt A.a_Ladder H p a b ∧ ∀ q, H q = some (.tup ((rems a b).map V.int)) → Q (.ref q) H
theorem LadAt.small {C : Addr} {H : Hp} {p : Addr} {a b : Int} (L : LadAt C H p a b) : (quos a b).length ≤ 1000 ∧ 1 ≤ (quos a b).length ∧ ∀ q ∈ quos a b, q.natAbs < 2 ^ 400 := by
  have h := quos_len (k := 400) (a := a) L.big
  have h1 := L.pos
  refine ⟨by omega, ?_, quos_small (2 ^ 400) b.toNat a b (Nat.le_refl _) L.biga (nat_400 (by omega) L.big)⟩
  cases e : quos a b with
  | nil => exact absurd e (quos_ne (by omega))
  | cons x y => simp
def sp_Ladder_convergents (A : Ad) : Sp := fun vs H Q _ => ∃ (p : Addr) (a b : Int), vs = [.ref p] ∧ LadAt A.a_Ladder H p a b ∧ ∀ c as H', Same H H' → H' c = some (.tup (as.map V.ref)) → PrA H' as (convs (quos a b)) → Q (.ref c) H'
def sp_Ladder_common (A : Ad) : Sp := fun vs H Q _ => ∃ (p : Addr) (a b : Int), vs = [.ref p] ∧ LadAt A.a_Ladder H p a b ∧ Q (.int (gcdOf a b)) H
theorem rems_atI {a b : Int} (h1 : 1 ≤ b) : atI ((rems a b).map V.int) (-1) = some (.int (gcdOf a b)) := by
  have hne : rems a b ≠ [] := rems_ne (by omega)
  refine atI_neg (k := 1) (by decide) ?_ (last_at hne)
  rw [List.length_map]
  cases e : rems a b with
  | nil => exact absurd e hne
  | cons x y => simp
def sp_Ladder_coprime_inverse (A : Ad) : Sp := fun vs H Q _ => ∃ (p : Addr) (a b : Int), vs = [.ref p] ∧ LadAt A.a_Ladder H p a b ∧ (gcdOf a b = 1 → ∀ H', Same H H' → Q (.int (invOf (convs (quos a b)) b)) H') ∧ (gcdOf a b ≠ 1 → Q .non H)
theorem gcdOf_gcd {a b : Int} (hb : 0 < b) : gcdOf a b = (Int.gcd a b : Int) := by
  unfold gcdOf
  obtain ⟨g, h, _⟩ := last_rem (a := a) hb
  rw [h]
  exact last_is_gcd hb h
def sp_Ladder_alternating (A : Ad) : Sp := fun vs H Q _ => ∃ (p : Addr) (a b : Int), vs = [.ref p] ∧ LadAt A.a_Ladder H p a b ∧ ∀ H', Same H H' → Q (.int (altOf (quos a b))) H'
def sp_Ladder___len__ (A : Ad) : Sp := fun vs H Q _ => ∃ (p : Addr) (a b : Int), vs = [.ref p] ∧ LadAt A.a_Ladder H p a b ∧ Q (.int ((quos a b).length : Int)) H
theorem ok_Ladder___len__ (T : Txt K mg A) : FnOk P w K mg base CX0 1 A.f_Ladder___len__ A.d_Ladder___len__ ["self"] (sp_Ladder___len__ A) := by
  refine T.F_Ladder___len__.ok sc_Ladder___len__ (fun vs H Q E h => ?_) (fun cdv Ar outer s H vs Q E hr h => ?_)
  · obtain ⟨p, a, b, rfl, _⟩ := h
    rfl
  · obtain ⟨p, a, b, rfl, ⟨h1, h2, h3, dx, q, r, g1, g2, g3⟩, k⟩ := h
    have hu := hu_of hr
    refine ⟨_, (pss_one (ps_ret (pe_callB call_len_seq (by rfl) T.b_len (by decide +kernel) (pa_cons (pe_fld (pv 0) rfl) pa_nil)))), ?_⟩
    refine ⟨_, rfl, p, A.a_Ladder, dx, _, _, rfl, g1, T.c_Ladder, T.na_Ladder__quotients, lad_q, q, _, rfl, .inr (SqT.of g2), ?_⟩
    rw [List.length_map]
    exact k
def gcdN (a b : Int) : Int := ((Nat.gcd a.natAbs b.natAbs : Nat) : Int)
def sp_common_factor (A : Ad) : Sp := fun vs H Q _ => ∃ (u v : V) (a b : Int), vs = [u, v] ∧ Num A H u a ∧ Num A H v b ∧ 1 ≤ b ∧ ∀ H', Same H H' → Q (.int (gcdN a b)) H'
theorem ok_common_factor (T : Txt K mg A) : FnOk P w K mg base CX0 7 A.f_common_factor A.d_common_factor ["a", "b"] (sp_common_factor A) := by
  refine T.F_common_factor.ok sc_common_factor (fun vs H Q E h => ?_) (fun cdv Ar outer s H vs Q E hr h => ?_)
  · obtain ⟨u, v, a, b, rfl, _⟩ := h
    rfl
  · obtain ⟨u, v, a, b, rfl, ha, hb, h1, k⟩ := h
    have hu := hu_of hr
    refine ⟨_, (pss_cons (ps_asg (pe_call (ok_checked_pair T) (hr.mono (by decide)) rfl T.m_checked_pair T.F_checked_pair.kp T.b_checked_pair .nil pass0 (pa_cons (pv 0) (pa_cons (pv 1) pa_nil))) (pg_tup rfl (pgs_cons (pg_name (i := 2) sc_common_factor.nd rfl (Or.inl rfl)) (pgs_cons (pg_name (i := 3) sc_common_factor.nd rfl (Or.inl rfl)) pgs_nil))))
      (pss_one (ps_ret (pe_callBfun cr_gcd rfl T.m_gcd (pa_cons (pv 2) (pa_cons (pv 3) pa_nil)))))), ?_⟩
    refine ⟨_, rfl, _, rfl, u, v, a, b, rfl, ha, hb, h1, fun t H1 hn s1 g1 => ?_⟩
    refine ⟨t, _, rfl, SqT.of g1, rfl, _, _, rfl, _, _, rfl, rfl, ?_⟩
    exact ⟨_, rfl, _, rfl, a, b, rfl, k _ s1⟩
def sp_are_coprime (A : Ad) : Sp := fun vs H Q _ => ∃ (u v : V) (a b : Int), vs = [u, v] ∧ Num A H u a ∧ Num A H v b ∧ 1 ≤ b ∧ ∀ H', Same H H' → Q (.bl (decide (gcdN a b = 1))) H'
theorem ok_are_coprime (T : Txt K mg A) : FnOk P w K mg base CX0 8 A.f_are_coprime A.d_are_coprime ["a", "b"] (sp_are_coprime A) := by
  refine T.F_are_coprime.ok sc_are_coprime (fun vs H Q E h => ?_) (fun cdv Ar outer s H vs Q E hr h => ?_)
  · obtain ⟨u, v, a, b, rfl, _⟩ := h
    rfl
  · obtain ⟨u, v, a, b, rfl, ha, hb, h1, k⟩ := h
    have hu := hu_of hr
    refine ⟨_, (pss_one (ps_ret (pe_cmpR op_eq (pe_call (ok_common_factor T) (hr.mono (by decide)) rfl T.m_common_factor T.F_common_factor.kp T.b_common_factor .nil pass0 (pa_cons (pv 0) (pa_cons (pv 1) pa_nil))) pe_int (nomark _)))), ?_⟩
    refine ⟨_, rfl, _, rfl, u, v, a, b, rfl, ha, hb, h1, fun H1 s1 => ?_⟩
    refine ⟨rfl, ?_⟩
    rw [dec_int']
    exact k _ s1
end
end Tk

set_option maxHeartbeats 2000000
namespace Tk
open PySem PySem.Spec PyProof.Rows L2 Tc
section
variable {P : Program} {w : World} {K : PySem.W.Frag} {mg : Str → Option Value} {base : Heap} {A : Ad}
/- all but the thing at a stands -/
def Frm (a : Addr) (H H' : Hp) : Prop := ∀ b o, b ≠ a → H b = some o → H' b = some o
theorem Frm.refl {a : Addr} {H : Hp} : Frm a H H := fun _ _ _ h => h
theorem Frm.trans {a : Addr} {H H1 H2 : Hp} (x : Frm a H H1) (y : Frm a H1 H2) : Frm a H H2 := fun b o n h => y b o n (x b o n h)
theorem Same.frm {a : Addr} {H H' : Hp} (x : Same H H') : Frm a H H' := fun b o _ h => x b o h
theorem Frm.write {a : Addr} {H : Hp} {o : HO} : Frm a H (upd H a o) := fun b _ n h => by rw [upd_ne n]; exact h
theorem Frm.sol {a : Addr} {H H' : Hp} {l : List V} (x : Frm a H H') (h : H a = some (.lst l)) : Sol H H' := fun b o q n => by
  refine x b o ?_ q
  rintro rfl
  rw [h] at q
  cases q
  exact n _ rfl
theorem Frm.free {a p : Addr} {H H' : Hp} {o : HO} (x : Frm a H H') (h : H' a = some o) (n : H' p = none) : H p = none := by
  cases e : H p with
  | none => rfl
  | some u =>
    have hp : p ≠ a := by
      rintro rfl
      rw [h] at n
      cases n
    rw [x p u hp e] at n
    cases n
theorem Frm.seq {K : PySem.W.Frag} {a b : Addr} {H H' : Hp} {xs : List V} (x : Frm a H H') (n : b ≠ a) (h : SqL K H b xs) : SqL K H' b xs := by
  rcases h with (h | ⟨o, h⟩) | h
  · exact .inl (.inl (x _ _ n h))
  · exact .inl (.inr ⟨o, x _ _ n h⟩)
  · exact .inr h
/- the draws' bowl: three ints -/
def Bowl (H : Hp) (a : Addr) : Prop := ∃ g s n : Int, H a = some (.lst [.int g, .int s, .int n])
theorem Bowl.stay {a : Addr} {H H' : Hp} (B : Bowl H a) (x : Same H H') : Bowl H' a := by
  obtain ⟨g, s, n, h⟩ := B
  exact ⟨g, s, n, x _ _ h⟩
def sp__law_bowl (K : PySem.W.Frag) : Sp := fun vs H Q _ => ∃ (sc : Addr) (i : Nat) (ns : List Int), vs = [.ref sc, .int (i : Int)] ∧ SqL K H sc (ns.map V.int) ∧ ∀ p H', H p = none → Same H H' → Bowl H' p → Q (.ref p) H'
theorem pow18 : (0 : Int) < (10 : Int) ^ (18 : Int).toNat + 9 := by decide +kernel
theorem pow60_9 : (0 : Int) < ((10 : Int) ^ (60 : Int).toNat) ^ (9 : Int).toNat := by decide +kernel
theorem ok__law_bowl (T : Txt K mg A) : FnOk P w K mg base CX0 1 A.f__law_bowl A.d__law_bowl ["_law_script", "_law_at"] (sp__law_bowl K) := by
  refine T.F__law_bowl.ok sc__law_bowl (fun vs H Q E h => ?_) (fun cdv Ar outer s H vs Q E hr h => ?_)
  · obtain ⟨sc, i, ns, rfl, _⟩ := h
    rfl
  · obtain ⟨sc, i, ns, rfl, hS, k⟩ := h
    have hu := hu_of hr
    refine ⟨_, (pss_cons (ps_set (i := 2) sc__law_bowl.nd rfl (Or.inl rfl) (pe_ifExp (pt_cmpR op_lt (pv 1) (pe_callB call_len_seq (by rfl) T.b_len (by decide +kernel) (pa_cons (pv 0) pa_nil)) (nomark _)) (pe_ix ix_list (pv 0) (pv 1) (fun _ _ => rfl)) (pe_op op_add (pe_op op_mul pe_int (pv 1)) pe_int)))
      (pss_cons (ps_set (i := 3) sc__law_bowl.nd rfl (Or.inl rfl) (pe_op op_mod (pe_callTy call_int1 (by rfl) T.b_int (by decide +kernel) (pa_cons (pe_callB call_abs (by rfl) T.b_abs (by decide +kernel) (pa_cons (pv 2) pa_nil)) pa_nil)) (pe_op op_powX (pe_op op_powX pe_int pe_int) pe_int)))
      (pss_cons (ps_set (i := 4) sc__law_bowl.nd rfl (Or.inl rfl) (pe_op op_mod (pe_callTy call_int1 (by rfl) T.b_int (by decide +kernel) (pa_cons (pe_op op_add (pe_op op_add (pe_op op_add (pe_op op_mul (pv 3) pe_int) (pe_op op_mul pe_int (pv 1))) (pe_op op_mul pe_int (pe_callTy call_int1 (by rfl) T.b_int (by decide +kernel) (pa_cons (pe_cmpR op_lt (pv 2) pe_int (nomark _)) pa_nil)))) pe_int) pa_nil)) (pe_op op_add (pe_op op_powX pe_int pe_int) pe_int)))
      (pss_one (ps_ret (pe_lst (pa_cons (pe_ifExp (pt_cmpR op_gt (pv 3) (pe_op op_powX pe_int pe_int) (nomark _)) (pe_op op_sub (pv 3) (pe_op op_powX pe_int pe_int)) pe_int) (pa_cons (pv 4) (pa_cons pe_int pa_nil))))))))), ?_⟩
    refine ⟨_, rfl, _, rfl, sc, _, rfl, .inl hS, _, _, rfl, rfl, _, rfl, ?_⟩
    refine ite2 (fun h => ?ca) (fun h => ?cb)
    case' ca =>
      have hi : i < ns.length := by
        have := of_decide_eq_true h
        rw [List.length_map] at this
        omega
      refine ⟨_, rfl, _, rfl, sc, _, _, .int ns[i], rfl, rfl, hS, atI_nat (by rw [List.getElem?_map, List.getElem?_eq_getElem hi]; rfl), ?_⟩
      generalize ns[i] = z
    case' cb =>
      refine ⟨_, rfl, _, _, rfl, rfl, .inl (by decide), _, _, rfl, rfl, ?_⟩
      generalize (101 * (i : Int) + 37) = z
    all_goals
      refine ⟨_, rfl, _, rfl, .inl ⟨_, rfl, ?_⟩⟩
      refine ⟨_, _, rfl, rfl, ⟨by decide, by decide +kernel⟩, _, _, rfl, rfl, ⟨by decide, by decide +kernel⟩, _, _, rfl, rfl, pow60_9, ?_⟩
      generalize ((if z < 0 then -z else z) % ((10 : Int) ^ (60 : Int).toNat) ^ (9 : Int).toNat) = g
      refine ⟨_, rfl, _, _, rfl, rfl, .inr (by decide), _, rfl, _, _, rfl, rfl, .inl (by decide), _, _, rfl, rfl, ?_⟩
      refine ⟨_, rfl, _, _, rfl, rfl, .inr ⟨_, rfl, ?_⟩⟩
      refine ⟨_, _, rfl, rfl, .inl (by decide), _, _, rfl, rfl, _, _, rfl, rfl, .inl ⟨_, rfl, ?_⟩⟩
      refine ⟨_, _, rfl, rfl, ⟨by decide, by decide +kernel⟩, _, _, rfl, rfl, _, _, rfl, rfl, pow18, ?_⟩
      refine ⟨_, rfl, _, _, rfl, rfl, ⟨by decide, by decide +kernel⟩, _, _, rfl, rfl, _, rfl, ?_⟩
      refine ite2 (fun h2 => ?_) (fun h2 => ?_)
      · refine ⟨_, rfl, _, _, rfl, rfl, ⟨by decide, by decide +kernel⟩, _, _, rfl, rfl, ?_⟩
        refine ⟨_, rfl, by show 3 ≤ sizeLine; decide, fun p hp => ?_⟩
        exact k p _ hp (same_new hp) ⟨_, _, _, upd_same⟩
      · refine ⟨_, rfl, by show 3 ≤ sizeLine; decide, fun p hp => ?_⟩
        exact k p _ hp (same_new hp) ⟨_, _, _, upd_same⟩
def sp__law_sip : Sp := fun vs H Q _ => ∃ (a : Addr) (m : Int), vs = [.ref a, .int m] ∧ 0 < m ∧ m.natAbs < 2 ^ 4000 ∧ Bowl H a ∧ ∀ (r : Int) H', 0 ≤ r → r < m → Frm a H H' → Bowl H' a → Q (.int r) H'
theorem mod30 {x m : Int} (h0 : 0 < m) (h : m < 2 ^ 30) : (x % m).natAbs < 2 ^ 30 := by
  have h1 := Int.emod_lt_of_pos x h0
  have h2 := Int.emod_nonneg x (show m ≠ 0 by omega)
  have e : (((2 : Nat) ^ 30 : Nat) : Int) = 2 ^ 30 := by norm_cast
  omega
theorem ok__law_sip (T : Txt K mg A) : FnOk P w K mg base CX0 1 A.f__law_sip A.d__law_sip ["_law_bowl_here", "_law_size"] sp__law_sip := by
  refine T.F__law_sip.ok sc__law_sip (fun vs H Q E h => ?_) (fun cdv Ar outer s H vs Q E hr h => ?_)
  · obtain ⟨a, m, rfl, _⟩ := h
    rfl
  · obtain ⟨a, m, rfl, h0, hm, ⟨g, s', n, hB⟩, k⟩ := h
    have hu := hu_of hr
    refine ⟨_, (pss_cons (ps_if (pt_cmpR op_gt (pe_ix ix_list (pv 0) pe_int (fun _ _ => rfl)) pe_int (nomark _))
        (pss_cons (ps_set (i := 2) sc__law_sip.nd rfl (Or.inl rfl) (pe_op op_mod (pe_callTy call_int1 (by rfl) T.b_int (by decide +kernel) (pa_cons (pe_ix ix_list (pv 0) pe_int (fun _ _ => rfl)) pa_nil)) (pv 1)))
          (pss_cons (ps_asg (pe_op op_fdivW (pe_ix ix_list (pv 0) pe_int (fun _ _ => rfl)) (pv 1)) (pg_sub (pv 0) pe_int set_list))
          (pss_one (ps_ret (pv 2)))))
        pss_nil)
      (pss_cons (ps_asg (pe_op op_add (pe_ix ix_list (pv 0) pe_int (fun _ _ => rfl)) pe_int) (pg_sub (pv 0) pe_int set_list))
      (pss_cons (ps_set (i := 3) sc__law_sip.nd rfl (Or.inl rfl) (pe_op op_mod (pe_callTy call_int1 (by rfl) T.b_int (by decide +kernel) (pa_cons (pe_op op_add (pe_ix ix_list (pv 0) pe_int (fun _ _ => rfl)) (pe_op op_mul pe_int (pe_ix ix_list (pv 0) pe_int (fun _ _ => rfl)))) pa_nil)) pe_int))
      (pss_cons (ps_set (i := 4) sc__law_sip.nd rfl (Or.inl rfl) (pe_op op_mod (pe_callTy call_int1 (by rfl) T.b_int (by decide +kernel) (pa_cons (pe_op op_add (pe_op op_add (pe_op op_mulW (pv 3) (pv 3)) (pe_op op_fdivW (pe_ix ix_list (pv 0) pe_int (fun _ _ => rfl)) pe_int)) (pe_op op_mul pe_int (pe_ix ix_list (pv 0) pe_int (fun _ _ => rfl)))) pa_nil)) pe_int))
      (pss_cons (ps_set (i := 5) sc__law_sip.nd rfl (Or.inl rfl) (pe_op op_mod (pe_callTy call_int1 (by rfl) T.b_int (by decide +kernel) (pa_cons (pe_op op_add (pe_op op_mulW (pv 4) (pv 4)) (pv 3)) pa_nil)) pe_int))
      (pss_one (ps_ret (pe_op op_mod (pe_callTy call_int1 (by rfl) T.b_int (by decide +kernel) (pa_cons (pe_op op_fdivW (pv 5) pe_int) pa_nil)) (pv 1))))))))), ?_⟩
    refine ⟨_, rfl, a, _, _, _, rfl, rfl, SqL.of hB, rfl, _, _, rfl, rfl, _, rfl, ?_⟩
    refine ite2 (fun h => ?_) (fun h => ?_)
    · refine ⟨_, rfl, a, _, _, _, rfl, rfl, SqL.of hB, rfl, .inl ⟨_, rfl, _, rfl, _, _, rfl, rfl, h0, ?_⟩⟩
      refine ⟨_, rfl, a, _, _, _, rfl, rfl, SqL.of hB, rfl, _, rfl, _, _, rfl, rfl, wide_div h0 hm (by decide) (by decide), ?_⟩
      refine ⟨_, rfl, a, _, _, 0, rfl, rfl, hB, rfl, ?_⟩
      exact ⟨_, rfl, k _ _ (Int.emod_nonneg _ (by omega)) (Int.emod_lt_of_pos _ h0) Frm.write ⟨_, _, _, upd_same⟩⟩
    · refine ⟨_, rfl, a, _, _, _, rfl, rfl, SqL.of hB, rfl, _, _, rfl, rfl, ?_⟩
      refine ⟨_, rfl, a, _, _, 2, rfl, rfl, hB, rfl, ?_⟩
      have hB2 : (upd H a (.lst ([V.int g, V.int s', V.int n].set 2 (V.int (n + 1))))) a = some (.lst [.int g, .int s', .int (n + 1)]) := upd_same
      refine ⟨_, rfl, a, _, _, _, rfl, rfl, SqL.of hB2, rfl, _, rfl, a, _, _, _, rfl, rfl, SqL.of hB2, rfl, _, _, rfl, rfl, .inl (by decide), _, _, rfl, rfl, .inl ⟨_, rfl, _, _, rfl, rfl, by show (0 : Int) < 1000000123; decide, ?_⟩⟩
      refine ⟨_, rfl, _, rfl, _, _, rfl, rfl, wide_mul (a := 30) (b := 30) (mod30 (by decide) (by decide)) (mod30 (by decide) (by decide)) (by decide) (by decide) (by decide), ?_⟩
      refine ⟨_, rfl, a, _, _, _, rfl, rfl, SqL.of hB2, rfl, _, _, rfl, rfl, ⟨by decide, by decide +kernel⟩, _, _, rfl, rfl, ?_⟩
      refine ⟨_, rfl, a, _, _, _, rfl, rfl, SqL.of hB2, rfl, _, _, rfl, rfl, .inl (by decide), _, _, rfl, rfl, .inl ⟨_, rfl, _, _, rfl, rfl, by show (0 : Int) < 999999937; decide, ?_⟩⟩
      refine ⟨_, rfl, _, rfl, _, _, rfl, rfl, wide_mul (a := 30) (b := 30) (mod30 (by decide) (by decide)) (mod30 (by decide) (by decide)) (by decide) (by decide) (by decide), _, rfl, _, _, rfl, rfl, .inl ⟨_, rfl, _, _, rfl, rfl, by show (0 : Int) < 1000000181; decide, ?_⟩⟩
      refine ⟨_, rfl, _, _, rfl, rfl, ⟨by decide, by decide +kernel⟩, .inl ⟨_, rfl, _, rfl, _, _, rfl, rfl, h0, ?_⟩⟩
      exact k _ _ (Int.emod_nonneg _ (by omega)) (Int.emod_lt_of_pos _ h0) Frm.write ⟨_, _, _, hB2⟩
def sp__law_great : Sp := fun vs H Q _ => ∃ (a : Addr) (m : Nat), vs = [.ref a, .int (m : Int)] ∧ 0 < m ∧ m ≤ 100 ∧ Bowl H a ∧ ∀ (r : Int) H', 0 ≤ r → r < 10 ^ (6 * m) → Frm a H H' → Bowl H' a → Q (.int r) H'
theorem ok__law_great (T : Txt K mg A) : FnOk P w K mg base CX0 2 A.f__law_great A.d__law_great ["_law_bowl_here", "_law_most"] sp__law_great := by
  refine T.F__law_great.ok sc__law_great (fun vs H Q E h => ?_) (fun cdv Ar outer s H vs Q E hr h => ?_)
  · obtain ⟨a, m, rfl, _⟩ := h
    rfl
  · obtain ⟨a, m, rfl, h0, hm, hB, k⟩ := h
    have hu := hu_of hr
    refine ⟨_, (pss_cons (ps_set (i := 2) sc__law_great.nd rfl (Or.inl rfl) pe_int)
      (pss_cons (ps_for PassesOwn.never rfl (pi_range1 rfl T.b_range (pa_cons (pe_op op_add pe_int (pe_call (ok__law_sip T) (hr.mono (by decide)) rfl T.m__law_sip T.F__law_sip.kp T.b__law_sip .nil pass0 (pa_cons (pv 0) (pa_cons (pv 1) pa_nil)))) pa_nil)) (pg_name (i := 3) sc__law_great.nd rfl (Or.inl rfl))
        (pss_one (ps_set (i := 2) sc__law_great.nd rfl (Or.inl rfl) (pe_op op_add (pe_op op_mul (pv 2) pe_int) (pe_call (ok__law_sip T) (hr.mono (by decide)) rfl T.m__law_sip T.F__law_sip.kp T.b__law_sip .nil pass0 (pa_cons (pv 0) (pa_cons pe_int pa_nil)))))))
      (pss_one (ps_ret (pv 2))))), ?_⟩
    refine ⟨_, rfl, _, rfl, a, m, rfl, by omega, ?_, hB, fun r H1 r0 r1 f1 B1 => ?_⟩
    · have : (m : Int).natAbs < 2 ^ 7 := by omega
      exact Nat.lt_of_lt_of_le this (Nat.pow_le_pow_right (by decide) (by decide))
    refine ⟨_, _, rfl, rfl, _, rfl, by omega, by omega, for_range (lo := 0) (n := (1 + r).toNat) (fun i σ H' => ∃ (f : Int) (v : Option V), σ = [some (.ref a), some (.int m), some (.int f), v] ∧ Frm a H H' ∧ Bowl H' a ∧ 0 ≤ f ∧ f < 10 ^ (6 * i))
      ⟨0, none, rfl, f1, B1, by decide, by decide⟩ ?_ ?_⟩
    · rintro i σ H' hi ⟨f, v, rfl, f2, B2, f0, f3⟩
      refine ⟨_, rfl, _, _, rfl, rfl, .inr (by decide), _, rfl, a, 1000000, rfl, by decide, by decide +kernel, B2, fun q H2 q0 q1 f4 B3 => ?_⟩
      refine ⟨_, _, rfl, rfl, _, _, rfl, f2.trans f4, B3, by omega, ?_⟩
      have e : (10 : Int) ^ (6 * (i + 1)) = 10 ^ (6 * i) * 1000000 := by
        rw [show 6 * (i + 1) = 6 * i + 6 by omega, Int.pow_add]
        rfl
      rw [e]
      omega
    · rintro σ H' ⟨f, v, rfl, f2, B2, f0, f3⟩
      refine ⟨_, rfl, k f _ f0 (Int.lt_of_lt_of_le f3 ?_) f2 B2⟩
      rcases Nat.lt_or_ge (6 * (1 + r).toNat) (6 * m) with h | h
      · exact Int.le_of_lt (Int.pow_lt_pow_of_lt (by decide) h)
      · rw [show 6 * (1 + r).toNat = 6 * m by omega]
        exact Int.le_refl _
def sp__law_pair : Sp := fun vs H Q _ => ∃ a : Addr, vs = [.ref a] ∧ Bowl H a ∧ ∀ p x y H', H p = none → Frm a H H' → Bowl H' a → H' p = some (.lst [.int x, .int y]) → x.natAbs < 10 ^ 57 → 1 ≤ y → y < 10 ^ 57 → Q (.ref p) H'
theorem nat57 {x : Int} {n : Nat} (h0 : -(n : Int) ≤ x) (h1 : x ≤ n) (h : n < 10 ^ 57) : x.natAbs < 10 ^ 57 := by omega
theorem ok__law_pair (T : Txt K mg A) : FnOk P w K mg base CX0 3 A.f__law_pair A.d__law_pair ["_law_bowl_here"] sp__law_pair := by
  refine T.F__law_pair.ok sc__law_pair (fun vs H Q E h => ?_) (fun cdv Ar outer s H vs Q E hr h => ?_)
  · obtain ⟨a, rfl, _⟩ := h
    rfl
  · obtain ⟨a, rfl, hB, k⟩ := h
    have hu := hu_of hr
    refine ⟨_, (pss_cons (ps_set (i := 1) sc__law_pair.nd rfl (Or.inl rfl) (pe_call (ok__law_sip T) (hr.mono (by decide)) rfl T.m__law_sip T.F__law_sip.kp T.b__law_sip .nil pass0 (pa_cons (pv 0) (pa_cons pe_int pa_nil))))
      (Evl.pss_cut (ps_if (pt_cmpR op_lt (pv 1) pe_int (nomark _))
        (pss_one (ps_par (i := 2) (j := 3) (by rfl) sc__law_pair.nd rfl rfl (by decide) rfl rfl (pa_cons (pe_op op_sub (pe_call (ok__law_sip T) (hr.mono (by decide)) rfl T.m__law_sip T.F__law_sip.kp T.b__law_sip .nil pass0 (pa_cons (pv 0) (pa_cons pe_int pa_nil))) pe_int) (pa_cons (pe_op op_add pe_int (pe_call (ok__law_sip T) (hr.mono (by decide)) rfl T.m__law_sip T.F__law_sip.kp T.b__law_sip .nil pass0 (pa_cons (pv 0) (pa_cons pe_int pa_nil)))) pa_nil)) (by rfl)))
        (pss_one (ps_if (pt_cmpR op_eq (pv 1) pe_int (nomark _))
            (pss_one (ps_par (i := 2) (j := 3) (by rfl) sc__law_pair.nd rfl rfl (by decide) rfl rfl (pa_cons (pe_op op_sub (pe_call (ok__law_sip T) (hr.mono (by decide)) rfl T.m__law_sip T.F__law_sip.kp T.b__law_sip .nil pass0 (pa_cons (pv 0) (pa_cons pe_int pa_nil))) pe_int) (pa_cons (pe_op op_add pe_int (pe_call (ok__law_sip T) (hr.mono (by decide)) rfl T.m__law_sip T.F__law_sip.kp T.b__law_sip .nil pass0 (pa_cons (pv 0) (pa_cons pe_int pa_nil)))) pa_nil)) (by rfl)))
            (pss_one (ps_par (i := 2) (j := 3) (by rfl) sc__law_pair.nd rfl rfl (by decide) rfl rfl (pa_cons (pe_call (ok__law_great T) (hr.mono (by decide)) rfl T.m__law_great T.F__law_great.kp T.b__law_great .nil pass0 (pa_cons (pv 0) (pa_cons pe_int pa_nil))) (pa_cons (pe_op op_add pe_int (pe_call (ok__law_great T) (hr.mono (by decide)) rfl T.m__law_great T.F__law_great.kp T.b__law_great .nil pass0 (pa_cons (pv 0) (pa_cons pe_int pa_nil)))) pa_nil)) (by rfl))))))
      (Evl.pss_cut (ps_if (pt_cmpR op_eq (pe_call (ok__law_sip T) (hr.mono (by decide)) rfl T.m__law_sip T.F__law_sip.kp T.b__law_sip .nil pass0 (pa_cons (pv 0) (pa_cons pe_int pa_nil))) pe_int (nomark _))
        (pss_cons (ps_set (i := 4) sc__law_pair.nd rfl (Or.inl rfl) (pe_op op_add pe_int (pe_call (ok__law_sip T) (hr.mono (by decide)) rfl T.m__law_sip T.F__law_sip.kp T.b__law_sip .nil pass0 (pa_cons (pv 0) (pa_cons pe_int pa_nil)))))
          (pss_one (ps_par (i := 2) (j := 3) (by rfl) sc__law_pair.nd rfl rfl (by decide) rfl rfl (pa_cons (pe_op op_mulW (pv 2) (pv 4)) (pa_cons (pe_op op_mulW (pv 3) (pv 4)) pa_nil)) (by rfl))))
        pss_nil)
      (pss_one (ps_ret (pe_lst (pa_cons (pe_ifExp (pt_cmpR op_eq (pe_call (ok__law_sip T) (hr.mono (by decide)) rfl T.m__law_sip T.F__law_sip.kp T.b__law_sip .nil pass0 (pa_cons (pv 0) (pa_cons pe_int pa_nil))) pe_int (nomark _)) (pe_op op_sub pe_int (pv 2)) (pv 2)) (pa_cons (pv 3) pa_nil)))))))), ?_⟩
    refine ⟨_, rfl, a, 6, rfl, by decide, by decide +kernel, hB, fun w1 H1 w0 w6 f1 B1 => ?_⟩
    refine ⟨fun σ H' => ∃ x y : Int, σ = [some (.ref a), some (.int w1), some (.int x), some (.int y), none] ∧ Frm a H H' ∧ Bowl H' a ∧ x.natAbs ≤ 10 ^ 54 ∧ 1 ≤ y ∧ y ≤ 10 ^ 54, ?_, ?_⟩
    · refine ⟨_, rfl, _, _, rfl, rfl, _, rfl, ?_⟩
      refine ite2 (fun h => ?_) (fun h => ?_)
      · refine ⟨_, rfl, a, 60, rfl, by decide, by decide +kernel, B1, fun r2 H2 r0 r1 f2 B2 => ⟨_, _, rfl, rfl, ?_⟩⟩
        refine ⟨_, rfl, a, 40, rfl, by decide, by decide +kernel, B2, fun r3 H3 q0 q1 f3 B3 => ⟨_, _, rfl, rfl, _, _, rfl, ?_⟩⟩
        exact ⟨_, _, rfl, (f1.trans f2).trans f3, B3, by omega, by omega, by omega⟩
      · refine ⟨_, rfl, rfl, _, rfl, ?_⟩
        refine ite2 (fun h => ?_) (fun h => ?_)
        · refine ⟨_, rfl, a, 100000, rfl, by decide, by decide +kernel, B1, fun r2 H2 r0 r1 f2 B2 => ⟨_, _, rfl, rfl, ?_⟩⟩
          refine ⟨_, rfl, a, 50000, rfl, by decide, by decide +kernel, B2, fun r3 H3 q0 q1 f3 B3 => ⟨_, _, rfl, rfl, _, _, rfl, ?_⟩⟩
          exact ⟨_, _, rfl, (f1.trans f2).trans f3, B3, by omega, by omega, by omega⟩
        · refine ⟨_, rfl, a, 9, rfl, by decide, by decide, B1, fun r2 H2 r0 r1 f2 B2 => ?_⟩
          refine ⟨_, rfl, a, 9, rfl, by decide, by decide, B2, fun r3 H3 q0 q1 f3 B3 => ⟨_, _, rfl, rfl, _, _, rfl, ?_⟩⟩
          have e : (10 : Int) ^ (6 * 9) = 10 ^ 54 := rfl
          exact ⟨_, _, rfl, (f1.trans f2).trans f3, B3, by omega, by omega, by omega⟩
    · rintro σ H2 ⟨x, y, rfl, f2, B2, hx, y0, y1⟩
      refine ⟨fun σ H' => ∃ (x y : Int) (v : Option V), σ = [some (.ref a), some (.int w1), some (.int x), some (.int y), v] ∧ Frm a H H' ∧ Bowl H' a ∧ x.natAbs < 10 ^ 57 ∧ 1 ≤ y ∧ y < 10 ^ 57, ?_, ?_⟩
      · refine ⟨_, rfl, a, 4, rfl, by decide, by decide +kernel, B2, fun r3 H3 q0 q1 f3 B3 => ⟨rfl, _, rfl, ?_⟩⟩
        refine ite2 (fun h => ?_) (fun h => ?_)
        · refine ⟨_, rfl, a, 30, rfl, by decide, by decide +kernel, B3, fun r4 H4 s0 s1 f4 B4 => ⟨_, _, rfl, rfl, ?_⟩⟩
          have bb : (2 + r4).natAbs < 2 ^ 6 := by omega
          have bx : x.natAbs < 2 ^ 200 := by omega
          have by' : y.natAbs < 2 ^ 200 := by omega
          refine ⟨_, rfl, _, rfl, _, _, rfl, rfl, wide_mul bx bb (by decide) (by decide) (by decide), _, rfl, _, rfl, _, _, rfl, rfl, wide_mul by' bb (by decide) (by decide) (by decide), _, _, rfl, ?_⟩
          have k1 : (x * (2 + r4)).natAbs ≤ 10 ^ 54 * 32 := by
            rw [Int.natAbs_mul]
            exact Nat.mul_le_mul hx (by omega)
          have k2 : y * (2 + r4) ≤ 10 ^ 54 * 32 := Int.mul_le_mul y1 (by omega) (by omega) (by decide)
          have k3 : 1 * 1 ≤ y * (2 + r4) := Int.mul_le_mul y0 (by omega) (by decide) (by omega)
          exact ⟨_, _, _, rfl, (f2.trans f3).trans f4, B4, by omega, by omega, by omega⟩
        · exact ⟨x, y, none, rfl, f2.trans f3, B3, by omega, y0, by omega⟩
      · rintro σ H3 ⟨x, y, v, rfl, f3, B3, hx, y0, y1⟩
        refine ⟨_, rfl, a, 6, rfl, by decide, by decide +kernel, B3, fun r4 H4 s0 s1 f4 B4 => ⟨rfl, _, rfl, ?_⟩⟩
        obtain ⟨g, s', n, hb4⟩ := id B4
        refine ite2 (fun h => ?_) (fun h => ?_)
        · refine ⟨_, rfl, _, _, rfl, rfl, _, rfl, by show 2 ≤ sizeLine; decide, fun p hp => ?_⟩
          exact k p (0 - x) y _ ((f3.trans f4).free hb4 hp) ((f3.trans f4).trans (Same.frm (same_new hp))) (B4.stay (same_new hp)) upd_same (by omega) y0 y1
        · refine ⟨_, rfl, _, rfl, by show 2 ≤ sizeLine; decide, fun p hp => ?_⟩
          exact k p x y _ ((f3.trans f4).free hb4 hp) ((f3.trans f4).trans (Same.frm (same_new hp))) (B4.stay (same_new hp)) upd_same hx y0 y1
end
end Tk

set_option maxHeartbeats 2000000
namespace Tk
open PySem PySem.Spec PyProof.Rows L2 Tc
section
variable {P : Program} {w : World} {K : PySem.W.Frag} {mg : Str → Option Value} {base : Heap} {A : Ad}
open Tm
theorem ifF {c : Bool} {A B : Prop} (hc : c = false) (h : B) : if c = true then A else B := by
  rw [hc, if_neg Bool.false_ne_true]
  exact h
theorem ifT {c : Bool} {A B : Prop} (hc : c = true) (h : A) : if c = true then A else B := by
  rw [if_pos hc]
  exact h
theorem neD_self {d e : PyData} (h : d = e) (s : SeqAt.shaped e = true) : (!PyData.eqv d e) = false := by
  subst h
  rw [eqv_self s]
  rfl
theorem ne_self {x y : Int} (h : x = y) : (!decide (V.int x = V.int y)) = false := by
  subst h
  rw [decide_eq_true rfl]
  rfl
theorem PrA.dpa {K : PySem.W.Frag} {H : Hp} : ∀ {as : List Addr} {cs : List (Int × Int)}, PrA H as cs → DpAll K H (as.map V.ref) (dPairs cs)
  | _, _, .nil => .nil
  | _, _, .cons h t => .cons (.tup (SqT.of h) (.cons (.int _) (.cons (.int _) .nil))) t.dpa
theorem gcdOf_scale {m a b : Int} (hm : 0 < m) (hb : 0 < b) : gcdOf (a * m) (b * m) = m * gcdOf a b := by
  unfold gcdOf
  rw [rems_scale hm, List.getLast?_map]
  obtain ⟨g, h, _⟩ := last_rem (a := a) hb
  rw [h]
  rfl
theorem gcdN_scale {m a b : Int} (hm : 0 < m) : gcdN (a * m) (b * m) = m * gcdN a b := by
  unfold gcdN
  rw [Int.natAbs_mul, Int.natAbs_mul, Nat.gcd_mul_right, Int.natCast_mul, Int.mul_comm, Int.natAbs_of_nonneg (Int.le_of_lt hm)]
theorem gcdOf_gcdN {a b : Int} (hb : 0 < b) : gcdOf a b = gcdN a b := by
  unfold gcdOf gcdN
  obtain ⟨g, h, _⟩ := last_rem (a := a) hb
  rw [h]
  exact last_is_gcd hb h
theorem LadAt.ins {C : Addr} {H : Hp} {p : Addr} {a b : Int} (L : LadAt C H p a b) : ∃ dx fs, H p = some (.ins C dx fs) := by
  obtain ⟨_, _, _, dx, q, r, g1, _⟩ := L
  exact ⟨dx, _, g1⟩
theorem take_more {α : Type} : ∀ {l : List α} {i : Nat} {x : α}, l[i]? = some x → l.take (i + 1) = l.take i ++ [x]
  | [], i, x, h => by simp at h
  | a :: l, 0, x, h => by
    cases h
    rfl
  | a :: l, i + 1, x, h => by
    have ih := take_more (l := l) (i := i) (x := x) h
    show a :: l.take (i + 1) = a :: l.take i ++ [x]
    rw [ih]
    rfl
theorem short_of {x : Int} (h : x.natAbs < 10 ^ 60) : Short x := by
  unfold Short
  omega
theorem ne_bl {x y : Bool} (h : x = y) : (!decide (V.bl x = V.bl y)) = false := by
  subst h
  rw [decide_eq_true rfl]
  rfl
theorem made {H H1 : Hp} {x dx C : Addr} (nx : H x = none) (nd : H dx = none) (k : ∀ b o, (upd (upd H dx (.own x)) x (.ins C dx [])) b = some o → b ≠ x → H1 b = some o) : Same H H1 := fun b o e =>
  k b o (by rw [upd_ne (ne_of_none e nx), upd_ne (ne_of_none e nd)]; exact e) (ne_of_none e nx)
theorem same_frm {p : Addr} {H H1 H2 : Hp} (n : H p = none) (s : Same H H1) (f : Frm p H1 H2) : Same H H2 := fun b o e => f b o (ne_of_none e n) (s b o e)
theorem small_range (n : Nat) (h : n ≤ 63) (m : Int) (hm : m ≤ 63) : -(2 ^ 62) ≤ (if (if (n : Int) < m then (n : Int) else m) > 1 then (if (n : Int) < m then (n : Int) else m) else 1) ∧ (if (if (n : Int) < m then (n : Int) else m) > 1 then (if (n : Int) < m then (n : Int) else m) else 1) < 2 ^ 62 := by
  split <;> (try split) <;> omega
theorem n400 {x : Int} (h : x.natAbs < 10 ^ 120) : x.natAbs < 2 ^ 400 := Nat.lt_trans h (by decide +kernel)
theorem i400 {x : Int} (h : x < 10 ^ 120) : x < 2 ^ 400 := Int.lt_trans h (by decide +kernel)
end
end Tk

set_option maxHeartbeats 2000000
namespace Tk
open PySem PySem.Spec PyProof.Rows L2 Tc
section
variable {P : Program} {w : World} {K : PySem.W.Frag} {mg : Str → Option Value} {base : Heap} {A : Ad}
open Tm
def sp_Ladder_a (A : Ad) : Sp := fun vs H Q _ => ∃ (p : Addr) (a b : Int), vs = [.ref p] ∧ LadAt A.a_Ladder H p a b ∧ Q (.int a) H
theorem ok_Ladder_a (T : Txt K mg A) : FnOk P w K mg base CX0 1 A.f_Ladder_a A.d_Ladder_a ["self"] (sp_Ladder_a A) := by
  refine T.F_Ladder_a.ok sc_Ladder_a (fun vs H Q E h => ?_) (fun cdv Ar outer s H vs Q E hr h => ?_)
  · obtain ⟨p, a, b, rfl, _⟩ := h
    rfl
  · obtain ⟨p, a, b, rfl, ⟨h1, h2, h3, dx, q, r, g1, g2, g3⟩, k⟩ := h
    have hu := hu_of hr
    refine ⟨_, (pss_one (ps_ret (pe_fld (pv 0) rfl))), ?_⟩
    exact ⟨_, rfl, p, A.a_Ladder, dx, _, _, rfl, g1, T.c_Ladder, T.na_Ladder__a, lad_a, k⟩
def sp_Ladder_b (A : Ad) : Sp := fun vs H Q _ => ∃ (p : Addr) (a b : Int), vs = [.ref p] ∧ LadAt A.a_Ladder H p a b ∧ Q (.int b) H
theorem ok_Ladder_b (T : Txt K mg A) : FnOk P w K mg base CX0 1 A.f_Ladder_b A.d_Ladder_b ["self"] (sp_Ladder_b A) := by
  refine T.F_Ladder_b.ok sc_Ladder_b (fun vs H Q E h => ?_) (fun cdv Ar outer s H vs Q E hr h => ?_)
  · obtain ⟨p, a, b, rfl, _⟩ := h
    rfl
  · obtain ⟨p, a, b, rfl, ⟨h1, h2, h3, dx, q, r, g1, g2, g3⟩, k⟩ := h
    have hu := hu_of hr
    refine ⟨_, (pss_one (ps_ret (pe_fld (pv 0) rfl))), ?_⟩
    exact ⟨_, rfl, p, A.a_Ladder, dx, _, _, rfl, g1, T.c_Ladder, T.na_Ladder__b, lad_b, k⟩
def sp_Ladder_shifted (A : Ad) : Sp := fun vs H Q _ => ∃ (p : Addr) (a b t : Int), vs = [.ref p, .int t] ∧ LadAt A.a_Ladder H p a b ∧ Short t ∧ (a + t * b).natAbs < 2 ^ 400 ∧ ∀ q H', Same H H' → LadAt A.a_Ladder H' q (a + t * b) b → Q (.ref q) H'
theorem ok_Ladder_shifted (T : Txt K mg A) : FnOk P w K mg base CX0 9 A.f_Ladder_shifted A.d_Ladder_shifted ["self", "times"] (sp_Ladder_shifted A) := by
  refine T.F_Ladder_shifted.ok sc_Ladder_shifted (fun vs H Q E h => ?_) (fun cdv Ar outer s H vs Q E hr h => ?_)
  · obtain ⟨p, a, b, t, rfl, _⟩ := h
    rfl
  · obtain ⟨p, a, b, t, rfl, L, ht, hs, k⟩ := h
    have hu := hu_of hr
    refine ⟨_, (pss_cons (ps_set (i := 2) sc_Ladder_shifted.nd rfl (Or.inl rfl) (pe_op op_mulW (pe_call (ok_checked_integer T) (hr.mono (by decide)) rfl T.m_checked_integer T.F_checked_integer.kp T.b_checked_integer .nil pass0 (pa_cons (pv 1) pa_nil)) (pe_fld (pv 0) rfl)))
      (pss_one (ps_ret (pe_make T.mk_Ladder (ok_Ladder___init__ T) (hr.mono (by decide)) rfl T.m_Ladder T.b_Ladder___init__ .nil pass0 (pa_cons (pe_make T.mk_Long (ok_Long___init__ T) (hr.mono (by decide)) rfl T.m_Long T.b_Long___init__ .nil pass0 (pa_cons (pe_op op_add (pe_fld (pv 0) rfl) (pv 2)) pa_nil)) (pa_cons (pe_make T.mk_Long (ok_Long___init__ T) (hr.mono (by decide)) rfl T.m_Long T.b_Long___init__ .nil pass0 (pa_cons (pe_fld (pv 0) rfl) pa_nil)) pa_nil)))))), ?_⟩
    obtain ⟨h1, h2, h3, dx, q, r, g1, g2, g3⟩ := id L
    refine ⟨_, rfl, _, t, rfl, .int ht, _, rfl, p, A.a_Ladder, dx, _, _, rfl, g1, T.c_Ladder, T.na_Ladder__b, lad_b, _, _, rfl, rfl, wide_mul (short_400 ht) (nat_400 (by omega) h2) (by decide) (by decide) (by decide), ?_⟩
    refine ⟨_, rfl, p, A.a_Ladder, dx, _, _, rfl, g1, T.c_Ladder, T.na_Ladder__a, lad_a, _, rfl, _, _, rfl, rfl, fun M dM nM ndM neM => ⟨M, dM, _, rfl, upd_same, fun H1 m1 kp1 => ⟨rfl, ?_⟩⟩⟩
    have s1 : Same H H1 := made nM ndM kp1
    refine ⟨_, rfl, p, A.a_Ladder, dx, _, _, rfl, s1 _ _ g1, T.c_Ladder, T.na_Ladder__b, lad_b, fun N dN nN ndN neN => ⟨N, dN, _, rfl, upd_same, fun H2 m2 kp2 => ⟨rfl, ?_⟩⟩⟩
    have s2 : Same H1 H2 := made nN ndN kp2
    intro L' dL' nL' ndL' neL'
    have up := fun b o e => (show upd (upd H2 dL' (.own L')) L' (.ins A.a_Ladder dL' []) b = some o by rw [upd_ne (ne_of_none e nL'), upd_ne (ne_of_none e ndL')]; exact e)
    refine ⟨L', dL', _, _, a + t * b, b, rfl, upd_same, .long (up _ _ (s2 _ _ m1)), .long (up _ _ m2), hs, h2, h1, fun H3 L3 kp3 => ⟨rfl, ?_⟩⟩
    exact k L' H3 ((s1.trans s2).trans (made nL' ndL' kp3)) L3
def sp_Ladder_exchanged (A : Ad) : Sp := fun vs H Q _ => ∃ (p : Addr) (a b : Int), vs = [.ref p] ∧ LadAt A.a_Ladder H p a b ∧ 1 ≤ a ∧ ∀ q H', Same H H' → LadAt A.a_Ladder H' q b a → Q (.ref q) H'
theorem ok_Ladder_exchanged (T : Txt K mg A) : FnOk P w K mg base CX0 9 A.f_Ladder_exchanged A.d_Ladder_exchanged ["self"] (sp_Ladder_exchanged A) := by
  refine T.F_Ladder_exchanged.ok sc_Ladder_exchanged (fun vs H Q E h => ?_) (fun cdv Ar outer s H vs Q E hr h => ?_)
  · obtain ⟨p, a, b, rfl, _⟩ := h
    rfl
  · obtain ⟨p, a, b, rfl, L, ha, k⟩ := h
    have hu := hu_of hr
    refine ⟨_, (pss_cons (ps_if (pt_cmpR op_lt (pe_fld (pv 0) rfl) pe_int (nomark _))
        (pss_one ps_never)
        pss_nil)
      (pss_one (ps_ret (pe_make T.mk_Ladder (ok_Ladder___init__ T) (hr.mono (by decide)) rfl T.m_Ladder T.b_Ladder___init__ .nil pass0 (pa_cons (pe_make T.mk_Long (ok_Long___init__ T) (hr.mono (by decide)) rfl T.m_Long T.b_Long___init__ .nil pass0 (pa_cons (pe_fld (pv 0) rfl) pa_nil)) (pa_cons (pe_make T.mk_Long (ok_Long___init__ T) (hr.mono (by decide)) rfl T.m_Long T.b_Long___init__ .nil pass0 (pa_cons (pe_fld (pv 0) rfl) pa_nil)) pa_nil)))))), ?_⟩
    obtain ⟨h1, h2, h3, dx, q, r, g1, g2, g3⟩ := id L
    refine ⟨_, rfl, p, A.a_Ladder, dx, _, _, rfl, g1, T.c_Ladder, T.na_Ladder__a, lad_a, _, _, rfl, rfl, _, rfl, ?_⟩
    rw [decide_eq_false (by omega)]
    refine iteF ?_
    refine ⟨_, rfl, p, A.a_Ladder, dx, _, _, rfl, g1, T.c_Ladder, T.na_Ladder__b, lad_b, fun M dM nM ndM neM => ⟨M, dM, _, rfl, upd_same, fun H1 m1 kp1 => ⟨rfl, ?_⟩⟩⟩
    have s1 : Same H H1 := made nM ndM kp1
    refine ⟨_, rfl, p, A.a_Ladder, dx, _, _, rfl, s1 _ _ g1, T.c_Ladder, T.na_Ladder__a, lad_a, fun N dN nN ndN neN => ⟨N, dN, _, rfl, upd_same, fun H2 m2 kp2 => ⟨rfl, ?_⟩⟩⟩
    have s2 : Same H1 H2 := made nN ndN kp2
    intro L' dL' nL' ndL' neL'
    have up := fun b o e => (show upd (upd H2 dL' (.own L')) L' (.ins A.a_Ladder dL' []) b = some o by rw [upd_ne (ne_of_none e nL'), upd_ne (ne_of_none e ndL')]; exact e)
    refine ⟨L', dL', _, _, b, a, rfl, upd_same, .long (up _ _ (s2 _ _ m1)), .long (up _ _ m2), nat_400 (by omega) h2, int_400 h3, ha, fun H3 L3 kp3 => ⟨rfl, ?_⟩⟩
    exact k L' H3 ((s1.trans s2).trans (made nL' ndL' kp3)) L3
/- the own == : of two ladders, of a ladder and another thing -/
def sp_Ladder___eq__ (K : PySem.W.Frag) (A : Ad) : Sp := fun vs H Q _ => ∃ (p : Addr) (a b : Int) (y : V), vs = [.ref p, y] ∧ LadAt A.a_Ladder H p a b ∧
  ((∃ q c d, y = .ref q ∧ LadAt A.a_Ladder H q c d ∧ Q (.bl (decide (a = c) && decide (b = d))) H) ∨ (∃ t, TyX K H y t ∧ PySem.W.kitOne K t (.ref A.a_Ladder) = some false ∧ Q (.bl false) H))
theorem ok_Ladder___eq__ (T : Txt K mg A) : FnOk P w K mg base CX0 3 A.f_Ladder___eq__ A.d_Ladder___eq__ ["self", "other"] (sp_Ladder___eq__ K A) := by
  refine T.F_Ladder___eq__.ok sc_Ladder___eq__ (fun vs H Q E h => ?_) (fun cdv Ar outer s H vs Q E hr h => ?_)
  · obtain ⟨p, a, b, y, rfl, _⟩ := h
    rfl
  · obtain ⟨p, a, b, y, rfl, L, k⟩ := h
    have hu := hu_of hr
    refine ⟨_, (pss_one (ps_ret (pe_and (pe_callB call_isi (by rfl) T.b_isinstance (by decide +kernel) (pa_cons (pv 1) (pa_cons (pe_glob rfl T.m_Ladder (rel_ref _)) pa_nil))) (pe_and (pe_cmpR op_eq (pe_fld (pv 0) rfl) (pe_prop (pv 1) T.c_Ladder T.p_Ladder_a (ok_Ladder_a T) (hr.mono (by decide)) T.b_Ladder_a .nil pass0 rfl) (nomark _)) (pe_one (pe_cmpR op_eq (pe_fld (pv 0) rfl) (pe_prop (pv 1) T.c_Ladder T.p_Ladder_b (ok_Ladder_b T) (hr.mono (by decide)) T.b_Ladder_b .nil pass0 rfl) (nomark _))))))), ?_⟩
    obtain ⟨h1, h2, h3, dx, q, r, g1, g2, g3⟩ := id L
    rcases k with ⟨q', c', d', rfl, M, k⟩ | ⟨t, ty, kt, k⟩
    · obtain ⟨dx', fs', e1⟩ := M.ins
      refine ⟨_, rfl, _, _, _, _, true, rfl, .own A.a_Ladder, ty_ins e1 T.c_Ladder T.cl_Ladder T.ob_Ladder T, kit_self, _, rfl, ?_⟩
      refine iteT ?_
      refine ⟨_, rfl, p, A.a_Ladder, dx, _, _, rfl, g1, T.c_Ladder, T.na_Ladder__a, lad_a, _, rfl, q', _, _, rfl, e1, q', c', d', rfl, M, rfl, _, rfl, ?_⟩
      rw [dec_int']
      by_cases e : a = c'
      · rw [decide_eq_true e] at k ⊢
        refine iteT ?_
        refine ⟨_, rfl, p, A.a_Ladder, dx, _, _, rfl, g1, T.c_Ladder, T.na_Ladder__b, lad_b, _, rfl, q', _, _, rfl, e1, q', c', d', rfl, M, rfl, ?_⟩
        rw [dec_int']
        exact k
      · rw [decide_eq_false e] at k ⊢
        refine iteF ?_
        exact k
    · refine ⟨_, rfl, _, _, _, _, false, rfl, .own A.a_Ladder, ty, kt, _, rfl, ?_⟩
      refine iteF ?_
      exact k
def sp_inverse_of (A : Ad) : Sp := fun vs H Q _ => ∃ (u v : V) (a b : Int), vs = [u, v] ∧ Num A H u a ∧ Num A H v b ∧ a.natAbs < 2 ^ 400 ∧ b < 2 ^ 400 ∧ 1 ≤ b ∧ Nat.gcd a.natAbs b.natAbs = 1 ∧ ∀ (x : Int) H', Same H H' → 0 ≤ x → x < b → b ∣ a * x - 1 → Q (.int x) H'
theorem num_up {H : Hp} {L dL : Addr} {v : V} {i : Int} {o : HO} (nL : H L = none) (ndL : H dL = none) (n : Num A H v i) : Num A (upd (upd H dL (.own L)) L o) v i :=
  n.stay fun p dx fs e => by
    rw [upd_ne (ne_of_none e nL), upd_ne (ne_of_none e ndL)]
    exact e
theorem ok_inverse_of (T : Txt K mg A) : FnOk P w K mg base CX0 9 A.f_inverse_of A.d_inverse_of ["a", "b"] (sp_inverse_of A) := by
  refine T.F_inverse_of.ok sc_inverse_of (fun vs H Q E h => ?_) (fun cdv Ar outer s H vs Q E hr h => ?_)
  · obtain ⟨u, v, a, b, rfl, _⟩ := h
    rfl
  · obtain ⟨u, v, a, b, rfl, ha, hb, h4, hI, h1, hg, k⟩ := h
    have hu := hu_of hr
    refine ⟨_, (pss_cons (ps_asg (pe_call (ok_checked_pair T) (hr.mono (by decide)) rfl T.m_checked_pair T.F_checked_pair.kp T.b_checked_pair .nil pass0 (pa_cons (pv 0) (pa_cons (pv 1) pa_nil))) (pg_tup rfl (pgs_cons (pg_name (i := 2) sc_inverse_of.nd rfl (Or.inl rfl)) (pgs_cons (pg_name (i := 3) sc_inverse_of.nd rfl (Or.inl rfl)) pgs_nil))))
      (pss_cons (ps_set (i := 4) sc_inverse_of.nd rfl (Or.inl rfl) (pe_call (ok_inverse_or_none T) (hr.mono (by decide)) rfl T.m_inverse_or_none T.F_inverse_or_none.kp T.b_inverse_or_none .nil pass0 (pa_cons (pv 2) (pa_cons (pv 3) pa_nil))))
      (pss_cons (ps_if (pt_cmpR op_isN (pv 4) pe_non (nomark _))
        (pss_one ps_never)
        pss_nil)
      (pss_one (ps_ret (pv 4)))))), ?_⟩
    have b5 : b.natAbs < 2 ^ 500 := Nat.lt_of_lt_of_le (nat_400 (by omega) hI) (Nat.pow_le_pow_right (by decide) (by decide))
    refine ⟨_, rfl, _, rfl, u, v, a, b, rfl, ha, hb, h1, fun t H1 hn s1 g1 => ?_⟩
    refine ⟨t, _, rfl, SqT.of g1, rfl, _, _, rfl, _, _, rfl, rfl, ?_⟩
    refine ⟨_, rfl, _, rfl, a, b, rfl, h1, b5, fun hg' x x0 x1 xd => ?_, fun z => absurd hg z⟩
    refine ⟨_, rfl, rfl, _, rfl, ?_⟩
    refine iteF ?_
    exact ⟨_, rfl, k _ H1 s1 x0 x1 xd⟩
/-! ### the law's own -/
def sp__law_common : Sp := fun vs H Q _ => ∃ x y : Int, vs = [.int x, .int y] ∧ Q (.int (gcdN x y)) H
theorem abs_val (x : Int) : (if x < 0 then -x else x) = (x.natAbs : Int) := by
  split <;> omega
theorem gcdN_zero (x : Int) (h : 0 ≤ x) : gcdN x 0 = x := by
  unfold gcdN
  show ((Nat.gcd x.natAbs 0 : Nat) : Int) = x
  rw [Nat.gcd_zero_right]
  omega
theorem gcdN_step {x y : Int} (hx : 0 ≤ x) (hy : 0 < y) : gcdN y (x % y) = gcdN x y := by
  unfold gcdN
  have e : (x % y).natAbs = x.natAbs % y.natAbs := by
    have h1 : x = ((x.natAbs : Nat) : Int) := by omega
    have h2 : y = ((y.natAbs : Nat) : Int) := by omega
    rw [h1, h2]
    norm_cast
  rw [e, Nat.gcd_comm x.natAbs y.natAbs, Nat.gcd_rec y.natAbs x.natAbs, Nat.gcd_comm]
theorem ok__law_common (T : Txt K mg A) : FnOk P w K mg base CX0 1 A.f__law_common A.d__law_common ["_law_one", "_law_other"] sp__law_common := by
  refine T.F__law_common.ok sc__law_common (fun vs H Q E h => ?_) (fun cdv Ar outer s H vs Q E hr h => ?_)
  · obtain ⟨x, y, rfl, _⟩ := h
    rfl
  · obtain ⟨x, y, rfl, k⟩ := h
    have hu := hu_of hr
    refine ⟨_, (pss_cons (ps_par (i := 0) (j := 1) (by rfl) sc__law_common.nd rfl rfl (by decide) rfl rfl (pa_cons (pe_callB call_abs (by rfl) T.b_abs (by decide +kernel) (pa_cons (pv 0) pa_nil)) (pa_cons (pe_callB call_abs (by rfl) T.b_abs (by decide +kernel) (pa_cons (pv 1) pa_nil)) pa_nil)) (by rfl))
      (pss_cons (ps_while PassesOwn.never (pt_cmpR op_gt (pv 1) pe_int (nomark _))
        (pss_one (ps_par (i := 0) (j := 1) (by rfl) sc__law_common.nd rfl rfl (by decide) rfl rfl (pa_cons (pv 1) (pa_cons (pe_op op_mod (pe_callTy call_int1 (by rfl) T.b_int (by decide +kernel) (pa_cons (pv 0) pa_nil)) (pv 1)) pa_nil)) (by rfl))))
      (pss_one (ps_ret (pv 0))))), ?_⟩
    refine ⟨_, rfl, _, rfl, _, rfl, _, rfl, _, _, rfl, ?_⟩
    rw [abs_val, abs_val]
    refine ⟨fun m σ H' => ∃ u v : Int, m = v.toNat ∧ σ = [some (.int u), some (.int v)] ∧ H' = H ∧ 0 ≤ u ∧ 0 ≤ v ∧ gcdN u v = gcdN x y, ⟨_, x.natAbs, y.natAbs, rfl, rfl, rfl, by omega, by omega, by unfold gcdN; simp⟩, ?_⟩
    rintro m σ H' ⟨u, v, rfl, rfl, rfl, u0, v0, e⟩
    refine ⟨_, rfl, _, _, rfl, rfl, _, rfl, ?_⟩
    refine ite2 (fun h => ?_) (fun h => ?_)
    · have hv : 0 < v := of_decide_eq_true h
      refine ⟨fun σ' H2 => ∃ m', m' < v.toNat ∧ _, fun _ _ z => z, ?_⟩
      refine ⟨_, rfl, _, rfl, .inl ⟨_, rfl, _, rfl, _, _, rfl, rfl, hv, _, _, rfl, ?_⟩⟩
      have h3 := Int.emod_lt_of_pos u hv
      have h4 := Int.emod_nonneg u (show v ≠ 0 by omega)
      exact ⟨(u % v).toNat, by omega, v, u % v, rfl, rfl, rfl, v0, h4, by rw [gcdN_step u0 hv]; exact e⟩
    · have hv : ¬ 0 < v := fun z => h (decide_eq_true z)
      have : v = 0 := by omega
      subst this
      rw [gcdN_zero u u0] at e
      rw [← e] at k
      exact ⟨_, rfl, k⟩
end
end Tk

set_option maxHeartbeats 2000000
namespace Tk
open PySem PySem.Spec PyProof.Rows L2 Tc
section
variable {P : Program} {w : World} {K : PySem.W.Frag} {mg : Str → Option Value} {base : Heap} {A : Ad}
open Tm
local macro_rules | `(tactic| walk_at "arr") => `(tactic| first
  | with_reducible assumption
  | ((with_reducible apply same_new); with_reducible assumption))
local macro_rules | `(tactic| walk_at "f") => `(tactic| first
  | with_reducible assumption
  | with_reducible exact upd_same
  | with_reducible exact Same.refl _
  | with_reducible exact Frm.refl
  | ((with_reducible apply sqL_K); (focus with_reducible assumption); rfl)
  | ((with_reducible apply sqT_K); (focus with_reducible assumption); rfl)
  | ((with_reducible apply SqT.of); walk_at "f")
  | ((with_reducible apply SqL.of); walk_at "f")
  | ((with_reducible apply back_raw); (focus walk_at "arr"); walk_at "f")
  | ((with_reducible apply frm_tup); (focus with_reducible assumption); (focus walk_at "f"); (focus walk_at "f"); (focus (intro _ z; cases z; done)))
  | ((with_reducible apply frm_raw); (focus with_reducible assumption); (focus walk_at "f"); walk_at "f")
  | ((with_reducible apply bowl_back); (focus walk_at "arr"); walk_at "f")
  | ((with_reducible apply bowl_ne); (focus with_reducible assumption); walk_at "f")
  | ((with_reducible apply Num.int); with_reducible assumption)
  | ((with_reducible apply same_snoc); (focus walk_at "arr"); walk_at "f")
  | ((with_reducible apply frm_back); (focus walk_at "arr"); walk_at "f")
  | ((with_reducible apply frm_backF); (focus with_reducible assumption); walk_at "f")
  | ((with_reducible apply back_sqT); (focus walk_at "arr"); walk_at "f")
  | ((with_reducible apply same_sqL); (focus walk_at "arr"); walk_at "f")
  | ((with_reducible apply free_same); (focus with_reducible assumption); walk_at "f")
  | ((with_reducible apply free_frm); (focus with_reducible assumption); (focus with_reducible assumption); walk_at "f")
  | ((with_reducible apply frm_sqL); (focus with_reducible assumption); (focus walk_at "f"); walk_at "f"))
local macro_rules | `(tactic| walk_at "bt") => `(tactic| first
  | with_reducible assumption
  | ((with_reducible apply bt_mul); (focus walk_at "bt"); walk_at "bt")
  | ((with_reducible apply bt_add); (focus walk_at "bt"); walk_at "bt")
  | ((with_reducible apply bt_sub); (focus walk_at "bt"); walk_at "bt")
  | ((with_reducible apply bt_neg); walk_at "bt")
  | ((with_reducible apply bt_div); walk_at "bt")
  | ((with_reducible apply bt_mod); (focus (first | assumption | omega)); walk_at "bt")
  | exact bt_lit (n := 64) (by decide)
  | exact bt_lit (n := 200) (by decide +kernel))
local macro_rules | `(tactic| walk_at "lin") => `(tactic| first
  | exact (by decide : 1 ≤ sizeLine) | exact (by decide : 2 ≤ sizeLine) | exact (by decide : 3 ≤ sizeLine) | exact (by decide : 4 ≤ sizeLine) | exact (by decide : 0 ≤ sizeLine) | exact (by decide : 5 ≤ sizeLine) | exact (by decide : 6 ≤ sizeLine))
local macro_rules | `(tactic| walk_at "dp") => `(tactic| first
  | exact Dp.int _
  | exact DpAll.nil
  | ((with_reducible apply Dp.lst); (focus walk_at "f"); walk_at "dp")
  | ((with_reducible apply Dp.tup); (focus walk_at "f"); walk_at "dp")
  | ((with_reducible apply DpAll.cons); (focus walk_at "dp"); walk_at "dp"))
local macro_rules | `(tactic| walk_at "sv") => `(tactic| first
  | with_reducible rfl
  | walk_at "f"
  | exact rfl
  | walk_at "dp"
  | exact shp_lst [_] | exact shp_lst [_, _] | exact shp_lst [_, _, _] | exact shp_lst [_, _, _, _] | exact shp_tup [_, _] | exact shp_tup [_, _, _]
  | ((apply tyV_lst); walk_at "f")
  | ((with_reducible apply bt_mulW); (focus walk_at "bt"); (focus walk_at "bt"); (focus (first | decide | omega)))
  | ((with_reducible apply bt_divW); (focus (first | decide | assumption | omega)); (focus walk_at "bt"); (focus (first | decide | omega)))
  | ((with_reducible apply bt_divP); (focus (first | decide | assumption | omega)); (focus walk_at "bt"); (focus (first | decide | omega)))
  | exact ⟨by decide, by decide +kernel⟩
  | exact Or.inl (by decide)
  | exact Or.inr (by decide)
  | exact Or.inl ⟨by omega, by omega⟩
  | exact Or.inr ⟨by omega, by omega⟩
  | ((with_reducible apply Or.inl); walk_at "sv")
  | ((with_reducible apply Or.inr); walk_at "sv")
  | ((with_reducible apply Exists.intro); walk_at "sv")
  | ((with_reducible apply And.intro); (focus walk_at "sv"); walk_at "sv")
  | walk_at "lin"
  | decide
  | omega
  | (simp only [List.length_cons, List.length_nil, List.length_map]; first | done | omega))
local macro_rules | `(tactic| walk_at "one") => `(tactic| first
  | ((fail_if_success refine' @Exists.intro (Nat → L2.St → Hp → Prop) _ ?_ ?_); (fail_if_success refine' @Exists.intro (Nat → Nat → L2.St → Hp → Prop) _ ?_ ?_); (fail_if_success refine' @Exists.intro (L2.St → Hp → Prop) _ ?_ ?_); (fail_if_success refine' @Exists.intro (Nat → Nat → Hp → Prop) _ ?_ ?_); (fail_if_success refine' @Exists.intro (Hp → Prop) _ ?_ ?_); apply Exists.intro)
  | (apply And.intro; (focus walk_at "sv"))
  | intro _
  | (apply ifT; (focus rfl))
  | (apply ifF; (focus rfl))
  | ((apply Or.inl); (apply Exists.intro); (apply And.intro); (focus exact rfl))
  | ((apply Or.inl); (apply And.intro); (focus walk_at "f"))
  | ((apply Or.inr); (apply Exists.intro); (apply And.intro); (focus exact rfl))
  | (apply ifTd; (focus (first | assumption | omega)))
  | (apply ifFd; (focus (first | assumption | omega))))
local macro_rules | `(tactic| walk_at "go") => `(tactic| repeat walk_at "one")
local macro_rules | `(tactic| walk_at "nm") => `(tactic| try simp only [List.set_cons_zero, List.set_cons_succ])
local macro_rules | `(tactic| walk_at "gon") => `(tactic| repeat (walk_at "one"; walk_at "nm"))
theorem abs_valS (x : Int) : (if x < 0 then -x else x) = (x.natAbs : Int) := by
  split <;> omega
def sp_integer_text : Sp := fun vs H Q _ => ∃ n : Int, vs = [.int n] ∧ Bt 8000 n ∧ ∀ H', Same H H' → Q (.str (Str.ofString (toString n))) H'
end
end Tk

set_option maxHeartbeats 2000000
namespace Tk
open PySem PySem.Spec PyProof.Rows L2 Tc
section
variable {P : Program} {w : World} {K : PySem.W.Frag} {mg : Str → Option Value} {base : Heap} {A : Ad}
open Tm
local macro_rules | `(tactic| walk_at "arr") => `(tactic| first
  | with_reducible assumption
  | ((with_reducible apply same_new); with_reducible assumption))
local macro_rules | `(tactic| walk_at "f") => `(tactic| first
  | with_reducible assumption
  | with_reducible exact upd_same
  | with_reducible exact Same.refl _
  | with_reducible exact Frm.refl
  | ((with_reducible apply sqL_K); (focus with_reducible assumption); rfl)
  | ((with_reducible apply sqT_K); (focus with_reducible assumption); rfl)
  | ((with_reducible apply SqT.of); walk_at "f")
  | ((with_reducible apply SqL.of); walk_at "f")
  | ((with_reducible apply back_raw); (focus walk_at "arr"); walk_at "f")
  | ((with_reducible apply frm_tup); (focus with_reducible assumption); (focus walk_at "f"); (focus walk_at "f"); (focus (intro _ z; cases z; done)))
  | ((with_reducible apply frm_raw); (focus with_reducible assumption); (focus walk_at "f"); walk_at "f")
  | ((with_reducible apply bowl_back); (focus walk_at "arr"); walk_at "f")
  | ((with_reducible apply bowl_ne); (focus with_reducible assumption); walk_at "f")
  | ((with_reducible apply Num.int); with_reducible assumption)
  | ((with_reducible apply same_snoc); (focus walk_at "arr"); walk_at "f")
  | ((with_reducible apply frm_back); (focus walk_at "arr"); walk_at "f")
  | ((with_reducible apply frm_backF); (focus with_reducible assumption); walk_at "f")
  | ((with_reducible apply back_sqT); (focus walk_at "arr"); walk_at "f")
  | ((with_reducible apply same_sqL); (focus walk_at "arr"); walk_at "f")
  | ((with_reducible apply free_same); (focus with_reducible assumption); walk_at "f")
  | ((with_reducible apply free_frm); (focus with_reducible assumption); (focus with_reducible assumption); walk_at "f")
  | ((with_reducible apply frm_sqL); (focus with_reducible assumption); (focus walk_at "f"); walk_at "f"))
local macro_rules | `(tactic| walk_at "bt") => `(tactic| first
  | with_reducible assumption
  | ((with_reducible apply bt_mul); (focus walk_at "bt"); walk_at "bt")
  | ((with_reducible apply bt_add); (focus walk_at "bt"); walk_at "bt")
  | ((with_reducible apply bt_sub); (focus walk_at "bt"); walk_at "bt")
  | ((with_reducible apply bt_neg); walk_at "bt")
  | ((with_reducible apply bt_div); walk_at "bt")
  | ((with_reducible apply bt_mod); (focus (first | assumption | omega)); walk_at "bt")
  | exact bt_lit (n := 64) (by decide)
  | exact bt_lit (n := 200) (by decide +kernel))
local macro_rules | `(tactic| walk_at "lin") => `(tactic| first
  | exact (by decide : 1 ≤ sizeLine) | exact (by decide : 2 ≤ sizeLine) | exact (by decide : 3 ≤ sizeLine) | exact (by decide : 4 ≤ sizeLine) | exact (by decide : 0 ≤ sizeLine) | exact (by decide : 5 ≤ sizeLine) | exact (by decide : 6 ≤ sizeLine))
local macro_rules | `(tactic| walk_at "dp") => `(tactic| first
  | exact Dp.int _
  | exact DpAll.nil
  | ((with_reducible apply Dp.lst); (focus walk_at "f"); walk_at "dp")
  | ((with_reducible apply Dp.tup); (focus walk_at "f"); walk_at "dp")
  | ((with_reducible apply DpAll.cons); (focus walk_at "dp"); walk_at "dp"))
local macro_rules | `(tactic| walk_at "sv") => `(tactic| first
  | with_reducible rfl
  | walk_at "f"
  | exact rfl
  | walk_at "dp"
  | exact shp_lst [_] | exact shp_lst [_, _] | exact shp_lst [_, _, _] | exact shp_lst [_, _, _, _] | exact shp_tup [_, _] | exact shp_tup [_, _, _]
  | ((apply tyV_lst); walk_at "f")
  | ((with_reducible apply bt_mulW); (focus walk_at "bt"); (focus walk_at "bt"); (focus (first | decide | omega)))
  | ((with_reducible apply bt_divW); (focus (first | decide | assumption | omega)); (focus walk_at "bt"); (focus (first | decide | omega)))
  | ((with_reducible apply bt_divP); (focus (first | decide | assumption | omega)); (focus walk_at "bt"); (focus (first | decide | omega)))
  | exact ⟨by decide, by decide +kernel⟩
  | exact Or.inl (by decide)
  | exact Or.inr (by decide)
  | exact Or.inl ⟨by omega, by omega⟩
  | exact Or.inr ⟨by omega, by omega⟩
  | ((with_reducible apply Or.inl); walk_at "sv")
  | ((with_reducible apply Or.inr); walk_at "sv")
  | ((with_reducible apply Exists.intro); walk_at "sv")
  | ((with_reducible apply And.intro); (focus walk_at "sv"); walk_at "sv")
  | walk_at "lin"
  | decide
  | omega
  | (simp only [List.length_cons, List.length_nil, List.length_map]; first | done | omega))
local macro_rules | `(tactic| walk_at "one") => `(tactic| first
  | ((fail_if_success refine' @Exists.intro (Nat → L2.St → Hp → Prop) _ ?_ ?_); (fail_if_success refine' @Exists.intro (Nat → Nat → L2.St → Hp → Prop) _ ?_ ?_); (fail_if_success refine' @Exists.intro (L2.St → Hp → Prop) _ ?_ ?_); (fail_if_success refine' @Exists.intro (Nat → Nat → Hp → Prop) _ ?_ ?_); (fail_if_success refine' @Exists.intro (Hp → Prop) _ ?_ ?_); apply Exists.intro)
  | (apply And.intro; (focus walk_at "sv"))
  | intro _
  | (apply ifT; (focus rfl))
  | (apply ifF; (focus rfl))
  | ((apply Or.inl); (apply Exists.intro); (apply And.intro); (focus exact rfl))
  | ((apply Or.inl); (apply And.intro); (focus walk_at "f"))
  | ((apply Or.inr); (apply Exists.intro); (apply And.intro); (focus exact rfl))
  | (apply ifTd; (focus (first | assumption | omega)))
  | (apply ifFd; (focus (first | assumption | omega))))
local macro_rules | `(tactic| walk_at "go") => `(tactic| repeat walk_at "one")
local macro_rules | `(tactic| walk_at "nm") => `(tactic| try simp only [List.set_cons_zero, List.set_cons_succ])
local macro_rules | `(tactic| walk_at "gon") => `(tactic| repeat (walk_at "one"; walk_at "nm"))
theorem fun_in {x qual : Str} {st : Stmt} {f : Addr} {fd : FuncData} (F : Fun K x qual st f fd) : PySem.W.fnIn K f = true := by
  obtain ⟨oc, od, kV, doc, pm, an, cdv, ct, osl, rfl, lk, hcd⟩ := F.ex
  unfold PySem.W.fnIn
  rw [lk]
/- the text of a ladder -/
def ladText (a b : Int) (qs : List Int) : Str := Str.ofString (toString a) ++ Str.ofString "/" ++ Str.ofString (toString b) ++ Str.ofString ": " ++ Txt.join (Str.ofString " ") (qs.map fun q => Str.ofString (toString q))
theorem text_len8 {n : Int} (h : Bt 8000 n) : (Str.ofString (toString n)).length ≤ 8001 := by
  have hN : n.natAbs < 10 ^ (7999 + 1) := Nat.lt_of_lt_of_le h (Nat.pow_le_pow_left (by decide) 8000)
  have hl := dg_len_lt 7999 n.natAbs hN
  rw [int_tx, tx_len, List.length_append]
  have : (if n < 0 then ['-'] else []).length ≤ 1 := by split <;> decide
  omega
theorem text_len4 {n : Int} (h : Bt 400 n) : (Str.ofString (toString n)).length ≤ 401 := by
  have hN : n.natAbs < 10 ^ (399 + 1) := Nat.lt_of_lt_of_le h (Nat.pow_le_pow_left (by decide) 400)
  have hl := dg_len_lt 399 n.natAbs hN
  rw [int_tx, tx_len, List.length_append]
  have : (if n < 0 then ['-'] else []).length ≤ 1 := by split <;> decide
  omega
theorem app_lenA (a b : Str) : (a ++ b).length = a.length + b.length := by
  obtain ⟨a⟩ := a
  obtain ⟨b⟩ := b
  show (a ++ b).size = a.size + b.size
  exact Array.size_append
theorem emp_app (b : Str) : Str.empty ++ b = b := by
  have z : (Str.empty).cps = #[] := rfl
  obtain ⟨b⟩ := b
  show Str.mk (Str.empty.cps ++ b) = Str.mk b
  simp [z]
def txs (qs : List Int) : List Str := qs.map fun q => Str.ofString (toString q)
theorem txs_sum : ∀ qs : List Int, (∀ x ∈ qs, Bt 400 x) → ((txs qs).map (·.length)).sum ≤ 401 * qs.length
  | [], _ => Nat.le_refl _
  | q :: qs, h => by
    have h1 := text_len4 (h q List.mem_cons_self)
    have h2 := txs_sum qs fun x hx => h x (List.mem_cons_of_mem _ hx)
    show (Str.ofString (toString q)).length + ((txs qs).map (·.length)).sum ≤ 401 * (qs.length + 1)
    omega
theorem txs_join {qs : List Int} (h : ∀ x ∈ qs, Bt 400 x) (hl : qs.length ≤ 1000) : (Txt.join (Str.ofString " ") (txs qs)).length ≤ 402000 := by
  show (Builtin.Str.glued (Str.ofString " ") (txs qs)).length ≤ 402000
  rw [size_glued]
  have h1 := txs_sum qs h
  have h2 : (Str.ofString " ").length = 1 := by decide
  have h3 : (txs qs).length = qs.length := List.length_map ..
  rw [h2, h3]
  omega
def sp_Ladder___getitem__ (A : Ad) : Sp := fun vs H Q _ => ∃ (p : Addr) (a b x v : Int), vs = [.ref p, .int x] ∧ LadAt A.a_Ladder H p a b ∧ 0 ≤ x ∧ (quos a b)[x.toNat]? = some v ∧ Q (.int v) H
theorem ok_Ladder___getitem__ (T : Txt K mg A) : FnOk P w K mg base CX0 4 A.f_Ladder___getitem__ A.d_Ladder___getitem__ ["self", "at"] (sp_Ladder___getitem__ A) := by
  refine T.F_Ladder___getitem__.ok sc_Ladder___getitem__ (fun vs H Q E h => ?_) (fun cdv Ar outer s H vs Q E hr h => ?_)
  · obtain ⟨_, _, _, _, _, rfl, _⟩ := h
    rfl
  · obtain ⟨p, a, b, x, v, rfl, L, x0, hv, k⟩ := h
    have hu := hu_of hr
    refine ⟨_, (pss_cons (ps_if (PW.pt (pw_or (pt_not (pt_val (pe_call (ok_is_short_integer T) (hr.mono (by decide)) rfl T.m_is_short_integer T.F_is_short_integer.kp T.b_is_short_integer .nil pass0 (pa_cons (pv 1) pa_nil)))) (pw_or1 (pt_not (pt_chain op_le op_lt pe_int (pv 1) (pe_callB call_len_seq (by rfl) T.b_len (by decide +kernel) (pa_cons (pe_fld (pv 0) rfl) pa_nil)))))))
        (pss_one ps_never)
        pss_nil)
      (pss_one (ps_ret (pe_ix ix_tup (pe_fld (pv 0) rfl) (pv 1) (fun _ _ => rfl))))), ?_⟩
    obtain ⟨h1, h2, h3, dx, q, r, g1, g2, g3⟩ := id L
    have hl := L.small.1
    have xl := (List.getElem?_eq_some_iff.mp hv).1
    have sx : Short x := ⟨by omega, by omega⟩
    have at_ : atI ((quos a b).map V.int) x = some (.int v) := by
      have e : x = ((x.toNat : Nat) : Int) := by omega
      rw [e]
      exact atI_nat (by rw [List.getElem?_map, hv]; rfl)
    have f1 := T.c_Ladder
    have f2 := T.na_Ladder__quotients
    have f3 : (ladF a b q r).lookup ("_quotients" : Str) = some (.ref q) := lad_q
    have g2' : SqT K H q ((quos a b).map V.int) := SqT.of g2
    have lt : ((quos a b).map V.int).length = (quos a b).length := List.length_map ..
    walk_at "go"
    refine ⟨f1, f2, f3, ?_⟩
    walk_at "go"
    refine ifF (by rw [lt, decide_eq_true (show x < ((quos a b).length : Int) by omega)]; rfl) ?_
    walk_at "go"
    refine ⟨f1, f2, f3, ?_⟩
    walk_at "go"
    exact k
def sp_Ladder___iter__ (A : Ad) : Nat → Sp := fun n vs H Q _ => ∃ (p : Addr) (a b : Int), vs = [.ref p] ∧ LadAt A.a_Ladder H p a b ∧ ∀ it q, H it = none → n ≤ it → H q = some (.tup ((quos a b).map V.int)) → Q (.ref it) (upd H it (TitO q it))
def sp__ladder_text (K : PySem.W.Frag) : Sp := fun vs H Q _ => ∃ (a b : Int) (q : Addr) (qs : List Int), vs = [.int a, .int b, .ref q] ∧ Bt 8000 a ∧ Bt 8000 b ∧ SqT K H q (qs.map V.int) ∧ qs.length ≤ 1000 ∧ (∀ x ∈ qs, Bt 400 x) ∧ ∀ H', Same H H' → Q (.str (ladText a b qs)) H'
def sp_Ladder___str__ (A : Ad) : Sp := fun vs H Q _ => ∃ (p : Addr) (a b : Int), vs = [.ref p] ∧ LadAt A.a_Ladder H p a b ∧ ∀ H', Same H H' → Q (.str (ladText a b (quos a b))) H'
end
end Tk

set_option maxHeartbeats 2000000
namespace Tk
open PySem PySem.Spec PyProof.Rows L2 Tc
section
variable {w : World} {K : PySem.W.Frag} {mg : Str → Option Value} {base : Heap} {A : Ad}
open Tm
local macro_rules | `(tactic| walk_at "arr") => `(tactic| first
  | with_reducible assumption
  | ((with_reducible apply same_new); with_reducible assumption))
local macro_rules | `(tactic| walk_at "f") => `(tactic| first
  | with_reducible assumption
  | with_reducible exact upd_same
  | with_reducible exact Same.refl _
  | with_reducible exact Frm.refl
  | ((with_reducible apply sqL_K); (focus with_reducible assumption); rfl)
  | ((with_reducible apply sqT_K); (focus with_reducible assumption); rfl)
  | ((with_reducible apply SqT.of); walk_at "f")
  | ((with_reducible apply SqL.of); walk_at "f")
  | ((with_reducible apply back_raw); (focus walk_at "arr"); walk_at "f")
  | ((with_reducible apply frm_tup); (focus with_reducible assumption); (focus walk_at "f"); (focus walk_at "f"); (focus (intro _ z; cases z; done)))
  | ((with_reducible apply frm_raw); (focus with_reducible assumption); (focus walk_at "f"); walk_at "f")
  | ((with_reducible apply bowl_back); (focus walk_at "arr"); walk_at "f")
  | ((with_reducible apply bowl_ne); (focus with_reducible assumption); walk_at "f")
  | ((with_reducible apply Num.int); with_reducible assumption)
  | ((with_reducible apply same_snoc); (focus walk_at "arr"); walk_at "f")
  | ((with_reducible apply frm_back); (focus walk_at "arr"); walk_at "f")
  | ((with_reducible apply frm_backF); (focus with_reducible assumption); walk_at "f")
  | ((with_reducible apply back_sqT); (focus walk_at "arr"); walk_at "f")
  | ((with_reducible apply same_sqL); (focus walk_at "arr"); walk_at "f")
  | ((with_reducible apply free_same); (focus with_reducible assumption); walk_at "f")
  | ((with_reducible apply free_frm); (focus with_reducible assumption); (focus with_reducible assumption); walk_at "f")
  | ((with_reducible apply frm_sqL); (focus with_reducible assumption); (focus walk_at "f"); walk_at "f"))
local macro_rules | `(tactic| walk_at "bt") => `(tactic| first
  | with_reducible assumption
  | ((with_reducible apply bt_mul); (focus walk_at "bt"); walk_at "bt")
  | ((with_reducible apply bt_add); (focus walk_at "bt"); walk_at "bt")
  | ((with_reducible apply bt_sub); (focus walk_at "bt"); walk_at "bt")
  | ((with_reducible apply bt_neg); walk_at "bt")
  | ((with_reducible apply bt_div); walk_at "bt")
  | ((with_reducible apply bt_mod); (focus (first | assumption | omega)); walk_at "bt")
  | exact bt_lit (n := 64) (by decide)
  | exact bt_lit (n := 200) (by decide +kernel))
local macro_rules | `(tactic| walk_at "lin") => `(tactic| first
  | exact (by decide : 1 ≤ sizeLine) | exact (by decide : 2 ≤ sizeLine) | exact (by decide : 3 ≤ sizeLine) | exact (by decide : 4 ≤ sizeLine) | exact (by decide : 0 ≤ sizeLine) | exact (by decide : 5 ≤ sizeLine) | exact (by decide : 6 ≤ sizeLine))
local macro_rules | `(tactic| walk_at "dp") => `(tactic| first
  | exact Dp.int _
  | exact DpAll.nil
  | ((with_reducible apply Dp.lst); (focus walk_at "f"); walk_at "dp")
  | ((with_reducible apply Dp.tup); (focus walk_at "f"); walk_at "dp")
  | ((with_reducible apply DpAll.cons); (focus walk_at "dp"); walk_at "dp"))
local macro_rules | `(tactic| walk_at "sv") => `(tactic| first
  | with_reducible rfl
  | walk_at "f"
  | exact rfl
  | walk_at "dp"
  | exact shp_lst [_] | exact shp_lst [_, _] | exact shp_lst [_, _, _] | exact shp_lst [_, _, _, _] | exact shp_tup [_, _] | exact shp_tup [_, _, _]
  | ((apply tyV_lst); walk_at "f")
  | ((with_reducible apply bt_mulW); (focus walk_at "bt"); (focus walk_at "bt"); (focus (first | decide | omega)))
  | ((with_reducible apply bt_divW); (focus (first | decide | assumption | omega)); (focus walk_at "bt"); (focus (first | decide | omega)))
  | ((with_reducible apply bt_divP); (focus (first | decide | assumption | omega)); (focus walk_at "bt"); (focus (first | decide | omega)))
  | exact ⟨by decide, by decide +kernel⟩
  | exact Or.inl (by decide)
  | exact Or.inr (by decide)
  | exact Or.inl ⟨by omega, by omega⟩
  | exact Or.inr ⟨by omega, by omega⟩
  | ((with_reducible apply Or.inl); walk_at "sv")
  | ((with_reducible apply Or.inr); walk_at "sv")
  | ((with_reducible apply Exists.intro); walk_at "sv")
  | ((with_reducible apply And.intro); (focus walk_at "sv"); walk_at "sv")
  | walk_at "lin"
  | decide
  | omega
  | (simp only [List.length_cons, List.length_nil, List.length_map]; first | done | omega))
local macro_rules | `(tactic| walk_at "one") => `(tactic| first
  | ((fail_if_success refine' @Exists.intro (Nat → L2.St → Hp → Prop) _ ?_ ?_); (fail_if_success refine' @Exists.intro (Nat → Nat → L2.St → Hp → Prop) _ ?_ ?_); (fail_if_success refine' @Exists.intro (L2.St → Hp → Prop) _ ?_ ?_); (fail_if_success refine' @Exists.intro (Nat → Nat → Hp → Prop) _ ?_ ?_); (fail_if_success refine' @Exists.intro (Hp → Prop) _ ?_ ?_); apply Exists.intro)
  | (apply And.intro; (focus walk_at "sv"))
  | intro _
  | (apply ifT; (focus rfl))
  | (apply ifF; (focus rfl))
  | ((apply Or.inl); (apply Exists.intro); (apply And.intro); (focus exact rfl))
  | ((apply Or.inl); (apply And.intro); (focus walk_at "f"))
  | ((apply Or.inr); (apply Exists.intro); (apply And.intro); (focus exact rfl))
  | (apply ifTd; (focus (first | assumption | omega)))
  | (apply ifFd; (focus (first | assumption | omega))))
local macro_rules | `(tactic| walk_at "go") => `(tactic| repeat walk_at "one")
local macro_rules | `(tactic| walk_at "nm") => `(tactic| try simp only [List.set_cons_zero, List.set_cons_succ])
local macro_rules | `(tactic| walk_at "gon") => `(tactic| repeat (walk_at "one"; walk_at "nm"))
/- no int of sixty digits: an int that is longer, a truth value, a value of another kind -/
def NoNum (K : PySem.W.Frag) (H : Hp) (v : V) : Prop := (∃ i : Int, v = .int i ∧ ¬ Short i) ∨ (∃ b, v = .bl b) ∨ NotInt K H v
def spx_is_short_integer (K : PySem.W.Frag) : Sp := fun vs H Q _ => ∃ v, vs = [v] ∧ ((∃ i : Int, v = .int i ∧ Short i ∧ Q (.bl true) H) ∨ (NoNum K H v ∧ Q (.bl false) H))
theorem okx_is_short_integer (T : Txt K mg A) : FnOk PW w K mg base (L2.CX PW w) 2 A.f_is_short_integer A.d_is_short_integer ["value"] (spx_is_short_integer K) := by
  refine T.F_is_short_integer.okX sc_is_short_integer (fun vs H Q E h => ?_) (fun cdv Ar outer s H vs Q E hr h => ?_)
  · obtain ⟨v, rfl, _⟩ := h
    rfl
  · obtain ⟨v, rfl, k⟩ := h
    have hu := hu_of hr
    refine ⟨_, (pss_one (ps_ret (pe_and (pe_callB call_isi (by rfl) T.b_isinstance (by decide +kernel) (pa_cons (pv 0) (pa_cons (pe_bltn (v := .ty "int") (by rfl) T.b_int (by decide +kernel) rfl) pa_nil))) (pe_and (pe_cmpR op_notIBV (pv 0) pe_bl (nomark _)) (pe_and (pe_cmpR op_notIBV (pv 0) pe_bl (nomark _)) (pe_one (pe_chain op_lt op_lt (pe_un un_neg (pe_glob rfl T.m__TOO_LONG.choose_spec (rel_int _ _))) (pv 0) (pe_glob rfl T.m__TOO_LONG.choose_spec (rel_int _ _))))))))), ?_⟩
    rcases k with ⟨i, rfl, hi, k⟩ | ⟨⟨i, rfl, hi⟩ | ⟨b, rfl⟩ | ⟨t, h1, h2⟩, k⟩
    · refine ⟨_, rfl, _, _, _, _, true, rfl, .ty "int", .base (.int i), kit_ty (by decide +kernel), _, rfl, ?_⟩
      refine iteT ?_
      refine ⟨_, rfl, _, rfl, .inl ⟨_, rfl, _, rfl, ?_⟩⟩
      refine iteT ?_
      refine ⟨_, rfl, _, rfl, .inl ⟨_, rfl, _, rfl, ?_⟩⟩
      refine iteT ?_
      refine ⟨_, rfl, _, rfl, _, _, rfl, rfl, _, rfl, ?_⟩
      rw [decide_eq_true hi.1]
      refine iteT ?_
      refine ⟨_, _, rfl, rfl, ?_⟩
      show Q (V.bl (decide (i < 10 ^ 60))) H
      rw [decide_eq_true hi.2]
      exact k
    · refine ⟨_, rfl, _, _, _, _, true, rfl, .ty "int", .base (.int i), kit_ty (by decide +kernel), _, rfl, ?_⟩
      refine iteT ?_
      refine ⟨_, rfl, _, rfl, .inl ⟨_, rfl, _, rfl, ?_⟩⟩
      refine iteT ?_
      refine ⟨_, rfl, _, rfl, .inl ⟨_, rfl, _, rfl, ?_⟩⟩
      refine iteT ?_
      refine ⟨_, rfl, _, rfl, _, _, rfl, rfl, _, rfl, ?_⟩
      by_cases h1 : -(10 ^ 60) < i
      · rw [decide_eq_true h1]
        refine iteT ?_
        refine ⟨_, _, rfl, rfl, ?_⟩
        show Q (V.bl (decide (i < 10 ^ 60))) H
        rw [decide_eq_false (fun z => hi ⟨h1, z⟩)]
        exact k
      · rw [decide_eq_false h1]
        refine iteF ?_
        exact k
    · refine ⟨_, rfl, _, _, _, _, true, rfl, .ty "int", .base (.bl b), kit_ty (by decide +kernel), _, rfl, ?_⟩
      refine iteT ?_
      refine ⟨_, rfl, _, rfl, .inr ⟨_, rfl, _, rfl, ?_⟩⟩
      cases b with
      | true =>
        refine iteF ?_
        exact k
      | false =>
        refine iteT ?_
        refine ⟨_, rfl, _, rfl, .inr ⟨_, rfl, _, rfl, ?_⟩⟩
        refine iteF ?_
        exact k
    · refine ⟨_, rfl, _, _, _, _, false, rfl, .ty "int", h1, h2, _, rfl, ?_⟩
      refine iteF ?_
      exact k
/- no Long -/
def NoLong (K : PySem.W.Frag) (A : Ad) (H : Hp) (v : V) : Prop := ∃ t, TyX K H v t ∧ PySem.W.kitOne K t (.ref A.a_Long) = some false
/- no integer that may be passed -/
def BadI (K : PySem.W.Frag) (A : Ad) (H : Hp) (v : V) : Prop := NoNum K H v ∧ NoLong K A H v
/- .. or one below l -/
def BadL (K : PySem.W.Frag) (A : Ad) (H : Hp) (l : Int) (v : V) : Prop := BadI K A H v ∨ ∃ i : Int, v = .int i ∧ Short i ∧ i < l
/- InvalidNumber(v), whatever was made before -/
def RaisesN (A : Ad) (E : XK) (H : Hp) (v : V) : Prop := ∀ H' d, Same H H' → H' d = none → E (.ref A.a_InvalidNumber) (some d) (upd H' d (.xd [("given", v)]))
theorem RaisesN.stay {E : XK} {H H' : Hp} {v : V} (e : Same H H') (h : RaisesN A E H v) : RaisesN A E H' v := fun H2 d s n => h H2 d (e.trans s) n
def spx_checked_integer (A : Ad) (K : PySem.W.Frag) : Sp := fun vs H Q E => ∃ v, vs = [v] ∧ ((∃ i : Int, v = .int i ∧ Short i ∧ Q (.int i) H) ∨ (BadI K A H v ∧ RaisesN A E H v))
theorem okx_checked_integer (T : Txt K mg A) : FnOk PW w K mg base (L2.CX PW w) 4 A.f_checked_integer A.d_checked_integer ["value"] (spx_checked_integer A K) := by
  refine T.F_checked_integer.okX sc_checked_integer (fun vs H Q E h => ?_) (fun cdv Ar outer s H vs Q E hr h => ?_)
  · obtain ⟨v, rfl, _⟩ := h
    rfl
  · obtain ⟨v, rfl, k⟩ := h
    have hu := hu_of hr
    refine ⟨_, (pss_cons (ps_if (pt_val (pe_call (okx_is_short_integer T) (hr.mono (by decide)) rfl T.m_is_short_integer T.F_is_short_integer.kp T.b_is_short_integer .nil (passes_call (takes_of rfl rfl rfl rfl) (fun _ _ _ _ h => h)) (pa_cons (pv 0) pa_nil)))
        (pss_one (ps_ret (pv 0)))
        pss_nil)
      (pss_cons (ps_if (pt_val (pe_callB call_isi (by rfl) T.b_isinstance (by decide +kernel) (pa_cons (pv 0) (pa_cons (pe_glob rfl T.m_Long (rel_ref _)) pa_nil))))
        (pss_one (ps_ret (pe_fld (pv 0) rfl)))
        pss_nil)
      (pss_one (ps_raiseSup rfl T.s_InvalidNumber supN_given PySem.F.excBase_IndexError PySem.W.kxs_IndexError PySem.F.store_IndexError hr (takes_of rfl rfl rfl rfl) rfl (pa_cons (pv 0) pa_nil))))), ?_⟩
    rcases k with ⟨i, rfl, hi, k⟩ | ⟨⟨hn, t, h1, h2⟩, k⟩
    · refine ⟨_, rfl, _, rfl, .inl ⟨i, rfl, hi, _, rfl, ?_⟩⟩
      refine iteT ?_
      exact ⟨_, rfl, k⟩
    · refine ⟨_, rfl, _, rfl, .inr ⟨hn, _, rfl, ?_⟩⟩
      refine iteF ?_
      refine ⟨_, rfl, _, _, _, _, false, rfl, .own A.a_Long, h1, h2, _, rfl, ?_⟩
      refine iteF ?_
      exact ⟨_, rfl, _, rfl, fun d nd => k _ d (Same.refl _) nd⟩
def spx_checked_from (A : Ad) (K : PySem.W.Frag) : Sp := fun vs H Q E => ∃ (l : Int) (v : V), vs = [.int l, v] ∧ ((∃ i : Int, v = .int i ∧ Short i ∧ l ≤ i ∧ Q (.int i) H) ∨ (BadL K A H l v ∧ RaisesN A E H v))
theorem okx_checked_from (T : Txt K mg A) : FnOk PW w K mg base (L2.CX PW w) 5 A.f_checked_from A.d_checked_from ["least", "value"] (spx_checked_from A K) := by
  refine T.F_checked_from.okX sc_checked_from (fun vs H Q E h => ?_) (fun cdv Ar outer s H vs Q E hr h => ?_)
  · obtain ⟨l, v, rfl, _⟩ := h
    rfl
  · obtain ⟨l, v, rfl, k⟩ := h
    have hu := hu_of hr
    refine ⟨_, (pss_cons (ps_set (i := 2) sc_checked_from.nd rfl (Or.inl rfl) (pe_call (okx_checked_integer T) (hr.mono (by decide)) rfl T.m_checked_integer T.F_checked_integer.kp T.b_checked_integer .nil (passes_call (takes_of rfl rfl rfl rfl) (fun _ _ _ _ h => h)) (pa_cons (pv 1) pa_nil)))
      (pss_cons (ps_if (pt_cmpR op_lt (pv 2) (pv 0) (nomark _))
        (pss_one (ps_raiseSup rfl T.s_InvalidNumber supN_given PySem.F.excBase_IndexError PySem.W.kxs_IndexError PySem.F.store_IndexError hr (takes_of rfl rfl rfl rfl) rfl (pa_cons (pv 1) pa_nil)))
        pss_nil)
      (pss_one (ps_ret (pv 2))))), ?_⟩
    rcases k with ⟨i, rfl, hi, hl, k⟩ | ⟨hb | ⟨i, rfl, hi, hl⟩, k⟩
    · refine ⟨_, rfl, _, rfl, .inl ⟨i, rfl, hi, ?_⟩⟩
      refine ⟨_, rfl, _, rfl, _, _, rfl, rfl, _, rfl, ?_⟩
      rw [decide_eq_false (by omega)]
      refine iteF ?_
      exact ⟨_, rfl, k⟩
    · exact ⟨_, rfl, _, rfl, .inr ⟨hb, k⟩⟩
    · refine ⟨_, rfl, _, rfl, .inl ⟨i, rfl, hi, ?_⟩⟩
      refine ⟨_, rfl, _, rfl, _, _, rfl, rfl, _, rfl, ?_⟩
      rw [decide_eq_true hl]
      refine iteT ?_
      exact ⟨_, rfl, _, rfl, fun d nd => k _ d (Same.refl _) nd⟩
/- isinstance(v, int) of what is no short integer, and v is not True, v is not False -/
theorem NoNum.kind {H : Hp} {v : V} (h : NoNum K H v) : (∃ i : Int, v = .int i ∧ ¬ Short i) ∨ (∃ b, v = .bl b) ∨ NotInt K H v := h
/- a pair that is refused, and for which number -/
def BadP (A : Ad) (K : PySem.W.Frag) (E : XK) (H : Hp) (u v : V) : Prop := (BadI K A H u ∧ (BadI K A H v ∨ ∃ i : Int, v = .int i) ∧ RaisesN A E H u) ∨ (∃ a : Int, u = .int a ∧ Short a ∧ BadL K A H 1 v ∧ RaisesN A E H v)
def spx_checked_pair (A : Ad) (K : PySem.W.Frag) : Sp := fun vs H Q E => ∃ (u v : V), vs = [u, v] ∧ BadP A K E H u v
theorem okx_checked_pair (T : Txt K mg A) : FnOk PW w K mg base (L2.CX PW w) 6 A.f_checked_pair A.d_checked_pair ["a", "b"] (spx_checked_pair A K) := by
  refine T.F_checked_pair.okX sc_checked_pair (fun vs H Q E h => ?_) (fun cdv Ar outer s H vs Q E hr h => ?_)
  · obtain ⟨u, v, rfl, _⟩ := h
    rfl
  · obtain ⟨u, v, rfl, k⟩ := h
    have hu := hu_of hr
    refine ⟨_, (pss_cons (ps_if (PW.pt (pw_and (pt_val (pe_callB call_isi (by rfl) T.b_isinstance (by decide +kernel) (pa_cons (pv 0) (pa_cons (pe_bltn (v := .ty "int") (by rfl) T.b_int (by decide +kernel) rfl) pa_nil)))) (pw_and (pt_val (pe_callB call_isi (by rfl) T.b_isinstance (by decide +kernel) (pa_cons (pv 1) (pa_cons (pe_bltn (v := .ty "int") (by rfl) T.b_int (by decide +kernel) rfl) pa_nil)))) (pw_and (pt_cmpR op_notIBV (pv 0) pe_bl (nomark _)) (pw_and (pt_cmpR op_notIBV (pv 0) pe_bl (nomark _)) (pw_and1 (pt_cmpR op_notIBV (pv 1) pe_bl (nomark _))))))))
        (pss_one (ps_if (PW.pt (pw_and (pt_chain op_lt op_lt (pe_un un_neg (pe_glob rfl T.m__TOO_LONG.choose_spec (rel_int _ _))) (pv 0) (pe_glob rfl T.m__TOO_LONG.choose_spec (rel_int _ _))) (pw_and1 (pt_chain op_ltIB op_lt pe_int (pv 1) (pe_glob rfl T.m__TOO_LONG.choose_spec (rel_int _ _))))))
            (pss_one (ps_ret (pe_tup (pa_cons (pv 0) (pa_cons (pv 1) pa_nil)))))
            pss_nil))
        pss_nil)
      (pss_one (ps_ret (pe_tup (pa_cons (pe_call (okx_checked_integer T) (hr.mono (by decide)) rfl T.m_checked_integer T.F_checked_integer.kp T.b_checked_integer .nil (passes_call (takes_of rfl rfl rfl rfl) (fun _ _ _ _ h => h)) (pa_cons (pv 0) pa_nil)) (pa_cons (pe_call (okx_checked_from T) (hr.mono (by decide)) rfl T.m_checked_from T.F_checked_from.kp T.b_checked_from .nil (passes_call (takes_of rfl rfl rfl rfl) (fun _ _ _ _ h => h)) (pa_cons pe_int (pa_cons (pv 1) pa_nil))) pa_nil)))))), ?_⟩
    have last : ∀ (D : Ends), D.rt = Q →
      tRet (tTup (tCons (tCall (spx_checked_integer A K) [] E (tCons (tVar 0) tNil)) (tCons (tCall (spx_checked_from A K) [] E (tCons (tC (.int 1)) (tCons (tVar 1) tNil))) tNil))) D [some u, some v] H := by
      intro D _
      rcases k with ⟨hb, _, r⟩ | ⟨a, rfl, ha, hb, r⟩
      · exact ⟨_, rfl, _, rfl, .inr ⟨hb, r⟩⟩
      · exact ⟨_, rfl, _, rfl, .inl ⟨a, rfl, ha, _, rfl, _, _, rfl, .inr ⟨hb, r⟩⟩⟩
    have kv : (∃ i : Int, v = .int i) ∨ (∃ b, v = .bl b) ∨ NotInt K H v := by
      rcases k with ⟨_, ⟨⟨i, rfl, _⟩ | h, _⟩ | ⟨i, rfl⟩, _⟩ | ⟨a, rfl, ha, ⟨⟨i, rfl, _⟩ | h, _⟩ | ⟨i, rfl, _⟩, r⟩
      · exact .inl ⟨i, rfl⟩
      · exact .inr h
      · exact .inl ⟨i, rfl⟩
      · exact .inl ⟨i, rfl⟩
      · exact .inr h
      · exact .inl ⟨i, rfl⟩
    have ku : (∃ i : Int, u = .int i) ∨ (∃ b, u = .bl b) ∨ NotInt K H u := by
      rcases k with ⟨⟨⟨i, rfl, _⟩ | h, _⟩, _⟩ | ⟨a, rfl, _⟩
      · exact .inl ⟨i, rfl⟩
      · exact .inr h
      · exact .inl ⟨a, rfl⟩
    have isI : ∀ (x : V), (∃ i : Int, x = .int i) ∨ (∃ b, x = .bl b) → ∃ t, TyX K H x t ∧ PySem.W.kitOne K t (.type "int") = some true := by
      rintro x (⟨i, rfl⟩ | ⟨b, rfl⟩)
      · exact ⟨_, .base (.int i), kit_ty (by decide +kernel)⟩
      · exact ⟨_, .base (.bl b), kit_ty (by decide +kernel)⟩
    rcases (or_assoc.mpr ku) with hu1 | ⟨t, h1, h2⟩
    · obtain ⟨t1, g1, g2⟩ := isI u hu1
      refine ⟨_, rfl, _, _, _, _, true, rfl, .ty "int", g1, g2, _, rfl, ?_⟩
      refine iteT ?_
      rcases (or_assoc.mpr kv) with hv1 | ⟨t, h1, h2⟩
      · obtain ⟨t2, g3, g4⟩ := isI v hv1
        refine ⟨_, rfl, _, _, _, _, true, rfl, .ty "int", g3, g4, _, rfl, ?_⟩
        refine iteT ?_
        rcases hu1 with ⟨a, rfl⟩ | ⟨b1, rfl⟩
        · refine ⟨_, rfl, _, rfl, .inl ⟨_, rfl, _, rfl, ?_⟩⟩
          refine iteT ?_
          refine ⟨_, rfl, _, rfl, .inl ⟨_, rfl, _, rfl, ?_⟩⟩
          refine iteT ?_
          have nI : ∀ {i : Int}, BadI K A H (.int i) → ¬ Short i := by
            rintro i ⟨⟨j, e, h⟩ | ⟨b, e⟩ | ⟨t, h1, h2⟩, _⟩ hs
            · cases e; exact h hs
            · cases e
            · have h3 : PySem.W.kitOne K (.type "int") (.type "int") = some true := kit_ty (by decide +kernel)
              cases h1 with
              | base g =>
                cases g
                rw [h3] at h2
                cases h2
          have bad : ¬ Short a ∨ (Short a ∧ ∀ j : Int, v = .int j → ¬ (0 < j ∧ j < 10 ^ 60)) := by
            rcases k with ⟨hb, _, r⟩ | ⟨a', e, ha, hb, r⟩
            · exact .inl (nI hb)
            · cases e
              refine .inr ⟨ha, fun j e ⟨z1, z2⟩ => ?_⟩
              subst e
              rcases hb with hb | ⟨i, e, hi, hl⟩
              · exact nI hb ⟨by omega, z2⟩
              · cases e; omega
          have chA : ∀ {R : Bool → Hp → Prop} {t2 : TT} {v : V}, (Short a → t2 [some (.int a), some v] H R) → (¬ Short a → R false H) →
            tAnd (tTest (tChain (rI0 fun i j => V.bl (decide (i < j))) (rI0 fun i j => V.bl (decide (i < j))) (tUn (rU fun i => V.int (-i)) (tC (V.int (10 ^ 60)))) (tVar 0) (tC (V.int (10 ^ 60))))) t2 [some (.int a), some v] H R := by
            intro R t2 v ht hf
            refine ⟨_, rfl, _, rfl, _, _, rfl, rfl, _, rfl, ?_⟩
            by_cases h1 : -(10 ^ 60) < a
            · rw [decide_eq_true h1]
              refine iteT ?_
              refine ⟨_, _, rfl, rfl, ?_⟩
              refine ⟨_, rfl, ?_⟩
              by_cases h2 : a < 10 ^ 60
              · rw [decide_eq_true h2]
                exact iteT (ht ⟨h1, h2⟩)
              · rw [decide_eq_false h2]
                exact iteF (hf fun z => h2 z.2)
            · rw [decide_eq_false h1]
              refine iteF ?_
              refine ⟨_, rfl, ?_⟩
              exact iteF (hf fun z => h1 z.1)
          rcases hv1 with ⟨b, rfl⟩ | ⟨b2, rfl⟩
          · refine ⟨_, rfl, _, rfl, .inl ⟨_, rfl, _, rfl, ?_⟩⟩
            refine iteT ?_
            refine chA (fun ha => ?_) (fun _ => last _ rfl)
            refine ⟨_, rfl, _, rfl, .inl ⟨_, rfl, _, rfl, ?_⟩⟩
            have hb := (bad.resolve_left (fun z => z ha)).2 b rfl
            by_cases h1 : 0 < b
            · rw [decide_eq_true h1]
              refine iteT ?_
              refine ⟨_, _, rfl, rfl, ?_⟩
              refine ⟨_, rfl, ?_⟩
              rw [decide_eq_false fun z => hb ⟨h1, z⟩]
              exact iteF (last _ rfl)
            · rw [decide_eq_false h1]
              refine iteF ?_
              refine ⟨_, rfl, ?_⟩
              exact iteF (last _ rfl)
          · refine ⟨_, rfl, _, rfl, .inr ⟨_, rfl, _, rfl, ?_⟩⟩
            cases b2 with
            | true =>
              refine iteF ?_
              exact last _ rfl
            | false =>
              refine iteT ?_
              refine chA (fun ha => ?_) (fun _ => last _ rfl)
              refine ⟨_, rfl, _, rfl, .inr ⟨_, rfl, _, rfl, ?_⟩⟩
              refine iteF ?_
              refine ⟨_, rfl, ?_⟩
              exact iteF (last _ rfl)
        · refine ⟨_, rfl, _, rfl, .inr ⟨_, rfl, _, rfl, ?_⟩⟩
          cases b1 with
          | true =>
            refine iteF ?_
            exact last _ rfl
          | false =>
            refine iteT ?_
            refine ⟨_, rfl, _, rfl, .inr ⟨_, rfl, _, rfl, ?_⟩⟩
            refine iteF ?_
            exact last _ rfl
      · refine ⟨_, rfl, _, _, _, _, false, rfl, .ty "int", h1, h2, _, rfl, ?_⟩
        refine iteF ?_
        exact last _ rfl
    · refine ⟨_, rfl, _, _, _, _, false, rfl, .ty "int", h1, h2, _, rfl, ?_⟩
      refine iteF ?_
      exact last _ rfl
def spy_checked_pair (A : Ad) (K : PySem.W.Frag) : Sp := fun vs H Q E => sp_checked_pair A vs H Q E ∨ spx_checked_pair A K vs H Q E
theorem oky_checked_pair (T : Txt K mg A) : FnOk PW w K mg base (L2.CX PW w) 6 A.f_checked_pair A.d_checked_pair ["a", "b"] (spy_checked_pair A K) := or_fn (lift_fn (ok_checked_pair T)) (okx_checked_pair T)
end
end Tk

set_option maxHeartbeats 2000000
namespace Tk
open PySem PySem.Spec PyProof.Rows L2 Tc LamX
section
variable {w : World} {K : PySem.W.Frag} {mg : Str → Option Value} {base : Heap} {A : Ad}
open Tm
local macro_rules | `(tactic| walk_at "arr") => `(tactic| first
  | with_reducible assumption
  | ((with_reducible apply same_new); with_reducible assumption))
local macro_rules | `(tactic| walk_at "f") => `(tactic| first
  | with_reducible assumption
  | with_reducible exact upd_same
  | with_reducible exact Same.refl _
  | with_reducible exact Frm.refl
  | ((with_reducible apply sqL_K); (focus with_reducible assumption); rfl)
  | ((with_reducible apply sqT_K); (focus with_reducible assumption); rfl)
  | ((with_reducible apply SqT.of); walk_at "f")
  | ((with_reducible apply SqL.of); walk_at "f")
  | ((with_reducible apply back_raw); (focus walk_at "arr"); walk_at "f")
  | ((with_reducible apply frm_tup); (focus with_reducible assumption); (focus walk_at "f"); (focus walk_at "f"); (focus (intro _ z; cases z; done)))
  | ((with_reducible apply frm_raw); (focus with_reducible assumption); (focus walk_at "f"); walk_at "f")
  | ((with_reducible apply bowl_back); (focus walk_at "arr"); walk_at "f")
  | ((with_reducible apply bowl_ne); (focus with_reducible assumption); walk_at "f")
  | ((with_reducible apply Num.int); with_reducible assumption)
  | ((with_reducible apply same_snoc); (focus walk_at "arr"); walk_at "f")
  | ((with_reducible apply frm_back); (focus walk_at "arr"); walk_at "f")
  | ((with_reducible apply frm_backF); (focus with_reducible assumption); walk_at "f")
  | ((with_reducible apply back_sqT); (focus walk_at "arr"); walk_at "f")
  | ((with_reducible apply same_sqL); (focus walk_at "arr"); walk_at "f")
  | ((with_reducible apply free_same); (focus with_reducible assumption); walk_at "f")
  | ((with_reducible apply free_frm); (focus with_reducible assumption); (focus with_reducible assumption); walk_at "f")
  | ((with_reducible apply frm_sqL); (focus with_reducible assumption); (focus walk_at "f"); walk_at "f"))
local macro_rules | `(tactic| walk_at "bt") => `(tactic| first
  | with_reducible assumption
  | ((with_reducible apply bt_mul); (focus walk_at "bt"); walk_at "bt")
  | ((with_reducible apply bt_add); (focus walk_at "bt"); walk_at "bt")
  | ((with_reducible apply bt_sub); (focus walk_at "bt"); walk_at "bt")
  | ((with_reducible apply bt_neg); walk_at "bt")
  | ((with_reducible apply bt_div); walk_at "bt")
  | ((with_reducible apply bt_mod); (focus (first | assumption | omega)); walk_at "bt")
  | exact bt_lit (n := 64) (by decide)
  | exact bt_lit (n := 200) (by decide +kernel))
local macro_rules | `(tactic| walk_at "lin") => `(tactic| first
  | exact (by decide : 1 ≤ sizeLine) | exact (by decide : 2 ≤ sizeLine) | exact (by decide : 3 ≤ sizeLine) | exact (by decide : 4 ≤ sizeLine) | exact (by decide : 0 ≤ sizeLine) | exact (by decide : 5 ≤ sizeLine) | exact (by decide : 6 ≤ sizeLine))
local macro_rules | `(tactic| walk_at "dp") => `(tactic| first
  | exact Dp.int _
  | exact DpAll.nil
  | ((with_reducible apply Dp.lst); (focus walk_at "f"); walk_at "dp")
  | ((with_reducible apply Dp.tup); (focus walk_at "f"); walk_at "dp")
  | ((with_reducible apply DpAll.cons); (focus walk_at "dp"); walk_at "dp"))
local macro_rules | `(tactic| walk_at "sv") => `(tactic| first
  | with_reducible rfl
  | walk_at "f"
  | exact rfl
  | walk_at "dp"
  | exact shp_lst [_] | exact shp_lst [_, _] | exact shp_lst [_, _, _] | exact shp_lst [_, _, _, _] | exact shp_tup [_, _] | exact shp_tup [_, _, _]
  | ((apply tyV_lst); walk_at "f")
  | ((with_reducible apply bt_mulW); (focus walk_at "bt"); (focus walk_at "bt"); (focus (first | decide | omega)))
  | ((with_reducible apply bt_divW); (focus (first | decide | assumption | omega)); (focus walk_at "bt"); (focus (first | decide | omega)))
  | ((with_reducible apply bt_divP); (focus (first | decide | assumption | omega)); (focus walk_at "bt"); (focus (first | decide | omega)))
  | exact ⟨by decide, by decide +kernel⟩
  | exact Or.inl (by decide)
  | exact Or.inr (by decide)
  | exact Or.inl ⟨by omega, by omega⟩
  | exact Or.inr ⟨by omega, by omega⟩
  | ((with_reducible apply Or.inl); walk_at "sv")
  | ((with_reducible apply Or.inr); walk_at "sv")
  | ((with_reducible apply Exists.intro); walk_at "sv")
  | ((with_reducible apply And.intro); (focus walk_at "sv"); walk_at "sv")
  | walk_at "lin"
  | decide
  | omega
  | (simp only [List.length_cons, List.length_nil, List.length_map]; first | done | omega))
local macro_rules | `(tactic| walk_at "one") => `(tactic| first
  | ((fail_if_success refine' @Exists.intro (Nat → L2.St → Hp → Prop) _ ?_ ?_); (fail_if_success refine' @Exists.intro (Nat → Nat → L2.St → Hp → Prop) _ ?_ ?_); (fail_if_success refine' @Exists.intro (L2.St → Hp → Prop) _ ?_ ?_); (fail_if_success refine' @Exists.intro (Nat → Nat → Hp → Prop) _ ?_ ?_); (fail_if_success refine' @Exists.intro (Hp → Prop) _ ?_ ?_); apply Exists.intro)
  | (apply And.intro; (focus walk_at "sv"))
  | intro _
  | (apply ifT; (focus rfl))
  | (apply ifF; (focus rfl))
  | ((apply Or.inl); (apply Exists.intro); (apply And.intro); (focus exact rfl))
  | ((apply Or.inl); (apply And.intro); (focus walk_at "f"))
  | ((apply Or.inr); (apply Exists.intro); (apply And.intro); (focus exact rfl))
  | (apply ifTd; (focus (first | assumption | omega)))
  | (apply ifFd; (focus (first | assumption | omega))))
local macro_rules | `(tactic| walk_at "go") => `(tactic| repeat walk_at "one")
local macro_rules | `(tactic| walk_at "nm") => `(tactic| try simp only [List.set_cons_zero, List.set_cons_succ])
local macro_rules | `(tactic| walk_at "gon") => `(tactic| repeat (walk_at "one"; walk_at "nm"))
def OkD (d : PyData) : Prop := d.showable = true ∧ d.hasDict = false ∧ isDisplay d = true ∧ d.depth ≤ 20 ∧ d.shown.length ≤ sizeLine
instance (d : PyData) : Decidable (OkD d) := by unfold OkD; infer_instance
/- what is drawn here, and its text -/
inductive Drw (K : PySem.W.Frag) (H : Hp) : V → Str → Prop
  | non : Drw K H .non "None"
  | bl (b : Bool) : Drw K H (.bl b) (if b then Str.ofString "True" else Str.ofString "False")
  | int (i : Int) (h : i.natAbs.log2 < 1920) : Drw K H (.int i) (toString i)
  | str (s : Str) (h : (reprText s).length ≤ sizeLine) : Drw K H (.str s) (reprText s)
  | lst (p : Addr) (ns : List Int) (g : H p = some (.lst (ns.map V.int))) (ok : OkD (PyData.list (ns.map PyData.int))) : Drw K H (.ref p) (PyData.list (ns.map PyData.int)).shown
  | tup (p : Addr) (ns : List Int) (g : H p = some (.tup (ns.map V.int))) (ok : OkD (PyData.tuple (ns.map PyData.int))) : Drw K H (.ref p) (PyData.tuple (ns.map PyData.int)).shown
  | dK (p : Addr) (g : H p = some (.dK [])) : Drw K H (.ref p) "{}"
/- all but the tables stays -/
theorem Drw.to {H H' : Hp} {v : V} {t : Str} (h : Drw K H v t) (e : ∀ p o, v = .ref p → H p = some o → (∀ ps, o ≠ .tbl ps) → H' p = some o) : Drw K H' v t := by
  cases h with
  | non => exact .non
  | bl b => exact .bl b
  | int i h => exact .int i h
  | str s h => exact .str s h
  | lst p ns g ok => exact .lst p ns (e _ _ rfl g (fun _ z => nomatch z)) ok
  | tup p ns g ok => exact .tup p ns (e _ _ rfl g (fun _ z => nomatch z)) ok
  | dK p g => exact .dK p (e _ _ rfl g (fun _ z => nomatch z))
theorem Drw.same {H H' : Hp} {v : V} {t : Str} (s : Same H H') (h : Drw K H v t) : Drw K H' v t := h.to fun p o _ g _ => s _ _ g
theorem Drw.frm {a : Addr} {H H' : Hp} {v : V} {t : Str} (s : Frm a H H') (n : v ≠ .ref a) (h : Drw K H v t) : Drw K H' v t := h.to fun p o e g _ => s _ _ (fun z => n (by rw [e, z])) g
theorem Drw.extL {a : Addr} {H H' : Hp} {v : V} {t : Str} (s : ExtL a H H') (n : v ≠ .ref a) (h : Drw K H v t) : Drw K H' v t := h.to fun p o e g q => s _ _ (fun z => n (by rw [e, z])) g q
theorem dpAll_ints {H : Hp} : ∀ ns : List Int, DpAll K H (ns.map V.int) (ns.map PyData.int)
  | [] => .nil
  | i :: ns => .cons (.int i) (dpAll_ints ns)
/- the type of such a value -/
theorem Drw.ty {H : Hp} {v : V} {t : Str} (h : Drw K H v t) : ∃ T : String, TyX K H v (.type T) ∧ (PySem.fastBuiltinMro T).map (fun l => l.all fun v => match v with | .type _ => true | _ => false) = some true ∧ ((∃ i, v = .int i) ∨ (∃ b, v = .bl b) ∨ PySem.W.kitOne K (.type T) (.type "int") = some false) := by
  cases h with
  | non => exact ⟨"NoneType", .base .non, by decide +kernel, .inr (.inr (kit_ty (by decide +kernel)))⟩
  | bl b => exact ⟨"bool", .base (.bl b), by decide +kernel, .inr (.inl ⟨b, rfl⟩)⟩
  | int i h => exact ⟨"int", .base (.int i), by decide +kernel, .inl ⟨i, rfl⟩⟩
  | str s h => exact ⟨"str", .base (.str s), by decide +kernel, .inr (.inr (kit_ty (by decide +kernel)))⟩
  | lst p ns g ok => exact ⟨"list", .base (.lst g), by decide +kernel, .inr (.inr (kit_ty (by decide +kernel)))⟩
  | tup p ns g ok => exact ⟨"tuple", .base (.tup g), by decide +kernel, .inr (.inr (kit_ty (by decide +kernel)))⟩
  | dK p g => exact ⟨"dict", .base (.dK g), by decide +kernel, .inr (.inr (kit_ty (by decide +kernel)))⟩
theorem Drw.nn {H : Hp} {v : V} {t : Str} (h : Drw K H v t) (n : ∀ i : Int, v = .int i → ¬ Short i) : NoNum K H v := by
  obtain ⟨t, h1, h2, ⟨i, rfl⟩ | h3 | h3⟩ := h.ty
  · exact .inl ⟨i, rfl, n i rfl⟩
  · exact .inr (.inl h3)
  · exact .inr (.inr ⟨_, h1, h3⟩)
theorem Drw.bad (T : Txt K mg A) {H : Hp} {v : V} {t : Str} (h : Drw K H v t) (n : ∀ i : Int, v = .int i → ¬ Short i) : BadI K A H v := by
  refine ⟨h.nn n, ?_⟩
  obtain ⟨t, h1, h2, h3⟩ := h.ty
  exact ⟨_, h1, kit_own T.ic_Long T.ty_Long h2⟩
theorem Drw.badL (T : Txt K mg A) {H : Hp} {v : V} {t : Str} (h : Drw K H v t) (n : ∀ i : Int, v = .int i → ¬ Short i ∨ i < 1) : BadL K A H 1 v := by
  by_cases q : ∃ i : Int, v = .int i ∧ Short i
  · obtain ⟨i, rfl, s⟩ := q
    exact .inr ⟨i, rfl, s, (n i rfl).resolve_left fun z => z s⟩
  · exact .inl (h.bad T fun i e s => q ⟨i, e, s⟩)
theorem Drw.badI (T : Txt K mg A) {H : Hp} {v : V} {t : Str} (h : Drw K H v t) : BadI K A H v ∨ ∃ i : Int, v = .int i := by
  by_cases q : ∃ i : Int, v = .int i
  · exact .inr q
  · exact .inl (h.bad T fun i e s => q ⟨i, e⟩)
theorem Drw.shw {H : Hp} {v : V} {t : Str} (h : Drw K H v t) : Shw K H v t := by
  cases h with
  | non => exact .inl ⟨rfl, rfl⟩
  | bl b => exact .inr (.inl ⟨b, rfl, rfl⟩)
  | int i h => exact .inr (.inr (.inl ⟨i, rfl, h, rfl⟩))
  | str s h => exact .inr (.inr (.inr (.inl ⟨s, rfl, h, rfl⟩)))
  | lst p ns g ok => exact .inr (.inr (.inr (.inr (.inl ⟨_, .lst (SqL.of g) (dpAll_ints ns), ok.1, ok.2.1, ok.2.2.1, ok.2.2.2.1, ok.2.2.2.2, rfl⟩))))
  | tup p ns g ok => exact .inr (.inr (.inr (.inr (.inl ⟨_, .tup (SqT.of g) (dpAll_ints ns), ok.1, ok.2.1, ok.2.2.1, ok.2.2.2.1, ok.2.2.2.2, rfl⟩))))
  | dK p g => exact .inr (.inr (.inr (.inr (.inr ⟨p, rfl, g, rfl⟩))))
/- .. not the bowl, with a short text, and so and so -/
def Dr (K : PySem.W.Frag) (a : Addr) (R : V → Prop) (H : Hp) (v : V) : Prop := ∃ t, Drw K H v t ∧ (t.length ≤ 100 ∧ PyData.strOk t = true) ∧ v ≠ .ref a ∧ R v
theorem Dr.frm {a : Addr} {R : V → Prop} {H H' : Hp} {v : V} (s : Frm a H H') (h : Dr K a R H v) : Dr K a R H' v := by
  obtain ⟨t, h1, h2, h3, h4⟩ := h
  exact ⟨t, h1.frm s h3, h2, h3, h4⟩
theorem Dr.to {a : Addr} {R : V → Prop} {H H' : Hp} {v : V} (h : Dr K a R H v) (s : Same H H') : Dr K a R H' v := by
  obtain ⟨t, h1, h2, h3, h4⟩ := h
  exact ⟨t, h1.same s, h2, h3, h4⟩
theorem dr_get {a : Addr} {R : V → Prop} {H H' : Hp} {xs : List V} {i : Nat} {x : V} (h : ∀ y ∈ xs, Dr K a R H y) (e : xs[i]? = some x) (s : Frm a H H') : Dr K a R H' x := (h x (List.mem_of_getElem? e)).frm s
theorem fa_cons {α : Type} {p : α → Prop} {x : α} {xs : List α} (h : p x) (t : ∀ y ∈ xs, p y) : ∀ y ∈ x :: xs, p y := fun y m => by
  cases m with
  | head => exact h
  | tail _ m => exact t y m
theorem fa_nil {α : Type} {p : α → Prop} : ∀ y ∈ ([] : List α), p y := fun y m => nomatch m
theorem Drw.toL {H H' : Hp} {l : Addr} {o : HO} {v : V} {t : Str} (nl : H l = none) (x : ExtL l (upd H l o) H') (h : Drw K H v t) : Drw K H' v t := h.to fun p q e g nt => by
  have ne : p ≠ l := fun z => by
    rw [z, nl] at g
    cases g
  exact x _ _ ne (by rw [upd_ne ne]; exact g) nt
theorem Dr.toL {a : Addr} {R : V → Prop} {H H' : Hp} {l : Addr} {o : HO} {v : V} (nl : H l = none) (x : ExtL l (upd H l o) H') (h : Dr K a R H v) : Dr K a R H' v := by
  obtain ⟨t, h1, h2, h3, h4⟩ := h
  exact ⟨t, h1.toL nl x, h2, h3, h4⟩
theorem Dr.extN {a : Addr} {R : V → Prop} {H H' : Hp} {v : V} (x : ExtN H H') (h : Dr K a R H v) : Dr K a R H' v := by
  obtain ⟨t, h1, h2, h3, h4⟩ := h
  exact ⟨t, h1.to fun p q e g nt => x _ _ g nt, h2, h3, h4⟩
theorem tabs_frm {TS : List (Addr × Str)} {H H' : Hp} {a : Addr} {xs : List V} (e : H a = some (.lst xs)) (f : Frm a H H') (t : Tabs TS H) : Tabs TS H' := fun p hp => by
  obtain ⟨ps, h1, h2, h3⟩ := t p hp
  have n1 : p.1 ≠ a := fun z => by
    rw [z, e] at h1
    cases h1
  refine ⟨ps, f _ _ n1 h1, h2, fun pos cv hc => ?_⟩
  obtain ⟨c, e1, e2⟩ := h3 pos cv hc
  have n2 : c ≠ a := fun z => by
    rw [z, e] at e2
    have z' : HO.lst xs = CodeO a p.2 := Option.some.inj e2
    unfold CodeO at z'
    cases z'
  exact ⟨c, e1, f _ _ n2 e2⟩
theorem tabs_same {TS : List (Addr × Str)} {H H' : Hp} (f : Same H H') (t : Tabs TS H) : Tabs TS H' := fun p hp => by
  obtain ⟨ps, h1, h2, h3⟩ := t p hp
  refine ⟨ps, f _ _ h1, h2, fun pos cv hc => ?_⟩
  obtain ⟨c, e1, e2⟩ := h3 pos cv hc
  exact ⟨c, e1, f _ _ e2⟩
theorem extL_of {a : Addr} {H H' : Hp} (f : Frm a H H') : ExtL a H H' := fun b o n e _ => f b o n e
theorem extN_L {a : Addr} {H H' : Hp} (e : ExtN H H') : ExtL a H H' := fun b o _ g n => e b o g n
theorem extL_new {a l : Addr} {H G H' : Hp} {o : HO} (x0 : ExtL a H G) (nl : G l = none) (x : ExtL l (upd G l o) H') : ExtL a H H' := fun b q n g t => by
  have g1 := x0 b q n g t
  have ne : b ≠ l := fun z => by
    rw [z, nl] at g1
    cases g1
  exact x b q ne (by rw [upd_ne ne]; exact g1) t
/- these calls give these texts -/
def RunsAll (TT : (XK → Hp → VK → Prop) → Hp → VK → Prop) (σ : L2.St) (H : Hp) : List (XK → TE) → List Str → Prop
  | [], [] => True
  | t :: ts, r :: rs => Runs TT t σ H r ∧ RunsAll TT σ H ts rs
  | _, _ => False
theorem RunsAll.get {TT : (XK → Hp → VK → Prop) → Hp → VK → Prop} {σ : L2.St} {H : Hp} : ∀ {ts : List (XK → TE)} {rs : List Str}, RunsAll TT σ H ts rs → ∀ (i : Nat) (t : XK → TE) (r : Str), ts[i]? = some t → rs[i]? = some r → Runs TT t σ H r
  | t :: ts, r :: rs, ⟨a, b⟩, 0, _, _, e1, e2 => by
    cases e1
    cases e2
    exact a
  | t :: ts, r :: rs, ⟨a, b⟩, i + 1, _, _, e1, e2 => b.get i _ _ e1 e2
  | [], [], _, i, _, _, e1, _ => by simp at e1
  | [], _ :: _, h, _, _, _, _, _ => h.elim
  | _ :: _, [], h, _, _, _, _, _ => h.elim
theorem runs_nil {TT : (XK → Hp → VK → Prop) → Hp → VK → Prop} {σ : L2.St} {H : Hp} : RunsAll TT σ H [] [] := trivial
theorem runs_cons {TT : (XK → Hp → VK → Prop) → Hp → VK → Prop} {σ : L2.St} {H : Hp} {t : XK → TE} {ts : List (XK → TE)} {r : Str} {rs : List Str} (a : Runs TT t σ H r) (b : RunsAll TT σ H ts rs) : RunsAll TT σ H (t :: ts) (r :: rs) := ⟨a, b⟩
theorem strOk_app {a b : Str} (x : PyData.strOk a = true) (y : PyData.strOk b = true) : PyData.strOk (a ++ b) = true := by
  show (a.cps ++ b.cps).all _ = true
  rw [Array.all_append, Bool.and_eq_true]
  exact ⟨x, y⟩
theorem canLay_strs : ∀ ss : List Str, (∀ s ∈ ss, PyData.strOk s = true) → PyData.canLayAll0 (ss.map PyData.str) = true
  | [], _ => by simp [PyData.canLayAll0]
  | n :: ns, h => by
    have := canLay_strs ns fun s m => h s (.tail _ m)
    show PyData.canLayAll0 (PyData.str n :: ns.map PyData.str) = true
    rw [PyData.canLayAll0, PyData.canLay0, this, h n (.head _)]
    rfl
theorem depth_strs : ∀ ss : List Str, PyData.depthAll (ss.map PyData.str) = 0
  | [] => by simp [PyData.depthAll]
  | n :: ns => by
    have := depth_strs ns
    show PyData.depthAll (PyData.str n :: ns.map PyData.str) = 0
    rw [PyData.depthAll, PyData.depth, this]
    rfl
theorem shp_strs (ss : List Str) (h : ∀ s ∈ ss, PyData.strOk s = true) : SeqAt.shaped (.list (ss.map PyData.str)) = true := by
  unfold SeqAt.shaped
  rw [PyData.canLay0, PyData.depth, canLay_strs ss h, depth_strs]
  rfl
theorem dpAll_strs {H : Hp} : ∀ ss : List Str, DpAll K H (ss.map V.str) (ss.map PyData.str)
  | [] => .nil
  | i :: ns => .cons (.str i) (dpAll_strs ns)
theorem gdef {i : Nat} {v : V} {σ : L2.St} {H : Hp} {R : L2.St → Hp → Prop} (h : R (σ.set i (some v)) H) : gName i v σ H R := h
theorem tret {te : TE} {D : Ends} {σ : L2.St} {H : Hp} (h : te σ H D.rt) : tRet te D σ H := h
theorem extL_same {a : Addr} {H G H' : Hp} (x : ExtL a H G) (s : Same G H') : ExtL a H H' := fun b o n g t => s _ _ (x b o n g t)
theorem bowl_L {a l : Addr} {H G H' : Hp} {o : HO} (B : Bowl H a) (e : ExtN H G) (nl : G l = none) (x : ExtL l (upd G l o) H') : Bowl H' a := by
  obtain ⟨p, q, r, g⟩ := B
  have g1 : G a = _ := e _ _ g (fun _ z => nomatch z)
  have ne : a ≠ l := ne_of_none g1 nl
  exact ⟨p, q, r, x _ _ ne (by rw [upd_ne ne]; exact g1) (fun _ z => nomatch z)⟩
theorem gret {i : Nat} {v : V} {σ : L2.St} {H : Hp} {te : TE} {D : Ends} (h : te (σ.set i (some v)) H D.rt) : gName i v σ H (tRet te D) := h
theorem op_in {r : R2} {ta tb : TE} {σ : L2.St} {H : Hp} {Q : VK} (h : ta σ H fun x H1 => tb σ H1 fun y H2 => r x y H2 Q) : tOp r ta tb σ H Q := h
/- no short int -/
def NoS (v : V) : Prop := ∀ i : Int, v = .int i → ¬ Short i
/- no short int of at least 1 -/
def NoS1 (v : V) : Prop := ∀ i : Int, v = .int i → ¬ Short i ∨ i < 1
theorem len_line {n m : Nat} (h : n = m) (hm : m < 1000 := by decide) : n < sizeLine := by
  rw [h]
  exact lt_line (by omega)
theorem big60 : ¬ Short (10 ^ 60) := fun h => absurd h.2 (by decide +kernel)
theorem neg60 : ¬ Short (0 - 10 ^ 60) := fun h => absurd h.1 (by decide +kernel)
theorem sqL_extN {H H' : Hp} {a : Addr} {xs : List V} (e : ExtN H H') (h : SqL K H a xs) : SqL K H' a xs := by
  rcases h with (g | ⟨o, g⟩) | h
  · exact .inl (.inl (e _ _ g (fun _ z => nomatch z)))
  · exact .inl (.inr ⟨o, e _ _ g (fun _ z => nomatch z)⟩)
  · exact .inr h
theorem extN_back {b : Addr} {H Hb H' : Hp} (nb : H b = none) (s : Same H Hb) (x : ExtL b Hb H') : ExtN H H' := fun c o g t => x c o (fun z => by rw [z, nb] at g; cases g) (s _ _ g) t
end
end Tk

set_option maxHeartbeats 2000000
namespace Tk
open PySem PySem.Spec PyProof.Rows L2 Tc LamX
section
variable {w : World} {K : PySem.W.Frag} {mg : Str → Option Value} {base : Heap} {A : Ad}
open Tm
local macro_rules | `(tactic| walk_at "arr") => `(tactic| first
  | with_reducible assumption
  | ((with_reducible apply same_new); with_reducible assumption))
local macro_rules | `(tactic| walk_at "f") => `(tactic| first
  | with_reducible assumption
  | with_reducible exact upd_same
  | with_reducible exact Same.refl _
  | with_reducible exact Frm.refl
  | ((with_reducible apply sqL_K); (focus with_reducible assumption); rfl)
  | ((with_reducible apply sqT_K); (focus with_reducible assumption); rfl)
  | ((with_reducible apply SqT.of); walk_at "f")
  | ((with_reducible apply SqL.of); walk_at "f")
  | ((with_reducible apply back_raw); (focus walk_at "arr"); walk_at "f")
  | ((with_reducible apply frm_tup); (focus with_reducible assumption); (focus walk_at "f"); (focus walk_at "f"); (focus (intro _ z; cases z; done)))
  | ((with_reducible apply frm_raw); (focus with_reducible assumption); (focus walk_at "f"); walk_at "f")
  | ((with_reducible apply bowl_back); (focus walk_at "arr"); walk_at "f")
  | ((with_reducible apply bowl_ne); (focus with_reducible assumption); walk_at "f")
  | ((with_reducible apply Num.int); with_reducible assumption)
  | ((with_reducible apply same_snoc); (focus walk_at "arr"); walk_at "f")
  | ((with_reducible apply frm_back); (focus walk_at "arr"); walk_at "f")
  | ((with_reducible apply frm_backF); (focus with_reducible assumption); walk_at "f")
  | ((with_reducible apply back_sqT); (focus walk_at "arr"); walk_at "f")
  | ((with_reducible apply same_sqL); (focus walk_at "arr"); walk_at "f")
  | ((with_reducible apply free_same); (focus with_reducible assumption); walk_at "f")
  | ((with_reducible apply free_frm); (focus with_reducible assumption); (focus with_reducible assumption); walk_at "f")
  | ((with_reducible apply frm_sqL); (focus with_reducible assumption); (focus walk_at "f"); walk_at "f"))
local macro_rules | `(tactic| walk_at "bt") => `(tactic| first
  | with_reducible assumption
  | ((with_reducible apply bt_mul); (focus walk_at "bt"); walk_at "bt")
  | ((with_reducible apply bt_add); (focus walk_at "bt"); walk_at "bt")
  | ((with_reducible apply bt_sub); (focus walk_at "bt"); walk_at "bt")
  | ((with_reducible apply bt_neg); walk_at "bt")
  | ((with_reducible apply bt_div); walk_at "bt")
  | ((with_reducible apply bt_mod); (focus (first | assumption | omega)); walk_at "bt")
  | exact bt_lit (n := 64) (by decide)
  | exact bt_lit (n := 200) (by decide +kernel))
local macro_rules | `(tactic| walk_at "lin") => `(tactic| first
  | exact (by decide : 1 ≤ sizeLine) | exact (by decide : 2 ≤ sizeLine) | exact (by decide : 3 ≤ sizeLine) | exact (by decide : 4 ≤ sizeLine) | exact (by decide : 0 ≤ sizeLine) | exact (by decide : 5 ≤ sizeLine) | exact (by decide : 6 ≤ sizeLine))
local macro_rules | `(tactic| walk_at "dp") => `(tactic| first
  | exact Dp.int _
  | exact DpAll.nil
  | ((with_reducible apply Dp.lst); (focus walk_at "f"); walk_at "dp")
  | ((with_reducible apply Dp.tup); (focus walk_at "f"); walk_at "dp")
  | ((with_reducible apply DpAll.cons); (focus walk_at "dp"); walk_at "dp"))
local macro_rules | `(tactic| walk_at "sv") => `(tactic| first
  | with_reducible rfl
  | walk_at "f"
  | exact rfl
  | walk_at "dp"
  | exact shp_lst [_] | exact shp_lst [_, _] | exact shp_lst [_, _, _] | exact shp_lst [_, _, _, _] | exact shp_tup [_, _] | exact shp_tup [_, _, _]
  | ((apply tyV_lst); walk_at "f")
  | ((with_reducible apply bt_mulW); (focus walk_at "bt"); (focus walk_at "bt"); (focus (first | decide | omega)))
  | ((with_reducible apply bt_divW); (focus (first | decide | assumption | omega)); (focus walk_at "bt"); (focus (first | decide | omega)))
  | ((with_reducible apply bt_divP); (focus (first | decide | assumption | omega)); (focus walk_at "bt"); (focus (first | decide | omega)))
  | exact ⟨by decide, by decide +kernel⟩
  | exact Or.inl (by decide)
  | exact Or.inr (by decide)
  | exact Or.inl ⟨by omega, by omega⟩
  | exact Or.inr ⟨by omega, by omega⟩
  | ((with_reducible apply Or.inl); walk_at "sv")
  | ((with_reducible apply Or.inr); walk_at "sv")
  | ((with_reducible apply Exists.intro); walk_at "sv")
  | ((with_reducible apply And.intro); (focus walk_at "sv"); walk_at "sv")
  | walk_at "lin"
  | decide
  | omega
  | (simp only [List.length_cons, List.length_nil, List.length_map]; first | done | omega))
local macro_rules | `(tactic| walk_at "one") => `(tactic| first
  | ((fail_if_success refine' @Exists.intro (Nat → L2.St → Hp → Prop) _ ?_ ?_); (fail_if_success refine' @Exists.intro (Nat → Nat → L2.St → Hp → Prop) _ ?_ ?_); (fail_if_success refine' @Exists.intro (L2.St → Hp → Prop) _ ?_ ?_); (fail_if_success refine' @Exists.intro (Nat → Nat → Hp → Prop) _ ?_ ?_); (fail_if_success refine' @Exists.intro (Hp → Prop) _ ?_ ?_); apply Exists.intro)
  | (apply And.intro; (focus walk_at "sv"))
  | intro _
  | (apply ifT; (focus rfl))
  | (apply ifF; (focus rfl))
  | ((apply Or.inl); (apply Exists.intro); (apply And.intro); (focus exact rfl))
  | ((apply Or.inl); (apply And.intro); (focus walk_at "f"))
  | ((apply Or.inr); (apply Exists.intro); (apply And.intro); (focus exact rfl))
  | (apply ifTd; (focus (first | assumption | omega)))
  | (apply ifFd; (focus (first | assumption | omega))))
local macro_rules | `(tactic| walk_at "go") => `(tactic| repeat walk_at "one")
local macro_rules | `(tactic| walk_at "nm") => `(tactic| try simp only [List.set_cons_zero, List.set_cons_succ])
local macro_rules | `(tactic| walk_at "gon") => `(tactic| repeat (walk_at "one"; walk_at "nm"))
theorem fin_grow : ∀ (qs : List Int) (p l : Int × Int) (S : Int), (∀ q ∈ qs, 1 ≤ q ∧ q ≤ 5) → 0 ≤ p.2 → 1 ≤ l.2 → p.1.natAbs ≤ S → p.2 ≤ S → l.1.natAbs ≤ S → l.2 ≤ S →
    1 ≤ (fin p l qs).2.2 ∧ (fin p l qs).2.2 ≤ S * 6 ^ qs.length ∧ (((fin p l qs).2.1.natAbs : Nat) : Int) ≤ S * 6 ^ qs.length
  | [], p, l, S, _, p0, l0, a, b, c, d => by
    show 1 ≤ l.2 ∧ l.2 ≤ S * 6 ^ 0 ∧ _
    rw [Int.pow_zero, Int.mul_one]
    refine ⟨l0, d, ?_⟩
    show ((l.1.natAbs : Nat) : Int) ≤ S * 6 ^ 0
    rw [Int.pow_zero, Int.mul_one]
    exact c
  | q :: qs, p, l, S, h, p0, l0, a, b, c, d => by
    obtain ⟨q0, q1⟩ := h q (List.mem_cons_self ..)
    have ql : 1 * 1 ≤ q * l.2 := Int.mul_le_mul q0 l0 (by omega) (by omega)
    have qu : q * l.2 ≤ 5 * S := Int.mul_le_mul q1 d (by omega) (by omega)
    have qa : (((q * l.1).natAbs : Nat) : Int) ≤ 5 * S := by
      rw [Int.natAbs_mul, Int.natCast_mul]
      exact Int.mul_le_mul (by omega) c (by omega) (by omega)
    have r := fin_grow qs l (q * l.1 + p.1, q * l.2 + p.2) (6 * S) (fun x hx => h x (List.mem_cons_of_mem _ hx)) (by omega) (by show 1 ≤ q * l.2 + p.2; omega) (by omega) (by omega)
      (by show (((q * l.1 + p.1).natAbs : Nat) : Int) ≤ 6 * S; have := Int.natAbs_add_le (q * l.1) p.1; omega) (by show q * l.2 + p.2 ≤ 6 * S; omega)
    have e : 6 * S * 6 ^ qs.length = S * 6 ^ (q :: qs).length := by
      rw [List.length_cons, Int.pow_succ, Int.mul_comm (6 ^ qs.length) 6, Int.mul_comm 6 S, Int.mul_assoc]
    rw [e] at r
    exact r
theorem fin_cop (qs : List Int) : gc (fin (0, 1) (1, 0) qs).2.1 (fin (0, 1) (1, 0) qs).2.2 = 1 := by
  have d := fin_det qs (0, 1) (1, 0)
  generalize (fin (0, 1) (1, 0) qs).2.1 = x at *
  generalize (fin (0, 1) (1, 0) qs).2.2 = y at *
  generalize (fin (0, 1) (1, 0) qs).1.1 = u at *
  generalize (fin (0, 1) (1, 0) qs).1.2 = v at *
  have h : ((Int.gcd x y : Nat) : Int) ∣ x * v - y * u := Int.dvd_sub (Int.dvd_trans (Int.gcd_dvd_left ..) (Int.dvd_mul_right ..)) (Int.dvd_trans (Int.gcd_dvd_right ..) (Int.dvd_mul_right ..))
  rw [d] at h
  have h1 : ((Int.gcd x y : Nat) : Int) ∣ 1 := by
    split at h
    · exact h
    · exact Int.dvd_neg.mp h
  have := Int.eq_one_of_dvd_one (by omega) h1
  exact this
theorem conv_last (qs : List Int) (h : qs ≠ []) : (convs qs)[(convs qs).length - 1]? = some (fin (0, 1) (1, 0) qs).2 := by
  have l := convs_len qs
  have c := (conv_fin qs (0, 1) (1, 0)).2
  obtain ⟨n, hn⟩ : ∃ n, qs.length = n + 1 := ⟨qs.length - 1, by have := List.length_pos_iff.mpr h; omega⟩
  rw [hn] at c
  rw [l, hn, Nat.add_sub_cancel]
  simpa [convs] using c
theorem PrA.at {H : Hp} : ∀ {as : List Addr} {cs : List (Int × Int)} {i : Nat} {c : Int × Int}, PrA H as cs → cs[i]? = some c → ∃ a, as[i]? = some a ∧ H a = some (.tup [.int c.1, .int c.2])
  | _, _, 0, _, .cons h _, e => ⟨_, rfl, by cases e; exact h⟩
  | _, _, i + 1, _, .cons _ t, e => PrA.at (i := i) t (by simpa using e)
theorem frm_mut {a D : Addr} {H H' : Hp} {o : HO} (f : Frm a H H') (n : H D = none) : Frm a H (upd H' D o) := fun b x ne e => by
  rw [upd_ne (ne_of_none e n)]
  exact f b x ne e
theorem all_rep (n : Nat) : (List.replicate n true).all id = true := by
  rw [List.all_eq_true]
  intro x hx
  rw [(List.mem_replicate.mp hx).2]
  rfl
theorem cutV_tail {x : V} {xs : List V} : cutV (x :: xs) (some 1) none = xs := by
  unfold cutV HT.sIx
  have h : min (1 : Int).toNat (x :: xs).length = 1 := by
    rw [List.length_cons]
    show min 1 (xs.length + 1) = 1
    omega
  show ((x :: xs).drop (min (1 : Int).toNat (x :: xs).length)).take ((x :: xs).length - min (1 : Int).toNat (x :: xs).length) = xs
  rw [h, List.length_cons, Nat.add_sub_cancel]
  show xs.take xs.length = xs
  exact List.take_length
theorem atI_lastD {qs : List Int} (h : qs ≠ []) : atI (qs.map V.int) (-1) = some (V.int (qs.getLast?.getD 0)) := by
  obtain ⟨l, e⟩ : ∃ l, qs.getLast? = some l := ⟨_, List.getLast?_eq_some_getLast h⟩
  obtain ⟨ini, rfl⟩ := List.getLast?_eq_some_iff.mp e
  rw [e, List.map_append]
  exact atI_last _ _
local macro_rules | `(tactic| walk_at "arr") => `(tactic| first
  | ((with_reducible apply made2); (focus with_reducible assumption); (focus with_reducible assumption); with_reducible assumption)
  | ((with_reducible apply same_up); (focus with_reducible assumption); with_reducible assumption))
local macro_rules | `(tactic| walk_at "f") => `(tactic| first
  | ((with_reducible apply Num.long); walk_at "f")
  | ((with_reducible apply ratu_back); (focus walk_at "arr"); walk_at "f")
  | ((with_reducible apply ratu_frm); (focus with_reducible assumption); (focus walk_at "f"); walk_at "f")
  | ((with_reducible apply rat_back); (focus walk_at "arr"); walk_at "f")
  | ((with_reducible apply rat_frm); (focus with_reducible assumption); (focus walk_at "f"); walk_at "f")
  | ((with_reducible apply ratb_u); (focus with_reducible assumption); with_reducible assumption)
  | ((with_reducible apply ratb_at); (focus with_reducible assumption); with_reducible assumption)
  | ((with_reducible apply ratb_back); (focus walk_at "arr"); walk_at "f")
  | ((with_reducible apply ratb_frm); (focus with_reducible assumption); (focus walk_at "f"); walk_at "f")
  | ((with_reducible apply Rn.rat); walk_at "f")
  | ((with_reducible apply Rn.int); with_reducible assumption)
  | ((with_reducible apply rat_raw); walk_at "f")
  | ((with_reducible apply ratb_raw); walk_at "f"))
local macro_rules | `(tactic| walk_at "f") => `(tactic| first
  | ((apply ty_rat); (focus assumption); walk_at "f")
  | ((apply ty_ratb); (focus assumption); walk_at "f")
  | exact nf_self
  | exact TyX.base (.int _)
  | ((with_reducible apply Pay.two); (focus with_reducible assumption); (focus with_reducible assumption); (focus (first | with_reducible assumption | decide)); (first | with_reducible assumption | rfl))
  | ((with_reducible apply nf_K); (focus with_reducible assumption); rfl)
  | exact bt_lit (by decide +kernel))
local macro_rules | `(tactic| walk_at "one") => `(tactic| ((apply Or.inl); (apply Exists.intro); (apply Exists.intro); (apply And.intro); (focus exact rfl)))
local macro_rules | `(tactic| walk_at "f") => `(tactic| first
  | ((with_reducible apply frT_K); (focus with_reducible assumption); rfl)
  | ((with_reducible apply frt); (focus with_reducible assumption))
  | ((with_reducible apply frt_back); (focus walk_at "arr"); walk_at "f")
  | ((with_reducible apply frt_frm); (focus with_reducible assumption); (focus walk_at "f"); walk_at "f"))
local macro_rules | `(tactic| walk_at "sv") => `(tactic| first
  | ((with_reducible refine lt_line ?_); simp only [List.length_append, List.length_cons, List.length_nil, List.length_map, List.length_replicate, List.length_range]; omega)
  | ((with_reducible refine Nat.le_of_lt (lt_line ?_)); simp only [List.length_append, List.length_cons, List.length_nil, List.length_map, List.length_replicate, List.length_range]; omega))
/- no row of quotients -/
def NoRow (K : PySem.W.Frag) (H : Hp) (v : V) : Prop := ((∃ t, TyX K H v t ∧ PySem.W.kitOne K t (.type "tuple") = some false) ∨ ∃ p, v = .ref p ∧ H p = some (.tup [])) ∨ (∃ (p : Addr) (x : V), v = .ref p ∧ H p = some (.tup [x]) ∧ ∀ H', Same H H' → NoNum K H' x) ∨
  ∃ (p : Addr) (qs : List Int), v = .ref p ∧ H p = some (.tup (qs.map V.int)) ∧ 1 ≤ qs.length ∧ qs.length ≤ 300 ∧ (∀ q ∈ qs, Short q) ∧ ((∃ q ∈ qs, ¬ q.natAbs < 10 ^ 12) ∨ ((∀ q ∈ qs, q.natAbs < 10 ^ 12) ∧ ∃ q ∈ qs.drop 1, q < 1) ∨ ((∀ q ∈ qs, q.natAbs < 10 ^ 12) ∧ (∀ q ∈ qs.drop 1, 1 ≤ q) ∧ 2 ≤ qs.length ∧ qs.getLast?.getD 0 < 2))
def sp__are_quotients (K : PySem.W.Frag) : Sp := fun vs H Q _ => ∃ v, vs = [v] ∧ ((∃ (t : Addr) (qs : List Int), v = .ref t ∧ SqT K H t (qs.map V.int) ∧ 1 ≤ qs.length ∧ qs.length ≤ 300 ∧ (∀ q ∈ qs, q.natAbs < 10 ^ 12) ∧ (∀ q ∈ qs.drop 1, 1 ≤ q) ∧ 2 ≤ qs.getLast?.getD 0 ∧ ∀ H', Same H H' → Q (.bl true) H') ∨ (NoRow K H v ∧ ∀ H', Same H H' → Q (.bl false) H'))
theorem ok__are_quotients (T : Txt K mg A) : FnOk PW w K mg base CX0 3 A.f__are_quotients A.d__are_quotients ["value"] (sp__are_quotients K) := by
  refine T.F__are_quotients.ok sc__are_quotients (fun vs H Q E h => ?_) (fun cdv Ar outer s H vs Q E hr h => ?_)
  · obtain ⟨v, rfl, _⟩ := h
    rfl
  · obtain ⟨v, rfl, hv⟩ := h
    have hu := hu_of hr
    refine ⟨_, (pss_cons (ps_if (PW.pt (pw_or (pt_not (pt_val (pe_callB call_isi (by rfl) T.b_isinstance (by decide +kernel) (pa_cons (pv 0) (pa_cons (pe_bltn (v := .ty "tuple") (by rfl) T.b_tuple (by decide +kernel) rfl) pa_nil))))) (pw_or1 (pt_not (pt_chain op_le op_le pe_int (pe_callB call_len_seq (by rfl) T.b_len (by decide +kernel) (pa_cons (pv 0) pa_nil)) (pe_glob rfl T.m__MAX_QUOTIENTS.choose_spec (rel_int _ _)))))))
        (pss_one (ps_ret pe_bl))
        pss_nil)
      (pss_cons (ps_if (pt_not (pt_val (pe_callB (cr_all rfl) (by rfl) T.b_all (by decide +kernel) (pa_cons (pe_lc (own := [("one", 1)]) (g := gName 1) rfl sc__are_quotients.nd (pi_tup (pv 0)) (blkOk_by (own := [("one", 1)]) (N := n__are_quotients) (sc := defScope s__are_quotients) (by decide +kernel)) (fun _ _ _ _ _ => pg_name (i := 1) sc__are_quotients.nd rfl (Or.inl rfl)) (fun _ _ _ _ _ => pts_nil) (fun _ _ _ _ _ => (pe_and (pe_call (okx_is_short_integer T) (hr.mono (by decide)) rfl T.m_is_short_integer T.F_is_short_integer.kp T.b_is_short_integer .nil passL (pa_cons (pv 1) pa_nil)) (pe_one (pe_cmpR op_lt (pe_callB call_abs (by rfl) T.b_abs (by decide +kernel) (pa_cons (pv 1) pa_nil)) (pe_glob rfl T.m__TOO_LONG_QUOTIENT.choose_spec (rel_int _ _)) (nomark _)))))) pa_nil))))
        (pss_one (ps_ret pe_bl))
        pss_nil)
      (pss_one (ps_ret (pe_and (pe_callB (cr_all rfl) (by rfl) T.b_all (by decide +kernel) (pa_cons (pe_lc (own := [("one", 1)]) (g := gName 1) rfl sc__are_quotients.nd (pi_tup (pe_slice sl_tup (pv 0) (po_some pe_int) po_none)) (blkOk_by (own := [("one", 1)]) (N := n__are_quotients) (sc := defScope s__are_quotients) (by decide +kernel)) (fun _ _ _ _ _ => pg_name (i := 1) sc__are_quotients.nd rfl (Or.inl rfl)) (fun _ _ _ _ _ => pts_nil) (fun _ _ _ _ _ => (pe_cmpR op_ge (pv 1) pe_int (nomark _)))) pa_nil)) (pe_one (pe_or (pe_cmpR op_eq (pe_callB call_len_seq (by rfl) T.b_len (by decide +kernel) (pa_cons (pv 0) pa_nil)) pe_int (nomark _)) (pe_one (pe_cmpR op_ge (pe_ix ix_tup (pv 0) (pe_un un_neg pe_int) (fun _ _ => rfl)) pe_int (nomark _)))))))))), ?_⟩
    rcases hv with ⟨t, qs, rfl, hS, l0, l1, h1, h2, h3, k⟩ | ⟨hv, k⟩
    · have hz0 : True := trivial
      have hty := sqT_ty hS
      walk_at "go"
      refine ⟨.ty "tuple", hty, (kit_ty (by decide +kernel) : _ = some true), ?_⟩
      have hl1 : 1 ≤ (((qs.map V.int).length : Nat) : Int) := by rw [List.length_map]; omega
      have hl2 : (((qs.map V.int).length : Nat) : Int) ≤ 300 := by rw [List.length_map]; omega
      walk_at "go"
      refine ifF (by rw [decide_eq_true hl2]; rfl) ?_
      walk_at "go"
      rename_i D hD
      refine lc_tup (K := K) (a := t) (xs := qs.map V.int) (fun i H' => Stop (H' = upd H D (.lst ((List.replicate i true).map V.bl)))) ⟨rfl⟩ ?_ ?_ ?_
      · rintro i H' _ ⟨rfl⟩
        exact same_sqT (same_new hD) hS
      · rintro i x H' hx ⟨rfl⟩
        obtain ⟨z, hz, rfl⟩ := map_get hx
        have zb := h1 z (List.mem_of_getElem? hz)
        have zs : Short z := ⟨by omega, by omega⟩
        have hi : i < qs.length := (List.getElem?_eq_some_iff.mp hz).1
        have za : (if z < 0 then -z else z) < 10 ^ 12 := by split <;> omega
        have hlen : ((List.replicate i true).map V.bl).length < sizeLine := lt_line (by rw [List.length_map, List.length_replicate]; omega)
        walk_at "go"
        refine ⟨?_⟩
        rw [upd_upd, List.replicate_succ', List.map_append]
        show upd H D (.lst ((List.replicate i true).map V.bl ++ [V.bl (decide ((if z < 0 then -z else z) < 10 ^ 12))])) = _
        rw [decide_eq_true za]
        rfl
      · rintro H' ⟨rfl⟩
        walk_at "go"
        refine ifF (by rw [all_rep]; rfl) ?_
        have hla := atI_lastD (qs := qs) (by intro z; rw [z] at l0; exact absurd l0 (by decide))
        have hn0 : ¬ (HT.sIx (qs.map V.int).length 0 (some 1) = 0 ∧ HT.sIx (qs.map V.int).length (qs.map V.int).length none = (qs.map V.int).length) := fun z => by
          have z1 : min 1 (qs.map V.int).length = 0 := z.1
          rw [List.length_map] at z1
          omega
        walk_at "go"
        rename_i t2 ht2 D2 hD2
        obtain ⟨x0, qt, rfl⟩ : ∃ x0 qt, qs = x0 :: qt := by
          cases qs with
          | nil => exact absurd l0 (by decide)
          | cons x0 qt => exact ⟨x0, qt, rfl⟩
        have hT2 : SqT K (upd (upd H D (.lst ((List.replicate ((x0 :: qt).map V.int).length true).map V.bl))) t2 (.tup (cutV ((x0 :: qt).map V.int) (some 1) none))) t2 (qt.map V.int) := by
          have e : cutV ((x0 :: qt).map V.int) (some 1) none = qt.map V.int := cutV_tail
          rw [e]
          exact SqT.of upd_same
        refine lc_tup (K := K) (a := t2) (xs := qt.map V.int) (fun i H' => Stop (H' = upd (upd (upd H D (.lst ((List.replicate ((x0 :: qt).map V.int).length true).map V.bl))) t2 (.tup (cutV ((x0 :: qt).map V.int) (some 1) none))) D2 (.lst ((List.replicate i true).map V.bl)))) ⟨rfl⟩ ?_ ?_ ?_
        · rintro i H' _ ⟨rfl⟩
          exact same_sqT (same_new hD2) hT2
        · rintro i x H' hx ⟨rfl⟩
          obtain ⟨z, hz, rfl⟩ := map_get hx
          have z1 : 1 ≤ z := h2 z (List.mem_of_getElem? hz)
          have hi : i < qt.length := (List.getElem?_eq_some_iff.mp hz).1
          rw [List.length_cons] at l1
          have hlen : ((List.replicate i true).map V.bl).length < sizeLine := lt_line (by rw [List.length_map, List.length_replicate]; omega)
          walk_at "go"
          refine ⟨?_⟩
          rw [upd_upd, List.replicate_succ', List.map_append]
          show upd _ D2 (.lst ((List.replicate i true).map V.bl ++ [V.bl (decide (1 ≤ z))])) = _
          rw [decide_eq_true z1]
          rfl
        · rintro H' ⟨rfl⟩
          walk_at "go"
          refine ifT (all_rep _) ?_
          walk_at "go"
          have kk : ∀ x H', x = true → Same H H' → Q (.bl x) H' := fun x H' e s => by
            subst e
            exact k H' s
          refine ite2 (fun _ => ?_) (fun _ => ?_)
          · exact k _ (by walk_at "f")
          · walk_at "go"
            exact kk _ _ (decide_eq_true h3) (by walk_at "f")
    · rcases hv with (⟨t, h1, h2⟩ | ⟨p, rfl, g⟩) | ⟨p, x, rfl, g, hx⟩ | ⟨p, qs, rfl, g, l0, l1, hs, hb⟩
      · refine ⟨_, rfl, _, _, _, _, false, rfl, .ty "tuple", h1, h2, _, rfl, ?_⟩
        refine iteT ?_
        refine iteT ?_
        exact k _ (Same.refl _)
      · refine ⟨_, rfl, _, _, _, _, true, rfl, .ty "tuple", .base (.tup g), kit_ty (by decide +kernel), _, rfl, ?_⟩
        refine iteF ?_
        walk_at "go"
        exact k _ (Same.refl _)
      · refine ⟨_, rfl, _, _, _, _, true, rfl, .ty "tuple", .base (.tup g), kit_ty (by decide +kernel), _, rfl, ?_⟩
        refine iteF ?_
        walk_at "go"
        rename_i D hD
        refine lc_tup (K := K) (a := p) (xs := [x]) (fun i H' => Stop (H' D = some (.lst ((List.replicate i false).map V.bl)) ∧ Same H H')) ⟨upd_same, same_new hD⟩ (fun i H' _ ⟨⟨_, s⟩⟩ => SqT.of (s _ _ g)) ?_ ?_
        · rintro i y H' hy ⟨⟨g1, s1⟩⟩
          have hi : i < 1 := (List.getElem?_eq_some_iff.mp hy).1
          obtain rfl : i = 0 := by omega
          cases hy
          walk_at "go"
          refine .inr ⟨hx _ s1, ?_⟩
          walk_at "go"
          exact ⟨⟨upd_same, same_mut s1 hD⟩⟩
        · rintro H' ⟨⟨g1, s1⟩⟩
          walk_at "go"
          exact k _ s1
      · have ty := SqT.of (K := K) g
        refine ⟨_, rfl, _, _, _, _, true, rfl, .ty "tuple", .base (.tup g), kit_ty (by decide +kernel), _, rfl, ?_⟩
        refine iteF ?_
        have hl1 : 1 ≤ (((qs.map V.int).length : Nat) : Int) := by rw [List.length_map]; omega
        have hl2 : (((qs.map V.int).length : Nat) : Int) ≤ 300 := by rw [List.length_map]; omega
        walk_at "go"
        refine ifF (by rw [decide_eq_true hl2]; rfl) ?_
        walk_at "go"
        rename_i D hD
        refine lc_tup (K := K) (a := p) (xs := qs.map V.int) (fun i H' => Stop (H' = upd H D (.lst (((qs.take i).map fun z => decide ((if z < 0 then -z else z) < 10 ^ 12)).map V.bl)))) ⟨rfl⟩ ?_ ?_ ?_
        · rintro i H' _ ⟨rfl⟩
          exact same_sqT (same_new hD) ty
        · rintro i x H' hx ⟨rfl⟩
          obtain ⟨z, hz, rfl⟩ := map_get hx
          have zs := hs z (List.mem_of_getElem? hz)
          have hi : i < qs.length := (List.getElem?_eq_some_iff.mp hz).1
          have hlen : (((qs.take i).map fun z : Int => decide ((if z < 0 then -z else z) < 10 ^ 12)).map V.bl).length < sizeLine := lt_line (by rw [List.length_map, List.length_map, List.length_take]; omega)
          walk_at "go"
          refine ⟨?_⟩
          rw [upd_upd, List.take_add_one, hz]
          simp
        · rintro H' ⟨rfl⟩
          walk_at "go"
          rw [List.length_map, List.take_length]
          have fe : ∀ z : Int, (decide ((if z < 0 then -z else z) < 10 ^ 12) = true) ↔ z.natAbs < 10 ^ 12 := fun z => by
            rw [decide_eq_true_iff]
            split <;> omega
          have hA : (qs.map fun z : Int => decide ((if z < 0 then -z else z) < 10 ^ 12)).all id = true ↔ ∀ q ∈ qs, q.natAbs < 10 ^ 12 := by
            rw [List.all_map, List.all_eq_true]
            exact ⟨fun h q m => (fe q).mp (h q m), fun h q m => (fe q).mpr (h q m)⟩
          rcases hb with ⟨q0, m0, hq⟩ | hb
          · have e : (qs.map fun z : Int => decide ((if z < 0 then -z else z) < 10 ^ 12)).all id = false := by
              rw [Bool.eq_false_iff]
              exact fun z => hq (hA.mp z q0 m0)
            refine ifT (by rw [e]; rfl) ?_
            walk_at "go"
            exact k _ (same_new hD)
          · have hall : ∀ q ∈ qs, q.natAbs < 10 ^ 12 := by
              rcases hb with hb | hb
              · exact hb.1
              · exact hb.1
            have e := hA.mpr hall
            refine ifF (by rw [e]; rfl) ?_
            have hn0 : ¬ (HT.sIx (qs.map V.int).length 0 (some 1) = 0 ∧ HT.sIx (qs.map V.int).length (qs.map V.int).length none = (qs.map V.int).length) := fun z => by
              have z1 : min 1 (qs.map V.int).length = 0 := z.1
              rw [List.length_map] at z1
              omega
            have hla := atI_lastD (qs := qs) (by intro z; rw [z] at l0; exact absurd l0 (by decide))
            walk_at "go"
            rename_i t2 ht2 D2 hD2
            obtain ⟨x0, qt, rfl⟩ : ∃ x0 qt, qs = x0 :: qt := by
              cases qs with
              | nil => exact absurd l0 (by decide)
              | cons x0 qt => exact ⟨x0, qt, rfl⟩
            have ec : cutV ((x0 :: qt).map V.int) (some 1) none = qt.map V.int := cutV_tail
            rw [ec] at hD2 ⊢
            generalize y1 : upd H D _ = E1 at *
            have z1 : Same H E1 := by rw [← y1]; exact same_new hD
            clear y1
            generalize y2 : upd E1 t2 _ = E2 at *
            have z2 : Same E1 E2 := by rw [← y2]; exact same_new ht2
            have gt2 : E2 t2 = some (.tup (qt.map V.int)) := by rw [← y2]; exact upd_same
            clear y2
            have l1 : qt.length + 1 ≤ 300 := l1
            refine lc_tup (K := K) (a := t2) (xs := qt.map V.int) (fun i H' => Stop (H' D2 = some (.lst (((qt.take i).map fun z : Int => decide (1 ≤ z)).map V.bl)) ∧ Same E2 H')) ⟨upd_same, same_new hD2⟩ (fun i H' _ ⟨⟨_, s⟩⟩ => SqT.of (s _ _ gt2)) ?_ ?_
            · rintro i x H' hx ⟨⟨g1, s1⟩⟩
              obtain ⟨z, hz, rfl⟩ := map_get hx
              have hi : i < qt.length := (List.getElem?_eq_some_iff.mp hz).1
              have hlen : (((qt.take i).map fun z : Int => decide (1 ≤ z)).map V.bl).length < sizeLine := lt_line (by rw [List.length_map, List.length_map, List.length_take]; omega)
              walk_at "go"
              refine ⟨⟨?_, same_mut s1 hD2⟩⟩
              rw [upd_same, List.take_add_one, hz]
              simp
            · rintro H' ⟨⟨g1, s1⟩⟩
              walk_at "go"
              rw [List.length_map, List.take_length]
              have hB : (qt.map fun z : Int => decide (1 ≤ z)).all id = true ↔ ∀ q ∈ qt, 1 ≤ q := by
                rw [List.all_map, List.all_eq_true]
                exact ⟨fun h q m => of_decide_eq_true (h q m), fun h q m => decide_eq_true (h q m)⟩
              have sE := (z1.trans z2).trans s1
              rcases hb with ⟨_, q0, m0, hq⟩ | ⟨_, h2, hl, hq⟩
              · refine ifF (by
                  rw [Bool.eq_false_iff]
                  exact fun z => absurd (hB.mp z q0 m0) (by omega)) ?_
                exact k _ sE
              · refine ifT (hB.mpr h2) ?_
                walk_at "go"
                refine ifF (decide_eq_false fun z => ?_) ?_
                · have z : (((List.map V.int (x0 :: qt)).length : Nat) : Int) = 1 := by injection z
                  rw [List.length_map] at z
                  omega
                have g' := sE _ _ g
                walk_at "go"
                have kk : ∀ y, y = false → Q (.bl y) H' := fun y e => by
                  subst e
                  exact k _ sE
                exact kk _ (decide_eq_false (by omega))
def sp_pair_from (K : PySem.W.Frag) : Sp := fun vs H Q _ => ∃ (t : Addr) (qs : List Int), vs = [.ref t] ∧ SqT K H t (qs.map V.int) ∧ 1 ≤ qs.length ∧ qs.length ≤ 300 ∧ (∀ q ∈ qs, q.natAbs < 10 ^ 12) ∧ (∀ q ∈ qs.drop 1, 1 ≤ q) ∧ 2 ≤ qs.getLast?.getD 0 ∧
  ∀ p H', Same H H' → H' p = some (.tup [.int (fin (0, 1) (1, 0) qs).2.1, .int (fin (0, 1) (1, 0) qs).2.2]) → Q (.ref p) H'
theorem ok_pair_from (T : Txt K mg A) : FnOk PW w K mg base CX0 4 A.f_pair_from A.d_pair_from ["quotients"] (sp_pair_from K) := by
  refine T.F_pair_from.ok sc_pair_from (fun vs H Q E h => ?_) (fun cdv Ar outer s H vs Q E hr h => ?_)
  · obtain ⟨_, _, rfl, _⟩ := h
    rfl
  · obtain ⟨t, qs, rfl, hS, l0, l1, h1, h2, h3, k⟩ := h
    have hu := hu_of hr
    refine ⟨_, (pss_cons (ps_if (pt_not (pt_val (pe_call (ok__are_quotients T) (hr.mono (by decide)) rfl T.m__are_quotients T.F__are_quotients.kp T.b__are_quotients .nil pass0 (pa_cons (pv 0) pa_nil))))
        (pss_one ps_never)
        pss_nil)
      (pss_one (ps_ret (pe_ix ix_tup (pe_call (ok__convergents_of T) (hr.mono (by decide)) rfl T.m__convergents_of T.F__convergents_of.kp T.b__convergents_of .nil pass0 (pa_cons (pv 0) pa_nil)) (pe_un un_neg pe_int) (fun _ _ => rfl))))), ?_⟩
    have h4 : ∀ q ∈ qs, q.natAbs < 2 ^ 400 := fun q hq => Nat.lt_trans (h1 q hq) (by decide +kernel)
    have l2 : qs.length ≤ 1000 := by omega
    walk_at "go"
    rename_i H1 s1 c as H2 s2 hc hp
    obtain ⟨a, ha, hta⟩ := PrA.at hp (conv_last qs (by intro z; rw [z] at l0; exact absurd l0 (by decide)))
    have hl := PrA.len hp
    rw [← hl] at ha
    have el : as.getLast? = some a := by rw [List.getLast?_eq_getElem?]; exact ha
    have ed : as.getLast?.getD c = a := by rw [el]; rfl
    have hla : atI (as.map V.ref) (-1) = some (.ref (as.getLast?.getD c)) := by
      rw [ed]
      obtain ⟨ini, rfl⟩ := List.getLast?_eq_some_iff.mp el
      rw [List.map_append]
      exact atI_last _ _
    rw [← ed] at hta
    walk_at "go"
    exact k _ _ (by walk_at "f") hta
/- a ladder of what is no pair -/
def spx_Ladder___init__ (A : Ad) (K : PySem.W.Frag) : Sp := fun vs H Q E => ∃ (p dx : Addr) (u v : V), vs = [.ref p, u, v] ∧ H p = some (.ins A.a_Ladder dx []) ∧ BadP A K E H u v
theorem okx_Ladder___init__ (T : Txt K mg A) : FnOk PW w K mg base (L2.CX PW w) 7 A.f_Ladder___init__ A.d_Ladder___init__ ["self", "a", "b"] (spx_Ladder___init__ A K) := by
  refine T.F_Ladder___init__.okX sc_Ladder___init__ (fun vs H Q E h => ?_) (fun cdv Ar outer s H vs Q E hr h => ?_)
  · obtain ⟨p, dx, u, v, rfl, _⟩ := h
    rfl
  · obtain ⟨p, dx, u, v, rfl, hp, k⟩ := h
    have hu := hu_of hr
    refine ⟨_, (pss_cons (ps_asg (pe_call (okx_checked_pair T) (hr.mono (by decide)) rfl T.m_checked_pair T.F_checked_pair.kp T.b_checked_pair .nil (passes_call (takes_of rfl rfl rfl rfl) (fun _ _ _ _ h => h)) (pa_cons (pv 1) (pa_cons (pv 2) pa_nil))) (pg_tup rfl (pgs_cons (pg_fld (pv 0)) (pgs_cons (pg_fld (pv 0)) pgs_nil))))
      (pss_one (ps_asg (pe_call (ok__euclid_steps T) (hr.mono (by decide)) rfl T.m__euclid_steps T.F__euclid_steps.kp T.b__euclid_steps .nil pass0 (pa_cons (pe_fld (pv 0) rfl) (pa_cons (pe_fld (pv 0) rfl) pa_nil))) (pg_tup rfl (pgs_cons (pg_fld (pv 0)) (pgs_cons (pg_fld (pv 0)) pgs_nil)))))), ?_⟩
    exact ⟨_, rfl, _, rfl, u, v, rfl, k⟩
def spy_Ladder___init__ (A : Ad) (K : PySem.W.Frag) : Sp := fun vs H Q E => sp_Ladder___init__ A vs H Q E ∨ spx_Ladder___init__ A K vs H Q E
theorem oky_Ladder___init__ (T : Txt K mg A) : FnOk PW w K mg base (L2.CX PW w) 7 A.f_Ladder___init__ A.d_Ladder___init__ ["self", "a", "b"] (spy_Ladder___init__ A K) := or_fn (lift_fn (ok_Ladder___init__ T)) (okx_Ladder___init__ T)
def spx_common_factor (A : Ad) (K : PySem.W.Frag) : Sp := fun vs H Q E => ∃ (u v : V), vs = [u, v] ∧ BadP A K E H u v
theorem okx_common_factor (T : Txt K mg A) : FnOk PW w K mg base (L2.CX PW w) 7 A.f_common_factor A.d_common_factor ["a", "b"] (spx_common_factor A K) := by
  refine T.F_common_factor.okX sc_common_factor (fun vs H Q E h => ?_) (fun cdv Ar outer s H vs Q E hr h => ?_)
  · obtain ⟨u, v, rfl, _⟩ := h
    rfl
  · obtain ⟨u, v, rfl, k⟩ := h
    have hu := hu_of hr
    refine ⟨_, (pss_cons (ps_asg (pe_call (okx_checked_pair T) (hr.mono (by decide)) rfl T.m_checked_pair T.F_checked_pair.kp T.b_checked_pair .nil (passes_call (takes_of rfl rfl rfl rfl) (fun _ _ _ _ h => h)) (pa_cons (pv 0) (pa_cons (pv 1) pa_nil))) (pg_tup rfl (pgs_cons (pg_name (i := 2) sc_common_factor.nd rfl (Or.inl rfl)) (pgs_cons (pg_name (i := 3) sc_common_factor.nd rfl (Or.inl rfl)) pgs_nil))))
      (pss_one (ps_ret (pe_callBfun cr_gcd rfl T.m_gcd (pa_cons (pv 2) (pa_cons (pv 3) pa_nil)))))), ?_⟩
    exact ⟨_, rfl, _, rfl, u, v, rfl, k⟩
def spx_are_coprime (A : Ad) (K : PySem.W.Frag) : Sp := fun vs H Q E => ∃ (u v : V), vs = [u, v] ∧ BadP A K E H u v
theorem okx_are_coprime (T : Txt K mg A) : FnOk PW w K mg base (L2.CX PW w) 8 A.f_are_coprime A.d_are_coprime ["a", "b"] (spx_are_coprime A K) := by
  refine T.F_are_coprime.okX sc_are_coprime (fun vs H Q E h => ?_) (fun cdv Ar outer s H vs Q E hr h => ?_)
  · obtain ⟨u, v, rfl, _⟩ := h
    rfl
  · obtain ⟨u, v, rfl, k⟩ := h
    have hu := hu_of hr
    refine ⟨_, (pss_one (ps_ret (pe_cmpR op_eq (pe_call (okx_common_factor T) (hr.mono (by decide)) rfl T.m_common_factor T.F_common_factor.kp T.b_common_factor .nil (passes_call (takes_of rfl rfl rfl rfl) (fun _ _ _ _ h => h)) (pa_cons (pv 0) (pa_cons (pv 1) pa_nil))) pe_int (nomark _)))), ?_⟩
    exact ⟨_, rfl, _, rfl, u, v, rfl, k⟩
def spx_inverse_of (A : Ad) (K : PySem.W.Frag) : Sp := fun vs H Q E => ∃ (u v : V), vs = [u, v] ∧ (BadP A K E H u v ∨ ∃ a b : Int, u = .int a ∧ v = .int b ∧ Short a ∧ Short b ∧ 1 ≤ b ∧ Nat.gcd a.natAbs b.natAbs ≠ 1 ∧ ∀ H', Same H H' → E (.ref A.a_InvalidOperation) none H')
theorem okx_inverse_of (T : Txt K mg A) : FnOk PW w K mg base (L2.CX PW w) 9 A.f_inverse_of A.d_inverse_of ["a", "b"] (spx_inverse_of A K) := by
  refine T.F_inverse_of.okX sc_inverse_of (fun vs H Q E h => ?_) (fun cdv Ar outer s H vs Q E hr h => ?_)
  · obtain ⟨u, v, rfl, _⟩ := h
    rfl
  · obtain ⟨u, v, rfl, k⟩ := h
    have hu := hu_of hr
    refine ⟨_, (pss_cons (ps_asg (pe_call (oky_checked_pair T) (hr.mono (by decide)) rfl T.m_checked_pair T.F_checked_pair.kp T.b_checked_pair .nil (passes_call (takes_of rfl rfl rfl rfl) (fun _ _ _ _ h => h)) (pa_cons (pv 0) (pa_cons (pv 1) pa_nil))) (pg_tup rfl (pgs_cons (pg_name (i := 2) sc_inverse_of.nd rfl (Or.inl rfl)) (pgs_cons (pg_name (i := 3) sc_inverse_of.nd rfl (Or.inl rfl)) pgs_nil))))
      (pss_cons (ps_set (i := 4) sc_inverse_of.nd rfl (Or.inl rfl) (pe_call (ok_inverse_or_none T) (hr.mono (by decide)) rfl T.m_inverse_or_none T.F_inverse_or_none.kp T.b_inverse_or_none .nil pass0 (pa_cons (pv 2) (pa_cons (pv 3) pa_nil))))
      (pss_cons (ps_if (pt_cmpR op_isN (pv 4) pe_non (nomark _))
        (pss_one (ps_raise rfl (takes_of rfl rfl rfl rfl) (pmk_own PySem.F.excBase_ValueError T.x_InvalidOperation T.m_InvalidOperation T.k_InvalidOperation (raises_own T.sb_InvalidOperation T.ty_InvalidOperation) (by exact rfl))))
        pss_nil)
      (pss_one (ps_ret (pv 4)))))), ?_⟩
    rcases k with k | ⟨a, b, rfl, rfl, sa, sb, b1, hg, k⟩
    · exact ⟨_, rfl, _, rfl, .inr ⟨u, v, rfl, k⟩⟩
    · have b5 : b.natAbs < 2 ^ 500 := Nat.lt_of_lt_of_le (show b.natAbs < 2 ^ 250 by have := sb.1; have := sb.2; omega) (Nat.pow_le_pow_right (by decide) (by decide))
      refine ⟨_, rfl, _, rfl, .inl ⟨_, _, a, b, rfl, .int sa, .int sb, b1, fun t H1 hn s1 g1 => ?_⟩⟩
      refine ⟨t, _, rfl, SqT.of g1, rfl, _, _, rfl, _, _, rfl, rfl, ?_⟩
      refine ⟨_, rfl, _, rfl, a, b, rfl, b1, b5, fun hg' => absurd hg' hg, fun _ => ?_⟩
      refine ⟨_, rfl, rfl, _, rfl, ?_⟩
      refine iteT ?_
      exact k _ s1
def spy_inverse_of (A : Ad) (K : PySem.W.Frag) : Sp := fun vs H Q E => sp_inverse_of A vs H Q E ∨ spx_inverse_of A K vs H Q E
theorem oky_inverse_of (T : Txt K mg A) : FnOk PW w K mg base (L2.CX PW w) 9 A.f_inverse_of A.d_inverse_of ["a", "b"] (spy_inverse_of A K) := or_fn (lift_fn (ok_inverse_of T)) (okx_inverse_of T)
def spx_Ladder_shifted (A : Ad) (K : PySem.W.Frag) : Sp := fun vs H Q E => ∃ (p : Addr) (a b : Int) (v : V), vs = [.ref p, v] ∧ LadAt A.a_Ladder H p a b ∧ BadI K A H v ∧ RaisesN A E H v
theorem okx_Ladder_shifted (T : Txt K mg A) : FnOk PW w K mg base (L2.CX PW w) 9 A.f_Ladder_shifted A.d_Ladder_shifted ["self", "times"] (spx_Ladder_shifted A K) := by
  refine T.F_Ladder_shifted.okX sc_Ladder_shifted (fun vs H Q E h => ?_) (fun cdv Ar outer s H vs Q E hr h => ?_)
  · obtain ⟨p, a, b, v, rfl, _⟩ := h
    rfl
  · obtain ⟨p, a, b, v, rfl, L, hv, k⟩ := h
    have hu := hu_of hr
    refine ⟨_, (pss_cons (ps_set (i := 2) sc_Ladder_shifted.nd rfl (Or.inl rfl) (pe_op op_mulW (pe_call (okx_checked_integer T) (hr.mono (by decide)) rfl T.m_checked_integer T.F_checked_integer.kp T.b_checked_integer .nil (passes_call (takes_of rfl rfl rfl rfl) (fun _ _ _ _ h => h)) (pa_cons (pv 1) pa_nil)) (pe_fld (pv 0) rfl)))
      (pss_one (ps_ret (pe_make T.mk_Ladder (ok_Ladder___init__ T) (hr.mono (by decide)) rfl T.m_Ladder T.b_Ladder___init__ .nil pass0 (pa_cons (pe_make T.mk_Long (ok_Long___init__ T) (hr.mono (by decide)) rfl T.m_Long T.b_Long___init__ .nil pass0 (pa_cons (pe_op op_add (pe_fld (pv 0) rfl) (pv 2)) pa_nil)) (pa_cons (pe_make T.mk_Long (ok_Long___init__ T) (hr.mono (by decide)) rfl T.m_Long T.b_Long___init__ .nil pass0 (pa_cons (pe_fld (pv 0) rfl) pa_nil)) pa_nil)))))), ?_⟩
    exact ⟨_, rfl, v, rfl, .inr ⟨hv, k⟩⟩
def spx_Ladder_exchanged (A : Ad) : Sp := fun vs H Q E => ∃ (p : Addr) (a b : Int), vs = [.ref p] ∧ LadAt A.a_Ladder H p a b ∧ a < 1 ∧ E (.ref A.a_InvalidOperation) none H
theorem okx_Ladder_exchanged (T : Txt K mg A) : FnOk PW w K mg base (L2.CX PW w) 9 A.f_Ladder_exchanged A.d_Ladder_exchanged ["self"] (spx_Ladder_exchanged A) := by
  refine T.F_Ladder_exchanged.okX sc_Ladder_exchanged (fun vs H Q E h => ?_) (fun cdv Ar outer s H vs Q E hr h => ?_)
  · obtain ⟨p, a, b, rfl, _⟩ := h
    rfl
  · obtain ⟨p, a, b, rfl, L, ha, k⟩ := h
    have hu := hu_of hr
    refine ⟨_, (pss_cons (ps_if (pt_cmpR op_lt (pe_fld (pv 0) rfl) pe_int (nomark _))
        (pss_one (ps_raise rfl (takes_of rfl rfl rfl rfl) (pmk_own PySem.F.excBase_ValueError T.x_InvalidOperation T.m_InvalidOperation T.k_InvalidOperation (raises_own T.sb_InvalidOperation T.ty_InvalidOperation) (by exact rfl))))
        pss_nil)
      (pss_one (ps_ret (pe_make T.mk_Ladder (ok_Ladder___init__ T) (hr.mono (by decide)) rfl T.m_Ladder T.b_Ladder___init__ .nil pass0 (pa_cons (pe_make T.mk_Long (ok_Long___init__ T) (hr.mono (by decide)) rfl T.m_Long T.b_Long___init__ .nil pass0 (pa_cons (pe_fld (pv 0) rfl) pa_nil)) (pa_cons (pe_make T.mk_Long (ok_Long___init__ T) (hr.mono (by decide)) rfl T.m_Long T.b_Long___init__ .nil pass0 (pa_cons (pe_fld (pv 0) rfl) pa_nil)) pa_nil)))))), ?_⟩
    obtain ⟨h1, h2, h3, dx, q, r, g1, g2, g3⟩ := id L
    refine ⟨_, rfl, p, A.a_Ladder, dx, _, _, rfl, g1, T.c_Ladder, T.na_Ladder__a, lad_a, _, _, rfl, rfl, _, rfl, ?_⟩
    rw [decide_eq_true (by omega)]
    refine iteT ?_
    exact k
def spy_Ladder_exchanged (A : Ad) : Sp := fun vs H Q E => sp_Ladder_exchanged A vs H Q E ∨ spx_Ladder_exchanged A vs H Q E
theorem oky_Ladder_exchanged (T : Txt K mg A) : FnOk PW w K mg base (L2.CX PW w) 9 A.f_Ladder_exchanged A.d_Ladder_exchanged ["self"] (spy_Ladder_exchanged A) := or_fn (lift_fn (ok_Ladder_exchanged T)) (okx_Ladder_exchanged T)
def spx_Ladder___getitem__ (A : Ad) (K : PySem.W.Frag) : Sp := fun vs H Q E => ∃ (p : Addr) (a b : Int) (v : V), vs = [.ref p, v] ∧ LadAt A.a_Ladder H p a b ∧ (NoNum K H v ∨ ∃ x : Int, v = .int x ∧ Short x ∧ (x < 0 ∨ ((quos a b).length : Int) ≤ x)) ∧ RaisesN A E H v
theorem okx_Ladder___getitem__ (T : Txt K mg A) : FnOk PW w K mg base (L2.CX PW w) 4 A.f_Ladder___getitem__ A.d_Ladder___getitem__ ["self", "at"] (spx_Ladder___getitem__ A K) := by
  refine T.F_Ladder___getitem__.okX sc_Ladder___getitem__ (fun vs H Q E h => ?_) (fun cdv Ar outer s H vs Q E hr h => ?_)
  · obtain ⟨p, a, b, v, rfl, _⟩ := h
    rfl
  · obtain ⟨p, a, b, v, rfl, L, hv, k⟩ := h
    have hu := hu_of hr
    refine ⟨_, (pss_cons (ps_if (PW.pt (pw_or (pt_not (pt_val (pe_call (okx_is_short_integer T) (hr.mono (by decide)) rfl T.m_is_short_integer T.F_is_short_integer.kp T.b_is_short_integer .nil (passes_call (takes_of rfl rfl rfl rfl) (fun _ _ _ _ h => h)) (pa_cons (pv 1) pa_nil)))) (pw_or1 (pt_not (pt_chain op_le op_lt pe_int (pv 1) (pe_callB call_len_seq (by rfl) T.b_len (by decide +kernel) (pa_cons (pe_fld (pv 0) rfl) pa_nil)))))))
        (pss_one (ps_raiseSup rfl T.s_InvalidNumber supN_given PySem.F.excBase_IndexError PySem.W.kxs_IndexError PySem.F.store_IndexError hr (takes_of rfl rfl rfl rfl) rfl (pa_cons (pv 1) pa_nil)))
        pss_nil)
      (pss_one (ps_ret (pe_ix ix_tup (pe_fld (pv 0) rfl) (pv 1) (fun _ _ => rfl))))), ?_⟩
    obtain ⟨h1, h2, h3, dx, q, r, g1, g2, g3⟩ := id L
    have f1 := T.c_Ladder
    have f2 := T.na_Ladder__quotients
    have f3 : (ladF a b q r).lookup ("_quotients" : Str) = some (.ref q) := lad_q
    have g2' : SqT K H q ((quos a b).map V.int) := SqT.of g2
    have lt : ((quos a b).map V.int).length = (quos a b).length := List.length_map ..
    rcases hv with hv | ⟨x, rfl, sx, hx⟩
    · refine ⟨_, rfl, v, rfl, .inr ⟨hv, _, rfl, ?_⟩⟩
      refine iteT ?_
      refine iteT ?_
      exact ⟨_, rfl, _, rfl, fun d nd => k _ d (Same.refl _) nd⟩
    · refine ⟨_, rfl, _, rfl, .inl ⟨x, rfl, sx, _, rfl, ?_⟩⟩
      refine iteF ?_
      walk_at "go"
      by_cases h0 : 0 ≤ x
      · rw [if_pos (decide_eq_true h0)]
        walk_at "go"
        refine ⟨f1, f2, f3, ?_⟩
        walk_at "go"
        refine ifT (by rw [lt, decide_eq_false (show ¬ x < ((quos a b).length : Int) by omega)]; rfl) ?_
        walk_at "go"
        exact k _ _ (Same.refl _) (by assumption)
      · rw [if_neg (by rw [decide_eq_false h0]; decide)]
        walk_at "go"
        exact k _ _ (Same.refl _) (by assumption)
def spx_pair_from (A : Ad) (K : PySem.W.Frag) : Sp := fun vs H Q E => ∃ v, vs = [v] ∧ NoRow K H v ∧ ∀ H', Same H H' → E (.ref A.a_InvalidOperation) none H'
theorem okx_pair_from (T : Txt K mg A) : FnOk PW w K mg base (L2.CX PW w) 4 A.f_pair_from A.d_pair_from ["quotients"] (spx_pair_from A K) := by
  refine T.F_pair_from.okX sc_pair_from (fun vs H Q E h => ?_) (fun cdv Ar outer s H vs Q E hr h => ?_)
  · obtain ⟨v, rfl, _⟩ := h
    rfl
  · obtain ⟨v, rfl, hv, k⟩ := h
    have hu := hu_of hr
    refine ⟨_, (pss_cons (ps_if (pt_not (pt_val (pe_call (ok__are_quotients T) (hr.mono (by decide)) rfl T.m__are_quotients T.F__are_quotients.kp T.b__are_quotients .nil pass0 (pa_cons (pv 0) pa_nil))))
        (pss_one (ps_raise rfl (takes_of rfl rfl rfl rfl) (pmk_own PySem.F.excBase_ValueError T.x_InvalidOperation T.m_InvalidOperation T.k_InvalidOperation (raises_own T.sb_InvalidOperation T.ty_InvalidOperation) (by exact rfl))))
        pss_nil)
      (pss_one (ps_ret (pe_ix ix_tup (pe_call (ok__convergents_of T) (hr.mono (by decide)) rfl T.m__convergents_of T.F__convergents_of.kp T.b__convergents_of .nil pass0 (pa_cons (pv 0) pa_nil)) (pe_un un_neg pe_int) (fun _ _ => rfl))))), ?_⟩
    refine ⟨_, rfl, v, rfl, .inr ⟨hv, fun H' s => ⟨_, rfl, ?_⟩⟩⟩
    refine iteT ?_
    exact k _ s
def spy_pair_from (A : Ad) (K : PySem.W.Frag) : Sp := fun vs H Q E => sp_pair_from K vs H Q E ∨ spx_pair_from A K vs H Q E
theorem oky_pair_from (T : Txt K mg A) : FnOk PW w K mg base (L2.CX PW w) 4 A.f_pair_from A.d_pair_from ["quotients"] (spy_pair_from A K) := or_fn (lift_fn (ok_pair_from T)) (okx_pair_from T)
end
end Tk

set_option maxHeartbeats 2000000
namespace Tk
open PySem PySem.Spec PyProof.Rows L2 Tc LamX
section
variable {w : World} {K : PySem.W.Frag} {mg : Str → Option Value} {base : Heap} {A : Ad}
open Tm
local macro_rules | `(tactic| walk_at "arr") => `(tactic| first
  | with_reducible assumption
  | ((with_reducible apply same_new); with_reducible assumption))
local macro_rules | `(tactic| walk_at "f") => `(tactic| first
  | with_reducible assumption
  | with_reducible exact upd_same
  | with_reducible exact Same.refl _
  | with_reducible exact Frm.refl
  | ((with_reducible apply sqL_K); (focus with_reducible assumption); rfl)
  | ((with_reducible apply sqT_K); (focus with_reducible assumption); rfl)
  | ((with_reducible apply SqT.of); walk_at "f")
  | ((with_reducible apply SqL.of); walk_at "f")
  | ((with_reducible apply back_raw); (focus walk_at "arr"); walk_at "f")
  | ((with_reducible apply frm_tup); (focus with_reducible assumption); (focus walk_at "f"); (focus walk_at "f"); (focus (intro _ z; cases z; done)))
  | ((with_reducible apply frm_raw); (focus with_reducible assumption); (focus walk_at "f"); walk_at "f")
  | ((with_reducible apply bowl_back); (focus walk_at "arr"); walk_at "f")
  | ((with_reducible apply bowl_ne); (focus with_reducible assumption); walk_at "f")
  | ((with_reducible apply Num.int); with_reducible assumption)
  | ((with_reducible apply same_snoc); (focus walk_at "arr"); walk_at "f")
  | ((with_reducible apply frm_back); (focus walk_at "arr"); walk_at "f")
  | ((with_reducible apply frm_backF); (focus with_reducible assumption); walk_at "f")
  | ((with_reducible apply back_sqT); (focus walk_at "arr"); walk_at "f")
  | ((with_reducible apply same_sqL); (focus walk_at "arr"); walk_at "f")
  | ((with_reducible apply free_same); (focus with_reducible assumption); walk_at "f")
  | ((with_reducible apply free_frm); (focus with_reducible assumption); (focus with_reducible assumption); walk_at "f")
  | ((with_reducible apply frm_sqL); (focus with_reducible assumption); (focus walk_at "f"); walk_at "f"))
local macro_rules | `(tactic| walk_at "bt") => `(tactic| first
  | with_reducible assumption
  | ((with_reducible apply bt_mul); (focus walk_at "bt"); walk_at "bt")
  | ((with_reducible apply bt_add); (focus walk_at "bt"); walk_at "bt")
  | ((with_reducible apply bt_sub); (focus walk_at "bt"); walk_at "bt")
  | ((with_reducible apply bt_neg); walk_at "bt")
  | ((with_reducible apply bt_div); walk_at "bt")
  | ((with_reducible apply bt_mod); (focus (first | assumption | omega)); walk_at "bt")
  | exact bt_lit (n := 64) (by decide)
  | exact bt_lit (n := 200) (by decide +kernel))
local macro_rules | `(tactic| walk_at "lin") => `(tactic| first
  | exact (by decide : 1 ≤ sizeLine) | exact (by decide : 2 ≤ sizeLine) | exact (by decide : 3 ≤ sizeLine) | exact (by decide : 4 ≤ sizeLine) | exact (by decide : 0 ≤ sizeLine) | exact (by decide : 5 ≤ sizeLine) | exact (by decide : 6 ≤ sizeLine))
local macro_rules | `(tactic| walk_at "dp") => `(tactic| first
  | exact Dp.int _
  | exact DpAll.nil
  | ((with_reducible apply Dp.lst); (focus walk_at "f"); walk_at "dp")
  | ((with_reducible apply Dp.tup); (focus walk_at "f"); walk_at "dp")
  | ((with_reducible apply DpAll.cons); (focus walk_at "dp"); walk_at "dp"))
local macro_rules | `(tactic| walk_at "sv") => `(tactic| first
  | with_reducible rfl
  | walk_at "f"
  | exact rfl
  | walk_at "dp"
  | exact shp_lst [_] | exact shp_lst [_, _] | exact shp_lst [_, _, _] | exact shp_lst [_, _, _, _] | exact shp_tup [_, _] | exact shp_tup [_, _, _]
  | ((apply tyV_lst); walk_at "f")
  | ((with_reducible apply bt_mulW); (focus walk_at "bt"); (focus walk_at "bt"); (focus (first | decide | omega)))
  | ((with_reducible apply bt_divW); (focus (first | decide | assumption | omega)); (focus walk_at "bt"); (focus (first | decide | omega)))
  | ((with_reducible apply bt_divP); (focus (first | decide | assumption | omega)); (focus walk_at "bt"); (focus (first | decide | omega)))
  | exact ⟨by decide, by decide +kernel⟩
  | exact Or.inl (by decide)
  | exact Or.inr (by decide)
  | exact Or.inl ⟨by omega, by omega⟩
  | exact Or.inr ⟨by omega, by omega⟩
  | ((with_reducible apply Or.inl); walk_at "sv")
  | ((with_reducible apply Or.inr); walk_at "sv")
  | ((with_reducible apply Exists.intro); walk_at "sv")
  | ((with_reducible apply And.intro); (focus walk_at "sv"); walk_at "sv")
  | walk_at "lin"
  | decide
  | omega
  | (simp only [List.length_cons, List.length_nil, List.length_map]; first | done | omega))
local macro_rules | `(tactic| walk_at "one") => `(tactic| first
  | ((fail_if_success refine' @Exists.intro (Nat → L2.St → Hp → Prop) _ ?_ ?_); (fail_if_success refine' @Exists.intro (Nat → Nat → L2.St → Hp → Prop) _ ?_ ?_); (fail_if_success refine' @Exists.intro (L2.St → Hp → Prop) _ ?_ ?_); (fail_if_success refine' @Exists.intro (Nat → Nat → Hp → Prop) _ ?_ ?_); (fail_if_success refine' @Exists.intro (Hp → Prop) _ ?_ ?_); apply Exists.intro)
  | (apply And.intro; (focus walk_at "sv"))
  | intro _
  | (apply ifT; (focus rfl))
  | (apply ifF; (focus rfl))
  | ((apply Or.inl); (apply Exists.intro); (apply And.intro); (focus exact rfl))
  | ((apply Or.inl); (apply And.intro); (focus walk_at "f"))
  | ((apply Or.inr); (apply Exists.intro); (apply And.intro); (focus exact rfl))
  | (apply ifTd; (focus (first | assumption | omega)))
  | (apply ifFd; (focus (first | assumption | omega))))
local macro_rules | `(tactic| walk_at "go") => `(tactic| repeat walk_at "one")
local macro_rules | `(tactic| walk_at "nm") => `(tactic| try simp only [List.set_cons_zero, List.set_cons_succ])
local macro_rules | `(tactic| walk_at "gon") => `(tactic| repeat (walk_at "one"; walk_at "nm"))
theorem snew {H G : Hp} {q : Addr} {o : HO} (m : H q = none) (y : upd H q o = G) : Same H G := by
  rw [← y]
  exact same_new m
theorem gnew {H G : Hp} {q : Addr} {o : HO} (y : upd H q o = G) : G q = some o := by
  rw [← y]
  exact upd_same
def sp__law_one_of : Sp := fun vs H Q _ => ∃ (a l : Addr) (xs : List V), vs = [.ref a, .ref l] ∧ Bowl H a ∧ H l = some (.lst xs) ∧ l ≠ a ∧ 0 < xs.length ∧ xs.length ≤ 1000 ∧ ∀ (i : Nat) x H', xs[i]? = some x → Frm a H H' → Bowl H' a → Stop (Q x H')
theorem ok__law_one_of (T : Txt K mg A) : FnOk PW w K mg base CX0 2 A.f__law_one_of A.d__law_one_of ["_law_bowl_here", "_law_items"] sp__law_one_of := by
  refine T.F__law_one_of.ok sc__law_one_of (fun vs H Q E h => ?_) (fun cdv Ar outer s H vs Q E hr h => ?_)
  · obtain ⟨a, l, xs, rfl, _⟩ := h
    rfl
  · obtain ⟨a, l, xs, rfl, hB, hl, hne, h0, h1, k⟩ := h
    have hu := hu_of hr
    refine ⟨_, (pss_one (ps_ret (pe_ix ix_list (pv 1) (pe_call (ok__law_sip T) (hr.mono (by decide)) rfl T.m__law_sip T.F__law_sip.kp T.b__law_sip .nil pass0 (pa_cons (pv 0) (pa_cons (pe_callB call_len_seq (by rfl) T.b_len (by decide +kernel) (pa_cons (pv 1) pa_nil)) pa_nil))) (fun _ _ => rfl)))), ?_⟩
    refine ⟨_, rfl, _, rfl, _, rfl, l, _, rfl, .inl (SqL.of hl), a, (xs.length : Int), rfl, by omega, ?_, hB, fun r H1 r0 r1 f1 B1 => ?_⟩
    · exact Nat.lt_of_lt_of_le (show (xs.length : Int).natAbs < 2 ^ 10 by omega) (Nat.pow_le_pow_right (by decide) (by decide))
    have hi : r.toNat < xs.length := by omega
    refine ⟨l, xs, r, xs[r.toNat], rfl, rfl, SqL.of (f1 _ _ hne hl), ?_, k r.toNat _ H1 (List.getElem?_eq_getElem hi) f1 B1 |>.h⟩
    have e : r = ((r.toNat : Nat) : Int) := by omega
    have hx : xs[r.toNat]? = some xs[r.toNat] := List.getElem?_eq_getElem hi
    exact (congrArg (atI xs) e).trans (atI_nat hx)
theorem Drw.badLl (T : Txt K mg A) {H : Hp} {l : Int} {v : V} {t : Str} (h : Drw K H v t) (n : ∀ i : Int, v = .int i → ¬ Short i ∨ i < l) : BadL K A H l v := by
  by_cases q : ∃ i : Int, v = .int i ∧ Short i
  · obtain ⟨i, rfl, s⟩ := q
    exact .inr ⟨i, rfl, s, (n i rfl).resolve_left fun z => z s⟩
  · exact .inl (h.bad T fun i e s => q ⟨i, e, s⟩)
/- what the word for an error is told from -/
def Emet (A : Ad) (K : PySem.W.Frag) (Q : VK) : XK := fun cls d H => (cls = .ref A.a_InvalidOperation ∧ Q (.str "operation") H) ∨
  (cls = .ref A.a_InvalidNumber ∧ ∃ e v t, d = some e ∧ H e = some (.xd [("given", v)]) ∧ Shw K H v t ∧ (Str.ofString "number ").length + t.length ≤ sizeLine ∧ Q (.str (Str.ofString "number " ++ t)) H)
def TT__law_called (A : Ad) (K : PySem.W.Frag) : (XK → Hp → VK → Prop) → Hp → VK → Prop := fun tl H Q => tl (Emet A K Q) H (fun _ H1 => Q (.str "") H1)
theorem met__law_called (T : Txt K mg A) : MetOk PW w K mg base 11 "_law_called" s__law_called A.f__law_called n__law_called "_law_call" (TT__law_called A K) := by
  intro cdv Ar outer s H Q v Hold tl hr hg act hold h
  have hu := hu_of hr
  refine ⟨_, (pss_cons (ps_try_mix rfl (fun W pn xe tk _ => pss_one (ps_act (fun E hW => act W pn xe E _ _ tk hW))) rfl
        (hs_plain rfl ⟨rfl, by decide, .inl T.m_InvalidOperation⟩ (fun a oe cls d pn hz hf => (pss_one (ps_ret pe_str)))
        (hs_named (i := 1) rfl sc__law_called.nd rfl rfl ⟨rfl, by decide, .inl T.m_InvalidNumber⟩ (fun a oe cls d pn hz hf => (pss_one (ps_ret (pe_op op_add_str pe_str (pe_callB (show CallR _ (.builtin "repr") (rShw K) from call_reprA hg hr.units) (by rfl) T.b_repr (by decide +kernel) (pa_cons (pe_xf T.s_InvalidNumber.xf T.s_InvalidNumber.noN hz hf (pv 1)) pa_nil))))))
        (hs_nil rfl rfl L2.takes0))))
      (pss_one (ps_ret pe_str))), ?_⟩
  refine ⟨_, ?_, rfl, hold, h⟩
  rintro cls d σ' H' hl' (⟨rfl, k⟩ | ⟨rfl, e, v, t, rfl, g, hv, hl, k⟩)
  · exact ⟨true, T.e_InvalidOperation_InvalidOperation, fun _ a _ => k, nofun⟩
  · refine ⟨false, T.e_InvalidNumber_InvalidOperation, nofun, fun _ => ⟨true, T.e_InvalidNumber_InvalidNumber, fun _ a _ => ?_, nofun⟩⟩
    exact ⟨.ref a, by rw [List.getElem?_set_self]; exact show 1 < σ'.length by rw [hl']; decide, rfl, rfl, e, _, v, rfl, g, rfl, v, t, rfl, hv, _, _, rfl, rfl, hl, k⟩
section
variable {σ : L2.St} {H : Hp} {tt : XK → TE}
theorem run_num {v : V} {t : Str} (D : Drw K H v t) (hl : (Str.ofString "number ").length + t.length ≤ sizeLine) (h : ∀ (E : XK) (H1 : Hp) (Q : VK), Same H H1 → RaisesN A E H1 v → tt E σ H1 Q) : Runs (TT__law_called A K) tt σ H (Str.ofString "number " ++ t) :=
  fun H1 s1 Q q => h _ H1 _ s1 (fun H' d s n => .inr ⟨rfl, d, v, t, rfl, upd_same, (D.same (s1.trans (s.trans (same_new n)))).shw, hl, q _ (s.trans (same_new n))⟩)
theorem run_op (h : ∀ (E : XK) (H1 : Hp) (Q : VK), Same H H1 → (∀ H', Same H1 H' → E (.ref A.a_InvalidOperation) none H') → tt E σ H1 Q) : Runs (TT__law_called A K) tt σ H "operation" :=
  fun H1 s1 Q q => h _ H1 _ s1 (fun H' s => .inl ⟨rfl, q _ s⟩)
theorem run_fine (h : ∀ (E : XK) (H1 : Hp) (Q : VK), Same H H1 → (∀ v H2, Same H1 H2 → Q v H2) → tt E σ H1 Q) : Runs (TT__law_called A K) tt σ H "" :=
  fun H1 s1 Q q => h _ H1 _ s1 (fun v H2 s => q _ s)
end
end
end Tk

set_option maxHeartbeats 16000000
namespace Tk
open PySem PySem.Spec PyProof.Rows L2 Tc LamX
section
variable {w : World} {K : PySem.W.Frag} {mg : Str → Option Value} {base : Heap} {A : Ad}
open Tm
local macro_rules | `(tactic| walk_at "arr") => `(tactic| first
  | with_reducible assumption
  | ((with_reducible apply same_new); with_reducible assumption))
local macro_rules | `(tactic| walk_at "f") => `(tactic| first
  | with_reducible assumption
  | with_reducible exact upd_same
  | with_reducible exact Same.refl _
  | with_reducible exact Frm.refl
  | ((with_reducible apply sqL_K); (focus with_reducible assumption); rfl)
  | ((with_reducible apply sqT_K); (focus with_reducible assumption); rfl)
  | ((with_reducible apply SqT.of); walk_at "f")
  | ((with_reducible apply SqL.of); walk_at "f")
  | ((with_reducible apply back_raw); (focus walk_at "arr"); walk_at "f")
  | ((with_reducible apply frm_tup); (focus with_reducible assumption); (focus walk_at "f"); (focus walk_at "f"); (focus (intro _ z; cases z; done)))
  | ((with_reducible apply frm_raw); (focus with_reducible assumption); (focus walk_at "f"); walk_at "f")
  | ((with_reducible apply bowl_back); (focus walk_at "arr"); walk_at "f")
  | ((with_reducible apply bowl_ne); (focus with_reducible assumption); walk_at "f")
  | ((with_reducible apply Num.int); with_reducible assumption)
  | ((with_reducible apply same_snoc); (focus walk_at "arr"); walk_at "f")
  | ((with_reducible apply frm_back); (focus walk_at "arr"); walk_at "f")
  | ((with_reducible apply frm_backF); (focus with_reducible assumption); walk_at "f")
  | ((with_reducible apply back_sqT); (focus walk_at "arr"); walk_at "f")
  | ((with_reducible apply same_sqL); (focus walk_at "arr"); walk_at "f")
  | ((with_reducible apply free_same); (focus with_reducible assumption); walk_at "f")
  | ((with_reducible apply free_frm); (focus with_reducible assumption); (focus with_reducible assumption); walk_at "f")
  | ((with_reducible apply frm_sqL); (focus with_reducible assumption); (focus walk_at "f"); walk_at "f"))
local macro_rules | `(tactic| walk_at "bt") => `(tactic| first
  | with_reducible assumption
  | ((with_reducible apply bt_mul); (focus walk_at "bt"); walk_at "bt")
  | ((with_reducible apply bt_add); (focus walk_at "bt"); walk_at "bt")
  | ((with_reducible apply bt_sub); (focus walk_at "bt"); walk_at "bt")
  | ((with_reducible apply bt_neg); walk_at "bt")
  | ((with_reducible apply bt_div); walk_at "bt")
  | ((with_reducible apply bt_mod); (focus (first | assumption | omega)); walk_at "bt")
  | exact bt_lit (n := 64) (by decide)
  | exact bt_lit (n := 200) (by decide +kernel))
local macro_rules | `(tactic| walk_at "lin") => `(tactic| first
  | exact (by decide : 1 ≤ sizeLine) | exact (by decide : 2 ≤ sizeLine) | exact (by decide : 3 ≤ sizeLine) | exact (by decide : 4 ≤ sizeLine) | exact (by decide : 0 ≤ sizeLine) | exact (by decide : 5 ≤ sizeLine) | exact (by decide : 6 ≤ sizeLine))
local macro_rules | `(tactic| walk_at "dp") => `(tactic| first
  | exact Dp.int _
  | exact DpAll.nil
  | ((with_reducible apply Dp.lst); (focus walk_at "f"); walk_at "dp")
  | ((with_reducible apply Dp.tup); (focus walk_at "f"); walk_at "dp")
  | ((with_reducible apply DpAll.cons); (focus walk_at "dp"); walk_at "dp"))
local macro_rules | `(tactic| walk_at "sv") => `(tactic| first
  | with_reducible rfl
  | walk_at "f"
  | exact rfl
  | walk_at "dp"
  | exact shp_lst [_] | exact shp_lst [_, _] | exact shp_lst [_, _, _] | exact shp_lst [_, _, _, _] | exact shp_tup [_, _] | exact shp_tup [_, _, _]
  | ((apply tyV_lst); walk_at "f")
  | ((with_reducible apply bt_mulW); (focus walk_at "bt"); (focus walk_at "bt"); (focus (first | decide | omega)))
  | ((with_reducible apply bt_divW); (focus (first | decide | assumption | omega)); (focus walk_at "bt"); (focus (first | decide | omega)))
  | ((with_reducible apply bt_divP); (focus (first | decide | assumption | omega)); (focus walk_at "bt"); (focus (first | decide | omega)))
  | exact ⟨by decide, by decide +kernel⟩
  | exact Or.inl (by decide)
  | exact Or.inr (by decide)
  | exact Or.inl ⟨by omega, by omega⟩
  | exact Or.inr ⟨by omega, by omega⟩
  | ((with_reducible apply Or.inl); walk_at "sv")
  | ((with_reducible apply Or.inr); walk_at "sv")
  | ((with_reducible apply Exists.intro); walk_at "sv")
  | ((with_reducible apply And.intro); (focus walk_at "sv"); walk_at "sv")
  | walk_at "lin"
  | decide
  | omega
  | (simp only [List.length_cons, List.length_nil, List.length_map]; first | done | omega))
local macro_rules | `(tactic| walk_at "one") => `(tactic| first
  | ((fail_if_success refine' @Exists.intro (Nat → L2.St → Hp → Prop) _ ?_ ?_); (fail_if_success refine' @Exists.intro (Nat → Nat → L2.St → Hp → Prop) _ ?_ ?_); (fail_if_success refine' @Exists.intro (L2.St → Hp → Prop) _ ?_ ?_); (fail_if_success refine' @Exists.intro (Nat → Nat → Hp → Prop) _ ?_ ?_); (fail_if_success refine' @Exists.intro (Hp → Prop) _ ?_ ?_); apply Exists.intro)
  | (apply And.intro; (focus walk_at "sv"))
  | intro _
  | (apply ifT; (focus rfl))
  | (apply ifF; (focus rfl))
  | ((apply Or.inl); (apply Exists.intro); (apply And.intro); (focus exact rfl))
  | ((apply Or.inl); (apply And.intro); (focus walk_at "f"))
  | ((apply Or.inr); (apply Exists.intro); (apply And.intro); (focus exact rfl))
  | (apply ifTd; (focus (first | assumption | omega)))
  | (apply ifFd; (focus (first | assumption | omega))))
local macro_rules | `(tactic| walk_at "go") => `(tactic| repeat walk_at "one")
local macro_rules | `(tactic| walk_at "nm") => `(tactic| try simp only [List.set_cons_zero, List.set_cons_succ])
local macro_rules | `(tactic| walk_at "gon") => `(tactic| repeat (walk_at "one"; walk_at "nm"))
theorem tif_c {a b : Str} {c : Prop} [Decidable c] {σ : L2.St} {H : Hp} {Q : VK} (h : Q (.str (if c then a else b)) H) : if decide c = true then L2.tC (.str a) σ H Q else L2.tC (.str b) σ H Q := by
  by_cases hc : c
  · rw [if_pos (decide_eq_true hc)]
    rw [if_pos hc] at h
    exact h
  · rw [if_neg (by simpa using hc)]
    rw [if_neg hc] at h
    exact h
theorem Drw.far {H : Hp} {v : V} {t : Str} {n : Int} (h : Drw K H v t) (z : ∀ i : Int, v = .int i → ¬ Short i ∨ i < 0 ∨ n ≤ i) : NoNum K H v ∨ ∃ x : Int, v = .int x ∧ Short x ∧ (x < 0 ∨ n ≤ x) := by
  by_cases q : ∃ i : Int, v = .int i ∧ Short i
  · obtain ⟨i, rfl, s⟩ := q
    exact .inr ⟨i, rfl, s, (z i rfl).resolve_left fun z => z s⟩
  · exact .inl (h.nn fun i e s => q ⟨i, e, s⟩)
theorem and_in {r : R2} {ta tb tc : TE} {σ : L2.St} {H : Hp} {Q : VK} (h : ta σ H fun x H1 => tb σ H1 fun y H2 => r x y H2 fun z H3 => ∃ c, z = .bl c ∧ if c = true then tc σ H3 Q else Q (.bl false) H3) : tAndV (tOp r ta tb) tc σ H Q := h
theorem mk_same {H : Hp} {p dx : Addr} {o o' : HO} (np : H p = none) (nd : H dx = none) : Same H (upd (upd H dx o) p o') := fun b u e => by
  rw [upd_ne (ne_of_none e np), upd_ne (ne_of_none e nd)]
  exact e
theorem RaisesN.later {E : XK} {H H1 : Hp} {v : V} (e : RaisesN A E H v) (s : Same H H1) : RaisesN A E H1 v := fun H' d s' n => e H' d (s.trans s') n
theorem ifs_in {r : R2} {ta tb : TE} {t u : TS} {D : Ends} {σ : L2.St} {H : Hp} (h : ta σ H fun x H1 => tb σ H1 fun y H2 => r x y H2 fun z H3 => ∃ k, z = .bl k ∧ (if k = true then t D σ H3 else u D σ H3)) : tIfS (tTest (tOp r ta tb)) t u D σ H := h
theorem frm_of {a : Addr} {H H' : Hp} (s : Same H H') : Frm a H H' := fun b o _ g => s b o g
theorem bowl_same {H H' : Hp} {a : Addr} (B : Bowl H a) (s : Same H H') : Bowl H' a := by
  obtain ⟨x, y, z, g⟩ := B
  exact ⟨x, y, z, s _ _ g⟩
/- values that are no rows of quotients -/
inductive Ro (H : Hp) : V → Prop
  | non : Ro H .non
  | int (i : Int) : Ro H (.int i)
  | lst (p : Addr) (xs : List V) (g : H p = some (.lst xs)) : Ro H (.ref p)
  | tup (p : Addr) (g : H p = some (.tup [])) : Ro H (.ref p)
  | dK (p : Addr) (g : H p = some (.dK [])) : Ro H (.ref p)
  | one (p : Addr) (x : V) (g : H p = some (.tup [x])) (hx : (∃ b, x = .bl b) ∨ ∃ s, x = .str s) : Ro H (.ref p)
  | row (p : Addr) (qs : List Int) (g : H p = some (.tup (qs.map V.int))) (l0 : 1 ≤ qs.length) (l1 : qs.length ≤ 300) (hs : ∀ q ∈ qs, Short q) (hb : (∃ q ∈ qs, ¬ q.natAbs < 10 ^ 12) ∨ ((∀ q ∈ qs, q.natAbs < 10 ^ 12) ∧ ∃ q ∈ qs.drop 1, q < 1) ∨ ((∀ q ∈ qs, q.natAbs < 10 ^ 12) ∧ (∀ q ∈ qs.drop 1, 1 ≤ q) ∧ 2 ≤ qs.length ∧ qs.getLast?.getD 0 < 2)) : Ro H (.ref p)
theorem Ro.to {H H' : Hp} {v : V} (h : Ro H v) (e : ∀ p o, v = .ref p → H p = some o → (∀ ps, o ≠ .tbl ps) → H' p = some o) : Ro H' v := by
  cases h with
  | non => exact .non
  | int i => exact .int i
  | lst p xs g => exact .lst p xs (e _ _ rfl g (fun _ z => nomatch z))
  | tup p g => exact .tup p (e _ _ rfl g (fun _ z => nomatch z))
  | dK p g => exact .dK p (e _ _ rfl g (fun _ z => nomatch z))
  | one p x g hx => exact .one p x (e _ _ rfl g (fun _ z => nomatch z)) hx
  | row p qs g l0 l1 hs hb => exact .row p qs (e _ _ rfl g (fun _ z => nomatch z)) l0 l1 hs hb
theorem Ro.same {H H' : Hp} {v : V} (h : Ro H v) (s : Same H H') : Ro H' v := h.to fun p o _ g _ => s _ _ g
theorem Ro.norow {H : Hp} {v : V} (h : Ro H v) : NoRow K H v := by
  cases h with
  | non => exact .inl (.inl ⟨_, .base .non, kit_ty (by decide +kernel)⟩)
  | int i => exact .inl (.inl ⟨_, .base (.int i), kit_ty (by decide +kernel)⟩)
  | lst p xs g => exact .inl (.inl ⟨_, .base (.lst g), kit_ty (by decide +kernel)⟩)
  | tup p g => exact .inl (.inr ⟨p, rfl, g⟩)
  | dK p g => exact .inl (.inl ⟨_, .base (.dK g), kit_ty (by decide +kernel)⟩)
  | one p x g hx =>
    refine .inr (.inl ⟨p, x, rfl, g, fun H' s => ?_⟩)
    rcases hx with ⟨b, rfl⟩ | ⟨t, rfl⟩
    · exact .inr (.inl ⟨b, rfl⟩)
    · exact .inr (.inr ⟨_, .base (.str t), kit_ty (by decide +kernel)⟩)
  | row p qs g l0 l1 hs hb => exact .inr (.inr ⟨p, qs, rfl, g, l0, l1, hs, hb⟩)
def Rx (a : Addr) (H : Hp) (v : V) : Prop := Ro H v ∧ v ≠ .ref a
theorem Rx.frm {a : Addr} {H H' : Hp} {v : V} (h : Rx a H v) (s : Frm a H H') : Rx a H' v := ⟨h.1.to fun p o e g _ => s _ _ (fun z => h.2 (by rw [e, z])) g, h.2⟩
theorem Rx.same {a : Addr} {H H' : Hp} {v : V} (h : Rx a H v) (s : Same H H') : Rx a H' v := ⟨h.1.same s, h.2⟩
theorem Rx.extN {a : Addr} {H H' : Hp} {v : V} (h : Rx a H v) (x : ExtN H H') : Rx a H' v := ⟨h.1.to fun p o _ g q => x _ _ g q, h.2⟩
theorem Rx.toL {a : Addr} {H H' : Hp} {l : Addr} {o : HO} {v : V} (h : Rx a H v) (nl : H l = none) (x : ExtL l (upd H l o) H') : Rx a H' v := ⟨h.1.to fun p q e g nt => by
  have ne : p ≠ l := fun z => by
    rw [z, nl] at g
    cases g
  exact x _ _ ne (by rw [upd_ne ne]; exact g) nt, h.2⟩
theorem LadAt.to {C : Addr} {H H' : Hp} {p : Addr} {a b : Int} (L : LadAt C H p a b) (e : ∀ c o, H c = some o → (∀ xs, o ≠ .lst xs) → (∀ ps, o ≠ .tbl ps) → H' c = some o) : LadAt C H' p a b := by
  obtain ⟨h1, h2, h3, dx, q, r, g1, g2, g3⟩ := L
  exact ⟨h1, h2, h3, dx, q, r, e _ _ g1 (fun _ z => nomatch z) (fun _ z => nomatch z), e _ _ g2 (fun _ z => nomatch z) (fun _ z => nomatch z), e _ _ g3 (fun _ z => nomatch z) (fun _ z => nomatch z)⟩
theorem LadAt.sameL {C : Addr} {H H' : Hp} {p : Addr} {a b : Int} (L : LadAt C H p a b) (s : Same H H') : LadAt C H' p a b := L.to fun c o g _ _ => s _ _ g
theorem LadAt.frmL {C : Addr} {H H' : Hp} {p l : Addr} {a b : Int} (L : LadAt C H p a b) (B : Bowl H l) (s : Frm l H H') : LadAt C H' p a b := L.to fun c o g n _ => s _ _ (fun z => by
  obtain ⟨x, y, w, q⟩ := B
  rw [z, q] at g
  exact n _ (Option.some.inj g).symm) g
theorem LadAt.extNL {C : Addr} {H H' : Hp} {p : Addr} {a b : Int} (L : LadAt C H p a b) (x : ExtN H H') : LadAt C H' p a b := L.to fun c o g _ t => x _ _ g t
theorem LadAt.toLL {C : Addr} {H H' : Hp} {p l : Addr} {o : HO} {a b : Int} (L : LadAt C H p a b) (nl : H l = none) (x : ExtL l (upd H l o) H') : LadAt C H' p a b := L.to fun c q g _ t => by
  have ne : c ≠ l := fun z => by
    rw [z, nl] at g
    cases g
  exact x _ _ ne (by rw [upd_ne ne]; exact g) t
theorem big61 : ¬ Short (10 ^ 61) := fun h => absurd h.2 (by decide +kernel)
theorem txt_len : ∀ n : Nat, n < 1001 → (((toString (n : Int) : String) : Str).length ≤ 100 ∧ PyData.strOk ((toString (n : Int) : String) : Str) = true) := by decide +kernel
def sp__law_right (A : Ad) (K : PySem.W.Frag) : Sp := fun vs H Q _ => ∃ a : Addr, vs = [.ref a] ∧ Bowl H a ∧ Tabs (TL A) H ∧ ∀ H', ExtL a H H' → Bowl H' a → Tabs (TL A) H' → Q (.bl true) H'
theorem ok__law_right (T : Txt K mg A) (hB__law_right : TabB base mg A.cd__law_right A.tb__law_right) (hB_law : TabB base mg A.cd_law A.tb_law) : FnG PW w K mg base CX0 13 A.f__law_right A.d__law_right ["_law_bowl_here"] (sp__law_right A K) := by
  refine okL T.L__law_right sc__law_right (fun vs H Q E h => ?_) (fun Ar outer s H vs Q E hr hg h => ?_)
  · obtain ⟨a, rfl, _⟩ := h
    rfl
  · obtain ⟨a, rfl, hB, hT, k⟩ := h
    have hu := hu_of hr
    refine ⟨_, (pss_cons (ps_asg (pe_call (ok__law_pair T) (hr.mono (by decide)) rfl T.m__law_pair T.F__law_pair.kp T.b__law_pair .nil pass0 (pa_cons (pv 0) pa_nil)) (pg_lst rfl (pgs_cons (pg_name (i := 1) sc__law_right.nd rfl (Or.inr rfl)) (pgs_cons (pg_name (i := 2) sc__law_right.nd rfl (Or.inr rfl)) pgs_nil))))
      (pss_cons (ps_set (i := 3) sc__law_right.nd rfl (Or.inr rfl) (pe_call (ok__law_one_of T) (hr.mono (by decide)) rfl T.m__law_one_of T.F__law_one_of.kp T.b__law_one_of .nil pass0 (pa_cons (pv 0) (pa_cons (pe_lst (pa_cons pe_non (pa_cons pe_bl (pa_cons pe_bl (pa_cons pe_str (pa_cons (pe_tup (pa_cons pe_int pa_nil)) (pa_cons (pe_lst pa_nil) (pa_cons pe_dnewK (pa_cons (pe_op op_powX pe_int pe_int) (pa_cons (pe_op op_sub pe_int (pe_op op_powX pe_int pe_int)) (pa_cons (pe_op op_powX pe_int pe_int) pa_nil))))))))))) pa_nil))))
      (pss_cons (ps_set (i := 4) sc__law_right.nd rfl (Or.inr rfl) (pe_call (ok__law_one_of T) (hr.mono (by decide)) rfl T.m__law_one_of T.F__law_one_of.kp T.b__law_one_of .nil pass0 (pa_cons (pv 0) (pa_cons (pe_lst (pa_cons pe_non (pa_cons pe_int (pa_cons (pe_un un_neg pe_int) (pa_cons pe_bl (pa_cons pe_str (pa_cons (pe_tup (pa_cons pe_int pa_nil)) (pa_cons (pe_lst pa_nil) (pa_cons pe_dnewK (pa_cons (pe_op op_powX pe_int pe_int) pa_nil)))))))))) pa_nil))))
      (pss_cons (ps_set (i := 5) sc__law_right.nd rfl (Or.inr rfl) (pe_make T.mk_Ladder (oky_Ladder___init__ T) (hr.mono (by decide)) rfl T.m_Ladder T.b_Ladder___init__ .nil passL (pa_cons (pv 1) (pa_cons (pv 2) pa_nil))))
      (pss_cons (ps_set (i := 6) sc__law_right.nd rfl (Or.inr rfl) (pe_call (ok__law_one_of T) (hr.mono (by decide)) rfl T.m__law_one_of T.F__law_one_of.kp T.b__law_one_of .nil pass0 (pa_cons (pv 0) (pa_cons (pe_lst (pa_cons pe_non (pa_cons (pe_un un_neg pe_int) (pa_cons (pe_callB (call_lenOwn (ok_Ladder___len__ T) T.ln_Ladder T.lf_Ladder T.b_Ladder___len__ pass0 (hr.mono (by decide))) (by rfl) T.b_len (by decide +kernel) (pa_cons (pv 5) pa_nil)) (pa_cons pe_bl (pa_cons pe_bl (pa_cons pe_str (pa_cons (pe_tup (pa_cons pe_int pa_nil)) (pa_cons (pe_lst pa_nil) (pa_cons pe_dnewK (pa_cons (pe_op op_powX pe_int pe_int) pa_nil))))))))))) pa_nil))))
      (pss_cons (ps_set (i := 7) sc__law_right.nd rfl (Or.inr rfl) (pe_call (ok__law_one_of T) (hr.mono (by decide)) rfl T.m__law_one_of T.F__law_one_of.kp T.b__law_one_of .nil pass0 (pa_cons (pv 0) (pa_cons (pe_lst (pa_cons pe_non (pa_cons pe_int (pa_cons (pe_tup pa_nil) (pa_cons (pe_lst (pa_cons pe_int pa_nil)) (pa_cons (pe_tup (pa_cons pe_int (pa_cons pe_int pa_nil))) (pa_cons (pe_tup (pa_cons pe_int (pa_cons pe_int pa_nil))) (pa_cons (pe_tup (pa_cons pe_bl pa_nil)) (pa_cons (pe_tup (pa_cons pe_str pa_nil)) (pa_cons pe_dnewK (pa_cons (pe_tup (pa_cons pe_int (pa_cons pe_int (pa_cons pe_int pa_nil)))) (pa_cons (pe_tup (pa_cons (pe_op op_powX pe_int pe_int) pa_nil)) (pa_cons (pe_tup (pa_cons pe_int (pa_cons (pe_un un_neg pe_int) pa_nil))) pa_nil))))))))))))) pa_nil))))
      (pss_cons (ps_set (i := 8) sc__law_right.nd rfl (Or.inl rfl) (pe_lst (pa_cons (pe_lamV (k := 10) (T := TL A) hB__law_right rfl (mT__law_right A) (hu__law_right T) (lamS_by (show lamSB (defScope s__law_right) _ = true by decide +kernel)) rfl (fun _ _ _ => rfl) (fun _ _ _ _ _ _ _ hr => (pe_make T.mk_Ladder (oky_Ladder___init__ T) (hr.mono (by decide)) rfl T.m_Ladder T.b_Ladder___init__ .nil (passes_call (takes_of rfl rfl rfl rfl) (fun _ _ _ _ h => h)) (pa_cons (pv 3) (pa_cons (pv 4) pa_nil))))) pa_nil)))
      (pss_cons (ps_expr (pe_bm PySem.F.plainAttrs_list PySem.F.slot_list_append PySem.F.type_list_append mt_append (pv 8) (pa_cons (pe_lamV (k := 10) (T := TL A) hB__law_right rfl (mT__law_right A) (hu__law_right T) (lamS_by (show lamSB (defScope s__law_right) _ = true by decide +kernel)) rfl (fun _ _ _ => rfl) (fun _ _ _ _ _ _ _ hr => (pe_make T.mk_Ladder (oky_Ladder___init__ T) (hr.mono (by decide)) rfl T.m_Ladder T.b_Ladder___init__ .nil (passes_call (takes_of rfl rfl rfl rfl) (fun _ _ _ _ h => h)) (pa_cons (pv 1) (pa_cons (pv 4) pa_nil))))) pa_nil)))
      (pss_cons (ps_expr (pe_bm PySem.F.plainAttrs_list PySem.F.slot_list_append PySem.F.type_list_append mt_append (pv 8) (pa_cons (pe_lamV (k := 10) (T := TL A) hB__law_right rfl (mT__law_right A) (hu__law_right T) (lamS_by (show lamSB (defScope s__law_right) _ = true by decide +kernel)) rfl (fun _ _ _ => rfl) (fun _ _ _ _ _ _ _ hr => (pe_call (okx_common_factor T) (hr.mono (by decide)) rfl T.m_common_factor T.F_common_factor.kp T.b_common_factor .nil (passes_call (takes_of rfl rfl rfl rfl) (fun _ _ _ _ h => h)) (pa_cons (pv 3) (pa_cons (pv 4) pa_nil))))) pa_nil)))
      (pss_cons (ps_expr (pe_bm PySem.F.plainAttrs_list PySem.F.slot_list_append PySem.F.type_list_append mt_append (pv 8) (pa_cons (pe_lamV (k := 10) (T := TL A) hB__law_right rfl (mT__law_right A) (hu__law_right T) (lamS_by (show lamSB (defScope s__law_right) _ = true by decide +kernel)) rfl (fun _ _ _ => rfl) (fun _ _ _ _ _ _ _ hr => (pe_call (okx_common_factor T) (hr.mono (by decide)) rfl T.m_common_factor T.F_common_factor.kp T.b_common_factor .nil (passes_call (takes_of rfl rfl rfl rfl) (fun _ _ _ _ h => h)) (pa_cons (pv 1) (pa_cons (pv 4) pa_nil))))) pa_nil)))
      (pss_cons (ps_expr (pe_bm PySem.F.plainAttrs_list PySem.F.slot_list_append PySem.F.type_list_append mt_append (pv 8) (pa_cons (pe_lamV (k := 10) (T := TL A) hB__law_right rfl (mT__law_right A) (hu__law_right T) (lamS_by (show lamSB (defScope s__law_right) _ = true by decide +kernel)) rfl (fun _ _ _ => rfl) (fun _ _ _ _ _ _ _ hr => (pe_call (oky_inverse_of T) (hr.mono (by decide)) rfl T.m_inverse_of T.F_inverse_of.kp T.b_inverse_of .nil (passes_call (takes_of rfl rfl rfl rfl) (fun _ _ _ _ h => h)) (pa_cons (pv 3) (pa_cons (pv 4) pa_nil))))) pa_nil)))
      (pss_cons (ps_expr (pe_bm PySem.F.plainAttrs_list PySem.F.slot_list_append PySem.F.type_list_append mt_append (pv 8) (pa_cons (pe_lamV (k := 10) (T := TL A) hB__law_right rfl (mT__law_right A) (hu__law_right T) (lamS_by (show lamSB (defScope s__law_right) _ = true by decide +kernel)) rfl (fun _ _ _ => rfl) (fun _ _ _ _ _ _ _ hr => (pe_call (oky_inverse_of T) (hr.mono (by decide)) rfl T.m_inverse_of T.F_inverse_of.kp T.b_inverse_of .nil (passes_call (takes_of rfl rfl rfl rfl) (fun _ _ _ _ h => h)) (pa_cons (pv 1) (pa_cons (pv 4) pa_nil))))) pa_nil)))
      (pss_cons (ps_expr (pe_bm PySem.F.plainAttrs_list PySem.F.slot_list_append PySem.F.type_list_append mt_append (pv 8) (pa_cons (pe_lamV (k := 10) (T := TL A) hB__law_right rfl (mT__law_right A) (hu__law_right T) (lamS_by (show lamSB (defScope s__law_right) _ = true by decide +kernel)) rfl (fun _ _ _ => rfl) (fun _ _ _ _ _ _ _ hr => (pe_call (okx_are_coprime T) (hr.mono (by decide)) rfl T.m_are_coprime T.F_are_coprime.kp T.b_are_coprime .nil (passes_call (takes_of rfl rfl rfl rfl) (fun _ _ _ _ h => h)) (pa_cons (pv 3) (pa_cons (pv 4) pa_nil))))) pa_nil)))
      (pss_cons (ps_expr (pe_bm PySem.F.plainAttrs_list PySem.F.slot_list_append PySem.F.type_list_append mt_append (pv 8) (pa_cons (pe_lamV (k := 10) (T := TL A) hB__law_right rfl (mT__law_right A) (hu__law_right T) (lamS_by (show lamSB (defScope s__law_right) _ = true by decide +kernel)) rfl (fun _ _ _ => rfl) (fun _ _ _ _ _ _ _ hr => (pe_call (okx_are_coprime T) (hr.mono (by decide)) rfl T.m_are_coprime T.F_are_coprime.kp T.b_are_coprime .nil (passes_call (takes_of rfl rfl rfl rfl) (fun _ _ _ _ h => h)) (pa_cons (pv 1) (pa_cons (pv 4) pa_nil))))) pa_nil)))
      (pss_cons (ps_par (i := 9) (j := 10) (by rfl) sc__law_right.nd rfl rfl (by decide) rfl rfl (pa_cons (pe_op op_add_str pe_str (pe_callB (show CallR _ (.builtin "repr") (rShw K) from call_reprA hg hr.units) (by rfl) T.b_repr (by decide +kernel) (pa_cons (pv 3) pa_nil))) (pa_cons (pe_op op_add_str pe_str (pe_callB (show CallR _ (.builtin "repr") (rShw K) from call_reprA hg hr.units) (by rfl) T.b_repr (by decide +kernel) (pa_cons (pv 4) pa_nil))) pa_nil)) (by rfl))
      (pss_cons (ps_if (pt_cmpR (show OpR _ (compareOp .NotEq) (rNeD K) from op_neD hr.units) (pe_lcL (own := [("_law_call", 11)]) (g := gName 11) rfl sc__law_right.nd (pi_list (pv 8)) (blkOk_by (own := [("_law_call", 11)]) (N := n__law_right) (sc := defScope s__law_right) (by decide +kernel)) (fun _ _ _ _ _ => pg_name (i := 11) sc__law_right.nd rfl (Or.inl rfl)) (fun _ _ _ _ _ _ _ J hfp => pe_metB J hfp T.F__law_called sc__law_called rfl (Or.inl rfl) (met__law_called T) T.b__law_called rfl T.m__law_called (hr.mono (by decide)) hg (pa_cons (pv 11) pa_nil))) (pe_op op_rep (pe_lst (pa_cons (pv 9) (pa_cons (pv 10) pa_nil))) pe_int) (nomark _))
        (pss_one (ps_ret pe_bl))
        pss_nil)
      (pss_cons (ps_set (i := 8) sc__law_right.nd rfl (Or.inl rfl) (pe_lst (pa_cons (pe_lamV (k := 10) (T := TL A) hB__law_right rfl (mT__law_right A) (hu__law_right T) (lamS_by (show lamSB (defScope s__law_right) _ = true by decide +kernel)) rfl (fun _ _ _ => rfl) (fun _ _ _ _ _ _ _ hr => (pe_meth (pv 5) T.c_Ladder T.me_Ladder_shifted (okx_Ladder_shifted T) (hr.mono (by decide)) T.b_Ladder_shifted .nil (passes_call (takes_of rfl rfl rfl rfl) (fun _ _ _ _ h => h)) (pa_cons (pv 3) pa_nil)))) pa_nil)))
      (pss_cons (ps_expr (pe_bm PySem.F.plainAttrs_list PySem.F.slot_list_append PySem.F.type_list_append mt_append (pv 8) (pa_cons (pe_lamV (k := 10) (T := TL A) hB__law_right rfl (mT__law_right A) (hu__law_right T) (lamS_by (show lamSB (defScope s__law_right) _ = true by decide +kernel)) rfl (fun _ _ _ => rfl) (fun _ _ _ _ _ _ _ hr => (pe_ixO T.ou_item (fun_in T.F_Ladder___getitem__) (okx_Ladder___getitem__ T) T.b_Ladder___getitem__ (passes_call (takes_of rfl rfl rfl rfl) (fun _ _ _ _ h => h)) (hr.mono (by decide)) (pv 5) (pv 6) (fun _ _ => rfl)))) pa_nil)))
      (pss_cons (ps_expr (pe_bm PySem.F.plainAttrs_list PySem.F.slot_list_append PySem.F.type_list_append mt_append (pv 8) (pa_cons (pe_lamV (k := 10) (T := TL A) hB__law_right rfl (mT__law_right A) (hu__law_right T) (lamS_by (show lamSB (defScope s__law_right) _ = true by decide +kernel)) rfl (fun _ _ _ => rfl) (fun _ _ _ _ _ _ _ hr => (pe_call (oky_pair_from T) (hr.mono (by decide)) rfl T.m_pair_from T.F_pair_from.kp T.b_pair_from .nil (passes_call (takes_of rfl rfl rfl rfl) (fun _ _ _ _ h => h)) (pa_cons (pv 7) pa_nil)))) pa_nil)))
      (pss_cons (ps_expr (pe_bm PySem.F.plainAttrs_list PySem.F.slot_list_append PySem.F.type_list_append mt_append (pv 8) (pa_cons (pe_lamV (k := 10) (T := TL A) hB__law_right rfl (mT__law_right A) (hu__law_right T) (lamS_by (show lamSB (defScope s__law_right) _ = true by decide +kernel)) rfl (fun _ _ _ => rfl) (fun _ _ _ _ _ _ _ hr => (pe_meth0 (pv 5) T.c_Ladder T.me_Ladder_exchanged (oky_Ladder_exchanged T) (hr.mono (by decide)) T.b_Ladder_exchanged .nil (passes_call (takes_of rfl rfl rfl rfl) (fun _ _ _ _ h => h))))) pa_nil)))
      (pss_cons (ps_expr (pe_bm PySem.F.plainAttrs_list PySem.F.slot_list_append PySem.F.type_list_append mt_append (pv 8) (pa_cons (pe_lamV (k := 10) (T := TL A) hB__law_right rfl (mT__law_right A) (hu__law_right T) (lamS_by (show lamSB (defScope s__law_right) _ = true by decide +kernel)) rfl (fun _ _ _ => rfl) (fun _ _ _ _ _ _ _ hr => (pe_call (oky_inverse_of T) (hr.mono (by decide)) rfl T.m_inverse_of T.F_inverse_of.kp T.b_inverse_of .nil (passes_call (takes_of rfl rfl rfl rfl) (fun _ _ _ _ h => h)) (pa_cons (pv 1) (pa_cons (pv 2) pa_nil))))) pa_nil)))
      (pss_cons (ps_set (i := 12) sc__law_right.nd rfl (Or.inl rfl) (pe_lst (pa_cons (pv 9) (pa_cons (pe_op op_add_str pe_str (pe_callB (show CallR _ (.builtin "repr") (rShw K) from call_reprA hg hr.units) (by rfl) T.b_repr (by decide +kernel) (pa_cons (pv 6) pa_nil))) (pa_cons pe_str (pa_cons (pe_ifExp (pt_cmpR op_lt (pv 1) pe_int (nomark _)) pe_str pe_str) pa_nil))))))
      (pss_cons (ps_expr (pe_bm PySem.F.plainAttrs_list PySem.F.slot_list_append PySem.F.type_list_append mt_append (pv 12) (pa_cons (pe_ifExp (pt_cmpR op_eq (pe_call (ok__law_common T) (hr.mono (by decide)) rfl T.m__law_common T.F__law_common.kp T.b__law_common .nil pass0 (pa_cons (pv 1) (pa_cons (pv 2) pa_nil))) pe_int (nomark _)) pe_str pe_str) pa_nil)))
      (pss_one (ps_ret (pe_and (pe_cmpR (show OpR _ (compareOp .Eq) (rEqD K) from op_eqD hr.units) (pe_lcL (own := [("_law_call", 11)]) (g := gName 11) rfl sc__law_right.nd (pi_list (pv 8)) (blkOk_by (own := [("_law_call", 11)]) (N := n__law_right) (sc := defScope s__law_right) (by decide +kernel)) (fun _ _ _ _ _ => pg_name (i := 11) sc__law_right.nd rfl (Or.inl rfl)) (fun _ _ _ _ _ _ _ J hfp => pe_metB J hfp T.F__law_called sc__law_called rfl (Or.inl rfl) (met__law_called T) T.b__law_called rfl T.m__law_called (hr.mono (by decide)) hg (pa_cons (pv 11) pa_nil))) (pv 12) (nomark _)) (pe_one (pe_cmpR (op_eqO T.eq_Ladder (ok_Ladder___eq__ T) T.b_Ladder___eq__ pass0 (hr.mono (by decide))) (pv 5) (pe_make T.mk_Ladder (oky_Ladder___init__ T) (hr.mono (by decide)) rfl T.m_Ladder T.b_Ladder___init__ .nil passL (pa_cons (pv 1) (pa_cons (pv 2) pa_nil))) (nomark _))))))))))))))))))))))))))))), ?_⟩
    have st : L2.start n__law_right [V.ref a] = [some (.ref a), none, none, none, none, none, none, none, none, none, none, none, none] := rfl
    rw [st]
    walk_at "go"
    rename_i pl x0 y0 HP npl fP BP gP hx hy hy9 p1B np1B p2B np2B p3B np3B
    obtain ⟨gzB, gsB, gnB, gaB⟩ := id BP
    have sp1B : Same HP (upd HP p1B (HO.tup [V.int 1])) := same_new np1B
    have Sp1B : Same HP (upd HP p1B (HO.tup [V.int 1])) := sp1B
    have dp1B : a ≠ p1B := ne_of_none gaB np1B
    have sp2B : Same (upd HP p1B (HO.tup [V.int 1])) (upd (upd HP p1B (HO.tup [V.int 1])) p2B (HO.lst [])) := same_new np2B
    have Sp2B : Same HP (upd (upd HP p1B (HO.tup [V.int 1])) p2B (HO.lst [])) := Sp1B.trans sp2B
    have dp2B : a ≠ p2B := ne_of_none (Sp1B _ _ gaB) np2B
    have sp3B : Same (upd (upd HP p1B (HO.tup [V.int 1])) p2B (HO.lst [])) (upd (upd (upd HP p1B (HO.tup [V.int 1])) p2B (HO.lst [])) p3B (HO.dK [])) := same_new np3B
    have Sp3B : Same HP (upd (upd (upd HP p1B (HO.tup [V.int 1])) p2B (HO.lst [])) p3B (HO.dK [])) := Sp2B.trans sp3B
    have dp3B : a ≠ p3B := ne_of_none (Sp2B _ _ gaB) np3B
    have gp1B : (upd (upd (upd HP p1B (HO.tup [V.int 1])) p2B (HO.lst [])) p3B (HO.dK [])) p1B = some (HO.tup [V.int 1]) := (sp3B _ _ (sp2B _ _ upd_same))
    have gp2B : (upd (upd (upd HP p1B (HO.tup [V.int 1])) p2B (HO.lst [])) p3B (HO.dK [])) p2B = some (HO.lst []) := (sp3B _ _ upd_same)
    have gp3B : (upd (upd (upd HP p1B (HO.tup [V.int 1])) p2B (HO.lst [])) p3B (HO.dK [])) p3B = some (HO.dK []) := upd_same
    have allB : ∀ y ∈ ([.non, .bl true, .bl false, .str "1", .ref p1B, .ref p2B, .ref p3B, .int (10 ^ 60), .int (0 - 10 ^ 60), .int (10 ^ 61)] : List V), Dr K a NoS (upd (upd (upd HP p1B (HO.tup [V.int 1])) p2B (HO.lst [])) p3B (HO.dK [])) y :=
      (fa_cons ⟨_, .non, by decide +kernel, (fun z => nomatch z), (fun _ z => nomatch z)⟩
      (fa_cons ⟨_, .bl _, by decide +kernel, (fun z => nomatch z), (fun _ z => nomatch z)⟩
      (fa_cons ⟨_, .bl _, by decide +kernel, (fun z => nomatch z), (fun _ z => nomatch z)⟩
      (fa_cons ⟨_, .str _ (by decide +kernel), by decide +kernel, (fun z => nomatch z), (fun _ z => nomatch z)⟩
      (fa_cons ⟨_, .tup _ [1] gp1B (by decide +kernel), by decide +kernel, fun z => dp1B (by injection z with z; exact z.symm), (fun _ z => nomatch z)⟩
      (fa_cons ⟨_, .lst _ [] gp2B (by decide +kernel), by decide +kernel, fun z => dp2B (by injection z with z; exact z.symm), (fun _ z => nomatch z)⟩
      (fa_cons ⟨_, .dK _ gp3B, by decide +kernel, fun z => dp3B (by injection z with z; exact z.symm), (fun _ z => nomatch z)⟩
      (fa_cons ⟨_, .int _ (by decide +kernel), by decide +kernel, (fun z => nomatch z), fun i e => by cases e; exact big60⟩
      (fa_cons ⟨_, .int _ (by decide +kernel), by decide +kernel, (fun z => nomatch z), fun i e => by cases e; exact neg60⟩
      (fa_cons ⟨_, .int _ (by decide +kernel), by decide +kernel, (fun z => nomatch z), fun i e => by cases e; exact big61⟩
      fa_nil))))))))))
    refine ⟨Nat.le_trans (m := 10) (Nat.le_of_eq rfl) (by decide +kernel), fun lB nlB => ?_⟩
    have slB : Same (upd (upd (upd HP p1B (HO.tup [V.int 1])) p2B (HO.lst [])) p3B (HO.dK [])) (upd (upd (upd (upd HP p1B (HO.tup [V.int 1])) p2B (HO.lst [])) p3B (HO.dK [])) lB (HO.lst [.non, .bl true, .bl false, .str "1", .ref p1B, .ref p2B, .ref p3B, .int (10 ^ 60), .int (0 - 10 ^ 60), .int (10 ^ 61)])) := same_new nlB
    have alB : a ≠ lB := ne_of_none (Sp3B _ _ gaB) nlB
    refine ⟨a, lB, _, rfl, bowl_same BP (Sp3B.trans slB), upd_same, alB.symm, Nat.zero_lt_succ _, Nat.le_trans (m := 10) (Nat.le_of_eq rfl) (by decide), fun iB vB HB eB fB BB => ?_⟩
    have DB := dr_get (fun y m => (allB y m).to (slB)) eB fB
    have FB : Frm a HP HB := (frm_of (Sp3B.trans slB)).trans fB
    clear allB
    refine ⟨?_⟩
    walk_at "go"
    rename_i p1L np1L p2L np2L p3L np3L
    obtain ⟨gzL, gsL, gnL, gaL⟩ := id BB
    have sp1L : Same HB (upd HB p1L (HO.tup [V.int 1])) := same_new np1L
    have Sp1L : Same HB (upd HB p1L (HO.tup [V.int 1])) := sp1L
    have dp1L : a ≠ p1L := ne_of_none gaL np1L
    have sp2L : Same (upd HB p1L (HO.tup [V.int 1])) (upd (upd HB p1L (HO.tup [V.int 1])) p2L (HO.lst [])) := same_new np2L
    have Sp2L : Same HB (upd (upd HB p1L (HO.tup [V.int 1])) p2L (HO.lst [])) := Sp1L.trans sp2L
    have dp2L : a ≠ p2L := ne_of_none (Sp1L _ _ gaL) np2L
    have sp3L : Same (upd (upd HB p1L (HO.tup [V.int 1])) p2L (HO.lst [])) (upd (upd (upd HB p1L (HO.tup [V.int 1])) p2L (HO.lst [])) p3L (HO.dK [])) := same_new np3L
    have Sp3L : Same HB (upd (upd (upd HB p1L (HO.tup [V.int 1])) p2L (HO.lst [])) p3L (HO.dK [])) := Sp2L.trans sp3L
    have dp3L : a ≠ p3L := ne_of_none (Sp2L _ _ gaL) np3L
    have gp1L : (upd (upd (upd HB p1L (HO.tup [V.int 1])) p2L (HO.lst [])) p3L (HO.dK [])) p1L = some (HO.tup [V.int 1]) := (sp3L _ _ (sp2L _ _ upd_same))
    have gp2L : (upd (upd (upd HB p1L (HO.tup [V.int 1])) p2L (HO.lst [])) p3L (HO.dK [])) p2L = some (HO.lst []) := (sp3L _ _ upd_same)
    have gp3L : (upd (upd (upd HB p1L (HO.tup [V.int 1])) p2L (HO.lst [])) p3L (HO.dK [])) p3L = some (HO.dK []) := upd_same
    have allL : ∀ y ∈ ([.non, .int (0), .int (-1), .bl true, .str "1", .ref p1L, .ref p2L, .ref p3L, .int (10 ^ 60)] : List V), Dr K a NoS1 (upd (upd (upd HB p1L (HO.tup [V.int 1])) p2L (HO.lst [])) p3L (HO.dK [])) y :=
      (fa_cons ⟨_, .non, by decide +kernel, (fun z => nomatch z), (fun _ z => nomatch z)⟩
      (fa_cons ⟨_, .int _ (by decide +kernel), by decide +kernel, (fun z => nomatch z), fun i e => by cases e; exact (.inr (by decide))⟩
      (fa_cons ⟨_, .int _ (by decide +kernel), by decide +kernel, (fun z => nomatch z), fun i e => by cases e; exact (.inr (by decide))⟩
      (fa_cons ⟨_, .bl _, by decide +kernel, (fun z => nomatch z), (fun _ z => nomatch z)⟩
      (fa_cons ⟨_, .str _ (by decide +kernel), by decide +kernel, (fun z => nomatch z), (fun _ z => nomatch z)⟩
      (fa_cons ⟨_, .tup _ [1] gp1L (by decide +kernel), by decide +kernel, fun z => dp1L (by injection z with z; exact z.symm), (fun _ z => nomatch z)⟩
      (fa_cons ⟨_, .lst _ [] gp2L (by decide +kernel), by decide +kernel, fun z => dp2L (by injection z with z; exact z.symm), (fun _ z => nomatch z)⟩
      (fa_cons ⟨_, .dK _ gp3L, by decide +kernel, fun z => dp3L (by injection z with z; exact z.symm), (fun _ z => nomatch z)⟩
      (fa_cons ⟨_, .int _ (by decide +kernel), by decide +kernel, (fun z => nomatch z), fun i e => by cases e; exact (.inl big60)⟩
      fa_nil)))))))))
    refine ⟨Nat.le_trans (m := 9) (Nat.le_of_eq rfl) (by decide +kernel), fun lL nlL => ?_⟩
    have slL : Same (upd (upd (upd HB p1L (HO.tup [V.int 1])) p2L (HO.lst [])) p3L (HO.dK [])) (upd (upd (upd (upd HB p1L (HO.tup [V.int 1])) p2L (HO.lst [])) p3L (HO.dK [])) lL (HO.lst [.non, .int (0), .int (-1), .bl true, .str "1", .ref p1L, .ref p2L, .ref p3L, .int (10 ^ 60)])) := same_new nlL
    have alL : a ≠ lL := ne_of_none (Sp3L _ _ gaL) nlL
    refine ⟨a, lL, _, rfl, bowl_same BB (Sp3L.trans slL), upd_same, alL.symm, Nat.zero_lt_succ _, Nat.le_trans (m := 9) (Nat.le_of_eq rfl) (by decide), fun iL vL HL eL fL BL => ?_⟩
    have DL := dr_get (fun y m => (allL y m).to (slL)) eL fL
    have FL : Frm a HB HL := (frm_of (Sp3L.trans slL)).trans fL
    clear allL
    have DB := DB.frm FL
    refine ⟨?_⟩
    have FT := (fP.trans FB).trans FL
    have sx : Short x0 := ⟨by omega, by omega⟩
    have sy : Short y0 := ⟨by omega, by omega⟩
    clear gP
    walk_at "go"
    rename_i lq dq nq ndq nnq
    have x4 : x0.natAbs < 2 ^ 400 := Nat.lt_of_lt_of_le (show x0.natAbs < 2 ^ 200 by omega) (Nat.pow_le_pow_right (by decide) (by decide))
    have y4 : y0 < 2 ^ 400 := Int.lt_of_lt_of_le hy9 (by decide +kernel)
    refine .inl ⟨_, _, _, _, x0, y0, rfl, upd_same, .int sx, .int sy, x4, y4, hy, fun H5 LD kp => ⟨rfl, ?_⟩⟩
    have s5 : Same HL H5 := made nq ndq kp
    have DB := DB.to s5
    have DL := DL.to s5
    have B5 := bowl_same BL s5
    have FT := FT.trans (frm_of s5)
    clear kp nq ndq nnq
    obtain ⟨dxl, fsl, gl0⟩ := LD.ins
    have lq9 := LD.small.1
    have lq7 : ((quos x0 y0).length : Int) < 2 ^ 63 := by omega
    have lq6 : (0 : Int) ≤ ((quos x0 y0).length : Int) := by omega
    have lq1 := txt_len (quos x0 y0).length (by omega)
    have lq0 : ((quos x0 y0).length : Int).natAbs.log2 < 1920 := Nat.lt_of_le_of_lt (Nat.log2_le_self _) (by omega)
    walk_at "go"
    rename_i p1F np1F p2F np2F p3F np3F
    obtain ⟨gzF, gsF, gnF, gaF⟩ := id B5
    have sp1F : Same H5 (upd H5 p1F (HO.tup [V.int 0])) := same_new np1F
    have Sp1F : Same H5 (upd H5 p1F (HO.tup [V.int 0])) := sp1F
    have dp1F : a ≠ p1F := ne_of_none gaF np1F
    have sp2F : Same (upd H5 p1F (HO.tup [V.int 0])) (upd (upd H5 p1F (HO.tup [V.int 0])) p2F (HO.lst [])) := same_new np2F
    have Sp2F : Same H5 (upd (upd H5 p1F (HO.tup [V.int 0])) p2F (HO.lst [])) := Sp1F.trans sp2F
    have dp2F : a ≠ p2F := ne_of_none (Sp1F _ _ gaF) np2F
    have sp3F : Same (upd (upd H5 p1F (HO.tup [V.int 0])) p2F (HO.lst [])) (upd (upd (upd H5 p1F (HO.tup [V.int 0])) p2F (HO.lst [])) p3F (HO.dK [])) := same_new np3F
    have Sp3F : Same H5 (upd (upd (upd H5 p1F (HO.tup [V.int 0])) p2F (HO.lst [])) p3F (HO.dK [])) := Sp2F.trans sp3F
    have dp3F : a ≠ p3F := ne_of_none (Sp2F _ _ gaF) np3F
    have gp1F : (upd (upd (upd H5 p1F (HO.tup [V.int 0])) p2F (HO.lst [])) p3F (HO.dK [])) p1F = some (HO.tup [V.int 0]) := (sp3F _ _ (sp2F _ _ upd_same))
    have gp2F : (upd (upd (upd H5 p1F (HO.tup [V.int 0])) p2F (HO.lst [])) p3F (HO.dK [])) p2F = some (HO.lst []) := (sp3F _ _ upd_same)
    have gp3F : (upd (upd (upd H5 p1F (HO.tup [V.int 0])) p2F (HO.lst [])) p3F (HO.dK [])) p3F = some (HO.dK []) := upd_same
    have allF : ∀ y ∈ ([.non, .int (-1), .int ((quos x0 y0).length : Int), .bl true, .bl false, .str "0", .ref p1F, .ref p2F, .ref p3F, .int (10 ^ 60)] : List V), Dr K a (fun v => ∀ i : Int, v = .int i → ¬ Short i ∨ i < 0 ∨ ((quos x0 y0).length : Int) ≤ i) (upd (upd (upd H5 p1F (HO.tup [V.int 0])) p2F (HO.lst [])) p3F (HO.dK [])) y :=
      (fa_cons ⟨_, .non, by decide +kernel, (fun z => nomatch z), (fun _ z => nomatch z)⟩
      (fa_cons ⟨_, .int _ (by decide +kernel), by decide +kernel, (fun z => nomatch z), fun i e => by cases e; exact (.inr (.inl (by decide)))⟩
      (fa_cons ⟨_, .int _ lq0, lq1, (fun z => nomatch z), fun i e => by cases e; exact .inr (.inr (Int.le_refl _))⟩
      (fa_cons ⟨_, .bl _, by decide +kernel, (fun z => nomatch z), (fun _ z => nomatch z)⟩
      (fa_cons ⟨_, .bl _, by decide +kernel, (fun z => nomatch z), (fun _ z => nomatch z)⟩
      (fa_cons ⟨_, .str _ (by decide +kernel), by decide +kernel, (fun z => nomatch z), (fun _ z => nomatch z)⟩
      (fa_cons ⟨_, .tup _ [0] gp1F (by decide +kernel), by decide +kernel, fun z => dp1F (by injection z with z; exact z.symm), (fun _ z => nomatch z)⟩
      (fa_cons ⟨_, .lst _ [] gp2F (by decide +kernel), by decide +kernel, fun z => dp2F (by injection z with z; exact z.symm), (fun _ z => nomatch z)⟩
      (fa_cons ⟨_, .dK _ gp3F, by decide +kernel, fun z => dp3F (by injection z with z; exact z.symm), (fun _ z => nomatch z)⟩
      (fa_cons ⟨_, .int _ (by decide +kernel), by decide +kernel, (fun z => nomatch z), fun i e => by cases e; exact (.inl big60)⟩
      fa_nil))))))))))
    refine ⟨Nat.le_trans (m := 10) (Nat.le_of_eq rfl) (by decide +kernel), fun lF nlF => ?_⟩
    have slF : Same (upd (upd (upd H5 p1F (HO.tup [V.int 0])) p2F (HO.lst [])) p3F (HO.dK [])) (upd (upd (upd (upd H5 p1F (HO.tup [V.int 0])) p2F (HO.lst [])) p3F (HO.dK [])) lF (HO.lst [.non, .int (-1), .int ((quos x0 y0).length : Int), .bl true, .bl false, .str "0", .ref p1F, .ref p2F, .ref p3F, .int (10 ^ 60)])) := same_new nlF
    have alF : a ≠ lF := ne_of_none (Sp3F _ _ gaF) nlF
    refine ⟨a, lF, _, rfl, bowl_same B5 (Sp3F.trans slF), upd_same, alF.symm, Nat.zero_lt_succ _, Nat.le_trans (m := 10) (Nat.le_of_eq rfl) (by decide), fun iF vF HF eF fF BF => ?_⟩
    have DF := dr_get (fun y m => (allF y m).to (slF)) eF fF
    have FF : Frm a H5 HF := (frm_of (Sp3F.trans slF)).trans fF
    clear allF
    have DB := DB.frm FF
    have DL := DL.frm FF
    have LD := LD.frmL B5 FF
    have FT := FT.trans FF
    refine ⟨?_⟩
    walk_at "go"
    rename_i p1R np1R p2R np2R p3R np3R p4R np4R p5R np5R p6R np6R p7R np7R p8R np8R p9R np9R p10R np10R
    obtain ⟨zF1, zF2, zF3, gaR0⟩ := id BF
    have aR1 : a ≠ p1R := ne_of_none gaR0 np1R
    generalize yR : upd HF p1R _ = R1 at *
    have zR1 := snew np1R yR
    have uR1 := gnew yR
    clear yR
    have gaR1 := zR1 _ _ gaR0
    have aR2 : a ≠ p2R := ne_of_none gaR1 np2R
    generalize yR : upd R1 p2R _ = R2 at *
    have zR2 := snew np2R yR
    have uR2 := gnew yR
    clear yR
    have gaR2 := zR2 _ _ gaR1
    have aR3 : a ≠ p3R := ne_of_none gaR2 np3R
    generalize yR : upd R2 p3R _ = R3 at *
    have zR3 := snew np3R yR
    have uR3 := gnew yR
    clear yR
    have gaR3 := zR3 _ _ gaR2
    have aR4 : a ≠ p4R := ne_of_none gaR3 np4R
    generalize yR : upd R3 p4R _ = R4 at *
    have zR4 := snew np4R yR
    have uR4 := gnew yR
    clear yR
    have gaR4 := zR4 _ _ gaR3
    have aR5 : a ≠ p5R := ne_of_none gaR4 np5R
    generalize yR : upd R4 p5R _ = R5 at *
    have zR5 := snew np5R yR
    have uR5 := gnew yR
    clear yR
    have gaR5 := zR5 _ _ gaR4
    have aR6 : a ≠ p6R := ne_of_none gaR5 np6R
    generalize yR : upd R5 p6R _ = R6 at *
    have zR6 := snew np6R yR
    have uR6 := gnew yR
    clear yR
    have gaR6 := zR6 _ _ gaR5
    have aR7 : a ≠ p7R := ne_of_none gaR6 np7R
    generalize yR : upd R6 p7R _ = R7 at *
    have zR7 := snew np7R yR
    have uR7 := gnew yR
    clear yR
    have gaR7 := zR7 _ _ gaR6
    have aR8 : a ≠ p8R := ne_of_none gaR7 np8R
    generalize yR : upd R7 p8R _ = R8 at *
    have zR8 := snew np8R yR
    have uR8 := gnew yR
    clear yR
    have gaR8 := zR8 _ _ gaR7
    have aR9 : a ≠ p9R := ne_of_none gaR8 np9R
    generalize yR : upd R8 p9R _ = R9 at *
    have zR9 := snew np9R yR
    have uR9 := gnew yR
    clear yR
    have gaR9 := zR9 _ _ gaR8
    have aR10 : a ≠ p10R := ne_of_none gaR9 np10R
    generalize yR : upd R9 p10R _ = R10 at *
    have zR10 := snew np10R yR
    have uR10 := gnew yR
    clear yR
    have gaR10 := zR10 _ _ gaR9
    have allR : ∀ y ∈ ([.non, .int 0, .ref p1R, .ref p2R, .ref p3R, .ref p4R, .ref p5R, .ref p6R, .ref p7R, .ref p8R, .ref p9R, .ref p10R] : List V), Rx a R10 y :=
      (fa_cons ⟨.non, fun z => nomatch z⟩
      (fa_cons ⟨.int _, fun z => nomatch z⟩
      (fa_cons ⟨.tup _ (zR10 _ _ (zR9 _ _ (zR8 _ _ (zR7 _ _ (zR6 _ _ (zR5 _ _ (zR4 _ _ (zR3 _ _ (zR2 _ _ uR1))))))))), fun z => aR1 (by injection z with z; exact z.symm)⟩
      (fa_cons ⟨.lst _ _ (zR10 _ _ (zR9 _ _ (zR8 _ _ (zR7 _ _ (zR6 _ _ (zR5 _ _ (zR4 _ _ (zR3 _ _ uR2)))))))), fun z => aR2 (by injection z with z; exact z.symm)⟩
      (fa_cons ⟨.row _ [0, 0] (zR10 _ _ (zR9 _ _ (zR8 _ _ (zR7 _ _ (zR6 _ _ (zR5 _ _ (zR4 _ _ uR3))))))) (by decide) (by decide) (fa_cons ⟨by decide +kernel, by decide +kernel⟩ (fa_cons ⟨by decide +kernel, by decide +kernel⟩ fa_nil)) (.inr (.inl ⟨by decide +kernel, 0, .head _, by decide⟩)), fun z => aR3 (by injection z with z; exact z.symm)⟩
      (fa_cons ⟨.row _ [2, 1] (zR10 _ _ (zR9 _ _ (zR8 _ _ (zR7 _ _ (zR6 _ _ (zR5 _ _ uR4)))))) (by decide) (by decide) (fa_cons ⟨by decide +kernel, by decide +kernel⟩ (fa_cons ⟨by decide +kernel, by decide +kernel⟩ fa_nil)) (.inr (.inr ⟨by decide +kernel, by decide +kernel, by decide, by decide⟩)), fun z => aR4 (by injection z with z; exact z.symm)⟩
      (fa_cons ⟨.one _ _ (zR10 _ _ (zR9 _ _ (zR8 _ _ (zR7 _ _ (zR6 _ _ uR5))))) (.inl ⟨_, rfl⟩), fun z => aR5 (by injection z with z; exact z.symm)⟩
      (fa_cons ⟨.one _ _ (zR10 _ _ (zR9 _ _ (zR8 _ _ (zR7 _ _ uR6)))) (.inr ⟨_, rfl⟩), fun z => aR6 (by injection z with z; exact z.symm)⟩
      (fa_cons ⟨.dK _ (zR10 _ _ (zR9 _ _ (zR8 _ _ uR7))), fun z => aR7 (by injection z with z; exact z.symm)⟩
      (fa_cons ⟨.row _ [0, 2, 1] (zR10 _ _ (zR9 _ _ uR8)) (by decide) (by decide) (fa_cons ⟨by decide +kernel, by decide +kernel⟩ (fa_cons ⟨by decide +kernel, by decide +kernel⟩ (fa_cons ⟨by decide +kernel, by decide +kernel⟩ fa_nil))) (.inr (.inr ⟨by decide +kernel, by decide +kernel, by decide, by decide⟩)), fun z => aR8 (by injection z with z; exact z.symm)⟩
      (fa_cons ⟨.row _ [10 ^ 12] (zR10 _ _ uR9) (by decide) (by decide) (fa_cons ⟨by decide +kernel, by decide +kernel⟩ fa_nil) (.inl ⟨10 ^ 12, .head _, by decide +kernel⟩), fun z => aR9 (by injection z with z; exact z.symm)⟩
      (fa_cons ⟨.row _ [1, -2] uR10 (by decide) (by decide) (fa_cons ⟨by decide +kernel, by decide +kernel⟩ (fa_cons ⟨by decide +kernel, by decide +kernel⟩ fa_nil)) (.inr (.inl ⟨by decide +kernel, -2, .head _, by decide⟩)), fun z => aR10 (by injection z with z; exact z.symm)⟩
      fa_nil))))))))))))
    have zRR := ((((((((zR1.trans zR2).trans zR3).trans zR4).trans zR5).trans zR6).trans zR7).trans zR8).trans zR9).trans zR10
    clear uR1 uR2 uR3 uR4 uR5 uR6 uR7 uR8 uR9 uR10
    refine ⟨Nat.le_trans (m := 12) (Nat.le_of_eq rfl) (by decide +kernel), fun lR nlR => ?_⟩
    have aRl : a ≠ lR := ne_of_none gaR10 nlR
    generalize yR : upd R10 lR _ = RL
    have zRL := snew nlR yR
    have uRL := gnew yR
    clear yR
    refine ⟨a, lR, _, rfl, bowl_same BF (zRR.trans zRL), uRL, aRl.symm, Nat.zero_lt_succ _, Nat.le_trans (m := 12) (Nat.le_of_eq rfl) (by decide), fun iR vR HR eR fR BR => ?_⟩
    have DR : Rx a HR vR := ((allR vR (List.mem_of_getElem? eR)).same zRL).frm fR
    clear allR eR uRL
    have zz := zRR.trans zRL
    have DB := (DB.to zz).frm fR
    have DL := (DL.to zz).frm fR
    have DF := (DF.to zz).frm fR
    have LD := (LD.sameL zz).frmL (bowl_same BF zz) fR
    have FT := (FT.trans (frm_of zz)).trans fR
    refine ⟨?_⟩
    refine gdef ?_
    dsimp only []
    walk_at "nm"
    have gH : ∃ xs, H a = some (.lst xs) := by obtain ⟨x, y, z, g⟩ := hB; exact ⟨_, g⟩
    obtain ⟨xsH, gH⟩ := gH
    have Tc := tabs_frm gH FT hT
    refine ⟨Tc, fun w1 G1 e1 T1 L1 => ⟨Nat.le_trans (m := 1) (Nat.le_of_eq rfl) (by decide +kernel), fun l nl => ?_⟩⟩
    have q1 : Same G1 (upd G1 l (HO.lst [w1])) := same_new nl
    have T1 := tabs_same q1 T1
    have L1 := L1.ext (ExtN.of q1)
    have g1 : upd G1 l (HO.lst [w1]) l = some (HO.lst [w1]) := upd_same
    refine app_lams (ts' := [_, _, _, _, _, _, _]) (l := l) rfl g1 L1 T1 (Nat.le_trans (m := 8) (Nat.le_of_eq rfl) (by decide +kernel)) (fun ws G9 lw g9 x9 T9 LL => ?_)
    have DB := (DB.extN e1).toL nl x9
    have DL := (DL.extN e1).toL nl x9
    have DF := (DF.extN e1).toL nl x9
    have DR := (DR.extN e1).toL nl x9
    have LD := (LD.extNL e1).toLL nl x9
    obtain ⟨tB, hB1, hB2, hB3, hB4⟩ := DB
    obtain ⟨tL, hL1, hL2, hL3, hL4⟩ := DL
    obtain ⟨tF, hF1, hF2, hF3, hF4⟩ := DF
    have lB : (Str.ofString "number ").length + tB.length ≤ sizeLine := Nat.le_trans (Nat.add_le_add_left hB2.1 7) (by decide +kernel)
    have lL : (Str.ofString "number ").length + tL.length ≤ sizeLine := Nat.le_trans (Nat.add_le_add_left hL2.1 7) (by decide +kernel)
    have lF : (Str.ofString "number ").length + tF.length ≤ sizeLine := Nat.le_trans (Nat.add_le_add_left hF2.1 7) (by decide +kernel)
    refine ⟨vB, rfl, vB, tB, rfl, hB1.shw, _, _, rfl, rfl, lB, ?_⟩
    refine ⟨vL, rfl, vL, tL, rfl, hL1.shw, _, _, rfl, rfl, lL, ?_⟩
    refine ⟨_, _, rfl, ?_⟩
    walk_at "nm"
    have ab : Drw K G9 vB tB := hB1
    have al : Drw K G9 vL tL := hL1
    have ok1 : PyData.strOk (Str.ofString "number " ++ tB) = true := strOk_app (by decide +kernel) hB2.2
    have ok2 : PyData.strOk (Str.ofString "number " ++ tL) = true := strOk_app (by decide +kernel) hL2.2
    refine ifs_in ?_
    refine lc_met (c := 8) (j := 11) (σ := [some (.ref a), some (.int x0), some (.int y0), some vB, some vL, some (.ref lq), some vF, some vR, some (.ref l), some (.str (Str.ofString "number " ++ tB)), some (.str (Str.ofString "number " ++ tL)), none, none]) (due := [Str.ofString "number " ++ tB, Str.ofString "number " ++ tL, Str.ofString "number " ++ tB, Str.ofString "number " ++ tL, Str.ofString "number " ++ tB, Str.ofString "number " ++ tL, Str.ofString "number " ++ tB, Str.ofString "number " ++ tL]) (l := l) rfl g9 LL (Nat.lt_of_lt_of_le (m := 13) (by decide) (Nat.le_of_eq rfl)) (len_line (m := 8) lw) rfl (RunsAll.get (runs_cons (run_num ab lB fun E H1 Q s e => ⟨vB, rfl, vL, rfl, fun p dx np nd nn => .inr ⟨p, dx, vB, vL, rfl, upd_same, .inl ⟨(ab.same (s.trans (mk_same np nd))).bad T hB4, (al.same (s.trans (mk_same np nd))).badI T, e.later (mk_same np nd)⟩⟩⟩)
      (runs_cons (run_num al lL fun E H1 Q s e => ⟨_, rfl, vL, rfl, fun p dx np nd nn => .inr ⟨p, dx, _, vL, rfl, upd_same, .inr ⟨x0, rfl, sx, (al.same (s.trans (mk_same np nd))).badL T hL4, e.later (mk_same np nd)⟩⟩⟩)
      (runs_cons (run_num ab lB fun E H1 Q s e => ⟨vB, rfl, vL, rfl, vB, vL, rfl, .inl ⟨(ab.same s).bad T hB4, (al.same s).badI T, e⟩⟩)
      (runs_cons (run_num al lL fun E H1 Q s e => ⟨_, rfl, vL, rfl, _, vL, rfl, .inr ⟨x0, rfl, sx, (al.same s).badL T hL4, e⟩⟩)
      (runs_cons (run_num ab lB fun E H1 Q s e => ⟨vB, rfl, vL, rfl, .inr ⟨vB, vL, rfl, .inl (.inl ⟨(ab.same s).bad T hB4, (al.same s).badI T, e⟩)⟩⟩)
      (runs_cons (run_num al lL fun E H1 Q s e => ⟨_, rfl, vL, rfl, .inr ⟨_, vL, rfl, .inl (.inr ⟨x0, rfl, sx, (al.same s).badL T hL4, e⟩)⟩⟩)
      (runs_cons (run_num ab lB fun E H1 Q s e => ⟨vB, rfl, vL, rfl, vB, vL, rfl, .inl ⟨(ab.same s).bad T hB4, (al.same s).badI T, e⟩⟩)
      (runs_cons (run_num al lL fun E H1 Q s e => ⟨_, rfl, vL, rfl, _, vL, rfl, .inr ⟨x0, rfl, sx, (al.same s).badL T hL4, e⟩⟩)
      runs_nil))))))))) (fun D H3 nD sD gD => ?_)
    refine ⟨_, rfl, _, rfl, Nat.le_trans (m := 2) (Nat.le_of_eq rfl) (by decide +kernel), fun j1 k1 => ?_⟩
    generalize y1 : upd H3 j1 _ = U1
    have z1 := snew k1 y1
    have u1 := gnew y1
    clear y1
    refine ⟨j1, 4, _, rfl, rfl, u1, by decide, by decide, Nat.le_trans (m := 8) (Nat.le_of_eq rfl) (by decide +kernel), fun j2 k2 => ?_⟩
    generalize y2 : upd U1 j2 _ = U2
    have z2 := snew k2 y2
    have u2 := gnew y2
    clear y2
    have shp := shp_strs [Str.ofString "number " ++ tB, Str.ofString "number " ++ tL, Str.ofString "number " ++ tB, Str.ofString "number " ++ tL, Str.ofString "number " ++ tB, Str.ofString "number " ++ tL, Str.ofString "number " ++ tB, Str.ofString "number " ++ tL] (fa_cons ok1 (fa_cons ok2 (fa_cons ok1 (fa_cons ok2 (fa_cons ok1 (fa_cons ok2 (fa_cons ok1 (fa_cons ok2 fa_nil))))))))
    refine ⟨PyData.list ([Str.ofString "number " ++ tB, Str.ofString "number " ++ tL, Str.ofString "number " ++ tB, Str.ofString "number " ++ tL, Str.ofString "number " ++ tB, Str.ofString "number " ++ tL, Str.ofString "number " ++ tB, Str.ofString "number " ++ tL].map PyData.str), PyData.list ([Str.ofString "number " ++ tB, Str.ofString "number " ++ tL, Str.ofString "number " ++ tB, Str.ofString "number " ++ tL, Str.ofString "number " ++ tB, Str.ofString "number " ++ tL, Str.ofString "number " ++ tB, Str.ofString "number " ++ tL].map PyData.str), .lst (SqL.of (z2 _ _ (z1 _ _ gD))) (dpAll_strs _), .lst (xs := [Str.ofString "number " ++ tB, Str.ofString "number " ++ tL, Str.ofString "number " ++ tB, Str.ofString "number " ++ tL, Str.ofString "number " ++ tB, Str.ofString "number " ++ tL, Str.ofString "number " ++ tB, Str.ofString "number " ++ tL].map V.str) (SqL.of u2) (dpAll_strs [Str.ofString "number " ++ tB, Str.ofString "number " ++ tL, Str.ofString "number " ++ tB, Str.ofString "number " ++ tL, Str.ofString "number " ++ tB, Str.ofString "number " ++ tL, Str.ofString "number " ++ tB, Str.ofString "number " ++ tL]), shp, shp, ?_⟩
    rw [eqv_self shp]
    have xG : ExtL a H G9 := extL_new ((extL_of FT).trans (extN_L e1)) nl x9
    have bG : Bowl G9 a := bowl_L BR e1 nl x9
    have zU := sD.trans (z1.trans z2)
    have xU := extL_same xG zU
    have bU := bowl_same bG zU
    have tU : Stop (Tabs (TL A) U2) := ⟨tabs_same zU T9⟩
    have LD := LD.sameL zU
    have DR := DR.same zU
    have hB1 := hB1.same zU
    have hF1 := hF1.same zU
    clear shp u1 u2 gD g9 LL ab al hL1 T9
    walk_at "go"
    refine ⟨tU.h, fun w2 G2 e2 T2 L2 => ⟨Nat.le_trans (m := 1) (Nat.le_of_eq rfl) (by decide +kernel), fun l2 nl2 => ?_⟩⟩
    have q2 : Same G2 (upd G2 l2 (HO.lst [w2])) := same_new nl2
    have T2 := tabs_same q2 T2
    have L2 := L2.ext (ExtN.of q2)
    have g2 : upd G2 l2 (HO.lst [w2]) l2 = some (HO.lst [w2]) := upd_same
    refine app_lams (ts' := [_, _, _, _]) (l := l2) rfl g2 L2 T2 (Nat.le_trans (m := 5) (Nat.le_of_eq rfl) (by decide +kernel)) (fun ws2 G7 lw2 g7 x7 T7 LL => ?_)
    have DR := (DR.extN e2).toL nl2 x7
    have LD := (LD.extNL e2).toLL nl2 x7
    have hB1 := (hB1.to fun p o _ g q => e2 _ _ g q).toL nl2 x7
    have hF1 := ((hF1.extL (extN_L e2) hF3).toL nl2 x7)
    walk_at "nm"
    refine ⟨_, rfl, vF, rfl, vF, tF, rfl, hF1.shw, _, _, rfl, rfl, lF, _, rfl, _, _, rfl, rfl, _, rfl, ?_⟩
    refine tif_c ?_
    refine ⟨Nat.le_trans (m := 4) (Nat.le_of_eq rfl) (by decide +kernel), fun i1 k3 => ?_⟩
    generalize y1 : upd G7 i1 _ = V1
    have z1 := snew k3 y1
    have u1 := gnew y1
    clear y1
    refine gdef ?_
    dsimp only []
    walk_at "nm"
    refine ⟨.ref i1, rfl, Or.inl ⟨rfl, _, SqL.of u1⟩, ?_⟩
    walk_at "go"
    refine tif_c ?_
    refine ⟨i1, _, _, rfl, rfl, u1, len_line (m := 4) rfl, ?_⟩
    generalize yE : upd V1 i1 _ = Ve
    have zE : Same G7 Ve := by rw [← yE]; exact same_mut z1 k3
    have uE := gnew yE
    clear yE
    dsimp only []
    refine tret ?_
    refine and_in ?_
    have LD := LD.sameL zE
    have DR := DR.same zE
    have ab : Drw K Ve vB tB := hB1.same zE
    have af : Drw K Ve vF tF := hF1.same zE
    obtain ⟨hd1, hd2, hd3, dxq, qq, rq, gl, gl2, gl3⟩ := id LD
    have ok5 : PyData.strOk (if x0 < 1 then Str.ofString "operation" else Str.ofString "") = true := by
      split <;> decide +kernel
    have ok6 : PyData.strOk (if V.int (gcdN x0 y0) = V.int 1 then Str.ofString "" else Str.ofString "operation") = true := by
      split <;> decide +kernel
    have shp := shp_strs [Str.ofString "number " ++ tB, Str.ofString "number " ++ tF, Str.ofString "operation", (if x0 < 1 then Str.ofString "operation" else Str.ofString ""), (if V.int (gcdN x0 y0) = V.int 1 then Str.ofString "" else Str.ofString "operation")] (fa_cons ok1 (fa_cons (strOk_app (by decide +kernel) hF2.2) (fa_cons (by decide +kernel) (fa_cons ok5 (fa_cons ok6 fa_nil)))))
    refine lc_met (c := 8) (j := 11) (σ := [some (.ref a), some (.int x0), some (.int y0), some vB, some vL, some (.ref lq), some vF, some vR, some (.ref l2), some (.str (Str.ofString "number " ++ tB)), some (.str (Str.ofString "number " ++ tL)), none, some (.ref i1)]) (due := [Str.ofString "number " ++ tB, Str.ofString "number " ++ tF, Str.ofString "operation", (if x0 < 1 then Str.ofString "operation" else Str.ofString ""), (if V.int (gcdN x0 y0) = V.int 1 then Str.ofString "" else Str.ofString "operation")]) (l := l2) rfl (zE _ _ g7) (LL.ext (ExtN.of zE)) (Nat.lt_of_lt_of_le (m := 13) (by decide) (Nat.le_of_eq rfl)) (len_line (m := 5) lw2) rfl (RunsAll.get (runs_cons (run_num ab lB fun E H1 Q s e => ⟨_, rfl, lq, _, _, rfl, s _ _ gl, rfl, vB, rfl, lq, x0, y0, vB, rfl, LD.sameL s, (ab.same s).bad T hB4, e⟩)
      (runs_cons (run_num af lF fun E H1 Q s e => ⟨_, rfl, vF, rfl, lq, _, _, rfl, s _ _ gl, lq, x0, y0, vF, rfl, LD.sameL s, (af.same s).far hF4, e⟩)
      (runs_cons (run_op fun E H1 Q s e => ⟨vR, rfl, .inr ⟨vR, rfl, (DR.1.same s).norow, e⟩⟩)
      (runs_cons (by
        by_cases h : x0 < 1
        · rw [if_pos h]
          exact run_op fun E H1 Q s e => ⟨_, rfl, lq, _, _, rfl, s _ _ gl, rfl, .inr ⟨lq, x0, y0, rfl, LD.sameL s, h, e _ (Same.refl _)⟩⟩
        · rw [if_neg h]
          exact run_fine fun E H1 Q s e => ⟨_, rfl, lq, _, _, rfl, s _ _ gl, rfl, .inl ⟨lq, x0, y0, rfl, LD.sameL s, by omega, fun q H2 s2 _ => e _ _ s2⟩⟩)
      (runs_cons (by
        by_cases h : V.int (gcdN x0 y0) = V.int 1
        · rw [if_pos h]
          have hg : Nat.gcd x0.natAbs y0.natAbs = 1 := by
            have z : gcdN x0 y0 = 1 := by injection h
            unfold gcdN at z
            omega
          exact run_fine fun E H1 Q s e => ⟨_, rfl, _, rfl, .inl ⟨_, _, x0, y0, rfl, .int sx, .int sy, x4, y4, hy, hg, fun _ H2 s2 _ _ _ => e _ _ s2⟩⟩
        · rw [if_neg h]
          have hg : Nat.gcd x0.natAbs y0.natAbs ≠ 1 := fun z => h (by unfold gcdN; rw [z]; rfl)
          exact run_op fun E H1 Q s e => ⟨_, rfl, _, rfl, .inr ⟨_, _, rfl, .inr ⟨x0, y0, rfl, rfl, sx, sy, hy, hg, e⟩⟩⟩)
      runs_nil)))))) (fun D H3 nD sD gD => ?_)
    refine ⟨_, rfl, PyData.list ([Str.ofString "number " ++ tB, Str.ofString "number " ++ tF, Str.ofString "operation", (if x0 < 1 then Str.ofString "operation" else Str.ofString ""), (if V.int (gcdN x0 y0) = V.int 1 then Str.ofString "" else Str.ofString "operation")].map PyData.str), PyData.list ([Str.ofString "number " ++ tB, Str.ofString "number " ++ tF, Str.ofString "operation", (if x0 < 1 then Str.ofString "operation" else Str.ofString ""), (if V.int (gcdN x0 y0) = V.int 1 then Str.ofString "" else Str.ofString "operation")].map PyData.str), .lst (SqL.of gD) (dpAll_strs _), .lst (xs := [Str.ofString "number " ++ tB, Str.ofString "number " ++ tF, Str.ofString "operation", (if x0 < 1 then Str.ofString "operation" else Str.ofString ""), (if V.int (gcdN x0 y0) = V.int 1 then Str.ofString "" else Str.ofString "operation")].map V.str) (SqL.of (sD _ _ uE)) (dpAll_strs [Str.ofString "number " ++ tB, Str.ofString "number " ++ tF, Str.ofString "operation", (if x0 < 1 then Str.ofString "operation" else Str.ofString ""), (if V.int (gcdN x0 y0) = V.int 1 then Str.ofString "" else Str.ofString "operation")]), shp, shp, ?_⟩
    rw [eqv_self shp]
    refine ⟨_, rfl, ?_⟩
    refine iteT ?_
    refine ⟨_, rfl, _, rfl, _, rfl, fun p dx np nd nn => .inl ⟨p, dx, _, _, x0, y0, rfl, upd_same, .int sx, .int sy, x4, y4, hy, fun H9 L9 kp => ⟨rfl, ?_⟩⟩⟩
    have s9 := made np nd kp
    have LD9 := (LD.sameL sD).sameL s9
    obtain ⟨dx1, fs1, gi1⟩ := LD9.ins
    obtain ⟨dx2, fs2, gi2⟩ := L9.ins
    have sE := zE.trans (sD.trans s9)
    have xE : ExtL a H G7 := extL_new (xU.trans (extN_L e2)) nl2 x7
    have bE : Bowl G7 a := bowl_L bU e2 nl2 x7
    have kk := k _ (extL_same xE sE) (bowl_same bE sE) (tabs_same sE T7)
    refine ⟨lq, _, _, .ref A.a_Ladder, rfl, gi1, ty_ins gi2 T.c_Ladder T.cl_Ladder T.ob_Ladder T, by simp [PySem.W.notFirst], lq, x0, y0, _, rfl, LD9, .inl ⟨p, x0, y0, rfl, L9, _, rfl, ?_⟩⟩
    rw [decide_eq_true (rfl : x0 = x0), decide_eq_true (rfl : y0 = y0)]
    exact kk
end
end Tk

set_option maxHeartbeats 16000000
namespace Tk
open PySem PySem.Spec PyProof.Rows L2 Tc LamX
section
variable {w : World} {K : PySem.W.Frag} {mg : Str → Option Value} {base : Heap} {A : Ad}
open Tm
local macro_rules | `(tactic| walk_at "arr") => `(tactic| first
  | with_reducible assumption
  | ((with_reducible apply same_new); with_reducible assumption))
local macro_rules | `(tactic| walk_at "f") => `(tactic| first
  | with_reducible assumption
  | with_reducible exact upd_same
  | with_reducible exact Same.refl _
  | with_reducible exact Frm.refl
  | ((with_reducible apply sqL_K); (focus with_reducible assumption); rfl)
  | ((with_reducible apply sqT_K); (focus with_reducible assumption); rfl)
  | ((with_reducible apply SqT.of); walk_at "f")
  | ((with_reducible apply SqL.of); walk_at "f")
  | ((with_reducible apply back_raw); (focus walk_at "arr"); walk_at "f")
  | ((with_reducible apply frm_tup); (focus with_reducible assumption); (focus walk_at "f"); (focus walk_at "f"); (focus (intro _ z; cases z; done)))
  | ((with_reducible apply frm_raw); (focus with_reducible assumption); (focus walk_at "f"); walk_at "f")
  | ((with_reducible apply bowl_back); (focus walk_at "arr"); walk_at "f")
  | ((with_reducible apply bowl_ne); (focus with_reducible assumption); walk_at "f")
  | ((with_reducible apply Num.int); with_reducible assumption)
  | ((with_reducible apply same_snoc); (focus walk_at "arr"); walk_at "f")
  | ((with_reducible apply frm_back); (focus walk_at "arr"); walk_at "f")
  | ((with_reducible apply frm_backF); (focus with_reducible assumption); walk_at "f")
  | ((with_reducible apply back_sqT); (focus walk_at "arr"); walk_at "f")
  | ((with_reducible apply same_sqL); (focus walk_at "arr"); walk_at "f")
  | ((with_reducible apply free_same); (focus with_reducible assumption); walk_at "f")
  | ((with_reducible apply free_frm); (focus with_reducible assumption); (focus with_reducible assumption); walk_at "f")
  | ((with_reducible apply frm_sqL); (focus with_reducible assumption); (focus walk_at "f"); walk_at "f"))
local macro_rules | `(tactic| walk_at "bt") => `(tactic| first
  | with_reducible assumption
  | ((with_reducible apply bt_mul); (focus walk_at "bt"); walk_at "bt")
  | ((with_reducible apply bt_add); (focus walk_at "bt"); walk_at "bt")
  | ((with_reducible apply bt_sub); (focus walk_at "bt"); walk_at "bt")
  | ((with_reducible apply bt_neg); walk_at "bt")
  | ((with_reducible apply bt_div); walk_at "bt")
  | ((with_reducible apply bt_mod); (focus (first | assumption | omega)); walk_at "bt")
  | exact bt_lit (n := 64) (by decide)
  | exact bt_lit (n := 200) (by decide +kernel))
local macro_rules | `(tactic| walk_at "lin") => `(tactic| first
  | exact (by decide : 1 ≤ sizeLine) | exact (by decide : 2 ≤ sizeLine) | exact (by decide : 3 ≤ sizeLine) | exact (by decide : 4 ≤ sizeLine) | exact (by decide : 0 ≤ sizeLine) | exact (by decide : 5 ≤ sizeLine) | exact (by decide : 6 ≤ sizeLine))
local macro_rules | `(tactic| walk_at "dp") => `(tactic| first
  | exact Dp.int _
  | exact DpAll.nil
  | ((with_reducible apply Dp.lst); (focus walk_at "f"); walk_at "dp")
  | ((with_reducible apply Dp.tup); (focus walk_at "f"); walk_at "dp")
  | ((with_reducible apply DpAll.cons); (focus walk_at "dp"); walk_at "dp"))
local macro_rules | `(tactic| walk_at "sv") => `(tactic| first
  | with_reducible rfl
  | walk_at "f"
  | exact rfl
  | walk_at "dp"
  | exact shp_lst [_] | exact shp_lst [_, _] | exact shp_lst [_, _, _] | exact shp_lst [_, _, _, _] | exact shp_tup [_, _] | exact shp_tup [_, _, _]
  | ((apply tyV_lst); walk_at "f")
  | ((with_reducible apply bt_mulW); (focus walk_at "bt"); (focus walk_at "bt"); (focus (first | decide | omega)))
  | ((with_reducible apply bt_divW); (focus (first | decide | assumption | omega)); (focus walk_at "bt"); (focus (first | decide | omega)))
  | ((with_reducible apply bt_divP); (focus (first | decide | assumption | omega)); (focus walk_at "bt"); (focus (first | decide | omega)))
  | exact ⟨by decide, by decide +kernel⟩
  | exact Or.inl (by decide)
  | exact Or.inr (by decide)
  | exact Or.inl ⟨by omega, by omega⟩
  | exact Or.inr ⟨by omega, by omega⟩
  | ((with_reducible apply Or.inl); walk_at "sv")
  | ((with_reducible apply Or.inr); walk_at "sv")
  | ((with_reducible apply Exists.intro); walk_at "sv")
  | ((with_reducible apply And.intro); (focus walk_at "sv"); walk_at "sv")
  | walk_at "lin"
  | decide
  | omega
  | (simp only [List.length_cons, List.length_nil, List.length_map]; first | done | omega))
local macro_rules | `(tactic| walk_at "one") => `(tactic| first
  | ((fail_if_success refine' @Exists.intro (Nat → L2.St → Hp → Prop) _ ?_ ?_); (fail_if_success refine' @Exists.intro (Nat → Nat → L2.St → Hp → Prop) _ ?_ ?_); (fail_if_success refine' @Exists.intro (L2.St → Hp → Prop) _ ?_ ?_); (fail_if_success refine' @Exists.intro (Nat → Nat → Hp → Prop) _ ?_ ?_); (fail_if_success refine' @Exists.intro (Hp → Prop) _ ?_ ?_); apply Exists.intro)
  | (apply And.intro; (focus walk_at "sv"))
  | intro _
  | (apply ifT; (focus rfl))
  | (apply ifF; (focus rfl))
  | ((apply Or.inl); (apply Exists.intro); (apply And.intro); (focus exact rfl))
  | ((apply Or.inl); (apply And.intro); (focus walk_at "f"))
  | ((apply Or.inr); (apply Exists.intro); (apply And.intro); (focus exact rfl))
  | (apply ifTd; (focus (first | assumption | omega)))
  | (apply ifFd; (focus (first | assumption | omega))))
local macro_rules | `(tactic| walk_at "go") => `(tactic| repeat walk_at "one")
local macro_rules | `(tactic| walk_at "nm") => `(tactic| try simp only [List.set_cons_zero, List.set_cons_succ])
local macro_rules | `(tactic| walk_at "gon") => `(tactic| repeat (walk_at "one"; walk_at "nm"))
def sp_law (K : PySem.W.Frag) (A : Ad) : Sp := fun vs H Q _ => ∃ (sc : Addr) (ns : List Int), vs = [.ref sc] ∧ SqL K H sc (ns.map V.int) ∧ ns.length ≤ 63 ∧ Tabs (TL A) H ∧ ∀ H', Q (.bl true) H'
theorem ok_law (T : Txt K mg A) (hB__law_right : TabB base mg A.cd__law_right A.tb__law_right) (hB_law : TabB base mg A.cd_law A.tb_law) : FnG PW w K mg base CX0 14 A.f_law A.d_law ["_law_script"] (sp_law K A) := by
  refine okL T.L_law sc_law (fun vs H Q E h => ?_) (fun Ar outer s H vs Q E hr hg h => ?_)
  · obtain ⟨sc, ns, rfl, _⟩ := h
    rfl
  · obtain ⟨sc, ns, rfl, hS, hlen, hT, k⟩ := h
    have hu := hu_of hr
    refine ⟨_, (pss_cons (ps_for PassesOwn.never rfl (pi_range1 rfl T.b_range (pa_cons (pe_callB (call_max2 rfl) (by rfl) T.b_max (by decide +kernel) (pa_cons pe_int (pa_cons (pe_callB (call_min2 rfl) (by rfl) T.b_min (by decide +kernel) (pa_cons pe_int (pa_cons (pe_callB call_len_seq (by rfl) T.b_len (by decide +kernel) (pa_cons (pv 0) pa_nil)) pa_nil))) pa_nil))) pa_nil)) (pg_name (i := 1) sc_law.nd rfl (Or.inl rfl))
        (pss_cons (ps_set (i := 2) sc_law.nd rfl (Or.inl rfl) (pe_call (ok__law_bowl T) (hr.mono (by decide)) rfl T.m__law_bowl T.F__law_bowl.kp T.b__law_bowl .nil pass0 (pa_cons (pv 0) (pa_cons (pv 1) pa_nil))))
          (pss_one (ps_for PassesOwn.never rfl (pi_range1 rfl T.b_range (pa_cons pe_int pa_nil)) (pg_name (i := 3) sc_law.nd rfl (Or.inl rfl))
            (pss_one (ps_if (pt_not (pt_val (pe_callG (ok__law_right T hB__law_right hB_law) hg (hr.mono (by decide)) rfl T.m__law_right T.F__law_right.kp T.b__law_right .nil pass0 (pa_cons (pv 2) pa_nil))))
                (pss_one (ps_ret pe_bl))
                pss_nil))))))
      (pss_cons (ps_set (i := 4) sc_law.nd rfl (Or.inl rfl) (pe_lst (pa_cons (pe_lamV (k := 10) (T := TL A) hB_law rfl (mT_law A) (hu_law T) (lamS_by (show lamSB (defScope s_law) _ = true by decide +kernel)) rfl (fun _ _ _ => rfl) (fun _ _ _ _ _ _ _ hr => (pe_make T.mk_Ladder (oky_Ladder___init__ T) (hr.mono (by decide)) rfl T.m_Ladder T.b_Ladder___init__ .nil (passes_call (takes_of rfl rfl rfl rfl) (fun _ _ _ _ h => h)) (pa_cons (pe_op op_sub (pe_op op_powX pe_int pe_int) pe_int) (pa_cons (pe_op op_sub (pe_op op_powX pe_int pe_int) pe_int) pa_nil))))) pa_nil)))
      (pss_cons (ps_expr (pe_bm PySem.F.plainAttrs_list PySem.F.slot_list_append PySem.F.type_list_append mt_append (pv 4) (pa_cons (pe_lamV (k := 10) (T := TL A) hB_law rfl (mT_law A) (hu_law T) (lamS_by (show lamSB (defScope s_law) _ = true by decide +kernel)) rfl (fun _ _ _ => rfl) (fun _ _ _ _ _ _ _ hr => (pe_make T.mk_Ladder (oky_Ladder___init__ T) (hr.mono (by decide)) rfl T.m_Ladder T.b_Ladder___init__ .nil (passes_call (takes_of rfl rfl rfl rfl) (fun _ _ _ _ h => h)) (pa_cons (pe_op op_sub pe_int (pe_op op_powX pe_int pe_int)) (pa_cons pe_int pa_nil))))) pa_nil)))
      (pss_cons (ps_expr (pe_bm PySem.F.plainAttrs_list PySem.F.slot_list_append PySem.F.type_list_append mt_append (pv 4) (pa_cons (pe_lamV (k := 10) (T := TL A) hB_law rfl (mT_law A) (hu_law T) (lamS_by (show lamSB (defScope s_law) _ = true by decide +kernel)) rfl (fun _ _ _ => rfl) (fun _ _ _ _ _ _ _ hr => (pe_call (oky_inverse_of T) (hr.mono (by decide)) rfl T.m_inverse_of T.F_inverse_of.kp T.b_inverse_of .nil (passes_call (takes_of rfl rfl rfl rfl) (fun _ _ _ _ h => h)) (pa_cons pe_int (pa_cons pe_int pa_nil))))) pa_nil)))
      (pss_cons (ps_expr (pe_bm PySem.F.plainAttrs_list PySem.F.slot_list_append PySem.F.type_list_append mt_append (pv 4) (pa_cons (pe_lamV (k := 10) (T := TL A) hB_law rfl (mT_law A) (hu_law T) (lamS_by (show lamSB (defScope s_law) _ = true by decide +kernel)) rfl (fun _ _ _ => rfl) (fun _ _ _ _ _ _ _ hr => (pe_call (oky_inverse_of T) (hr.mono (by decide)) rfl T.m_inverse_of T.F_inverse_of.kp T.b_inverse_of .nil (passes_call (takes_of rfl rfl rfl rfl) (fun _ _ _ _ h => h)) (pa_cons pe_int (pa_cons pe_int pa_nil))))) pa_nil)))
      (pss_cons (ps_expr (pe_bm PySem.F.plainAttrs_list PySem.F.slot_list_append PySem.F.type_list_append mt_append (pv 4) (pa_cons (pe_lamV (k := 10) (T := TL A) hB_law rfl (mT_law A) (hu_law T) (lamS_by (show lamSB (defScope s_law) _ = true by decide +kernel)) rfl (fun _ _ _ => rfl) (fun _ _ _ _ _ _ _ hr => (pe_call (oky_pair_from T) (hr.mono (by decide)) rfl T.m_pair_from T.F_pair_from.kp T.b_pair_from .nil (passes_call (takes_of rfl rfl rfl rfl) (fun _ _ _ _ h => h)) (pa_cons (pe_tup (pa_cons (pe_op op_sub (pe_op op_powX pe_int pe_int) pe_int) pa_nil)) pa_nil)))) pa_nil)))
      (pss_one (ps_ret (pe_cmpR (show OpR _ (compareOp .Eq) (rEqD K) from op_eqD hr.units) (pe_lcL (own := [("_law_call", 5)]) (g := gName 5) rfl sc_law.nd (pi_list (pv 4)) (blkOk_by (own := [("_law_call", 5)]) (N := n_law) (sc := defScope s_law) (by decide +kernel)) (fun _ _ _ _ _ => pg_name (i := 5) sc_law.nd rfl (Or.inl rfl)) (fun _ _ _ _ _ _ _ J hfp => pe_metB J hfp T.F__law_called sc__law_called rfl (Or.inl rfl) (met__law_called T) T.b__law_called rfl T.m__law_called (hr.mono (by decide)) hg (pa_cons (pv 5) pa_nil))) (pe_lst (pa_cons pe_str (pa_cons pe_str (pa_cons pe_str (pa_cons pe_str (pa_cons pe_str pa_nil)))))) (nomark _)))))))))), ?_⟩
    have st : L2.start n_law [V.ref sc] = [some (.ref sc), none, none, none, none, none] := rfl
    rw [st]
    walk_at "go"
    refine for_range (fun i σ H' => Stop (∃ v1 v2 v3 : Option V, σ = [some (.ref sc), v1, v2, v3, none, none] ∧ SqL K H' sc (ns.map V.int) ∧ Tabs (TL A) H')) ⟨⟨_, _, _, rfl, hS, hT⟩⟩ ?_ ?_
    · rintro i σ H3 hi ⟨⟨v1, v2, v3, rfl, hS3, hT3⟩⟩
      walk_at "go"
      rename_i b Hb hb sb Bb
      refine for_range (fun i' σ H' => Stop (∃ (v3 : Option V), σ = [some (.ref sc), some (.int (0 + (i : Int))), some (.ref b), v3, none, none] ∧ ExtL b Hb H' ∧ Bowl H' b ∧ Tabs (TL A) H')) ⟨⟨_, rfl, ExtL.refl, Bb, tabs_same sb hT3⟩⟩ ?_ ?_
      · rintro i' σ H4 hi' ⟨⟨w3, rfl, x4, B4, T4⟩⟩
        walk_at "go"
        rename_i H5 x5 B5 T5
        exact ⟨⟨_, rfl, x4.trans x5, B5, T5⟩⟩
      · rintro σ H4 ⟨⟨w3, rfl, x4, B4, T4⟩⟩
        exact ⟨⟨_, _, _, rfl, sqL_extN (extN_back hb sb x4) hS3, T4⟩⟩
    · rintro σ H3 ⟨⟨v1, v2, v3, rfl, hS3, hT3⟩⟩
      refine ⟨hT3, fun w1 G1 e1 T1 L1 => ⟨Nat.le_trans (m := 1) (Nat.le_of_eq rfl) (by decide +kernel), fun l nl => ?_⟩⟩
      have q1 : Same G1 (upd G1 l (HO.lst [w1])) := same_new nl
      have T1 := tabs_same q1 T1
      have L1 := L1.ext (ExtN.of q1)
      have g1 : upd G1 l (HO.lst [w1]) l = some (HO.lst [w1]) := upd_same
      refine app_lams (ts' := [_, _, _, _]) (l := l) rfl g1 L1 T1 (Nat.le_trans (m := 5) (Nat.le_of_eq rfl) (by decide +kernel)) (fun ws G9 lw g9 x9 T9 LL => ?_)
      have s0 : Short 0 := ⟨by decide, by decide⟩
      have s1 : Short 1 := ⟨by decide, by decide⟩
      have s2 : Short 2 := ⟨by decide, by decide⟩
      have sA : Short (10 ^ (60 : Int).toNat - 1) := ⟨by decide +kernel, by decide +kernel⟩
      have sB : Short (1 - 10 ^ (60 : Int).toNat) := ⟨by decide +kernel, by decide +kernel⟩
      have cp60 : CPowX 10 60 := ⟨by decide, by decide +kernel⟩
      have cp12 : CPowX 10 12 := ⟨by decide, by decide +kernel⟩
      have shp := shp_strs ["", "", "", "operation", ""] (by decide +kernel)
      refine op_in ?_
      refine lc_met (c := 4) (j := 5) (σ := [some (.ref sc), v1, v2, v3, some (.ref l), none]) (due := ["", "", "", "operation", ""]) (l := l) rfl g9 LL (Nat.lt_of_lt_of_le (m := 6) (by decide) (Nat.le_of_eq rfl)) (len_line (m := 5) lw) rfl (RunsAll.get (runs_cons (run_fine fun E H1 Q s e => ⟨_, _, rfl, rfl, cp60, _, _, rfl, rfl, _, _, rfl, rfl, cp60, _, _, rfl, rfl, fun p dx np nd nn => .inl ⟨p, dx, _, _, 10 ^ (60 : Int).toNat - 1, 10 ^ (60 : Int).toNat - 1, rfl, upd_same, .int sA, .int sA, by decide +kernel, by decide +kernel, by decide +kernel, fun H2 L kp => ⟨rfl, e _ _ (made np nd kp)⟩⟩⟩)
        (runs_cons (run_fine fun E H1 Q s e => ⟨_, _, rfl, rfl, cp60, _, _, rfl, rfl, fun p dx np nd nn => .inl ⟨p, dx, _, _, 1 - 10 ^ (60 : Int).toNat, 1, rfl, upd_same, .int sB, .int s1, by decide +kernel, by decide +kernel, by decide +kernel, fun H2 L kp => ⟨rfl, e _ _ (made np nd kp)⟩⟩⟩)
        (runs_cons (run_fine fun E H1 Q s e => .inl ⟨_, _, 0, 1, rfl, .int s0, .int s1, by decide +kernel, by decide +kernel, by decide, by decide, fun _ H2 s2 _ _ _ => e _ _ s2⟩)
        (runs_cons (run_op fun E H1 Q s e => .inr ⟨_, _, rfl, .inr ⟨0, 2, rfl, rfl, s0, s2, by decide, by decide, e⟩⟩)
        (runs_cons (run_fine fun E H1 Q s e => ⟨_, _, rfl, rfl, cp12, _, _, rfl, rfl, Nat.le_trans (m := 1) (Nat.le_of_eq rfl) (by decide +kernel), fun p np => .inl ⟨p, [10 ^ (12 : Int).toNat - 1], rfl, SqT.of upd_same, by decide, by decide, by decide +kernel, by decide, by decide +kernel, fun q H2 s2 _ => e _ _ ((same_new np).trans s2)⟩⟩)
        runs_nil)))))) (fun D H4 nD sD gD => ?_)
      refine ⟨Nat.le_trans (m := 5) (Nat.le_of_eq rfl) (by decide +kernel), fun p np => ?_⟩
      refine ⟨PyData.list ((["", "", "", "operation", ""] : List Str).map PyData.str), PyData.list ((["", "", "", "operation", ""] : List Str).map PyData.str), .lst (SqL.of ((same_new np) _ _ gD)) (dpAll_strs _), .lst (xs := (["", "", "", "operation", ""] : List Str).map V.str) (SqL.of upd_same) (dpAll_strs ["", "", "", "operation", ""]), shp, shp, ?_⟩
      rw [eqv_self shp]
      exact k _
end
end Tk

set_option maxHeartbeats 4000000
namespace Tk
open PySem PySem.Spec PyProof.Rows L2 Tc
theorem end_of {w : World} {K : PySem.W.Frag} {h : Heap} {mg : Str → Option Value} {A : Ad} (T : Txt K mg A)
    (t1 : ∀ p ∈ [(A.cd__law_right, A.tb__law_right), (A.cd_law, A.tb_law)], h.get? p.2 = some { cls := .none, data := .fields #[] }) (t2 : ∀ p ∈ [(A.cd__law_right, A.tb__law_right), (A.cd_law, A.tb_law)], K.lookup p.2 = none) (t3 : ∀ p ∈ [(A.cd__law_right, A.tb__law_right), (A.cd_law, A.tb_law)], PySem.W.codeHdIn K p.1 p.2 = true) (bi : ∀ (s : Shared) (u : Value), BindsTo s A.d_law ⟨[u], []⟩ [("_law_script", u)])
    : ∃ (fd : FuncData) (cs : List (Addr × Addr)) (sp : Sp), (∀ p ∈ cs, h.get? p.2 = some { cls := .none, data := .fields #[] }) ∧ (∀ p ∈ cs, K.lookup p.2 = none) ∧ (∀ p ∈ cs, PySem.W.codeHdIn K p.1 p.2 = true) ∧ (∀ (s : Shared) (u : Value), BindsTo s fd ⟨[u], []⟩ [("_law_script", u)]) ∧
      (∀ (H : Hp) (a : Addr) (ns : List Int), ns.length ≤ 63 → (∀ p ∈ cs, H p.2 = some (.tbl #[])) → SqL K H a (ns.map V.int) → sp [.ref a] H (fun v _ => v = .bl true) fun _ _ _ => False) ∧
      ∀ base : Heap, K.In base → base.Ns mainGlobals mg → (∀ p ∈ cs, LamX.TabB base mg p.1 p.2) → FnG PW w K mg base CX0 14 A.f_law fd ["_law_script"] sp := by
  refine ⟨A.d_law, [(A.cd__law_right, A.tb__law_right), (A.cd_law, A.tb_law)], sp_law K A, t1, t2, t3, bi, fun H a ns hl hH hS => ?_, fun base _ _ hB => ok_law T (hB _ (.head _)) (hB _ (.tail _ (.head _)))⟩
  exact ⟨a, ns, rfl, hS, hl, fun p hp => by
      unfold TL at hp
      simp only [List.mem_cons, List.not_mem_nil, or_false] at hp
      rcases hp with rfl | rfl
      · exact LamX.TabS.nil (hH _ (.head _))
      · exact LamX.TabS.nil (hH _ (.tail _ (.head _))), fun _ => rfl⟩
theorem all_mk {w : World} {K : PySem.W.Frag} {h : Heap} {mg : Str → Option Value} {fa : Addr} (X : K.In h) (G : h.Ns mainGlobals mg) (hfa : mg "law" = some (.ref fa))
    {C_Long C_Ladder C_InvalidOperation C_InvalidNumber f0 f1 f2 f3 f4 f5 f6 f7 f8 f9 f10 f11 f12 f13 f14 f15 f16 f17 f18 f19 f20 f21 f22 f23 f24 f25 f26 f27 f28 f29 f30 p7 p8 p9 : Addr} {od0 an0 od1 an1 od2 an2 od3 an3 od4 an4 od5 an5 od6 an6 od7 an7 od8 an8 od9 an9 od10 an10 od11 an11 od12 an12 od13 an13 od14 an14 od15 an15 od16 an16 od17 an17 od18 an18 od19 an19 od20 an20 od21 an21 od22 an22 od23 an23 od24 an24 od25 an25 od26 an26 od27 an27 od28 an28 od29 an29 od30 an30 : Option Addr} {sl0 sl1 sl2 sl3 sl4 sl5 sl6 sl7 sl8 sl9 sl10 sl11 sl12 sl13 sl14 sl15 sl16 sl17 sl18 sl19 sl20 sl21 sl22 sl23 sl24 sl25 sl26 sl27 sl28 sl29 sl30 : Array (Option Value)} {oc0 kV0 dc0 pm0 cd0 ct0 oc1 kV1 dc1 pm1 cd1 ct1 oc2 kV2 dc2 pm2 cd2 ct2 oc3 kV3 dc3 pm3 cd3 ct3 oc4 kV4 dc4 pm4 cd4 ct4 oc5 kV5 dc5 pm5 cd5 ct5 oc6 kV6 dc6 pm6 cd6 ct6 oc7 kV7 dc7 pm7 cd7 ct7 oc8 kV8 dc8 pm8 cd8 ct8 oc9 kV9 dc9 pm9 cd9 ct9 oc10 kV10 dc10 pm10 cd10 ct10 oc11 kV11 dc11 pm11 cd11 ct11 oc12 kV12 dc12 pm12 cd12 ct12 oc13 kV13 dc13 pm13 cd13 ct13 oc14 kV14 dc14 pm14 cd14 ct14 oc15 kV15 dc15 pm15 cd15 ct15 oc16 kV16 dc16 pm16 cd16 ct16 oc17 kV17 dc17 pm17 cd17 ct17 oc18 kV18 dc18 pm18 cd18 ct18 oc19 kV19 dc19 pm19 cd19 ct19 oc20 kV20 dc20 pm20 cd20 ct20 oc21 kV21 dc21 pm21 cd21 ct21 oc22 kV22 dc22 pm22 cd22 ct22 oc23 kV23 dc23 pm23 cd23 ct23 oc24 kV24 dc24 pm24 cd24 ct24 oc25 kV25 dc25 pm25 cd25 ct25 oc26 kV26 dc26 pm26 cd26 ct26 oc27 kV27 dc27 pm27 cd27 ct27 oc28 kV28 dc28 pm28 cd28 ct28 oc29 kV29 dc29 pm29 ct29 oc30 kV30 dc30 pm30 ct30 : Value} {rs7 rs8 rs9 : List Value} {tk__TOO_LONG tk__TOO_LONG_QUOTIENT tk__MAX_QUOTIENTS tfi_InvalidNumber : Tok} {mc29 tb29 mc30 tb30 fi_InvalidNumber cdi_InvalidNumber cci_InvalidNumber : Addr} {mo29 mo30 oci_InvalidNumber dci_InvalidNumber pmi_InvalidNumber cti_InvalidNumber cli_InvalidNumber cki_InvalidNumber : Value} {mp29 mp30 odi_InvalidNumber ani_InvalidNumber cldi_InvalidNumber cpi_InvalidNumber : Option Addr} {ms29 ms30 sli_InvalidNumber csi_InvalidNumber cqi_InvalidNumber : Array (Option Value)} {mv29 mv30 vsi_InvalidNumber : Array Value} {fli_InvalidNumber : Str} {cdD_InvalidNumber : ClassData}
    (aC_Long : PySem.W.nsIn K mainGlobals "Long" = some (some (.ref C_Long)))
    (aC_Ladder : PySem.W.nsIn K mainGlobals "Ladder" = some (some (.ref C_Ladder)))
    (aC_InvalidOperation : PySem.W.nsIn K mainGlobals "InvalidOperation" = some (some (.ref C_InvalidOperation)))
    (aC_InvalidNumber : PySem.W.nsIn K mainGlobals "InvalidNumber" = some (some (.ref C_InvalidNumber)))
    (a0 : PySem.W.findIn K (.ref C_Long) "__init__" = some (some (.ref f0)))
    (i0 : PySem.W.isFn K (.ref f0) = true)
    (l0 : K.lookup f0 = some ⟨oc0, od0, .func (PySem.W.fnOf "__init__" "Long.__init__" (defArgs s_Long___init__) (defBody s_Long___init__) (defScope s_Long___init__) .none kV0 dc0 pm0 an0 cd0 ct0), sl0⟩)
    (c0 : PySem.W.codeIn K cd0 "Long.__init__" = true)
    (k0 : PySem.W.keepIn K (.ref f0) = true)
    (a1 : PySem.W.nsIn K mainGlobals "is_short_integer" = some (some (.ref f1)))
    (l1 : K.lookup f1 = some ⟨oc1, od1, .func (PySem.W.fnOf "is_short_integer" "is_short_integer" (defArgs s_is_short_integer) (defBody s_is_short_integer) (defScope s_is_short_integer) .none kV1 dc1 pm1 an1 cd1 ct1), sl1⟩)
    (c1 : PySem.W.codeIn K cd1 "is_short_integer" = true)
    (k1 : PySem.W.keepIn K (.ref f1) = true)
    (a2 : PySem.W.nsIn K mainGlobals "checked_integer" = some (some (.ref f2)))
    (l2 : K.lookup f2 = some ⟨oc2, od2, .func (PySem.W.fnOf "checked_integer" "checked_integer" (defArgs s_checked_integer) (defBody s_checked_integer) (defScope s_checked_integer) .none kV2 dc2 pm2 an2 cd2 ct2), sl2⟩)
    (c2 : PySem.W.codeIn K cd2 "checked_integer" = true)
    (k2 : PySem.W.keepIn K (.ref f2) = true)
    (a3 : PySem.W.nsIn K mainGlobals "checked_from" = some (some (.ref f3)))
    (l3 : K.lookup f3 = some ⟨oc3, od3, .func (PySem.W.fnOf "checked_from" "checked_from" (defArgs s_checked_from) (defBody s_checked_from) (defScope s_checked_from) .none kV3 dc3 pm3 an3 cd3 ct3), sl3⟩)
    (c3 : PySem.W.codeIn K cd3 "checked_from" = true)
    (k3 : PySem.W.keepIn K (.ref f3) = true)
    (a4 : PySem.W.nsIn K mainGlobals "checked_pair" = some (some (.ref f4)))
    (l4 : K.lookup f4 = some ⟨oc4, od4, .func (PySem.W.fnOf "checked_pair" "checked_pair" (defArgs s_checked_pair) (defBody s_checked_pair) (defScope s_checked_pair) .none kV4 dc4 pm4 an4 cd4 ct4), sl4⟩)
    (c4 : PySem.W.codeIn K cd4 "checked_pair" = true)
    (k4 : PySem.W.keepIn K (.ref f4) = true)
    (a5 : PySem.W.nsIn K mainGlobals "inverse_or_none" = some (some (.ref f5)))
    (l5 : K.lookup f5 = some ⟨oc5, od5, .func (PySem.W.fnOf "inverse_or_none" "inverse_or_none" (defArgs s_inverse_or_none) (defBody s_inverse_or_none) (defScope s_inverse_or_none) .none kV5 dc5 pm5 an5 cd5 ct5), sl5⟩)
    (c5 : PySem.W.codeIn K cd5 "inverse_or_none" = true)
    (k5 : PySem.W.keepIn K (.ref f5) = true)
    (a6 : PySem.W.findIn K (.ref C_Ladder) "__init__" = some (some (.ref f6)))
    (i6 : PySem.W.isFn K (.ref f6) = true)
    (l6 : K.lookup f6 = some ⟨oc6, od6, .func (PySem.W.fnOf "__init__" "Ladder.__init__" (defArgs s_Ladder___init__) (defBody s_Ladder___init__) (defScope s_Ladder___init__) .none kV6 dc6 pm6 an6 cd6 ct6), sl6⟩)
    (c6 : PySem.W.codeIn K cd6 "Ladder.__init__" = true)
    (k6 : PySem.W.keepIn K (.ref f6) = true)
    (a7 : PySem.W.findIn K (.ref C_Ladder) "a" = some (some (.ref p7)))
    (pg7 : PySem.W.specialIn K (.ref p7) "__get__" = some (some (.builtin "property.__get__")))
    (pt7 : PySem.W.takesIn K (.ref p7) = some true)
    (pr7 : PySem.W.recIn K p7 "property" = some (.ref f7 :: rs7))
    (l7 : K.lookup f7 = some ⟨oc7, od7, .func (PySem.W.fnOf "a" "Ladder.a" (defArgs s_Ladder_a) (defBody s_Ladder_a) (defScope s_Ladder_a) .none kV7 dc7 pm7 an7 cd7 ct7), sl7⟩)
    (c7 : PySem.W.codeIn K cd7 "Ladder.a" = true)
    (k7 : PySem.W.keepIn K (.ref f7) = true)
    (a8 : PySem.W.findIn K (.ref C_Ladder) "b" = some (some (.ref p8)))
    (pg8 : PySem.W.specialIn K (.ref p8) "__get__" = some (some (.builtin "property.__get__")))
    (pt8 : PySem.W.takesIn K (.ref p8) = some true)
    (pr8 : PySem.W.recIn K p8 "property" = some (.ref f8 :: rs8))
    (l8 : K.lookup f8 = some ⟨oc8, od8, .func (PySem.W.fnOf "b" "Ladder.b" (defArgs s_Ladder_b) (defBody s_Ladder_b) (defScope s_Ladder_b) .none kV8 dc8 pm8 an8 cd8 ct8), sl8⟩)
    (c8 : PySem.W.codeIn K cd8 "Ladder.b" = true)
    (k8 : PySem.W.keepIn K (.ref f8) = true)
    (a9 : PySem.W.findIn K (.ref C_Ladder) "quotients" = some (some (.ref p9)))
    (pg9 : PySem.W.specialIn K (.ref p9) "__get__" = some (some (.builtin "property.__get__")))
    (pt9 : PySem.W.takesIn K (.ref p9) = some true)
    (pr9 : PySem.W.recIn K p9 "property" = some (.ref f9 :: rs9))
    (l9 : K.lookup f9 = some ⟨oc9, od9, .func (PySem.W.fnOf "quotients" "Ladder.quotients" (defArgs s_Ladder_quotients) (defBody s_Ladder_quotients) (defScope s_Ladder_quotients) .none kV9 dc9 pm9 an9 cd9 ct9), sl9⟩)
    (c9 : PySem.W.codeIn K cd9 "Ladder.quotients" = true)
    (k9 : PySem.W.keepIn K (.ref f9) = true)
    (a10 : PySem.W.findIn K (.ref C_Ladder) "shifted" = some (some (.ref f10)))
    (i10 : PySem.W.isFn K (.ref f10) = true)
    (l10 : K.lookup f10 = some ⟨oc10, od10, .func (PySem.W.fnOf "shifted" "Ladder.shifted" (defArgs s_Ladder_shifted) (defBody s_Ladder_shifted) (defScope s_Ladder_shifted) .none kV10 dc10 pm10 an10 cd10 ct10), sl10⟩)
    (c10 : PySem.W.codeIn K cd10 "Ladder.shifted" = true)
    (k10 : PySem.W.keepIn K (.ref f10) = true)
    (a11 : PySem.W.findIn K (.ref C_Ladder) "exchanged" = some (some (.ref f11)))
    (i11 : PySem.W.isFn K (.ref f11) = true)
    (l11 : K.lookup f11 = some ⟨oc11, od11, .func (PySem.W.fnOf "exchanged" "Ladder.exchanged" (defArgs s_Ladder_exchanged) (defBody s_Ladder_exchanged) (defScope s_Ladder_exchanged) .none kV11 dc11 pm11 an11 cd11 ct11), sl11⟩)
    (c11 : PySem.W.codeIn K cd11 "Ladder.exchanged" = true)
    (k11 : PySem.W.keepIn K (.ref f11) = true)
    (a12 : PySem.W.findIn K (.ref C_Ladder) "__getitem__" = some (some (.ref f12)))
    (i12 : PySem.W.isFn K (.ref f12) = true)
    (l12 : K.lookup f12 = some ⟨oc12, od12, .func (PySem.W.fnOf "__getitem__" "Ladder.__getitem__" (defArgs s_Ladder___getitem__) (defBody s_Ladder___getitem__) (defScope s_Ladder___getitem__) .none kV12 dc12 pm12 an12 cd12 ct12), sl12⟩)
    (c12 : PySem.W.codeIn K cd12 "Ladder.__getitem__" = true)
    (k12 : PySem.W.keepIn K (.ref f12) = true)
    (a13 : PySem.W.findIn K (.ref C_Ladder) "__len__" = some (some (.ref f13)))
    (i13 : PySem.W.isFn K (.ref f13) = true)
    (l13 : K.lookup f13 = some ⟨oc13, od13, .func (PySem.W.fnOf "__len__" "Ladder.__len__" (defArgs s_Ladder___len__) (defBody s_Ladder___len__) (defScope s_Ladder___len__) .none kV13 dc13 pm13 an13 cd13 ct13), sl13⟩)
    (c13 : PySem.W.codeIn K cd13 "Ladder.__len__" = true)
    (k13 : PySem.W.keepIn K (.ref f13) = true)
    (a14 : PySem.W.findIn K (.ref C_Ladder) "__eq__" = some (some (.ref f14)))
    (i14 : PySem.W.isFn K (.ref f14) = true)
    (l14 : K.lookup f14 = some ⟨oc14, od14, .func (PySem.W.fnOf "__eq__" "Ladder.__eq__" (defArgs s_Ladder___eq__) (defBody s_Ladder___eq__) (defScope s_Ladder___eq__) .none kV14 dc14 pm14 an14 cd14 ct14), sl14⟩)
    (c14 : PySem.W.codeIn K cd14 "Ladder.__eq__" = true)
    (k14 : PySem.W.keepIn K (.ref f14) = true)
    (a15 : PySem.W.nsIn K mainGlobals "common_factor" = some (some (.ref f15)))
    (l15 : K.lookup f15 = some ⟨oc15, od15, .func (PySem.W.fnOf "common_factor" "common_factor" (defArgs s_common_factor) (defBody s_common_factor) (defScope s_common_factor) .none kV15 dc15 pm15 an15 cd15 ct15), sl15⟩)
    (c15 : PySem.W.codeIn K cd15 "common_factor" = true)
    (k15 : PySem.W.keepIn K (.ref f15) = true)
    (a16 : PySem.W.nsIn K mainGlobals "inverse_of" = some (some (.ref f16)))
    (l16 : K.lookup f16 = some ⟨oc16, od16, .func (PySem.W.fnOf "inverse_of" "inverse_of" (defArgs s_inverse_of) (defBody s_inverse_of) (defScope s_inverse_of) .none kV16 dc16 pm16 an16 cd16 ct16), sl16⟩)
    (c16 : PySem.W.codeIn K cd16 "inverse_of" = true)
    (k16 : PySem.W.keepIn K (.ref f16) = true)
    (a17 : PySem.W.nsIn K mainGlobals "are_coprime" = some (some (.ref f17)))
    (l17 : K.lookup f17 = some ⟨oc17, od17, .func (PySem.W.fnOf "are_coprime" "are_coprime" (defArgs s_are_coprime) (defBody s_are_coprime) (defScope s_are_coprime) .none kV17 dc17 pm17 an17 cd17 ct17), sl17⟩)
    (c17 : PySem.W.codeIn K cd17 "are_coprime" = true)
    (k17 : PySem.W.keepIn K (.ref f17) = true)
    (a18 : PySem.W.nsIn K mainGlobals "pair_from" = some (some (.ref f18)))
    (l18 : K.lookup f18 = some ⟨oc18, od18, .func (PySem.W.fnOf "pair_from" "pair_from" (defArgs s_pair_from) (defBody s_pair_from) (defScope s_pair_from) .none kV18 dc18 pm18 an18 cd18 ct18), sl18⟩)
    (c18 : PySem.W.codeIn K cd18 "pair_from" = true)
    (k18 : PySem.W.keepIn K (.ref f18) = true)
    (a19 : PySem.W.nsIn K mainGlobals "_are_quotients" = some (some (.ref f19)))
    (l19 : K.lookup f19 = some ⟨oc19, od19, .func (PySem.W.fnOf "_are_quotients" "_are_quotients" (defArgs s__are_quotients) (defBody s__are_quotients) (defScope s__are_quotients) .none kV19 dc19 pm19 an19 cd19 ct19), sl19⟩)
    (c19 : PySem.W.codeIn K cd19 "_are_quotients" = true)
    (k19 : PySem.W.keepIn K (.ref f19) = true)
    (a20 : PySem.W.nsIn K mainGlobals "_euclid_steps" = some (some (.ref f20)))
    (l20 : K.lookup f20 = some ⟨oc20, od20, .func (PySem.W.fnOf "_euclid_steps" "_euclid_steps" (defArgs s__euclid_steps) (defBody s__euclid_steps) (defScope s__euclid_steps) .none kV20 dc20 pm20 an20 cd20 ct20), sl20⟩)
    (c20 : PySem.W.codeIn K cd20 "_euclid_steps" = true)
    (k20 : PySem.W.keepIn K (.ref f20) = true)
    (a21 : PySem.W.nsIn K mainGlobals "_convergents_of" = some (some (.ref f21)))
    (l21 : K.lookup f21 = some ⟨oc21, od21, .func (PySem.W.fnOf "_convergents_of" "_convergents_of" (defArgs s__convergents_of) (defBody s__convergents_of) (defScope s__convergents_of) .none kV21 dc21 pm21 an21 cd21 ct21), sl21⟩)
    (c21 : PySem.W.codeIn K cd21 "_convergents_of" = true)
    (k21 : PySem.W.keepIn K (.ref f21) = true)
    (a22 : PySem.W.nsIn K mainGlobals "_law_bowl" = some (some (.ref f22)))
    (l22 : K.lookup f22 = some ⟨oc22, od22, .func (PySem.W.fnOf "_law_bowl" "_law_bowl" (defArgs s__law_bowl) (defBody s__law_bowl) (defScope s__law_bowl) .none kV22 dc22 pm22 an22 cd22 ct22), sl22⟩)
    (c22 : PySem.W.codeIn K cd22 "_law_bowl" = true)
    (k22 : PySem.W.keepIn K (.ref f22) = true)
    (a23 : PySem.W.nsIn K mainGlobals "_law_sip" = some (some (.ref f23)))
    (l23 : K.lookup f23 = some ⟨oc23, od23, .func (PySem.W.fnOf "_law_sip" "_law_sip" (defArgs s__law_sip) (defBody s__law_sip) (defScope s__law_sip) .none kV23 dc23 pm23 an23 cd23 ct23), sl23⟩)
    (c23 : PySem.W.codeIn K cd23 "_law_sip" = true)
    (k23 : PySem.W.keepIn K (.ref f23) = true)
    (a24 : PySem.W.nsIn K mainGlobals "_law_great" = some (some (.ref f24)))
    (l24 : K.lookup f24 = some ⟨oc24, od24, .func (PySem.W.fnOf "_law_great" "_law_great" (defArgs s__law_great) (defBody s__law_great) (defScope s__law_great) .none kV24 dc24 pm24 an24 cd24 ct24), sl24⟩)
    (c24 : PySem.W.codeIn K cd24 "_law_great" = true)
    (k24 : PySem.W.keepIn K (.ref f24) = true)
    (a25 : PySem.W.nsIn K mainGlobals "_law_pair" = some (some (.ref f25)))
    (l25 : K.lookup f25 = some ⟨oc25, od25, .func (PySem.W.fnOf "_law_pair" "_law_pair" (defArgs s__law_pair) (defBody s__law_pair) (defScope s__law_pair) .none kV25 dc25 pm25 an25 cd25 ct25), sl25⟩)
    (c25 : PySem.W.codeIn K cd25 "_law_pair" = true)
    (k25 : PySem.W.keepIn K (.ref f25) = true)
    (a26 : PySem.W.nsIn K mainGlobals "_law_one_of" = some (some (.ref f26)))
    (l26 : K.lookup f26 = some ⟨oc26, od26, .func (PySem.W.fnOf "_law_one_of" "_law_one_of" (defArgs s__law_one_of) (defBody s__law_one_of) (defScope s__law_one_of) .none kV26 dc26 pm26 an26 cd26 ct26), sl26⟩)
    (c26 : PySem.W.codeIn K cd26 "_law_one_of" = true)
    (k26 : PySem.W.keepIn K (.ref f26) = true)
    (a27 : PySem.W.nsIn K mainGlobals "_law_called" = some (some (.ref f27)))
    (l27 : K.lookup f27 = some ⟨oc27, od27, .func (PySem.W.fnOf "_law_called" "_law_called" (defArgs s__law_called) (defBody s__law_called) (defScope s__law_called) .none kV27 dc27 pm27 an27 cd27 ct27), sl27⟩)
    (c27 : PySem.W.codeIn K cd27 "_law_called" = true)
    (k27 : PySem.W.keepIn K (.ref f27) = true)
    (a28 : PySem.W.nsIn K mainGlobals "_law_common" = some (some (.ref f28)))
    (l28 : K.lookup f28 = some ⟨oc28, od28, .func (PySem.W.fnOf "_law_common" "_law_common" (defArgs s__law_common) (defBody s__law_common) (defScope s__law_common) .none kV28 dc28 pm28 an28 cd28 ct28), sl28⟩)
    (c28 : PySem.W.codeIn K cd28 "_law_common" = true)
    (k28 : PySem.W.keepIn K (.ref f28) = true)
    (a29 : PySem.W.nsIn K mainGlobals "_law_right" = some (some (.ref f29)))
    (l29 : K.lookup f29 = some ⟨oc29, od29, .func (PySem.W.fnOf "_law_right" "_law_right" (defArgs s__law_right) (defBody s__law_right) (defScope s__law_right) .none kV29 dc29 pm29 an29 (.ref mc29) ct29), sl29⟩)
    (c29 : PySem.W.codeIn K (.ref mc29) "_law_right" = true)
    (mk29 : K.lookup mc29 = some ⟨mo29, mp29, .fields mv29, ms29⟩)
    (mt29 : mv29[11]? = some (.ref tb29))
    (mh29 : PySem.W.codeHdIn K mc29 tb29 = true)
    (mn29 : K.lookup tb29 = none)
    (mg29 : h.get? tb29 = some ({ cls := .none, data := .fields #[] } : Obj))
    (k29 : PySem.W.keepIn K (.ref f29) = true)
    (a30 : PySem.W.nsIn K mainGlobals "law" = some (some (.ref f30)))
    (l30 : K.lookup f30 = some ⟨oc30, od30, .func (PySem.W.fnOf "law" "law" (defArgs s_law) (defBody s_law) (defScope s_law) .none kV30 dc30 pm30 an30 (.ref mc30) ct30), sl30⟩)
    (c30 : PySem.W.codeIn K (.ref mc30) "law" = true)
    (mk30 : K.lookup mc30 = some ⟨mo30, mp30, .fields mv30, ms30⟩)
    (mt30 : mv30[11]? = some (.ref tb30))
    (mh30 : PySem.W.codeHdIn K mc30 tb30 = true)
    (mn30 : K.lookup tb30 = none)
    (mg30 : h.get? tb30 = some ({ cls := .none, data := .fields #[] } : Obj))
    (k30 : PySem.W.keepIn K (.ref f30) = true)
    (pgC_Long : PySem.W.plainGet K C_Long Str.empty = true)
    (hdC_Long : PySem.W.hasDictIn K C_Long = true)
    (poC_Long : PySem.W.plainOver K C_Long = true)
    (saC_Long : PySem.W.findIn K (.ref C_Long) "__setattr__" = some (some (.builtin "object.__setattr__")))
    (kC_Long : PySem.W.keepIn K (.ref C_Long) = true)
    (mkC_Long : PySem.W.makesIn K C_Long = true)
    (ic_Long : PySem.W.isClsIn K C_Long = true)
    (ty_Long : PySem.W.typeIn K (.ref C_Long) = some (.type "type"))
    (cl_Long : PySem.W.findIn K (.ref C_Long) "__class__" = some (some (.builtin "object.__class__")))
    (ob_Long : PySem.W.mroIn K C_Long (.type "object") = some true)
    (oi_Long : PySem.W.mroIn K C_Long (.type "int") = some false)
    (na_Long_number : PySem.W.findIn K (.ref C_Long) "number" = some none)
    (pgC_Ladder : PySem.W.plainGet K C_Ladder Str.empty = true)
    (hdC_Ladder : PySem.W.hasDictIn K C_Ladder = true)
    (poC_Ladder : PySem.W.plainOver K C_Ladder = true)
    (saC_Ladder : PySem.W.findIn K (.ref C_Ladder) "__setattr__" = some (some (.builtin "object.__setattr__")))
    (kC_Ladder : PySem.W.keepIn K (.ref C_Ladder) = true)
    (mkC_Ladder : PySem.W.makesIn K C_Ladder = true)
    (ic_Ladder : PySem.W.isClsIn K C_Ladder = true)
    (ty_Ladder : PySem.W.typeIn K (.ref C_Ladder) = some (.type "type"))
    (cl_Ladder : PySem.W.findIn K (.ref C_Ladder) "__class__" = some (some (.builtin "object.__class__")))
    (ob_Ladder : PySem.W.mroIn K C_Ladder (.type "object") = some true)
    (oi_Ladder : PySem.W.mroIn K C_Ladder (.type "int") = some false)
    (na_Ladder__a : PySem.W.findIn K (.ref C_Ladder) "_a" = some none)
    (na_Ladder__b : PySem.W.findIn K (.ref C_Ladder) "_b" = some none)
    (na_Ladder__quotients : PySem.W.findIn K (.ref C_Ladder) "_quotients" = some none)
    (na_Ladder__remainders : PySem.W.findIn K (.ref C_Ladder) "_remainders" = some none)
    (sg : PySem.W.specialIn K (.builtin "object.__class__") "__get__" = some (some (.builtin "getset_descriptor.__get__")))
    (tk : PySem.W.takesIn K (.builtin "object.__class__") = some true)
    (xC_InvalidOperation : PySem.W.excIn K C_InvalidOperation [.type "ValueError", .type "Exception", .type "BaseException", .type "object"] "ValueError.__new__" = true)
    (kC_InvalidOperation : PySem.W.keepIn K (.ref C_InvalidOperation) = true)
    (sbC_InvalidOperation : PySem.W.subIn K (.ref C_InvalidOperation) (.type "BaseException") = some true)
    (ty_InvalidOperation : PySem.W.typeIn K (.ref C_InvalidOperation) = some (.type "type"))
    (icx_InvalidOperation : PySem.W.isClsIn K C_InvalidOperation = true)
    (su_InvalidOperation_InvalidOperation : PySem.W.subIn K (.ref C_InvalidOperation) (.ref C_InvalidOperation) = some true)
    (su_InvalidOperation_InvalidNumber : PySem.W.subIn K (.ref C_InvalidOperation) (.ref C_InvalidNumber) = some false)
    (eiC_InvalidNumber : PySem.W.excInitIn K C_InvalidNumber [.type "IndexError", .type "LookupError", .type "Exception", .type "BaseException", .type "object"] "IndexError.__new__" = true)
    (ovC_InvalidNumber : PySem.W.excOver K C_InvalidNumber [.type "IndexError", .type "LookupError", .type "Exception", .type "BaseException", .type "object"] = true)
    (saC_InvalidNumber : PySem.W.findIn K (.ref C_InvalidNumber) "__setattr__" = some (some (.builtin "object.__setattr__")))
    (gaC_InvalidNumber : PySem.W.findIn K (.ref C_InvalidNumber) "__getattribute__" = some (some (.builtin "BaseException.__getattribute__")))
    (ggC_InvalidNumber : PySem.W.findIn K (.ref C_InvalidNumber) "__getattr__" = some none)
    (noC_InvalidNumber : PySem.W.findIn K (.ref C_InvalidNumber) "given" = some none)
    (iiC_InvalidNumber : PySem.W.findIn K (.ref C_InvalidNumber) "__init__" = some (some (.ref fi_InvalidNumber)))
    (tiC_InvalidNumber : PySem.W.typeIn K (.ref fi_InvalidNumber) = some (.type "function"))
    (kC_InvalidNumber : PySem.W.keepIn K (.ref C_InvalidNumber) = true)
    (sbC_InvalidNumber : PySem.W.subIn K (.ref C_InvalidNumber) (.type "BaseException") = some true)
    (ty_InvalidNumber : PySem.W.typeIn K (.ref C_InvalidNumber) = some (.type "type"))
    (hdC_InvalidNumber : PySem.W.hasDictIn K C_InvalidNumber = true)
    (suC_InvalidNumber : PySem.W.ks_superIn K C_InvalidNumber C_InvalidNumber "__init__" = some (some (.builtin "IndexError.__init__")))
    (sBC_InvalidNumber : PySem.W.subIn K (.ref C_InvalidNumber) (.type "IndexError") = some true)
    (mrC_InvalidNumber : PySem.W.mroIn K C_InvalidNumber (.ref C_InvalidNumber) = some true)
    (icx_InvalidNumber : PySem.W.isClsIn K C_InvalidNumber = true)
    (lI_InvalidNumber : K.lookup fi_InvalidNumber = some ⟨oci_InvalidNumber, odi_InvalidNumber, .func (PySem.W.ksFn "__init__" "InvalidNumber.__init__" (defArgs si_InvalidNumber) (defBody si_InvalidNumber) (defScope si_InvalidNumber) .none .none dci_InvalidNumber pmi_InvalidNumber ani_InvalidNumber (.ref cdi_InvalidNumber) cti_InvalidNumber cci_InvalidNumber), sli_InvalidNumber⟩)
    (ccI_InvalidNumber : PySem.W.codeIn K (.ref cdi_InvalidNumber) "InvalidNumber.__init__" = true)
    (clI_InvalidNumber : K.lookup cci_InvalidNumber = some ⟨cli_InvalidNumber, cldi_InvalidNumber, .cell (some (.ref C_InvalidNumber)), csi_InvalidNumber⟩)
    (coI_InvalidNumber : K.lookup cdi_InvalidNumber = some ⟨cki_InvalidNumber, cpi_InvalidNumber, .fields vsi_InvalidNumber, cqi_InvalidNumber⟩)
    (vsI_InvalidNumber : vsi_InvalidNumber[2]? = some (.str fli_InvalidNumber tfi_InvalidNumber))
    (fiI_InvalidNumber : ((PW.main.file : Str) == fli_InvalidNumber) = true)
    (cdI_InvalidNumber : PySem.W.clsIn K C_InvalidNumber = some cdD_InvalidNumber)
    (su_InvalidNumber_InvalidOperation : PySem.W.subIn K (.ref C_InvalidNumber) (.ref C_InvalidOperation) = some false)
    (su_InvalidNumber_InvalidNumber : PySem.W.subIn K (.ref C_InvalidNumber) (.ref C_InvalidNumber) = some true)
    (opS : PySem.W.nsIn K cStatics "thirdparty.any" = some none)
    (nsS : PySem.W.nsIn K mainGlobals "super" = some none)
    (ne_Ladder : PySem.W.findIn K (.ref C_Ladder) "__ne__" = some (some (.builtin "object.__ne__")))
    (z_len : PySem.W.nsIn K mainGlobals "len" = some none)
    (z_abs : PySem.W.nsIn K mainGlobals "abs" = some none)
    (z_max : PySem.W.nsIn K mainGlobals "max" = some none)
    (z_min : PySem.W.nsIn K mainGlobals "min" = some none)
    (z_isinstance : PySem.W.nsIn K mainGlobals "isinstance" = some none)
    (z_range : PySem.W.nsIn K mainGlobals "range" = some none)
    (z_int : PySem.W.nsIn K mainGlobals "int" = some none)
    (z_bool : PySem.W.nsIn K mainGlobals "bool" = some none)
    (z_tuple : PySem.W.nsIn K mainGlobals "tuple" = some none)
    (z_divmod : PySem.W.nsIn K mainGlobals "divmod" = some none)
    (z_repr : PySem.W.nsIn K mainGlobals "repr" = some none)
    (z_all : PySem.W.nsIn K mainGlobals "all" = some none)
    (v__TOO_LONG : PySem.W.nsIn K mainGlobals "_TOO_LONG" = some (some (.int (10 ^ 60) tk__TOO_LONG)))
    (v__TOO_LONG_QUOTIENT : PySem.W.nsIn K mainGlobals "_TOO_LONG_QUOTIENT" = some (some (.int (10 ^ 12) tk__TOO_LONG_QUOTIENT)))
    (v__MAX_QUOTIENTS : PySem.W.nsIn K mainGlobals "_MAX_QUOTIENTS" = some (some (.int (300) tk__MAX_QUOTIENTS)))
    (w_gcd : PySem.W.nsIn K mainGlobals "gcd" = some (some (.builtin "math.gcd")))
    (nt__law_right_law : tb29 ≠ tb30)
    : ∃ (fd : FuncData) (cs : List (Addr × Addr)) (sp : Sp), (∀ p ∈ cs, h.get? p.2 = some { cls := .none, data := .fields #[] }) ∧ (∀ p ∈ cs, K.lookup p.2 = none) ∧ (∀ p ∈ cs, PySem.W.codeHdIn K p.1 p.2 = true) ∧ (∀ (s : Shared) (u : Value), BindsTo s fd ⟨[u], []⟩ [("_law_script", u)]) ∧
      (∀ (H : Hp) (a : Addr) (ns : List Int), ns.length ≤ 63 → (∀ p ∈ cs, H p.2 = some (.tbl #[])) → SqL K H a (ns.map V.int) → sp [.ref a] H (fun v _ => v = .bl true) fun _ _ _ => False) ∧
      ∀ base : Heap, K.In base → base.Ns mainGlobals mg → (∀ p ∈ cs, LamX.TabB base mg p.1 p.2) → FnG PW w K mg base CX0 14 fa fd ["_law_script"] sp := by
  have e := hfa.symm.trans (PySem.W.mg_of X G a30)
  cases e
  have F0 := fun_mk (st := s_Long___init__) l0 c0 k0
  have b0 := F0.binds (ps := ["self", "number"]) fun _ _ _ _ _ _ us hl => match us, hl with | [_, _], _ => rfl
  have F1 := fun_mk (st := s_is_short_integer) l1 c1 k1
  have b1 := F1.binds (ps := ["value"]) fun _ _ _ _ _ _ us hl => match us, hl with | [_], _ => rfl
  have F2 := fun_mk (st := s_checked_integer) l2 c2 k2
  have b2 := F2.binds (ps := ["value"]) fun _ _ _ _ _ _ us hl => match us, hl with | [_], _ => rfl
  have F3 := fun_mk (st := s_checked_from) l3 c3 k3
  have b3 := F3.binds (ps := ["least", "value"]) fun _ _ _ _ _ _ us hl => match us, hl with | [_, _], _ => rfl
  have F4 := fun_mk (st := s_checked_pair) l4 c4 k4
  have b4 := F4.binds (ps := ["a", "b"]) fun _ _ _ _ _ _ us hl => match us, hl with | [_, _], _ => rfl
  have F5 := fun_mk (st := s_inverse_or_none) l5 c5 k5
  have b5 := F5.binds (ps := ["a", "b"]) fun _ _ _ _ _ _ us hl => match us, hl with | [_, _], _ => rfl
  have F6 := fun_mk (st := s_Ladder___init__) l6 c6 k6
  have b6 := F6.binds (ps := ["self", "a", "b"]) fun _ _ _ _ _ _ us hl => match us, hl with | [_, _, _], _ => rfl
  have F7 := fun_mk (st := s_Ladder_a) l7 c7 k7
  have b7 := F7.binds (ps := ["self"]) fun _ _ _ _ _ _ us hl => match us, hl with | [_], _ => rfl
  have F8 := fun_mk (st := s_Ladder_b) l8 c8 k8
  have b8 := F8.binds (ps := ["self"]) fun _ _ _ _ _ _ us hl => match us, hl with | [_], _ => rfl
  have F9 := fun_mk (st := s_Ladder_quotients) l9 c9 k9
  have b9 := F9.binds (ps := ["self"]) fun _ _ _ _ _ _ us hl => match us, hl with | [_], _ => rfl
  have F10 := fun_mk (st := s_Ladder_shifted) l10 c10 k10
  have b10 := F10.binds (ps := ["self", "times"]) fun _ _ _ _ _ _ us hl => match us, hl with | [_, _], _ => rfl
  have F11 := fun_mk (st := s_Ladder_exchanged) l11 c11 k11
  have b11 := F11.binds (ps := ["self"]) fun _ _ _ _ _ _ us hl => match us, hl with | [_], _ => rfl
  have F12 := fun_mk (st := s_Ladder___getitem__) l12 c12 k12
  have b12 := F12.binds (ps := ["self", "at"]) fun _ _ _ _ _ _ us hl => match us, hl with | [_, _], _ => rfl
  have F13 := fun_mk (st := s_Ladder___len__) l13 c13 k13
  have b13 := F13.binds (ps := ["self"]) fun _ _ _ _ _ _ us hl => match us, hl with | [_], _ => rfl
  have F14 := fun_mk (st := s_Ladder___eq__) l14 c14 k14
  have b14 := F14.binds (ps := ["self", "other"]) fun _ _ _ _ _ _ us hl => match us, hl with | [_, _], _ => rfl
  have F15 := fun_mk (st := s_common_factor) l15 c15 k15
  have b15 := F15.binds (ps := ["a", "b"]) fun _ _ _ _ _ _ us hl => match us, hl with | [_, _], _ => rfl
  have F16 := fun_mk (st := s_inverse_of) l16 c16 k16
  have b16 := F16.binds (ps := ["a", "b"]) fun _ _ _ _ _ _ us hl => match us, hl with | [_, _], _ => rfl
  have F17 := fun_mk (st := s_are_coprime) l17 c17 k17
  have b17 := F17.binds (ps := ["a", "b"]) fun _ _ _ _ _ _ us hl => match us, hl with | [_, _], _ => rfl
  have F18 := fun_mk (st := s_pair_from) l18 c18 k18
  have b18 := F18.binds (ps := ["quotients"]) fun _ _ _ _ _ _ us hl => match us, hl with | [_], _ => rfl
  have F19 := fun_mk (st := s__are_quotients) l19 c19 k19
  have b19 := F19.binds (ps := ["value"]) fun _ _ _ _ _ _ us hl => match us, hl with | [_], _ => rfl
  have F20 := fun_mk (st := s__euclid_steps) l20 c20 k20
  have b20 := F20.binds (ps := ["a", "b"]) fun _ _ _ _ _ _ us hl => match us, hl with | [_, _], _ => rfl
  have F21 := fun_mk (st := s__convergents_of) l21 c21 k21
  have b21 := F21.binds (ps := ["quotients"]) fun _ _ _ _ _ _ us hl => match us, hl with | [_], _ => rfl
  have F22 := fun_mk (st := s__law_bowl) l22 c22 k22
  have b22 := F22.binds (ps := ["_law_script", "_law_at"]) fun _ _ _ _ _ _ us hl => match us, hl with | [_, _], _ => rfl
  have F23 := fun_mk (st := s__law_sip) l23 c23 k23
  have b23 := F23.binds (ps := ["_law_bowl_here", "_law_size"]) fun _ _ _ _ _ _ us hl => match us, hl with | [_, _], _ => rfl
  have F24 := fun_mk (st := s__law_great) l24 c24 k24
  have b24 := F24.binds (ps := ["_law_bowl_here", "_law_most"]) fun _ _ _ _ _ _ us hl => match us, hl with | [_, _], _ => rfl
  have F25 := fun_mk (st := s__law_pair) l25 c25 k25
  have b25 := F25.binds (ps := ["_law_bowl_here"]) fun _ _ _ _ _ _ us hl => match us, hl with | [_], _ => rfl
  have F26 := fun_mk (st := s__law_one_of) l26 c26 k26
  have b26 := F26.binds (ps := ["_law_bowl_here", "_law_items"]) fun _ _ _ _ _ _ us hl => match us, hl with | [_, _], _ => rfl
  have F27 := fun_mk (st := s__law_called) l27 c27 k27
  have b27 := F27.binds (ps := ["_law_call"]) fun _ _ _ _ _ _ us hl => match us, hl with | [_], _ => rfl
  have F28 := fun_mk (st := s__law_common) l28 c28 k28
  have b28 := F28.binds (ps := ["_law_one", "_law_other"]) fun _ _ _ _ _ _ us hl => match us, hl with | [_, _], _ => rfl
  have F29 := fun_mk (st := s__law_right) l29 c29 k29
  have b29 := F29.binds (ps := ["_law_bowl_here"]) fun _ _ _ _ _ _ us hl => match us, hl with | [_], _ => rfl
  have F30 := fun_mk (st := s_law) l30 c30 k30
  have b30 := F30.binds (ps := ["_law_script"]) fun _ _ _ _ _ _ us hl => match us, hl with | [_], _ => rfl
  obtain ⟨p1, p2, q1, q2, q3, q4, q5, q6, q7, q8, q9, q0, j, eA, eB, eS, eL⟩ := sx_InvalidNumber
  rw [eA, eB, eS] at lI_InvalidNumber
  have S_InvalidNumber : SupTxt PW K mg "InvalidNumber" "InvalidNumber.__init__" "given" "this is no integer in the range that is wanted" "IndexError" "IndexError.__init__" "IndexError.__new__" [.type "IndexError", .type "LookupError", .type "Exception", .type "BaseException", .type "object"] C_InvalidNumber fi_InvalidNumber := ⟨PySem.W.mg_of X G aC_InvalidNumber, eiC_InvalidNumber, ovC_InvalidNumber, saC_InvalidNumber, gaC_InvalidNumber, ggC_InvalidNumber, noC_InvalidNumber, iiC_InvalidNumber, tiC_InvalidNumber, kC_InvalidNumber, sbC_InvalidNumber, ty_InvalidNumber, hdC_InvalidNumber, suC_InvalidNumber, sBC_InvalidNumber, mrC_InvalidNumber, opS, PySem.W.mg_none_of X G nsS, by decide +kernel,
    ⟨_, _, _, _, _, _, _, _, _, _, _, _, _, _, _, _, _, _, _, _, _, _, _, _, _, _, _, _, _, _, _, _, lI_InvalidNumber, ccI_InvalidNumber, clI_InvalidNumber, coI_InvalidNumber, vsI_InvalidNumber, fiI_InvalidNumber, cdI_InvalidNumber, eL⟩⟩
  clear lI_InvalidNumber eA eB eS eL
  have T : Txt K mg ⟨f0, _, f1, _, f2, _, f3, _, f4, _, f5, _, f6, _, f7, _, f8, _, f9, _, f10, _, f11, _, f12, _, f13, _, f14, _, f15, _, f16, _, f17, _, f18, _, f19, _, f20, _, f21, _, f22, _, f23, _, f24, _, f25, _, f26, _, f27, _, f28, _, f29, _, fa, _, p7, p8, p9, C_Long, C_Ladder, C_InvalidNumber, fi_InvalidNumber, mc29, tb29, mc30, tb30, C_InvalidOperation⟩ := ⟨F0,
    b0,
    ⟨mkC_Long, a0, i0, kC_Long⟩,
    F1,
    b1,
    PySem.W.mg_of X G a1,
    F2,
    b2,
    PySem.W.mg_of X G a2,
    F3,
    b3,
    PySem.W.mg_of X G a3,
    F4,
    b4,
    PySem.W.mg_of X G a4,
    F5,
    b5,
    PySem.W.mg_of X G a5,
    F6,
    b6,
    ⟨mkC_Ladder, a6, i6, kC_Ladder⟩,
    F7,
    b7,
    ⟨a7, pg7, pt7, _, pr7⟩,
    F8,
    b8,
    ⟨a8, pg8, pt8, _, pr8⟩,
    F9,
    b9,
    ⟨a9, pg9, pt9, _, pr9⟩,
    F10,
    b10,
    ⟨a10, i10, k10⟩,
    F11,
    b11,
    ⟨a11, i11, k11⟩,
    F12,
    b12,
    ⟨a12, i12, k12⟩,
    F13,
    b13,
    ⟨a13, i13, k13⟩,
    F14,
    b14,
    ⟨a14, i14, k14⟩,
    F15,
    b15,
    PySem.W.mg_of X G a15,
    F16,
    b16,
    PySem.W.mg_of X G a16,
    F17,
    b17,
    PySem.W.mg_of X G a17,
    F18,
    b18,
    PySem.W.mg_of X G a18,
    F19,
    b19,
    PySem.W.mg_of X G a19,
    F20,
    b20,
    PySem.W.mg_of X G a20,
    F21,
    b21,
    PySem.W.mg_of X G a21,
    F22,
    b22,
    PySem.W.mg_of X G a22,
    F23,
    b23,
    PySem.W.mg_of X G a23,
    F24,
    b24,
    PySem.W.mg_of X G a24,
    F25,
    b25,
    PySem.W.mg_of X G a25,
    F26,
    b26,
    PySem.W.mg_of X G a26,
    F27,
    b27,
    PySem.W.mg_of X G a27,
    F28,
    b28,
    PySem.W.mg_of X G a28,
    F29,
    b29,
    PySem.W.mg_of X G a29,
    F30,
    b30,
    PySem.W.mg_of X G a30,
    ⟨pgC_Long, hdC_Long, poC_Long, saC_Long⟩,
    PySem.W.mg_of X G aC_Long,
    na_Long_number,
    ic_Long,
    ty_Long,
    cl_Long,
    ob_Long,
    oi_Long,
    ⟨pgC_Ladder, hdC_Ladder, poC_Ladder, saC_Ladder⟩,
    PySem.W.mg_of X G aC_Ladder,
    na_Ladder__a,
    na_Ladder__b,
    na_Ladder__quotients,
    na_Ladder__remainders,
    ic_Ladder,
    ty_Ladder,
    cl_Ladder,
    ob_Ladder,
    oi_Ladder,
    sg,
    tk,
    PySem.W.mg_of X G aC_InvalidOperation,
    xC_InvalidOperation,
    kC_InvalidOperation,
    sbC_InvalidOperation,
    ty_InvalidOperation,
    exm_by sbC_InvalidOperation icx_InvalidOperation ty_InvalidOperation su_InvalidOperation_InvalidOperation,
    exm_by sbC_InvalidNumber icx_InvalidNumber ty_InvalidNumber su_InvalidOperation_InvalidNumber,
    PySem.W.mg_of X G aC_InvalidNumber,
    S_InvalidNumber,
    exm_by sbC_InvalidOperation icx_InvalidOperation ty_InvalidOperation su_InvalidNumber_InvalidOperation,
    exm_by sbC_InvalidNumber icx_InvalidNumber ty_InvalidNumber su_InvalidNumber_InvalidNumber,
    ⟨⟨_, _, _, _, _, _, _, _, rfl, l29, c29⟩⟩,
    ⟨⟨_, _, _, _, _, _, _, _, rfl, l30, c30⟩⟩,
    nt__law_right_law,
    ⟨a14, ne_Ladder, i14, ob_Ladder⟩,
    a13,
    i13,
    PySem.W.mg_none_of X G z_len,
    PySem.W.mg_none_of X G z_abs,
    PySem.W.mg_none_of X G z_max,
    PySem.W.mg_none_of X G z_min,
    PySem.W.mg_none_of X G z_isinstance,
    PySem.W.mg_none_of X G z_range,
    PySem.W.mg_none_of X G z_int,
    PySem.W.mg_none_of X G z_bool,
    PySem.W.mg_none_of X G z_tuple,
    PySem.W.mg_none_of X G z_divmod,
    PySem.W.mg_none_of X G z_repr,
    PySem.W.mg_none_of X G z_all,
    ⟨_, PySem.W.mg_of X G v__TOO_LONG⟩,
    ⟨_, PySem.W.mg_of X G v__TOO_LONG_QUOTIENT⟩,
    ⟨_, PySem.W.mg_of X G v__MAX_QUOTIENTS⟩,
    PySem.W.mg_of X G w_gcd,
    ⟨a12, i12⟩⟩
  exact end_of T (by
    intro p hp
    simp only [List.mem_cons, List.not_mem_nil, or_false] at hp
    rcases hp with rfl | rfl
    · exact mg29
    · exact mg30) (by
    intro p hp
    simp only [List.mem_cons, List.not_mem_nil, or_false] at hp
    rcases hp with rfl | rfl
    · exact mn29
    · exact mn30) (by
    intro p hp
    simp only [List.mem_cons, List.not_mem_nil, or_false] at hp
    rcases hp with rfl | rfl
    · exact mh29
    · exact mh30) (fun s v => .of_eq rfl)
end Tk
open PySem PySem.W PyProof.Rows
set_option maxRecDepth 100000 in
set_option maxHeartbeats 0 in
theorem PySem.Challenge.cw_toothchain_k09_errors_of_ladders_holds : PySem.Challenge.rw_toothchain_k09_errors_of_ladders.Holds := by
  w_on; o_law; k_head; (case hw => w_witness2)
  k_fill
  refine Tc.walk_ofGT (l := PySem.Challenge.rw_toothchain_k09_errors_of_ladders) (n := 63) (k := 14) (x := "_law_script") rfl (by decide) rfl ⟨rfl, by decide, by decide⟩ (fun w h Y => PySem.W.km_in_of Y) ?F
  case F =>
    intro w mg fa h Y KX G hmg
    refine' Tk.all_mk KX G hmg ?aC_Long ?aC_Ladder ?aC_InvalidOperation ?aC_InvalidNumber ?a0 ?i0 ?l0 ?c0 ?k0 ?a1 ?l1 ?c1 ?k1 ?a2 ?l2 ?c2 ?k2 ?a3 ?l3 ?c3 ?k3 ?a4 ?l4 ?c4 ?k4 ?a5 ?l5 ?c5 ?k5 ?a6 ?i6 ?l6 ?c6 ?k6 ?a7 ?pg7 ?pt7 ?pr7 ?l7 ?c7 ?k7 ?a8 ?pg8 ?pt8 ?pr8 ?l8 ?c8 ?k8 ?a9 ?pg9 ?pt9 ?pr9 ?l9 ?c9 ?k9 ?a10 ?i10 ?l10 ?c10 ?k10 ?a11 ?i11 ?l11 ?c11 ?k11 ?a12 ?i12 ?l12 ?c12 ?k12 ?a13 ?i13 ?l13 ?c13 ?k13 ?a14 ?i14 ?l14 ?c14 ?k14 ?a15 ?l15 ?c15 ?k15 ?a16 ?l16 ?c16 ?k16 ?a17 ?l17 ?c17 ?k17 ?a18 ?l18 ?c18 ?k18 ?a19 ?l19 ?c19 ?k19 ?a20 ?l20 ?c20 ?k20 ?a21 ?l21 ?c21 ?k21 ?a22 ?l22 ?c22 ?k22 ?a23 ?l23 ?c23 ?k23 ?a24 ?l24 ?c24 ?k24 ?a25 ?l25 ?c25 ?k25 ?a26 ?l26 ?c26 ?k26 ?a27 ?l27 ?c27 ?k27 ?a28 ?l28 ?c28 ?k28 ?a29 ?l29 ?c29 ?mk29 ?mt29 ?mh29 ?mn29 ?mg29 ?k29 ?a30 ?l30 ?c30 ?mk30 ?mt30 ?mh30 ?mn30 ?mg30 ?k30 ?pgC_Long ?hdC_Long ?poC_Long ?saC_Long ?kC_Long ?mkC_Long ?ic_Long ?ty_Long ?cl_Long ?ob_Long ?oi_Long ?na_Long_number ?pgC_Ladder ?hdC_Ladder ?poC_Ladder ?saC_Ladder ?kC_Ladder ?mkC_Ladder ?ic_Ladder ?ty_Ladder ?cl_Ladder ?ob_Ladder ?oi_Ladder ?na_Ladder__a ?na_Ladder__b ?na_Ladder__quotients ?na_Ladder__remainders ?sg ?tk ?xC_InvalidOperation ?kC_InvalidOperation ?sbC_InvalidOperation ?ty_InvalidOperation ?icx_InvalidOperation ?su_InvalidOperation_InvalidOperation ?su_InvalidOperation_InvalidNumber ?eiC_InvalidNumber ?ovC_InvalidNumber ?saC_InvalidNumber ?gaC_InvalidNumber ?ggC_InvalidNumber ?noC_InvalidNumber ?iiC_InvalidNumber ?tiC_InvalidNumber ?kC_InvalidNumber ?sbC_InvalidNumber ?ty_InvalidNumber ?hdC_InvalidNumber ?suC_InvalidNumber ?sBC_InvalidNumber ?mrC_InvalidNumber ?icx_InvalidNumber ?lI_InvalidNumber ?ccI_InvalidNumber ?clI_InvalidNumber ?coI_InvalidNumber ?vsI_InvalidNumber ?fiI_InvalidNumber ?cdI_InvalidNumber ?su_InvalidNumber_InvalidOperation ?su_InvalidNumber_InvalidNumber ?opS ?nsS ?ne_Ladder ?z_len ?z_abs ?z_max ?z_min ?z_isinstance ?z_range ?z_int ?z_bool ?z_tuple ?z_divmod ?z_repr ?z_all ?v__TOO_LONG ?v__TOO_LONG_QUOTIENT ?v__MAX_QUOTIENTS ?w_gcd ?nt__law_right_law
    (case aC_Long => k_is)
    (case aC_Ladder => k_is)
    (case aC_InvalidOperation => k_is)
    (case aC_InvalidNumber => k_is)
    (case a0 => k_is)
    (case i0 => k_is)
    (case l0 => k_is)
    (case c0 => k_is)
    (case k0 => k_is)
    (case a1 => k_is)
    (case l1 => k_is)
    (case c1 => k_is)
    (case k1 => k_is)
    (case a2 => k_is)
    (case l2 => k_is)
    (case c2 => k_is)
    (case k2 => k_is)
    (case a3 => k_is)
    (case l3 => k_is)
    (case c3 => k_is)
    (case k3 => k_is)
    (case a4 => k_is)
    (case l4 => k_is)
    (case c4 => k_is)
    (case k4 => k_is)
    (case a5 => k_is)
    (case l5 => k_is)
    (case c5 => k_is)
    (case k5 => k_is)
    (case a6 => k_is)
    (case i6 => k_is)
    (case l6 => k_is)
    (case c6 => k_is)
    (case k6 => k_is)
    (case a7 => k_is)
    (case pg7 => k_is)
    (case pt7 => k_is)
    (case pr7 => k_is)
    (case l7 => k_is)
    (case c7 => k_is)
    (case k7 => k_is)
    (case a8 => k_is)
    (case pg8 => k_is)
    (case pt8 => k_is)
    (case pr8 => k_is)
    (case l8 => k_is)
    (case c8 => k_is)
    (case k8 => k_is)
    (case a9 => k_is)
    (case pg9 => k_is)
    (case pt9 => k_is)
    (case pr9 => k_is)
    (case l9 => k_is)
    (case c9 => k_is)
    (case k9 => k_is)
    (case a10 => k_is)
    (case i10 => k_is)
    (case l10 => k_is)
    (case c10 => k_is)
    (case k10 => k_is)
    (case a11 => k_is)
    (case i11 => k_is)
    (case l11 => k_is)
    (case c11 => k_is)
    (case k11 => k_is)
    (case a12 => k_is)
    (case i12 => k_is)
    (case l12 => k_is)
    (case c12 => k_is)
    (case k12 => k_is)
    (case a13 => k_is)
    (case i13 => k_is)
    (case l13 => k_is)
    (case c13 => k_is)
    (case k13 => k_is)
    (case a14 => k_is)
    (case i14 => k_is)
    (case l14 => k_is)
    (case c14 => k_is)
    (case k14 => k_is)
    (case a15 => k_is)
    (case l15 => k_is)
    (case c15 => k_is)
    (case k15 => k_is)
    (case a16 => k_is)
    (case l16 => k_is)
    (case c16 => k_is)
    (case k16 => k_is)
    (case a17 => k_is)
    (case l17 => k_is)
    (case c17 => k_is)
    (case k17 => k_is)
    (case a18 => k_is)
    (case l18 => k_is)
    (case c18 => k_is)
    (case k18 => k_is)
    (case a19 => k_is)
    (case l19 => k_is)
    (case c19 => k_is)
    (case k19 => k_is)
    (case a20 => k_is)
    (case l20 => k_is)
    (case c20 => k_is)
    (case k20 => k_is)
    (case a21 => k_is)
    (case l21 => k_is)
    (case c21 => k_is)
    (case k21 => k_is)
    (case a22 => k_is)
    (case l22 => k_is)
    (case c22 => k_is)
    (case k22 => k_is)
    (case a23 => k_is)
    (case l23 => k_is)
    (case c23 => k_is)
    (case k23 => k_is)
    (case a24 => k_is)
    (case l24 => k_is)
    (case c24 => k_is)
    (case k24 => k_is)
    (case a25 => k_is)
    (case l25 => k_is)
    (case c25 => k_is)
    (case k25 => k_is)
    (case a26 => k_is)
    (case l26 => k_is)
    (case c26 => k_is)
    (case k26 => k_is)
    (case a27 => k_is)
    (case l27 => k_is)
    (case c27 => k_is)
    (case k27 => k_is)
    (case a28 => k_is)
    (case l28 => k_is)
    (case c28 => k_is)
    (case k28 => k_is)
    (case a29 => k_is)
    (case l29 => k_is)
    (case c29 => k_is)
    (case mk29 => k_is)
    (case mt29 => exact rfl)
    (case mh29 => kernel_rfl)
    (case mn29 => kernel_rfl)
    (case mg29 => exact PySem.W.km_tabs_of Y _ (by k_mem))
    (case k29 => k_is)
    (case a30 => k_is)
    (case l30 => k_is)
    (case c30 => k_is)
    (case mk30 => k_is)
    (case mt30 => exact rfl)
    (case mh30 => kernel_rfl)
    (case mn30 => kernel_rfl)
    (case mg30 => exact PySem.W.km_tabs_of Y _ (by k_mem))
    (case k30 => k_is)
    (case pgC_Long => k_is)
    (case hdC_Long => k_is)
    (case poC_Long => k_is)
    (case saC_Long => k_is)
    (case kC_Long => k_is)
    (case mkC_Long => k_is)
    (case ic_Long => k_is)
    (case ty_Long => k_is)
    (case cl_Long => k_is)
    (case ob_Long => k_is)
    (case oi_Long => k_is)
    (case na_Long_number => k_is)
    (case pgC_Ladder => k_is)
    (case hdC_Ladder => k_is)
    (case poC_Ladder => k_is)
    (case saC_Ladder => k_is)
    (case kC_Ladder => k_is)
    (case mkC_Ladder => k_is)
    (case ic_Ladder => k_is)
    (case ty_Ladder => k_is)
    (case cl_Ladder => k_is)
    (case ob_Ladder => k_is)
    (case oi_Ladder => k_is)
    (case na_Ladder__a => k_is)
    (case na_Ladder__b => k_is)
    (case na_Ladder__quotients => k_is)
    (case na_Ladder__remainders => k_is)
    (case sg => k_is)
    (case tk => k_is)
    (case xC_InvalidOperation => k_exc)
    (case kC_InvalidOperation => k_is)
    (case sbC_InvalidOperation => k_is)
    (case ty_InvalidOperation => k_is)
    (case icx_InvalidOperation => k_is)
    (case su_InvalidOperation_InvalidOperation => k_is)
    (case su_InvalidOperation_InvalidNumber => k_is)
    (case eiC_InvalidNumber => kx_is)
    (case ovC_InvalidNumber => kx_is)
    (case saC_InvalidNumber => k_is)
    (case gaC_InvalidNumber => k_is)
    (case ggC_InvalidNumber => k_is)
    (case noC_InvalidNumber => k_is)
    (case iiC_InvalidNumber => k_is)
    (case tiC_InvalidNumber => k_is)
    (case kC_InvalidNumber => k_is)
    (case sbC_InvalidNumber => k_is)
    (case ty_InvalidNumber => k_is)
    (case hdC_InvalidNumber => k_is)
    (case suC_InvalidNumber => ks_is)
    (case sBC_InvalidNumber => k_is)
    (case mrC_InvalidNumber => k_is)
    (case icx_InvalidNumber => k_is)
    (case lI_InvalidNumber => k_is)
    (case ccI_InvalidNumber => k_is)
    (case clI_InvalidNumber => k_is)
    (case coI_InvalidNumber => k_is)
    (case vsI_InvalidNumber => exact rfl)
    (case fiI_InvalidNumber => first | rfl | decide +kernel)
    (case cdI_InvalidNumber => k_is)
    (case su_InvalidNumber_InvalidOperation => k_is)
    (case su_InvalidNumber_InvalidNumber => k_is)
    (case opS => k_is)
    (case nsS => k_is)
    (case ne_Ladder => k_is)
    (case z_len => k_is)
    (case z_abs => k_is)
    (case z_max => k_is)
    (case z_min => k_is)
    (case z_isinstance => k_is)
    (case z_range => k_is)
    (case z_int => k_is)
    (case z_bool => k_is)
    (case z_tuple => k_is)
    (case z_divmod => k_is)
    (case z_repr => k_is)
    (case z_all => k_is)
    (case v__TOO_LONG => k_is)
    (case v__TOO_LONG_QUOTIENT => k_is)
    (case v__MAX_QUOTIENTS => k_is)
    (case w_gcd => k_is)
    (case nt__law_right_law => decide)
#print axioms PySem.Challenge.cw_toothchain_k09_errors_of_ladders_holds
