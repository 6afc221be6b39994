import PyProof.Rows.All
import Wide.All
import OpenK.AllK
import Wide.FinOn
import HandS.ForMost
import HandS.Flow
import HandS.Style
import HandS.Wide
import HandS.WideMore
import HandS.WideBits
import HandS.Gcd
import HandS.IsInst
import HandS.Property
import HandS.TupAny
import HandS.TupMul
import HandS.OwnEq
import HandS.TryOnly
import HandS.Evl
import KE.KTupSum
import KE.KAssignIn
import KE.KOpsOwn
import KE.KCallOwn
import HandS.Defaults
import HandS.RaiseMore
import HandS.FStr
import HandS.Text
import HandS.StrMore
import HandS.Zip
import HandS.Iter
import HandS.Walk
import KE.KRevSl
import PyProof.CallFns
import PyProof.ReprRoads
import HandS.EndBits
import PyProof.Rows.Range3
import PyProof.Conv_bool
import PyProof.Rows.StrRev
import PyProof.StrOps2
import KE.KMathG
import PySem.Challenge.RW_toothchain_k47_whole_corner_polynomials
set_option Elab.async false
set_option linter.all false
set_option maxRecDepth 100000
set_option maxHeartbeats 2000000
/-! Rules that the layer lacks: powers of great bases, attributes as targets, slices of tuples with a step, sums of tuples. -/
namespace Tc
open PySem PySem.Spec PyProof.Rows L2
/-- i ** j, the result within the model's line of bits -/
def CPowX (i j : Int) : Prop := 0 ≤ j ∧ (Builtin.Int.intBits i : Int) * j ≤ 2 ^ 27
section
variable {X : Cx}
theorem op_powX : OpR X (binaryOp .Pow) (rI CPowX fun i j => .int (i ^ j.toNat)) := opI fun _ _ _ _ _ _ _ hc q => pow_int hc.1 hc.2 q
/-- e.f as a target -/
def gFld (K : PySem.W.Frag) (ta : TE) (f : Str) : TG := fun v σ H Q => ta σ H fun x H1 => ∃ a C dx fs, x = .ref a ∧ H1 a = some (.ins C dx fs) ∧ Cls K C ∧ NoAttr K C f ∧ fs.length < 1000 ∧ Q σ (upd H1 a (.ins C dx (putF f v fs)))
theorem pg_fld {o : Expr} {f : Str} {pos : Pos} {ta : TE} (ho : PE X o ta) : PG X (.Attribute o f pos) (gFld X.K ta f) := by
  refine ⟨fun pins s σ H v u Q I r h => ?_⟩
  refine PySem.W.kas_attr (thn (ho.run pins s σ H _ I h) fun ov s2 ⟨x, H2, I2, rx, a, C, dx, fs, ex, ea, c, n, l, q2⟩ => ?_)
  subst ex
  obtain rfl : ov = Value.ref a := rx
  exact setattr_ok I2 ea c n l r fun s3 I3 => ⟨σ, _, I3, q2⟩
/-- sum(t) of a tuple of ints -/
def rSumT (K : PySem.W.Frag) : List V → Hp → VK → Prop := fun vs H Q => ∃ (a : Addr) (ns : List Int), vs = [V.ref a] ∧ SqT K H a (ns.map V.int) ∧ Q (.int ns.sum) H
theorem cr_sumT (hc : X.calm = true) : CallR X (.builtin "sum") (rSumT X.K) := by
  intro pins s σ H vs us Q I r h
  obtain ⟨a, ns, rfl, hs, q⟩ := h
  obtain ⟨its, rv, hl, _⟩ := I.tuple hs
  rw [Vals.ref1 r]
  have hi : IntsAre its ns := rv.ints
  have hm : s.heap.IsTuple a its.toArray := by
    obtain ⟨o, ho, hcl, hd⟩ := hl
    exact ⟨o, ho, hcl, hd⟩
  obtain ⟨xs, hx⟩ := hi.allInts.items
  have hn : PySem.numsOf its.toArray.toList = ns := by rw [show its.toArray.toList = its from rfl, hi.numsOf]
  rw [hx] at hm hn
  rw [nums_intItems] at hn
  refine PySem.W.ktm_sumG (I.ok.hd hc) hm fun h' tk t' hk => ⟨.int ns.sum, H, I.kept hk, ⟨t', ?_⟩, q⟩
  rw [preSum_eq, List.take_of_length_le (by simp), hn]
end
end Tc

set_option maxHeartbeats 4000000
namespace Tc
open PySem PySem.Spec PyProof.Rows L2
section
variable {X : Cx}
/-! ### len(o) by the class's own __len__ -/
def rLenOwn (C : Addr) (sp : Sp) (E : XK) : List V → Hp → VK → Prop := fun xs H Q => ∃ a dx fs, xs = [.ref a] ∧ H a = some (.ins C dx fs) ∧ sp [.ref a] H (fun z H' => ∃ i : Int, z = .int i ∧ (0 ≤ i ∧ i < 2 ^ 63) ∧ Q z H') E
theorem call_lenOwn {CX : CXT} {k : Nat} {f C : Addr} {fd : FuncData} {ps : List Str} {sp : Sp} {E : XK} (F : FnOk X.prog X.w X.K X.mg X.base CX k f fd ps sp)
    (hs : PySem.W.findIn X.K (.ref C) "__len__" = some (some (.ref f))) (hf : PySem.W.isFn X.K (.ref f) = true) (hb : Binds X.K fd ps []) (hx : Passes CX X E) (hr : Room (k + 1) X.A) : CallR X (.builtin "len") (rLenOwn C sp E) := by
  intro pins s σ H vs us Q I r h
  obtain ⟨a, dx, fs, rfl, ha, q⟩ := h
  rw [Vals.ref1 r]
  obtain ⟨mA, J, _⟩ := ins_get I.hok ha
  obtain ⟨od, J, _⟩ := J.look
  obtain ⟨m, hF⟩ := I.fr
  have hl : ([Value.ref a]).length = ps.length := by
    rw [← F.len _ _ _ _ q]
    rfl
  refine PySem.W.len_K hF I.ok.mod.kin J hs hf ?_
  refine wpAny_call (codeAny_mono (F.run X.A.in1 X.stack s H ⟨[.ref a], []⟩ [.ref a] [.ref a] _ E hr.in1 I.env0.in1 (by simpa using hb s [.ref a] I.kIn hl) (.cons rfl .nil) q) fun r' s' hq => ?_)
  cases r' with
  | error e => exact hx pins σ H s e s' I hq
  | ok fl =>
    cases fl with
    | ret w =>
      obtain ⟨z, H', I', rz, i, ez, hi, q'⟩ := I.after hq
      subst ez
      obtain ⟨t, rfl⟩ := rz
      exact ⟨hi, .int i, H', I'.tok _, ⟨_, rfl⟩, q'⟩
    | next => exact False.elim hq
    | brk => exact False.elim hq
    | cont => exact False.elim hq
end
/-! ### t[i::2] -/
/-- every second item, the first one too -/
def ev2 {α : Type} : List α → List α
  | [] => []
  | [a] => [a]
  | a :: _ :: r => a :: ev2 r
theorem ev2_map {α β : Type} (f : α → β) : ∀ l : List α, ev2 (l.map f) = (ev2 l).map f
  | [] => rfl
  | [a] => rfl
  | a :: b :: r => by
    show f a :: ev2 (r.map f) = f a :: (ev2 r).map f
    rw [ev2_map f r]
theorem ev2_pick {α : Type} : ∀ l : List α, (List.range ((l.length + 1) / 2)).filterMap (fun m => l[m * 2]?) = ev2 l
  | [] => by simp [ev2]
  | [a] => by
    have e : ([a].length + 1) / 2 = 1 := by simp
    rw [e]
    rfl
  | a :: b :: r => by
    have e : ((a :: b :: r).length + 1) / 2 = (r.length + 1) / 2 + 1 := by
      simp only [List.length_cons]
      omega
    rw [e, List.range_succ_eq_map, List.filterMap_cons, List.filterMap_map]
    have ih := ev2_pick r
    have e2 : ((fun m => (a :: b :: r)[m * 2]?) ∘ Nat.succ) = fun m => r[m * 2]? := by
      funext m
      show (a :: b :: r)[(m + 1) * 2]? = r[m * 2]?
      have : (m + 1) * 2 = m * 2 + 2 := by omega
      rw [this]
      rfl
    rw [e2, ih]
    rfl
theorem ev2_length {α : Type} : ∀ l : List α, (ev2 l).length ≤ l.length
  | [] => Nat.le_refl _
  | [a] => Nat.le_refl _
  | a :: b :: r => by
    have := ev2_length r
    show (ev2 r).length + 1 ≤ r.length + 1 + 1
    omega
theorem vals_ev2 : ∀ {xs : List V} {us : List Value}, Vals xs us → Vals (ev2 xs) (ev2 us)
  | _, _, .nil => .nil
  | _, _, .cons r .nil => .cons r .nil
  | _, _, .cons r (.cons _ t) => .cons r (vals_ev2 t)
section
variable {prog : Program} {w : World} {A : Around} {E : Value → Shared → Prop} {s : Shared}
theorem adjust2 (i n : Nat) : Builtin.Slice.sliceAdjust (some (i : Int)) none 2 (n : Int) = (((min i n : Nat) : Int), (n : Int)) := by
  unfold Builtin.Slice.sliceAdjust
  have h1 : ¬ ((2 : Int) < 0) := by omega
  have h2 : ¬ ((i : Int) < 0) := by omega
  simp only [h1, h2, if_false]
  refine Prod.ext ?_ rfl
  show min (i : Int) (n : Int) = ((min i n : Nat) : Int)
  omega
theorem places2 (i n : Nat) : Builtin.Slice.slicePlaces ((min i n : Nat) : Int) (n : Int) 2 = (n - i + 1) / 2 := by
  unfold Builtin.Slice.slicePlaces
  have h1 : (2 : Int) > 0 := by omega
  simp only [h1, if_true]
  split <;> omega
theorem applied2 {sl : Addr} {vl vs : Value} {i n : Nat} {Q : Int × Int × Nat → Shared → Prop} (hs : s.heap.IsSliceOf sl vl .none vs) (pl : IsPart vl (some (i : Int))) (ps : IsPart vs (some 2))
    (h : Q (((min i n : Nat) : Int), 2, (n - i + 1) / 2) s) : wpAny (model prog w) A (Builtin.Slice.sliceApplied (.ref sl) (pure (n : Int))) Q E s := by
  obtain ⟨os, hos, hcs, hds⟩ := id hs
  unfold Builtin.Slice.sliceApplied Builtin.Slice.sliceFields
  refine wpAny_bind (wpAny_bind (wpAny_field hos hds (x := vl) rfl (wpAny_bind (wpAny_field hos hds (x := .none) rfl (wpAny_bind (wpAny_field hos hds (x := vs) rfl (wpAny_pure ?_)))))))
  refine wpAny_bind (HT.slicePart_ ps ?_)
  show wpAny _ _ (if ((2 : Int) == 0) = true then _ else _) _ _ s
  rw [if_neg (by decide)]
  refine wpAny_bind (HT.slicePart_ pl (wpAny_bind (HT.slicePart_ (o := none) .none (wpAny_bind (wpAny_pure ?_)))))
  show wpAny _ _ (match Builtin.Slice.sliceAdjust (some (i : Int)) none 2 (n : Int) with | (lo, hi) => pure (lo, (2 : Int), Builtin.Slice.slicePlaces lo hi 2)) _ _ s
  rw [adjust2]
  show wpAny _ _ (pure (((min i n : Nat) : Int), (2 : Int), Builtin.Slice.slicePlaces ((min i n : Nat) : Int) (n : Int) 2)) _ _ s
  rw [places2]
  exact wpAny_pure h
theorem pick2 (xs : Array Value) (i : Nat) : ((List.range ((xs.size - i + 1) / 2)).filterMap fun (m : Nat) => xs[(((min i xs.size : Nat) : Int) + (m : Int) * 2).toNat]?).toArray = (ev2 (xs.toList.drop i)).toArray := by
  rw [← ev2_pick, List.length_drop, Array.length_toList]
  congr 1
  by_cases h : i ≤ xs.size
  · congr 1
    funext m
    rw [List.getElem?_drop]
    have e : (((min i xs.size : Nat) : Int) + (m : Int) * 2).toNat = i + m * 2 := by omega
    rw [e]
    simp
  · have e : (xs.size - i + 1) / 2 = 0 := by omega
    rw [e]
    rfl
theorem getItem_tuple2 {t sl : Addr} {items : Array Value} {vl vs : Value} {i : Nat} {Q : Value → Shared → Prop} (ht : IsTup s.heap t items) (hs : s.heap.IsSliceOf sl vl .none vs) (pl : IsPart vl (some (i : Int))) (ps : IsPart vs (some 2))
    (h : Q (.ref s.heap.objs.size) { s with heap := s.heap.push { cls := .type "tuple", data := .seq (ev2 (items.toList.drop i)).toArray } })
    (hsz : items.size ≤ sizeLine) : wpAny (model prog w) A (getItem (.ref t) (.ref sl)) Q E s := by
  have htake : sizeOk (.seq (ev2 (items.toList.drop i)).toArray) := by
    show (ev2 (items.toList.drop i)).toArray.size ≤ sizeLine
    have h1 := ev2_length (items.toList.drop i)
    have h2 : items.toList.length = items.size := Array.length_toList
    simp only [List.length_drop, List.size_toArray, h2] at h1 ⊢
    omega
  obtain ⟨os, hos, hcs, hds⟩ := id hs
  have hTs : s.TypeIs (.ref sl) "slice" := ⟨os, hos, hcs⟩
  unfold getItem
  try with_reducible refine wpAny_holding ?_
  first | refine wpAny_bind (wpAny_pure ?_) | skip
  refine wpAny_bind (wpAny_sequenceKey ht.typeIs (by decide) ?_)
  refine wpAny_bind (wpAny_callSpecial?_slot (name := Str.ofString "__getitem__") ht.typeIs PyProof.Rows.slot_tuple_getitem
    (wpAny_call_entry PyProof.Rows.slot_tuple_getitem ht.typeIs entry_tuple_getitem ?_ (args_tuple_getitem _ _)))
  show wpAny _ _ (Builtin.Tuple.tupleItemsOf (.ref t) >>= _) _ _ s
  refine wpAny_bind (tupleItemsOf_ ht ?_)
  refine wpAny_bind (wpAny_typeOf hTs ?_)
  rw [if_pos (by decide)]
  refine wpAny_bind (applied2 hs pl ps ?_)
  have hno : ¬ ((((min i items.size : Nat) : Int) == 0 && (2 : Int) == 1 && ((items.size - i + 1) / 2) == items.size) = true) := by
    intro q
    rw [Bool.and_eq_true, Bool.and_eq_true] at q
    exact absurd q.1.2 (by decide)
  show wpAny _ _ (if (((min i items.size : Nat) : Int) == 0 && (2 : Int) == 1 && ((items.size - i + 1) / 2) == items.size) = true then _ else _) _ _ s
  rw [if_neg hno, pick2]
  first
    | exact wpAny_bind (m := Builtin.Tuple.tupleExact _) (wpAny_newObj_type (wpAny_pure ⟨_, rfl, wpAny_pure h⟩) htake)
    | exact wpAny_bind (m := Builtin.Tuple.tupleExact _) (wpAny_newObj_type (wpAny_bind (wpAny_pure (wpAny_pure ⟨_, rfl, wpAny_pure h⟩))) htake)
    | exact wpAny_bind (wpAny_bind (m := Builtin.Tuple.tupleExact _) (wpAny_newObj_type (wpAny_pure (wpAny_pure ⟨_, rfl, wpAny_pure h⟩)) htake))
    | exact wpAny_bind (wpAny_bind (m := Builtin.Tuple.tupleExact _) (wpAny_newObj_type (wpAny_pure ⟨_, rfl, wpAny_pure h⟩) htake))
end
section
variable {X : Cx}
def tEv2 (K : PySem.W.Frag) (te tl : TE) : TE := fun σ H Q => te σ H fun x H1 => tPart tl σ H1 fun y H2 => ∃ a xs i, x = .ref a ∧ y = some ((i : Nat) : Int) ∧ SqT K H2 a xs ∧ ∀ p, H2 p = none → Q (.ref p) (upd H2 p (.tup (ev2 (xs.drop i))))
theorem pe_ev2 {e l : Expr} {te tl : TE} {k : Nat} {p1 p3 pos : Pos} (he : PE X e te) (hl : PE X l tl) : PE X (.Subscript e (.Slice (some l) none (some (.Constant (.int 2) k p1)) p3) pos) (tEv2 X.K te tl) := by
  refine ⟨fun pins s σ H Q I h => ?_⟩
  refine Subscript_ (thn (he.run pins s σ H _ I h) fun v s1 ⟨x, H1, I1, r1, q1⟩ => ?_)
  have hst : PO X (some (.Constant (.int 2) k p1)) (tPart (tC (.int 2))) := po_some pe_int
  refine wpAny_Slice (thn ((po_some hl).run pins s1 σ H1 (fun o H2 => ∃ a xs i, x = .ref a ∧ o = some ((i : Nat) : Int) ∧ SqT X.K H2 a xs ∧ ∀ p, H2 p = none → Q (.ref p) (upd H2 p (.tup (ev2 (xs.drop i))))) I1 q1) fun vl s2 ⟨o, H2, I2, pl, q2⟩ => ?_)
  obtain ⟨a, xs, i, ex, eo, hx, q⟩ := q2
  subst ex eo
  cases r1
  refine thn (po_none.run pins s2 σ H2 (fun o H3 => o = none ∧ H3 = H2) I2 ⟨rfl, rfl⟩) fun vu s3 ⟨u, H3, I3, pu, eu, e3⟩ => ?_
  subst eu e3
  cases pu
  refine thn (hst.run pins s3 σ H3 (fun o H4 => o = some 2 ∧ H4 = H3) I3 ⟨2, rfl, rfl, rfl⟩) fun vs s4 ⟨o, H4, I4, ps, eo, e4⟩ => ?_
  subst eo e4
  have I5 : Inv X pins σ H4 { s4 with heap := s4.heap.push { cls := .type "slice", data := .fields #[vl, .none, vs] } } := I4.kept (t' := s4.toks) fun b ob q => Heap.get?_push_of_some _ q
  obtain ⟨its, r, ht, hz⟩ := I5.tuple hx
  have hlen := r.length
  show wpAny (model X.prog X.w) X.A (subscriptTail e (.Slice (some l) none (some (.Constant (.int 2) k p1)) p3) (.ref a) (.ref s4.heap.objs.size)) (EP X pins σ Q) X.xe { s4 with heap := s4.heap.push { cls := .type "slice", data := .fields #[vl, .none, vs] } }
  refine tail_any (ops := [.ref a, .ref s4.heap.objs.size]) ht.typeIs PyProof.Rows.slot_tuple_getitem.lookup ?_ (by with_unfolding_all rfl)
  refine getItem_tuple2 ht (Heap.IsSliceOf.new ..) pl ps ?_ (by rw [List.size_toArray]; omega)
  refine ⟨.ref _, _, I5.laid (t' := s4.toks) (o := .tup (ev2 (xs.drop i))) (fun b ob q => Heap.get?_push_of_some _ q) (Nat.le_refl _) ?_, rfl, q _ (I5.hok.fresh (Nat.le_refl _))⟩
  refine ⟨?_, _, vals_ev2 (r.drop i), IsTup.new _ _⟩
  have := ev2_length (xs.drop i)
  rw [List.length_drop] at this
  omega
end
end Tc

set_option maxHeartbeats 4000000
namespace Tc
open PySem PySem.Spec PyProof.Rows L2
open MeetsSeq MeetsSeq2 MeetsSeq3 SeqRoads2
open AutoSeq1 (wpAny_loadPart')
theorem tuple_mul1 (l : Addr) (items : Array Value) (n : Nat) (dd : Option Addr) (sl : Array (Option Value)) (u : Tok) :
    Meets (Builtin.«tuple.__mul__» ⟨[.ref l, .int 1 u], []⟩) (fun _ R s => s.heap.get? l = some { cls := .type "tuple", dict := dd, data := .seq items n, slots := sl } ∧
      R (.ok (.ret (Value.ref l))) s) :=
  .of_wp fun prog w A R s h => by
    obtain ⟨hp, g, d, tk, os⟩ := s
    obtain ⟨hl, h⟩ := h
    have f1 := AutoSeq1.idx_int
    wp_walk using wpAny_loadPart' hl
    repeat (first
      | (refine wpAny_ite_false (by decide) ?_; wp_walk using wpAny_loadPart' hl)
      | (refine wpAny_ite_true (by simp) ?_; wp_walk using wpAny_loadPart' hl))
    exact ⟨_, rfl, h⟩
theorem tuple_mul0 (l : Addr) (items : Array Value) (n : Nat) (dd : Option Addr) (sl : Array (Option Value)) (x : Int) (u : Tok) (c0 : (decide (x < -(2 ^ 63)) || decide (x ≥ 2 ^ 63)) = false) (c1 : (items.isEmpty || x == 1) = false) (c2 : (decide (x ≤ 0) || items.isEmpty) = true) :
    Meets (Builtin.«tuple.__mul__» ⟨[.ref l, .int x u], []⟩) (fun _ R s => s.heap.get? l = some { cls := .type "tuple", dict := dd, data := .seq items n, slots := sl } ∧
      R (.ok (.ret (Value.ref s.heap.objs.size))) { s with heap := s.heap.push { cls := Value.type "tuple", data := Data.seq #[] }, toks := s.toks }) :=
  .of_wp fun prog w A R s h => by
    obtain ⟨hp, g, d, tk, os⟩ := s
    obtain ⟨hl, h⟩ := h
    have f1 := AutoSeq1.idx_int
    wp_walk using wpAny_loadPart' hl
    repeat (first
      | (refine wpAny_ite_false (decide_eq_false (by rw [c0]; exact Bool.false_ne_true)) ?_; wp_walk using wpAny_loadPart' hl)
      | (refine wpAny_ite_false (decide_eq_false (by rw [c1]; exact Bool.false_ne_true)) ?_; wp_walk using wpAny_loadPart' hl)
      | (refine wpAny_ite_true (decide_eq_true c2) ?_; wp_walk using wpAny_loadPart' hl))
    exact ⟨_, rfl, h⟩
def rRepG (K : PySem.W.Frag) : R2 := fun x y H Q => ∃ l k xs, x = .ref l ∧ y = .int k ∧ SqT K H l xs ∧ xs ≠ [] ∧ -1000 ≤ k ∧ k ≤ 1000 ∧ xs.length ≤ 1000 ∧ (k = 1 → Q (.ref l) H) ∧
  (k ≤ 0 → ∀ p, H p = none → Q (.ref p) (upd H p (.tup []))) ∧ (2 ≤ k → ∀ p, H p = none → Q (.ref p) (upd H p (.tup (List.replicate k.toNat xs).flatten)))
section
variable {X : Cx}
theorem op_repG : OpR X (binaryOp .Mult) (rRepG X.K) := by
  intro pins s σ H x y v u Q I rx ry h
  obtain ⟨l, k, xs, rfl, rfl, hT, hne, h1, h2, hz, q1, q0, q2⟩ := h
  by_cases hk2 : 2 ≤ k
  · exact op_repT pins s σ H _ _ v u Q I rx ry ⟨l, k, xs, rfl, rfl, hT, hne, hk2, h2, hz, q2 hk2⟩
  cases rx
  obtain ⟨t, rfl⟩ := ry
  obtain ⟨its, r, ⟨⟨cls, dd, data, sl⟩, ho, hc, n, hd⟩, hs⟩ := I.tuple hT
  simp only at hc hd
  subst hc hd
  have hle : its.length = xs.length := r.length.symm
  have hn : its ≠ [] := fun e => hne (by
    rw [e] at hle
    exact List.eq_nil_of_length_eq_zero hle.symm)
  have hi : its.toArray.isEmpty = false := by
    cases its with
    | nil => exact absurd rfl hn
    | cons a b => rfl
  by_cases hk1 : k = 1
  · subst hk1
    exact wpAny_binaryOp_repeat_ref (T := "tuple") (U := "int") (by decide) ⟨_, ho, rfl⟩ (fun s' => typeIs_int s' 1 t) noFill_tuple_mul F.fills_int_mul F.slot_int_rmul repeat_tuple F.slot_int_index.lookup
      (call_meets F.slot_int_rmul (typeIs_int s 1 t) F.entry_int_rmul (F.args_int_rmul_2 _ _) (int_rmul_tuple 1 t l its.toArray n dd sl)
        ⟨ho, rfl, ⟨_, ho, rfl⟩, call_meets F.slot_tuple_mul ⟨_, ho, rfl⟩ F.entry_tuple_mul (F.args_tuple_mul_2 _ _) (tuple_mul1 l its.toArray n dd sl t) ⟨ho, ⟨.ref l, H, I, rfl, q1 rfl⟩⟩⟩)
  have c0 : (decide (k < -(2 ^ 63)) || decide (k ≥ 2 ^ 63)) = false := by
    rw [decide_eq_false (by omega), decide_eq_false (by omega)] <;> rfl
  have c1 : (its.toArray.isEmpty || k == 1) = false := by
    rw [hi, Bool.false_or]
    exact beq_eq_false_iff_ne.mpr (by omega)
  have c2 : (decide (k ≤ 0) || its.toArray.isEmpty) = true := by
    rw [decide_eq_true (by omega)]
    rfl
  refine wpAny_binaryOp_repeat_ref (T := "tuple") (U := "int") (by decide) ⟨_, ho, rfl⟩ (fun s' => typeIs_int s' k t) noFill_tuple_mul F.fills_int_mul F.slot_int_rmul repeat_tuple F.slot_int_index.lookup
    (call_meets F.slot_int_rmul (typeIs_int s k t) F.entry_int_rmul (F.args_int_rmul_2 _ _) (int_rmul_tuple k t l its.toArray n dd sl)
      ⟨ho, rfl, ⟨_, ho, rfl⟩, call_meets F.slot_tuple_mul ⟨_, ho, rfl⟩ F.entry_tuple_mul (F.args_tuple_mul_2 _ _) (tuple_mul0 l its.toArray n dd sl k t c0 c1 c2) ⟨ho, ?_⟩⟩)
  refine ⟨.ref s.heap.objs.size, _, I.laid (t' := s.toks) (o := .tup []) (fun b ob q => Heap.get?_push_of_some _ q) (Nat.le_refl _) ?_, rfl, q0 (by omega) _ (I.hok.fresh (Nat.le_refl _))⟩
  exact ⟨by show 0 ≤ sizeLine; omega, [], .nil, IsTup.new _ _⟩
end
end Tc

/-! Data: rows of ints, rows of pairs, their == . -/
namespace Tc
open PySem PySem.Spec PyProof.Rows L2
def dInts (ns : List Int) : List PyData := ns.map PyData.int
def dPair (c : Int × Int) : PyData := .tuple [.int c.1, .int c.2]
theorem dpa_ints {K : PySem.W.Frag} {H : Hp} : ∀ ns : List Int, DpAll K H (ns.map V.int) (dInts ns)
  | [] => .nil
  | n :: ns => .cons (.int n) (dpa_ints ns)
theorem canLay_ints : ∀ ns : List Int, PyData.canLayAll0 (dInts ns) = true
  | [] => by simp [dInts, PyData.canLayAll0]
  | n :: ns => by
    have := canLay_ints ns
    show PyData.canLayAll0 (PyData.int n :: dInts ns) = true
    rw [PyData.canLayAll0, PyData.canLay0, this]
    rfl
theorem depth_ints : ∀ ns : List Int, PyData.depthAll (dInts ns) = 0
  | [] => by simp [dInts, PyData.depthAll]
  | n :: ns => by
    have := depth_ints ns
    show PyData.depthAll (PyData.int n :: dInts ns) = 0
    rw [PyData.depthAll, PyData.depth, this]
    rfl
theorem shp_tup (ns : List Int) : SeqAt.shaped (.tuple (dInts ns)) = true := by
  unfold SeqAt.shaped
  rw [PyData.canLay0, PyData.depth, canLay_ints, depth_ints]
  rfl
theorem shp_lst (ns : List Int) : SeqAt.shaped (.list (dInts ns)) = true := by
  unfold SeqAt.shaped
  rw [PyData.canLay0, PyData.depth, canLay_ints, depth_ints]
  rfl
def dPairs (cs : List (Int × Int)) : List PyData := cs.map dPair
theorem canLay_pairs : ∀ cs : List (Int × Int), PyData.canLayAll0 (dPairs cs) = true
  | [] => by simp [dPairs, PyData.canLayAll0]
  | c :: cs => by
    have := canLay_pairs cs
    show PyData.canLayAll0 (PyData.tuple (dInts [c.1, c.2]) :: dPairs cs) = true
    rw [PyData.canLayAll0, PyData.canLay0, canLay_ints, this]
    rfl
theorem depth_pairs : ∀ cs : List (Int × Int), PyData.depthAll (dPairs cs) ≤ 1
  | [] => by simp [dPairs, PyData.depthAll]
  | c :: cs => by
    have := depth_pairs cs
    show PyData.depthAll (PyData.tuple (dInts [c.1, c.2]) :: dPairs cs) ≤ 1
    rw [PyData.depthAll, PyData.depth, depth_ints]
    omega
theorem shp_pairs (cs : List (Int × Int)) : SeqAt.shaped (.tuple (dPairs cs)) = true := by
  unfold SeqAt.shaped
  rw [PyData.canLay0, PyData.depth, canLay_pairs]
  have := depth_pairs cs
  rw [decide_eq_true (by omega)]
  rfl
theorem eqv_self {d : PyData} (h : SeqAt.shaped d = true) : PyData.eqv d d = true := SeqAt.eqv_refl d (SeqAt.canLay_of_shaped h)
theorem eqvAll_ints : ∀ xs ys : List Int, PyData.eqvAll (dInts xs) (dInts ys) = decide (xs = ys)
  | [], [] => by simp [dInts, PyData.eqvAll]
  | [], y :: ys => by simp [dInts, PyData.eqvAll]
  | x :: xs, [] => by simp [dInts, PyData.eqvAll]
  | x :: xs, y :: ys => by
    have ih := eqvAll_ints xs ys
    show PyData.eqvAll (PyData.int x :: dInts xs) (PyData.int y :: dInts ys) = _
    rw [PyData.eqvAll, PyData.eqv, ih]
    by_cases h : x = y
    · subst h
      simp
    · simp [h]
theorem eqv_lst (xs ys : List Int) : PyData.eqv (.list (dInts xs)) (.list (dInts ys)) = decide (xs = ys) := by rw [PyData.eqv, eqvAll_ints]
theorem eqv_tup (xs ys : List Int) : PyData.eqv (.tuple (dInts xs)) (.tuple (dInts ys)) = decide (xs = ys) := by rw [PyData.eqv, eqvAll_ints]
theorem dec_int' (x y : Int) : decide (V.int x = V.int y) = decide (x = y) := by
  by_cases h : x = y
  · rw [decide_eq_true h, decide_eq_true (congrArg V.int h)]
  · rw [decide_eq_false h, decide_eq_false (fun z => h (by injection z))]
end Tc

/-! Tuples put together, repeated, cut: one word for the ways in which the object may be an old one. -/
namespace Tc
open PySem PySem.Spec PyProof.Rows L2
theorem same_upd {H : Hp} {p : Addr} {o : HO} (h : H p = none) : Same H (upd H p o) := fun b u e => by
  rw [upd_ne (ne_of_none e h)]
  exact e
def rRepS (K : PySem.W.Frag) : R2 := fun x y H Q => ∃ l k xs, x = .ref l ∧ y = .int k ∧ SqT K H l xs ∧ xs ≠ [] ∧ -1000 ≤ k ∧ k ≤ 1000 ∧ xs.length ≤ 1000 ∧
  ∀ r H', Same H H' → SqT K H' r (List.replicate k.toNat xs).flatten → Q (.ref r) H'
def rCatS (K : PySem.W.Frag) : R2 := fun x y H Q => ∃ a b xs ys, x = .ref a ∧ y = .ref b ∧ SqT K H a xs ∧ SqT K H b ys ∧ xs.length + ys.length ≤ sizeLine ∧ ∀ r H', Same H H' → SqT K H' r (xs ++ ys) → Q (.ref r) H'
def rSlS (K : PySem.W.Frag) : V → Option Int → Option Int → Hp → VK → Prop := fun x lo hi H Q => ∃ a xs, x = .ref a ∧ SqT K H a xs ∧ ∀ r H', Same H H' → SqT K H' r (cutV xs lo hi) → Q (.ref r) H'
section
variable {X : Cx}
theorem op_repS : OpR X (binaryOp .Mult) (rRepS X.K) := by
  intro pins s σ H x y v u Q I rx ry h
  obtain ⟨l, k, xs, rfl, rfl, hT, hne, h1, h2, hz, q⟩ := h
  refine op_repG pins s σ H _ _ v u Q I rx ry ⟨l, k, xs, rfl, rfl, hT, hne, h1, h2, hz, fun e => ?_, fun e p hp => ?_, fun _ p hp => ?_⟩
  · subst e
    refine q l H (Same.refl H) ?_
    have : (List.replicate (1 : Int).toNat xs).flatten = xs := by simp
    rw [this]
    exact hT
  · refine q p _ (same_upd hp) (SqT.of ?_)
    have : k.toNat = 0 := by omega
    rw [this]
    exact upd_same
  · exact q p _ (same_upd hp) (SqT.of upd_same)
theorem op_catS : OpR X (binaryOp .Add) (rCatS X.K) := by
  intro pins s σ H x y v u Q I rx ry h
  obtain ⟨a, b, xs, ys, rfl, rfl, ha, hb, hz, q⟩ := h
  refine op_catA pins s σ H _ _ v u Q I rx ry ⟨a, b, xs, ys, rfl, rfl, ha, hb, hz, fun e => ?_, fun _ e => ?_, fun _ _ p hp => ?_⟩
  · subst e
    exact q b H (Same.refl H) hb
  · subst e
    refine q a H (Same.refl H) ?_
    rw [List.append_nil]
    exact ha
  · exact q p _ (same_upd hp) (SqT.of upd_same)
theorem sl_tupS : SlR X (rSlS X.K) := by
  intro pins s σ H x v vl vu lo hi sl Q I rx hs pl pu h
  obtain ⟨a, xs, rfl, hx, q⟩ := h
  refine sl_tupA pins s σ H _ v vl vu lo hi sl Q I rx hs pl pu ⟨a, xs, rfl, hx, fun e => ?_, fun _ p hp => ?_⟩
  · refine q a H (Same.refl H) ?_
    have : cutV xs lo hi = xs := by
      unfold cutV
      rw [e.1, e.2, List.drop_zero, Nat.sub_zero, List.take_length]
    rw [this]
    exact hx
  · exact q p _ (same_upd hp) (SqT.of upd_same)
end
end Tc

set_option maxHeartbeats 4000000
/-! == and != by a class's own __eq__, whatever the other side is. -/
namespace Tc
open PySem PySem.Spec PySem.Calls PyProof.Rows L2
section
open PySem.W
variable {prog : Program} {w : World} {A : Around} {E : Value → Shared → Prop} {s : Shared} {K : Frag} {x C L f : Addr} {h₀ : Heap} {m : Str → Option Value} {ox : Obj} {od : Option Obj}
theorem isObject_K {M : Model} (X : K.In s.heap) (I : InstAt s.heap x ox C od) (hob : mroIn K C (.type "object") = some true) : Looks M s.heap (isInstance (.ref x) (.type "object")) true := by
  unfold isInstance
  exact I.type.andThen (looks_mroIn X hob)
theorem check_ne_K {M : Model} {b : Value} {Q : Unit → Shared → Prop} (X : K.In s.heap) (I : InstAt s.heap x ox C od) (hob : mroIn K C (.type "object") = some true) (hq : Q () s) :
    wpAny M A (checkBuiltinCall "object.__ne__" ⟨[.ref x, b], []⟩) Q E s := by
  simp only [checkBuiltinCall, PySem.F.cmpKind_ne, PySem.F.cmpSplit_ne]
  refine wpAny_bind ((isObject_K X I hob).here ?_)
  cases hsig : Manifest.signature? "object.__ne__" with
  | none => exact wpAny_pure hq
  | some sig =>
    have ha := PySem.F.cmpArgs_ne (.ref x) b
    simp only [argsOk, hsig] at ha
    first
      | exact wpAny_of_eq ha (wpAny_pure hq)
      | exact wpAny_of_eq ha hq
      | (simp only [ha]; exact wpAny_pure hq)
      | skip
theorem ne_bind (self : Value) : bindSpecial (.builtin "object.__ne__") self = pure (.builtin "object.__ne__", [self]) :=
  (Slot.of (T := "object") (name := "__ne__") (id := "object.__ne__") (owner := "object") (n := "__ne__") (by rw [typeLookup_type, builtinLookup_eq_fast]; kernel_rfl) (by decide +kernel) (by decide +kernel) (by decide +kernel)
    (by first | exact .inl (by decide +kernel) | exact .inr (by decide +kernel)) (by rw [isSubtype_type]; kernel_rfl)).bind self
theorem ne_plain : plainId "object.__ne__" = true := by decide +kernel
/-- object.__ne__ turns the own __eq__ round -/
theorem objNe_K {b : Value} {Q : Fin → Shared → Prop} (hu : A.units < cLine) (X : K.In s.heap) (I : InstAt s.heap x ox C od) (hs : findIn K (.ref C) "__eq__" = some (some (.ref f))) (hf : isFn K (.ref f) = true)
    (h : wpAny (model prog w) A (call (.ref f) [.ref x, b]) (fun v s' => ∃ r, v = .bool r ∧ Q (.done (.ret (.bool (!r)))) s') E s) : wpAny (model prog w) A (Builtin.«object.__ne__» ⟨[.ref x, b], []⟩) Q E s := by
  unfold Builtin.«object.__ne__»
  repeat (first
    | with_reducible refine wpAny_cRoomFor hu ?_
    | (refine wpAny_bind (m := callSpecialIfBound? (.ref x) (Str.ofString "__eq__") [b]) (ifBound_K X I hs hf (wpAny_mono h (fun r s' hr => by
          obtain ⟨q, rfl, hq⟩ := hr
          repeat (first | exact hq | exact wpAny_pure hq | exact wpAny_truthy_bool hq | (refine wpAny_bind (m := truthy (.bool _)) (wpAny_truthy_bool ?_)) | wp_step)) fun _ _ e => e)))
    | wp_step)
theorem ifNe_K {b : Value} {Q : Option Value → Shared → Prop} (hu : A.units + 1 < cLine) (X : K.In s.heap) (I : InstAt s.heap x ox C od) (hne : findIn K (.ref C) "__ne__" = some (some (.builtin "object.__ne__"))) (hob : mroIn K C (.type "object") = some true)
    (hs : findIn K (.ref C) "__eq__" = some (some (.ref f))) (hf : isFn K (.ref f) = true) (h : wpAny (model prog w) A.in1 (call (.ref f) [.ref x, b]) (fun v s' => ∃ r, v = .bool r ∧ Q (some (.bool (!r))) s') E s) :
    wpAny (model prog w) A (callSpecialIfBound? (.ref x) "__ne__" [b]) Q E s := by
  simp only [callSpecialIfBound?, bindSpecialIfBound?]
  refine wpAny_holding (wpAny_bind (wpAny_bind (wpAny_bind (I.type.here ((looks_findIn X hne).here ?_)))))
  simp only [ne_bind]
  refine wpAny_bind (wpAny_askSetting (wpAny_ite ?_))
  have fin : wpAny (model prog w) A (call (.builtin "object.__ne__") ([.ref x] ++ [b]) >>= fun v => pure (some v)) Q E s := by
    refine wpAny_bind (wpAny_call (codeAny_call_builtin ne_plain PySem.F.cmpEntry_ne (check_ne_K X I hob (objNe_K (A := A.in1) hu X I hs hf (wpAny_mono h (fun v s' hv => ?_) fun _ _ e => e)))))
    obtain ⟨r, rfl, hq⟩ := hv
    first | exact ⟨r, rfl, wpAny_pure hq⟩ | exact ⟨r, rfl, hq⟩
  split
  · exact wpAny_bind (wpAny_pure (wpAny_pure fin))
  · exact wpAny_tryCatch (wpAny_bind (wpAny_pure (wpAny_pure fin)))
theorem ne_K {b tb : Value} {Q : Value → Shared → Prop} (hu : A.units + 1 < cLine) (F : Fr h₀ L s.heap m) (X₀ : K.In h₀) (I : InstAt s.heap x ox C od) (hb : Looks (model prog w) s.heap (typeOf b) tb) (hn : notFirst K C tb = true)
    (hne : findIn K (.ref C) "__ne__" = some (some (.builtin "object.__ne__"))) (hob : mroIn K C (.type "object") = some true) (hs : findIn K (.ref C) "__eq__" = some (some (.ref f))) (hf : isFn K (.ref f) = true)
    (h : wpAny (model prog w) A.in1 (call (.ref f) [.ref x, b]) (fun v s' => ∃ r, v = .bool r ∧ Q (.bool (!r)) s') E s) : wpAny (model prog w) A (richCompare .NotEq (.ref x) b) Q E s := by
  have X := X₀.keeps F.keep
  have one : wpAny (model prog w) A (tryCompare (.ref x) "__ne__" b) (fun r s' => ∃ v, r = some v ∧ Q v s') E s := by
    unfold tryCompare
    refine wpAny_bind (ifNe_K hu X I hne hob hs hf (wpAny_mono h (fun v s' hv => ?_) fun _ _ e => e))
    obtain ⟨r, rfl, hq⟩ := hv
    exact ⟨r, rfl, wpAny_pure ⟨_, rfl, hq⟩⟩
  unfold richCompare
  simp only [oneThing_ref]
  refine wpAny_holding (wpAny_bind (wpAny_cRoomFor (Nat.lt_of_succ_lt hu) ?_))
  rw [cmpInfo_NotEq]
  dsimp only
  refine wpAny_bind (I.type.here (wpAny_bind (hb.here ?_)))
  split
  · rename_i q
    have e : subIn K tb (.ref C) = some false := by
      rcases Bool.or_eq_true_iff.mp hn with e | e
      · rw [beq_iff_eq.mp e] at q; simp at q
      · exact beq_iff_eq.mp e
    refine wpAny_bind ((looks_subIn X e).here ?_)
    simp only [Bool.false_eq_true, if_false]
    refine wpAny_bind (wpAny_mono one (fun r s' z => ?_) fun _ _ e => e)
    obtain ⟨v, rfl, hq⟩ := z
    exact wpAny_pure hq
  · refine wpAny_bind (wpAny_pure ?_)
    simp only [Bool.false_eq_true, if_false]
    refine wpAny_bind (wpAny_mono one (fun r s' z => ?_) fun _ _ e => e)
    obtain ⟨v, rfl, hq⟩ := z
    exact wpAny_pure hq
end
section
variable {X : Cx}
/-- what the top says of a class with an own __eq__ -/
structure EqC (K : PySem.W.Frag) (C f : Addr) : Prop where
  eq : PySem.W.findIn K (.ref C) "__eq__" = some (some (.ref f))
  ne : PySem.W.findIn K (.ref C) "__ne__" = some (some (.builtin "object.__ne__"))
  fn : PySem.W.isFn K (.ref f) = true
  ob : PySem.W.mroIn K C (.type "object") = some true
/-- x == y, x of the class: what the own __eq__ promises of both -/
def rEqO (K : PySem.W.Frag) (C : Addr) (sp : Sp) (E : XK) : R2 := fun x y H Q => ∃ a dx fs t, x = .ref a ∧ H a = some (.ins C dx fs) ∧ TyX K H y t ∧ PySem.W.notFirst K C t = true ∧ sp [x, y] H (fun z H' => ∃ b, z = .bl b ∧ Q (.bl b) H') E
def rNeO (K : PySem.W.Frag) (C : Addr) (sp : Sp) (E : XK) : R2 := fun x y H Q => ∃ a dx fs t, x = .ref a ∧ H a = some (.ins C dx fs) ∧ TyX K H y t ∧ PySem.W.notFirst K C t = true ∧ sp [x, y] H (fun z H' => ∃ b, z = .bl b ∧ Q (.bl (!b)) H') E
theorem op_eqO {CX : CXT} {k : Nat} {f C : Addr} {fd : FuncData} {ps : List Str} {sp : Sp} {E : XK} (c : EqC X.K C f) (F : FnOk X.prog X.w X.K X.mg X.base CX k f fd ps sp) (hb : Binds X.K fd ps []) (hx : Passes CX X E) (hr : Room k X.A) : OpR X (compareOp .Eq) (rEqO X.K C sp E) := by
  intro pins s σ H x y v u Q I rx ry h
  obtain ⟨a, dx, fs, t, rfl, ha, ty, hn, q⟩ := h
  cases rx
  obtain ⟨mA, J, _⟩ := ins_get I.hok ha
  obtain ⟨od, J, _⟩ := J.look
  obtain ⟨m, hF⟩ := I.fr
  obtain ⟨P, Z, p, _⟩ := kit_of I ry ty
  have hl : ([Value.ref a, u]).length = ps.length := by
    rw [← F.len _ _ _ _ q]
    rfl
  show wpAny (model X.prog X.w) X.A (richCompare .Eq (.ref a) u) (EP X pins σ Q) X.xe s
  refine PySem.W.cmp_K (op := .Eq) hr.units0 hF I.ok.mod.kin J (Z.ty _ _ I.kIn p) hn c.eq c.fn ?_
  refine wpAny_call (codeAny_mono (F.run X.A X.stack s H ⟨[.ref a, u], []⟩ [.ref a, u] [.ref a, y] _ E hr I.env0 (by simpa using hb s [.ref a, u] I.kIn hl) (.cons rfl (.cons ry .nil)) q) fun r' s' hq => ?_)
  cases r' with
  | error e => exact hx pins σ H s e s' I hq
  | ok fl =>
    cases fl with
    | ret w' =>
      obtain ⟨z, H', I', rz, b, ez, q'⟩ := I.after hq
      subst ez
      cases rz
      exact ⟨.bl b, H', I', rfl, q'⟩
    | next => exact False.elim hq
    | brk => exact False.elim hq
    | cont => exact False.elim hq
theorem op_neO {CX : CXT} {k : Nat} {f C : Addr} {fd : FuncData} {ps : List Str} {sp : Sp} {E : XK} (c : EqC X.K C f) (F : FnOk X.prog X.w X.K X.mg X.base CX k f fd ps sp) (hb : Binds X.K fd ps []) (hx : Passes CX X E) (hr : Room (k + 1) X.A) : OpR X (compareOp .NotEq) (rNeO X.K C sp E) := by
  intro pins s σ H x y v u Q I rx ry h
  obtain ⟨a, dx, fs, t, rfl, ha, ty, hn, q⟩ := h
  cases rx
  obtain ⟨mA, J, _⟩ := ins_get I.hok ha
  obtain ⟨od, J, _⟩ := J.look
  obtain ⟨m, hF⟩ := I.fr
  obtain ⟨P, Z, p, _⟩ := kit_of I ry ty
  have hl : ([Value.ref a, u]).length = ps.length := by
    rw [← F.len _ _ _ _ q]
    rfl
  show wpAny (model X.prog X.w) X.A (richCompare .NotEq (.ref a) u) (EP X pins σ Q) X.xe s
  refine ne_K (by have := hr.units; omega) hF I.ok.mod.kin J (Z.ty _ _ I.kIn p) hn c.ne c.ob c.eq c.fn ?_
  refine wpAny_call (codeAny_mono (F.run X.A.in1 X.stack s H ⟨[.ref a, u], []⟩ [.ref a, u] [.ref a, y] _ E hr.in1 I.env0.in1 (by simpa using hb s [.ref a, u] I.kIn hl) (.cons rfl (.cons ry .nil)) q) fun r' s' hq => ?_)
  cases r' with
  | error e => exact hx pins σ H s e s' I hq
  | ok fl =>
    cases fl with
    | ret w' =>
      obtain ⟨z, H', I', rz, b, ez, q'⟩ := I.after hq
      subst ez
      cases rz
      exact ⟨b, rfl, .bl (!b), H', I', rfl, q'⟩
    | next => exact False.elim hq
    | brk => exact False.elim hq
    | cont => exact False.elim hq
end
end Tc

set_option maxHeartbeats 4000000
/-! Own operators: +, -, * of a class with its own instances and with ints on either side; - in front; str; an index. -/
namespace Tc
open PySem PySem.Spec PySem.Calls PyProof.Rows L2
section
open PySem.W
def PlainAt (x : Addr) (s : Shared) : Prop := ∃ C dx, s.heap.get? x = some (PySem.W.instObj C dx)
theorem not_int_add (i : Int) (t : Tok) (x : Addr) : GivesAt (PlainAt x) (Builtin.«int.__add__» ⟨[.int i t, .ref x], []⟩) (.val (Value.notImplemented)) := by
  intro prog w A R s hP h
  obtain ⟨C, dx, e⟩ := hP
  obtain ⟨hp, g, d, tk, os⟩ := s
  wp_walk
  exact h
theorem not_int_sub (i : Int) (t : Tok) (x : Addr) : GivesAt (PlainAt x) (Builtin.«int.__sub__» ⟨[.int i t, .ref x], []⟩) (.val (Value.notImplemented)) := by
  intro prog w A R s hP h
  obtain ⟨C, dx, e⟩ := hP
  obtain ⟨hp, g, d, tk, os⟩ := s
  wp_walk
  exact h
theorem not_int_mul (i : Int) (t : Tok) (x : Addr) : GivesAt (PlainAt x) (Builtin.«int.__mul__» ⟨[.int i t, .ref x], []⟩) (.val (Value.notImplemented)) := by
  intro prog w A R s hP h
  obtain ⟨C, dx, e⟩ := hP
  obtain ⟨hp, g, d, tk, os⟩ := s
  wp_walk
  exact h
/-- what is known of an int's own operator -/
structure IntOp (op : Operator) (id : String) (B : Builtin) : Prop where
  fills : fillsNumberSlot (.type "int") op.info.2 = pure true
  slot : Slot "int" (dunder op.info.2) id
  entry : entryFor table id = some B
  args : ∀ a b, argsOk id ⟨[a, b], []⟩
  no : ∀ i t x, GivesAt (PlainAt x) (B ⟨[.int i t, .ref x], []⟩) (.val (Value.notImplemented))
theorem intAdd : IntOp .Add "int.__add__" Builtin.«int.__add__» := ⟨PySem.F.fills_int_add, PySem.F.slot_int_add, PySem.F.entry_int_add, PySem.F.args_int_add_2, not_int_add⟩
theorem intSub : IntOp .Sub "int.__sub__" Builtin.«int.__sub__» := ⟨PySem.F.fills_int_sub, PySem.F.slot_int_sub, PySem.F.entry_int_sub, PySem.F.args_int_sub_2, not_int_sub⟩
theorem intMul : IntOp .Mult "int.__mul__" Builtin.«int.__mul__» := ⟨PySem.F.fills_int_mul, PySem.F.slot_int_mul, PySem.F.entry_int_mul, PySem.F.args_int_mul_2, not_int_mul⟩
variable {prog : Program} {w : World} {A : Around} {E : Value → Shared → Prop} {s : Shared} {K : Frag} {x C L f g : Addr} {h₀ : Heap} {m : Str → Option Value} {ox : Obj} {od : Option Obj} {id : String} {B : Builtin}
/-- an int op one of the class: the int's operator declines, the class's reflected one answers -/
theorem rbin_K {op : Operator} {i : Int} {t : Tok} {Q : Value → Shared → Prop} (io : IntOp op id B) (F : Fr h₀ L s.heap m) (X₀ : K.In h₀) (I : InstAt s.heap x ox C od) (hP : PlainAt x s) (hc : selfFirst K C = true)
    (hs : findIn K (.ref C) (PySem.dunder op.info.2) = some (some (.ref f))) (hr : findIn K (.ref C) (dunderR op.info.2) = some (some (.ref g))) (hf : isFn K (.ref g) = true)
    (hsub : subIn K (.ref C) (.type "int") = some false)
    (h : wpAny (model prog w) A (call (.ref g) [.ref x, .int i t]) (PySem.W.CmpBack Q) E s) : wpAny (model prog w) A (binaryOp op (.int i t) (.ref x)) Q E s := by
  have X := X₀.keeps F.keep
  obtain ⟨cd, rest, hcd, hm⟩ := ksp_first hc
  obtain ⟨fl, sl, en, ar, no⟩ := io
  rcases hi : op.info with ⟨sym, nm'⟩
  rw [hi] at hs hr fl sl
  dsimp only at hs hr fl sl
  have one := ksp_try X I hr hf h
  have dec : ∀ {Q' : Option Value → Shared → Prop}, Q' none s → wpAny (model prog w) A (tryMethod (.int i t) (dunder nm') (.ref x)) Q' E s := fun q =>
    wpAny_tryMethod_declines (typeIs_int _ _ _) sl (call_givesAt sl (typeIs_int _ _ _) en (ar _ _) (no i t x) hP ⟨rfl, q⟩)
  have L1 : Looks (model prog w) s.heap (typeOf (.int i t)) (.type "int") := Looks.of_pure rfl
  have L2 : Looks (model prog w) s.heap (typeOf (.ref x)) (.ref C) := I.type
  have L3 : Looks (model prog w) s.heap (fillsNumberSlot (.ref C) nm') true := fills_K X hcd hm hs
  have L4 : Looks (model prog w) s.heap (fillsNumberSlot (.type "int") nm') true := Looks.of_pure fl
  have L5 : Looks (model prog w) s.heap (isSubtype (.ref C) (.type "int")) false := looks_subIn X hsub
  have L7 : Looks (model prog w) s.heap (numberSlotInPython (.type "int") nm') false := Looks.of_pure rfl
  have hne : (Value.type "int" == Value.ref C) = false := Bool.eq_false_iff.mpr fun q => by cases beq_iff_eq.mp q
  simp only [binaryOp, hi]
  refine wpAny_holding (wpAny_bind ?_)
  unfold binaryOp1
  refine wpAny_bind (L1.here (wpAny_bind (L2.here (wpAny_bind (L4.here ?_)))))
  simp only [hne, Bool.false_eq_true, if_false]
  refine wpAny_bind (L3.here ?_)
  simp only [Bool.and_self, if_true]
  refine wpAny_bind (L5.here ?_)
  simp only [Bool.false_eq_true, if_false, Bool.not_false, Bool.and_self, if_true, pure_bind]
  refine wpAny_bind (L7.here ?_)
  simp only [Bool.false_eq_true, if_false, pure_bind]
  refine wpAny_bind (dec ?_)
  refine wpAny_bind (wpAny_mono one (fun r s' hr' => ?_) fun _ _ e => e)
  obtain ⟨v, rfl, hq⟩ := hr'
  exact wpAny_bind (wpAny_rule (wpAny_pure (wpAny_pure hq)))
end
section
variable {X : Cx}
/-- what comes back is a value of ours, never NotImplemented -/
theorem cmp_back {pins : List (Addr × Obj)} {σ : L2.St} {Q : VK} {z : V} {w : Value} {s : Shared} {H : Hp} (I : Inv X pins σ H s) (r : RelV z w) (q : Q z H) : PySem.W.CmpBack (EP X pins σ Q) w s := by
  cases z with
  | non => cases r; exact ⟨.non, H, I, rfl, q⟩
  | bl b => cases r; exact ⟨.bl b, H, I, rfl, q⟩
  | int i => obtain ⟨t, rfl⟩ := r; exact ⟨.int i, H, I, ⟨_, rfl⟩, q⟩
  | str i => obtain ⟨t, rfl⟩ := r; exact ⟨.str i, H, I, ⟨_, rfl⟩, q⟩
  | byt i => obtain ⟨t, rfl⟩ := r; exact ⟨.byt i, H, I, ⟨_, rfl⟩, q⟩
  | flt i => obtain ⟨t, rfl⟩ := r; exact ⟨.flt i, H, I, ⟨_, rfl⟩, q⟩
  | ref a => cases r; exact ⟨.ref a, H, I, rfl, q⟩
  | ty n => cases r; exact ⟨.ty n, H, I, rfl, q⟩
/-- what the top says of a class's own operator: d its name, r the reflected one's -/
structure OpC (K : PySem.W.Frag) (C f : Addr) (d r : Str) : Prop where
  slot : PySem.W.findIn K (.ref C) d = some (some (.ref f))
  fn : PySem.W.isFn K (.ref f) = true
  first : PySem.W.selfFirst K C = true
  rc : ∃ rc, PySem.W.findIn K (.ref C) r = some rc ∧ (rc = none ∨ ∃ g : Addr, rc = some (.ref g))
  it : ∃ fo, PySem.W.findIn K (.type "int") d = some fo
  ir : ∃ ro, PySem.W.findIn K (.type "int") r = some ro
  sub : PySem.W.subIn K (.type "int") (.ref C) = some false
/-- and of the reflected one -/
structure RopC (K : PySem.W.Frag) (C f g : Addr) (d r : Str) : Prop where
  slot : PySem.W.findIn K (.ref C) d = some (some (.ref f))
  rslot : PySem.W.findIn K (.ref C) r = some (some (.ref g))
  fn : PySem.W.isFn K (.ref g) = true
  first : PySem.W.selfFirst K C = true
  sub : PySem.W.subIn K (.ref C) (.type "int") = some false
/-- x op y, x of the class, y of it or an int -/
def rOp (C : Addr) (sp : Sp) (E : XK) : R2 := fun x y H Q => ∃ a dx fs, x = .ref a ∧ H a = some (.ins C dx fs) ∧ ((∃ b dy gs, y = .ref b ∧ H b = some (.ins C dy gs)) ∨ ∃ i : Int, y = .int i) ∧ sp [x, y] H Q E
/-- an int op y, y of the class -/
def rRop (C : Addr) (sp : Sp) (E : XK) : R2 := fun x y H Q => ∃ (i : Int) (b dy : Addr) (gs : List (Str × V)), x = .int i ∧ y = .ref b ∧ H b = some (.ins C dy gs) ∧ sp [y, x] H Q E
theorem op_own {op : Operator} {CX : CXT} {k : Nat} {f C : Addr} {fd : FuncData} {ps : List Str} {sp : Sp} {E : XK} (c : OpC X.K C f (dunder op.info.2) (dunderR op.info.2)) (F : FnOk X.prog X.w X.K X.mg X.base CX k f fd ps sp) (hb : Binds X.K fd ps []) (hx : Passes CX X E) (hr : Room k X.A) : OpR X (binaryOp op) (rOp C sp E) := by
  intro pins s σ H x y v u Q I rx ry h
  obtain ⟨a, dx, fs, rfl, ha, hy, q⟩ := h
  cases rx
  obtain ⟨mA, J, _⟩ := ins_get I.hok ha
  obtain ⟨od, J, _⟩ := J.look
  obtain ⟨m, hF⟩ := I.fr
  have hl : ([Value.ref a, u]).length = ps.length := by
    rw [← F.len _ _ _ _ q]
    rfl
  have run : wpAny (model X.prog X.w) X.A (call (.ref f) [.ref a, u]) (PySem.W.CmpBack (EP X pins σ Q)) X.xe s := by
    refine wpAny_call (codeAny_mono (F.run X.A X.stack s H ⟨[.ref a, u], []⟩ [.ref a, u] [.ref a, y] _ E hr I.env0 (by simpa using hb s [.ref a, u] I.kIn hl) (.cons rfl (.cons ry .nil)) q) fun r' s' hq => ?_)
    cases r' with
    | error e => exact hx pins σ H s e s' I hq
    | ok fl =>
      cases fl with
      | ret w' =>
        obtain ⟨z, H', I', rz, q'⟩ := I.after hq
        exact cmp_back I' rz q'
      | next => exact False.elim hq
      | brk => exact False.elim hq
      | cont => exact False.elim hq
  rcases hy with ⟨b, dy, gs, rfl, hb'⟩ | ⟨i, rfl⟩
  · cases ry
    obtain ⟨mB, J', _⟩ := ins_get I.hok hb'
    obtain ⟨od', J', _⟩ := J'.look
    exact PySem.W.binop_K hF I.ok.mod.kin J J'.type c.first c.slot c.fn run
  · obtain ⟨t, rfl⟩ := ry
    obtain ⟨rc, h1, h2⟩ := c.rc
    obtain ⟨fo, h3⟩ := c.it
    obtain ⟨ro, h4⟩ := c.ir
    exact PySem.W.ksp_binT hF I.ok.mod.kin J rfl c.first c.slot c.fn h1 h2 h3 h4 c.sub run
theorem op_rown {op : Operator} {id : String} {B : Builtin} {CX : CXT} {k : Nat} {f g C : Addr} {fd : FuncData} {ps : List Str} {sp : Sp} {E : XK} (io : IntOp op id B) (c : RopC X.K C f g (dunder op.info.2) (dunderR op.info.2)) (F : FnOk X.prog X.w X.K X.mg X.base CX k g fd ps sp) (hb : Binds X.K fd ps []) (hx : Passes CX X E) (hr : Room k X.A) : OpR X (binaryOp op) (rRop C sp E) := by
  intro pins s σ H x y v u Q I rx ry h
  obtain ⟨i, b, dy, gs, rfl, rfl, hb', q⟩ := h
  obtain ⟨t, rfl⟩ := rx
  cases ry
  obtain ⟨mA, J0, _⟩ := ins_get I.hok hb'
  obtain ⟨od, J, _⟩ := J0.look
  obtain ⟨m, hF⟩ := I.fr
  have hl : ([Value.ref b, Value.int i t]).length = ps.length := by
    rw [← F.len _ _ _ _ q]
    rfl
  refine rbin_K io hF I.ok.mod.kin J ⟨C, dy, J0.obj⟩ c.first c.slot c.rslot c.fn c.sub ?_
  refine wpAny_call (codeAny_mono (F.run X.A X.stack s H ⟨[.ref b, .int i t], []⟩ [.ref b, .int i t] [.ref b, .int i] _ E hr I.env0 (by simpa using hb s [.ref b, .int i t] I.kIn hl) (.cons rfl (.cons ⟨t, rfl⟩ .nil)) q) fun r' s' hq => ?_)
  cases r' with
  | error e => exact hx pins σ H s e s' I hq
  | ok fl =>
    cases fl with
    | ret w' =>
      obtain ⟨z, H', I', rz, q'⟩ := I.after hq
      exact cmp_back I' rz q'
    | next => exact False.elim hq
    | brk => exact False.elim hq
    | cont => exact False.elim hq
/-- a method of no more arguments than the object itself, as a builtin asks for it -/
structure UnC (K : PySem.W.Frag) (C f : Addr) (d : Str) : Prop where
  slot : PySem.W.findIn K (.ref C) d = some (some (.ref f))
  fn : PySem.W.isFn K (.ref f) = true
def rUnO (C : Addr) (sp : Sp) (E : XK) : V → Hp → VK → Prop := fun x H Q => ∃ a dx fs, x = .ref a ∧ H a = some (.ins C dx fs) ∧ sp [x] H Q E
theorem un_own {CX : CXT} {k : Nat} {f C : Addr} {fd : FuncData} {ps : List Str} {sp : Sp} {E : XK} (c : UnC X.K C f "__neg__") (F : FnOk X.prog X.w X.K X.mg X.base CX k f fd ps sp) (hb : Binds X.K fd ps []) (hx : Passes CX X E) (hr : Room k X.A) : UnR X (unaryOp .USub) (rUnO C sp E) := by
  intro pins s σ H x v Q I rx h
  obtain ⟨a, dx, fs, rfl, ha, q⟩ := h
  cases rx
  obtain ⟨mA, J, _⟩ := ins_get I.hok ha
  obtain ⟨od, J, _⟩ := J.look
  obtain ⟨m, hF⟩ := I.fr
  have hl : ([Value.ref a]).length = ps.length := by
    rw [← F.len _ _ _ _ q]
    rfl
  refine PySem.W.ksp_neg hF I.ok.mod.kin J c.slot c.fn ?_
  refine wpAny_call (codeAny_mono (F.run X.A X.stack s H ⟨[.ref a], []⟩ [.ref a] [.ref a] _ E hr I.env0 (by simpa using hb s [.ref a] I.kIn hl) (.cons rfl .nil) q) fun r' s' hq => ?_)
  cases r' with
  | error e => exact hx pins σ H s e s' I hq
  | ok fl =>
    cases fl with
    | ret w' => exact I.after hq
    | next => exact False.elim hq
    | brk => exact False.elim hq
    | cont => exact False.elim hq
def rStrO (C : Addr) (sp : Sp) (E : XK) : List V → Hp → VK → Prop := fun xs H Q => ∃ a dx fs, xs = [.ref a] ∧ H a = some (.ins C dx fs) ∧ sp [.ref a] H (fun z H' => ∃ y : Str, z = .str y ∧ Q z H') E
theorem call_strOwn {CX : CXT} {k : Nat} {f C : Addr} {fd : FuncData} {ps : List Str} {sp : Sp} {E : XK} (c : UnC X.K C f "__str__") (F : FnOk X.prog X.w X.K X.mg X.base CX k f fd ps sp) (hb : Binds X.K fd ps []) (hx : Passes CX X E) (hr : Room (k + 2) X.A) : CallR X (.type "str") (rStrO C sp E) := by
  intro pins s σ H vs us Q I r h
  obtain ⟨a, dx, fs, rfl, ha, q⟩ := h
  rw [Vals.ref1 r]
  obtain ⟨mA, J, _⟩ := ins_get I.hok ha
  obtain ⟨od, J, _⟩ := J.look
  obtain ⟨m, hF⟩ := I.fr
  have hl : ([Value.ref a]).length = ps.length := by
    rw [← F.len _ _ _ _ q]
    rfl
  have hr2 : Room k X.A.in1.in1 := Room.in1 (Room.in1 hr)
  refine PySem.W.kso_call hr2.units0 (I.ok.mod.kin.keeps hF.keep) J c.slot c.fn ?_
  refine wpAny_call (codeAny_mono (F.run X.A.in1.in1 X.stack s H ⟨[.ref a], []⟩ [.ref a] [.ref a] _ E hr2 I.env0.in1.in1 (by simpa using hb s [.ref a] I.kIn hl) (.cons rfl .nil) q) fun r' s' hq => ?_)
  cases r' with
  | error e => exact hx pins σ H s e s' I hq
  | ok fl =>
    cases fl with
    | ret w =>
      obtain ⟨z, H', I', rz, i, ez, q'⟩ := I.after hq
      subst ez
      obtain ⟨t, rfl⟩ := rz
      exact ⟨.str i, H', I', ⟨_, rfl⟩, q'⟩
    | next => exact False.elim hq
    | brk => exact False.elim hq
    | cont => exact False.elim hq
def rIxO (C : Addr) (sp : Sp) (E : XK) : R2 := fun x y H Q => ∃ a dx fs, x = .ref a ∧ H a = some (.ins C dx fs) ∧ sp [x, y] H Q E
/-- x[i] by the class's own __getitem__ -/
theorem pe_ixO {CX : CXT} {k : Nat} {f C : Addr} {fd : FuncData} {ps : List Str} {sp : Sp} {E : XK} {ea eb : Expr} {ta tb : TE} {pos : Pos} (c : UnC X.K C f "__getitem__") (hfn : PySem.W.fnIn X.K f = true) (F : FnOk X.prog X.w X.K X.mg X.base CX k f fd ps sp) (hb : Binds X.K fd ps []) (hx : Passes CX X E) (hr : Room (k + 1) X.A)
    (pa : PE X ea ta) (pb : PE X eb tb) (hsl : ∀ o i, subscripted eb true o i = runValue (.builtin "lifetime.subscript" ⟨[o, i], []⟩)) : PE X (.Subscript ea eb pos) (tOp (rIxO C sp E) ta tb) := by
  refine ⟨fun pins s0 σ0 H0 Q I0 h0 => ?_⟩
  refine Subscript_ (binT pa pb I0 h0 fun v u s x y H σI rx ry h => ?_)
  have I := σI
  obtain ⟨a, dx, fs, rfl, ha, q⟩ := h
  cases rx
  obtain ⟨mA, J, _⟩ := ins_get I.hok ha
  obtain ⟨od, J, _⟩ := J.look
  obtain ⟨m, hF⟩ := I.fr
  have hl : ([Value.ref a, u]).length = ps.length := by
    rw [← F.len _ _ _ _ q]
    rfl
  refine PySem.W.sub_K hF I.ok.mod.kin J c.slot hfn c.fn ?_ ?_
  · refine wpAny_call (codeAny_mono (F.run X.A.in1 X.stack s H ⟨[.ref a, u], []⟩ [.ref a, u] [.ref a, y] _ E hr.in1 I.env0.in1 (by simpa using hb s [.ref a, u] I.kIn hl) (.cons rfl (.cons ry .nil)) q) fun r' s' hq => ?_)
    cases r' with
    | error e => exact hx pins σ0 H s e s' I hq
    | ok fl =>
      cases fl with
      | ret w' => exact I.after hq
      | next => exact False.elim hq
      | brk => exact False.elim hq
      | cont => exact False.elim hq
  · exact hsl _ _
def CDivZ (_ j : Int) : Prop := j ≠ 0 ∧ j.natAbs.log2 < 9000
theorem op_fdivZ : OpR X (binaryOp .FloorDiv) (rI CDivZ fun i j => .int (i.fdiv j)) := opI fun i j _ _ _ _ _ hc q => by
  have h1 : j.natAbs.log2 < 9000 := hc.2
  exact floordiv_int hc.1 q (.inl (PyProof.noPylong_of_log2 h1))
theorem wide_divz {i j : Int} {b : Nat} (h : j ≠ 0) (hb : j.natAbs < 2 ^ b) (h0 : 0 < b) (h9 : b ≤ 9000) : CDivZ i j := ⟨h, Nat.lt_of_lt_of_le (PySem.Flt.log2_lt_of h0 hb) h9⟩
end
end Tc

/-! Small words for every law. -/
namespace Tc
open PySem PySem.Spec PyProof.Rows L2
theorem ifF {c : Bool} {A B : Prop} (hc : c = false) (h : B) : if c = true then A else B := by
  rw [hc, if_neg Bool.false_ne_true]
  exact h
theorem ifT {c : Bool} {A B : Prop} (hc : c = true) (h : A) : if c = true then A else B := by
  rw [if_pos hc]
  exact h
theorem neD_self {d e : PyData} (h : d = e) (s : SeqAt.shaped e = true) : (!PyData.eqv d e) = false := by
  subst h
  rw [eqv_self s]
  rfl
theorem ne_self {x y : Int} (h : x = y) : (!decide (V.int x = V.int y)) = false := by
  subst h
  rw [decide_eq_true rfl]
  rfl
theorem ne_bl {x y : Bool} (h : x = y) : (!decide (V.bl x = V.bl y)) = false := by
  subst h
  rw [decide_eq_true rfl]
  rfl
theorem same_new {H : Hp} {p : Addr} {o : HO} (h : H p = none) : Same H (upd H p o) := fun b u e => by
  rw [upd_ne (ne_of_none e h)]
  exact e
theorem same_mut {H H' : Hp} {p : Addr} {o : HO} (e : Same H H') (h : H p = none) : Same H (upd H' p o) := fun b u q => by
  rw [upd_ne (ne_of_none q h)]
  exact e b u q
theorem lt_line {n : Nat} (h : n < 100000) : n < sizeLine := Nat.lt_of_lt_of_le h (by decide)
theorem made {H H1 : Hp} {x dx C : Addr} (nx : H x = none) (nd : H dx = none) (k : ∀ b o, (upd (upd H dx (.own x)) x (.ins C dx [])) b = some o → b ≠ x → H1 b = some o) : Same H H1 := fun b o e =>
  k b o (by rw [upd_ne (ne_of_none e nx), upd_ne (ne_of_none e nd)]; exact e) (ne_of_none e nx)
theorem same_up {H : Hp} {x dx C : Addr} (nx : H x = none) (nd : H dx = none) : Same H (upd (upd H dx (.own x)) x (.ins C dx [])) := fun b o e => by
  rw [upd_ne (ne_of_none e nx), upd_ne (ne_of_none e nd)]
  exact e
/-- what is not a list stands -/
def Sol (H H' : Hp) : Prop := ∀ b o, H b = some o → (∀ xs, o ≠ .lst xs) → H' b = some o
theorem same_sol {H H' : Hp} (e : Same H H') : Sol H H' := fun b o h _ => e b o h
theorem same_sqT {K : PySem.W.Frag} {H H' : Hp} {a : Addr} {xs : List V} (e : Same H H') (h : SqT K H a xs) : SqT K H' a xs := by
  rcases h with (h | ⟨o, h⟩) | h
  · exact .inl (.inl (e _ _ h))
  · exact .inl (.inr ⟨o, e _ _ h⟩)
  · exact .inr h
theorem sqT_ty {K : PySem.W.Frag} {H : Hp} {a : Addr} {xs : List V} (h : SqT K H a xs) : TyX K H (.ref a) (.type "tuple") := by
  rcases h with (h | ⟨o, h⟩) | ⟨o, its, n, h1, h2, _⟩
  · exact .base (.tup h)
  · exact .fTuple h
  · exact .kTuple h1 h2
/-! texts -/
theorem of_app (a b : String) : Str.ofString (a ++ b) = Str.ofString a ++ Str.ofString b := by
  rw [Str.ofString_eq_toList, Str.ofString_eq_toList, Str.ofString_eq_toList, String.toList_append, List.map_append]
  show _ = Str.mk (_ ++ _)
  simp
theorem join2 (a b : Str) : Txt.join (Str.ofString "") [a, b] = a ++ b := by
  have z : (Str.ofString "").cps = #[] := by decide
  unfold Txt.join
  obtain ⟨a⟩ := a
  obtain ⟨b⟩ := b
  show Str.mk _ = Str.mk (a ++ b)
  simp [z]
theorem neg_text {n : Nat} (h : 0 < n) : toString (-(n : Int)) = "-" ++ toString (n : Int) := by
  obtain ⟨m, rfl⟩ : ∃ m, n = m + 1 := ⟨n - 1, by omega⟩
  rfl
theorem emp_app (b : Str) : Str.ofString "" ++ b = b := by
  have z : (Str.ofString "").cps = #[] := by decide
  obtain ⟨b⟩ := b
  show Str.mk ((Str.ofString "").cps ++ b) = Str.mk b
  simp [z]
end Tc

set_option maxHeartbeats 4000000
/-! abs by the own __abs__, truth by the own __bool__, repr of a truth. -/
namespace Tc
open PySem PySem.Spec PySem.Calls PyProof.Rows L2
section
open PySem.W
variable {prog : Program} {w : World} {A : Around} {E : Value → Shared → Prop} {s : Shared} {K : Frag} {x C L f g : Addr} {h₀ : Heap} {m : Str → Option Value} {ox : Obj} {od : Option Obj}
theorem abs_K {Q : Value → Shared → Prop} (F : Fr h₀ L s.heap m) (X₀ : K.In h₀) (I : InstAt s.heap x ox C od) (hs : findIn K (.ref C) "__abs__" = some (some (.ref f))) (hf : isFn K (.ref f) = true)
    (h : wpAny (model prog w) A.in1 (call (.ref f) [.ref x]) Q E s) : wpAny (model prog w) A (call (.builtin "abs") [.ref x]) Q E s := by
  refine Calls.call_function_entry kind_abs plain_abs entry_abs (args_abs _) ?_
  unfold Builtin.«abs»
  refine wpAny_bind (m := oneArg "abs" _) (wpAny_pure ?_)
  refine wpAny_bind (m := callSpecial? (.ref x) (Str.ofString "__abs__")) (special_fn (X₀.keeps F.keep) I hs (beq_iff_eq.mp hf) (wpAny_mono h (fun r s' hr => ?_) fun _ _ y => y))
  exact wpAny_pure ⟨_, rfl, hr⟩
end
section
variable {X : Cx}
def rAbsO (C : Addr) (sp : Sp) (E : XK) : List V → Hp → VK → Prop := fun xs H Q => ∃ a dx fs, xs = [.ref a] ∧ H a = some (.ins C dx fs) ∧ sp [.ref a] H Q E
theorem call_absOwn {CX : CXT} {k : Nat} {f C : Addr} {fd : FuncData} {ps : List Str} {sp : Sp} {E : XK} (c : UnC X.K C f "__abs__") (F : FnOk X.prog X.w X.K X.mg X.base CX k f fd ps sp) (hb : Binds X.K fd ps []) (hx : Passes CX X E) (hr : Room (k + 1) X.A) : CallR X (.builtin "abs") (rAbsO C sp E) := by
  intro pins s σ H vs us Q I r h
  obtain ⟨a, dx, fs, rfl, ha, q⟩ := h
  rw [Vals.ref1 r]
  obtain ⟨mA, J, _⟩ := ins_get I.hok ha
  obtain ⟨od, J, _⟩ := J.look
  obtain ⟨m, hF⟩ := I.fr
  have hl : ([Value.ref a]).length = ps.length := by
    rw [← F.len _ _ _ _ q]
    rfl
  refine abs_K hF I.ok.mod.kin J c.slot c.fn ?_
  refine wpAny_call (codeAny_mono (F.run X.A.in1 X.stack s H ⟨[.ref a], []⟩ [.ref a] [.ref a] _ E hr.in1 I.env0.in1 (by simpa using hb s [.ref a] I.kIn hl) (.cons rfl .nil) q) fun r' s' hq => ?_)
  cases r' with
  | error e => exact hx pins σ H s e s' I hq
  | ok fl =>
    cases fl with
    | ret w => exact I.after hq
    | next => exact False.elim hq
    | brk => exact False.elim hq
    | cont => exact False.elim hq
theorem call_repr_bl : CallR X (.builtin "repr") (fun xs H Q => ∃ b, xs = [.bl b] ∧ Q (.str (if b then "True" else "False")) H) := by
  intro pins s σ H vs us Q I r h
  obtain ⟨b, rfl, q⟩ := h
  cases r with
  | cons r1 r2 =>
    cases r2
    cases r1
    exact PySem.P.repr_of_bool ⟨.str _, H, I.tok _, ⟨_, rfl⟩, q⟩
end
/-! a list that a law draws from; all else stands -/
def Frm (a : Addr) (H H' : Hp) : Prop := ∀ b o, b ≠ a → H b = some o → H' b = some o
theorem Frm.refl {a : Addr} {H : Hp} : Frm a H H := fun _ _ _ h => h
theorem Frm.trans {a : Addr} {H H1 H2 : Hp} (x : Frm a H H1) (y : Frm a H1 H2) : Frm a H H2 := fun b o n h => y b o n (x b o n h)
theorem same_frame {a : Addr} {H H' : Hp} (x : Same H H') : Frm a H H' := fun b o _ h => x b o h
theorem Frm.write {a : Addr} {H : Hp} {o : HO} : Frm a H (upd H a o) := fun b _ n h => by rw [upd_ne n]; exact h
theorem Frm.sol {a : Addr} {H H' : Hp} {l : List V} (x : Frm a H H') (h : H a = some (.lst l)) : Sol H H' := fun b o q n => by
  refine x b o ?_ q
  rintro rfl
  rw [h] at q
  cases q
  exact n _ rfl
def Bowl (H : Hp) (a : Addr) : Prop := ∃ g s n : Int, H a = some (.lst [.int g, .int s, .int n])
theorem Bowl.stay {a : Addr} {H H' : Hp} (B : Bowl H a) (x : Same H H') : Bowl H' a := by
  obtain ⟨g, s, n, h⟩ := B
  exact ⟨g, s, n, x _ _ h⟩
theorem pow58_10 : (0 : Int) < ((10 : Int) ^ (58 : Int).toNat) ^ (10 : Int).toNat := by decide +kernel
theorem mod_bits {x m : Int} {b : Nat} (h0 : 0 < m) (h : m ≤ 2 ^ b) : (x % m).natAbs < 2 ^ b := by
  have h1 := Int.emod_lt_of_pos x h0
  have h2 := Int.emod_nonneg x (show m ≠ 0 by omega)
  have e : (((2 : Nat) ^ b : Nat) : Int) = 2 ^ b := by norm_cast
  omega
end Tc

/-! Small words for comprehensions over walks; divmod of great numbers. -/
namespace Tc
open PySem PySem.Spec PyProof.Rows L2
theorem binds_nil {K : PySem.W.Frag} {fd : FuncData} {ps : List Str} (h : ∃ ds, Vals [] ds ∧ Binds K fd ps ds) : Binds K fd ps [] := by
  obtain ⟨ds, v, b⟩ := h
  cases v
  exact b
theorem divp_wide {i j : Int} (h : CDivW i j) : CDivP i j := ⟨h.1, PyProof.noPylong_of_log2 h.2⟩
section
variable {prog : Program} {w : World} {A : Around} {E : Value → Shared → Prop} {s : Shared}
theorem adjustR (n : Nat) : Builtin.Slice.sliceAdjust none none (-1) (n : Int) = ((n : Int) - 1, -1) := by
  unfold Builtin.Slice.sliceAdjust
  have h1 : ((-1 : Int) < 0) := by decide
  simp only [h1, if_true]
theorem placesR (n : Nat) : Builtin.Slice.slicePlaces ((n : Int) - 1) (-1) (-1) = n := by
  unfold Builtin.Slice.slicePlaces
  have h1 : ¬ ((-1 : Int) > 0) := by decide
  have h2 : (- -1 : Int) = 1 := by decide
  simp only [h1, if_false, h2, Int.ediv_one]
  split <;> omega
theorem appliedR {sl : Addr} {vs : Value} {n : Nat} {Q : Int × Int × Nat → Shared → Prop} (hs : s.heap.IsSliceOf sl .none .none vs) (ps : IsPart vs (some (-1)))
    (h : Q ((n : Int) - 1, -1, n) s) : wpAny (model prog w) A (Builtin.Slice.sliceApplied (.ref sl) (pure (n : Int))) Q E s := by
  obtain ⟨os, hos, hcs, hds⟩ := id hs
  unfold Builtin.Slice.sliceApplied Builtin.Slice.sliceFields
  refine wpAny_bind (wpAny_bind (wpAny_field hos hds (x := .none) rfl (wpAny_bind (wpAny_field hos hds (x := .none) rfl (wpAny_bind (wpAny_field hos hds (x := vs) rfl (wpAny_pure ?_)))))))
  refine wpAny_bind (HT.slicePart_ ps ?_)
  show wpAny _ _ (if ((-1 : Int) == 0) = true then _ else _) _ _ s
  rw [if_neg (by decide)]
  refine wpAny_bind (HT.slicePart_ (o := none) .none (wpAny_bind (HT.slicePart_ (o := none) .none (wpAny_bind (wpAny_pure ?_)))))
  show wpAny _ _ (match Builtin.Slice.sliceAdjust none none (-1) (n : Int) with | (lo, hi) => pure (lo, (-1 : Int), Builtin.Slice.slicePlaces lo hi (-1))) _ _ s
  rw [adjustR]
  show wpAny _ _ (pure ((n : Int) - 1, (-1 : Int), Builtin.Slice.slicePlaces ((n : Int) - 1) (-1) (-1))) _ _ s
  rw [placesR]
  exact wpAny_pure h
theorem pickR (xs : Array Value) : ((List.range xs.size).filterMap fun (m : Nat) => xs[(((xs.size : Int) - 1) + (m : Int) * (-1)).toNat]?).toArray = xs.toList.reverse.toArray := by
  congr 1
  have e : ∀ m ∈ List.range xs.size, xs[(((xs.size : Int) - 1) + (m : Int) * (-1)).toNat]? = xs.toList.reverse[m]? := fun m hm => by
    have hm' : m < xs.size := List.mem_range.mp hm
    rw [List.getElem?_reverse (by rw [Array.length_toList]; exact hm'), Array.length_toList, Array.getElem?_toList]
    congr 1
    omega
  have e2 : (List.range xs.size).filterMap (fun (m : Nat) => xs[(((xs.size : Int) - 1) + (m : Int) * (-1)).toNat]?) = (List.range xs.size).filterMap (fun m => xs.toList.reverse[m]?) := by
    have cg : ∀ l : List Nat, (∀ m ∈ l, xs[(((xs.size : Int) - 1) + (m : Int) * (-1)).toNat]? = xs.toList.reverse[m]?) → l.filterMap (fun (m : Nat) => xs[(((xs.size : Int) - 1) + (m : Int) * (-1)).toNat]?) = l.filterMap (fun m => xs.toList.reverse[m]?) := by
      intro l
      induction l with
      | nil => exact fun _ => rfl
      | cons a l ih =>
        intro h
        rw [List.filterMap_cons, List.filterMap_cons, h a (List.mem_cons_self ..), ih fun m hm => h m (List.mem_cons_of_mem _ hm)]
    exact cg _ e
  rw [e2]
  have hl : xs.size = xs.toList.reverse.length := by rw [List.length_reverse, Array.length_toList]
  rw [hl]
  generalize xs.toList.reverse = r
  induction r with
  | nil => rfl
  | cons a r ih =>
    rw [List.length_cons, List.range_succ_eq_map, List.filterMap_cons]
    simp only [List.getElem?_cons_zero, List.filterMap_map]
    congr 1
theorem getItem_tupleR {t sl : Addr} {items : Array Value} {vs : Value} {Q : Value → Shared → Prop} (ht : IsTup s.heap t items) (hs : s.heap.IsSliceOf sl .none .none vs) (ps : IsPart vs (some (-1)))
    (h : Q (.ref s.heap.objs.size) { s with heap := s.heap.push { cls := .type "tuple", data := .seq items.toList.reverse.toArray } })
    (hsz : items.size ≤ sizeLine) : wpAny (model prog w) A (getItem (.ref t) (.ref sl)) Q E s := by
  have htake : sizeOk (.seq items.toList.reverse.toArray) := by
    show items.toList.reverse.toArray.size ≤ sizeLine
    simp only [List.size_toArray, List.length_reverse, Array.length_toList]
    exact hsz
  obtain ⟨os, hos, hcs, hds⟩ := id hs
  have hTs : s.TypeIs (.ref sl) "slice" := ⟨os, hos, hcs⟩
  unfold getItem
  try with_reducible refine wpAny_holding ?_
  first | refine wpAny_bind (wpAny_pure ?_) | skip
  refine wpAny_bind (wpAny_sequenceKey ht.typeIs (by decide) ?_)
  refine wpAny_bind (wpAny_callSpecial?_slot (name := Str.ofString "__getitem__") ht.typeIs PyProof.Rows.slot_tuple_getitem
    (wpAny_call_entry PyProof.Rows.slot_tuple_getitem ht.typeIs entry_tuple_getitem ?_ (args_tuple_getitem _ _)))
  show wpAny _ _ (Builtin.Tuple.tupleItemsOf (.ref t) >>= _) _ _ s
  refine wpAny_bind (tupleItemsOf_ ht ?_)
  refine wpAny_bind (wpAny_typeOf hTs ?_)
  rw [if_pos (by decide)]
  refine wpAny_bind (appliedR hs ps ?_)
  have hno : ¬ (((((items.size : Nat) : Int) - 1) == 0 && (-1 : Int) == 1 && items.size == items.size) = true) := by
    intro q
    rw [Bool.and_eq_true, Bool.and_eq_true] at q
    exact absurd q.1.2 (by decide)
  show wpAny _ _ (if ((((items.size : Nat) : Int) - 1) == 0 && (-1 : Int) == 1 && items.size == items.size) = true then _ else _) _ _ s
  rw [if_neg hno, pickR]
  first
    | exact wpAny_bind (m := Builtin.Tuple.tupleExact _) (wpAny_newObj_type (wpAny_pure ⟨_, rfl, wpAny_pure h⟩) htake)
    | exact wpAny_bind (m := Builtin.Tuple.tupleExact _) (wpAny_newObj_type (wpAny_bind (wpAny_pure (wpAny_pure ⟨_, rfl, wpAny_pure h⟩))) htake)
    | exact wpAny_bind (wpAny_bind (m := Builtin.Tuple.tupleExact _) (wpAny_newObj_type (wpAny_pure (wpAny_pure ⟨_, rfl, wpAny_pure h⟩)) htake))
    | exact wpAny_bind (wpAny_bind (m := Builtin.Tuple.tupleExact _) (wpAny_newObj_type (wpAny_pure ⟨_, rfl, wpAny_pure h⟩) htake))
end
section
variable {X : Cx}
def tRevT (K : PySem.W.Frag) (te : TE) : TE := fun σ H Q => te σ H fun x H1 => ∃ a xs, x = .ref a ∧ SqT K H1 a xs ∧ ∀ p, H1 p = none → Q (.ref p) (upd H1 p (.tup xs.reverse))
theorem pe_revT {e : Expr} {te : TE} {k : Nat} {p1 p2 p3 pos : Pos} (he : PE X e te) : PE X (.Subscript e (.Slice none none (some (.UnaryOp .USub (.Constant (.int 1) k p1) p2)) p3) pos) (tRevT X.K te) := by
  refine ⟨fun pins s σ H Q I h => ?_⟩
  refine Subscript_ (thn (he.run pins s σ H _ I h) fun v s1 ⟨x, H1, I1, r1, q1⟩ => ?_)
  obtain ⟨a, xs, ex, hx, q⟩ := q1
  subst ex
  cases r1
  have hst : PO X (some (.UnaryOp .USub (.Constant (.int 1) k p1) p2)) (tPart (tUn (rU fun i => .int (-i)) (tC (.int 1)))) := po_some (pe_un un_neg pe_int)
  refine wpAny_Slice (thn (po_none.run pins s1 σ H1 (fun o H2 => o = none ∧ H2 = H1) I1 ⟨rfl, rfl⟩) fun vl s2 ⟨l, H2, I2, pl, el, e2⟩ => ?_)
  subst el e2
  cases pl
  refine thn (po_none.run pins s2 σ H2 (fun o H3 => o = none ∧ H3 = H2) I2 ⟨rfl, rfl⟩) fun vu s3 ⟨u, H3, I3, pu, eu, e3⟩ => ?_
  subst eu e3
  cases pu
  refine thn (hst.run pins s3 σ H3 (fun o H4 => o = some (-1) ∧ H4 = H3) I3 ⟨1, rfl, -1, rfl, rfl, rfl⟩) fun vs s4 ⟨o, H4, I4, ps, eo, e4⟩ => ?_
  subst eo e4
  have I5 : Inv X pins σ H4 { s4 with heap := s4.heap.push { cls := .type "slice", data := .fields #[.none, .none, vs] } } := I4.kept (t' := s4.toks) fun b ob q => Heap.get?_push_of_some _ q
  obtain ⟨its, r, ht, hz⟩ := I5.tuple hx
  have hlen := r.length
  show wpAny (model X.prog X.w) X.A (subscriptTail e (.Slice none none (some (.UnaryOp .USub (.Constant (.int 1) k p1) p2)) p3) (.ref a) (.ref s4.heap.objs.size)) (EP X pins σ Q) X.xe { s4 with heap := s4.heap.push { cls := .type "slice", data := .fields #[.none, .none, vs] } }
  refine tail_any (ops := [.ref a, .ref s4.heap.objs.size]) ht.typeIs PyProof.Rows.slot_tuple_getitem.lookup ?_ (by with_unfolding_all rfl)
  refine getItem_tupleR ht (Heap.IsSliceOf.new ..) ps ?_ (by rw [List.size_toArray]; omega)
  refine ⟨.ref _, _, I5.laid (t' := s4.toks) (o := .tup xs.reverse) (fun b ob q => Heap.get?_push_of_some _ q) (Nat.le_refl _) ?_, rfl, q _ (I5.hok.fresh (Nat.le_refl _))⟩
  exact ⟨by rw [List.length_reverse]; exact hz, _, r.reverse, IsTup.new _ _⟩
end
end Tc

/-! Facts carried back to the heap in which they are known. -/
namespace Tc
open PySem PySem.Spec PyProof.Rows L2
theorem back_raw {H H' : Hp} {a : Addr} {o : HO} (e : Same H H') (h : H a = some o) : H' a = some o := e _ _ h
theorem back_sqT {K : PySem.W.Frag} {H H' : Hp} {a : Addr} {xs : List V} (e : Same H H') (h : SqT K H a xs) : SqT K H' a xs := same_sqT e h
theorem same_sqL {K : PySem.W.Frag} {H H' : Hp} {a : Addr} {xs : List V} (e : Same H H') (h : SqL K H a xs) : SqL K H' a xs := Same.seq e h
theorem made2 {H H1 : Hp} {x dx C : Addr} (k : ∀ b o, (upd (upd H dx (.own x)) x (.ins C dx [])) b = some o → b ≠ x → H1 b = some o) (nx : H x = none) (nd : H dx = none) : Same H H1 := made nx nd k
theorem bowl_back {H H' : Hp} {a : Addr} (x : Same H H') (B : Bowl H a) : Bowl H' a := B.stay x
theorem frm_back {a : Addr} {H H1 H' : Hp} (y : Same H1 H') (x : Frm a H H1) : Frm a H H' := x.trans (same_frame y)
theorem frm_backF {a : Addr} {H H1 H' : Hp} (y : Frm a H1 H') (x : Frm a H H1) : Frm a H H' := x.trans y
theorem sol_frm {a : Addr} {H H' : Hp} (x : Frm a H H') (B : Bowl H a) : Sol H H' := by
  obtain ⟨g, s, n, h⟩ := B
  exact x.sol h
theorem ifTd {p : Prop} [Decidable p] {A B : Prop} (hp : p) (h : A) : if decide p = true then A else B := ifT (decide_eq_true hp) h
theorem ifFd {p : Prop} [Decidable p] {A B : Prop} (hp : ¬ p) (h : B) : if decide p = true then A else B := ifF (decide_eq_false hp) h
theorem ifTn {p : Prop} [Decidable p] {A B : Prop} (hp : ¬ p) (h : A) : if (!decide p) = true then A else B := ifT (by rw [decide_eq_false hp]; rfl) h
theorem ifFn {p : Prop} [Decidable p] {A B : Prop} (hp : p) (h : B) : if (!decide p) = true then A else B := ifF (by rw [decide_eq_true hp]; rfl) h
end Tc

/-! Numbers' bits; what draws leave. -/
namespace Tc
open PySem PySem.Spec PyProof.Rows L2
theorem Frm.free {a p : Addr} {H H' : Hp} {o : HO} (x : Frm a H H') (h : H' a = some o) (n : H' p = none) : H p = none := by
  cases e : H p with
  | none => rfl
  | some u =>
    have hp : p ≠ a := by
      rintro rfl
      rw [h] at n
      cases n
    rw [x p u hp e] at n
    cases n
theorem Frm.seq {K : PySem.W.Frag} {a b : Addr} {H H' : Hp} {xs : List V} (x : Frm a H H') (n : b ≠ a) (h : SqL K H b xs) : SqL K H' b xs := by
  rcases h with (h | ⟨o, h⟩) | h
  · exact .inl (.inl (x _ _ n h))
  · exact .inl (.inr ⟨o, x _ _ n h⟩)
  · exact .inr h
theorem Bowl.ne {a p : Addr} {H : Hp} (B : Bowl H a) (n : H p = none) : p ≠ a := by
  rintro rfl
  obtain ⟨g, s, k, h⟩ := B
  rw [h] at n
  cases n
theorem Bowl.free {a p : Addr} {H H' : Hp} (B : Bowl H' a) (x : Frm a H H') (n : H' p = none) : H p = none := by
  obtain ⟨g, s, k, h⟩ := B
  exact x.free h n
theorem same_frm {a : Addr} {H H1 H' : Hp} (x : Same H H1) (y : Frm a H1 H') : Frm a H H' := (same_frame x).trans y
theorem frm_raw {a b : Addr} {H H' : Hp} {o : HO} (y : Frm a H H') (n : b ≠ a) (h : H b = some o) : H' b = some o := y _ _ n h
theorem frm_tup {a b : Addr} {H H' : Hp} {o : HO} (y : Frm a H H') (B : Bowl H a) (h : H b = some o) (n : ∀ xs, o ≠ .lst xs) : H' b = some o := by
  obtain ⟨g, s, k, e⟩ := B
  exact y.sol e b o h n
/-! bits -/
def Bt (n : Nat) (x : Int) : Prop := x.natAbs < 2 ^ n
theorem Bt.mono {n m : Nat} {x : Int} (h : Bt n x) (l : n ≤ m) : Bt m x := Nat.lt_of_lt_of_le h (Nat.pow_le_pow_right (by decide) l)
theorem bt_lit {n : Nat} {x : Int} (h : x.natAbs < 2 ^ n) : Bt n x := h
theorem bt_neg {n : Nat} {x : Int} (h : Bt n x) : Bt n (-x) := by
  unfold Bt at *
  rwa [Int.natAbs_neg]
theorem bt_add {n m : Nat} {x y : Int} (h : Bt n x) (k : Bt m y) : Bt (n + m + 1) (x + y) := by
  have h1 := h.mono (Nat.le_add_right n m)
  have h2 := k.mono (Nat.le_add_left m n)
  unfold Bt at *
  have := Int.natAbs_add_le x y
  rw [Nat.pow_succ]
  omega
theorem bt_sub {n m : Nat} {x y : Int} (h : Bt n x) (k : Bt m y) : Bt (n + m + 1) (x - y) := by
  rw [Int.sub_eq_add_neg]
  exact bt_add h (bt_neg k)
theorem bt_addm {n : Nat} {x y : Int} (h : Bt n x) (k : Bt n y) : Bt (n + 1) (x + y) := by
  unfold Bt at *
  have := Int.natAbs_add_le x y
  rw [Nat.pow_succ]
  omega
theorem bt_subm {n : Nat} {x y : Int} (h : Bt n x) (k : Bt n y) : Bt (n + 1) (x - y) := by
  rw [Int.sub_eq_add_neg]
  exact bt_addm h (bt_neg k)
theorem bt_mul {n m : Nat} {x y : Int} (h : Bt n x) (k : Bt m y) : Bt (n + m) (x * y) := by
  unfold Bt at *
  rw [Int.natAbs_mul, Nat.pow_add]
  exact Nat.mul_lt_mul'' h k
theorem bt_div {n : Nat} {x y : Int} (h : Bt n x) : Bt (n + 1) (x / y) := by
  unfold Bt at *
  have e : (2 : Nat) ^ (n + 1) = 2 ^ n * 2 := Nat.pow_succ ..
  have hp : 0 < 2 ^ n := Nat.pow_pos (by decide)
  rcases Int.lt_trichotomy y 0 with q | q | q
  · have e2 : x / y = -(x / -y) := by rw [Int.ediv_neg, Int.neg_neg]
    rw [e2, Int.natAbs_neg]
    rcases Int.le_total 0 x with p | p
    · have := Int.ediv_le_self (-y) p
      have := Int.ediv_nonneg p (show 0 ≤ -y by omega)
      omega
    · have h1 : x ≤ x / -y := Int.le_ediv_of_mul_le (by omega) (by
        have := Int.mul_le_mul_of_nonpos_left p (show 1 ≤ -y by omega)
        omega)
      have h2 : x / -y ≤ 0 := Int.ediv_nonpos_of_nonpos_of_neg p (by omega)
      omega
  · subst q
    rw [Int.ediv_zero]
    show 0 < _
    exact Nat.pow_pos (by decide)
  · rcases Int.le_total 0 x with p | p
    · have := Int.ediv_le_self y p
      have := Int.ediv_nonneg p (show 0 ≤ y by omega)
      omega
    · have h1 : x ≤ x / y := Int.le_ediv_of_mul_le q (by
        have := Int.mul_le_mul_of_nonpos_left p (show 1 ≤ y by omega)
        omega)
      have h2 : x / y ≤ 0 := Int.ediv_nonpos_of_nonpos_of_neg p (by omega)
      omega
theorem bt_mod {n : Nat} {x y : Int} (h : 0 < y) (k : Bt n y) : Bt n (x % y) := by
  unfold Bt at *
  have := Int.emod_lt_of_pos x h
  have := Int.emod_nonneg x (show y ≠ 0 by omega)
  omega
theorem bt_le {n : Nat} {x y : Int} (h : 0 ≤ x) (l : x ≤ y) (k : Bt n y) : Bt n x := by
  unfold Bt at *
  omega
theorem bt_mulW {n m : Nat} {x y : Int} (h : Bt n x) (k : Bt m y) (l : n + m ≤ 900000) : CMulW x y :=
  wide_mul (h.mono (Nat.le_succ n)) (k.mono (Nat.le_succ m)) (Nat.succ_pos _) (Nat.succ_pos _) (by omega)
theorem bt_divW {n : Nat} {x y : Int} (p : 0 < y) (k : Bt n y) (l : n ≤ 8000) : CDivW x y := wide_div p (k.mono (Nat.le_succ n)) (Nat.succ_pos _) (by omega)
theorem bt_divP {n : Nat} {x y : Int} (p : 0 < y) (k : Bt n y) (l : n ≤ 8000) : CDivP x y := divp_wide (bt_divW p k l)
theorem bt10 {n : Nat} {x : Int} (h : -(10 ^ 60) < x) (k : x < 10 ^ 60) (l : 200 ≤ n) : Bt n x := by
  refine Bt.mono (n := 200) ?_ l
  unfold Bt
  have : (10 : Nat) ^ 60 < 2 ^ 200 := by decide +kernel
  omega
end Tc
namespace Tc
open PySem PySem.Spec PyProof.Rows L2
theorem same_snoc {H H1 H2 : Hp} (b : Same H1 H2) (a : Same H H1) : Same H H2 := Same.trans a b
theorem bowl_ne {a p : Addr} {H : Hp} (n : H p = none) (B : Bowl H a) : p ≠ a := B.ne n
end Tc
namespace Tc
open PySem PySem.Spec PyProof.Rows L2
/-- a word's end: what stands in it is not opened by itself -/
structure Stop (p : Prop) : Prop where
  h : p
theorem pass_body {W : Nat → L2.St → Hp → Prop} {m : Nat} {B : (L2.St → Hp → Prop) → Prop} (h : B (fun σ' H' => Stop (∃ m', m' < m ∧ W m' σ' H'))) : ∃ N : L2.St → Hp → Prop, (∀ σ' H', N σ' H' → ∃ m', m' < m ∧ W m' σ' H') ∧ B N :=
  ⟨fun σ' H' => Stop (∃ m', m' < m ∧ W m' σ' H'), fun _ _ z => z.h, h⟩
end Tc
namespace Tc
open PySem PySem.Spec PyProof.Rows L2
theorem tyV_lst {K : PySem.W.Frag} {H : Hp} {p : Addr} {xs : List V} (h : H p = some (.lst xs)) : tyV K "list" (.ref p) H := .inl ⟨rfl, xs, SqL.of h⟩
end Tc
namespace Tc
open PySem PySem.Spec PyProof.Rows L2
theorem sqL_K {K K' : PySem.W.Frag} {H : Hp} {a : Addr} {xs : List V} (h : SqL K H a xs) (e : K = K') : SqL K' H a xs := e ▸ h
theorem sqT_K {K K' : PySem.W.Frag} {H : Hp} {a : Addr} {xs : List V} (h : SqT K H a xs) (e : K = K') : SqT K' H a xs := e ▸ h
theorem frm_sqL {K : PySem.W.Frag} {a b : Addr} {H H' : Hp} {xs : List V} (y : Frm a H H') (n : b ≠ a) (h : SqL K H b xs) : SqL K H' b xs := y.seq n h
end Tc
namespace Tc
open PySem PySem.Spec PyProof.Rows L2
theorem free_frm {a p : Addr} {H H' : Hp} (n : H' p = none) (B : Bowl H' a) (x : Frm a H H') : H p = none := B.free x n
theorem free_same {p : Addr} {H H' : Hp} (n : H' p = none) (x : Same H H') : H p = none := x.free n
end Tc
namespace Tc
open PySem PySem.Spec PyProof.Rows L2
theorem eqv_l3 {x y z x' y' z' : Int} (h1 : x = x') (h2 : y = y') (h3 : z = z') : PyData.eqv (.list [.int x, .int y, .int z]) (.list [.int x', .int y', .int z']) = true := by
  subst h1 h2 h3
  exact eqv_self (shp_lst [x, y, z])
end Tc
namespace Tc
open PySem PySem.Spec PyProof.Rows L2
theorem ne_l3 {x y z x' y' z' : Int} (h1 : x = x') (h2 : y = y') (h3 : z = z') : (!PyData.eqv (.list [.int x, .int y, .int z]) (.list [.int x', .int y', .int z'])) = false := by
  rw [eqv_l3 h1 h2 h3]
  rfl
theorem ne_ii {x y : Int} (h : x = y) : (!decide (V.int x = V.int y)) = false := by
  subst h
  rw [decide_eq_true rfl]
  rfl
end Tc
namespace Tc
open PySem PySem.Spec PyProof.Rows L2
/-- what the bowl's holder did not know is all that changed -/
theorem same_frm_back {a : Addr} {H H1 H' : Hp} (h : H a = none) (s : Same H H1) (f : Frm a H1 H') : Same H H' := fun b o e => f b o (by
  rintro rfl
  rw [h] at e
  cases e) (s b o e)
end Tc
namespace Tc
open PySem PySem.Spec PyProof.Rows L2
def dxOf (H : Hp) (p : Addr) : Addr := match H p with
  | some (.ins _ d _) => d
  | _ => p
def fsOf (H : Hp) (p : Addr) : List (Str × V) := match H p with
  | some (.ins _ _ f) => f
  | _ => []
theorem ins_raw {C : Addr} {H : Hp} {p : Addr} (h : ∃ dx fs, H p = some (.ins C dx fs)) : H p = some (.ins C (dxOf H p) (fsOf H p)) := by
  obtain ⟨dx, fs, h⟩ := h
  unfold dxOf fsOf
  rw [h]
end Tc

/-! The mathematics of Euclid's ladders, in plain Lean. -/
namespace Tm
/-- Euclid's steps, with fuel: quotients and divisors -/
def euc : Nat → Int → Int → List (Int × Int)
  | 0, _, _ => []
  | n + 1, a, b => if 0 < b then (a / b, b) :: euc n b (a % b) else []
def eucl (a b : Int) : List (Int × Int) := euc (b.toNat + 1) a b
theorem euc_enough : ∀ (n m : Nat) (a b : Int), b.toNat < n → b.toNat < m → euc n a b = euc m a b
  | 0, _, _, _, h, _ => absurd h (Nat.not_lt_zero _)
  | _ + 1, 0, _, _, _, h => absurd h (Nat.not_lt_zero _)
  | n + 1, m + 1, a, b, h1, h2 => by
    unfold euc
    by_cases hb : 0 < b
    · rw [if_pos hb, if_pos hb]
      have h3 := Int.emod_lt_of_pos a hb
      have h4 := Int.emod_nonneg a (show b ≠ 0 by omega)
      rw [euc_enough n m b (a % b) (by omega) (by omega)]
    · rw [if_neg hb, if_neg hb]
theorem eucl_pos {a b : Int} (h : 0 < b) : eucl a b = (a / b, b) :: eucl b (a % b) := by
  have h3 := Int.emod_lt_of_pos a h
  have h4 := Int.emod_nonneg a (show b ≠ 0 by omega)
  have e : eucl a b = if 0 < b then (a / b, b) :: euc b.toNat b (a % b) else [] := rfl
  rw [e, if_pos h]
  unfold eucl
  rw [euc_enough b.toNat ((a % b).toNat + 1) b (a % b) (by omega) (by omega)]
theorem eucl_nil {a b : Int} (h : ¬ 0 < b) : eucl a b = [] := by
  have e : eucl a b = if 0 < b then (a / b, b) :: euc b.toNat b (a % b) else [] := rfl
  rw [e, if_neg h]
def quos (a b : Int) : List Int := (eucl a b).map (·.1)
def rems (a b : Int) : List Int := (eucl a b).map (·.2)
theorem quos_pos {a b : Int} (h : 0 < b) : quos a b = (a / b) :: quos b (a % b) := by unfold quos; rw [eucl_pos h]; rfl
theorem rems_pos {a b : Int} (h : 0 < b) : rems a b = b :: rems b (a % b) := by unfold rems; rw [eucl_pos h]; rfl
theorem quos_nil {a b : Int} (h : ¬ 0 < b) : quos a b = [] := by unfold quos; rw [eucl_nil h]; rfl
theorem rems_nil {a b : Int} (h : ¬ 0 < b) : rems a b = [] := by unfold rems; rw [eucl_nil h]; rfl
theorem quos_ne {a b : Int} (h : 0 < b) : quos a b ≠ [] := by rw [quos_pos h]; exact List.cons_ne_nil _ _
theorem rems_ne {a b : Int} (h : 0 < b) : rems a b ≠ [] := by rw [rems_pos h]; exact List.cons_ne_nil _ _
theorem quos_rems_len (a b : Int) : (quos a b).length = (rems a b).length := by unfold quos rems; rw [List.length_map, List.length_map]
theorem eucl_len : ∀ (k : Nat) (a b : Int), b < 2 ^ k → (eucl a b).length ≤ 2 * k
  | 0, a, b, h => by
    rw [eucl_nil (by
      have : (2 : Int) ^ 0 = 1 := rfl
      omega)]
    exact Nat.zero_le _
  | k + 1, a, b, h => by
    have e2 : (2 : Int) ^ (k + 1) = 2 ^ k * 2 := Int.pow_succ 2 k
    by_cases hb : 0 < b
    · rw [eucl_pos hb, List.length_cons]
      have h3 := Int.emod_lt_of_pos a hb
      by_cases hr : 0 < a % b
      · rw [eucl_pos hr, List.length_cons]
        have h5 := Int.emod_lt_of_pos b hr
        have h6 := Int.mul_ediv_add_emod b (a % b)
        have h7 : 1 ≤ b / (a % b) := Int.le_ediv_of_mul_le hr (by omega)
        have h8 : (a % b) * 1 ≤ (a % b) * (b / (a % b)) := Int.mul_le_mul_of_nonneg_left h7 (by omega)
        have := eucl_len k (a % b) (b % (a % b)) (by omega)
        omega
      · rw [eucl_nil hr]
        simp only [List.length_nil]
        omega
    · rw [eucl_nil hb]
      exact Nat.zero_le _
theorem quos_len {k : Nat} {a b : Int} (h : b < 2 ^ k) : (quos a b).length ≤ 2 * k := by unfold quos; rw [List.length_map]; exact eucl_len k a b h
theorem rems_len {k : Nat} {a b : Int} (h : b < 2 ^ k) : (rems a b).length ≤ 2 * k := by unfold rems; rw [List.length_map]; exact eucl_len k a b h
theorem quos_small (B : Nat) : ∀ (n : Nat) (a b : Int), b.toNat ≤ n → a.natAbs < B → b.natAbs < B → ∀ q ∈ quos a b, q.natAbs < B
  | 0, a, b, h, _, _ => by
    rw [quos_nil (by omega)]
    intro q hq
    cases hq
  | n + 1, a, b, h, h1, h2 => by
    by_cases hb : 0 < b
    · rw [quos_pos hb]
      intro q hq
      have h3 := Int.emod_lt_of_pos a hb
      have h4 := Int.emod_nonneg a (show b ≠ 0 by omega)
      cases hq with
      | head => exact Nat.lt_of_le_of_lt (Int.natAbs_ediv_le_natAbs a b) h1
      | tail _ hq => exact quos_small B n b (a % b) (by omega) h2 (by omega) q hq
    · rw [quos_nil hb]
      intro q hq
      cases hq
theorem rems_pos_all : ∀ (n : Nat) (a b : Int), b.toNat ≤ n → ∀ r ∈ rems a b, 0 < r
  | 0, a, b, h => by
    rw [rems_nil (by omega)]
    intro q hq
    cases hq
  | n + 1, a, b, h => by
    by_cases hb : 0 < b
    · rw [rems_pos hb]
      intro q hq
      have h3 := Int.emod_lt_of_pos a hb
      have h4 := Int.emod_nonneg a (show b ≠ 0 by omega)
      cases hq with
      | head => exact hb
      | tail _ hq => exact rems_pos_all n b (a % b) (by omega) q hq
    · rw [rems_nil hb]
      intro q hq
      cases hq
/-- convergents behind the two in front -/
def conv : (Int × Int) → (Int × Int) → List Int → List (Int × Int)
  | _, _, [] => []
  | p, l, q :: qs => (q * l.1 + p.1, q * l.2 + p.2) :: conv l (q * l.1 + p.1, q * l.2 + p.2) qs
def convs (qs : List Int) : List (Int × Int) := conv (0, 1) (1, 0) qs
theorem conv_len : ∀ (qs : List Int) (p l : Int × Int), (conv p l qs).length = qs.length
  | [], _, _ => rfl
  | q :: qs, p, l => by
    show (conv l _ qs).length + 1 = qs.length + 1
    rw [conv_len qs]
theorem convs_len (qs : List Int) : (convs qs).length = qs.length := conv_len qs _ _
/-- the last two, with those in front -/
def last2 : (Int × Int) → (Int × Int) → List Int → (Int × Int) × (Int × Int)
  | p, l, [] => (p, l)
  | _, l, _ :: [] => (l, l)
  | _, l, _ :: _ :: _ => (l, l)
/-- the pair (the one in front of the last, the last) behind all quotients -/
def fin : (Int × Int) → (Int × Int) → List Int → (Int × Int) × (Int × Int)
  | p, l, [] => (p, l)
  | p, l, q :: qs => fin l (q * l.1 + p.1, q * l.2 + p.2) qs
theorem conv_fin : ∀ (qs : List Int) (p l : Int × Int), (p :: l :: conv p l qs)[qs.length]? = some (fin p l qs).1 ∧ (p :: l :: conv p l qs)[qs.length + 1]? = some (fin p l qs).2
  | [], _, _ => ⟨rfl, rfl⟩
  | q :: qs, p, l => by
    have ih := conv_fin qs l (q * l.1 + p.1, q * l.2 + p.2)
    exact ih
/-- what Euclid keeps -/
theorem fin_keeps : ∀ (n : Nat) (a b : Int) (p l : Int × Int), b.toNat ≤ n → 0 < b → ∃ g : Int, (rems a b).getLast? = some g ∧ 0 < g ∧
    (fin p l (quos a b)).2.1 * g = l.1 * a + p.1 * b ∧ (fin p l (quos a b)).2.2 * g = l.2 * a + p.2 * b
  | 0, a, b, p, l, h, hb => by omega
  | n + 1, a, b, p, l, h, hb => by
    rw [quos_pos hb, rems_pos hb]
    have h3 := Int.emod_lt_of_pos a hb
    have h4 := Int.emod_nonneg a (show b ≠ 0 by omega)
    have h5 : b * (a / b) + a % b = a := Int.mul_ediv_add_emod a b
    by_cases hr : 0 < a % b
    · obtain ⟨g, e1, e2, e3, e4⟩ := fin_keeps n b (a % b) l (a / b * l.1 + p.1, a / b * l.2 + p.2) (by omega) hr
      refine ⟨g, ?_, e2, ?_, ?_⟩
      · rw [List.getLast?_cons, e1]
        rfl
      · show (fin l (a / b * l.1 + p.1, a / b * l.2 + p.2) (quos b (a % b))).2.1 * g = _
        rw [e3]
        show (a / b * l.1 + p.1) * b + l.1 * (a % b) = l.1 * a + p.1 * b
        conv => rhs; rw [← h5]
        rw [Int.add_mul, Int.mul_add, Int.mul_comm (a / b) l.1, Int.mul_assoc, Int.mul_comm (a / b) b]
        omega
      · show (fin l (a / b * l.1 + p.1, a / b * l.2 + p.2) (quos b (a % b))).2.2 * g = _
        rw [e4]
        show (a / b * l.2 + p.2) * b + l.2 * (a % b) = l.2 * a + p.2 * b
        conv => rhs; rw [← h5]
        rw [Int.add_mul, Int.mul_add, Int.mul_comm (a / b) l.2, Int.mul_assoc, Int.mul_comm (a / b) b]
        omega
    · have h0 : a % b = 0 := by omega
      rw [quos_nil hr, rems_nil hr]
      refine ⟨b, rfl, hb, ?_, ?_⟩
      · show (a / b * l.1 + p.1) * b = l.1 * a + p.1 * b
        conv => rhs; rw [← h5, h0]
        rw [Int.add_mul, Int.mul_add, Int.mul_comm (a / b) l.1, Int.mul_assoc, Int.mul_comm (a / b) b]
        omega
      · show (a / b * l.2 + p.2) * b = l.2 * a + p.2 * b
        conv => rhs; rw [← h5, h0]
        rw [Int.add_mul, Int.mul_add, Int.mul_comm (a / b) l.2, Int.mul_assoc, Int.mul_comm (a / b) b]
        omega
/-- neighbors' determinant -/
theorem fin_det : ∀ (qs : List Int) (p l : Int × Int), (fin p l qs).2.1 * (fin p l qs).1.2 - (fin p l qs).2.2 * (fin p l qs).1.1 = if qs.length % 2 = 0 then l.1 * p.2 - l.2 * p.1 else -(l.1 * p.2 - l.2 * p.1)
  | [], p, l => by simp [fin]
  | q :: qs, p, l => by
    have ih := fin_det qs l (q * l.1 + p.1, q * l.2 + p.2)
    show (fin l (q * l.1 + p.1, q * l.2 + p.2) qs).2.1 * (fin l (q * l.1 + p.1, q * l.2 + p.2) qs).1.2 - (fin l (q * l.1 + p.1, q * l.2 + p.2) qs).2.2 * (fin l (q * l.1 + p.1, q * l.2 + p.2) qs).1.1 = _
    rw [ih]
    have e : (q * l.1 + p.1) * l.2 - (q * l.2 + p.2) * l.1 = -(l.1 * p.2 - l.2 * p.1) := by
      have x1 : q * l.1 * l.2 = q * l.2 * l.1 := by rw [Int.mul_assoc, Int.mul_assoc, Int.mul_comm l.1 l.2]
      have x2 : p.1 * l.2 = l.2 * p.1 := Int.mul_comm _ _
      have x3 : p.2 * l.1 = l.1 * p.2 := Int.mul_comm _ _
      rw [Int.add_mul, Int.add_mul]
      omega
    show (if qs.length % 2 = 0 then (q * l.1 + p.1) * l.2 - (q * l.2 + p.2) * l.1 else -((q * l.1 + p.1) * l.2 - (q * l.2 + p.2) * l.1)) = _
    rw [e]
    have hl : (q :: qs).length = qs.length + 1 := rfl
    rw [hl]
    by_cases hp : qs.length % 2 = 0
    · rw [if_pos hp, if_neg (by omega)]
    · rw [if_neg hp, if_pos (by omega)]
      omega
end Tm

namespace Tm
theorem euc_scale (m : Int) (hm : 0 < m) : ∀ (n : Nat) (a b : Int), b.toNat ≤ n → eucl (a * m) (b * m) = (eucl a b).map (fun c => (c.1, m * c.2))
  | 0, a, b, h => by
    have hb : ¬ 0 < b := by omega
    have h2 : b * m ≤ 0 := Int.mul_nonpos_of_nonpos_of_nonneg (by omega) (by omega)
    rw [eucl_nil hb, eucl_nil (by omega)]
    rfl
  | n + 1, a, b, h => by
    by_cases hb : 0 < b
    · have h3 := Int.emod_lt_of_pos a hb
      have h4 := Int.emod_nonneg a (show b ≠ 0 by omega)
      have h5 : 0 < b * m := Int.mul_pos hb hm
      rw [eucl_pos hb, eucl_pos h5, Int.mul_ediv_mul_of_pos_left a b hm, show a * m % (b * m) = (a % b) * m by rw [Int.mul_comm a m, Int.mul_comm b m, Int.mul_emod_mul_of_pos _ _ hm, Int.mul_comm]]
      rw [euc_scale m hm n b (a % b) (by omega), List.map_cons, Int.mul_comm b m]
    · have h2 : b * m ≤ 0 := Int.mul_nonpos_of_nonpos_of_nonneg (by omega) (by omega)
      rw [eucl_nil hb, eucl_nil (by omega)]
      rfl
theorem quos_scale {m a b : Int} (hm : 0 < m) : quos (a * m) (b * m) = quos a b := by
  unfold quos
  rw [euc_scale m hm b.toNat a b (Nat.le_refl _), List.map_map]
  rfl
theorem rems_scale {m a b : Int} (hm : 0 < m) : rems (a * m) (b * m) = (rems a b).map (m * ·) := by
  unfold rems
  rw [euc_scale m hm b.toNat a b (Nat.le_refl _), List.map_map, List.map_map]
  rfl
/-- the last divisor: a = p g, b = q g, with p and q without a common factor -/
theorem last_rem {a b : Int} (hb : 0 < b) : ∃ g : Int, (rems a b).getLast? = some g ∧ 0 < g ∧ (fin (0, 1) (1, 0) (quos a b)).2.1 * g = a ∧ (fin (0, 1) (1, 0) (quos a b)).2.2 * g = b := by
  obtain ⟨g, h1, h2, h3, h4⟩ := fin_keeps b.toNat a b (0, 1) (1, 0) (Nat.le_refl _) hb
  refine ⟨g, h1, h2, ?_, ?_⟩
  · rw [h3]
    omega
  · rw [h4]
    omega
theorem det_ladder (a b : Int) : (fin (0, 1) (1, 0) (quos a b)).2.1 * (fin (0, 1) (1, 0) (quos a b)).1.2 - (fin (0, 1) (1, 0) (quos a b)).2.2 * (fin (0, 1) (1, 0) (quos a b)).1.1 = if (quos a b).length % 2 = 0 then 1 else -1 := by
  have h := fin_det (quos a b) (0, 1) (1, 0)
  rw [h]
  rfl
theorem last_is_gcd {a b g : Int} (hb : 0 < b) (h : (rems a b).getLast? = some g) : g = ((Nat.gcd a.natAbs b.natAbs : Nat) : Int) := by
  obtain ⟨g', h1, h2, h3, h4⟩ := last_rem (a := a) hb
  rw [h] at h1
  have e : g = g' := Option.some.inj h1
  subst e
  have d := det_ladder a b
  generalize (fin (0, 1) (1, 0) (quos a b)).2.1 = p at *
  generalize (fin (0, 1) (1, 0) (quos a b)).2.2 = q at *
  generalize (fin (0, 1) (1, 0) (quos a b)).1.1 = u at *
  generalize (fin (0, 1) (1, 0) (quos a b)).1.2 = v at *
  have ga : g.natAbs ∣ a.natAbs := Int.natAbs_dvd_natAbs.mpr ⟨p, by rw [← h3, Int.mul_comm]⟩
  have gb : g.natAbs ∣ b.natAbs := Int.natAbs_dvd_natAbs.mpr ⟨q, by rw [← h4, Int.mul_comm]⟩
  have g1 : g.natAbs ∣ Nat.gcd a.natAbs b.natAbs := Nat.dvd_gcd ga gb
  have k1 : ((Nat.gcd a.natAbs b.natAbs : Nat) : Int) ∣ a := Int.natAbs_dvd_natAbs.mp (Nat.gcd_dvd_left _ _)
  have k2 : ((Nat.gcd a.natAbs b.natAbs : Nat) : Int) ∣ b := Int.natAbs_dvd_natAbs.mp (Nat.gcd_dvd_right _ _)
  have k3 : ((Nat.gcd a.natAbs b.natAbs : Nat) : Int) ∣ a * v - b * u := Int.dvd_sub (Int.dvd_mul_of_dvd_left k1) (Int.dvd_mul_of_dvd_left k2)
  have e2 : a * v - b * u = g * (p * v - q * u) := by
    rw [← h3, ← h4, Int.mul_sub]
    have x1 : p * g * v = g * (p * v) := by rw [Int.mul_comm p g, Int.mul_assoc]
    have x2 : q * g * u = g * (q * u) := by rw [Int.mul_comm q g, Int.mul_assoc]
    rw [x1, x2]
  have k4 : ((Nat.gcd a.natAbs b.natAbs : Nat) : Int) ∣ g := by
    rw [e2, d] at k3
    split at k3
    · rwa [Int.mul_one] at k3
    · rw [Int.mul_neg, Int.mul_one] at k3
      exact (Int.dvd_neg).mp k3
  have k5 : Nat.gcd a.natAbs b.natAbs ∣ g.natAbs := Int.natAbs_dvd_natAbs.mpr k4
  have k6 := Nat.dvd_antisymm g1 k5
  omega
/-- sizes of the last two lower numbers -/
theorem fin_low : ∀ (n : Nat) (a b : Int) (p l : Int × Int), b.toNat ≤ n → 0 < b → b ≤ a → 0 ≤ p.2 → 1 ≤ l.2 → 1 ≤ (fin p l (quos a b)).1.2 ∧ (fin p l (quos a b)).1.2 ≤ (fin p l (quos a b)).2.2
  | 0, a, b, p, l, h, hb, _, _, _ => by omega
  | n + 1, a, b, p, l, h, hb, hab, hp, hl => by
    rw [quos_pos hb]
    have h3 := Int.emod_lt_of_pos a hb
    have h4 := Int.emod_nonneg a (show b ≠ 0 by omega)
    have h7 : 1 ≤ a / b := Int.le_ediv_of_mul_le hb (by omega)
    have h8 : 1 * l.2 ≤ a / b * l.2 := Int.mul_le_mul_of_nonneg_right h7 (by omega)
    by_cases hr : 0 < a % b
    · exact fin_low n b (a % b) l (a / b * l.1 + p.1, a / b * l.2 + p.2) (by omega) hr (by omega) (by omega) (by show 1 ≤ a / b * l.2 + p.2; omega)
    · rw [quos_nil hr]
      show 1 ≤ l.2 ∧ l.2 ≤ a / b * l.2 + p.2
      omega
/-- the two behind all quotients as places among the convergents -/
theorem convs_last2 {qs : List Int} {n : Nat} (h : qs.length = n + 2) : (convs qs)[n]? = some (fin (0, 1) (1, 0) qs).1 ∧ (convs qs)[n + 1]? = some (fin (0, 1) (1, 0) qs).2 := by
  have e := conv_fin qs (0, 1) (1, 0)
  rw [h] at e
  exact e
theorem quos_one {a b : Int} (hb : 0 < b) (h : (quos a b).length = 1) : ¬ 0 < a % b := by
  intro hr
  rw [quos_pos hb, quos_pos hr] at h
  simp at h
/-- the inverse is right -/
theorem inverse_right {a b : Int} (hb : 0 < b) (hg : (rems a b).getLast? = some 1) (inv : Int)
    (hi : inv = if (convs (quos a b)).length = 1 then 0 else if (convs (quos a b)).length % 2 = 0 then ((convs (quos a b))[(convs (quos a b)).length - 2]?.getD (0, 0)).2 else b - ((convs (quos a b))[(convs (quos a b)).length - 2]?.getD (0, 0)).2) :
    0 ≤ inv ∧ inv < b ∧ b ∣ a * inv - 1 := by
  rw [convs_len] at hi
  obtain ⟨g, h1, h2, h3, h4⟩ := last_rem (a := a) hb
  rw [hg] at h1
  have e : g = 1 := (Option.some.inj h1).symm
  subst e
  rw [Int.mul_one] at h3 h4
  by_cases hl : (quos a b).length = 1
  · rw [if_pos hl] at hi
    have hr := quos_one hb hl
    rw [rems_pos hb, rems_nil hr] at hg
    have e : b = 1 := Option.some.inj hg
    subst e
    subst hi
    exact ⟨Int.le_refl _, by decide, Int.one_dvd _⟩
  · have hne := quos_ne (a := a) hb
    obtain ⟨n, hn⟩ : ∃ n, (quos a b).length = n + 2 := by
      cases e : (quos a b).length with
      | zero => exact absurd (List.eq_nil_of_length_eq_zero e) hne
      | succ k =>
        cases k with
        | zero => exact absurd e hl
        | succ j => exact ⟨j, rfl⟩
    obtain ⟨l1, l2⟩ := convs_last2 hn
    have hr : 0 < a % b := by
      rcases Int.lt_or_le 0 (a % b) with h | h
      · exact h
      · exfalso
        apply hl
        rw [quos_pos hb, quos_nil (by omega)]
        rfl
    have h5 := Int.emod_lt_of_pos a hb
    have low := fin_low (a % b).toNat b (a % b) (1, 0) (a / b * 1 + 0, a / b * 0 + 1) (Nat.le_refl _) hr (by omega) (Int.le_refl _) (by show 1 ≤ a / b * 0 + 1; omega)
    have ef : fin (0, 1) (1, 0) (quos a b) = fin (1, 0) (a / b * 1 + 0, a / b * 0 + 1) (quos b (a % b)) := by
      rw [quos_pos hb]
      rfl
    rw [← ef, h4] at low
    have d := det_ladder a b
    rw [h3, h4] at d
    rw [if_neg hl, hn, show n + 2 - 2 = n by omega, l1] at hi
    rw [hn] at d
    have hi' : inv = if (n + 2) % 2 = 0 then (fin (0, 1) (1, 0) (quos a b)).1.2 else b - (fin (0, 1) (1, 0) (quos a b)).1.2 := hi
    generalize (fin (0, 1) (1, 0) (quos a b)).1.1 = u at *
    generalize (fin (0, 1) (1, 0) (quos a b)).1.2 = v at *
    by_cases hp : (n + 2) % 2 = 0
    · rw [if_pos hp] at hi' d
      subst hi'
      refine ⟨by omega, ?_, ⟨u, by omega⟩⟩
      rcases Int.lt_or_le inv b with h | h
      · exact h
      · exfalso
        have e : inv = b := by omega
        subst e
        have h6 : inv * (a - u) = 1 := by
          rw [Int.mul_sub, Int.mul_comm inv a]
          exact d
        have h7 : inv ∣ 1 := ⟨a - u, h6.symm⟩
        have h8 : inv = 1 := Int.eq_one_of_dvd_one (by omega) h7
        rw [h8] at hr
        have := Int.emod_one a
        omega
    · rw [if_neg hp] at hi' d
      subst hi'
      refine ⟨by omega, by omega, ⟨a - u, ?_⟩⟩
      rw [Int.mul_sub, Int.mul_sub, Int.mul_comm a b]
      omega
/-- no inverse with a common factor -/
theorem no_inverse {a b g x : Int} (hb : 0 < b) (hg : (rems a b).getLast? = some g) (h : b ∣ a * x - 1) : g = 1 := by
  obtain ⟨g', h1, h2, h3, h4⟩ := last_rem (a := a) hb
  rw [hg] at h1
  have e : g = g' := Option.some.inj h1
  subst e
  have d1 : g ∣ b := ⟨_, by rw [Int.mul_comm]; exact h4.symm⟩
  have d2 : g ∣ a := ⟨_, by rw [Int.mul_comm]; exact h3.symm⟩
  have d3 : g ∣ a * x - 1 := Int.dvd_trans d1 h
  have d4 : g ∣ a * x := Int.dvd_mul_of_dvd_left d2
  have d5 : g ∣ a * x - (a * x - 1) := Int.dvd_sub d4 d3
  rw [show a * x - (a * x - 1) = 1 by omega] at d5
  exact Int.eq_one_of_dvd_one (by omega) d5
theorem inverse_unique {a b x y : Int} (hb : 0 < b) (hx : b ∣ a * x - 1) (hy : b ∣ a * y - 1) (x0 : 0 ≤ x) (x1 : x < b) (y0 : 0 ≤ y) (y1 : y < b) : x = y := by
  have d1 : b ∣ a * (x - y) := by
    have := Int.dvd_sub hx hy
    rw [Int.mul_sub]
    rwa [show a * x - 1 - (a * y - 1) = a * x - a * y by omega] at this
  have d2 : b ∣ x * (a * (x - y)) := Int.dvd_mul_of_dvd_right d1
  have d3 : b ∣ (a * x - 1) * (x - y) := Int.dvd_mul_of_dvd_left hx
  have d4 : b ∣ x * (a * (x - y)) - (a * x - 1) * (x - y) := Int.dvd_sub d2 d3
  have e : x * (a * (x - y)) - (a * x - 1) * (x - y) = x - y := by
    rw [Int.sub_mul, ← Int.mul_assoc, Int.mul_comm x a, Int.one_mul]
    omega
  rw [e] at d4
  rcases Int.lt_trichotomy x y with h | h | h
  · exfalso
    have := Int.le_of_dvd (show 0 < y - x by omega) (by rw [show y - x = -(x - y) by omega]; exact Int.dvd_neg.mpr d4)
    omega
  · exact h
  · exfalso
    have := Int.le_of_dvd (show 0 < x - y by omega) d4
    omega
end Tm

namespace Tm
/-- 1, 2, 3, 5, 8, .. : this one and the next -/
def fg : Nat → Nat → Nat → Nat × Nat
  | 0, x, y => (x, y)
  | n + 1, x, y => fg n y (x + y)
def fib2 (n : Nat) : Int := ((fg n 1 2).1 : Int)
theorem fg_next : ∀ (n x y : Nat), fg (n + 1) x y = ((fg n x y).2, (fg n x y).1 + (fg n x y).2)
  | 0, _, _ => rfl
  | n + 1, x, y => fg_next n y (x + y)
theorem fib2_next (n : Nat) : fib2 (n + 2) = fib2 n + fib2 (n + 1) := by
  unfold fib2
  rw [fg_next (n + 1), fg_next n]
  simp
theorem fib2_0 : fib2 0 = 1 := rfl
theorem fib2_1 : fib2 1 = 2 := rfl
theorem fib2_pos : ∀ n : Nat, 1 ≤ fib2 n ∧ fib2 n < fib2 (n + 1)
  | 0 => by decide
  | n + 1 => by
    have h := fib2_pos n
    have e : fib2 (n + 1 + 1) = fib2 n + fib2 (n + 1) := fib2_next n
    omega
theorem fib2_mono : ∀ {m n : Nat}, m ≤ n → fib2 m ≤ fib2 n
  | m, 0, h => by
    have : m = 0 := by omega
    subst this
    exact Int.le_refl _
  | m, n + 1, h => by
    rcases Nat.lt_or_ge n m with h1 | h1
    · have : m = n + 1 := by omega
      subst this
      exact Int.le_refl _
    · exact Int.le_trans (fib2_mono h1) (Int.le_of_lt (fib2_pos n).2)
theorem fib2_270 : fib2 270 < 10 ^ 59 := by decide +kernel
theorem fib2_290 : 10 ^ 59 ≤ fib2 290 := by decide +kernel
theorem fib2_290b : fib2 290 < 10 ^ 60 * 1000 := by decide +kernel
theorem quos_fib : ∀ c : Nat, quos (fib2 (c + 1)) (fib2 c) = List.replicate c 1 ++ [2]
  | 0 => by
    rw [fib2_0, fib2_1]
    rfl
  | c + 1 => by
    have h := fib2_pos c
    have h1 := fib2_pos (c + 1)
    have e := fib2_next c
    rw [quos_pos (by omega), e]
    have d : (fib2 c + fib2 (c + 1)) / fib2 (c + 1) = 1 := by
      rw [Int.add_ediv_of_dvd_right (Int.dvd_refl _), Int.ediv_self (by omega), Int.ediv_eq_zero_of_lt (by omega) h.2]
      rfl
    have m : (fib2 c + fib2 (c + 1)) % fib2 (c + 1) = fib2 c := by
      rw [Int.add_emod_right, Int.emod_eq_of_lt (by omega) h.2]
    rw [d, m, quos_fib c]
    rfl
theorem quos_fib' (c : Nat) : quos (fib2 c) (fib2 (c + 1)) = 0 :: (List.replicate c 1 ++ [2]) := by
  have h := fib2_pos c
  rw [quos_pos (by omega), Int.ediv_eq_zero_of_lt (by omega) h.2, Int.emod_eq_of_lt (by omega) h.2, quos_fib c]
/-- what the law goes through: x below j with b dividing a x - 1 -/
def due (a b : Int) (j : Nat) : List Int := ((List.range j).filter (fun x : Nat => decide ((a * (0 + (x : Int)) - 1) % b = 0))).map (fun x : Nat => 0 + (x : Int))
theorem due_yes {a b : Int} {j : Nat} (h : (a * (0 + (j : Int)) - 1) % b = 0) : due a b (j + 1) = due a b j ++ [0 + (j : Int)] := by
  unfold due
  rw [List.range_succ, List.filter_append, List.map_append, List.filter_cons, if_pos (by rw [decide_eq_true h])]
  rfl
theorem due_no {a b : Int} {j : Nat} (h : ¬ (a * (0 + (j : Int)) - 1) % b = 0) : due a b (j + 1) = due a b j := by
  unfold due
  rw [List.range_succ, List.filter_append, List.map_append, List.filter_cons, if_neg (by rw [decide_eq_false h]; decide)]
  exact List.append_nil _
theorem due_len (a b : Int) (j : Nat) : (due a b j).length ≤ j := by
  unfold due
  rw [List.length_map]
  have h := List.length_filter_le (fun x : Nat => decide ((a * (0 + (x : Int)) - 1) % b = 0)) (List.range j)
  rw [List.length_range] at h
  exact h
theorem filter_none {p : Nat → Bool} : ∀ n : Nat, (∀ x, x < n → p x = false) → (List.range n).filter p = []
  | 0, _ => rfl
  | n + 1, h => by
    rw [List.range_succ, List.filter_append, filter_none n fun x hx => h x (by omega), List.filter_cons, if_neg (by rw [h n (by omega)]; decide)]
    rfl
theorem filter_one {p : Nat → Bool} : ∀ (n i : Nat), i < n → p i = true → (∀ x, x < n → x ≠ i → p x = false) → (List.range n).filter p = [i]
  | 0, i, h, _, _ => absurd h (Nat.not_lt_zero _)
  | n + 1, i, h, hi, ho => by
    rw [List.range_succ, List.filter_append]
    by_cases e : i = n
    · subst e
      rw [filter_none i fun x hx => ho x (by omega) (by omega), List.filter_cons, if_pos hi]
      rfl
    · rw [filter_one n i (by omega) hi fun x hx hne => ho x (by omega) hne, List.filter_cons, if_neg (by rw [ho n (by omega) (by omega)]; decide)]
      rfl
theorem due_none {a b g : Int} (hb : 0 < b) (hg : (rems a b).getLast? = some g) (h : g ≠ 1) : due a b b.toNat = [] := by
  unfold due
  rw [filter_none b.toNat fun x hx => decide_eq_false fun z => h (no_inverse (x := 0 + (x : Int)) hb hg (Int.dvd_of_emod_eq_zero z))]
  rfl
theorem due_one {a b x : Int} (hb : 0 < b) (x0 : 0 ≤ x) (x1 : x < b) (hx : b ∣ a * x - 1) : due a b b.toNat = [x] := by
  unfold due
  have e : (0 : Int) + ((x.toNat : Nat) : Int) = x := by omega
  rw [filter_one b.toNat x.toNat (by omega) (decide_eq_true (by rw [e]; exact Int.emod_eq_zero_of_dvd hx)) fun y hy hne => decide_eq_false fun z => hne ?_]
  · show [(0 : Int) + ((x.toNat : Nat) : Int)] = [x]
    rw [e]
  · have := inverse_unique hb (Int.dvd_of_emod_eq_zero z) hx (by omega) (by omega) x0 x1
    omega
end Tm

namespace Tm
theorem conv_nb : ∀ (i : Nat) (qs : List Int) (p l c d : Int × Int), (conv p l qs)[i]? = some c → (conv p l qs)[i + 1]? = some d → c.1 * d.2 - c.2 * d.1 = if i % 2 = 0 then -(l.1 * p.2 - l.2 * p.1) else l.1 * p.2 - l.2 * p.1
  | 0, [], _, _, _, _, h, _ => by simp [conv] at h
  | 0, [q], _, _, _, _, _, h => by simp [conv] at h
  | 0, q :: r :: qs, p, l, c, d, h1, h2 => by
    have e1 : (q * l.1 + p.1, q * l.2 + p.2) = c := Option.some.inj h1
    have e2 : (r * (q * l.1 + p.1) + l.1, r * (q * l.2 + p.2) + l.2) = d := Option.some.inj h2
    subst e1 e2
    show (q * l.1 + p.1) * (r * (q * l.2 + p.2) + l.2) - (q * l.2 + p.2) * (r * (q * l.1 + p.1) + l.1) = -(l.1 * p.2 - l.2 * p.1)
    generalize hX : q * l.1 + p.1 = X
    generalize hY : q * l.2 + p.2 = Y
    have z : X * (r * Y) = Y * (r * X) := by rw [Int.mul_left_comm, Int.mul_comm X Y, ← Int.mul_left_comm]
    have f : X * l.2 - Y * l.1 = -(l.1 * p.2 - l.2 * p.1) := by
      rw [← hX, ← hY, Int.add_mul, Int.add_mul]
      have x1 : q * l.1 * l.2 = q * l.2 * l.1 := by rw [Int.mul_assoc, Int.mul_assoc, Int.mul_comm l.1 l.2]
      have x2 : p.1 * l.2 = l.2 * p.1 := Int.mul_comm _ _
      have x3 : p.2 * l.1 = l.1 * p.2 := Int.mul_comm _ _
      omega
    rw [Int.mul_add, Int.mul_add]
    omega
  | i + 1, [], _, _, _, _, h, _ => by simp [conv] at h
  | i + 1, q :: qs, p, l, c, d, h1, h2 => by
    have ih := conv_nb i qs l (q * l.1 + p.1, q * l.2 + p.2) c d h1 h2
    rw [ih]
    have e : (q * l.1 + p.1) * l.2 - (q * l.2 + p.2) * l.1 = -(l.1 * p.2 - l.2 * p.1) := by
      have x1 : q * l.1 * l.2 = q * l.2 * l.1 := by rw [Int.mul_assoc, Int.mul_assoc, Int.mul_comm l.1 l.2]
      have x2 : p.1 * l.2 = l.2 * p.1 := Int.mul_comm _ _
      have x3 : p.2 * l.1 = l.1 * p.2 := Int.mul_comm _ _
      rw [Int.add_mul, Int.add_mul]
      omega
    show (if i % 2 = 0 then -((q * l.1 + p.1) * l.2 - (q * l.2 + p.2) * l.1) else (q * l.1 + p.1) * l.2 - (q * l.2 + p.2) * l.1) = _
    rw [e]
    by_cases h : i % 2 = 0
    · rw [if_pos h, if_neg (by omega)]
      omega
    · rw [if_neg h, if_pos (by omega)]
theorem convs_nb {i : Nat} {qs : List Int} {c d : Int × Int} (h1 : (convs qs)[i]? = some c) (h2 : (convs qs)[i + 1]? = some d) : c.1 * d.2 - c.2 * d.1 = if (i : Int) % 2 = 1 then 1 else -1 := by
  have h := conv_nb i qs (0, 1) (1, 0) c d h1 h2
  rw [h]
  by_cases e : i % 2 = 0
  · rw [if_pos e, if_neg (by omega)]
    rfl
  · rw [if_neg e, if_pos (by omega)]
    rfl
theorem convs_last {a b g : Int} (hb : 0 < b) (hg : (rems a b).getLast? = some g) : (convs (quos a b))[(convs (quos a b)).length - 1]? = some (a / g, b / g) := by
  obtain ⟨g', h1, h2, h3, h4⟩ := last_rem (a := a) hb
  rw [hg] at h1
  have e : g = g' := Option.some.inj h1
  subst e
  have hne := quos_ne (a := a) hb
  rw [convs_len]
  have hf := (conv_fin (quos a b) (0, 1) (1, 0)).2
  cases hq : quos a b with
  | nil => exact absurd hq hne
  | cons q qs =>
    rw [hq] at hf h3 h4
    have hf' : (convs (q :: qs))[qs.length]? = some (fin (0, 1) (1, 0) (q :: qs)).2 := hf
    show (convs (q :: qs))[qs.length]? = some (a / g, b / g)
    rw [hf', ← h3, ← h4, Int.mul_ediv_cancel _ (by omega), Int.mul_ediv_cancel _ (by omega)]
/-! shifting, exchanging -/
theorem quos_shift {a b t : Int} (hb : 0 < b) : quos (a + t * b) b = (a / b + t) :: quos b (a % b) := by
  rw [quos_pos hb, Int.add_mul_ediv_right _ _ (by omega), Int.add_mul_emod_self_right]
theorem rems_shift {a b t : Int} (hb : 0 < b) : rems (a + t * b) b = rems a b := by
  rw [rems_pos hb, rems_pos hb, Int.add_mul_emod_self_right]
theorem quos_less {a b : Int} (h0 : 0 ≤ a) (h : a < b) : quos a b = 0 :: quos b a := by
  rw [quos_pos (by omega), Int.ediv_eq_zero_of_lt h0 h, Int.emod_eq_of_lt h0 h]
theorem quos_same {a : Int} (h : 0 < a) : quos a a = [1] := by
  rw [quos_pos h, Int.ediv_self (by omega), Int.emod_self, quos_nil (by omega)]
theorem gcd_of_inverse {a b x : Int} (hb : 0 < b) (h : b ∣ a * x - 1) : Nat.gcd a.natAbs b.natAbs = 1 := by
  obtain ⟨g, h1, h2, _⟩ := last_rem (a := a) hb
  have e := no_inverse hb h1 h
  have e2 := last_is_gcd hb h1
  omega
theorem last_one {a b : Int} (hb : 0 < b) (h : Nat.gcd a.natAbs b.natAbs = 1) : (rems a b).getLast? = some 1 := by
  obtain ⟨g, h1, h2, _⟩ := last_rem (a := a) hb
  have e2 := last_is_gcd hb h1
  rw [h] at e2
  rw [h1, e2]
  rfl
/-- the rules of inverses -/
theorem dvd_emod_mul {a b x : Int} (h : b ∣ a * x - 1) : b ∣ (a % b) * x - 1 := by
  have e : (a % b) * x - 1 = a * x - 1 - b * (a / b * x) := by
    have := Int.mul_ediv_add_emod a b
    have e2 : a * x = (b * (a / b) + a % b) * x := by rw [this]
    rw [e2, Int.add_mul, Int.mul_assoc]
    omega
  rw [e]
  exact Int.dvd_sub h (Int.dvd_mul_right _ _)
theorem inv_inv {a b x : Int} (h : b ∣ a * x - 1) : b ∣ x * (a % b) - 1 := by
  rw [Int.mul_comm]
  exact dvd_emod_mul h
theorem inv_neg {a b x : Int} (h : b ∣ a * x - 1) : b ∣ (0 - a) * ((0 - x) % b) - 1 := by
  rw [Int.mul_comm]
  refine dvd_emod_mul ?_
  have e : (0 - x) * (0 - a) = a * x := by
    rw [Int.zero_sub, Int.zero_sub, Int.neg_mul_neg, Int.mul_comm]
  rw [e]
  exact h
theorem inv_mul {a c b x y : Int} (h1 : b ∣ a * x - 1) (h2 : b ∣ c * y - 1) : b ∣ a * c * ((x * y) % b) - 1 := by
  rw [Int.mul_comm]
  refine dvd_emod_mul ?_
  have e : x * y * (a * c) - 1 = (a * x - 1) * (c * y) + (c * y - 1) := by
    have z : x * y * (a * c) = a * x * (c * y) := by
      rw [Int.mul_comm a c, Int.mul_assoc, Int.mul_comm a x, Int.mul_assoc, ← Int.mul_assoc y c a, Int.mul_comm y c, Int.mul_comm (c * y) a]
    rw [z, Int.sub_mul, Int.one_mul]
    omega
  rw [e]
  exact Int.dvd_add (Int.dvd_mul_of_dvd_left h1) h2
end Tm

/-! Totals of floors along lines, in plain Lean. -/
namespace Tm
/-- the total of f i for i below n -/
def sm (f : Nat → Int) : Nat → Int
  | 0 => 0
  | n + 1 => sm f n + f n
theorem sm_congr {f g : Nat → Int} : ∀ n : Nat, (∀ i, i < n → f i = g i) → sm f n = sm g n
  | 0, _ => rfl
  | n + 1, h => by
    show sm f n + f n = sm g n + g n
    rw [sm_congr n fun i hi => h i (by omega), h n (by omega)]
theorem sm_add (f g : Nat → Int) : ∀ n : Nat, sm (fun i => f i + g i) n = sm f n + sm g n
  | 0 => rfl
  | n + 1 => by
    show sm (fun i => f i + g i) n + (f n + g n) = (sm f n + f n) + (sm g n + g n)
    rw [sm_add f g n]
    omega
theorem sm_mul (c : Int) (f : Nat → Int) : ∀ n : Nat, sm (fun i => c * f i) n = c * sm f n
  | 0 => (Int.mul_zero c).symm
  | n + 1 => by
    show sm (fun i => c * f i) n + c * f n = c * (sm f n + f n)
    rw [sm_mul c f n, Int.mul_add]
theorem sm_neg (f : Nat → Int) (n : Nat) : sm (fun i => - f i) n = - sm f n := by
  have h := sm_mul (-1) f n
  have e : sm (fun i => - f i) n = sm (fun i => -1 * f i) n := sm_congr n fun i _ => by omega
  rw [e, h]
  omega
theorem sm_sub (f g : Nat → Int) (n : Nat) : sm (fun i => f i - g i) n = sm f n - sm g n := by
  have e : sm (fun i => f i - g i) n = sm (fun i => f i + - g i) n := sm_congr n fun i _ => by omega
  rw [e, sm_add, sm_neg]
  omega
theorem sm_const (c : Int) : ∀ n : Nat, sm (fun _ => c) n = c * n
  | 0 => by simp [sm]
  | n + 1 => by
    show sm (fun _ => c) n + c = c * ((n + 1 : Nat) : Int)
    rw [sm_const c n, Int.natCast_add, Int.mul_add]
    simp
theorem sm_app (f : Nat → Int) (m : Nat) : ∀ n : Nat, sm f (m + n) = sm f m + sm (fun i => f (m + i)) n
  | 0 => by simp [sm]
  | n + 1 => by
    show sm f (m + n) + f (m + n) = sm f m + (sm (fun i => f (m + i)) n + f (m + n))
    rw [sm_app f m n]
    omega
theorem sm_rev (f : Nat → Int) : ∀ n : Nat, sm (fun i => f (n - 1 - i)) n = sm f n
  | 0 => rfl
  | n + 1 => by
    have h := sm_app (fun i => f (n + 1 - 1 - i)) 1 n
    have e1 : n + 1 = 1 + n := by omega
    conv => lhs; rw [e1]
    show sm (fun i => f (1 + n - 1 - i)) (1 + n) = sm f n + f n
    have e2 : sm (fun i => f (1 + n - 1 - i)) (1 + n) = sm (fun i => f (n + 1 - 1 - i)) (1 + n) := sm_congr _ fun i _ => by rw [show 1 + n - 1 - i = n + 1 - 1 - i by omega]
    rw [e2, h]
    have e3 : sm (fun i => f (n + 1 - 1 - (1 + i))) n = sm (fun i => f (n - 1 - i)) n := sm_congr _ fun i _ => by rw [show n + 1 - 1 - (1 + i) = n - 1 - i by omega]
    rw [e3, sm_rev f n]
    show 0 + f (n + 1 - 1 - 0) + sm f n = sm f n + f n
    rw [show n + 1 - 1 - 0 = n by omega]
    omega
theorem sm_swap (f : Nat → Nat → Int) (m : Nat) : ∀ n : Nat, sm (fun i => sm (fun j => f i j) m) n = sm (fun j => sm (fun i => f i j) n) m
  | 0 => by
    have e : sm (fun j => sm (fun i => f i j) 0) m = sm (fun _ => 0) m := rfl
    rw [e, sm_const, Int.zero_mul]
    rfl
  | n + 1 => by
    show sm (fun i => sm (fun j => f i j) m) n + sm (fun j => f n j) m = sm (fun j => sm (fun i => f i j) n + f n j) m
    rw [sm_add, sm_swap f m n]
theorem sm_bound {f : Nat → Int} {B : Int} : ∀ n : Nat, (∀ i, i < n → -B ≤ f i ∧ f i ≤ B) → -(B * n) ≤ sm f n ∧ sm f n ≤ B * n
  | 0, _ => by simp [sm]
  | n + 1, h => by
    have h1 := sm_bound n fun i hi => h i (by omega)
    have h2 := h n (by omega)
    have e : B * ((n + 1 : Nat) : Int) = B * n + B := by rw [Int.natCast_add, Int.mul_add]; simp
    rw [e]
    show -(B * n + B) ≤ sm f n + f n ∧ sm f n + f n ≤ B * n + B
    omega
/-! ### ones, indices, squares -/
theorem two_mul_half {x : Int} (h : x % 2 = 0) : 2 * (x / 2) = x := by omega
theorem sm_id (n : Nat) : 2 * sm (fun i => (i : Int)) n = (n : Int) * ((n : Int) - 1) := by
  induction n with
  | zero => rfl
  | succ n ih =>
    show 2 * (sm (fun i => (i : Int)) n + (n : Int)) = ((n + 1 : Nat) : Int) * (((n + 1 : Nat) : Int) - 1)
    rw [Int.mul_add, ih, Int.natCast_add]
    generalize (n : Int) = x
    simp only [Int.mul_sub, Int.mul_add, Int.add_mul]
    simp
    omega
theorem sm_sq (n : Nat) : 6 * sm (fun i => (i : Int) * i) n = (n : Int) * ((n : Int) - 1) * (2 * (n : Int) - 1) := by
  induction n with
  | zero => rfl
  | succ n ih =>
    show 6 * (sm (fun i => (i : Int) * i) n + (n : Int) * n) = ((n + 1 : Nat) : Int) * (((n + 1 : Nat) : Int) - 1) * (2 * ((n + 1 : Nat) : Int) - 1)
    rw [Int.mul_add, ih, Int.natCast_add]
    generalize (n : Int) = x
    have e1 : ((x + ((1 : Nat) : Int)) - 1) = x := by simp
    rw [e1]
    simp only [Int.mul_sub, Int.mul_add, Int.add_mul, Int.sub_mul, Int.mul_one, Int.one_mul]
    have : x * x * (2 * x) = 2 * (x * x * x) := by rw [Int.mul_comm 2 x, ← Int.mul_assoc, Int.mul_comm _ 2]
    have : x * (2 * x) = 2 * (x * x) := by rw [← Int.mul_assoc, Int.mul_comm x 2, Int.mul_assoc]
    have : x * ((1 : Nat) : Int) = x := by simp
    simp only [Int.natCast_one, Int.mul_one, Int.one_mul] at *
    omega
def half (n : Int) : Int := n * (n - 1) / 2
def sixth (n : Int) : Int := n * (n - 1) * (2 * n - 1) / 6
theorem half_sm (n : Nat) : sm (fun i => (i : Int)) n = half n := by
  have h := sm_id n
  unfold half
  omega
theorem sixth_sm (n : Nat) : sm (fun i => (i : Int) * i) n = sixth n := by
  have h := sm_sq n
  unfold sixth
  omega
/-! ### floors -/
def fl (a c m : Int) (i : Nat) : Int := (a * i + c) / m
def S0 (n : Nat) (a c m : Int) : Int := sm (fl a c m) n
def S1 (n : Nat) (a c m : Int) : Int := sm (fun i => (i : Int) * fl a c m i) n
def S2 (n : Nat) (a c m : Int) : Int := sm (fun i => fl a c m i * fl a c m i) n
theorem fl_lift {a c m u v : Int} (hm : m ≠ 0) (i : Nat) : fl (a + u * m) (c + v * m) m i = fl a c m i + (u * i + v) := by
  unfold fl
  have e : (a + u * m) * i + (c + v * m) = (a * i + c) + (u * i + v) * m := by
    rw [Int.add_mul, Int.add_mul, Int.mul_assoc u m i, Int.mul_comm m i, ← Int.mul_assoc u i m]
    omega
  rw [e, Int.add_mul_ediv_right _ _ hm]
theorem S0_lift {n : Nat} {a c m u v : Int} (hm : m ≠ 0) : S0 n (a + u * m) (c + v * m) m = S0 n a c m + u * half n + v * n := by
  unfold S0
  have e : sm (fun i => fl (a + u * m) (c + v * m) m i) n = sm (fun i => (fl a c m i + u * (i : Int)) + v) n := sm_congr n fun i _ => by rw [fl_lift hm]; omega
  rw [e, sm_add, sm_add, sm_mul, sm_const, half_sm]
theorem S1_lift {n : Nat} {a c m u v : Int} (hm : m ≠ 0) : S1 n (a + u * m) (c + v * m) m = S1 n a c m + u * sixth n + v * half n := by
  unfold S1
  have e : sm (fun i => (i : Int) * fl (a + u * m) (c + v * m) m i) n = sm (fun i => ((i : Int) * fl a c m i + u * ((i : Int) * i)) + v * (i : Int)) n := sm_congr n fun i _ => by
    rw [fl_lift hm, Int.mul_add, Int.mul_add, Int.mul_comm (i : Int) v, ← Int.mul_assoc (i : Int) u, Int.mul_comm (i : Int) u, Int.mul_assoc u]
    omega
  rw [e, sm_add, sm_add, sm_mul, sm_mul, half_sm, sixth_sm]
theorem S2_lift {n : Nat} {a c m u v : Int} (hm : m ≠ 0) :
    S2 n (a + u * m) (c + v * m) m = S2 n a c m + 2 * u * S1 n a c m + 2 * v * S0 n a c m + (u * u * sixth n + 2 * u * v * half n + v * v * n) := by
  unfold S2 S1 S0
  have e : sm (fun i => fl (a + u * m) (c + v * m) m i * fl (a + u * m) (c + v * m) m i) n =
      sm (fun i => ((((fl a c m i * fl a c m i + 2 * u * ((i : Int) * fl a c m i)) + 2 * v * fl a c m i) + u * u * ((i : Int) * i)) + 2 * u * v * (i : Int)) + v * v) n := sm_congr n fun i _ => by
    rw [fl_lift hm]
    generalize fl a c m i = f
    generalize (i : Int) = x
    have e1 : (f + (u * x + v)) * (f + (u * x + v)) = f * f + 2 * (f * (u * x)) + 2 * (f * v) + (u * x) * (u * x) + 2 * (u * x * v) + v * v := by
      simp only [Int.mul_add, Int.add_mul]
      rw [Int.mul_comm (u * x) f, Int.mul_comm v f, Int.mul_comm v (u * x)]
      omega
    rw [e1]
    have e2 : f * (u * x) = u * (x * f) := by rw [Int.mul_comm f, Int.mul_assoc]
    have e3 : (u * x) * (u * x) = u * u * (x * x) := by rw [Int.mul_assoc, ← Int.mul_assoc x u x, Int.mul_comm x u, Int.mul_assoc u x x, ← Int.mul_assoc]
    have e4 : u * x * v = u * v * x := by rw [Int.mul_assoc, Int.mul_comm x v, ← Int.mul_assoc]
    have e5 : f * v = v * f := Int.mul_comm _ _
    rw [e2, e3, e4, e5, Int.mul_assoc 2 u, Int.mul_assoc 2 v, Int.mul_assoc 2 u v, Int.mul_assoc 2 (u * v) x]
  rw [e, sm_add, sm_add, sm_add, sm_add, sm_add, sm_mul, sm_mul, sm_mul, sm_mul, sm_const, half_sm, sixth_sm]
  omega
/-! ### the mirror image -/
/-- how many j below h have g j < i, weighed -/
def ind (p : Bool) : Int := if p then 1 else 0
theorem sm_ind_lt : ∀ (h k : Nat), sm (fun j => ind (decide (j < k))) h = (min h k : Nat)
  | 0, k => by simp [sm]
  | h + 1, k => by
    show sm (fun j => ind (decide (j < k))) h + ind (decide (h < k)) = _
    rw [sm_ind_lt h k]
    unfold ind
    by_cases q : h < k
    · rw [decide_eq_true q, if_pos rfl]
      omega
    · rw [decide_eq_false q, if_neg (by decide)]
      omega

theorem sm_odd_lt : ∀ (h k : Nat), sm (fun j => (2 * (j : Int) + 1) * ind (decide (j < k))) h = ((min h k : Nat) : Int) * ((min h k : Nat) : Int)
  | 0, k => by simp [sm]
  | h + 1, k => by
    show sm (fun j => (2 * (j : Int) + 1) * ind (decide (j < k))) h + (2 * (h : Int) + 1) * ind (decide (h < k)) = _
    rw [sm_odd_lt h k]
    unfold ind
    by_cases q : h < k
    · rw [decide_eq_true q, if_pos rfl, show min h k = h by omega, show min (h + 1) k = h + 1 by omega, Int.natCast_add]
      simp only [Int.mul_add, Int.add_mul, Int.mul_one, Int.natCast_one, Int.one_mul]
      omega
    · rw [decide_eq_false q, if_neg (by decide), show min h k = min (h + 1) k by omega]
      omega
theorem sm_above : ∀ (n : Nat) (g : Int), -1 ≤ g → g ≤ (n : Int) → sm (fun i => ind (decide (g < (i : Int)))) (n + 1) = (n : Int) - g
  | 0, g, h0, h1 => by
    show 0 + ind (decide (g < ((0 : Nat) : Int))) = _
    unfold ind
    by_cases q : g < 0
    · rw [decide_eq_true (show g < ((0 : Nat) : Int) from q), if_pos rfl]
      omega
    · rw [decide_eq_false (show ¬ g < ((0 : Nat) : Int) from q), if_neg (by decide)]
      omega
  | n + 1, g, h0, h1 => by
    show sm (fun i => ind (decide (g < (i : Int)))) (n + 1) + ind (decide (g < ((n + 1 : Nat) : Int))) = _
    unfold ind
    by_cases q : g ≤ n
    · have := sm_above n g h0 q
      unfold ind at this
      rw [this, decide_eq_true (by omega), if_pos rfl]
      omega
    · have e : g = ((n + 1 : Nat) : Int) := by omega
      have z : sm (fun i => if decide (g < (i : Int)) = true then 1 else 0) (n + 1) = sm (fun _ => 0) (n + 1) := sm_congr _ fun i hi => by rw [decide_eq_false (by omega), if_neg (by decide)]
      rw [z, sm_const, decide_eq_false (by omega), if_neg (by decide)]
      omega
theorem sm_above_id : ∀ (n : Nat) (g : Int), -1 ≤ g → g ≤ (n : Int) → 2 * sm (fun i => (i : Int) * ind (decide (g < (i : Int)))) (n + 1) = ((n : Int) + 1) * n - g * (g + 1)
  | 0, g, h0, h1 => by
    have : g = -1 ∨ g = 0 := by omega
    rcases this with rfl | rfl <;> rfl
  | n + 1, g, h0, h1 => by
    show 2 * (sm (fun i => (i : Int) * ind (decide (g < (i : Int)))) (n + 1) + ((n + 1 : Nat) : Int) * ind (decide (g < ((n + 1 : Nat) : Int)))) = _
    by_cases q : g ≤ n
    · rw [Int.mul_add, sm_above_id n g h0 q]
      unfold ind
      rw [decide_eq_true (by omega), if_pos rfl, Int.natCast_add]
      generalize g * (g + 1) = z
      generalize (n : Int) = x
      simp only [Int.mul_add, Int.add_mul, Int.mul_one, Int.natCast_one, Int.one_mul]
      omega
    · have e : g = ((n + 1 : Nat) : Int) := by omega
      have z : sm (fun i => (i : Int) * ind (decide (g < (i : Int)))) (n + 1) = sm (fun _ => 0) (n + 1) := sm_congr _ fun i hi => by
        unfold ind
        rw [decide_eq_false (by omega), if_neg (by decide), Int.mul_zero]
      rw [z, sm_const]
      unfold ind
      rw [decide_eq_false (by omega), if_neg (by decide), e, Int.mul_comm (((n + 1 : Nat) : Int) + 1)]
      omega
theorem fl_lt {a c m : Int} (ha : 0 < a) (hm : 0 < m) (i j : Nat) : (j : Int) < fl a c m i ↔ fl m (m - c - 1) a j < (i : Int) := by
  unfold fl
  have h1 : (j : Int) < (a * i + c) / m ↔ ((j : Int) + 1) * m ≤ a * i + c := by
    rw [← Int.le_ediv_iff_mul_le hm]
    omega
  have h2 : (m * (j : Int) + (m - c - 1)) / a < (i : Int) ↔ m * (j : Int) + (m - c - 1) < i * a := Int.ediv_lt_iff_lt_mul ha
  rw [h1, h2, Int.add_mul, Int.one_mul, Int.mul_comm (j : Int) m, Int.mul_comm (i : Int) a]
  omega
theorem fl_nn {a c m : Int} (ha : 0 ≤ a) (hc : 0 ≤ c) (hm : 0 < m) (i : Nat) : 0 ≤ fl a c m i :=
  Int.ediv_nonneg (by have := Int.mul_nonneg ha (Int.natCast_nonneg i); omega) (by omega)
theorem fl_mono {a c m : Int} (ha : 0 ≤ a) (hm : 0 < m) {i j : Nat} (h : i ≤ j) : fl a c m i ≤ fl a c m j := by
  unfold fl
  refine Int.ediv_le_ediv hm ?_
  have : a * (i : Int) ≤ a * (j : Int) := Int.mul_le_mul_of_nonneg_left (by omega) ha
  omega
/-- each floor counts the mirror image's below it -/
theorem fl_count {a c m : Int} (ha : 0 < a) (hc : 0 ≤ c) (hm : 0 < m) {h : Nat} {i : Nat} (hf : fl a c m i ≤ h) :
    fl a c m i = sm (fun j => ind (decide (fl m (m - c - 1) a j < (i : Int)))) h ∧ fl a c m i * fl a c m i = sm (fun j => (2 * (j : Int) + 1) * ind (decide (fl m (m - c - 1) a j < (i : Int)))) h := by
  have h0 := fl_nn (Int.le_of_lt ha) hc hm i
  obtain ⟨k, hk⟩ : ∃ k : Nat, fl a c m i = k := ⟨(fl a c m i).toNat, by omega⟩
  have e : ∀ j : Nat, decide (fl m (m - c - 1) a j < (i : Int)) = decide (j < k) := fun j => by
    have := fl_lt (c := c) ha hm i j
    rw [hk] at this
    by_cases q : j < k
    · rw [decide_eq_true q, decide_eq_true (this.mp (by omega))]
    · rw [decide_eq_false q, decide_eq_false (fun z => q (by have := this.mpr z; omega))]
  simp only [e]
  rw [sm_ind_lt, sm_odd_lt, hk, show min h k = k by omega]
  exact ⟨rfl, rfl⟩
theorem mirror {a c m : Int} {n h : Nat} (ha : 0 < a) (hc : 0 ≤ c) (hm : 0 < m) (hf : ∀ i, i < n + 1 → fl a c m i ≤ h) (hg : ∀ j, j < h → -1 ≤ fl m (m - c - 1) a j ∧ fl m (m - c - 1) a j ≤ n) :
    S0 (n + 1) a c m = (h : Int) * n - S0 h m (m - c - 1) a ∧
    2 * S1 (n + 1) a c m = (h : Int) * (((n : Int) + 1) * n) - S2 h m (m - c - 1) a - S0 h m (m - c - 1) a ∧
    S2 (n + 1) a c m = (h : Int) * h * n - 2 * S1 h m (m - c - 1) a - S0 h m (m - c - 1) a := by
  have g0 := fun j hj => (hg j hj).1
  have g1 := fun j hj => (hg j hj).2
  generalize hG : fl m (m - c - 1) a = g at *
  refine ⟨?_, ?_, ?_⟩
  · unfold S0
    have e1 : sm (fl a c m) (n + 1) = sm (fun i => sm (fun j => ind (decide (g j < (i : Int)))) h) (n + 1) := sm_congr _ fun i hi => by
      have := (fl_count ha hc hm (hf i hi)).1
      rw [hG] at this
      exact this
    rw [e1, sm_swap]
    have e2 : sm (fun j => sm (fun i => ind (decide (g j < (i : Int)))) (n + 1)) h = sm (fun j => (n : Int) - g j) h := sm_congr _ fun j hj => sm_above n (g j) (g0 j hj) (g1 j hj)
    rw [e2, sm_sub, sm_const, Int.mul_comm, hG]
  · unfold S1 S2 S0
    have e1 : sm (fun i => (i : Int) * fl a c m i) (n + 1) = sm (fun i => sm (fun j => (i : Int) * ind (decide (g j < (i : Int)))) h) (n + 1) := sm_congr _ fun i hi => by
      have := (fl_count ha hc hm (hf i hi)).1
      rw [hG] at this
      rw [this, sm_mul]
    rw [e1, sm_swap, ← sm_mul]
    have e2 : sm (fun j => 2 * sm (fun i => (i : Int) * ind (decide (g j < (i : Int)))) (n + 1)) h = sm (fun j => ((n : Int) + 1) * n - (g j * g j + g j)) h := sm_congr _ fun j hj => by
      rw [sm_above_id n (g j) (g0 j hj) (g1 j hj), Int.mul_add, Int.mul_one]
    rw [e2, sm_sub, sm_const, sm_add, Int.mul_comm, hG]
    omega
  · unfold S1 S2 S0
    have e1 : sm (fun i => fl a c m i * fl a c m i) (n + 1) = sm (fun i => sm (fun j => (2 * (j : Int) + 1) * ind (decide (g j < (i : Int)))) h) (n + 1) := sm_congr _ fun i hi => by
      have := (fl_count ha hc hm (hf i hi)).2
      rw [hG] at this
      exact this
    rw [e1, sm_swap]
    have e2 : sm (fun j => sm (fun i => (2 * (j : Int) + 1) * ind (decide (g j < (i : Int)))) (n + 1)) h = sm (fun j => ((n : Int) * (2 * (j : Int)) + n) - (2 * ((j : Int) * g j) + g j)) h := sm_congr _ fun j hj => by
      rw [sm_mul, sm_above n (g j) (g0 j hj) (g1 j hj), Int.mul_sub, Int.add_mul, Int.add_mul, Int.one_mul, Int.one_mul, Int.mul_comm (2 * (j : Int)) n, Int.mul_assoc]
    rw [e2, sm_sub, sm_add, sm_add, sm_mul, sm_mul, sm_mul, sm_const, hG, sm_id, Int.mul_sub]
    have e3 : (n : Int) * ((h : Int) * h) = (h : Int) * h * n := Int.mul_comm _ _
    rw [← e3, Int.mul_sub, Int.mul_one]
    omega
/-! ### lines put together -/
theorem fl_shift (a c m : Int) (p i : Nat) : fl a c m (p + i) = fl a (c + a * p) m i := by
  unfold fl
  rw [Int.natCast_add, Int.mul_add]
  congr 1
  omega
theorem S0_part (a c m : Int) (p r : Nat) : S0 (p + r) a c m = S0 p a c m + S0 r a (c + a * p) m := by
  unfold S0
  rw [sm_app, sm_congr r fun i _ => fl_shift a c m p i]
theorem S1_part (a c m : Int) (p r : Nat) : S1 (p + r) a c m = S1 p a c m + S1 r a (c + a * p) m + p * S0 r a (c + a * p) m := by
  unfold S1 S0
  rw [sm_app]
  have e : sm (fun i => ((p + i : Nat) : Int) * fl a c m (p + i)) r = sm (fun i => (i : Int) * fl a (c + a * p) m i + (p : Int) * fl a (c + a * p) m i) r := sm_congr r fun i _ => by
    rw [fl_shift, Int.natCast_add, Int.add_mul]
    omega
  rw [e, sm_add, sm_mul]
  omega
theorem S2_part (a c m : Int) (p r : Nat) : S2 (p + r) a c m = S2 p a c m + S2 r a (c + a * p) m := by
  unfold S2
  rw [sm_app, sm_congr r fun i _ => by rw [fl_shift]]
theorem S0_rev (a c m : Int) (n : Nat) (h : 0 < n) : S0 n (0 - a) (c + a * ((n : Int) - 1)) m = S0 n a c m := by
  unfold S0
  rw [← sm_rev (fl a c m) n]
  refine sm_congr n fun i hi => ?_
  unfold fl
  congr 1
  rw [show ((n - 1 - i : Nat) : Int) = (n : Int) - 1 - i by omega, Int.mul_sub a ((n : Int) - 1) i]
  have : (0 - a) * (i : Int) = - (a * i) := by rw [Int.zero_sub, Int.neg_mul]
  omega
end Tm

/-! The layers of a line: what the loops keep. -/
namespace Tm
structure Ly where
  n : Int
  u : Int
  s : Int
  h : Int
/-- the high end of the flat line -/
def hi (n a c m : Int) : Int := ((a % m) * (n - 1) + c % m) / m
/-- layers, with fuel -/
def lays : Nat → Int → Int → Int → Int → List Ly
  | 0, _, _, _, _ => []
  | k + 1, n, a, c, m => if 0 < n then ⟨n, a / m, c / m, hi n a c m⟩ :: lays k (hi n a c m) m (m - c % m - 1) (a % m) else []
def mir (n h : Int) (t : Int × Int × Int) : Int × Int × Int := (h * (n - 1) - t.1, (h * (n - 1) * n - t.2.2 - t.1) / 2, h * (n - 1) * h - 2 * t.2.1 - t.1)
def lif (n u s : Int) (t : Int × Int × Int) : Int × Int × Int :=
  (t.1 + u * half n + s * n, t.2.1 + u * sixth n + s * half n, t.2.2 + 2 * u * t.2.1 + 2 * s * t.1 + (u * u * sixth n + 2 * u * s * half n + s * s * n))
def tot : List Ly → Int × Int × Int
  | [] => (0, 0, 0)
  | l :: r => lif l.n l.u l.s (mir l.n l.h (tot r))
def SS (n a c m : Int) : Int × Int × Int := (S0 n.toNat a c m, S1 n.toNat a c m, S2 n.toNat a c m)
theorem hi_nn {n a c m : Int} (hm : 0 < m) (hn : 0 < n) : 0 ≤ hi n a c m := by
  unfold hi
  have h1 := Int.emod_nonneg a (show m ≠ 0 by omega)
  have h2 := Int.emod_nonneg c (show m ≠ 0 by omega)
  exact Int.ediv_nonneg (by have := Int.mul_nonneg h1 (show 0 ≤ n - 1 by omega); omega) (by omega)
theorem hi_le {n a c m : Int} (hm : 0 < m) (hn : 0 < n) : hi n a c m < n := by
  unfold hi
  have h1 := Int.emod_lt_of_pos a hm
  have h2 := Int.emod_lt_of_pos c hm
  refine (Int.ediv_lt_iff_lt_mul hm).mpr ?_
  have : (a % m) * (n - 1) ≤ (m - 1) * (n - 1) := Int.mul_le_mul_of_nonneg_right (by omega) (by omega)
  have e : (m - 1) * (n - 1) = n * m - m - (n - 1) := by
    rw [Int.sub_mul, Int.mul_sub, Int.mul_comm n m]
    omega
  omega
theorem hi_pos {n a c m : Int} (hm : 0 < m) (hn : 0 < n) (h : 0 < hi n a c m) : 0 < a % m := by
  have h1 := Int.emod_nonneg a (show m ≠ 0 by omega)
  have h2 := Int.emod_lt_of_pos c hm
  have h3 := Int.emod_nonneg c (show m ≠ 0 by omega)
  rcases Int.lt_or_eq_of_le h1 with q | q
  · exact q
  · exfalso
    unfold hi at h
    rw [← q, Int.zero_mul, Int.zero_add, Int.ediv_eq_zero_of_lt h3 h2] at h
    omega
theorem lift_SS {n a c m : Int} (hm : 0 < m) (hn : 0 ≤ n) : SS n a c m = lif n (a / m) (c / m) (SS n (a % m) (c % m) m) := by
  have e1 : a = a % m + a / m * m := by
    have := Int.emod_add_mul_ediv a m
    rw [Int.mul_comm] at this
    omega
  have e2 : c = c % m + c / m * m := by
    have := Int.emod_add_mul_ediv c m
    rw [Int.mul_comm] at this
    omega
  have en : ((n.toNat : Nat) : Int) = n := by omega
  have x0 := S0_lift (n := n.toNat) (a := a % m) (c := c % m) (u := a / m) (v := c / m) (show m ≠ 0 by omega)
  have x1 := S1_lift (n := n.toNat) (a := a % m) (c := c % m) (u := a / m) (v := c / m) (show m ≠ 0 by omega)
  have x2 := S2_lift (n := n.toNat) (a := a % m) (c := c % m) (u := a / m) (v := c / m) (show m ≠ 0 by omega)
  rw [← e1, ← e2, en] at x0 x1 x2
  unfold SS lif
  rw [x0, x1, x2]
theorem mir_SS {n a c m : Int} (hm : 0 < m) (hn : 0 < n) : SS n (a % m) (c % m) m = mir n (hi n a c m) (SS (hi n a c m) m (m - c % m - 1) (a % m)) := by
  have h1 := Int.emod_nonneg a (show m ≠ 0 by omega)
  have h2 := Int.emod_lt_of_pos c hm
  have h3 := Int.emod_nonneg c (show m ≠ 0 by omega)
  have h4 := Int.emod_lt_of_pos a hm
  obtain ⟨k, rfl⟩ : ∃ k : Nat, n = (k : Int) + 1 := ⟨(n - 1).toNat, by omega⟩
  have n0 := hi_nn (n := (k : Int) + 1) (a := a) (c := c) hm hn
  obtain ⟨h, hh⟩ : ∃ h : Nat, hi ((k : Int) + 1) a c m = (h : Int) := ⟨(hi ((k : Int) + 1) a c m).toNat, by omega⟩
  have et : ((k : Int) + 1).toNat = k + 1 := by omega
  have ek : ((k : Int) + 1 - 1) = (k : Int) := by omega
  have hk : fl (a % m) (c % m) m k = (h : Int) := by
    rw [← hh]
    unfold hi fl
    rw [ek]
  have hf : ∀ i, i < k + 1 → fl (a % m) (c % m) m i ≤ h := fun i hi => by
    rw [← hk]
    exact fl_mono h1 hm (by omega)
  rw [hh]
  unfold SS mir
  rw [et, ek, Int.toNat_natCast]
  rcases Int.lt_or_eq_of_le h1 with q | q
  · have hg : ∀ j, j < h → -1 ≤ fl m (m - c % m - 1) (a % m) j ∧ fl m (m - c % m - 1) (a % m) j ≤ k := fun j hj => by
      have g0 := fl_nn (Int.le_of_lt hm) (show 0 ≤ m - c % m - 1 by omega) q j
      have := (fl_lt (c := c % m) q hm k j).mp (by omega)
      omega
    obtain ⟨y0, y1, y2⟩ := mirror q h3 hm hf hg
    rw [y0, y2]
    refine Prod.ext rfl (Prod.ext ?_ ?_)
    · show S1 (k + 1) (a % m) (c % m) m = ((h : Int) * k * ((k : Int) + 1) - S2 h m (m - c % m - 1) (a % m) - S0 h m (m - c % m - 1) (a % m)) / 2
      have e : (h : Int) * k * ((k : Int) + 1) = (h : Int) * (((k : Int) + 1) * k) := by rw [Int.mul_assoc, Int.mul_comm (k : Int)]
      rw [e]
      omega
    · show (h : Int) * h * k - 2 * S1 h m (m - c % m - 1) (a % m) - S0 h m (m - c % m - 1) (a % m) = (h : Int) * k * h - 2 * S1 h m (m - c % m - 1) (a % m) - S0 h m (m - c % m - 1) (a % m)
      have e : (h : Int) * h * k = (h : Int) * k * h := Int.mul_right_comm _ _ _
      rw [e]
  · have z : h = 0 := by
      have : ¬ 0 < hi ((k : Int) + 1) a c m := fun z => by
        have := hi_pos hm hn z
        omega
      omega
    subst z
    have fz : ∀ i, i < k + 1 → fl (a % m) (c % m) m i = 0 := fun i hi => by
      have := hf i hi
      have := fl_nn h1 h3 hm i
      omega
    have s0 : S0 (k + 1) (a % m) (c % m) m = 0 := by
      unfold S0
      rw [sm_congr (g := fun _ => 0) _ fz, sm_const, Int.zero_mul]
    have s1 : S1 (k + 1) (a % m) (c % m) m = 0 := by
      unfold S1
      rw [sm_congr (g := fun _ => 0) _ fun i hi => by rw [fz i hi, Int.mul_zero], sm_const, Int.zero_mul]
    have s2 : S2 (k + 1) (a % m) (c % m) m = 0 := by
      unfold S2
      rw [sm_congr (g := fun _ => 0) _ fun i hi => by rw [fz i hi, Int.mul_zero], sm_const, Int.zero_mul]
    rw [s0, s1, s2]
    simp [S0, S1, S2, sm]
/-- the layers lead to the totals -/
theorem tot_lays : ∀ (k : Nat) (n a c m : Int), 0 ≤ n → (0 < n → 0 < m) → (0 < n → m.toNat < k) → tot (lays k n a c m) = SS n a c m
  | 0, n, a, c, m, h0, h1, h2 => by
    have : n = 0 := by
      rcases Int.lt_or_eq_of_le h0 with q | q
      · exact absurd (h2 q) (Nat.not_lt_zero _)
      · exact q.symm
    subst this
    rfl
  | k + 1, n, a, c, m, h0, h1, h2 => by
    unfold lays
    by_cases q : 0 < n
    · rw [if_pos q]
      have hm := h1 q
      have h4 := Int.emod_lt_of_pos a hm
      show lif n (a / m) (c / m) (mir n (hi n a c m) (tot (lays k (hi n a c m) m (m - c % m - 1) (a % m)))) = _
      rw [tot_lays k _ _ _ _ (hi_nn hm q) (fun z => hi_pos hm q z) (fun z => by have := h2 q; omega), ← mir_SS hm q, ← lift_SS hm h0]
    · rw [if_neg q]
      have : n = 0 := by omega
      subst this
      rfl
/-- how many layers there are -/
theorem lays_len : ∀ (j k : Nat) (n a c m : Int), (0 < n → 0 < m) → (0 < n → m < 2 ^ j) → (lays k n a c m).length ≤ 2 * j + 1
  | j, 0, n, a, c, m, _, _ => Nat.zero_le _
  | 0, k + 1, n, a, c, m, h1, h2 => by
    unfold lays
    by_cases q : 0 < n
    · have := h1 q
      have := h2 q
      have e : (2 : Int) ^ 0 = 1 := rfl
      omega
    · rw [if_neg q]
      exact Nat.zero_le _
  | j + 1, k + 1, n, a, c, m, h1, h2 => by
    unfold lays
    by_cases q : 0 < n
    · rw [if_pos q, List.length_cons]
      have hm := h1 q
      have h4 := Int.emod_lt_of_pos a hm
      have hn := hi_nn (a := a) (c := c) hm q
      have hp := hi_pos (a := a) (c := c) hm q
      generalize hi n a c m = n1 at *
      generalize m - c % m - 1 = c1
      cases k with
      | zero => exact Nat.succ_le_succ (Nat.zero_le _)
      | succ k =>
        unfold lays
        by_cases q1 : 0 < n1
        · rw [if_pos q1, List.length_cons]
          have ha := hp q1
          have h5 := Int.emod_lt_of_pos m ha
          have e2 : (2 : Int) ^ (j + 1) = 2 ^ j * 2 := Int.pow_succ 2 j
          have h6 := Int.mul_ediv_add_emod m (a % m)
          have h7 : 1 ≤ m / (a % m) := Int.le_ediv_of_mul_le ha (by omega)
          have h8 : (a % m) * 1 ≤ (a % m) * (m / (a % m)) := Int.mul_le_mul_of_nonneg_left h7 (by omega)
          have := lays_len j k (hi n1 m c1 (a % m)) (a % m) (a % m - c1 % (a % m) - 1) (m % (a % m)) (fun z => hi_pos ha q1 z) (fun z => by have := h2 q; omega)
          omega
        · rw [if_neg q1]
          simp only [List.length_cons, List.length_nil]
          omega
    · rw [if_neg q]
      exact Nat.zero_le _

/-! the law's own exchange of both directions -/
theorem area_step {n a c m : Int} (hm : 0 < m) (hn : 0 ≤ n) (ha : 0 < a % m) : S0 n.toNat a c m = (a / m) * half n + (c / m) * n +
    (n * (((a % m) * n + c % m) / m) - S0 (((a % m) * n + c % m) / m).toNat m (m - c % m - 1 + a % m) (a % m)) := by
  have h1 := Int.emod_nonneg a (show m ≠ 0 by omega)
  have h2 := Int.emod_lt_of_pos c hm
  have h3 := Int.emod_nonneg c (show m ≠ 0 by omega)
  have h4 := Int.emod_lt_of_pos a hm
  have x := congrArg Prod.fst (lift_SS (a := a) (c := c) hm hn)
  have x' : S0 n.toNat a c m = S0 n.toNat (a % m) (c % m) m + a / m * half n + c / m * n := x
  rw [x']
  have nn : 0 ≤ ((a % m) * n + c % m) / m := Int.ediv_nonneg (by have := Int.mul_nonneg h1 hn; omega) (by omega)
  obtain ⟨h, hh⟩ : ∃ h : Nat, ((a % m) * n + c % m) / m = (h : Int) := ⟨(((a % m) * n + c % m) / m).toNat, by omega⟩
  obtain ⟨k, rfl⟩ : ∃ k : Nat, n = k := ⟨n.toNat, by omega⟩
  rw [hh, Int.toNat_natCast, Int.toNat_natCast]
  have sh : ∀ j : Nat, fl m (m - c % m - 1 + a % m) (a % m) j = fl m (m - c % m - 1) (a % m) j + 1 := fun j => by
    unfold fl
    have z := Int.add_mul_ediv_right (m * (j : Int) + (m - c % m - 1)) 1 (show a % m ≠ 0 by omega)
    rw [Int.one_mul] at z
    rw [← Int.add_assoc, z]
  have e1 : S0 h m (m - c % m - 1 + a % m) (a % m) = S0 h m (m - c % m - 1) (a % m) + h := by
    unfold S0
    rw [sm_congr h fun j _ => sh j, sm_add, sm_const, Int.one_mul]
  rw [e1]
  cases k with
  | zero =>
    have z : h = 0 := by
      have : ((a % m) * ((0 : Nat) : Int) + c % m) / m = 0 := by
        rw [show ((0 : Nat) : Int) = 0 from rfl, Int.mul_zero, Int.zero_add]
        exact Int.ediv_eq_zero_of_lt h3 h2
      omega
    subst z
    simp [S0, sm, half]
  | succ k =>
    have hk : fl (a % m) (c % m) m (k + 1) = (h : Int) := hh
    have hf : ∀ i, i < k + 1 → fl (a % m) (c % m) m i ≤ h := fun i hi => by
      rw [← hk]
      exact fl_mono h1 hm (by omega)
    have hg : ∀ j, j < h → -1 ≤ fl m (m - c % m - 1) (a % m) j ∧ fl m (m - c % m - 1) (a % m) j ≤ k := fun j hj => by
      have g0 := fl_nn (Int.le_of_lt hm) (show 0 ≤ m - c % m - 1 by omega) ha j
      have := (fl_lt (c := c % m) ha hm (k + 1) j).mp (by omega)
      omega
    have y := (mirror ha h3 hm hf hg).1
    rw [y, Int.natCast_add, Int.add_mul, Int.mul_comm (k : Int) h]
    simp only [Int.natCast_one, Int.one_mul]
    omega
theorem area_end {n a c m : Int} (hm : 0 < m) (hn : 0 ≤ n) (h : a % m = 0 ∨ ((a % m) * n + c % m) / m = 0) : S0 n.toNat a c m = (a / m) * half n + (c / m) * n := by
  have h1 := Int.emod_nonneg a (show m ≠ 0 by omega)
  have h2 := Int.emod_lt_of_pos c hm
  have h3 := Int.emod_nonneg c (show m ≠ 0 by omega)
  have x := congrArg Prod.fst (lift_SS (a := a) (c := c) hm hn)
  have x' : S0 n.toNat a c m = S0 n.toNat (a % m) (c % m) m + a / m * half n + c / m * n := x
  obtain ⟨k, rfl⟩ : ∃ k : Nat, n = k := ⟨n.toNat, by omega⟩
  have fz : ∀ i, i < k → fl (a % m) (c % m) m i = 0 := fun i hi => by
    have u0 := fl_nn h1 h3 hm i
    rcases h with h | h
    · unfold fl
      rw [h, Int.zero_mul, Int.zero_add]
      exact Int.ediv_eq_zero_of_lt h3 h2
    · have := fl_mono (a := a % m) (c := c % m) h1 hm (show i ≤ k by omega)
      have e : fl (a % m) (c % m) m k = 0 := h
      omega
  rw [x', Int.toNat_natCast]
  have : S0 k (a % m) (c % m) m = 0 := by
    unfold S0
    rw [sm_congr (g := fun _ => 0) _ fz, sm_const, Int.zero_mul]
  rw [this]
  omega
end Tm

namespace Tm
theorem tot_foldl (ls : List Ly) : tot ls = ls.reverse.foldl (fun t l => lif l.n l.u l.s (mir l.n l.h t)) (0, 0, 0) := by
  rw [List.foldl_reverse]
  induction ls with
  | nil => rfl
  | cons l r ih =>
    show lif l.n l.u l.s (mir l.n l.h (tot r)) = _
    rw [ih]
    rfl
def tsum (r : List Ly) (i : Nat) : Int × Int × Int := (r.take i).foldl (fun t l => lif l.n l.u l.s (mir l.n l.h t)) (0, 0, 0)
theorem tsum_zero (r : List Ly) : tsum r 0 = (0, 0, 0) := rfl
theorem tsum_succ {r : List Ly} {i : Nat} {l : Ly} (h : r[i]? = some l) : tsum r (i + 1) = lif l.n l.u l.s (mir l.n l.h (tsum r i)) := by
  unfold tsum
  rw [List.take_add_one, h, List.foldl_append]
  rfl
theorem tsum_end (ls : List Ly) : tsum ls.reverse ls.reverse.length = tot ls := by
  unfold tsum
  rw [List.take_length, tot_foldl]
end Tm

namespace Tm
/-- the law's own turns end in time: i turns done -/
def Turn (i : Nat) (a m : Int) : Prop := ∀ k : Nat, (i = 2 * k → m * 2 ^ k < 2 ^ 180) ∧ (i = 2 * k + 1 → a * 2 ^ k < 2 ^ 180 ∧ m < a)
theorem turn_zero {a m : Int} (h : m < 2 ^ 180) : Turn 0 a m := fun k => ⟨fun e => by
  have : k = 0 := by omega
  subst this
  rw [Int.pow_zero, Int.mul_one]
  exact h, fun e => by omega⟩
theorem turn_succ {i : Nat} {a m : Int} (hm : 0 < m) (hr : 0 < a % m) (t : Turn i a m) : Turn (i + 1) m (a % m) := fun k => ⟨fun e => by
  obtain ⟨j, rfl⟩ : ∃ j, k = j + 1 := ⟨k - 1, by omega⟩
  obtain ⟨h1, h2⟩ := (t j).2 (by omega)
  have h3 := Int.mul_ediv_add_emod a m
  have h4 := Int.emod_lt_of_pos a hm
  have h5 : 1 ≤ a / m := Int.le_ediv_of_mul_le hm (by omega)
  have h6 : m * 1 ≤ m * (a / m) := Int.mul_le_mul_of_nonneg_left h5 (by omega)
  have h7 : (a % m) * 2 ≤ a := by omega
  have h8 : (0 : Int) ≤ 2 ^ j := Int.le_of_lt (Int.pow_pos (by decide))
  have h9 := Int.mul_le_mul_of_nonneg_right h7 h8
  have e2 : (2 : Int) ^ (j + 1) = 2 * 2 ^ j := by rw [Int.pow_succ, Int.mul_comm]
  rw [e2, ← Int.mul_assoc]
  omega, fun e => ⟨(t k).1 (by omega), Int.emod_lt_of_pos a hm⟩⟩
theorem turn_end {a m : Int} (hm : 0 < m) (t : Turn 400 a m) : False := by
  have h := (t 200).1 rfl
  have h2 : 1 * 2 ^ 200 ≤ m * 2 ^ 200 := Int.mul_le_mul_of_nonneg_right (show (1 : Int) ≤ m by omega) (by decide +kernel)
  have h3 : ((2 : Int) ^ 180 ≤ 1 * 2 ^ 200) := by decide +kernel
  omega
theorem sgn_area {f s x y z T : Int} (e : f + s * T = z) (h : T = x + y) : (f + s * x) + s * y = z := by
  rw [h, Int.mul_add] at e
  omega
theorem sgn_step {f s n h R S z : Int} (e : f + s * (n * h - R) = z) (hs : S = R) : (f + s * n * h) + (0 - s) * S = z := by
  rw [Int.mul_sub, ← Int.mul_assoc] at e
  rw [hs, Int.sub_mul, Int.zero_mul]
  omega
theorem high_le {n a c m : Int} (hm : 0 < m) (hn : 0 ≤ n) : 0 ≤ ((a % m) * n + c % m) / m ∧ ((a % m) * n + c % m) / m ≤ n := by
  have h1 := Int.emod_nonneg a (show m ≠ 0 by omega)
  have h2 := Int.emod_lt_of_pos a hm
  have h3 := Int.emod_nonneg c (show m ≠ 0 by omega)
  have h4 := Int.emod_lt_of_pos c hm
  refine ⟨Int.ediv_nonneg (by have := Int.mul_nonneg h1 hn; omega) (by omega), ?_⟩
  have : ((a % m) * n + c % m) / m < n + 1 := by
    refine (Int.ediv_lt_iff_lt_mul hm).mpr ?_
    have : (a % m) * n ≤ m * n := Int.mul_le_mul_of_nonneg_right (by omega) hn
    rw [Int.add_mul, Int.one_mul, Int.mul_comm n m]
    omega
  omega
end Tm
namespace Tm
theorem div_abs {x m B : Int} (hm : 0 < m) (h0 : 0 ≤ B) (h : -B ≤ x ∧ x ≤ B) : -B ≤ x / m ∧ x / m ≤ B := by
  have h1 : -B ≤ x / m := Int.le_ediv_of_mul_le hm (by
    have := Int.mul_le_mul_of_nonneg_left (show 1 ≤ m by omega) h0
    have e : -B * m = -(B * m) := Int.neg_mul _ _
    omega)
  have h2 : x / m < B + 1 := by
    refine (Int.ediv_lt_iff_lt_mul hm).mpr ?_
    have := Int.mul_le_mul_of_nonneg_left (show 1 ≤ m by omega) (show 0 ≤ B + 1 by omega)
    omega
  omega
theorem S0_abs {n : Nat} {a c m B : Int} (hm : 0 < m) (hB : 0 ≤ B) (h : ∀ i : Nat, i < n → -B ≤ a * i + c ∧ a * i + c ≤ B) : -(B * n) ≤ S0 n a c m ∧ S0 n a c m ≤ B * n :=
  sm_bound n fun i hi => div_abs hm hB (h i hi)
/-- crude: bits of the total -/
theorem S0_lt {n a c m : Int} {k : Nat} (hm : 0 < m) (hn : 0 ≤ n) (ka : a.natAbs < 2 ^ k) (kc : c.natAbs < 2 ^ k) (kn : n.natAbs < 2 ^ k) : (S0 n.toNat a c m).natAbs < 2 ^ (3 * k + 2) := by
  have hb : ∀ i : Nat, i < n.toNat → -(2 ^ (2 * k + 1) : Int) ≤ a * i + c ∧ a * i + c ≤ 2 ^ (2 * k + 1) := fun i hi => by
    have h1 : (a * i).natAbs ≤ 2 ^ k * 2 ^ k := by
      rw [Int.natAbs_mul]
      exact Nat.mul_le_mul (by omega) (by omega)
    have h2 : (2 : Nat) ^ (2 * k + 1) = 2 ^ k * 2 ^ k * 2 := by rw [Nat.pow_succ, Nat.two_mul, Nat.pow_add]
    have h3 : (((2 : Nat) ^ (2 * k + 1) : Nat) : Int) = 2 ^ (2 * k + 1) := by norm_cast
    have h4 : 2 ^ k ≤ 2 ^ k * 2 ^ k := Nat.le_mul_of_pos_left _ (Nat.pow_pos (by decide))
    omega
  obtain ⟨h1, h2⟩ := S0_abs (B := 2 ^ (2 * k + 1)) hm (Int.le_of_lt (Int.pow_pos (by decide))) hb
  have h3 : ((2 : Int) ^ (2 * k + 1)) * (n.toNat : Int) ≤ 2 ^ (2 * k + 1) * 2 ^ k := Int.mul_le_mul_of_nonneg_left (by
    have h3 : (((2 : Nat) ^ k : Nat) : Int) = 2 ^ k := by norm_cast
    omega) (Int.le_of_lt (Int.pow_pos (by decide)))
  have h5 : ((2 : Int) ^ (2 * k + 1) * 2 ^ k) = 2 ^ (3 * k + 1) := by rw [← Int.pow_add, show 2 * k + 1 + k = 3 * k + 1 by omega]
  have h6 : (((2 : Nat) ^ (3 * k + 1) : Nat) : Int) = 2 ^ (3 * k + 1) := by norm_cast
  have h7 : (2 : Nat) ^ (3 * k + 2) = 2 ^ (3 * k + 1) * 2 := Nat.pow_succ ..
  have h8 : 0 < (2 : Nat) ^ (3 * k + 1) := Nat.pow_pos (by decide)
  omega
end Tm

/-! Rests along lines: how many are 0, and periods. -/
namespace Tm
/-- how many i below n are hit -/
def cnt (a c m : Int) (n : Nat) : Int := sm (fun i => ind (decide ((a * (i : Int) + c) % m = 0))) n
def rs (a c m : Int) (i : Nat) : Int := (a * (i : Int) + c) % m
theorem rs_fl (a c m : Int) (i : Nat) : rs a c m i = a * (i : Int) + c - m * fl a c m i := by
  unfold rs fl
  exact Int.emod_def _ _
theorem rs_sum (a c m : Int) (n : Nat) : sm (rs a c m) n = a * half n + c * n - m * S0 n a c m := by
  rw [sm_congr n fun i _ => rs_fl a c m i, sm_sub, sm_mul]
  have e : sm (fun i => a * (i : Int) + c) n = a * half n + c * n := by rw [sm_add, sm_mul, sm_const, half_sm]
  rw [e]
  rfl
theorem neg_div {x m : Int} (hm : 0 < m) : (-x) / m = -(x / m) - 1 + ind (decide (x % m = 0)) := by
  have h1 := Int.emod_nonneg x (show m ≠ 0 by omega)
  have h2 := Int.emod_lt_of_pos x hm
  have h3 := Int.mul_ediv_add_emod x m
  unfold ind
  by_cases h : x % m = 0
  · rw [decide_eq_true h, if_pos rfl]
    have e : -x = -(x / m) * m := by rw [Int.neg_mul, Int.mul_comm (x / m)]; omega
    rw [e, Int.mul_ediv_cancel _ (by omega)]
    omega
  · rw [decide_eq_false h, if_neg (by decide)]
    have e : -x = (m - x % m) + (-(x / m) - 1) * m := by
      rw [Int.sub_mul, Int.neg_mul, Int.mul_comm (x / m)]
      omega
    rw [e, Int.add_mul_ediv_right _ _ (by omega), Int.ediv_eq_zero_of_lt (by omega) (by omega)]
    omega
theorem fl_neg {a c m : Int} (hm : 0 < m) (i : Nat) : fl (0 - a) (0 - c) m i = - fl a c m i - 1 + ind (decide ((a * (i : Int) + c) % m = 0)) := by
  unfold fl
  have e : (0 - a) * (i : Int) + (0 - c) = -(a * (i : Int) + c) := by
    have : (0 - a) * (i : Int) = -(a * i) := by rw [Int.zero_sub, Int.neg_mul]
    omega
  rw [e, neg_div hm]
theorem S0_neg {a c m : Int} (hm : 0 < m) (n : Nat) : S0 n (0 - a) (0 - c) m = - S0 n a c m - n + cnt a c m n := by
  unfold S0 cnt
  rw [sm_congr n fun i _ => fl_neg hm i, sm_add, sm_sub, sm_neg, sm_const]
  omega
theorem cnt_neg (a c m : Int) (n : Nat) : cnt (0 - a) (0 - c) m n = cnt a c m n := by
  unfold cnt
  refine sm_congr n fun i _ => ?_
  have e : (0 - a) * (i : Int) + (0 - c) = -(a * (i : Int) + c) := by
    have : (0 - a) * (i : Int) = -(a * i) := by rw [Int.zero_sub, Int.neg_mul]
    omega
  rw [e]
  have e3 : ∀ x : Int, decide ((-x) % m = 0) = decide (x % m = 0) := fun x => decide_eq_decide.mpr (by rw [← Int.dvd_iff_emod_eq_zero, ← Int.dvd_iff_emod_eq_zero, Int.dvd_neg])
  rw [e3]
theorem pred_div {x k : Int} (hk : 0 < k) : (x - 1) / k = x / k - ind (decide (x % k = 0)) := by
  have h1 := Int.emod_nonneg x (show k ≠ 0 by omega)
  have h2 := Int.emod_lt_of_pos x hk
  have h3 := Int.mul_ediv_add_emod x k
  unfold ind
  by_cases h : x % k = 0
  · rw [decide_eq_true h, if_pos rfl]
    have e : x - 1 = (k - 1) + (x / k - 1) * k := by rw [Int.sub_mul, Int.mul_comm (x / k)]; omega
    rw [e, Int.add_mul_ediv_right _ _ (by omega), Int.ediv_eq_zero_of_lt (by omega) (by omega)]
    omega
  · rw [decide_eq_false h, if_neg (by decide)]
    have e : x - 1 = (x % k - 1) + (x / k) * k := by rw [Int.mul_comm (x / k)]; omega
    rw [e, Int.add_mul_ediv_right _ _ (by omega), Int.ediv_eq_zero_of_lt (by omega) (by omega)]
    omega
/-- one in each period -/
theorem cnt_per {f k : Int} (hk : 0 < k) (hf : 0 ≤ f) (hfk : f < k) : ∀ n : Nat, sm (fun i => ind (decide (((i : Int) - f) % k = 0))) n = ((n : Int) - 1 - f) / k + 1
  | 0 => by
    show (0 : Int) = _
    have e : ((0 : Nat) : Int) - 1 - f = (k - 1 - f) + (-1) * k := by omega
    rw [e, Int.add_mul_ediv_right _ _ (by omega), Int.ediv_eq_zero_of_lt (by omega) (by omega)]
    omega
  | n + 1 => by
    show sm (fun i => ind (decide (((i : Int) - f) % k = 0))) n + ind (decide (((n : Int) - f) % k = 0)) = _
    rw [cnt_per hk hf hfk n]
    have e : ((n + 1 : Nat) : Int) - 1 - f = (n : Int) - f := by omega
    rw [e]
    have e2 : (n : Int) - 1 - f = (n : Int) - f - 1 := by omega
    rw [e2, pred_div hk]
    omega
/-- which i are hit: none, or one in each period -/
theorem cnt_none {a c m g : Int} (hga : g ∣ a) (hgm : g ∣ m) (h : c % g ≠ 0) (n : Nat) : cnt a c m n = 0 := by
  unfold cnt
  have e : ∀ i, i < n → ind (decide ((a * (i : Int) + c) % m = 0)) = 0 := fun i _ => by
    unfold ind
    rw [if_neg]
    intro z
    have z := of_decide_eq_true z
    have d : m ∣ a * (i : Int) + c := Int.dvd_of_emod_eq_zero z
    have d2 : g ∣ a * (i : Int) + c := Int.dvd_trans hgm d
    have d3 : g ∣ a * (i : Int) := Int.dvd_mul_of_dvd_left hga
    exact h (Int.emod_eq_zero_of_dvd ((Int.dvd_add_right d3).mp d2))
  rw [sm_congr n e, sm_const, Int.zero_mul]
theorem cnt_some {a c g k v : Int} (hg : 0 < g) (hk : 0 < k) (hv : (a * v) % k = 1 % k) (n : Nat) : cnt (g * a) (g * c) (g * k) n = ((n : Int) - 1 - (-c * v) % k) / k + 1 := by
  have f0 := Int.emod_nonneg (-c * v) (show k ≠ 0 by omega)
  have f1 := Int.emod_lt_of_pos (-c * v) hk
  rw [← cnt_per hk f0 f1]
  unfold cnt
  refine sm_congr n fun i _ => ?_
  congr 1
  refine decide_eq_decide.mpr ?_
  have e1 : g * a * (i : Int) + g * c = g * (a * i + c) := by rw [Int.mul_add, Int.mul_assoc]
  rw [e1, Int.mul_emod_mul_of_pos _ _ hg]
  have hd : k ∣ a * v - 1 := Int.dvd_of_emod_eq_zero (Int.emod_eq_emod_iff_emod_sub_eq_zero.mp hv)
  have s1 : g * ((a * i + c) % k) = 0 ↔ k ∣ a * i + c := by
    constructor
    · intro z
      rcases Int.mul_eq_zero.mp z with q | q
      · omega
      · exact Int.dvd_of_emod_eq_zero q
    · intro z
      rw [Int.emod_eq_zero_of_dvd z, Int.mul_zero]
  rw [s1]
  have s2 : ((i : Int) - (-c * v) % k) % k = 0 ↔ k ∣ (i : Int) + c * v := by
    have e : (i : Int) - (-c * v) % k = ((i : Int) + c * v) + ((-c * v) / k) * k := by
      have := Int.emod_def (-c * v) k
      rw [this, Int.mul_comm k, Int.neg_mul]
      omega
    rw [e, Int.add_mul_emod_self_right]
    exact ⟨Int.dvd_of_emod_eq_zero, Int.emod_eq_zero_of_dvd⟩
  rw [s2]
  constructor
  · intro z
    have z2 : k ∣ v * (a * i + c) := Int.dvd_mul_of_dvd_right z
    have e : v * (a * i + c) = ((i : Int) + c * v) + (a * v - 1) * i := by
      rw [Int.mul_add, Int.sub_mul, Int.one_mul, ← Int.mul_assoc, Int.mul_comm v a, Int.mul_comm v c]
      omega
    rw [e] at z2
    exact (Int.dvd_add_left (Int.dvd_mul_of_dvd_left hd)).mp z2
  · intro z
    have z2 : k ∣ a * ((i : Int) + c * v) := Int.dvd_mul_of_dvd_right z
    have e : a * ((i : Int) + c * v) = (a * i + c) + (a * v - 1) * c := by
      rw [Int.mul_add, Int.sub_mul, Int.one_mul, ← Int.mul_assoc a c v, Int.mul_comm a c, Int.mul_assoc c a v, Int.mul_comm c (a * v)]
      omega
    rw [e] at z2
    exact (Int.dvd_add_left (Int.dvd_mul_of_dvd_left hd)).mp z2
theorem gcd_dvd_l (a m : Int) : ((a.natAbs.gcd m.natAbs : Nat) : Int) ∣ a := by
  have h : ((Int.gcd a m : Nat) : Int) ∣ a := by first | exact Int.gcd_dvd_left .. | exact Int.gcd_dvd_left
  exact h
theorem gcd_dvd_r (a m : Int) : ((a.natAbs.gcd m.natAbs : Nat) : Int) ∣ m := by
  have h : ((Int.gcd a m : Nat) : Int) ∣ m := by first | exact Int.gcd_dvd_right .. | exact Int.gcd_dvd_right
  exact h
theorem pos_right {g k : Int} (hg : 0 < g) (h : 1 ≤ g * k) : 0 < k := Int.not_le.mp fun z => by
  have := Int.mul_le_mul_of_nonneg_left z (Int.le_of_lt hg)
  rw [Int.mul_zero] at this
  omega
theorem rs_square (a c m : Int) (n : Nat) : sm (fun i => rs a c m i * rs a c m i) n =
    (a * a * sixth n + 2 * a * c * half n + c * c * n) - 2 * m * (a * S1 n a c m + c * S0 n a c m) + m * m * S2 n a c m := by
  have e : ∀ i, i < n → rs a c m i * rs a c m i = (((a * a * ((i : Int) * i) + 2 * a * c * (i : Int)) + c * c) - 2 * m * (a * ((i : Int) * fl a c m i) + c * fl a c m i)) + m * m * (fl a c m i * fl a c m i) := fun i _ => by
    rw [rs_fl]
    generalize fl a c m i = f
    generalize (i : Int) = x
    simp only [Int.mul_add, Int.add_mul, Int.mul_sub, Int.sub_mul]
    have r1 : a * x * (a * x) = a * a * (x * x) := by rw [Int.mul_assoc, ← Int.mul_assoc x a x, Int.mul_comm x a, Int.mul_assoc a x x, ← Int.mul_assoc]
    have r2 : c * (a * x) = a * c * x := by rw [← Int.mul_assoc, Int.mul_comm c a]
    have r3 : a * x * c = a * c * x := by rw [Int.mul_assoc, Int.mul_comm x c, ← Int.mul_assoc]
    have r4 : m * f * (a * x) = m * (a * (x * f)) := by rw [Int.mul_assoc, ← Int.mul_assoc f a x, Int.mul_comm f a, Int.mul_assoc a f x, Int.mul_comm f x]
    have r5 : a * x * (m * f) = m * (a * (x * f)) := by rw [Int.mul_comm, r4]
    have r6 : m * f * c = m * (c * f) := by rw [Int.mul_assoc, Int.mul_comm f c]
    have r7 : c * (m * f) = m * (c * f) := by rw [Int.mul_comm, r6]
    have r8 : m * f * (m * f) = m * m * (f * f) := by rw [Int.mul_assoc, ← Int.mul_assoc f m f, Int.mul_comm f m, Int.mul_assoc m f f, ← Int.mul_assoc]
    have r9 : 2 * a * c * x = 2 * (a * c * x) := by rw [Int.mul_assoc 2 a c, Int.mul_assoc 2 (a * c) x]
    have r10 : 2 * m * (a * (x * f)) = 2 * (m * (a * (x * f))) := Int.mul_assoc ..
    have r11 : 2 * m * (c * f) = 2 * (m * (c * f)) := Int.mul_assoc ..
    rw [r1, r2, r3, r4, r5, r6, r7, r8, r9, r10, r11]
    omega
  rw [sm_congr n e, sm_add, sm_sub, sm_add, sm_add, sm_mul, sm_mul, sm_const, sm_mul, sm_add, sm_mul, sm_mul, sm_mul, half_sm, sixth_sm]
  rfl
theorem cnt_lt {n a c m : Int} {k : Nat} (hn : 0 ≤ n) (kn : n.natAbs < 2 ^ k) : (cnt a c m n.toNat).natAbs < 2 ^ k := by
  have : ∀ j : Nat, 0 ≤ cnt a c m j ∧ cnt a c m j ≤ j := by
    intro j
    induction j with
    | zero => exact ⟨Int.le_refl 0, Int.le_refl 0⟩
    | succ j ih =>
      have e : cnt a c m (j + 1) = cnt a c m j + ind (decide ((a * (j : Int) + c) % m = 0)) := rfl
      have h : 0 ≤ ind (decide ((a * (j : Int) + c) % m = 0)) ∧ ind (decide ((a * (j : Int) + c) % m = 0)) ≤ 1 := by
        unfold ind
        split <;> omega
      rw [e]
      omega
  have := this n.toNat
  omega
theorem fl_abs {n : Nat} {a c m B : Int} (hm : 0 < m) (hB : 0 ≤ B) (h : ∀ i : Nat, i < n → -B ≤ a * i + c ∧ a * i + c ≤ B) : ∀ i, i < n → (fl a c m i).natAbs ≤ B.natAbs := fun i hi => by
  have := div_abs hm hB (h i hi)
  unfold fl
  omega
theorem line_abs {n a c : Int} {k : Nat} (ka : a.natAbs < 2 ^ k) (kc : c.natAbs < 2 ^ k) (kn : n.natAbs < 2 ^ k) : ∀ i : Nat, i < n.toNat → -(2 ^ (2 * k + 1) : Int) ≤ a * i + c ∧ a * i + c ≤ 2 ^ (2 * k + 1) := fun i hi => by
  have h1 : (a * i).natAbs ≤ 2 ^ k * 2 ^ k := by
    rw [Int.natAbs_mul]
    exact Nat.mul_le_mul (by omega) (by omega)
  have h2 : (2 : Nat) ^ (2 * k + 1) = 2 ^ k * 2 ^ k * 2 := by rw [Nat.pow_succ, Nat.two_mul, Nat.pow_add]
  have h3 : (((2 : Nat) ^ (2 * k + 1) : Nat) : Int) = 2 ^ (2 * k + 1) := by norm_cast
  have h4 : 2 ^ k ≤ 2 ^ k * 2 ^ k := Nat.le_mul_of_pos_left _ (Nat.pow_pos (by decide))
  omega
theorem sm_nat {f : Nat → Int} {B : Nat} (n : Nat) (h : ∀ i, i < n → (f i).natAbs ≤ B) : (sm f n).natAbs ≤ B * n := by
  have := sm_bound (B := (B : Int)) n (f := f) fun i hi => by
    have := h i hi
    omega
  have e : (B : Int) * (n : Int) = ((B * n : Nat) : Int) := by norm_cast
  rw [e] at this
  omega
theorem pow_bits {k : Nat} : (2 : Nat) ^ (2 * k + 1) * 2 ^ k * 2 ^ k ≤ 2 ^ (4 * k + 1) ∧ (2 : Nat) ^ (2 * k + 1) * 2 ^ (2 * k + 1) * 2 ^ k ≤ 2 ^ (5 * k + 2) := by
  rw [← Nat.pow_add, ← Nat.pow_add, ← Nat.pow_add, ← Nat.pow_add]
  exact ⟨Nat.pow_le_pow_right (by decide) (by omega), Nat.pow_le_pow_right (by decide) (by omega)⟩
theorem S1_lt {n a c m : Int} {k : Nat} (hm : 0 < m) (hn : 0 ≤ n) (ka : a.natAbs < 2 ^ k) (kc : c.natAbs < 2 ^ k) (kn : n.natAbs < 2 ^ k) : (S1 n.toNat a c m).natAbs < 2 ^ (4 * k + 2) := by
  have hf := fl_abs (n := n.toNat) (a := a) (c := c) (m := m) hm (Int.le_of_lt (Int.pow_pos (by decide))) (line_abs ka kc kn)
  have e : ((2 : Int) ^ (2 * k + 1)).natAbs = 2 ^ (2 * k + 1) := by rw [Int.natAbs_pow]; rfl
  rw [e] at hf
  have h := sm_nat (f := fun i => (i : Int) * fl a c m i) (B := 2 ^ (2 * k + 1) * 2 ^ k) n.toNat fun i hi => by
    rw [Int.natAbs_mul, Nat.mul_comm]
    exact Nat.mul_le_mul (hf i hi) (by rw [Int.natAbs_natCast]; omega)
  have h2 : 2 ^ (2 * k + 1) * 2 ^ k * n.toNat ≤ 2 ^ (2 * k + 1) * 2 ^ k * 2 ^ k := Nat.mul_le_mul_left _ (by omega)
  have h3 := (pow_bits (k := k)).1
  have h4 : (2 : Nat) ^ (4 * k + 1) < 2 ^ (4 * k + 2) := Nat.pow_lt_pow_right (by decide) (by omega)
  unfold S1
  omega
theorem S2_lt {n a c m : Int} {k : Nat} (hm : 0 < m) (hn : 0 ≤ n) (ka : a.natAbs < 2 ^ k) (kc : c.natAbs < 2 ^ k) (kn : n.natAbs < 2 ^ k) : (S2 n.toNat a c m).natAbs < 2 ^ (5 * k + 3) := by
  have hf := fl_abs (n := n.toNat) (a := a) (c := c) (m := m) hm (Int.le_of_lt (Int.pow_pos (by decide))) (line_abs ka kc kn)
  have e : ((2 : Int) ^ (2 * k + 1)).natAbs = 2 ^ (2 * k + 1) := by rw [Int.natAbs_pow]; rfl
  rw [e] at hf
  have h := sm_nat (f := fun i => fl a c m i * fl a c m i) (B := 2 ^ (2 * k + 1) * 2 ^ (2 * k + 1)) n.toNat fun i hi => by
    rw [Int.natAbs_mul]
    exact Nat.mul_le_mul (hf i hi) (hf i hi)
  have h2 : 2 ^ (2 * k + 1) * 2 ^ (2 * k + 1) * n.toNat ≤ 2 ^ (2 * k + 1) * 2 ^ (2 * k + 1) * 2 ^ k := Nat.mul_le_mul_left _ (by omega)
  have h3 := (pow_bits (k := k)).2
  have h4 : (2 : Nat) ^ (5 * k + 2) < 2 ^ (5 * k + 3) := Nat.pow_lt_pow_right (by decide) (by omega)
  unfold S2
  omega
end Tm

/-! Rests over whole periods. -/
namespace Tm
theorem sm_pick (f : Nat → Int) (r : Nat) : ∀ k : Nat, r < k → sm (fun j => f j * ind (decide (r = j))) k = f r
  | 0, h => absurd h (Nat.not_lt_zero _)
  | k + 1, h => by
    show sm (fun j => f j * ind (decide (r = j))) k + f k * ind (decide (r = k)) = f r
    by_cases e : r = k
    · subst e
      have z : sm (fun j => f j * ind (decide (r = j))) r = sm (fun _ => 0) r := sm_congr _ fun j hj => by
        unfold ind
        rw [decide_eq_false (by omega), if_neg (by decide), Int.mul_zero]
      rw [z, sm_const]
      unfold ind
      rw [decide_eq_true rfl, if_pos rfl]
      omega
    · rw [sm_pick f r k (by omega)]
      unfold ind
      rw [decide_eq_false e, if_neg (by decide)]
      omega
theorem one_div {k f : Int} (hk : 0 < k) (f0 : 0 ≤ f) (f1 : f < k) (t : Int) : (k * t - 1 - f) / k + 1 = t := by
  have e : k * t - 1 - f = (k - 1 - f) + (t - 1) * k := by rw [Int.sub_mul, Int.mul_comm t]; omega
  rw [e, Int.add_mul_ediv_right _ _ (by omega), Int.ediv_eq_zero_of_lt (by omega) (by omega)]
  omega
/-- each rest once in a period -/
theorem perm_sum {a c v : Int} {k : Nat} (hk : 0 < k) (hv : (a * v) % k = 1 % k) (f : Nat → Int) : sm (fun i => f ((a * (i : Int) + c) % k).toNat) k = sm f k := by
  have e1 : ∀ i, i < k → f ((a * (i : Int) + c) % k).toNat = sm (fun j => f j * ind (decide (((a * (i : Int) + c) % k).toNat = j))) k := fun i _ => by
    have h1 := Int.emod_nonneg (a * (i : Int) + c) (show (k : Int) ≠ 0 by omega)
    have h2 := Int.emod_lt_of_pos (a * (i : Int) + c) (show 0 < (k : Int) by omega)
    rw [sm_pick f _ k (by omega)]
  rw [sm_congr k e1, sm_swap]
  refine sm_congr k fun j hj => ?_
  rw [sm_mul]
  have e2 : sm (fun i => ind (decide (((a * (i : Int) + c) % k).toNat = j))) k = cnt (1 * a) (1 * (c - j)) (1 * (k : Int)) k := by
    unfold cnt
    refine sm_congr k fun i _ => ?_
    have h1 := Int.emod_nonneg (a * (i : Int) + c) (show (k : Int) ≠ 0 by omega)
    have h2 := Int.emod_lt_of_pos (a * (i : Int) + c) (show 0 < (k : Int) by omega)
    congr 1
    refine decide_eq_decide.mpr ?_
    rw [Int.one_mul, Int.one_mul, Int.one_mul]
    have e3 : a * (i : Int) + (c - j) = (a * (i : Int) + c) - j := by omega
    rw [e3]
    constructor
    · intro z
      have z2 : (a * (i : Int) + c) % k = (j : Int) := by omega
      have z3 : (a * (i : Int) + c) % k = (j : Int) % k := by rw [z2, Int.emod_eq_of_lt (by omega) (by omega)]
      exact Int.emod_eq_emod_iff_emod_sub_eq_zero.mp z3
    · intro z
      have z3 : (a * (i : Int) + c) % k = (j : Int) % k := Int.emod_eq_emod_iff_emod_sub_eq_zero.mpr z
      rw [Int.emod_eq_of_lt (show (0 : Int) ≤ j by omega) (by omega)] at z3
      omega
  rw [e2, cnt_some (v := v) (by decide) (by omega) hv]
  have h3 := Int.emod_nonneg (-(c - j) * v) (show (k : Int) ≠ 0 by omega)
  have h4 := Int.emod_lt_of_pos (-(c - j) * v) (show 0 < (k : Int) by omega)
  have := one_div (k := (k : Int)) (by omega) h3 h4 1
  rw [Int.mul_one] at this
  rw [this, Int.mul_one]
theorem per_sum {g : Nat → Int} {k : Nat} (h : ∀ i, g (k + i) = g i) : ∀ t : Nat, sm g (k * t) = t * sm g k
  | 0 => by simp [sm]
  | t + 1 => by
    have e : k * (t + 1) = k + k * t := by rw [Nat.mul_add, Nat.mul_one, Nat.add_comm]
    rw [e, sm_app, sm_congr (k * t) fun i _ => h i, per_sum h t, Int.natCast_add, Int.add_mul]
    simp
    omega
/-- a rest is the least one and so many common factors -/
theorem rs_split {a c l g k : Int} (hg : 0 < g) (hk : 0 < k) (l0 : 0 ≤ l) (l1 : l < g) (i : Nat) : rs (g * a) (g * c + l) (g * k) i = l + g * ((a * (i : Int) + c) % k) := by
  unfold rs
  have e : g * a * (i : Int) + (g * c + l) = l + g * (a * i + c) := by rw [Int.mul_add, Int.mul_assoc]; omega
  rw [e]
  have h1 := Int.emod_nonneg (a * (i : Int) + c) (show k ≠ 0 by omega)
  have h2 := Int.emod_lt_of_pos (a * (i : Int) + c) hk
  have h3 := Int.mul_ediv_add_emod (a * (i : Int) + c) k
  generalize (a * (i : Int) + c) / k = q at *
  generalize (a * (i : Int) + c) % k = r at *
  rw [← h3]
  have e2 : l + g * (k * q + r) = (l + g * r) + g * k * q := by rw [Int.mul_add, ← Int.mul_assoc]; omega
  have h4 : g * r ≤ g * (k - 1) := Int.mul_le_mul_of_nonneg_left (by omega) (by omega)
  have h5 : 0 ≤ g * r := Int.mul_nonneg (by omega) h1
  rw [Int.mul_sub] at h4
  rw [e2, Int.add_mul_emod_self_left, Int.emod_eq_of_lt (by omega) (by omega)]
theorem rs_per {a c m : Int} {k i : Nat} (h : m ∣ a * (k : Int)) : rs a c m (k + i) = rs a c m i := by
  unfold rs
  obtain ⟨q, e⟩ := h
  rw [Int.natCast_add, Int.mul_add, e, Int.add_assoc, Int.add_comm, Int.add_mul_emod_self_left]
section
variable {a c l g v : Int} {k : Nat} (hg : 0 < g) (hk : 0 < k) (l0 : 0 ≤ l) (l1 : l < g) (hv : (a * v) % k = 1 % k) (t : Nat)
include hg hk l0 l1 hv
theorem rs_all (F : Int → Int) : sm (fun i => F (rs (g * a) (g * c + l) (g * k) i)) (k * t) = t * sm (fun j => F (l + g * (j : Int))) k := by
  rw [per_sum (k := k) fun i => by
    show F (rs _ _ _ (k + i)) = F (rs _ _ _ i)
    rw [rs_per ⟨a, by rw [Int.mul_assoc, Int.mul_assoc, Int.mul_comm a]⟩]]
  congr 1
  rw [← perm_sum (c := c) hk hv fun j => F (l + g * (j : Int))]
  refine sm_congr k fun i _ => ?_
  have h1 := Int.emod_nonneg (a * (i : Int) + c) (show (k : Int) ≠ 0 by omega)
  rw [rs_split hg (by omega) l0 l1, show ((((a * (i : Int) + c) % k).toNat : Nat) : Int) = (a * (i : Int) + c) % k by omega]
theorem rs_one : sm (rs (g * a) (g * c + l) (g * k)) (k * t) = t * (g * half k + l * k) := by
  have h := rs_all (c := c) hg hk l0 l1 hv t fun x => x
  rw [h, sm_add, sm_const, sm_mul, half_sm]
  congr 1
  omega
theorem rs_two : sm (fun i => rs (g * a) (g * c + l) (g * k) i * rs (g * a) (g * c + l) (g * k) i) (k * t) = t * (g * g * sixth k + l * l * k + g * l * k * ((k : Int) - 1)) := by
  have h := rs_all (c := c) hg hk l0 l1 hv t fun x => x * x
  rw [h]
  congr 1
  have e : ∀ j, j < k → (l + g * (j : Int)) * (l + g * (j : Int)) = (l * l + 2 * (g * l) * (j : Int)) + g * g * ((j : Int) * j) := fun j _ => by
    generalize (j : Int) = x
    simp only [Int.mul_add, Int.add_mul]
    have r1 : l * (g * x) = g * l * x := by rw [← Int.mul_assoc, Int.mul_comm l g]
    have r2 : g * x * l = g * l * x := by rw [Int.mul_assoc, Int.mul_comm x l, ← Int.mul_assoc]
    have r3 : g * x * (g * x) = g * g * (x * x) := by rw [Int.mul_assoc, ← Int.mul_assoc x g x, Int.mul_comm x g, Int.mul_assoc g x x, ← Int.mul_assoc]
    have r4 : 2 * (g * l) * x = 2 * (g * l * x) := Int.mul_assoc ..
    rw [r1, r2, r3, r4]
    omega
  rw [sm_congr k e, sm_add, sm_add, sm_const, sm_mul, sm_mul, half_sm, sixth_sm]
  have e2 : 2 * (g * l) * half k = g * l * k * ((k : Int) - 1) := by
    have h2 := sm_id k
    rw [half_sm] at h2
    rw [Int.mul_comm 2, Int.mul_assoc, h2, ← Int.mul_assoc]
  rw [e2]
  omega
theorem cnt_all : cnt (g * a) (g * c + l) (g * k) (k * t) = t * (if l = 0 then 1 else 0) := by
  by_cases h : l = 0
  · subst h
    rw [if_pos rfl, Int.add_zero, cnt_some (v := v) hg (by omega) hv]
    have h3 := Int.emod_nonneg (-c * v) (show (k : Int) ≠ 0 by omega)
    have h4 := Int.emod_lt_of_pos (-c * v) (show 0 < (k : Int) by omega)
    have := one_div (k := (k : Int)) (by omega) h3 h4 t
    rw [Int.natCast_mul, this, Int.mul_one]
  · rw [if_neg h, Int.mul_zero]
    refine cnt_none (g := g) ⟨a, rfl⟩ ⟨k, rfl⟩ ?_ _
    rw [Int.add_comm, Int.add_mul_emod_self_left, Int.emod_eq_of_lt l0 l1]
    exact h
end
end Tm
namespace Tm
theorem sum_range (f : Nat → Int) : ∀ n : Nat, ((List.range n).map f).sum = sm f n
  | 0 => rfl
  | n + 1 => by
    rw [List.range_succ, List.map_append, List.sum_append, sum_range f n]
    show sm f n + (f n + 0) = sm f n + f n
    omega
/-- how many are 0 -/
theorem cnt_filter (a c m : Int) : ∀ n : Nat, ((((List.range n).map (rs a c m)).filter fun x => decide (x = 0)).length : Int) = cnt a c m n
  | 0 => rfl
  | n + 1 => by
    rw [List.range_succ, List.map_append, List.filter_append, List.length_append, Int.natCast_add, cnt_filter a c m n]
    show cnt a c m n + ((List.filter (fun x => decide (x = 0)) [rs a c m n]).length : Int) = cnt a c m n + ind (decide ((a * (n : Int) + c) % m = 0))
    congr 1
    unfold ind
    by_cases h : (a * (n : Int) + c) % m = 0
    · rw [decide_eq_true h, if_pos rfl, List.filter_cons_of_pos (by show decide (rs a c m n = 0) = true; exact decide_eq_true h)]
      rfl
    · rw [decide_eq_false h, if_neg (by decide), List.filter_cons_of_neg (by show ¬ decide (rs a c m n = 0) = true; rw [decide_eq_true_iff]; exact h)]
      rfl
/-- the teeth of the rests -/
theorem teeth_filter (a c m : Int) : ∀ n : Nat, ((((List.range n).map (rs a c m)).filter fun x => !decide (x = 0)).map fun x => 2 * x - m).sum = 2 * sm (rs a c m) n - ((n : Int) - cnt a c m n) * m
  | 0 => by
    show (0 : Int) = 2 * 0 - (((0 : Nat) : Int) - 0) * m
    simp
  | n + 1 => by
    rw [List.range_succ, List.map_append, List.filter_append, List.map_append, List.sum_append, teeth_filter a c m n]
    show _ + (List.map (fun x => 2 * x - m) (List.filter (fun x => !decide (x = 0)) [rs a c m n])).sum = 2 * (sm (rs a c m) n + rs a c m n) - (((n + 1 : Nat) : Int) - (cnt a c m n + ind (decide ((a * (n : Int) + c) % m = 0)))) * m
    unfold ind
    by_cases h : (a * (n : Int) + c) % m = 0
    · have h' : rs a c m n = 0 := h
      rw [decide_eq_true h, if_pos rfl, List.filter_cons_of_neg (by rw [decide_eq_true h']; decide), h']
      show _ + (0 : Int) = _
      have e : ((n + 1 : Nat) : Int) - (cnt a c m n + 1) = (n : Int) - cnt a c m n := by omega
      rw [e]
      omega
    · have h' : ¬ rs a c m n = 0 := h
      rw [decide_eq_false h, if_neg (by decide), List.filter_cons_of_pos (by rw [decide_eq_false h']; rfl)]
      show _ + ((2 * rs a c m n - m) + 0) = _
      have e : ((n + 1 : Nat) : Int) - (cnt a c m n + 0) = ((n : Int) - cnt a c m n) + 1 := by omega
      rw [e, Int.add_mul]
      omega
end Tm
namespace Tm
theorem cnt_range (a c m : Int) : ∀ j : Nat, 0 ≤ cnt a c m j ∧ cnt a c m j ≤ j
  | 0 => ⟨Int.le_refl 0, Int.le_refl 0⟩
  | j + 1 => by
    have ih := cnt_range a c m j
    have e : cnt a c m (j + 1) = cnt a c m j + ind (decide ((a * (j : Int) + c) % m = 0)) := rfl
    have h : 0 ≤ ind (decide ((a * (j : Int) + c) % m = 0)) ∧ ind (decide ((a * (j : Int) + c) % m = 0)) ≤ 1 := by
      unfold ind
      split <;> omega
    rw [e]
    omega
theorem teeth_abs {a c m : Int} (hm : 0 < m) (n : Nat) : (2 * sm (rs a c m) n - ((n : Int) - cnt a c m n) * m).natAbs ≤ 3 * (m.natAbs * n) := by
  have h1 := sm_nat (f := rs a c m) (B := m.natAbs) n fun i _ => by
    have := Int.emod_nonneg (a * (i : Int) + c) (show m ≠ 0 by omega)
    have := Int.emod_lt_of_pos (a * (i : Int) + c) hm
    unfold rs
    omega
  have h2 := cnt_range a c m n
  have h3 : (((n : Int) - cnt a c m n) * m).natAbs ≤ m.natAbs * n := by
    rw [Int.natAbs_mul, Nat.mul_comm]
    exact Nat.mul_le_mul_left _ (by omega)
  omega
end Tm

/-! Digits of great numbers, put together. -/
namespace Tm
def dg (n : Nat) : List Char := Nat.toDigits 10 n
/-- with zeros in front, at least k signs -/
def pad (k n : Nat) : List Char := List.replicate (k - (dg n).length) '0' ++ dg n
theorem dg_step {n d : Nat} (hn : 0 < n) (hd : d < 10) : dg (10 * n + d) = dg n ++ dg d := (Nat.toDigits_append_toDigits (by decide) hn hd).symm
theorem dg_lt {d : Nat} (h : d < 10) : dg d = [d.digitChar] := Nat.toDigits_of_lt_base h
theorem dg_len_lt : ∀ (k n : Nat), n < 10 ^ (k + 1) → (dg n).length ≤ k + 1
  | 0, n, h => by
    rw [dg_lt (by simpa using h)]
    exact Nat.le_refl _
  | k + 1, n, h => by
    by_cases q : n < 10
    · rw [dg_lt q]
      simp
    · have e : n = 10 * (n / 10) + n % 10 := by omega
      have e2 : (10 : Nat) ^ (k + 1 + 1) = 10 ^ (k + 1) * 10 := Nat.pow_succ ..
      rw [e, dg_step (by omega) (by omega), List.length_append, dg_lt (show n % 10 < 10 by omega)]
      have := dg_len_lt k (n / 10) (by omega)
      simp only [List.length_cons, List.length_nil]
      omega
theorem pad_step {k r : Nat} (hr : r < 10 ^ (k + 2)) : pad (k + 2) r = pad (k + 1) (r / 10) ++ dg (r % 10) := by
  unfold pad
  by_cases q : r < 10
  · have e0 : r / 10 = 0 := by omega
    have e1 : r % 10 = r := by omega
    rw [e0, e1, dg_lt q, dg_lt (show 0 < 10 by decide)]
    simp only [List.length_cons, List.length_nil]
    rw [show k + 2 - (0 + 1) = k + 1 by omega, show k + 1 - (0 + 1) = k by omega, List.replicate_succ']
    rfl
  · have e : r = 10 * (r / 10) + r % 10 := by omega
    have e3 : dg r = dg (r / 10) ++ dg (r % 10) := by
      conv => lhs; rw [e]
      exact dg_step (by omega) (by omega)
    have e4 : (dg (r % 10)).length = 1 := by rw [dg_lt (by omega)]; rfl
    rw [e3, List.length_append, e4, show k + 2 - ((dg (r / 10)).length + 1) = k + 1 - (dg (r / 10)).length by omega, List.append_assoc]
theorem dg_pad {n : Nat} (hn : 0 < n) : ∀ (k r : Nat), r < 10 ^ (k + 1) → dg (n * 10 ^ (k + 1) + r) = dg n ++ pad (k + 1) r
  | 0, r, h => by
    have h' : r < 10 := by simpa using h
    have e : n * 10 ^ (0 + 1) + r = 10 * n + r := by
      rw [show (10 : Nat) ^ (0 + 1) = 10 from rfl]
      omega
    rw [e, dg_step hn h']
    unfold pad
    rw [dg_lt h']
    rfl
  | k + 1, r, h => by
    have e2 : (10 : Nat) ^ (k + 1 + 1) = 10 ^ (k + 1) * 10 := Nat.pow_succ ..
    have e : n * 10 ^ (k + 1 + 1) + r = 10 * (n * 10 ^ (k + 1) + r / 10) + r % 10 := by
      rw [e2, ← Nat.mul_assoc]
      omega
    have hp : 0 < n * 10 ^ (k + 1) := Nat.mul_pos hn (Nat.pow_pos (by decide))
    rw [e, dg_step (by omega) (by omega), dg_pad hn k (r / 10) (by omega), List.append_assoc, pad_step h]
theorem pad_len {k r : Nat} (h : r < 10 ^ (k + 1)) : (pad (k + 1) r).length = k + 1 := by
  unfold pad
  have := dg_len_lt k r h
  rw [List.length_append, List.length_replicate]
  omega
end Tm

namespace Tm
theorem opp_div {x k : Int} (hk : 0 < k) : (-x - 1) / k = -(x / k) - 1 := by
  have h0 := Int.mul_ediv_add_emod x k
  have h1 := Int.emod_nonneg x (show k ≠ 0 by omega)
  have h2 := Int.emod_lt_of_pos x hk
  have e : -x - 1 = (k - 1 - x % k) + (-(x / k) - 1) * k := by
    rw [Int.sub_mul, Int.neg_mul, Int.one_mul, Int.mul_comm (x / k) k]
    omega
  rw [e, Int.add_mul_ediv_right _ _ (by omega), Int.ediv_eq_zero_of_lt (by omega) (by omega)]
  omega
theorem S0_turned {n h a c m : Int} (ha : 0 < a) (h0 : 0 ≤ h) (eh : h = (a * n + c) / m) : S0 h.toNat m (m - c - 1 + a) a = n * h - S0 h.toNat m ((a * n + c) % m) a := by
  have e0 : m * h + (a * n + c) % m = a * n + c := by
    rw [eh]
    exact Int.mul_ediv_add_emod _ _
  generalize (a * n + c) % m = r at *
  unfold S0
  rw [← sm_rev (fl m (m - c - 1 + a) a) h.toNat]
  have e1 : sm (fun i => fl m (m - c - 1 + a) a (h.toNat - 1 - i)) h.toNat = sm (fun i => n - fl m r a i) h.toNat := sm_congr _ fun i hi => by
    unfold fl
    have e2 : ((h.toNat - 1 - i : Nat) : Int) = h - 1 - i := by omega
    have e3 : m * (h - 1 - (i : Int)) + (m - c - 1 + a) = (-(m * (i : Int) + r) - 1) + (n + 1) * a := by
      simp only [Int.mul_sub, Int.add_mul, Int.mul_one, Int.one_mul]
      rw [Int.mul_comm n a]
      omega
    rw [e2, e3, Int.add_mul_ediv_right _ _ (by omega), opp_div ha]
    omega
  rw [e1, sm_sub, sm_const, show ((h.toNat : Nat) : Int) = h by omega]
/-- one turn of a total of floors: the line's other axis -/
theorem floor_go {n a c m : Int} (hm : 0 < m) (hn : 0 ≤ n) (ha : 0 < a % m) : S0 n.toNat a c m = ((a / m) * half n + (c / m) * n) + S0 (((a % m) * n + c % m) / m).toNat m (((a % m) * n + c % m) % m) (a % m) := by
  obtain ⟨q0, _⟩ := high_le (a := a) (c := c) hm hn
  rw [area_step hm hn ha, S0_turned ha q0 rfl]
  omega
theorem floor_pos {n a c m : Int} (hm : 0 < m) (hn : 0 ≤ n) (h : ((a % m) * n + c % m) / m ≠ 0) : 0 < a % m := by
  have h1 := Int.emod_nonneg a (show m ≠ 0 by omega)
  have h3 := Int.emod_nonneg c (show m ≠ 0 by omega)
  have h4 := Int.emod_lt_of_pos c hm
  by_cases z : a % m = 0
  · rw [z, Int.zero_mul, Int.zero_add, Int.ediv_eq_zero_of_lt h3 h4] at h
    exact absurd rfl h
  · omega
end Tm

namespace Tm
/-! An inverse by remainders whose lower digits hold what the first number was multiplied by. -/
def IvN (a b B U L : Int) : Prop := ∃ r0 r1 s0 s1 : Int, U = r0 * B - s0 ∧ L = r1 * B + s1 ∧ 0 ≤ s0 ∧ 0 < s1 ∧ 0 ≤ r1 ∧ r1 < r0 ∧ r0 * s1 + r1 * s0 = b ∧ b ∣ (r0 + a * s0) ∧ b ∣ (r1 - a * s1) ∧ Int.gcd r0 r1 = Int.gcd a b
def IvE (a b B U L : Int) : Prop := ∃ g s t : Int, U = g * B + s - t ∧ L = t ∧ g * t = b ∧ 0 < t ∧ 0 < g ∧ b ∣ (g - a * s) ∧ (Int.gcd a b : Int) = g
theorem gcd_mod (x y : Int) : Int.gcd (x % y) y = Int.gcd x y := by
  have h := Int.mul_ediv_add_emod x y
  refine Nat.dvd_antisymm ?_ ?_
  · refine Int.dvd_gcd ?_ (Int.gcd_dvd_right ..)
    have h1 : ((Int.gcd (x % y) y : Nat) : Int) ∣ y * (x / y) := Int.dvd_trans (Int.gcd_dvd_right ..) (Int.dvd_mul_right ..)
    have h2 : ((Int.gcd (x % y) y : Nat) : Int) ∣ x % y := Int.gcd_dvd_left ..
    have h3 := Int.dvd_add h1 h2
    rwa [h] at h3
  · refine Int.dvd_gcd ?_ (Int.gcd_dvd_right ..)
    have h1 : ((Int.gcd x y : Nat) : Int) ∣ y * (x / y) := Int.dvd_trans (Int.gcd_dvd_right ..) (Int.dvd_mul_right ..)
    have h2 : ((Int.gcd x y : Nat) : Int) ∣ x := Int.gcd_dvd_left ..
    have h3 := Int.dvd_sub h2 h1
    have e : x - y * (x / y) = x % y := by omega
    rwa [e] at h3
theorem mul_ge {x y : Int} (hx : 1 ≤ x) (hy : 0 ≤ y) : y ≤ x * y := by
  have := Int.mul_le_mul_of_nonneg_right hx hy
  omega
theorem ivN_start {a b B : Int} (hb : 0 < b) : IvN a b B (b * B) (a % b * B + 1) := by
  have h1 := Int.emod_nonneg a (show b ≠ 0 by omega)
  have h2 := Int.emod_lt_of_pos a hb
  refine ⟨b, a % b, 0, 1, by omega, rfl, by omega, by omega, h1, h2, by omega, ⟨1, by omega⟩, ⟨-(a / b), ?_⟩, ?_⟩
  · have := Int.mul_ediv_add_emod a b
    rw [Int.mul_neg]
    omega
  · rw [Int.gcd_comm, gcd_mod]
theorem ivN_go {a b B U L : Int} (hb : 0 < b) (hB : 4 * b < B) (h : IvN a b B U L) (hl : b < L) : 0 < U % L ∧ 0 ≤ L % (U % L) ∧ L % (U % L) < L ∧ (IvN a b B (U % L) (L % (U % L)) ∨ IvE a b B (U % L) (L % (U % L))) := by
  obtain ⟨r0, r1, s0, s1, rfl, rfl, p1, p2, p3, p4, d, c0, c1, g⟩ := h
  have s1b : s1 ≤ b := by
    have h1 := mul_ge (x := r0) (y := s1) (by omega) (by omega)
    have h2 := Int.mul_nonneg p3 p1
    omega
  have q1 : 1 ≤ r1 := by
    rcases Int.lt_or_le r1 1 with z | z
    · have : r1 = 0 := by omega
      subst this
      omega
    · exact z
  have s0b : s0 ≤ b := by
    have h1 := mul_ge (x := r1) (y := s0) q1 p1
    have h2 := Int.mul_nonneg (show 0 ≤ r0 by omega) (show 0 ≤ s1 by omega)
    omega
  have LB : B ≤ r1 * B := mul_ge q1 (by omega)
  have e0 := Int.mul_ediv_add_emod r0 r1
  have m0 := Int.emod_nonneg r0 (show r1 ≠ 0 by omega)
  have m1 := Int.emod_lt_of_pos r0 (show 0 < r1 by omega)
  have k0 : 1 ≤ r0 / r1 := Int.le_ediv_of_mul_le (by omega) (by omega)
  generalize hk : r0 / r1 = k at *
  generalize hr : r0 % r1 = r2 at *
  have gg : Int.gcd r1 r2 = Int.gcd a b := by
    rw [← g, ← hr, Int.gcd_comm r1, gcd_mod]
  -- what is taken away
  have t0 : 0 < s0 + k * s1 := by
    have := mul_ge k0 (show 0 ≤ s1 by omega)
    omega
  have d2 : r1 * (s0 + k * s1) + r2 * s1 = b := by
    have e : r0 * s1 = r1 * (k * s1) + r2 * s1 := by
      rw [← e0, Int.add_mul, Int.mul_assoc]
    rw [Int.mul_add]
    omega
  have c2 : b ∣ (r2 + a * (s0 + k * s1)) := by
    obtain ⟨x, hx⟩ := c0
    obtain ⟨y, hy⟩ := c1
    refine ⟨x - k * y, ?_⟩
    have e1 : b * (x - k * y) = b * x - k * (b * y) := by
      rw [Int.mul_sub, ← Int.mul_assoc, ← Int.mul_assoc, Int.mul_comm b k]
    rw [e1, ← hx, ← hy, Int.mul_sub, Int.mul_add]
    have e2 : a * (k * s1) = k * (a * s1) := by rw [← Int.mul_assoc, Int.mul_comm a k, Int.mul_assoc]
    have e3 : k * r1 = r1 * k := Int.mul_comm _ _
    omega
  have t1 : s0 + k * s1 ≤ b := by
    have h1 := mul_ge (x := r1) (y := s0 + k * s1) q1 (by omega)
    have h2 := Int.mul_nonneg m0 (show 0 ≤ s1 by omega)
    omega
  generalize ht : s0 + k * s1 = s2 at *
  have eU : r0 * B - s0 = (r2 * B - s2) + k * (r1 * B + s1) := by
    rw [← e0, ← ht, Int.add_mul, Int.mul_add, ← Int.mul_assoc k, Int.mul_comm k r1]
    omega
  rcases Int.lt_or_le 0 r2 with z | z
  · have h1 := mul_ge (x := r2) (y := B) (by omega) (by omega)
    have h2 : r2 * B + B ≤ r1 * B := by
      have := Int.mul_le_mul_of_nonneg_right (show r2 + 1 ≤ r1 by omega) (show 0 ≤ B by omega)
      rw [Int.add_mul, Int.one_mul] at this
      exact this
    have u1 : (r0 * B - s0) % (r1 * B + s1) = r2 * B - s2 := by
      rw [eU, Int.add_mul_emod_self_right, Int.emod_eq_of_lt (by omega) (by omega)]
    rw [u1]
    have f0 := Int.mul_ediv_add_emod r1 r2
    have n0 := Int.emod_nonneg r1 (show r2 ≠ 0 by omega)
    have n1 := Int.emod_lt_of_pos r1 z
    have j0 : 1 ≤ r1 / r2 := Int.le_ediv_of_mul_le (by omega) (by omega)
    generalize hj : r1 / r2 = j at *
    generalize hr3 : r1 % r2 = r3 at *
    have g3 : Int.gcd r2 r3 = Int.gcd a b := by
      rw [← gg, ← hr3, Int.gcd_comm r2, gcd_mod]
    have d3 : r2 * (s1 + j * s2) + r3 * s2 = b := by
      have e : r1 * s2 = r2 * (j * s2) + r3 * s2 := by
        rw [← f0, Int.add_mul, Int.mul_assoc]
      rw [Int.mul_add]
      omega
    have c3 : b ∣ (r3 - a * (s1 + j * s2)) := by
      obtain ⟨x, hx⟩ := c1
      obtain ⟨y, hy⟩ := c2
      refine ⟨x - j * y, ?_⟩
      have e1 : b * (x - j * y) = b * x - j * (b * y) := by
        rw [Int.mul_sub, ← Int.mul_assoc, ← Int.mul_assoc, Int.mul_comm b j]
      rw [e1, ← hx, ← hy, Int.mul_add, Int.mul_add]
      have e2 : a * (j * s2) = j * (a * s2) := by rw [← Int.mul_assoc, Int.mul_comm a j, Int.mul_assoc]
      have e3 : j * r2 = r2 * j := Int.mul_comm _ _
      omega
    have w0 : 0 < s1 + j * s2 := by
      have := mul_ge j0 (show 0 ≤ s2 by omega)
      omega
    have w1 : s1 + j * s2 ≤ b := by
      have h1 := mul_ge (x := r2) (y := s1 + j * s2) (by omega) (by omega)
      have h2 := Int.mul_nonneg n0 (show 0 ≤ s2 by omega)
      omega
    generalize hw : s1 + j * s2 = s3 at *
    have eL : r1 * B + s1 = (r3 * B + s3) + j * (r2 * B - s2) := by
      rw [← f0, ← hw, Int.add_mul, Int.mul_sub, ← Int.mul_assoc j, Int.mul_comm j r2]
      omega
    have h3 := Int.mul_nonneg n0 (show 0 ≤ B by omega)
    have h4 : r3 * B + B ≤ r2 * B := by
      have := Int.mul_le_mul_of_nonneg_right (show r3 + 1 ≤ r2 by omega) (show 0 ≤ B by omega)
      rw [Int.add_mul, Int.one_mul] at this
      exact this
    have u2 : (r1 * B + s1) % (r2 * B - s2) = r3 * B + s3 := by
      rw [eL, Int.add_mul_emod_self_right, Int.emod_eq_of_lt (by omega) (by omega)]
    rw [u2]
    exact ⟨by omega, by omega, by omega, .inl ⟨r2, r3, s2, s3, rfl, rfl, by omega, w0, n0, n1, d3, c2, c3, g3⟩⟩
  · have z : r2 = 0 := by omega
    have u1 : (r0 * B - s0) % (r1 * B + s1) = r1 * B + s1 - s2 := by
      have e : r0 * B - s0 = (r1 * B + s1 - s2) + (k - 1) * (r1 * B + s1) := by
        rw [eU, z, Int.zero_mul, Int.sub_mul, Int.one_mul]
        omega
      rw [e, Int.add_mul_emod_self_right, Int.emod_eq_of_lt (by omega) (by omega)]
    have u2 : (r1 * B + s1) % (r1 * B + s1 - s2) = s2 := by
      have yB : B ≤ r1 * B + s1 := by omega
      generalize r1 * B + s1 = y at *
      have e : y = s2 + 1 * (y - s2) := by omega
      conv => lhs; lhs; rw [e]
      rw [Int.add_mul_emod_self_right, Int.emod_eq_of_lt (by omega) (by omega)]
    rw [u1, u2]
    refine ⟨by omega, by omega, by omega, .inr ⟨r1, s1, s2, by omega, rfl, ?_, t0, by omega, c1, ?_⟩⟩
    · rw [z, Int.zero_mul] at d2
      omega
    · rw [← gg, z, Int.gcd_zero_right]
      omega
theorem ivE_end {a b B U L : Int} (h : IvE a b B U L) : L ≤ b := by
  obtain ⟨g, s, t, _, rfl, e, h1, h2, _⟩ := h
  have := mul_ge (x := g) (y := L) (by omega) (by omega)
  omega
theorem mul_one_eq {g t : Int} (ht : 0 < t) (h : g * t = t) : g = 1 := by
  have : (g - 1) * t = 0 := by
    rw [Int.sub_mul, Int.one_mul]
    omega
  rcases Int.mul_eq_zero.mp this with z | z <;> omega
theorem iv_fin {a b B U L : Int} (hb : 0 < b) (hB : 4 * b < B) (h : IvN a b B U L ∨ IvE a b B U L) (hl : ¬ b < L) :
    (L = b → Int.gcd a b = 1 ∧ b ∣ (a * ((U - B) % b) - 1)) ∧ (Int.gcd a b = 1 → L = b) := by
  have key : ∀ v x : Int, b ∣ (1 - a * v) → x % b = v % b → b ∣ (a * (x % b) - 1) := fun v x h e => by
    rw [e]
    obtain ⟨y, hy⟩ := h
    refine ⟨-y - a * (v / b), ?_⟩
    have h1 := Int.mul_ediv_add_emod v b
    have h2 : a * v = a * (b * (v / b)) + a * (v % b) := by rw [← Int.mul_add, h1]
    have h3 : b * (a * (v / b)) = a * (b * (v / b)) := by rw [← Int.mul_assoc, Int.mul_comm b a, Int.mul_assoc]
    rw [Int.mul_sub, Int.mul_neg, h3]
    omega
  rcases h with ⟨r0, r1, s0, s1, rfl, rfl, p1, p2, p3, p4, d, c0, c1, g⟩ | ⟨g, s, t, rfl, rfl, e, h1, h2, c, eg⟩
  · have z : r1 = 0 := by
      rcases Int.lt_or_le 0 r1 with z | z
      · have := mul_ge (x := r1) (y := B) (by omega) (by omega)
        omega
      · omega
    subst z
    rw [Int.zero_mul, Int.add_zero] at d
    rw [Int.gcd_zero_right] at g
    refine ⟨fun el => ?_, fun eg => ?_⟩
    · have e1 : r0 = 1 := mul_one_eq p2 (by omega)
      subst e1
      refine ⟨by omega, key (-s0) _ ?_ ?_⟩
      · rw [Int.mul_neg]
        have : (1 : Int) - -(a * s0) = 1 + a * s0 := by omega
        rw [this]
        exact c0
      · congr 1
        omega
    · have : r0 = 1 := by omega
      subst this
      omega
  · refine ⟨fun el => ?_, fun z => ?_⟩
    · have e1 : g = 1 := mul_one_eq h1 (by omega)
      subst e1
      refine ⟨by omega, key s _ c ?_⟩
      have e2 : 1 * B + s - L - B = s + (-1) * b := by omega
      rw [e2, Int.add_mul_emod_self_right]
    · have : g = 1 := by omega
      subst this
      omega
theorem inv_ex {a b : Int} (hb : 0 < b) (h : a.natAbs.gcd b.natAbs = 1) : ∃ v, 0 ≤ v ∧ v < b ∧ b ∣ a * v - 1 := by
  obtain ⟨g, h1, _⟩ := last_rem (a := a) hb
  have e := last_is_gcd hb h1
  have : g = 1 := by
    rw [e, h]
    rfl
  subst this
  exact ⟨_, inverse_right hb h1 _ rfl⟩
theorem inv_unique {a b v w : Int} (hb : 0 < b) (v0 : 0 ≤ v) (v1 : v < b) (w0 : 0 ≤ w) (w1 : w < b) (hv : b ∣ (a * v - 1)) (hw : b ∣ (a * w - 1)) : v = w := by
  have h : b ∣ (v - w) := by
    obtain ⟨x, hx⟩ := hv
    obtain ⟨y, hy⟩ := hw
    refine ⟨v * -y + w * x, ?_⟩
    have e1 : b * (v * -y + w * x) = w * (b * x) - v * (b * y) := by
      rw [Int.mul_add, Int.mul_neg, Int.mul_neg, ← Int.mul_assoc b v, ← Int.mul_assoc b w, Int.mul_comm b v, Int.mul_comm b w, Int.mul_assoc v, Int.mul_assoc w]
      omega
    rw [e1, ← hx, ← hy, Int.mul_sub, Int.mul_sub]
    have e2 : w * (a * v) = v * (a * w) := by rw [Int.mul_left_comm, Int.mul_comm w v, Int.mul_left_comm]
    omega
  obtain ⟨k, hk⟩ := h
  rcases Int.lt_trichotomy k 0 with z | z | z
  · have := Int.mul_le_mul_of_nonneg_left (show k ≤ -1 by omega) (show 0 ≤ b by omega)
    omega
  · subst z
    omega
  · have := Int.mul_le_mul_of_nonneg_left (show 1 ≤ k by omega) (show 0 ≤ b by omega)
    omega
end Tm

namespace Tm
/-! Sums of teeth: what Euclid's steps tell of them. -/
theorem six_sixth (n : Nat) : 6 * sixth n = (n : Int) * ((n : Int) - 1) * (2 * (n : Int) - 1) := by
  rw [← sixth_sm, sm_sq]
theorem two_half (n : Nat) : 2 * half n = (n : Int) * ((n : Int) - 1) := by
  rw [← half_sm, sm_id]
/-- 12 b s(a, b) of a coprime pair -/
def T1 (a b : Int) : Int := 2 * a * (b - 1) * (2 * b - 1) - 3 * b * (b - 1) - 12 * S1 b.toNat a 0 b
theorem T1_lift {a b u : Int} (hb : 0 < b) : T1 (a + u * b) b = T1 a b := by
  obtain ⟨n, rfl⟩ : ∃ n : Nat, b = n := ⟨b.toNat, by omega⟩
  have h := S1_lift (n := n) (a := a) (c := 0) (m := n) (u := u) (v := 0) (by omega)
  rw [Int.zero_mul, Int.zero_add] at h
  have s := six_sixth n
  unfold T1
  rw [Int.toNat_natCast, h]
  grind
theorem T1_mod {a b : Int} (hb : 0 < b) : T1 (a % b) b = T1 a b := by
  have e : a = a % b + a / b * b := by have := Int.emod_add_mul_ediv a b; rw [Int.mul_comm b] at this; omega
  conv => rhs; rw [e]
  rw [T1_lift hb]
theorem T1_zero : T1 0 1 = 0 := by decide +kernel
theorem cop_ndvd {p q j : Nat} (hg : Nat.gcd p q = 1) (j0 : 0 < j) (j1 : j < p) : ((q : Int) * (j : Int)) % (p : Int) ≠ 0 := by
  intro z
  have h : (p : Int) ∣ (q : Int) * (j : Int) := Int.dvd_of_emod_eq_zero z
  rw [← Int.natCast_mul, Int.natCast_dvd_natCast] at h
  have := Nat.le_of_dvd j0 (Nat.Coprime.dvd_of_dvd_mul_left hg h)
  omega
theorem inv_of_gcd {p q : Nat} (hp : 0 < p) (hg : Nat.gcd p q = 1) : ∃ v : Int, ((q : Int) * v) % (p : Int) = 1 % (p : Int) := by
  obtain ⟨v, _, _, h⟩ := inv_ex (a := q) (b := p) (by omega) (by rw [Int.natAbs_natCast, Int.natAbs_natCast, Nat.gcd_comm]; exact hg)
  exact ⟨v, (Int.emod_eq_emod_iff_emod_sub_eq_zero.mpr (Int.emod_eq_zero_of_dvd h))⟩
theorem rs_zero_sq {p q : Nat} (hp : 0 < p) (hg : Nat.gcd p q = 1) : sm (fun i => rs q 0 p i * rs q 0 p i) p = sixth p ∧ sm (rs q 0 p) p = half p := by
  obtain ⟨v, hv⟩ := inv_of_gcd hp hg
  have cast : ∀ i : Nat, ((((q : Int) * (i : Int) + 0) % (p : Int)).toNat : Int) = rs q 0 p i := fun i => by
    have := Int.emod_nonneg ((q : Int) * (i : Int) + 0) (show (p : Int) ≠ 0 by omega)
    unfold rs
    omega
  have h1 := perm_sum (a := q) (c := 0) (v := v) (k := p) hp hv (fun j => (j : Int) * j)
  have h2 := perm_sum (a := q) (c := 0) (v := v) (k := p) hp hv (fun j => (j : Int))
  simp only [cast] at h1 h2
  exact ⟨h1.trans (sixth_sm p), h2.trans (half_sm p)⟩
/-- the sums of a coprime pair and of the exchanged one -/
theorem T1_recip {p q : Nat} (hp : 0 < p) (hpq : p < q) (hg : Nat.gcd p q = 1) : (p : Int) * T1 p q + q * T1 q p = p * p + q * q + 1 - 3 * (p * q) := by
  obtain ⟨n, rfl⟩ : ∃ n, q = n + 1 := ⟨q - 1, by omega⟩
  obtain ⟨h, rfl⟩ : ∃ h, p = h + 1 := ⟨p - 1, by omega⟩
  have hm := mirror (a := ((h + 1 : Nat) : Int)) (c := 0) (m := ((n + 1 : Nat) : Int)) (n := n) (h := h) (by omega) (by omega) (by omega)
    (fun i hi => by
      unfold fl
      have : (((h + 1 : Nat) : Int) * i + 0) / ((n + 1 : Nat) : Int) < ((h + 1 : Nat) : Int) := by
        refine Int.ediv_lt_of_lt_mul (by omega) ?_
        have := Int.mul_lt_mul_of_pos_left (show (i : Int) < ((n + 1 : Nat) : Int) by omega) (show 0 < ((h + 1 : Nat) : Int) by omega)
        omega
      omega)
    (fun j hj => by
      unfold fl
      have h0 : 0 ≤ (((n + 1 : Nat) : Int) * j + (((n + 1 : Nat) : Int) - 0 - 1)) / ((h + 1 : Nat) : Int) := Int.ediv_nonneg (by have := Int.mul_nonneg (show 0 ≤ ((n + 1 : Nat) : Int) by omega) (show 0 ≤ (j : Int) by omega); omega) (by omega)
      have h1 : (((n + 1 : Nat) : Int) * j + (((n + 1 : Nat) : Int) - 0 - 1)) / ((h + 1 : Nat) : Int) < ((n + 1 : Nat) : Int) := by
        refine Int.ediv_lt_of_lt_mul (by omega) ?_
        have := Int.mul_le_mul_of_nonneg_left (show (j : Int) + 1 ≤ ((h + 1 : Nat) : Int) by omega) (show 0 ≤ ((n + 1 : Nat) : Int) by omega)
        rw [Int.mul_add] at this
        omega
      omega)
  obtain ⟨m0, m1, _⟩ := hm
  -- the mirror's floors are those of the exchanged line, one further
  have sh : ∀ j, j < h → fl ((n + 1 : Nat) : Int) (((n + 1 : Nat) : Int) - 0 - 1) ((h + 1 : Nat) : Int) j = fl ((n + 1 : Nat) : Int) 0 ((h + 1 : Nat) : Int) (1 + j) := fun j hj => by
    unfold fl
    have nd := cop_ndvd (q := n + 1) hg (j := 1 + j) (by omega) (by omega)
    have e : ((n + 1 : Nat) : Int) * (j : Int) + (((n + 1 : Nat) : Int) - 0 - 1) = ((n + 1 : Nat) : Int) * ((1 + j : Nat) : Int) - 1 := by
      rw [Int.natCast_add 1 j, Int.mul_add]
      omega
    rw [e, pred_div (by omega), Int.add_zero]
    rw [show ind (decide (((n + 1 : Nat) : Int) * ((1 + j : Nat) : Int) % ((h + 1 : Nat) : Int) = 0)) = 0 by rw [decide_eq_false nd]; rfl]
    omega
  have z0 : fl ((n + 1 : Nat) : Int) 0 ((h + 1 : Nat) : Int) 0 = 0 := by
    unfold fl
    rw [Int.natCast_zero, Int.mul_zero, Int.zero_add]
    exact Int.zero_ediv _
  have a0 : S0 (h + 1) ((n + 1 : Nat) : Int) 0 ((h + 1 : Nat) : Int) = S0 h ((n + 1 : Nat) : Int) (((n + 1 : Nat) : Int) - 0 - 1) ((h + 1 : Nat) : Int) := by
    unfold S0
    rw [show h + 1 = 1 + h by omega, sm_app]
    rw [show 1 + h = h + 1 by omega]
    rw [sm_congr (f := fl ((n + 1 : Nat) : Int) (((n + 1 : Nat) : Int) - 0 - 1) ((h + 1 : Nat) : Int)) h sh]
    show 0 + fl _ 0 _ 0 + _ = _
    rw [z0]
    omega
  have a1 : S1 (h + 1) ((n + 1 : Nat) : Int) 0 ((h + 1 : Nat) : Int) = S1 h ((n + 1 : Nat) : Int) (((n + 1 : Nat) : Int) - 0 - 1) ((h + 1 : Nat) : Int) + S0 h ((n + 1 : Nat) : Int) (((n + 1 : Nat) : Int) - 0 - 1) ((h + 1 : Nat) : Int) := by
    unfold S1 S0
    rw [show h + 1 = 1 + h by omega, sm_app]
    rw [show 1 + h = h + 1 by omega, ← sm_add]
    rw [sm_congr (f := fun i => (i : Int) * fl ((n + 1 : Nat) : Int) (((n + 1 : Nat) : Int) - 0 - 1) ((h + 1 : Nat) : Int) i + fl ((n + 1 : Nat) : Int) (((n + 1 : Nat) : Int) - 0 - 1) ((h + 1 : Nat) : Int) i) (g := fun i => ((1 + i : Nat) : Int) * fl ((n + 1 : Nat) : Int) 0 ((h + 1 : Nat) : Int) (1 + i)) h (fun j hj => by
      rw [sh j hj, Int.natCast_add 1 j, Int.add_mul]
      omega)]
    show 0 + ((0 : Nat) : Int) * fl _ 0 _ 0 + _ = _
    rw [z0]
    omega
  have a2 : S2 (h + 1) ((n + 1 : Nat) : Int) 0 ((h + 1 : Nat) : Int) = S2 h ((n + 1 : Nat) : Int) (((n + 1 : Nat) : Int) - 0 - 1) ((h + 1 : Nat) : Int) := by
    unfold S2
    rw [show h + 1 = 1 + h by omega, sm_app]
    rw [show 1 + h = h + 1 by omega]
    rw [sm_congr (f := fun i => fl ((n + 1 : Nat) : Int) (((n + 1 : Nat) : Int) - 0 - 1) ((h + 1 : Nat) : Int) i * fl ((n + 1 : Nat) : Int) (((n + 1 : Nat) : Int) - 0 - 1) ((h + 1 : Nat) : Int) i) (g := fun i => fl ((n + 1 : Nat) : Int) 0 ((h + 1 : Nat) : Int) (1 + i) * fl ((n + 1 : Nat) : Int) 0 ((h + 1 : Nat) : Int) (1 + i)) h (fun j hj => by rw [sh j hj])]
    show 0 + fl _ 0 _ 0 * fl _ 0 _ 0 + _ = _
    rw [z0]
    omega
  -- all remainders
  obtain ⟨r2, r1⟩ := rs_zero_sq (p := h + 1) (q := n + 1) (by omega) hg
  rw [rs_sum] at r1
  rw [rs_square] at r2
  have s6 := six_sixth (h + 1)
  have s2 := two_half (h + 1)
  unfold T1
  rw [Int.toNat_natCast, Int.toNat_natCast]
  generalize S1 (n + 1) ((h + 1 : Nat) : Int) 0 ((n + 1 : Nat) : Int) = X at *
  rw [← a0] at m0 a1 m1
  rw [← a2] at m1
  clear a2 a0 sh z0 hg m0
  have m2 : 2 * X = (h : Int) * (((n : Int) + 1) * n) - S2 (h + 1) ((n + 1 : Nat) : Int) 0 ((h + 1 : Nat) : Int) - S0 (h + 1) ((n + 1 : Nat) : Int) 0 ((h + 1 : Nat) : Int) := m1
  generalize S0 (h + 1) ((n + 1 : Nat) : Int) 0 ((h + 1 : Nat) : Int) = B0 at *
  generalize S1 (h + 1) ((n + 1 : Nat) : Int) 0 ((h + 1 : Nat) : Int) = B1 at *
  generalize S2 (h + 1) ((n + 1 : Nat) : Int) 0 ((h + 1 : Nat) : Int) = B2 at *
  clear m1 a1
  generalize half ((h + 1 : Nat) : Int) = hh at *
  generalize sixth ((h + 1 : Nat) : Int) = ss at *
  rw [show ((n + 1 : Nat) : Int) = (n : Int) + 1 by omega, show ((h + 1 : Nat) : Int) = (h : Int) + 1 by omega] at *
  have hp0 : (h : Int) + 1 ≠ 0 := by omega
  generalize (n : Int) = n at *
  generalize (h : Int) = h at *
  -- multiplied by p
  simp only [Int.zero_mul, Int.mul_zero, Int.add_zero] at r1 r2
  clear hp hpq
  rename_i right
  clear right
  have k0 : 2 * B0 = n * h := by
    have : (h + 1) * (2 * B0) = (h + 1) * (n * h) := by
      have e := congrArg (n * ·) s2
      clear s6 r2 m2 s2
      grind
    exact Int.eq_of_mul_eq_mul_left hp0 this
  have k2 : 6 * (h + 1) * B2 = 12 * (n + 1) * B1 + h * (2 * h + 1) * (1 - (n + 1) * (n + 1)) := by
    have : (h + 1) * (6 * (h + 1) * B2) = (h + 1) * (12 * (n + 1) * B1 + h * (2 * h + 1) * (1 - (n + 1) * (n + 1))) := by
      have e := congrArg ((1 - (n + 1) * (n + 1)) * ·) s6
      clear s2 r1 m2 k0 s6
      grind
    exact Int.eq_of_mul_eq_mul_left hp0 this
  clear r1 r2 s2 s6 hp0
  grind
end Tm

namespace Tm
/-! Sums of teeth by Euclid's steps. -/
def gc (a b : Int) : Int := (Int.gcd a b : Nat)
/-- 12 b s(a, b) of a pair -/
def TT (a b : Int) : Int := gc a b * T1 (a / gc a b) (b / gc a b)
theorem gc_pos {a b : Int} (hb : 0 < b) : 0 < gc a b := by
  have : 0 < Int.gcd a b := Int.gcd_pos_of_ne_zero_right _ (by omega)
  unfold gc
  omega
theorem gc_mod {a b : Int} : gc (a % b) b = gc a b := by
  unfold gc
  rw [gcd_mod]
theorem gc_comm {a b : Int} : gc a b = gc b a := by
  unfold gc
  rw [Int.gcd_comm]
theorem gc_l (a b : Int) : gc a b ∣ a := Int.gcd_dvd_left ..
theorem gc_r (a b : Int) : gc a b ∣ b := Int.gcd_dvd_right ..
/-- a pair over its common factor -/
theorem gc_parts {a b : Int} (hb : 0 < b) : ∃ x y : Int, a = gc a b * x ∧ b = gc a b * y ∧ 0 < y ∧ a / gc a b = x ∧ b / gc a b = y ∧ gc x y = 1 := by
  have g0 := gc_pos (a := a) hb
  obtain ⟨x, hx⟩ := gc_l a b
  obtain ⟨y, hy⟩ := gc_r a b
  have ex : a / gc a b = x := by conv => lhs; lhs; rw [hx]
                                 exact Int.mul_ediv_cancel_left _ (by omega)
  have ey : b / gc a b = y := by conv => lhs; lhs; rw [hy]
                                 exact Int.mul_ediv_cancel_left _ (by omega)
  have y0 : 0 < y := by
    rcases Int.lt_or_le 0 y with z | z
    · exact z
    · have := Int.mul_le_mul_of_nonneg_left z (show 0 ≤ gc a b by omega)
      omega
  refine ⟨x, y, hx, hy, y0, ex, ey, ?_⟩
  have e : Int.gcd (gc a b * x) (gc a b * y) = (gc a b).natAbs * Int.gcd x y := Int.gcd_mul_left ..
  rw [← hx, ← hy] at e
  have e2 : (gc a b).natAbs = Int.gcd a b := by unfold gc; exact Int.natAbs_natCast _
  rw [e2] at e
  have g1 : 0 < Int.gcd a b := by unfold gc at g0; omega
  have : Int.gcd x y = 1 := by
    have h : Int.gcd a b * 1 = Int.gcd a b * Int.gcd x y := by omega
    exact (Nat.eq_of_mul_eq_mul_left g1 h).symm
  unfold gc
  rw [this]
  rfl
theorem TT_mod {a b : Int} (hb : 0 < b) : TT (a % b) b = TT a b := by
  unfold TT
  rw [gc_mod]
  obtain ⟨x, y, hx, hy, y0, ex, ey, _⟩ := gc_parts (a := a) hb
  have g0 := gc_pos (a := a) hb
  rw [ex, ey]
  have e : a % b / gc a b = x % y := by
    have : a % b = gc a b * (x % y) := by
      have t := Int.mul_emod_mul_of_pos x y g0
      rw [← hx, ← hy] at t
      exact t
    rw [this, Int.mul_ediv_cancel_left _ (by omega)]
  rw [e, T1_mod y0]
theorem TT_zero {b : Int} (hb : 0 < b) : TT 0 b = 0 := by
  have e : gc 0 b = b := by
    unfold gc
    rw [Int.gcd_zero_left]
    omega
  unfold TT
  rw [e, Int.zero_ediv, Int.ediv_self (by omega), T1_zero, Int.mul_zero]
theorem T1_rec {p q : Int} (hp : 0 < p) (hpq : p < q) (hg : gc p q = 1) : p * T1 p q + q * T1 q p = p * p + q * q + 1 - 3 * (p * q) := by
  obtain ⟨m, rfl⟩ : ∃ m : Nat, p = m := ⟨p.toNat, by omega⟩
  obtain ⟨n, rfl⟩ : ∃ n : Nat, q = n := ⟨q.toNat, by omega⟩
  exact T1_recip (by omega) (by omega) (by unfold gc at hg; have : Int.gcd (m : Int) (n : Int) = 1 := by omega
                                           exact this)
theorem TT_rec {l u : Int} (hl : 0 < l) (hlu : l < u) : l * TT l u + u * TT u l = l * l + u * u + gc l u * gc l u - 3 * (l * u) := by
  obtain ⟨x, y, hx, hy, y0, ex, ey, h1⟩ := gc_parts (a := l) (b := u) (by omega)
  have g0 := gc_pos (a := l) (b := u) (by omega)
  have e1 : TT l u = gc l u * T1 x y := by
    unfold TT
    rw [ex, ey]
  have e2 : TT u l = gc l u * T1 y x := by
    unfold TT
    rw [gc_comm, ex, ey]
  rw [e1, e2]
  generalize hg : gc l u = g at *
  subst hx
  subst hy
  have x0 : 0 < x := by
    rcases Int.lt_or_le 0 x with z | z
    · exact z
    · have := Int.mul_le_mul_of_nonneg_left z (show 0 ≤ g by omega)
      omega
  have xy : x < y := by
    rcases Int.lt_or_le x y with z | z
    · exact z
    · have := Int.mul_le_mul_of_nonneg_left z (show 0 ≤ g by omega)
      omega
  have r := T1_rec x0 xy h1
  clear hlu hl y0 x0 xy h1 ex ey e1 e2 hg
  grind
def Fd (l u : Int) : Int := TT l u - l
/-- two of Euclid's steps -/
theorem F_two {u l : Int} (hl : 0 < l) (hlu : l < u) (hu : 0 < u % l) : Fd l u * (u % l) = (u / l - l / (u % l)) * u * (u % l) + u * Fd (l % (u % l)) (u % l) - (u / l) * (gc l u * gc l u) := by
  have r1 := TT_rec hl hlu
  have r2 := TT_rec hu (Int.emod_lt_of_pos u hl)
  have g2 : gc (u % l) l = gc l u := by rw [gc_mod, gc_comm]
  rw [g2, TT_mod hl] at r2
  have m1 : TT l (u % l) = TT (l % (u % l)) (u % l) := (TT_mod hu).symm
  rw [m1] at r2
  have d1 := Int.mul_ediv_add_emod u l
  have d2 := Int.mul_ediv_add_emod l (u % l)
  unfold Fd
  generalize TT l u = X at *
  generalize TT u l = Y at *
  generalize TT (l % (u % l)) (u % l) = Z at *
  generalize gc l u = g at *
  generalize l % (u % l) = l' at *
  generalize l / (u % l) = j at *
  generalize u % l = u' at *
  generalize u / l = k at *
  clear g2 m1 hlu hu
  have : l * ((X - l) * u') = l * ((k - j) * u * u' + u * (Z - l') - k * (g * g)) := by grind
  exact Int.eq_of_mul_eq_mul_left (by omega) this
def fo : List Int → Int × Int → Int × Int
  | [], s => s
  | q :: qs, s => fo qs (s.2, q * s.2 + s.1)
def alts : List Int → Int
  | [] => 0
  | q :: qs => q - alts qs
/-- what the steps keep -/
structure StI (A B g alt bef las u l : Int) : Prop where
  hF : Fd A B * u = alt * B * u + B * Fd l u - bef * (g * g)
  hB : B = las * u + bef * l
  hg : gc l u = g
  l0 : 0 ≤ l
  lu : l < u
  b0 : 0 ≤ bef
  s0 : 0 < las
  bs : bef ≤ las
  a0 : -las ≤ alt
  a1 : alt ≤ bef
  d1 : B ∣ (l - las * A)
  d2 : B ∣ (u + bef * A)
  xr : alts (quos B A) = alt + alts (quos u l) ∧ fo (quos B A) (0, 1) = fo (quos u l) (bef, las) ∧ (quos B A).length % 2 = (quos u l).length % 2
theorem StI.start {A B : Int} (h0 : 0 ≤ A) (h1 : A < B) : StI A B (gc A B) 0 0 1 B A :=
  ⟨by simp [Int.zero_mul]; grind, by omega, rfl, h0, h1, by omega, by omega, by omega, by omega, by omega, ⟨0, by omega⟩, ⟨1, by omega⟩, (Int.zero_add _).symm, rfl, rfl⟩
theorem StI.las_le {A B g alt bef las u l : Int} (h : StI A B g alt bef las u l) : las ≤ B ∧ u ≤ B := by
  have := h.hB
  have h1 := Int.mul_nonneg h.b0 h.l0
  have h2 := mul_ge (x := u) (y := las) (by have := h.l0; have := h.lu; omega) (by have := h.s0; omega)
  have h3 := mul_ge (x := las) (y := u) (by have := h.s0; omega) (by have := h.l0; have := h.lu; omega)
  rw [Int.mul_comm] at h2
  omega
theorem go_F {X Y Z B alt bef las u l g k j u' : Int} (hF : X * u = alt * B * u + B * Y - bef * (g * g)) (hB : B = las * u + bef * l) (e1 : l * k + u' = u) (F : Y * u' = (k - j) * u * u' + u * Z - k * (g * g)) :
    u * (X * u') = u * ((alt + k - j) * B * u' + B * Z - (bef + k * las) * (g * g)) := by
  have a3 : B * k + bef * u' = (bef + k * las) * u := by
    clear hF F
    subst hB
    subst e1
    grind
  calc u * (X * u') = u' * (X * u) := by clear hF hB e1 F a3; grind
    _ = u' * (alt * B * u + B * Y - bef * (g * g)) := by rw [hF]
    _ = alt * B * u * u' + B * (Y * u') - bef * (g * g) * u' := by clear hF hB e1 F a3; grind
    _ = alt * B * u * u' + B * ((k - j) * u * u' + u * Z - k * (g * g)) - bef * (g * g) * u' := by rw [F]
    _ = u * ((alt + k - j) * B * u') + u * (B * Z) - (g * g) * (B * k + bef * u') := by clear hF hB e1 F a3; grind
    _ = u * ((alt + k - j) * B * u') + u * (B * Z) - (g * g) * ((bef + k * las) * u) := by rw [a3]
    _ = u * ((alt + k - j) * B * u' + B * Z - (bef + k * las) * (g * g)) := by clear hF hB e1 F a3; grind
theorem go_B {B bef las u l k j u' l' : Int} (hB : B = las * u + bef * l) (e1 : l * k + u' = u) (e2 : u' * j + l' = l) : B = (las + j * (bef + k * las)) * u' + (bef + k * las) * l' := by
  subst e1
  subst e2
  rw [hB]
  clear hB
  grind
theorem go_l {A B bef las u l k j u' l' x y : Int} (hx : l - las * A = B * x) (hy : u + bef * A = B * y) (e1 : l * k + u' = u) (e2 : u' * j + l' = l) : l' - (las + j * (bef + k * las)) * A = B * (x - j * (y - k * x)) := by
  have : B * (x - j * (y - k * x)) = B * x - j * (B * y - k * (B * x)) := by grind
  rw [this, ← hx, ← hy]
  clear this hx hy
  subst e1
  have : l' = l - u' * j := by omega
  rw [this]
  clear this e2
  grind
theorem go_u {A B bef las u l k u' x y : Int} (hx : l - las * A = B * x) (hy : u + bef * A = B * y) (e1 : l * k + u' = u) : u' + (bef + k * las) * A = B * (y - k * x) := by
  have : B * (y - k * x) = B * y - k * (B * x) := by grind
  rw [this, ← hx, ← hy]
  clear this hx hy
  subst e1
  grind
theorem StI.go {A B g alt bef las u l : Int} (h : StI A B g alt bef las u l) (hl : 0 < l) (hu : 0 < u % l) :
    StI A B g (alt + u / l - l / (u % l)) (bef + u / l * las) (las + l / (u % l) * (bef + u / l * las)) (u % l) (l % (u % l)) := by
  obtain ⟨hF, hB, hg, l0, lu, b0, s0, bs, a0, a1, d1, d2, x1, x2, x3⟩ := h
  have y1 : alts (quos u l) = u / l - (l / (u % l) - alts (quos (u % l) (l % (u % l)))) := by rw [quos_pos hl, quos_pos hu]; rfl
  have y2 : fo (quos u l) (bef, las) = fo (quos (u % l) (l % (u % l))) (bef + u / l * las, las + l / (u % l) * (bef + u / l * las)) := by
    rw [quos_pos hl, quos_pos hu]
    show fo _ (u / l * las + bef, l / (u % l) * (u / l * las + bef) + las) = _
    rw [Int.add_comm (u / l * las) bef, Int.add_comm _ las]
  have y3 : (quos u l).length = (quos (u % l) (l % (u % l))).length + 1 + 1 := by rw [quos_pos hl, quos_pos hu]; rfl
  have xr : alts (quos B A) = (alt + u / l - l / (u % l)) + alts (quos (u % l) (l % (u % l))) ∧ fo (quos B A) (0, 1) = fo (quos (u % l) (l % (u % l))) (bef + u / l * las, las + l / (u % l) * (bef + u / l * las)) ∧ (quos B A).length % 2 = (quos (u % l) (l % (u % l))).length % 2 := ⟨by omega, x2.trans y2, by omega⟩
  clear x1 x2 x3 y1 y2 y3
  have F := F_two hl lu hu
  rw [hg] at F
  have g3 : gc (l % (u % l)) (u % l) = g := by rw [gc_mod, gc_comm, gc_mod, gc_comm, hg]
  have e1 := Int.mul_ediv_add_emod u l
  have e2 := Int.mul_ediv_add_emod l (u % l)
  have n0 := Int.emod_nonneg l (show u % l ≠ 0 by omega)
  have n1 := Int.emod_lt_of_pos l hu
  have k0 : 1 ≤ u / l := Int.le_ediv_of_mul_le (by omega) (by omega)
  have ml := Int.emod_lt_of_pos u hl
  have j0 : 1 ≤ l / (u % l) := Int.le_ediv_of_mul_le (by omega) (by omega)
  generalize l % (u % l) = l' at *
  generalize l / (u % l) = j at *
  generalize u % l = u' at *
  generalize u / l = k at *
  have p1 := mul_ge k0 (show 0 ≤ las by omega)
  have q1 : 0 ≤ bef + k * las := by omega
  have p2 := mul_ge j0 q1
  have p3 : k ≤ k * las := by
    have := mul_ge (x := las) (y := k) (by omega) (by omega)
    rw [Int.mul_comm] at this
    exact this
  have p4 : j ≤ j * (bef + k * las) := by
    have := mul_ge (x := bef + k * las) (y := j) (by omega) (by omega)
    rw [Int.mul_comm] at this
    exact this
  have hu0 : u ≠ 0 := by omega
  refine ⟨?_, ?_, g3, n0, n1, q1, by omega, by omega, by omega, by omega, ?_, ?_, xr⟩
  · exact Int.eq_of_mul_eq_mul_left hu0 (go_F hF hB e1 F)
  · exact go_B hB e1 e2
  · obtain ⟨x, hx⟩ := d1
    obtain ⟨y, hy⟩ := d2
    exact ⟨x - j * (y - k * x), go_l hx hy e1 e2⟩
  · obtain ⟨x, hx⟩ := d1
    obtain ⟨y, hy⟩ := d2
    exact ⟨y - k * x, go_u hx hy e1⟩
/-- what the steps tell -/
structure StO (A B m f c t : Int) : Prop where
  hT : (m + t) * B + A + f * c = TT A B
  hc : gc A B = c
  hd : B ∣ (c - f * A)
  f0 : -B ≤ f
  f1 : f ≤ B
  m0 : -B ≤ m
  m1 : m ≤ 2 * B
  t0 : t = -3 ∨ t = 0
  xo : m = alts (quos B A) ∧ (((quos B A).length % 2 = 0 ∧ f = -(fo (quos B A) (0, 1)).1 ∧ t = 0) ∨ ((quos B A).length % 2 = 1 ∧ f = (fo (quos B A) (0, 1)).1 ∧ t = -3))
theorem TT_unit {l k : Int} (hl : 0 < l) (hk : 1 < k) : TT l (l * k) = l * (k * k - 3 * k + 2) := by
  have r := TT_rec (l := l) (u := l * k) hl (by have := Int.mul_lt_mul_of_pos_left hk hl; omega)
  have g : gc l (l * k) = l := by
    unfold gc
    have : Int.gcd (l * 1) (l * k) = l.natAbs * Int.gcd 1 k := Int.gcd_mul_left ..
    rw [Int.mul_one, Int.gcd_one_left] at this
    rw [this]
    omega
  have z : TT (l * k) l = 0 := by
    rw [← TT_mod hl, Int.mul_emod_right, TT_zero hl]
  rw [g, z] at r
  have : l * TT l (l * k) = l * (l * (k * k - 3 * k + 2)) := by grind
  exact Int.eq_of_mul_eq_mul_left (by omega) this
theorem StI.endA {A B g alt bef las u l : Int} (h : StI A B g alt bef las u l) (hc : gc A B = g) (hl : 0 < l) (hu : u % l = 0) : StO A B (alt + u / l) las l (-3) := by
  have lb := h.las_le
  obtain ⟨hF, hB, hg, l0, lu, b0, s0, bs, a0, a1, d1, d2, x1, x2, x3⟩ := h
  have xo : alt + u / l = alts (quos B A) ∧ (((quos B A).length % 2 = 0 ∧ las = -(fo (quos B A) (0, 1)).1 ∧ (-3 : Int) = 0) ∨ ((quos B A).length % 2 = 1 ∧ las = (fo (quos B A) (0, 1)).1 ∧ (-3 : Int) = -3)) := by
    rw [quos_pos hl, hu, quos_nil (a := l) (b := 0) (by decide)] at x1 x2 x3
    rw [x1, x2, x3]
    exact ⟨by simp only [alts]; omega, .inr ⟨rfl, rfl, rfl⟩⟩
  clear x1 x2 x3
  have e1 := Int.mul_ediv_add_emod u l
  rw [hu, Int.add_zero] at e1
  have k1 : 1 < u / l := by
    rcases Int.lt_or_le 1 (u / l) with z | z
    · exact z
    · have := Int.mul_le_mul_of_nonneg_left z (show 0 ≤ l by omega)
      omega
  have gl : g = l := by
    rw [← hg]
    have := gc_mod (a := u) (b := l)
    rw [hu] at this
    rw [gc_comm, ← this]
    unfold gc
    rw [Int.gcd_zero_left]
    omega
  have ku : u / l ≤ u := by
    have := mul_ge (x := l) (y := u / l) (by omega) (by omega)
    omega
  have tu : Fd l u = l * (u / l * (u / l) - 3 * (u / l) + 2) - l := by
    unfold Fd
    rw [← TT_unit hl k1, e1]
  rw [tu] at hF
  subst gl
  generalize u / g = k at *
  have hTd : TT A B = Fd A B + A := by unfold Fd; omega
  refine ⟨?_, hc, d1, by omega, by omega, by omega, by omega, .inl rfl, xo⟩
  rw [hTd]
  generalize Fd A B = X at *
  have hu0 : u ≠ 0 := by omega
  have : u * X = u * ((alt + k - 3) * B + las * g) := by
    clear lb b0 s0 bs a0 a1 d1 d2 k1 ku hu0 hTd tu hg hc l0 lu hl hu
    grind
  have := Int.eq_of_mul_eq_mul_left hu0 this
  rw [this]
  grind
theorem StI.endB {A B g alt bef las u : Int} (h : StI A B g alt bef las u 0) (hc : gc A B = g) : StO A B alt (-bef) u 0 := by
  have lb := h.las_le
  obtain ⟨hF, hB, hg, l0, lu, b0, s0, bs, a0, a1, d1, d2, x1, x2, x3⟩ := h
  have xo : alt = alts (quos B A) ∧ (((quos B A).length % 2 = 0 ∧ -bef = -(fo (quos B A) (0, 1)).1 ∧ (0 : Int) = 0) ∨ ((quos B A).length % 2 = 1 ∧ -bef = (fo (quos B A) (0, 1)).1 ∧ (0 : Int) = -3)) := by
    rw [quos_nil (a := u) (b := 0) (by decide)] at x1 x2 x3
    rw [x1, x2, x3]
    exact ⟨by simp only [alts]; omega, .inl ⟨rfl, rfl, rfl⟩⟩
  clear x1 x2 x3
  have gu : g = u := by
    rw [← hg]
    unfold gc
    rw [Int.gcd_zero_left]
    omega
  have fz : Fd 0 u = 0 := by
    unfold Fd
    rw [TT_zero lu]
    rfl
  rw [fz] at hF
  subst gu
  have hTd : TT A B = Fd A B + A := by unfold Fd; omega
  refine ⟨?_, hc, ?_, by omega, by omega, by omega, by omega, .inr rfl, xo⟩
  · rw [hTd]
    generalize Fd A B = X at *
    have : g * X = g * (alt * B - bef * g) := by grind
    have := Int.eq_of_mul_eq_mul_left (by omega) this
    rw [this]
    grind
  · obtain ⟨y, hy⟩ := d2
    exact ⟨y, by rw [← hy]; grind⟩
end Tm

namespace Tm
/-! Euclid's steps with packed remainders. -/
theorem sti_ex {A B g : Int} (hc : gc A B = g) : ∀ (n : Nat) {alt bef las u l : Int}, l.toNat ≤ n → StI A B g alt bef las u l → ∃ m f c t, StO A B m f c t := by
  intro n
  induction n with
  | zero =>
    intro alt bef las u l hn S
    have l0 := S.l0
    have z : l = 0 := by omega
    subst z
    exact ⟨_, _, _, _, S.endB hc⟩
  | succ n ih =>
    intro alt bef las u l hn S
    have l0 := S.l0
    rcases Int.lt_or_eq_of_le l0 with hl | z
    · have hu0 := Int.emod_nonneg u (show l ≠ 0 by omega)
      rcases Int.lt_or_eq_of_le hu0 with hu | hu
      · have lt := Int.emod_lt_of_pos l hu
        have lt2 := Int.emod_lt_of_pos u hl
        exact ih (by omega) (S.go hl hu)
      · exact ⟨_, _, _, _, S.endA hc hl hu.symm⟩
    · subst z
      exact ⟨_, _, _, _, S.endB hc⟩
theorem sto_ex {A B : Int} (h0 : 0 ≤ A) (h1 : A < B) : ∃ m f c t, StO A B m f c t := sti_ex rfl A.toNat (Nat.le_refl _) (StI.start h0 h1)
def Pk (A B Bt g alt U L : Int) : Prop := ∃ u l s0 s1 : Int, U = u * Bt - s0 ∧ L = l * Bt + s1 ∧ StI A B g alt s0 s1 u l
structure PkE (A B Bt g alt U L : Int) : Prop where
  w0 : U ≤ g * Bt
  w1 : g * Bt ≤ U + B
  L0 : 0 < L
  LB : L ≤ B
  g0 : 0 < g
  gB : g ≤ B
  LG : L * g = B
  hT : alt * B + A + (U - g * Bt) * g = TT A B
  a0 : -B ≤ alt
  a1 : alt ≤ B
theorem dm {x y q r : Int} (h : x = r + q * y) (h0 : 0 ≤ r) (h1 : r < y) : x / y = q ∧ x % y = r := by
  subst h
  refine ⟨?_, ?_⟩
  · rw [Int.add_mul_ediv_right _ _ (by omega), Int.ediv_eq_zero_of_lt h0 h1, Int.zero_add]
  · rw [Int.add_mul_emod_self_right, Int.emod_eq_of_lt h0 h1]
theorem pk_start {A B Bt : Int} (h0 : 0 ≤ A) (h1 : A < B) : Pk A B Bt (gc A B) 0 (B * Bt) (A * Bt + 1) := ⟨B, A, 0, 1, by omega, rfl, StI.start h0 h1⟩
theorem pk_e {TA alt k s0 s1 g A B Y : Int} (hF : (TA - A) * (k * g) = alt * B * (k * g) + B * Y - s0 * (g * g)) (hB : B = s1 * (k * g) + s0 * g) (hY : Y = g * (k * k - 3 * k + 2) - g) (n0 : k * g ≠ 0) :
    (alt + (k - 1) - 1) * B + A + (s1 - (s0 + k * s1)) * g = TA := by
  have : (k * g) * ((alt + (k - 1) - 1) * B + A + (s1 - (s0 + k * s1)) * g) = (k * g) * TA := by
    have e : (k * g) * TA = (alt * B * (k * g) + B * Y - s0 * (g * g)) + (k * g) * A := by
      rw [← hF]
      clear hF hB hY n0
      grind
    rw [e, hY]
    clear e hF hY n0
    subst hB
    grind
  exact Int.eq_of_mul_eq_mul_left n0 this
theorem pk_go {A B Bt g alt U L : Int} (hB : 4 * B < Bt) (h : Pk A B Bt g alt U L) (hl : 2 * Bt ≤ L) (hg : gc A B = g) :
    0 < U % L ∧ 0 ≤ L % (U % L) ∧ L % (U % L) < L ∧ (Pk A B Bt g (alt + U / L - L / (U % L)) (U % L) (L % (U % L)) ∨ PkE A B Bt g (alt + U / L - L / (U % L)) (U % L) (L % (U % L))) := by
  obtain ⟨u, l, s0, s1, rfl, rfl, S⟩ := h
  have sl := S.las_le
  have sb := S.bs
  have sp := S.s0
  have sn := S.b0
  have l1 : 1 ≤ l := by
    rcases Int.lt_or_le l 1 with z | z
    · have := Int.mul_le_mul_of_nonneg_right (show l ≤ 0 by omega) (show 0 ≤ Bt by omega)
      omega
    · exact z
  have lu := S.lu
  have e0 := Int.mul_ediv_add_emod u l
  have m0 := Int.emod_nonneg u (show l ≠ 0 by omega)
  have m1 := Int.emod_lt_of_pos u (show 0 < l by omega)
  have k0 : 1 ≤ u / l := Int.le_ediv_of_mul_le (by omega) (by omega)
  have LB : Bt ≤ l * Bt := mul_ge l1 (by omega)
  rcases Int.lt_or_le 0 (u % l) with z | z
  · have S2 := S.go (by omega) z
    have sl2 := S2.las_le
    have sb2 := S2.bs
    have sp2 := S2.s0
    have sn2 := S2.b0
    have f0 := Int.mul_ediv_add_emod l (u % l)
    have n0 := Int.emod_nonneg l (show u % l ≠ 0 by omega)
    have n1 := Int.emod_lt_of_pos l z
    generalize hk : u / l = k at *
    generalize hj : l / (u % l) = j at *
    generalize hl3 : l % (u % l) = l' at *
    generalize hu3 : u % l = u' at *
    have h1 := mul_ge (x := u') (y := Bt) (by omega) (by omega)
    have h2 : u' * Bt + Bt ≤ l * Bt := by
      have := Int.mul_le_mul_of_nonneg_right (show u' + 1 ≤ l by omega) (show 0 ≤ Bt by omega)
      rw [Int.add_mul, Int.one_mul] at this
      exact this
    have eU : u * Bt - s0 = (u' * Bt - (s0 + k * s1)) + k * (l * Bt + s1) := by
      rw [← e0]
      clear S S2 hk hj hl3 hu3 h1 h2 f0
      grind
    have dU := dm eU (by omega) (by omega)
    rw [dU.1, dU.2]
    have h3 := Int.mul_nonneg n0 (show 0 ≤ Bt by omega)
    have h4 : l' * Bt + Bt ≤ u' * Bt := by
      have := Int.mul_le_mul_of_nonneg_right (show l' + 1 ≤ u' by omega) (show 0 ≤ Bt by omega)
      rw [Int.add_mul, Int.one_mul] at this
      exact this
    have eL : l * Bt + s1 = (l' * Bt + (s1 + j * (s0 + k * s1))) + j * (u' * Bt - (s0 + k * s1)) := by
      conv => lhs; rw [← f0]
      clear S S2 hk hj hl3 hu3 h1 h2 f0 eU dU
      grind
    have dL := dm eL (by omega) (by omega)
    rw [dL.1, dL.2]
    exact ⟨by omega, by omega, by omega, .inl ⟨u', l', _, _, rfl, rfl, S2⟩⟩
  · have z : u % l = 0 := by omega
    rw [z, Int.add_zero] at e0
    have gl : g = l := by
      have h1 := S.hg
      have := gc_mod (a := u) (b := l)
      rw [z] at this
      rw [← h1, gc_comm, ← this]
      unfold gc
      rw [Int.gcd_zero_left]
      omega
    have k1 : 1 < u / l := by
      rcases Int.lt_or_le 1 (u / l) with z | z
      · exact z
      · have := Int.mul_le_mul_of_nonneg_left z (show 0 ≤ l by omega)
        omega
    have tu : Fd l u = l * (u / l * (u / l) - 3 * (u / l) + 2) - l := by
      unfold Fd
      rw [← TT_unit (by omega) k1, e0]
    have hF := S.hF
    have hBB := S.hB
    have aa0 := S.a0
    have aa1 := S.a1
    generalize Fd l u = Y at *
    generalize hk : u / l = k at *
    subst gl
    have tB : (s0 + k * s1) * g = B := by
      rw [hBB, ← e0]
      clear hF hBB tu S hk
      grind
    have t0 : 0 < s0 + k * s1 := by
      have := mul_ge k0 (show 0 ≤ s1 by omega)
      omega
    have t1 : s0 + k * s1 ≤ B := by
      have := mul_ge (x := g) (y := s0 + k * s1) (by omega) (by omega)
      rw [Int.mul_comm g] at this
      omega
    have k2 : s1 ≤ (k - 1) * s1 := mul_ge (by omega) (by omega)
    have k3 : (k - 1) * s1 = k * s1 - s1 := by rw [Int.sub_mul, Int.one_mul]
    have eU : u * Bt - s0 = (g * Bt + s1 - (s0 + k * s1)) + (k - 1) * (g * Bt + s1) := by
      rw [← e0]
      clear hF hBB tu S hk tB
      grind
    have dU := dm eU (by omega) (by omega)
    rw [dU.1, dU.2]
    have eL : g * Bt + s1 = (s0 + k * s1) + 1 * (g * Bt + s1 - (s0 + k * s1)) := by omega
    have dL := dm eL (by omega) (by omega)
    rw [dL.1, dL.2]
    have hT : (alt + (k - 1) - 1) * B + A + (s1 - (s0 + k * s1)) * g = TT A B := by
      refine pk_e (Y := Y) ?_ ?_ tu (by rw [Int.mul_comm, e0]; omega)
      · rw [Int.mul_comm k g, e0]
        exact hF
      · rw [Int.mul_comm k g, e0]
        exact hBB
    have kB : k * s1 ≤ B := by omega
    have kk : k ≤ k * s1 := by
      have := mul_ge (x := s1) (y := k) (by omega) (by omega)
      rw [Int.mul_comm] at this
      exact this
    have gB : g ≤ B := by
      have := mul_ge (x := s0 + k * s1) (y := g) (by omega) (by omega)
      omega
    refine ⟨by omega, by omega, by omega, .inr ⟨by omega, by omega, t0, t1, by omega, gB, tB, ?_, by omega, by omega⟩⟩
    have : g * Bt + s1 - (s0 + k * s1) - g * Bt = s1 - (s0 + k * s1) := by omega
    rw [this]
    exact hT
theorem pk_final {TA TL alt m t f x c s0 s1 u l A B Bt : Int} (hF : (TA - A) * u = alt * B * u + B * (TL - l) - s0 * (c * c)) (hB : B = s1 * u + s0 * l) (hT : (m + t) * u + l + f * c = TL) (hx : c - f * l = u * x) (n0 : u ≠ 0) :
    (alt + m + t) * B + A + (x * (u * Bt - s0) + f * (l * Bt + s1) - c * Bt) * c = TA := by
  have e1 : x * (u * Bt - s0) + f * (l * Bt + s1) - c * Bt = f * s1 - x * s0 := by
    have : c = u * x + f * l := by omega
    rw [this]
    clear this hF hB hT hx n0
    grind
  rw [e1]
  have : u * ((alt + m + t) * B + A + (f * s1 - x * s0) * c) = u * TA := by
    have e : u * TA = (alt * B * u + B * (TL - l) - s0 * (c * c)) + u * A := by
      rw [← hF]
      clear hF hB hT hx n0 e1
      grind
    rw [e, ← hT]
    have e3 : u * (x * s0) = s0 * (c - f * l) := by
      rw [hx]
      clear hF hB hT hx n0 e1 e
      grind
    have e4 : u * ((alt + m + t) * B + A + (f * s1 - x * s0) * c) = (alt + m + t) * B * u + u * A + (f * (s1 * u) - u * (x * s0)) * c := by
      clear hF hB hT hx n0 e1 e e3
      grind
    rw [e4, e3]
    have e5 : s1 * u = B - s0 * l := by omega
    rw [e5]
    clear hF hB hT hx n0 e1 e e3 e4 e5
    grind
  exact Int.eq_of_mul_eq_mul_left n0 this
theorem pk_fin {A B Bt g alt U L : Int} (hB : 4 * B < Bt) (hg : gc A B = g) (h : Pk A B Bt g alt U L ∨ PkE A B Bt g alt U L) :
    ∃ u l : Int, -((-U) / Bt) = u ∧ L / Bt = l ∧ 0 ≤ l ∧ l < u ∧ u ≤ B ∧ -B ≤ alt ∧ alt ≤ B ∧ 0 ≤ L ∧ 0 ≤ U ∧ U ≤ B * Bt ∧ L ≤ B * Bt ∧ ∀ m f c t, StO l u m f c t → (alt + m + t) * B + A + ((c - f * l) / u * U + f * L - c * Bt) * c = TT A B := by
  rcases h with ⟨u, l, s0, s1, rfl, rfl, S⟩ | ⟨w0, w1, L0, LB, g0, gB, LG, hT, a0, a1⟩
  · have sl := S.las_le
    have sb := S.bs
    have sp := S.s0
    have sn := S.b0
    have l0 := S.l0
    have lu := S.lu
    have aa0 := S.a0
    have aa1 := S.a1
    have d1 := dm (x := -(u * Bt - s0)) (y := Bt) (q := -u) (r := s0) (by rw [Int.neg_mul]; omega) (by omega) (by omega)
    have d2 := dm (x := l * Bt + s1) (y := Bt) (q := l) (r := s1) (by omega) (by omega) (by omega)
    have h1 := Int.mul_nonneg l0 (show 0 ≤ Bt by omega)
    have h2 := mul_ge (x := u) (y := Bt) (by omega) (by omega)
    have h3 : u * Bt ≤ B * Bt := Int.mul_le_mul_of_nonneg_right sl.2 (by omega)
    have h4 : l * Bt + Bt ≤ u * Bt := by
      have := Int.mul_le_mul_of_nonneg_right (show l + 1 ≤ u by omega) (show 0 ≤ Bt by omega)
      rw [Int.add_mul, Int.one_mul] at this
      exact this
    refine ⟨u, l, by omega, d2.1, l0, lu, sl.2, by omega, by omega, by omega, by omega, by omega, by omega, ?_⟩
    intro m f c t O
    have cg : c = g := by rw [← O.hc, S.hg]
    subst cg
    obtain ⟨x, hx⟩ := O.hd
    have ex : (c - f * l) / u = x := by rw [hx, Int.mul_ediv_cancel_left _ (by omega)]
    rw [ex]
    have hF := S.hF
    unfold Fd at hF
    exact pk_final hF S.hB O.hT hx (by omega)
  · have d1 := dm (x := -U) (y := Bt) (q := -g) (r := g * Bt - U) (by rw [Int.neg_mul]; omega) (by omega) (by omega)
    have d2 := dm (x := L) (y := Bt) (q := 0) (r := L) (by omega) (by omega) (by omega)
    have h2 := mul_ge (x := g) (y := Bt) (by omega) (by omega)
    have h3 : g * Bt ≤ B * Bt := Int.mul_le_mul_of_nonneg_right gB (by omega)
    refine ⟨g, 0, by omega, d2.1, by omega, g0, gB, a0, a1, by omega, by omega, by omega, by omega, ?_⟩
    intro m f c t O
    have cg : c = g := by
      rw [← O.hc]
      unfold gc
      rw [Int.gcd_zero_left]
      omega
    subst cg
    have o := O.hT
    rw [TT_zero g0, Int.add_zero] at o
    have mt : m + t = -f := by
      have : c * (m + t) = c * (-f) := by
        rw [Int.mul_neg, Int.mul_comm c, Int.mul_comm c]
        omega
      exact Int.eq_of_mul_eq_mul_left (by omega) this
    rw [Int.mul_zero, Int.sub_zero, Int.ediv_self (by omega), Int.one_mul]
    have e : alt + m + t = alt + -f := by omega
    rw [e, ← hT]
    have e2 : f * B = f * L * c := by rw [← LG, Int.mul_assoc]
    rw [Int.add_mul, Int.neg_mul, e2]
    clear hT o mt e e2 O
    grind
end Tm

namespace Tm
/-! The sum of a coprime pair by its teeth. -/
theorem inv_int {a : Int} {n : Nat} (hn : 0 < n) (hg : gc a n = 1) : ∃ v : Int, (a * v) % (n : Int) = 1 % (n : Int) := by
  obtain ⟨v, _, _, h⟩ := inv_ex (a := a) (b := n) (by omega) (by unfold gc at hg; have : Int.gcd a (n : Int) = 1 := by omega
                                                                 exact this)
  exact ⟨v, (Int.emod_eq_emod_iff_emod_sub_eq_zero.mpr (Int.emod_eq_zero_of_dvd h))⟩
theorem cop_rest {a b k : Int} (hb : 0 < b) (hg : gc a b = 1) (k0 : 0 < k) (k1 : k < b) : (a * k) % b ≠ 0 := by
  intro z
  obtain ⟨v, _, _, x, hx⟩ := inv_ex (a := a) (b := b) hb (by unfold gc at hg; have : Int.gcd a b = 1 := by omega
                                                             exact this)
  obtain ⟨y, hy⟩ := Int.dvd_of_emod_eq_zero z
  have : k = b * (y * v - x * k) := by
    have e1 : b * (y * v - x * k) = (b * y) * v - (b * x) * k := by grind
    rw [e1, ← hy, ← hx]
    grind
  have d : b ∣ k := ⟨_, this⟩
  have := Int.le_of_dvd k0 d
  omega
theorem rs_half {a : Int} {n : Nat} (hn : 0 < n) (hg : gc a n = 1) : sm (rs a 0 n) n = half n := by
  obtain ⟨v, hv⟩ := inv_int hn hg
  have cast : ∀ i : Nat, (((a * (i : Int) + 0) % (n : Int)).toNat : Int) = rs a 0 n i := fun i => by
    have := Int.emod_nonneg (a * (i : Int) + 0) (show (n : Int) ≠ 0 by omega)
    unfold rs
    omega
  have h2 := perm_sum (a := a) (c := 0) (v := v) (k := n) hn hv (fun j => (j : Int))
  simp only [cast] at h2
  exact h2.trans (half_sm n)
theorem S0_cop {a : Int} {n : Nat} (hn : 0 < n) (hg : gc a n = 1) : 2 * S0 n a 0 n = (a - 1) * ((n : Int) - 1) := by
  have h := rs_half hn hg
  rw [rs_sum] at h
  have t := two_half n
  have n0 : (n : Int) ≠ 0 := by omega
  have : (n : Int) * (2 * S0 n a 0 n) = n * ((a - 1) * ((n : Int) - 1)) := by
    have e : (n : Int) * ((a - 1) * ((n : Int) - 1)) = (a - 1) * ((n : Int) * ((n : Int) - 1)) := by grind
    rw [e, ← t]
    rw [Int.zero_mul, Int.add_zero] at h
    grind
  exact Int.eq_of_mul_eq_mul_left n0 this
theorem sm_krs (a : Int) (m : Int) (n : Nat) : sm (fun i => (i : Int) * rs a 0 m i) n = a * sixth n - m * S1 n a 0 m := by
  have e : ∀ i, i < n → (i : Int) * rs a 0 m i = a * ((i : Int) * i) - m * ((i : Int) * fl a 0 m i) := fun i _ => by
    rw [rs_fl]
    grind
  rw [sm_congr n e, sm_sub, sm_mul, sm_mul, sixth_sm]
  rfl
theorem plain_eq {a : Int} {n : Nat} (hn : 0 < n) (hg : gc a n = 1) : 3 * sm (fun j => (2 * ((1 + j : Nat) : Int) - n) * (2 * rs a 0 n (1 + j) - n)) (n - 1) = n * T1 a n := by
  have e0 : sm (fun i => (2 * (i : Int) - n) * (2 * rs a 0 n i - n)) n = n * n + sm (fun j => (2 * ((1 + j : Nat) : Int) - n) * (2 * rs a 0 n (1 + j) - n)) (n - 1) := by
    conv => lhs; arg 2; rw [show n = 1 + (n - 1) by omega]
    rw [sm_app]
    have z : rs a 0 (n : Int) 0 = 0 := by
      unfold rs
      rw [Int.natCast_zero, Int.mul_zero, Int.zero_add]
      exact Int.zero_emod _
    have z1 : sm (fun i => (2 * (i : Int) - n) * (2 * rs a 0 n i - n)) 1 = n * n := by
      show 0 + (2 * ((0 : Nat) : Int) - n) * (2 * rs a 0 n 0 - n) = _
      rw [z, Int.natCast_zero]
      grind
    rw [z1]
  have e1 : sm (fun i => (2 * (i : Int) - n) * (2 * rs a 0 n i - n)) n = 4 * (a * sixth n - n * S1 n a 0 n) - 2 * n * half n - 2 * n * half n + n * n * n := by
    have e : ∀ i, i < n → (2 * (i : Int) - n) * (2 * rs a 0 n i - n) = ((4 * ((i : Int) * rs a 0 n i) - (2 * (n : Int)) * (i : Int)) - (2 * (n : Int)) * rs a 0 n i) + (n : Int) * n := fun i _ => by
      generalize rs a 0 (n : Int) i = r
      grind
    rw [sm_congr n e, sm_add, sm_sub, sm_sub, sm_mul, sm_mul, sm_mul, sm_const, sm_krs, rs_half hn hg, half_sm]
  have h6 := six_sixth n
  have h2 := two_half n
  unfold T1
  rw [Int.toNat_natCast]
  generalize S1 n a 0 (n : Int) = S at *
  generalize sm (fun j => (2 * ((1 + j : Nat) : Int) - n) * (2 * rs a 0 n (1 + j) - n)) (n - 1) = X at *
  generalize sm (fun i => (2 * (i : Int) - n) * (2 * rs a 0 n i - n)) n = Y at *
  have ex : X = 4 * (a * sixth n - n * S) - 2 * n * half n - 2 * n * half n + n * n * n - n * n := by omega
  rw [ex]
  have r1 : 3 * (4 * (a * sixth n - n * S) - 2 * n * half n - 2 * n * half n + n * n * n - n * n) = 2 * a * (6 * sixth n) - 12 * n * S - 6 * n * (2 * half n) + 3 * (n * n * n) - 3 * (n * n) := by grind
  rw [r1, h6, h2]
  grind
end Tm

namespace Tm
/-! Points of triangles. -/
/-- points with a x + b y at most n -/
def Tri (a b n : Int) : Int := if n < 0 then 0 else (n / b + 1) + S0 (n / b + 1).toNat b (n % b) a
theorem PT_neg {a b n : Int} (h : n < 0) : Tri a b n = 0 := if_pos h
/-- row by row -/
theorem PT_rows {a b n : Int} (ha : 0 < a) (hb : 0 < b) (hn : 0 ≤ n) : Tri a b n = sm (fun y => (n - b * (y : Int)) / a + 1) (n / b + 1).toNat := by
  unfold Tri
  rw [if_neg (by omega)]
  have q0 : 0 ≤ n / b := Int.ediv_nonneg hn (by omega)
  obtain ⟨k, hk⟩ : ∃ k : Nat, n / b = k := ⟨(n / b).toNat, by omega⟩
  have e := Int.mul_ediv_add_emod n b
  rw [hk] at e ⊢
  have ek : ((k : Int) + 1).toNat = k + 1 := by omega
  rw [ek, sm_add, sm_const]
  unfold S0
  rw [← sm_rev]
  have c : ∀ i, i < k + 1 → fl b (n % b) a (k + 1 - 1 - i) = (n - b * (i : Int)) / a := fun i hi => by
    unfold fl
    congr 1
    have : ((k + 1 - 1 - i : Nat) : Int) = (k : Int) - i := by omega
    rw [this, Int.mul_sub]
    omega
  rw [sm_congr _ c]
  omega
/-- the count over a box -/
def CT (a b n : Int) (N : Nat) : Int := sm (fun y => sm (fun x => ind (decide (a * (x : Int) + b * (y : Int) ≤ n))) N) N
theorem CT_swap (a b n : Int) (N : Nat) : CT a b n N = CT b a n N := by
  unfold CT
  rw [sm_swap]
  refine sm_congr _ fun y _ => sm_congr _ fun x _ => ?_
  rw [Int.add_comm]
theorem sm_ind_le {a m : Int} (ha : 0 < a) (hm : 0 ≤ m) : ∀ N : Nat, m / a + 1 ≤ N → sm (fun x => ind (decide (a * (x : Int) ≤ m))) N = m / a + 1 := by
  intro N hN
  have q0 : 0 ≤ m / a := Int.ediv_nonneg hm (by omega)
  obtain ⟨k, hk⟩ : ∃ k : Nat, m / a + 1 = k := ⟨(m / a + 1).toNat, by omega⟩
  have e : ∀ x : Nat, decide (a * (x : Int) ≤ m) = decide (x < k) := fun x => by
    have h : a * (x : Int) ≤ m ↔ (x : Int) ≤ m / a := by rw [Int.mul_comm]; exact (Int.le_ediv_iff_mul_le ha).symm
    by_cases z : x < k
    · rw [decide_eq_true z, decide_eq_true (h.mpr (by omega))]
    · rw [decide_eq_false z, decide_eq_false (fun w => z (by have := h.mp w; omega))]
  simp only [e]
  rw [sm_ind_lt, hk, show min N k = k by omega]
theorem sm_zero {f : Nat → Int} : ∀ n : Nat, (∀ i, i < n → f i = 0) → sm f n = 0 := by
  intro n h
  rw [sm_congr n h, sm_const, Int.zero_mul]
theorem PT_CT {a b n : Int} (ha : 0 < a) (hb : 0 < b) (hn : 0 ≤ n) {N : Nat} (hN : n + 1 ≤ N) : Tri a b n = CT a b n N := by
  rw [PT_rows ha hb hn]
  unfold CT
  have q0 : 0 ≤ n / b := Int.ediv_nonneg hn (by omega)
  have qn : n / b ≤ n := Int.ediv_le_self _ hn
  obtain ⟨k, hk⟩ : ∃ k : Nat, n / b + 1 = k := ⟨(n / b + 1).toNat, by omega⟩
  obtain ⟨r, rfl⟩ : ∃ r : Nat, N = k + r := ⟨N - k, by omega⟩
  rw [hk, sm_app]
  have z : sm (fun i => sm (fun x => ind (decide (a * (x : Int) + b * ((k + i : Nat) : Int) ≤ n))) (k + r)) r = 0 := sm_zero _ fun i _ => sm_zero _ fun x _ => by
    have e := Int.mul_ediv_add_emod n b
    have e2 := Int.emod_lt_of_pos n hb
    have h1 : b * (n / b + 1) ≤ b * ((k + i : Nat) : Int) := Int.mul_le_mul_of_nonneg_left (by omega) (by omega)
    have h2 := Int.mul_nonneg (show 0 ≤ a by omega) (show 0 ≤ (x : Int) by omega)
    rw [Int.mul_add, Int.mul_one] at h1
    rw [decide_eq_false (by omega)]
    rfl
  rw [z, Int.add_zero, show (k : Int).toNat = k by omega]
  refine sm_congr _ fun y hy => ?_
  have hb2 : b * (y : Int) ≤ n := by
    have := (Int.le_ediv_iff_mul_le hb (a := (y : Int)) (b := n)).mp (by omega)
    rw [Int.mul_comm]
    exact this
  have hby := Int.mul_nonneg (show 0 ≤ b by omega) (show 0 ≤ (y : Int) by omega)
  have e : ∀ x : Nat, decide (a * (x : Int) + b * (y : Int) ≤ n) = decide (a * (x : Int) ≤ n - b * (y : Int)) := fun x => by
    congr 1
    exact propext ⟨fun h => by omega, fun h => by omega⟩
  simp only [e]
  rw [sm_ind_le ha (by omega)]
  have : (n - b * (y : Int)) / a ≤ n - b * (y : Int) := Int.ediv_le_self _ (by omega)
  omega
theorem PT_swap {a b n : Int} (ha : 0 < a) (hb : 0 < b) : Tri a b n = Tri b a n := by
  rcases Int.lt_or_le n 0 with h | h
  · rw [PT_neg h, PT_neg h]
  · rw [PT_CT ha hb h (N := (n + 1).toNat) (by omega), PT_CT hb ha h (N := (n + 1).toNat) (by omega), CT_swap]
/-- without its lowest row -/
theorem PT_row {a b n : Int} (ha : 0 < a) (hb : 0 < b) (hn : 0 ≤ n) : Tri a b n = n / a + 1 + Tri a b (n - b) := by
  rw [PT_rows ha hb hn]
  have q0 : 0 ≤ n / b := Int.ediv_nonneg hn (by omega)
  have e1 : (n - b) / b = n / b - 1 := by
    have := Int.add_mul_ediv_right n (-1) (show b ≠ 0 by omega)
    rw [show n + -1 * b = n - b by omega] at this
    omega
  obtain ⟨k, hk⟩ : ∃ k : Nat, n / b = k := ⟨(n / b).toNat, by omega⟩
  rw [hk, show ((k : Int) + 1).toNat = 1 + k by omega, sm_app]
  have z : sm (fun y => (n - b * (y : Int)) / a + 1) 1 = n / a + 1 := by
    show 0 + ((n - b * ((0 : Nat) : Int)) / a + 1) = _
    rw [Int.natCast_zero, Int.mul_zero, Int.sub_zero, Int.zero_add]
  rw [z]
  congr 1
  rcases Int.lt_or_le n b with h | h
  · have : n / b = 0 := Int.ediv_eq_zero_of_lt hn h
    have k0 : k = 0 := by omega
    subst k0
    rw [PT_neg (by omega)]
    rfl
  · rw [PT_rows ha hb (by omega), e1, hk, show ((k : Int) - 1 + 1).toNat = k by omega]
    refine sm_congr _ fun y _ => ?_
    congr 2
    rw [Int.natCast_add, Int.mul_add]
    omega
theorem PT_scale {a b n f r : Int} (ha : 0 < a) (hb : 0 < b) (hf : 0 < f) (r0 : 0 ≤ r) (r1 : r < f) : Tri (f * a) (f * b) (f * n + r) = Tri a b n := by
  have dv : ∀ m c : Int, 0 < c → (f * m + r) / (f * c) = m / c := fun m c hc => by
    have e := Int.mul_ediv_add_emod m c
    have s0 := Int.emod_nonneg m (show c ≠ 0 by omega)
    have s1 := Int.emod_lt_of_pos m hc
    have h1 : f * (m % c + 1) ≤ f * c := Int.mul_le_mul_of_nonneg_left (by omega) (by omega)
    have h2 := Int.mul_nonneg (show 0 ≤ f by omega) s0
    rw [Int.mul_add, Int.mul_one] at h1
    refine (dm (r := f * (m % c) + r) ?_ (by omega) (by omega)).1
    conv => lhs; rw [← e]
    clear e s0 s1 h1 h2
    grind
  rcases Int.lt_or_le n 0 with h | h
  · have := Int.mul_le_mul_of_nonneg_left (show n ≤ -1 by omega) (show 0 ≤ f by omega)
    rw [PT_neg h, PT_neg (by omega)]
  · have h0 := Int.mul_nonneg (show 0 ≤ f by omega) h
    rw [PT_rows (Int.mul_pos hf ha) (Int.mul_pos hf hb) (by omega), PT_rows ha hb h, dv _ _ hb]
    refine sm_congr _ fun y _ => ?_
    have : f * n + r - f * b * (y : Int) = f * (n - b * (y : Int)) + r := by
      rw [Int.mul_sub, Int.mul_assoc]
      omega
    rw [this, dv _ _ ha]
/-- what one more in the limit adds -/
theorem PT_step {a b n : Int} (ha : 0 < a) (hb : 0 < b) (hn : 0 ≤ n) : Tri a b n - Tri a b (n - 1) = cnt (0 - a) n b (n / a + 1).toNat := by
  rw [PT_swap ha hb, PT_swap ha hb]
  have q0 : 0 ≤ n / a := Int.ediv_nonneg hn (by omega)
  obtain ⟨k, hk⟩ : ∃ k : Nat, n / a + 1 = k := ⟨(n / a + 1).toNat, by omega⟩
  have row : ∀ y : Nat, (n - a * (y : Int)) / b + 1 - ((n - 1 - a * (y : Int)) / b + 1) = ind (decide (((0 - a) * (y : Int) + n) % b = 0)) := fun y => by
    have e : n - 1 - a * (y : Int) = n - a * (y : Int) - 1 := by omega
    rw [e, pred_div hb]
    have e2 : (0 - a) * (y : Int) + n = n - a * (y : Int) := by
      rw [Int.sub_mul, Int.zero_mul]
      omega
    rw [e2]
    omega
  have h1 : Tri b a n = sm (fun y => (n - a * (y : Int)) / b + 1) k := by
    rw [PT_rows hb ha hn, hk]
    rfl
  have h2 : Tri b a (n - 1) = sm (fun y => (n - 1 - a * (y : Int)) / b + 1) k := by
    rcases Int.lt_or_le (n - 1) 0 with h | h
    · have n0 : n = 0 := by omega
      subst n0
      have k1 : k = 1 := by
        rw [Int.zero_ediv] at hk
        omega
      subst k1
      rw [PT_neg (by omega)]
      show 0 = 0 + ((0 - 1 - a * ((0 : Nat) : Int)) / b + 1)
      have : ((0 : Int) - 1 - a * ((0 : Nat) : Int)) / b = -1 := by
        rw [Int.natCast_zero, Int.mul_zero]
        exact (dm (q := -1) (r := b - 1) (by omega) (by omega) (by omega)).1
      rw [this]
      rfl
    · rw [PT_rows hb ha h]
      have e := Int.mul_ediv_add_emod n a
      have e0 := Int.emod_nonneg n (show a ≠ 0 by omega)
      have e1 := Int.emod_lt_of_pos n ha
      rw [pred_div ha]
      by_cases z : n % a = 0
      · rw [decide_eq_true z]
        have t : (n / a - ind true + 1).toNat = k - 1 := by
          show (n / a - 1 + 1).toNat = _
          omega
        rw [t]
        obtain ⟨j, rfl⟩ : ∃ j, k = j + 1 := ⟨k - 1, by omega⟩
        show sm _ j = sm _ j + ((n - 1 - a * (j : Int)) / b + 1)
        have aj : a * (j : Int) = n := by
          rw [z, Int.add_zero] at e
          rw [← e]
          congr 1
          omega
        have : (n - 1 - a * (j : Int)) / b = -1 := by
          rw [aj]
          exact (dm (q := -1) (r := b - 1) (by omega) (by omega) (by omega)).1
        rw [this]
        omega
      · rw [decide_eq_false z]
        have t : (n / a - ind false + 1).toNat = k := by
          show (n / a - 0 + 1).toNat = _
          omega
        rw [t]
  rw [h1, h2, ← sm_sub]
  unfold cnt
  rw [show (n / a + 1).toNat = k by omega]
  exact sm_congr _ fun y _ => row y
end Tm

namespace Tm
/-! Boxes and ways. -/
theorem inv_gen {a b : Int} (hb : 0 < b) (hg : gc a b = 1) : ∃ v : Int, (a * v) % b = 1 % b := by
  obtain ⟨n, rfl⟩ : ∃ n : Nat, b = n := ⟨b.toNat, by omega⟩
  exact inv_int (by omega) hg
theorem PT_box {a b t : Int} (ha : 0 < a) (hb : 0 < b) (ht : 0 ≤ t) : 2 * Tri a b (a * b * t) = (b * t + 1) * (a * t + 1) + (t * gc a b + 1) := by
  have at0 := Int.mul_nonneg (show 0 ≤ a by omega) ht
  have n0 : 0 ≤ a * b * t := Int.mul_nonneg (Int.mul_nonneg (by omega) (by omega)) ht
  have e1 : a * b * t = b * (a * t) := by grind
  have q : a * b * t / b = a * t := by rw [e1, Int.mul_ediv_cancel_left _ (by omega)]
  have r : a * b * t % b = 0 := by rw [e1, Int.mul_emod_right]
  unfold Tri
  rw [if_neg (by omega), q, r]
  obtain ⟨N, hN⟩ : ∃ N : Nat, a * t = N := ⟨(a * t).toNat, by omega⟩
  rw [hN, show ((N : Int) + 1).toNat = N + 1 by omega]
  have rv := S0_rev b 0 a (N + 1) (by omega)
  have ne := S0_neg (a := b) (c := 0) ha (N + 1)
  have li := S0_lift (n := N + 1) (a := 0 - b) (c := 0) (m := a) (u := 0) (v := b * t) (by omega)
  have e2 : (0 : Int) + b * (((N + 1 : Nat) : Int) - 1) = 0 + b * t * a := by
    have : ((N + 1 : Nat) : Int) - 1 = a * t := by omega
    rw [this]
    grind
  rw [e2] at rv
  rw [show (0 : Int) - b + 0 * a = 0 - b by omega] at li
  rw [li] at rv
  rw [show (0 : Int) - 0 = 0 by omega] at ne
  rw [ne] at rv
  -- how many are hit
  have hc : cnt b 0 a (N + 1) = t * gc a b + 1 := by
    obtain ⟨x, y, hx, hy, y0, ex, ey, h1⟩ := gc_parts (a := b) (b := a) ha
    have g0 := gc_pos (a := b) ha
    obtain ⟨v, hv⟩ := inv_gen y0 h1
    have c := cnt_some (a := x) (c := 0) (g := gc b a) (k := y) (v := v) g0 y0 hv (N + 1)
    rw [← hx, ← hy, Int.mul_zero] at c
    rw [c, gc_comm (a := a)]
    have z : (-0 * v) % y = 0 := by
      rw [show (-0 : Int) = 0 by rfl, Int.zero_mul, Int.zero_emod]
    rw [z]
    have : ((N + 1 : Nat) : Int) - 1 - 0 = y * (t * gc b a) := by
      have : ((N + 1 : Nat) : Int) - 1 - 0 = a * t := by omega
      rw [this]
      conv => lhs; lhs; rw [hy]
      grind
    rw [this, Int.mul_ediv_cancel_left _ (by omega)]
  rw [hc] at rv
  have hN2 : ((N + 1 : Nat) : Int) = a * t + 1 := by omega
  rw [hN2] at rv
  rw [← hN]
  generalize S0 (N + 1) b 0 a = S at *
  generalize gc a b = g at *
  clear li ne e2 hc hN hN2 q r e1 n0 at0
  rw [Int.zero_mul, Int.add_zero] at rv
  grind
theorem gc_one {b : Int} : gc 1 b = 1 := by
  unfold gc
  rw [Int.gcd_one_left]
  rfl
/-- the ways to reach a number -/
theorem cnt_ways {a b n v : Int} (ha : 0 < a) (hb : 0 < b) (hn : 0 ≤ n) {g A B m : Int} (g0 : 0 < g) (hA : a = g * A) (hB : b = g * B) (hm : n = g * m) (hv : (A * v) % B = 1 % B) (A0 : 0 < A) (B0 : 0 < B) :
    cnt (0 - a) n b (n / a + 1).toNat = if 0 ≤ m - m * v % B * A then (m - m * v % B * A) / (A * B) + 1 else 0 := by
  have m0 : 0 ≤ m := by
    rcases Int.lt_or_le m 0 with z | z
    · have := Int.mul_le_mul_of_nonneg_left (show m ≤ -1 by omega) (show 0 ≤ g by omega)
      omega
    · exact z
  have hv2 : ((0 - A) * (-v)) % B = 1 % B := by
    rw [show (0 - A) * (-v) = A * v by grind]
    exact hv
  have q0 : 0 ≤ n / a := Int.ediv_nonneg hn (by omega)
  have qe : n / a = m / A := by rw [hm, hA, Int.mul_ediv_mul_of_pos _ _ g0]
  have c := cnt_some (a := 0 - A) (c := m) (g := g) (k := B) (v := -v) g0 B0 hv2 (n / a + 1).toNat
  rw [← hm, ← hB, show g * (0 - A) = 0 - a by rw [hA]; grind] at c
  rw [c, show (((n / a + 1).toNat : Nat) : Int) - 1 = m / A by rw [← qe]; omega, show -m * -v = m * v by grind]
  have l0 := Int.emod_nonneg (m * v) (show B ≠ 0 by omega)
  have l1 := Int.emod_lt_of_pos (m * v) B0
  generalize m * v % B = w at *
  have mA0 : 0 ≤ m / A := Int.ediv_nonneg m0 (by omega)
  have e := Int.mul_ediv_add_emod m A
  have e0 := Int.emod_nonneg m (show A ≠ 0 by omega)
  have e1 := Int.emod_lt_of_pos m A0
  have sub : (m - w * A) / A = m / A - w := by
    refine (dm (r := m % A) ?_ e0 e1).1
    conv => lhs; lhs; rw [← e]
    clear c hv hv2 e
    grind
  split
  · rename_i h
    rw [← Int.ediv_ediv_of_nonneg (by omega), sub]
  · rename_i h
    have : m / A < w := by
      rcases Int.lt_or_le (m / A) w with z | z
      · exact z
      · have := Int.mul_le_mul_of_nonneg_right z (show 0 ≤ A by omega)
        rw [Int.mul_comm (m / A)] at this
        omega
    have := (dm (x := m / A - w) (y := B) (q := -1) (r := m / A - w + B) (by omega) (by omega) (by omega)).1
    omega
theorem PT_inner {a b : Int} (ha : 0 < a) (hb : 0 < b) : Tri a b (a * b - a - b - 1) * 2 = (a - 1) * (b - 1) - (gc a b - 1) := by
  have bx := PT_box (t := 1) ha hb (by omega)
  rw [Int.mul_one, Int.mul_one, Int.mul_one, Int.one_mul] at bx
  have ab0 : 0 < a * b := Int.mul_pos ha hb
  have r1 := PT_row (n := a * b) ha hb (by omega)
  rw [Int.mul_ediv_cancel_left _ (show a ≠ 0 by omega)] at r1
  have h2 : 0 ≤ a * b - b := by
    have := mul_ge (x := a) (y := b) (by omega) (by omega)
    omega
  have r2 := PT_row (n := a * b - b) hb ha h2
  have d2 : (a * b - b) / b = a - 1 := by
    rw [show a * b - b = b * (a - 1) by grind, Int.mul_ediv_cancel_left _ (by omega)]
  rw [d2, PT_swap hb ha, PT_swap hb ha] at r2
  rw [show a * b - b - a = a * b - a - b by omega] at r2
  rcases Int.lt_or_le (a * b - a - b) 0 with h | h
  · rw [PT_neg (by omega), Int.zero_mul]
    rw [PT_neg h] at r2
    rw [show (a * b - b) = a * b - b by rfl] at r1
    rw [r2] at r1
    rw [r1] at bx
    generalize gc a b = g at *
    clear r1 r2 d2 h2
    have nn := Int.mul_nonneg (show 0 ≤ a - 1 by omega) (show 0 ≤ b - 1 by omega)
    have ex : (a - 1) * (b - 1) = a * b - a - b + 1 := by grind
    have ex2 : (b + 1) * (a + 1) = a * b + a + b + 1 := by grind
    rw [ex] at nn ⊢
    rw [ex2] at bx
    omega
  · have st := PT_step ha hb h
    obtain ⟨x, y, hx, hy, y0, ex, ey, h1⟩ := gc_parts (a := a) (b := b) hb
    have g0 := gc_pos (a := a) hb
    have x0 : 0 < x := by
      rcases Int.lt_or_le 0 x with z | z
      · exact z
      · have := Int.mul_le_mul_of_nonneg_left z (show 0 ≤ gc a b by omega)
        omega
    obtain ⟨v, hv⟩ := inv_gen y0 h1
    generalize hG : gc a b = g at *
    have hm : a * b - a - b = g * (g * x * y - x - y) := by
      conv => lhs; rw [hx, hy]
      grind
    have w := cnt_ways ha hb h g0 hx hy hm hv x0 y0
    have lw : (g * x * y - x - y) * v % y = y - 1 := by
      obtain ⟨k, hk⟩ := Int.dvd_of_emod_eq_zero (Int.emod_eq_emod_iff_emod_sub_eq_zero.mp hv)
      have : (g * x * y - x - y) * v = (y - 1) + (g * x * v - v - k - 1) * y := by
        have e : x * v = 1 + y * k := by omega
        have e2 : (g * x * y - x - y) * v = g * (x * v) * y - x * v - y * v := by grind
        rw [e2, e]
        have e3 : g * x * v = g * (1 + y * k) := by rw [← e]; grind
        rw [e3]
        clear hv hk e e2 e3 st w hm r1 r2 bx
        grind
      rw [this, Int.add_mul_emod_self_right, Int.emod_eq_of_lt (by omega) (by omega)]
    rw [lw] at w
    have cs : g * x * y - x - y - (y - 1) * x = (g - 1) * (x * y) - y := by grind
    rw [cs] at w
    have xy0 : 0 < x * y := Int.mul_pos x0 y0
    have xy1 : y ≤ x * y := mul_ge (by omega) (by omega)
    have cv : cnt (0 - a) (a * b - a - b) b ((a * b - a - b) / a + 1).toNat = g - 1 := by
      rw [w]
      rcases Int.lt_or_le 1 g with z | z
      · have := Int.mul_le_mul_of_nonneg_right (show 1 ≤ g - 1 by omega) (show 0 ≤ x * y by omega)
        rw [if_pos (by omega)]
        have := (dm (x := (g - 1) * (x * y) - y) (y := x * y) (q := g - 2) (r := x * y - y) (by grind) (by omega) (by omega)).1
        omega
      · have : g = 1 := by omega
        subst this
        rw [if_neg (by omega)]
        rfl
    rw [cv] at st
    rw [r2] at r1
    clear w cv lw cs hv h1 hm ex ey hx hy
    grind
end Tm

namespace Tm
/-! Rules of the sums. -/
theorem T1_rests {a : Int} {n : Nat} (hn : 0 < n) : (n : Int) * T1 a n = 12 * sm (fun i => (i : Int) * rs a 0 n i) n - 3 * n * n * (n - 1) := by
  have e := sm_krs a n n
  have s := six_sixth n
  unfold T1
  rw [e, show ((n : Int)).toNat = n by omega]
  generalize S1 n a 0 n = z at *
  generalize sixth (n : Int) = y at *
  clear e
  grind
theorem inv_rest {a v : Int} {n : Nat} (hn : 0 < n) (hv : (a * v) % (n : Int) = 1 % (n : Int)) {i : Nat} (hi : i < n) : (v * ((a * (i : Int)) % (n : Int))) % (n : Int) = i := by
  have e1 : (v * ((a * (i : Int)) % (n : Int))) % (n : Int) = (v * (a * (i : Int))) % (n : Int) := by
    rw [Int.mul_emod, Int.emod_emod_of_dvd _ (Int.dvd_refl _), ← Int.mul_emod]
  rw [e1, show v * (a * (i : Int)) = (a * v) * (i : Int) by grind, Int.mul_emod, hv, ← Int.mul_emod, Int.one_mul]
  exact Int.emod_eq_of_lt (by omega) (by omega)
theorem T1_inv {a v : Int} {n : Nat} (hn : 0 < n) (hv : (a * v) % (n : Int) = 1 % (n : Int)) : T1 v n = T1 a n := by
  have h1 := T1_rests (a := a) hn
  have h2 := T1_rests (a := v) hn
  have p := perm_sum (a := a) (c := 0) (v := v) hn hv (fun j => (j : Int) * rs v 0 n j)
  have c : sm (fun i => (fun j : Nat => (j : Int) * rs v 0 n j) ((a * (i : Int) + 0) % (n : Int)).toNat) n = sm (fun i => (i : Int) * rs a 0 n i) n := sm_congr n fun i hi => by
    have r0 := Int.emod_nonneg (a * (i : Int)) (show (n : Int) ≠ 0 by omega)
    show ((((a * (i : Int) + 0) % (n : Int)).toNat : Nat) : Int) * rs v 0 n _ = _
    rw [Int.add_zero]
    have e : ((((a * (i : Int)) % (n : Int)).toNat : Nat) : Int) = (a * (i : Int)) % (n : Int) := by omega
    unfold rs
    rw [e, Int.add_zero, Int.add_zero, inv_rest hn hv hi, Int.mul_comm]
  rw [c] at p
  rw [← p] at h2
  have := h2.trans h1.symm
  exact Int.eq_of_mul_eq_mul_left (by omega) this
theorem T1_neg {a : Int} {n : Nat} (hn : 0 < n) (hg : gc a n = 1) : T1 (-a) n = - T1 a n := by
  have e : S1 n (-a) 0 n = - S1 n a 0 n - half n := by
    unfold S1
    rw [← half_sm, ← sm_neg, ← sm_sub]
    refine sm_congr n fun i hi => ?_
    have f := fl_neg (a := a) (c := 0) (m := n) (by omega) i
    rw [show (0 : Int) - a = -a by omega, show (0 : Int) - 0 = 0 by omega] at f
    rw [f]
    by_cases z : i = 0
    · subst z
      rw [Int.natCast_zero, Int.zero_mul, Int.zero_mul]
      rfl
    · have nz := cop_rest (a := a) (b := n) (k := i) (by omega) hg (by omega) (by omega)
      rw [decide_eq_false (by rw [Int.add_zero]; exact nz)]
      show (i : Int) * (- fl a 0 n i - 1 + 0) = _
      rw [Int.add_zero, Int.mul_sub, Int.mul_neg, Int.mul_one]
  have h := two_half n
  unfold T1
  rw [show ((n : Int)).toNat = n by omega, e]
  generalize S1 n a 0 n = z at *
  generalize half (n : Int) = y at *
  clear e hg
  grind
theorem gc_neg {a b : Int} : gc (-a) b = gc a b := by
  unfold gc
  rw [Int.neg_gcd]
theorem TT_neg {a b : Int} (hb : 0 < b) : TT (-a) b = - TT a b := by
  obtain ⟨x, y, hx, hy, y0, ex, ey, h1⟩ := gc_parts (a := a) hb
  have g0 := gc_pos (a := a) hb
  unfold TT
  rw [gc_neg]
  have e : -a / gc a b = -x := by
    conv => lhs; lhs; rw [hx]
    rw [← Int.mul_neg, Int.mul_ediv_cancel_left _ (by omega)]
  rw [e, ex, ey]
  obtain ⟨n, rfl⟩ : ∃ n : Nat, y = n := ⟨y.toNat, by omega⟩
  rw [T1_neg (by omega) h1, Int.mul_neg]
theorem gc_scale {a b f : Int} (hf : 0 < f) : gc (a * f) (b * f) = gc a b * f := by
  unfold gc
  rw [Int.gcd_mul_right, Int.natCast_mul, Int.natAbs_of_nonneg (by omega)]
theorem TT_scale {a b f : Int} (hb : 0 < b) (hf : 0 < f) : TT (a * f) (b * f) = f * TT a b := by
  have g0 := gc_pos (a := a) hb
  unfold TT
  rw [gc_scale hf, Int.mul_ediv_mul_of_pos_left _ _ hf, Int.mul_ediv_mul_of_pos_left _ _ hf, Int.mul_comm (gc a b) f, Int.mul_assoc]
theorem T1_one : T1 1 1 = 0 := by decide +kernel
theorem T1_any {p q : Int} (hp : 0 < p) (hq : 0 < q) (hg : gc p q = 1) : p * T1 p q + q * T1 q p = p * p + q * q + 1 - 3 * (p * q) := by
  rcases Int.lt_trichotomy p q with h | h | h
  · exact T1_rec hp h hg
  · subst h
    have : p = 1 := by
      unfold gc at hg
      rw [Int.gcd_self] at hg
      omega
    subst this
    rw [T1_one]
    rfl
  · have := T1_rec hq h (by rw [gc_comm]; exact hg)
    rw [Int.mul_comm q p] at this
    omega
end Tm

namespace Tm
/-! Three numbers at once: whose share of a side is the greatest. -/
theorem sm_mul_sm (f g : Nat → Int) (m n : Nat) : sm f m * sm g n = sm (fun j => sm (fun k => f j * g k) n) m := by
  have e : ∀ j, j < m → sm (fun k => f j * g k) n = sm g n * f j := fun j _ => by rw [sm_mul, Int.mul_comm]
  rw [sm_congr m e, sm_mul, Int.mul_comm]
/-- no ties -/
theorem no_tie {a b x y : Nat} (hg : gc a b = 1) (x0 : 0 < x) (x1 : x < a) : (a : Int) * y ≠ b * x := by
  intro h
  have z := cop_rest (a := b) (b := a) (k := x) (by omega) (by rw [gc_comm]; exact hg) (by omega) (by omega)
  apply z
  rw [← h, Int.mul_emod_right]
theorem fl_side {a b : Nat} (ha : 0 < a) (hb : 0 < b) (hg : gc a b = 1) {i : Nat} (hi : 1 + i < a) :
    fl b 0 a (1 + i) = sm (fun j => ind (decide ((a : Int) * ((1 + j : Nat) : Int) < b * ((1 + i : Nat) : Int)))) (b - 1) := by
  have q0 : 0 ≤ fl b 0 a (1 + i) := fl_nn (by omega) (by omega) (by omega) _
  obtain ⟨k, hk⟩ : ∃ k : Nat, fl b 0 a (1 + i) = k := ⟨(fl b 0 a (1 + i)).toNat, by omega⟩
  have hq : (b : Int) * ((1 + i : Nat) : Int) / a = k := by
    have : fl b 0 a (1 + i) = ((b : Int) * ((1 + i : Nat) : Int) + 0) / a := rfl
    rw [Int.add_zero] at this
    rw [← this, hk]
  have c : ∀ j, j < b - 1 → ind (decide ((a : Int) * ((1 + j : Nat) : Int) < b * ((1 + i : Nat) : Int))) = ind (decide (j < k)) := fun j _ => by
    congr 1
    have t := no_tie (y := 1 + j) hg (show 0 < 1 + i by omega) hi
    have l : (((1 + j : Nat) : Int)) ≤ (b : Int) * ((1 + i : Nat) : Int) / a ↔ ((1 + j : Nat) : Int) * a ≤ b * ((1 + i : Nat) : Int) := Int.le_ediv_iff_mul_le (by omega)
    rw [hq, Int.mul_comm ((1 + j : Nat) : Int)] at l
    exact decide_eq_decide.mpr ⟨fun h => by have := l.mpr (by omega); omega, fun h => by have := l.mp (by omega); omega⟩
  have kb : k ≤ b - 1 := by
    have h1 : (b : Int) * ((1 + i : Nat) : Int) < b * a := Int.mul_lt_mul_of_pos_left (by omega) (by omega)
    have h2 : (b : Int) * ((1 + i : Nat) : Int) / a < b := Int.ediv_lt_of_lt_mul (by omega) h1
    omega
  rw [sm_congr _ c, sm_ind_lt, hk, Nat.min_eq_right kb]
theorem sm_from1 {f : Nat → Int} (h : f 0 = 0) {n : Nat} (hn : 0 < n) : sm f n = sm (fun i => f (1 + i)) (n - 1) := by
  obtain ⟨m, rfl⟩ : ∃ m, n = 1 + m := ⟨n - 1, by omega⟩
  rw [sm_app]
  show 0 + f 0 + _ = _
  rw [h, show 1 + m - 1 = m by omega]
  omega
/-- products of floors of two lines -/
def Gf (a b c : Nat) : Int := sm (fun i => fl b 0 a i * fl c 0 a i) a
theorem Gf_count {a b c : Nat} (ha : 0 < a) (hb : 0 < b) (hc : 0 < c) (h1 : gc a b = 1) (h2 : gc a c = 1) :
    Gf a b c = sm (fun i => sm (fun j => sm (fun k => ind (decide ((a : Int) * ((1 + j : Nat) : Int) < b * ((1 + i : Nat) : Int))) * ind (decide ((a : Int) * ((1 + k : Nat) : Int) < c * ((1 + i : Nat) : Int)))) (c - 1)) (b - 1)) (a - 1) := by
  unfold Gf
  rw [sm_from1 (by show ((b : Int) * ((0 : Nat) : Int) + 0) / a * _ = 0; rw [Int.natCast_zero, Int.mul_zero, Int.zero_add, Int.zero_ediv, Int.zero_mul]) ha]
  refine sm_congr _ fun i hi => ?_
  rw [fl_side ha hb h1 (by omega), fl_side ha hc h2 (by omega), sm_mul_sm]
theorem ind_flip {p q : Int} (h : p ≠ q) : ind (decide (q < p)) = 1 - ind (decide (p < q)) := by
  by_cases z : p < q
  · rw [decide_eq_true z, decide_eq_false (by omega)]
    rfl
  · rw [decide_eq_false z, decide_eq_true (by omega)]
    rfl
theorem ind_cases (p : Prop) [Decidable p] : (p ∧ ind (decide p) = 1) ∨ (¬ p ∧ ind (decide p) = 0) := by
  by_cases z : p
  · exact .inl ⟨z, by rw [decide_eq_true z]; rfl⟩
  · exact .inr ⟨z, by rw [decide_eq_false z]; rfl⟩
theorem three_one {a b c x y z : Nat} (ha : 0 < a) (hb : 0 < b) (hc : 0 < c) (t1 : (a : Int) * y ≠ b * x) (t2 : (a : Int) * z ≠ c * x) (t3 : (b : Int) * z ≠ c * y) :
    ind (decide ((a : Int) * y < b * x)) * ind (decide ((a : Int) * z < c * x)) + ind (decide ((b : Int) * z < c * y)) * ind (decide ((b : Int) * x < a * y)) + ind (decide ((c : Int) * x < a * z)) * ind (decide ((c : Int) * y < b * z)) = 1 := by
  rw [ind_flip t1, ind_flip t2, ind_flip t3]
  have a0 : 0 < (a : Int) := by omega
  have b0 : 0 < (b : Int) := by omega
  have c0 : 0 < (c : Int) := by omega
  have e1 : (c : Int) * (a * y) = a * (c * y) := by grind
  have e2 : (c : Int) * (b * x) = b * (c * x) := by grind
  have e3 : (b : Int) * (a * z) = a * (b * z) := by grind
  rcases ind_cases ((a : Int) * y < b * x) with ⟨p, e⟩ | ⟨p, e⟩ <;> rcases ind_cases ((a : Int) * z < c * x) with ⟨q, f⟩ | ⟨q, f⟩ <;> rcases ind_cases ((b : Int) * z < c * y) with ⟨r, g⟩ | ⟨r, g⟩ <;> rw [e, f, g] <;> try rfl
  · exfalso
    have h1 := Int.mul_lt_mul_of_pos_left p c0
    have h2 := Int.mul_lt_mul_of_pos_left (show (c : Int) * x < a * z by omega) b0
    have h3 := Int.mul_lt_mul_of_pos_left r a0
    omega
  · exfalso
    have h1 := Int.mul_lt_mul_of_pos_left (show (b : Int) * x < a * y by omega) c0
    have h2 := Int.mul_lt_mul_of_pos_left q b0
    have h3 := Int.mul_lt_mul_of_pos_left (show (c : Int) * y < b * z by omega) a0
    omega
theorem three_count {a b c : Nat} (ha : 0 < a) (hb : 0 < b) (hc : 0 < c) (h1 : gc a b = 1) (h2 : gc b c = 1) (h3 : gc c a = 1) : Gf a b c + Gf b c a + Gf c a b = ((a : Int) - 1) * ((b : Int) - 1) * ((c : Int) - 1) := by
  rw [Gf_count ha hb hc h1 (by rw [gc_comm]; exact h3), Gf_count hb hc ha h2 (by rw [gc_comm]; exact h1), Gf_count hc ha hb h3 (by rw [gc_comm]; exact h2)]
  -- the second one: over j, k, i; the third: over k, i, j
  have s2 : ∀ F : Nat → Nat → Nat → Int, sm (fun j => sm (fun k => sm (fun i => F i j k) (a - 1)) (c - 1)) (b - 1) = sm (fun i => sm (fun j => sm (fun k => F i j k) (c - 1)) (b - 1)) (a - 1) := fun F => by
    have e : ∀ j, j < b - 1 → sm (fun k => sm (fun i => F i j k) (a - 1)) (c - 1) = sm (fun i => sm (fun k => F i j k) (c - 1)) (a - 1) := fun j _ => sm_swap _ _ _
    rw [sm_congr _ e, sm_swap]
  have s3 : ∀ F : Nat → Nat → Nat → Int, sm (fun k => sm (fun i => sm (fun j => F i j k) (b - 1)) (a - 1)) (c - 1) = sm (fun i => sm (fun j => sm (fun k => F i j k) (c - 1)) (b - 1)) (a - 1) := fun F => by
    rw [sm_swap]
    refine sm_congr _ fun i _ => ?_
    rw [sm_swap]
  rw [s2 (fun i j k => ind (decide ((b : Int) * ((1 + k : Nat) : Int) < c * ((1 + j : Nat) : Int))) * ind (decide ((b : Int) * ((1 + i : Nat) : Int) < a * ((1 + j : Nat) : Int)))),
    s3 (fun i j k => ind (decide ((c : Int) * ((1 + i : Nat) : Int) < a * ((1 + k : Nat) : Int))) * ind (decide ((c : Int) * ((1 + j : Nat) : Int) < b * ((1 + k : Nat) : Int))))]
  rw [← sm_add, ← sm_add]
  refine (sm_congr (g := fun _ => ((b - 1 : Nat) : Int) * ((c - 1 : Nat) : Int)) _ fun i hi => ?_).trans ?_
  · show sm _ _ + sm _ _ + sm _ _ = _
    rw [← sm_add, ← sm_add]
    refine (sm_congr (g := fun _ => ((c - 1 : Nat) : Int)) _ fun j hj => ?_).trans ?_
    · show sm _ _ + sm _ _ + sm _ _ = _
      rw [← sm_add, ← sm_add]
      refine (sm_congr (g := fun _ => 1) _ fun k hk => ?_).trans ?_
      · exact three_one (x := 1 + i) (y := 1 + j) (z := 1 + k) ha hb hc (no_tie h1 (by omega) (by omega)) (no_tie (by rw [gc_comm]; exact h3) (by omega) (by omega)) (no_tie h2 (by omega) (by omega))
      · rw [sm_const, Int.one_mul]
    · rw [sm_const, Int.mul_comm]
  rw [sm_const]
  have x1 : ((a - 1 : Nat) : Int) = (a : Int) - 1 := by omega
  have x2 : ((b - 1 : Nat) : Int) = (b : Int) - 1 := by omega
  have x3 : ((c - 1 : Nat) : Int) = (c : Int) - 1 := by omega
  rw [x1, x2, x3]
  grind
/-- products of rests -/
theorem rests_inv {a : Nat} {b c v : Int} (ha : 0 < a) (hv : (c * v) % (a : Int) = 1 % (a : Int)) : sm (fun i => rs b 0 a i * rs c 0 a i) a = sm (fun i => (i : Int) * rs (b * v) 0 a i) a := by
  have p := perm_sum (a := c) (c := 0) (v := v) ha hv (fun j => (j : Int) * rs (b * v) 0 a j)
  rw [← p]
  refine sm_congr a fun i hi => ?_
  have r0 := Int.emod_nonneg (c * (i : Int)) (show (a : Int) ≠ 0 by omega)
  show _ = ((((c * (i : Int) + 0) % (a : Int)).toNat : Nat) : Int) * rs (b * v) 0 a _
  rw [Int.add_zero]
  have e : ((((c * (i : Int)) % (a : Int)).toNat : Nat) : Int) = (c * (i : Int)) % (a : Int) := by omega
  unfold rs
  rw [e, Int.add_zero, Int.add_zero, Int.add_zero, Int.mul_comm]
  congr 1
  have h := inv_rest (i := i) ha hv hi
  have e1 : (b * v * ((c * (i : Int)) % (a : Int))) % (a : Int) = (b * ((v * ((c * (i : Int)) % (a : Int))) % (a : Int))) % (a : Int) := by
    rw [Int.mul_assoc b v, Int.mul_emod b (v * _), Int.mul_emod b ((v * _) % _), Int.emod_emod_of_dvd _ (Int.dvd_refl _)]
  rw [e1, h]
theorem Gf_T {a : Nat} {b c : Nat} {v : Int} (ha : 0 < a) (hv : ((c : Int) * v) % (a : Int) = 1 % (a : Int)) :
    12 * ((a : Int) * Gf a b c) = 2 * b * c * (a - 1) * (2 * a - 1) - b * T1 c a - c * T1 b a + T1 (b * v) a - 3 * a * (a - 1) * (b + c - 1) := by
  have e : (a : Int) * (a * Gf a b c) = b * c * sixth a - b * sm (fun i => (i : Int) * rs c 0 a i) a - c * sm (fun i => (i : Int) * rs b 0 a i) a + sm (fun i => rs b 0 a i * rs c 0 a i) a := by
    unfold Gf
    rw [← sixth_sm, ← sm_mul, ← sm_mul, ← sm_mul, ← sm_mul, ← sm_mul, ← sm_sub, ← sm_sub, ← sm_add]
    refine sm_congr a fun i _ => ?_
    rw [rs_fl, rs_fl]
    grind
  rw [rests_inv ha hv] at e
  have h1 := T1_rests (a := c) ha
  have h2 := T1_rests (a := b) ha
  have h3 := T1_rests (a := b * v) ha
  have s := six_sixth a
  generalize Gf a b c = G at *
  generalize sixth (a : Int) = S at *
  generalize sm (fun i => (i : Int) * rs c 0 a i) a = Q1 at *
  generalize sm (fun i => (i : Int) * rs b 0 a i) a = Q2 at *
  generalize sm (fun i => (i : Int) * rs (b * v) 0 a i) a = Q3 at *
  generalize T1 c a = t1 at *
  generalize T1 b a = t2 at *
  generalize T1 (b * v) a = t3 at *
  have a0 : (a : Int) ≠ 0 := by omega
  refine Int.eq_of_mul_eq_mul_left a0 ?_
  clear hv a0 ha
  have k1 : 12 * Q1 = a * t1 + 3 * a * a * (a - 1) := by rw [h1, Int.sub_add_cancel]
  have k2 : 12 * Q2 = a * t2 + 3 * a * a * (a - 1) := by rw [h2, Int.sub_add_cancel]
  have k3 : 12 * Q3 = a * t3 + 3 * a * a * (a - 1) := by rw [h3, Int.sub_add_cancel]
  have k : (a : Int) * (12 * (a * G)) = 2 * b * c * (6 * S) - b * (12 * Q1) - c * (12 * Q2) + 12 * Q3 := by
    have : (a : Int) * (12 * (a * G)) = 12 * (a * (a * G)) := by grind
    rw [this, e]
    clear this e h1 h2 h3 k1 k2 k3 s
    grind
  rw [k, s, k1, k2, k3]
  clear e h1 h2 h3 k1 k2 k3 s k
  grind
/-- three numbers at once -/
theorem T1_three {a b c : Nat} {u v w : Int} (ha : 0 < a) (hb : 0 < b) (hc : 0 < c) (h1 : gc a b = 1) (h2 : gc b c = 1) (h3 : gc c a = 1)
    (hu : ((c : Int) * u) % (a : Int) = 1 % (a : Int)) (hv : ((a : Int) * v) % (b : Int) = 1 % (b : Int)) (hw : ((b : Int) * w) % (c : Int) = 1 % (c : Int)) :
    (b : Int) * c * T1 (b * u) a + c * a * T1 (c * v) b + a * b * T1 (a * w) c = a * a + b * b + c * c - 3 * (a * b * c) := by
  have g := three_count ha hb hc h1 h2 h3
  have f1 := Gf_T (b := b) ha hu
  have f2 := Gf_T (b := c) hb hv
  have f3 := Gf_T (b := a) hc hw
  have r1 := T1_any (p := a) (q := b) (by omega) (by omega) h1
  have r2 := T1_any (p := b) (q := c) (by omega) (by omega) h2
  have r3 := T1_any (p := c) (q := a) (by omega) (by omega) h3
  generalize Gf a b c = G1 at *
  generalize Gf b c a = G2 at *
  generalize Gf c a b = G3 at *
  generalize T1 (b * u) a = A at *
  generalize T1 (c * v) b = B at *
  generalize T1 (a * w) c = C at *
  generalize T1 (a : Int) b = t1 at *
  generalize T1 (b : Int) a = t2 at *
  generalize T1 (b : Int) c = t3 at *
  generalize T1 (c : Int) b = t4 at *
  generalize T1 (c : Int) a = t5 at *
  generalize T1 (a : Int) c = t6 at *
  generalize (a : Int) = a' at *
  generalize (b : Int) = b' at *
  generalize (c : Int) = c' at *
  clear hu hv hw ha hb hc h1 h2 h3
  have eA : A = 12 * (a' * G1) - 2 * b' * c' * (a' - 1) * (2 * a' - 1) + b' * t5 + c' * t2 + 3 * a' * (a' - 1) * (b' + c' - 1) := by
    rw [f1]
    clear f1 f2 f3 r1 r2 r3 g
    grind
  have eB : B = 12 * (b' * G2) - 2 * c' * a' * (b' - 1) * (2 * b' - 1) + c' * t1 + a' * t4 + 3 * b' * (b' - 1) * (c' + a' - 1) := by
    rw [f2]
    clear f1 f2 f3 r1 r2 r3 g eA
    grind
  have eC : C = 12 * (c' * G3) - 2 * a' * b' * (c' - 1) * (2 * c' - 1) + a' * t3 + b' * t6 + 3 * c' * (c' - 1) * (a' + b' - 1) := by
    rw [f3]
    clear f1 f2 f3 r1 r2 r3 g eA eB
    grind
  have big : b' * c' * A + c' * a' * B + a' * b' * C = 12 * (a' * b' * c') * (G1 + G2 + G3) + c' * c' * (a' * t1 + b' * t2) + a' * a' * (b' * t3 + c' * t4) + b' * b' * (c' * t5 + a' * t6)
      + (3 * (a' * b' * c') * ((a' - 1) * (b' + c' - 1) + (b' - 1) * (c' + a' - 1) + (c' - 1) * (a' + b' - 1)) - 2 * (b' * c' * (b' * c') * (a' - 1) * (2 * a' - 1) + c' * a' * (c' * a') * (b' - 1) * (2 * b' - 1) + a' * b' * (a' * b') * (c' - 1) * (2 * c' - 1))) := by
    rw [eA, eB, eC]
    clear f1 f2 f3 r1 r2 r3 g eA eB eC
    grind
  rw [big, g, r1, r2, r3]
  clear f1 f2 f3 r1 r2 r3 g eA eB eC big
  grind
end Tm

namespace Tm
/-! The greatest sums. -/
theorem sm_nonneg {f : Nat → Int} : ∀ n : Nat, (∀ i, i < n → 0 ≤ f i) → 0 ≤ sm f n
  | 0, _ => Int.le_refl 0
  | n + 1, h => Int.add_nonneg (sm_nonneg n fun i hi => h i (by omega)) (h n (by omega))
theorem sm_zero_all {f : Nat → Int} : ∀ n : Nat, (∀ i, i < n → 0 ≤ f i) → sm f n = 0 → ∀ i, i < n → f i = 0
  | 0, _, _, i, hi => by omega
  | n + 1, h, e, i, hi => by
    have e : sm f n + f n = 0 := e
    have h1 := sm_nonneg n fun i hi => h i (by omega)
    have h2 := h n (by omega)
    rcases Nat.lt_or_ge i n with z | z
    · exact sm_zero_all n (fun i hi => h i (by omega)) (by omega) i z
    · rw [show i = n by omega]
      omega
theorem sq_nonneg (x : Int) : 0 ≤ x * x := by
  rcases Int.le_total 0 x with h | h
  · exact Int.mul_nonneg h h
  · exact Int.mul_nonneg_of_nonpos_of_nonpos h h
/-- how far a sum is from the greatest one -/
theorem T1_far {a : Int} {n : Nat} (hn : 0 < n) (hg : gc a n = 1) : (n : Int) * (((n : Int) - 1) * ((n : Int) - 2) - T1 a n) = 6 * sm (fun i => ((i : Int) - rs a 0 n i) * ((i : Int) - rs a 0 n i)) n := by
  obtain ⟨v, hv⟩ := inv_int hn hg
  have p := perm_sum (a := a) (c := 0) hn hv (fun j => (j : Int) * j)
  have c : sm (fun i => (fun j : Nat => (j : Int) * j) ((a * (i : Int) + 0) % (n : Int)).toNat) n = sm (fun i => rs a 0 n i * rs a 0 n i) n := sm_congr n fun i _ => by
    have r0 := Int.emod_nonneg (a * (i : Int) + 0) (show (n : Int) ≠ 0 by omega)
    show ((((a * (i : Int) + 0) % (n : Int)).toNat : Nat) : Int) * ((((a * (i : Int) + 0) % (n : Int)).toNat : Nat) : Int) = _
    rw [show ((((a * (i : Int) + 0) % (n : Int)).toNat : Nat) : Int) = (a * (i : Int) + 0) % (n : Int) by omega]
    rfl
  rw [c, sixth_sm] at p
  have e : sm (fun i => ((i : Int) - rs a 0 n i) * ((i : Int) - rs a 0 n i)) n = sixth n - 2 * sm (fun i => (i : Int) * rs a 0 n i) n + sixth n := by
    rw [← sixth_sm, ← sm_mul, ← sm_sub]
    conv => rhs; rhs; rw [sixth_sm, ← p]
    rw [← sm_add]
    refine sm_congr n fun i _ => ?_
    grind
  have h1 := T1_rests (a := a) hn
  have s := six_sixth n
  rw [e, Int.mul_sub, h1]
  generalize sm (fun i => (i : Int) * rs a 0 n i) n = Q at *
  generalize sixth (n : Int) = S at *
  clear e p c hv h1
  have : 6 * (S - 2 * Q + S) = 2 * (6 * S) - 12 * Q := by grind
  rw [this, s]
  clear this s
  grind
theorem T1_le {a : Int} {n : Nat} (hn : 0 < n) (hg : gc a n = 1) : T1 a n ≤ ((n : Int) - 1) * ((n : Int) - 2) := by
  have f := T1_far hn hg
  have p := sm_nonneg n fun i (_ : i < n) => sq_nonneg ((i : Int) - rs a 0 n i)
  rcases Int.lt_or_le (((n : Int) - 1) * ((n : Int) - 2) - T1 a n) 0 with h | h
  · have := Int.mul_lt_mul_of_pos_left h (show 0 < (n : Int) by omega)
    omega
  · omega
theorem T1_ge {a : Int} {n : Nat} (hn : 0 < n) (hg : gc a n = 1) : -(((n : Int) - 1) * ((n : Int) - 2)) ≤ T1 a n := by
  have h := T1_le (a := -a) hn (by rw [gc_neg]; exact hg)
  rw [T1_neg hn hg] at h
  omega
theorem T1_eq {a : Int} {n : Nat} (hn : 1 < n) (hg : gc a n = 1) (h : T1 a n = ((n : Int) - 1) * ((n : Int) - 2)) : a % n = 1 := by
  have f := T1_far (by omega) hg
  rw [h, Int.sub_self, Int.mul_zero] at f
  have z := sm_zero_all n (fun i (_ : i < n) => sq_nonneg ((i : Int) - rs a 0 n i)) (by omega) 1 hn
  have z1 : ((1 : Nat) : Int) - rs a 0 n 1 = 0 := by
    rcases Int.mul_eq_zero.mp z with z | z <;> exact z
  unfold rs at z1
  rw [show a * ((1 : Nat) : Int) + 0 = a by omega] at z1
  omega
theorem T1_eq_neg {a : Int} {n : Nat} (hn : 1 < n) (hg : gc a n = 1) (h : T1 a n = -(((n : Int) - 1) * ((n : Int) - 2))) : a % n = n - 1 := by
  have e := T1_eq (a := -a) hn (by rw [gc_neg]; exact hg) (by rw [T1_neg (by omega) hg]; omega)
  have d : (n : Int) ∣ (-a - 1) := by
    obtain ⟨k, hk⟩ : ∃ k, k = (-a) / n := ⟨_, rfl⟩
    have := Int.emod_add_mul_ediv (-a) n
    exact ⟨k, by rw [hk]; omega⟩
  obtain ⟨k, hk⟩ := d
  have : a = (n - 1) + n * (-k - 1) := by
    rw [Int.mul_sub, Int.mul_neg]
    omega
  rw [this, Int.add_mul_emod_self_left]
  exact Int.emod_eq_of_lt (by omega) (by omega)
theorem T1_max {n : Int} (hn : 1 < n) : T1 1 n = (n - 1) * (n - 2) := by
  have h := TT_unit (l := 1) (k := n) (by decide) hn
  rw [Int.one_mul, Int.one_mul] at h
  have g : gc 1 n = 1 := gc_one
  unfold TT at h
  rw [g, Int.ediv_one, Int.ediv_one, Int.one_mul] at h
  rw [h]
  grind
/-- of all pairs with one second number -/
theorem TT_bound {a b : Int} (hb : 0 < b) : TT a b ≤ (b - 1) * (b - 2) ∧ -((b - 1) * (b - 2)) ≤ TT a b := by
  obtain ⟨x, y, hx, hy, y0, ex, ey, h1⟩ := gc_parts (a := a) hb
  have g0 := gc_pos (a := a) hb
  obtain ⟨n, rfl⟩ : ∃ n : Nat, y = n := ⟨y.toNat, by omega⟩
  have l := T1_le (by omega) h1
  have g := T1_ge (by omega) h1
  unfold TT
  rw [ex, ey]
  have m1 := Int.mul_le_mul_of_nonneg_left l (show 0 ≤ gc a b by omega)
  have m2 := Int.mul_le_mul_of_nonneg_left g (show 0 ≤ gc a b by omega)
  have k : gc a b * (((n : Int) - 1) * ((n : Int) - 2)) ≤ (b - 1) * (b - 2) := by
    conv => rhs; rw [hy]
    generalize gc a b = G at *
    have d : (G * (n : Int) - 1) * (G * n - 2) - G * ((n - 1) * (n - 2)) = (G - 1) * (G * (n * n) - 2) := by
      clear l g m1 m2 hx hy ex ey
      grind
    have e0 : 0 ≤ (G - 1) * (G * ((n : Int) * n) - 2) := by
      rcases Int.lt_or_le 1 G with z | z
      · have nn : 0 < (n : Int) * n := Int.mul_pos (by omega) (by omega)
        have h1 : (2 : Int) * 1 ≤ G * ((n : Int) * n) := Int.mul_le_mul (by omega) (by omega) (by omega) (by omega)
        exact Int.mul_nonneg (by omega) (by omega)
      · rw [show G = 1 by omega, Int.sub_self, Int.zero_mul]
        exact Int.le_refl 0
    omega
  rw [Int.mul_neg] at m2
  exact ⟨by omega, by omega⟩
end Tm

namespace Tm
/-! The definition, for pairs with a common factor too. -/
theorem sm_block (f : Nat → Int) (k : Nat) : ∀ t : Nat, sm f (k * t) = sm (fun s => sm (fun j => f (k * s + j)) k) t
  | 0 => rfl
  | t + 1 => by
    rw [Nat.mul_succ, sm_app, sm_block f k t]
    rfl
/-- one product of the definition, times four squares -/
def Pd (a b : Int) (k : Nat) : Int := if 0 < rs a 0 b k then (2 * (k : Int) - b) * (2 * rs a 0 b k - b) else 0
theorem Pd_zero {a b : Int} : Pd a b 0 = 0 := by
  unfold Pd rs
  rw [show a * ((0 : Nat) : Int) + 0 = 0 by rw [Int.natCast_zero, Int.mul_zero, Int.add_zero], Int.zero_emod, if_neg (by decide)]
theorem Pd_all {a : Int} {b : Nat} (hb : 0 < b) : 3 * sm (Pd a b) b = b * TT a b := by
  obtain ⟨x, y', hx, hy, y0, ex, ey, h1⟩ := gc_parts (a := a) (b := (b : Int)) (by omega)
  have g0 := gc_pos (a := a) (b := (b : Int)) (by omega)
  obtain ⟨g, hg⟩ : ∃ g : Nat, gc a b = g := ⟨(gc a b).toNat, by omega⟩
  obtain ⟨y, rfl⟩ : ∃ y : Nat, y' = y := ⟨y'.toNat, by omega⟩
  have hT : TT a b = g * T1 x y := by
    unfold TT
    rw [ex, ey, hg]
  rw [hg] at hx hy g0
  have eb : b = y * g := by
    have : ((y * g : Nat) : Int) = (g : Int) * y := by rw [Int.natCast_mul, Int.mul_comm]
    omega
  have rk : ∀ s j : Nat, j < y → rs a 0 b (y * s + j) = g * rs x 0 y j := fun s j _ => by
    unfold rs
    rw [hx, hy, Int.add_zero, Int.add_zero]
    have e1 : (g : Int) * x * ((y * s + j : Nat) : Int) = g * (x * (j : Int) + y * (x * (s : Int))) := by
      rw [Int.natCast_add, Int.natCast_mul]
      clear hT hx hy eb
      grind
    rw [e1, Int.mul_emod_mul_of_pos _ _ (by omega), Int.add_mul_emod_self_left]
  have yp : 0 < y := by omega
  have z0 : ∀ j : Nat, j < y → (0 < rs x 0 y j ↔ j ≠ 0) := fun j hj => by
    have r0 : 0 ≤ rs x 0 y j := Int.emod_nonneg _ (by omega)
    constructor
    · intro h z
      subst z
      unfold rs at h
      rw [show x * ((0 : Nat) : Int) + 0 = 0 by rw [Int.natCast_zero, Int.mul_zero, Int.add_zero], Int.zero_emod] at h
      exact absurd h (by decide)
    · intro z
      have nz := cop_rest (a := x) (b := y) (k := j) (by omega) h1 (by omega) (by omega)
      unfold rs at r0 ⊢
      rw [Int.add_zero] at r0 ⊢
      omega
  have inner : ∀ s j : Nat, j < y → Pd a b (y * s + j) = if j ≠ 0 then (2 * ((y : Int) * s + j) - g * y) * (g * (2 * rs x 0 y j - y)) else 0 := fun s j hj => by
    unfold Pd
    rw [rk s j hj, hy]
    by_cases z : j ≠ 0
    · have p := (z0 j hj).mpr z
      rw [if_pos (Int.mul_pos (by omega) p), if_pos z, Int.natCast_add, Int.natCast_mul]
      generalize rs x 0 y j = r
      clear hT hx hy eb rk z0
      grind
    · have p : ¬ 0 < rs x 0 y j := fun h => z ((z0 j hj).mp h)
      have r0 : 0 ≤ rs x 0 y j := Int.emod_nonneg _ (by omega)
      rw [show rs x 0 y j = 0 by omega, Int.mul_zero, if_neg (by decide), if_neg z]
  have s1 : sm (Pd a b) b = (g : Int) * g * sm (fun j => if j ≠ 0 then (2 * (j : Int) - y) * (2 * rs x 0 y j - y) else 0) y := by
    conv => lhs; rhs; rw [eb]
    rw [sm_block]
    have e1 : sm (fun s => sm (fun j => Pd a b (y * s + j)) y) g = sm (fun s => sm (fun j => if j ≠ 0 then (2 * ((y : Int) * s + j) - g * y) * (g * (2 * rs x 0 y j - y)) else 0) y) g :=
      sm_congr _ fun s _ => sm_congr _ fun j hj => inner s j hj
    rw [e1, sm_swap, ← sm_mul]
    refine sm_congr _ fun j hj => ?_
    by_cases z : j ≠ 0
    · simp only [if_pos z]
      have e2 : sm (fun s => (2 * ((y : Int) * s + j) - g * y) * (g * (2 * rs x 0 y j - y))) g = (g * (2 * rs x 0 y j - y)) * (y * (2 * sm (fun i => (i : Int)) g) + (2 * (j : Int) - g * y) * g) := by
        rw [← sm_mul, ← sm_mul, ← sm_const (2 * (j : Int) - g * y) g, ← sm_add, ← sm_mul]
        refine sm_congr _ fun s _ => ?_
        generalize rs x 0 y j = r
        clear hT hx hy eb rk z0 inner
        grind
      rw [e2, sm_id]
      generalize rs x 0 y j = r
      clear hT hx hy eb rk z0 inner e1 e2
      grind
    · simp only [if_neg z]
      rw [sm_const, Int.zero_mul, Int.mul_zero]
  have s2 : sm (fun j => if j ≠ 0 then (2 * (j : Int) - y) * (2 * rs x 0 y j - y) else 0) y = sm (fun j => (2 * ((1 + j : Nat) : Int) - y) * (2 * rs x 0 y (1 + j) - y)) (y - 1) := by
    rw [sm_from1 (by rfl) yp]
    refine sm_congr _ fun j _ => ?_
    rw [if_pos (by omega)]
  have pe := plain_eq yp h1
  rw [s1, s2, hT]
  generalize sm (fun j => (2 * ((1 + j : Nat) : Int) - y) * (2 * rs x 0 y (1 + j) - y)) (y - 1) = S at *
  have : 3 * ((g : Int) * g * S) = g * g * (3 * S) := by grind
  rw [this, pe]
  have e3 : ((y * g : Nat) : Int) = (y : Int) * g := Int.natCast_mul ..
  rw [eb, e3]
  clear this pe s1 s2 inner rk z0 hT hx hy eb e3
  grind
end Tm

namespace Tm
/-! Ways of two steps. -/
theorem inv_same {a b n v w : Int} (hv : (a * v) % b = 1 % b) (hw : (a * w) % b = 1 % b) : (n * v) % b = (n * w) % b := by
  have h1 := Int.dvd_of_emod_eq_zero (Int.emod_eq_emod_iff_emod_sub_eq_zero.mp hv)
  have h2 := Int.dvd_of_emod_eq_zero (Int.emod_eq_emod_iff_emod_sub_eq_zero.mp hw)
  obtain ⟨x, hx⟩ := h1
  obtain ⟨y, hy⟩ := h2
  refine Int.emod_eq_emod_iff_emod_sub_eq_zero.mpr (Int.emod_eq_zero_of_dvd ⟨n * (w * x - v * y), ?_⟩)
  have e1 : b * (n * (w * x - v * y)) = n * (w * (b * x) - v * (b * y)) := by grind
  rw [e1, ← hx, ← hy]
  clear hv hw hx hy e1
  grind
def Wy (a b n x : Int) : Int := if 0 ≤ n - x * a then (n - x * a) / (a * b) + 1 else 0
theorem wy_dvd {a b n v : Int} (hv : (a * v) % b = 1 % b) : b ∣ n - n * v % b * a := by
  obtain ⟨x, hx⟩ := Int.dvd_of_emod_eq_zero (Int.emod_eq_emod_iff_emod_sub_eq_zero.mp hv)
  have e := Int.emod_add_mul_ediv (n * v) b
  obtain ⟨q, hq⟩ : ∃ q, q = n * v / b := ⟨_, rfl⟩
  have er : n * v % b = n * v - b * q := by rw [hq]; omega
  refine ⟨q * a - n * x, ?_⟩
  rw [er]
  have e1 : b * (q * a - n * x) = b * q * a - n * (b * x) := by grind
  rw [e1, ← hx]
  clear hv hx e er hq e1
  grind
/-- the ways, from both rests -/
theorem wy_key {a b n u v : Int} (ha : 0 < a) (hb : 0 < b) (hn : 0 ≤ n) (hv : (a * v) % b = 1 % b) (hu : (b * u) % a = 1 % a) :
    Wy a b n (n * v % b) * (a * b) = n - n * u % a * b - n * v % b * a + a * b := by
  have u0 := Int.emod_nonneg (n * u) (show a ≠ 0 by omega)
  have u1 := Int.emod_lt_of_pos (n * u) ha
  have v0 := Int.emod_nonneg (n * v) (show b ≠ 0 by omega)
  have v1 := Int.emod_lt_of_pos (n * v) hb
  obtain ⟨y, hy⟩ := wy_dvd (n := n) hv
  -- y goes with the other rest
  have yu : y % a = n * u % a := by
    obtain ⟨z, hz⟩ := wy_dvd (n := n) hu
    have e : b * (y - n * u % a) = a * (z - n * v % b) := by
      rw [Int.mul_sub, Int.mul_sub, ← hy, ← hz, Int.mul_comm b, Int.mul_comm a]
      omega
    obtain ⟨x, hx⟩ := Int.dvd_of_emod_eq_zero (Int.emod_eq_emod_iff_emod_sub_eq_zero.mp hu)
    have d : a ∣ y - n * u % a := ⟨u * (z - n * v % b) - x * (y - n * u % a), by
      have e1 : a * (u * (z - n * v % b) - x * (y - n * u % a)) = u * (a * (z - n * v % b)) - (a * x) * (y - n * u % a) := by grind
      rw [e1, ← e, ← hx]
      clear e e1 hx hz hy hu hv
      grind⟩
    have := Int.emod_eq_emod_iff_emod_sub_eq_zero.mpr (Int.emod_eq_zero_of_dvd d)
    rw [this, Int.emod_emod_of_dvd _ (Int.dvd_refl _)]
  generalize n * u % a = U at *
  generalize n * v % b = V at *
  unfold Wy
  rw [hy]
  have q := Int.emod_add_mul_ediv y a
  rw [yu] at q
  have dv : b * y / (a * b) = y / a := by rw [Int.mul_comm a b, Int.mul_ediv_mul_of_pos _ _ hb]
  split
  · rename_i h
    rw [dv]
    generalize y / a = t at *
    have : n = b * y + V * a := by omega
    rw [this, ← q]
    clear hv hu hy yu dv q this h
    grind
  · rename_i h
    have h : b * y < 0 := by omega
    have y0 : y < 0 := by
      rcases Int.lt_or_le y 0 with z | z
      · exact z
      · have := Int.mul_nonneg (show 0 ≤ b by omega) z
        omega
    have y1 : -a < y := by
      rcases Int.lt_or_le (-a) y with z | z
      · exact z
      · have h1 := Int.mul_le_mul_of_nonneg_left z (show 0 ≤ b by omega)
        have h2 := Int.mul_le_mul_of_nonneg_right (show V ≤ b - 1 by omega) (show 0 ≤ a by omega)
        rw [Int.mul_neg] at h1
        rw [Int.sub_mul, Int.one_mul] at h2
        omega
    have t : y / a = -1 := (dm (q := -1) (r := y + a) (by omega) (by omega) (by omega)).1
    rw [t] at q
    have e : n = b * y + V * a := by omega
    rw [e, Int.zero_mul]
    have e2 : U = y + a := by omega
    rw [e2]
    clear hv hu hy yu dv q h e e2 t
    grind
theorem wy_neg {a b n x : Int} (ha : 0 < a) (hx : 0 ≤ x) (hn : n < 0) : Wy a b n x = 0 := by
  unfold Wy
  have := Int.mul_nonneg hx (show 0 ≤ a by omega)
  rw [if_neg (by omega)]
theorem wy_sym {a b n u v : Int} (ha : 0 < a) (hb : 0 < b) (hv : (a * v) % b = 1 % b) (hu : (b * u) % a = 1 % a) : Wy b a n (n * u % a) = Wy a b n (n * v % b) := by
  have ab0 : 0 < a * b := Int.mul_pos ha hb
  rcases Int.lt_or_le n 0 with h | h
  · rw [wy_neg hb (Int.emod_nonneg _ (by omega)) h, wy_neg ha (Int.emod_nonneg _ (by omega)) h]
  · have k1 := wy_key ha hb h hv hu
    have k2 := wy_key hb ha h hu hv
    rw [Int.mul_comm b a] at k2
    exact Int.eq_of_mul_eq_mul_right (show a * b ≠ 0 by omega) (by omega)
theorem wy_pos {a b n x : Int} (ha : 0 < a) (hb : 0 < b) : 0 < Wy a b n x ↔ x * a ≤ n := by
  unfold Wy
  split
  · rename_i h
    have := Int.ediv_nonneg h (show 0 ≤ a * b by have := Int.mul_pos ha hb; omega)
    exact ⟨fun _ => by omega, fun _ => by omega⟩
  · exact ⟨fun h => absurd h (by omega), fun h => by omega⟩
theorem wy_opp {a b n v : Int} (ha : 0 < a) (hb : 0 < b) (hv : (a * v) % b = 1 % b) : ((a * b - a - b - n) * v % b) * a ≤ a * b - a - b - n ↔ ¬ (n * v % b) * a ≤ n := by
  have v0 := Int.emod_nonneg (n * v) (show b ≠ 0 by omega)
  have v1 := Int.emod_lt_of_pos (n * v) hb
  have e : (a * b - a - b - n) * v % b = b - 1 - n * v % b := by
    obtain ⟨x, hx⟩ := Int.dvd_of_emod_eq_zero (Int.emod_eq_emod_iff_emod_sub_eq_zero.mp hv)
    have q := Int.emod_add_mul_ediv (n * v) b
    obtain ⟨t, ht⟩ : ∃ t, t = n * v / b := ⟨_, rfl⟩
    rw [← ht] at q
    refine (dm (q := a * v - v - x - t - 1) ?_ (by omega) (by omega)).2
    have e1 : (a * b - a - b - n) * v = b * (a * v) - (a * v - 1) - 1 - b * v - n * v := by grind
    rw [e1, hx]
    generalize n * v % b = V at *
    have q' : n * v = V + b * t := by omega
    rw [q']
    clear hv hx q q' ht e1 v0 v1
    grind
  rw [e]
  obtain ⟨y, hy⟩ := wy_dvd (n := n) hv
  generalize n * v % b = V at *
  have e2 : (b - 1 - V) * a = a * b - a - V * a := by grind
  rw [e2]
  constructor
  · intro h z
    have : 0 ≤ b * y := by omega
    omega
  · intro h
    have h1 : b * y < 0 := by omega
    have y0 : y ≤ -1 := by
      rcases Int.lt_or_le y 0 with z | z
      · omega
      · have := Int.mul_nonneg (show 0 ≤ b by omega) z
        omega
    have := Int.mul_le_mul_of_nonneg_left y0 (show 0 ≤ b by omega)
    rw [Int.mul_neg, Int.mul_one] at this
    omega
theorem wy_next {a b n v : Int} (ha : 0 < a) (hb : 0 < b) (hn : 0 ≤ n) (hg : gc a b = 1) (hv : (a * v) % b = 1 % b) : Wy a b (n + a * b) ((n + a * b) * v % b) = Wy a b n (n * v % b) + 1 := by
  obtain ⟨u, hu⟩ := inv_gen (a := b) (b := a) ha (by rw [gc_comm]; exact hg)
  have ab0 : 0 < a * b := Int.mul_pos ha hb
  have k1 := wy_key ha hb hn hv hu
  have k2 := wy_key (n := n + a * b) ha hb (by omega) hv hu
  have e1 : (n + a * b) * v % b = n * v % b := by
    rw [show (n + a * b) * v = n * v + b * (a * v) by grind, Int.add_mul_emod_self_left]
  have e2 : (n + a * b) * u % a = n * u % a := by
    rw [show (n + a * b) * u = n * u + a * (b * u) by grind, Int.add_mul_emod_self_left]
  rw [e1, e2] at k2
  rw [e1]
  refine Int.eq_of_mul_eq_mul_right (show a * b ≠ 0 by omega) ?_
  rw [Int.add_mul, Int.one_mul, k1, k2]
  omega
theorem wy_two {a b n u v : Int} (ha : 0 < a) (hb : 0 < b) (hn : 0 ≤ n) (hv : (a * v) % b = 1 % b) (hu : (b * u) % a = 1 % a) : Wy a b n (n * v % b) = n / (a * b) ∨ Wy a b n (n * v % b) = n / (a * b) + 1 := by
  have k1 := wy_key ha hb hn hv hu
  have u0 := Int.emod_nonneg (n * u) (show a ≠ 0 by omega)
  have u1 := Int.emod_lt_of_pos (n * u) ha
  have v0 := Int.emod_nonneg (n * v) (show b ≠ 0 by omega)
  have v1 := Int.emod_lt_of_pos (n * v) hb
  have ab0 : 0 < a * b := Int.mul_pos ha hb
  have q := Int.mul_ediv_add_emod n (a * b)
  have r0 := Int.emod_nonneg n (show a * b ≠ 0 by omega)
  have r1 := Int.emod_lt_of_pos n ab0
  have m1 := Int.mul_nonneg u0 (show 0 ≤ b by omega)
  have m2 := Int.mul_nonneg v0 (show 0 ≤ a by omega)
  have m3 := Int.mul_le_mul_of_nonneg_right (show n * u % a ≤ a - 1 by omega) (show 0 ≤ b by omega)
  have m4 := Int.mul_le_mul_of_nonneg_right (show n * v % b ≤ b - 1 by omega) (show 0 ≤ a by omega)
  rw [Int.sub_mul, Int.one_mul] at m3 m4
  rw [Int.mul_comm b a] at m4
  generalize n * u % a * b = x at *
  generalize n * v % b * a = y at *
  generalize n / (a * b) = t at *
  generalize n % (a * b) = r at *
  generalize Wy a b n (n * v % b) = W at *
  have b1 : W * (a * b) < (t + 2) * (a * b) := by
    rw [k1, Int.add_mul, Int.mul_comm t]
    omega
  have b2 : (t - 1) * (a * b) < W * (a * b) := by
    rw [k1, Int.sub_mul, Int.mul_comm t, Int.one_mul]
    omega
  have c1 := Int.lt_of_mul_lt_mul_right b1 (by omega)
  have c2 := Int.lt_of_mul_lt_mul_right b2 (by omega)
  omega
end Tm

namespace Tm
/-! Totals of rows. -/
theorem sm_per1 {f : Int → Int} {n : Nat} (h : ∀ x, f (x + n) = f x) (s : Int) : sm (fun i => f ((i : Int) + (s + 1))) n = sm (fun i => f ((i : Int) + s)) n := by
  have e : ∀ k : Nat, sm (fun i => f ((i : Int) + (s + 1))) k + f s = sm (fun i => f ((i : Int) + s)) k + f ((k : Int) + s) := fun k => by
    induction k with
    | zero =>
      show 0 + f s = 0 + f ((0 : Int) + s)
      rw [Int.zero_add s]
    | succ k ih =>
      show sm (fun i => f ((i : Int) + (s + 1))) k + f ((k : Int) + (s + 1)) + f s = sm (fun i => f ((i : Int) + s)) k + f ((k : Int) + s) + f (((k + 1 : Nat) : Int) + s)
      rw [show ((k + 1 : Nat) : Int) + s = k + (s + 1) by omega]
      omega
  have e := e n
  rw [show (n : Int) + s = s + n by omega, h s] at e
  omega
theorem sm_per {f : Int → Int} {n : Nat} (h : ∀ x, f (x + n) = f x) (s : Int) : sm (fun i => f ((i : Int) + s)) n = sm (fun i => f (i : Int)) n := by
  have p : ∀ k : Nat, sm (fun i => f ((i : Int) + (k : Int))) n = sm (fun i => f (i : Int)) n := fun k => by
    induction k with
    | zero => exact sm_congr n fun i hi => by rw [show (i : Int) + ((0 : Nat) : Int) = i by omega]
    | succ k ih =>
      rw [← ih, ← sm_per1 h (k : Int)]
      exact sm_congr n fun i hi => by rw [show (i : Int) + ((k + 1 : Nat) : Int) = i + (k + 1) by omega]
  have m : ∀ k : Nat, sm (fun i => f ((i : Int) + -(k : Int))) n = sm (fun i => f (i : Int)) n := fun k => by
    induction k with
    | zero => exact sm_congr n fun i hi => by rw [show (i : Int) + -((0 : Nat) : Int) = i by omega]
    | succ k ih =>
      rw [← ih, ← sm_per1 h (-((k + 1 : Nat) : Int))]
      exact sm_congr n fun i hi => by rw [show (i : Int) + (-((k + 1 : Nat) : Int) + 1) = i + -(k : Int) by omega]
  rcases Int.natAbs_eq s with e | e
  · rw [e]
    exact p _
  · rw [e]
    exact m _
theorem TT_per {b : Nat} (hb : 0 < b) (x : Int) : TT (x + b) b = TT x b := by
  rw [← TT_mod (by omega), Int.add_emod_right, TT_mod (by omega)]
theorem TT_lift {b x k : Int} (hb : 0 < b) : TT (x + b * k) b = TT x b := by
  rw [← TT_mod hb, Int.add_mul_emod_self_left, TT_mod hb]
@[irreducible] def Rr (b : Nat) (s : Int) : Int := sm (fun a => TT a b * TT (a + s) b) b
theorem Rr_neg {b : Nat} (hb : 0 < b) (s : Int) : Rr b (-s) = Rr b s := by
  have h := sm_per (f := fun x => TT x b * TT (x + s) b) (n := b) (fun x => by
    show TT (x + b) b * TT (x + b + s) b = _
    rw [TT_per hb, show x + b + s = x + s + b by omega, TT_per hb]) (-s)
  unfold Rr
  rw [← h]
  refine sm_congr b fun i hi => ?_
  rw [show (i : Int) + -s + s = i by omega, Int.mul_comm]
theorem Rr_add {b : Nat} (hb : 0 < b) (s k : Int) : Rr b (s + b * k) = Rr b s := by
  unfold Rr
  refine sm_congr b fun i hi => ?_
  rw [← Int.add_assoc, TT_lift (by omega)]
theorem Rr_mod {b : Nat} (hb : 0 < b) (s : Int) : Rr b (s % b) = Rr b s := by
  have e := Int.emod_add_mul_ediv s b
  rw [← Rr_add hb (s % b) (s / b), e]
theorem sq_nn (x : Int) : 0 ≤ x * x := sq_nonneg x
theorem Rr_le {b : Nat} (hb : 0 < b) (s : Int) : Rr b s ≤ Rr b 0 := by
  have h := sm_per (f := fun x => TT x b * TT x b) (n := b) (fun x => by
    show TT (x + b) b * TT (x + b) b = _
    rw [TT_per hb]) s
  have n := sm_nonneg (f := fun i : Nat => (TT i b - TT (i + s) b) * (TT i b - TT (i + s) b)) b fun i _ => sq_nn _
  have e : sm (fun i : Nat => (TT i b - TT (i + s) b) * (TT i b - TT (i + s) b)) b = sm (fun i : Nat => TT i b * TT i b) b + sm (fun i : Nat => TT (i + s) b * TT (i + s) b) b + -2 * Rr b s := by
    unfold Rr
    rw [← sm_mul, ← sm_add, ← sm_add]
    refine sm_congr b fun i hi => ?_
    generalize TT (i : Int) b = x
    generalize TT ((i : Int) + s) b = y
    clear h n
    grind
  have z : Rr b 0 = sm (fun i : Nat => TT i b * TT i b) b := by
    unfold Rr
    refine sm_congr b fun i hi => ?_
    rw [Int.add_zero]
  have h : sm (fun i : Nat => TT (i + s) b * TT (i + s) b) b = sm (fun i : Nat => TT i b * TT i b) b := h
  rw [e, h, ← z] at n
  omega
theorem TT_total {b : Nat} (hb : 0 < b) : sm (fun a : Nat => TT a b) b = 0 := by
  have r := sm_rev (fun a : Nat => TT a b) b
  have h : sm (fun a : Nat => TT ((a : Int) + 1) b) b = sm (fun a : Nat => TT a b) b := sm_per (f := fun x => TT x b) (n := b) (fun x => TT_per hb x) 1
  have e : sm (fun i => (fun a : Nat => TT a b) (b - 1 - i)) b = - sm (fun a : Nat => TT ((a : Int) + 1) b) b := by
    rw [← sm_neg]
    refine sm_congr b fun i hi => ?_
    show TT ((b - 1 - i : Nat) : Int) b = _
    rw [← TT_neg (by omega), ← TT_per hb (-((i : Int) + 1)), show -((i : Int) + 1) + (b : Int) = ((b - 1 - i : Nat) : Int) by omega]
  rw [e, h] at r
  omega
theorem Rr_total {b : Nat} (hb : 0 < b) : sm (fun s : Nat => Rr b s) b = 0 := by
  unfold Rr
  rw [sm_swap (fun s a => TT (a : Int) b * TT ((a : Int) + (s : Int)) b)]
  have e : ∀ a : Nat, sm (fun s : Nat => TT (a : Int) b * TT ((a : Int) + (s : Int)) b) b = 0 := fun a => by
    rw [sm_mul]
    have h : sm (fun s : Nat => TT ((s : Int) + (a : Int)) b) b = sm (fun s : Nat => TT (s : Int) b) b := sm_per (f := fun x => TT x b) (n := b) (fun x => TT_per hb x) a
    have h2 : sm (fun s : Nat => TT ((a : Int) + (s : Int)) b) b = sm (fun s : Nat => TT ((s : Int) + (a : Int)) b) b := sm_congr b fun i hi => by rw [Int.add_comm]
    rw [h2, h, TT_total hb, Int.mul_zero]
  rw [sm_congr (g := fun _ => 0) b fun i hi => e i, sm_const, Int.zero_mul]
theorem sm_ge {f : Nat → Int} : ∀ n : Nat, (∀ i, i < n → 0 ≤ f i) → ∀ j, j < n → f j ≤ sm f n
  | 0, _, j, hj => by omega
  | n + 1, h, j, hj => by
    have h1 := sm_nonneg n fun i hi => h i (by omega)
    have h2 := h n (by omega)
    show f j ≤ sm f n + f n
    rcases Nat.lt_or_ge j n with z | z
    · have := sm_ge n (fun i hi => h i (by omega)) j z
      omega
    · rw [show j = n by omega]
      omega
theorem TT_maxM {b : Int} (hb : 1 < b) : TT 1 b = (b - 1) * (b - 2) := by
  have := TT_unit (l := 1) (k := b) (by decide) hb
  rw [Int.one_mul, Int.one_mul] at this
  rw [this]
  clear this
  grind
theorem Rr_great {b : Nat} (hb : 2 < b) : 2 * ((((b : Int) - 1) * (b - 2)) * (((b : Int) - 1) * (b - 2))) ≤ Rr b 0 := by
  obtain ⟨n, rfl⟩ : ∃ n, b = n + 1 := ⟨b - 1, by omega⟩
  have t1 := TT_maxM (b := ((n + 1 : Nat) : Int)) (by omega)
  have t2 : TT (n : Int) ((n + 1 : Nat) : Int) = - TT 1 ((n + 1 : Nat) : Int) := by
    rw [← TT_neg (by omega), ← TT_per (b := n + 1) (by omega) (-1), show (-1 : Int) + ((n + 1 : Nat) : Int) = n by omega]
  have z : Rr (n + 1) 0 = sm (fun i : Nat => TT i ((n + 1 : Nat) : Int) * TT i ((n + 1 : Nat) : Int)) (n + 1) := by
    unfold Rr
    refine sm_congr (n + 1) fun i hi => ?_
    rw [Int.add_zero]
  have g := sm_ge (f := fun i : Nat => TT i ((n + 1 : Nat) : Int) * TT i ((n + 1 : Nat) : Int)) n (fun i _ => sq_nn _) 1 (by omega)
  have g : TT 1 ((n + 1 : Nat) : Int) * TT 1 ((n + 1 : Nat) : Int) ≤ sm (fun i : Nat => TT i ((n + 1 : Nat) : Int) * TT i ((n + 1 : Nat) : Int)) n := g
  have l : sm (fun i : Nat => TT i ((n + 1 : Nat) : Int) * TT i ((n + 1 : Nat) : Int)) (n + 1) = sm (fun i : Nat => TT i ((n + 1 : Nat) : Int) * TT i ((n + 1 : Nat) : Int)) n + TT (n : Int) ((n + 1 : Nat) : Int) * TT (n : Int) ((n + 1 : Nat) : Int) := rfl
  rw [z, l, t2, ← t1, Int.neg_mul_neg]
  omega
end Tm

namespace Tm
/-! Teeth and bends in equal steps. -/
def tth (n d : Int) : Int := if n % d = 0 then 0 else 2 * (n % d) - d
def bnd (n d : Int) : Int := 6 * (n % d) * (n % d - d) + d * d
theorem tth_per {D : Nat} (x : Int) : tth (x + D) D = tth x D := by
  unfold tth
  rw [Int.add_emod_right]
theorem bnd_per {D : Nat} (x : Int) : bnd (x + D) D = bnd x D := by
  unfold bnd
  rw [Int.add_emod_right]
theorem steps_any {f : Int → Int} {d m : Nat} (hd : 0 < d) (h : ∀ x, f (x + (d * m : Nat)) = f x) (n : Int) : sm (fun j => f (n + (j : Int) * d)) m = sm (fun j => f (n % d + (j : Int) * d)) m := by
  have g := sm_per (f := fun x => f (n % d + x * d)) (n := m) (fun x => by
    show f (n % d + (x + m) * d) = _
    rw [Int.add_mul, ← Int.add_assoc, show (m : Int) * d = ((d * m : Nat) : Int) by rw [Int.natCast_mul, Int.mul_comm], h]) (n / d)
  rw [← g]
  refine sm_congr m fun j _ => ?_
  have e := Int.emod_add_mul_ediv n d
  show f (n + (j : Int) * d) = f (n % d + ((j : Int) + n / d) * d)
  congr 1
  rw [Int.add_mul, Int.mul_comm (n / d)]
  omega
theorem rest_in {d m j : Nat} {n : Int} (hd : 0 < d) (hj : j < m) : (n % d + (j : Int) * d) % ((d * m : Nat) : Int) = n % d + (j : Int) * d := by
  have r0 := Int.emod_nonneg n (show (d : Int) ≠ 0 by omega)
  have r1 := Int.emod_lt_of_pos n (show 0 < (d : Int) by omega)
  have j0 : 0 ≤ (j : Int) * d := Int.mul_nonneg (by omega) (by omega)
  have j1 : ((j : Int) + 1) * d ≤ m * d := Int.mul_le_mul_of_nonneg_right (by omega) (by omega)
  rw [Int.add_mul, Int.one_mul] at j1
  refine Int.emod_eq_of_lt (by omega) ?_
  rw [Int.natCast_mul, Int.mul_comm (d : Int)]
  omega
theorem tth_steps {d m : Nat} (hd : 0 < d) (hm : 0 < m) (n : Int) : sm (fun j => tth (n + (j : Int) * d) ((d * m : Nat) : Int)) m = m * tth n d := by
  rw [steps_any (f := fun x => tth x ((d * m : Nat) : Int)) hd (fun x => tth_per x) n]
  obtain ⟨r, hr⟩ : ∃ r, r = n % d := ⟨_, rfl⟩
  have r0 := Int.emod_nonneg n (show (d : Int) ≠ 0 by omega)
  have e : sm (fun j => tth (n % d + (j : Int) * d) ((d * m : Nat) : Int)) m = sm (fun j => (2 * r - (d : Int) * m) + 2 * (d : Int) * (j : Int) + (if r = 0 ∧ j = 0 then (d : Int) * m else 0)) m := by
    refine sm_congr m fun j hj => ?_
    show tth _ _ = _
    unfold tth
    rw [rest_in hd hj, ← hr]
    have j0 : 0 ≤ (j : Int) * d := Int.mul_nonneg (by omega) (by omega)
    have dm : ((d * m : Nat) : Int) = (d : Int) * m := Int.natCast_mul ..
    by_cases z : r = 0
    · by_cases w : j = 0
      · subst w
        rw [if_pos (by rw [z]; omega), if_pos ⟨z, rfl⟩, z]
        omega
      · have : 0 < (j : Int) * d := Int.mul_pos (by omega) (by omega)
        rw [if_neg (by omega), if_neg (fun h => w h.2), dm, z]
        have : 2 * (d : Int) * j = 2 * ((j : Int) * d) := by rw [Int.mul_assoc, Int.mul_comm (d : Int)]
        omega
    · rw [if_neg (by omega), if_neg (fun h => z h.1), dm]
      have : 2 * (d : Int) * j = 2 * ((j : Int) * d) := by rw [Int.mul_assoc, Int.mul_comm (d : Int)]
      omega
  have e2 : sm (fun j => (if r = 0 ∧ j = 0 then (d : Int) * m else 0)) m = if r = 0 then (d : Int) * m else 0 := by
    obtain ⟨k, rfl⟩ : ∃ k, m = k + 1 := ⟨m - 1, by omega⟩
    by_cases z : r = 0
    · rw [if_pos z, Nat.add_comm k 1, sm_app]
      show 0 + (if r = 0 ∧ (0 : Nat) = 0 then (d : Int) * ((1 + k : Nat) : Int) else 0) + sm _ k = _
      rw [if_pos ⟨z, rfl⟩, sm_zero k fun i _ => if_neg fun h => by have := h.2; omega, Nat.add_comm 1 k]
      omega
    · rw [if_neg z, sm_zero (k + 1) fun i _ => if_neg fun h => z h.1]
  rw [e, sm_add, sm_add, sm_const, sm_mul, e2]
  have s := sm_id m
  unfold tth
  rw [← hr]
  generalize sm (fun i => (i : Int)) m = y at *
  by_cases z : r = 0
  · rw [if_pos z, if_pos z, z]
    clear e e2 hr
    grind
  · rw [if_neg z, if_neg z]
    clear e e2 hr
    grind
theorem bnd_steps {d m : Nat} (hd : 0 < d) (hm : 0 < m) (n : Int) : sm (fun j => bnd (n + (j : Int) * d) ((d * m : Nat) : Int)) m = m * bnd n d := by
  rw [steps_any (f := fun x => bnd x ((d * m : Nat) : Int)) hd (fun x => bnd_per x) n]
  obtain ⟨r, hr⟩ : ∃ r, r = n % d := ⟨_, rfl⟩
  have e : sm (fun j => bnd (n % d + (j : Int) * d) ((d * m : Nat) : Int)) m = sm (fun j => (6 * r * r - 6 * r * (d * m) + (d : Int) * m * (d * m)) + (12 * r * d - 6 * d * (d * m)) * (j : Int) + 6 * (d : Int) * d * ((j : Int) * j)) m := by
    refine sm_congr m fun j hj => ?_
    show bnd _ _ = _
    unfold bnd
    rw [rest_in hd hj, ← hr, Int.natCast_mul]
    clear hr
    grind
  rw [e, sm_add, sm_add, sm_const, sm_mul, sm_mul]
  have s := sm_id m
  have q := sm_sq m
  unfold bnd
  rw [← hr]
  generalize sm (fun i => (i : Int)) m = y at *
  generalize sm (fun i => (i : Int) * i) m = x at *
  clear e hr
  grind
end Tm

namespace Tm
/-! Teeth and bends of fractions. -/
theorem mod_cross {n d n2 d2 : Int} (h1 : 0 < d) (h2 : 0 < d2) (e : n * d2 = n2 * d) : (n % d) * d2 = (n2 % d2) * d := by
  have a1 : (n * d2) % (d * d2) = (n % d) * d2 := by rw [Int.mul_comm n, Int.mul_comm d, Int.mul_emod_mul_of_pos _ _ h2, Int.mul_comm]
  have a2 : (n2 * d) % (d2 * d) = (n2 % d2) * d := by rw [Int.mul_comm n2, Int.mul_comm d2, Int.mul_emod_mul_of_pos _ _ h1, Int.mul_comm]
  rw [← a1, ← a2, e, Int.mul_comm d d2]
theorem tth_cross {n d n2 d2 : Int} (h1 : 0 < d) (h2 : 0 < d2) (e : n * d2 = n2 * d) : tth n d * d2 = tth n2 d2 * d := by
  have c := mod_cross h1 h2 e
  unfold tth
  by_cases z : n % d = 0
  · have : n2 % d2 = 0 := by
      rw [z, Int.zero_mul] at c
      rcases Int.mul_eq_zero.mp c.symm with h | h
      · exact h
      · omega
    rw [if_pos z, if_pos this]
    omega
  · have : n2 % d2 ≠ 0 := fun h => by
      rw [h, Int.zero_mul] at c
      rcases Int.mul_eq_zero.mp c with h | h
      · exact z h
      · omega
    rw [if_neg z, if_neg this]
    generalize n % d = x at *
    generalize n2 % d2 = y at *
    grind
theorem bnd_cross {n d n2 d2 : Int} (h1 : 0 < d) (h2 : 0 < d2) (e : n * d2 = n2 * d) : bnd n d * (d2 * d2) = bnd n2 d2 * (d * d) := by
  have c := mod_cross h1 h2 e
  unfold bnd
  generalize n % d = x at *
  generalize n2 % d2 = y at *
  have e1 : (6 * x * (x - d) + d * d) * (d2 * d2) = 6 * (x * d2) * (x * d2 - d * d2) + d * d * (d2 * d2) := by grind
  have e2 : (6 * y * (y - d2) + d2 * d2) * (d * d) = 6 * (y * d) * (y * d - d * d2) + d * d * (d2 * d2) := by grind
  rw [e1, e2, c]
def Th (q : Rat) : Rat := Rat.divInt (tth q.num q.den) (2 * q.den)
def Bd (q : Rat) : Rat := Rat.divInt (bnd q.num q.den) (6 * q.den * q.den)
theorem den0 (q : Rat) : 0 < (q.den : Int) := by have := q.den_nz; omega
theorem crossD {n d : Int} (h : 0 < d) : n * ((Rat.divInt n d).den : Int) = (Rat.divInt n d).num * d := by
  obtain ⟨q, hq⟩ : ∃ q, q = Rat.divInt n d := ⟨_, rfl⟩
  have q0 := den0 q
  rw [← hq]
  exact (Rat.divInt_eq_divInt_iff (by omega) (by omega)).mp (by rw [← hq, Rat.num_divInt_den])
theorem Th_mk {n d : Int} (h : 0 < d) : Th (Rat.divInt n d) = Rat.divInt (tth n d) (2 * d) := by
  have q0 := den0 (Rat.divInt n d)
  have c := tth_cross h q0 (crossD h)
  unfold Th
  refine (Rat.divInt_eq_divInt_iff (by omega) (by omega)).mpr ?_
  generalize tth n d = x at *
  generalize tth (Rat.divInt n d).num (Rat.divInt n d).den = y at *
  generalize ((Rat.divInt n d).den : Int) = z at *
  grind
theorem Bd_mk {n d : Int} (h : 0 < d) : Bd (Rat.divInt n d) = Rat.divInt (bnd n d) (6 * d * d) := by
  have q0 := den0 (Rat.divInt n d)
  have c := bnd_cross h q0 (crossD h)
  have p1 := Int.mul_pos h h
  have p2 := Int.mul_pos q0 q0
  unfold Bd
  refine (Rat.divInt_eq_divInt_iff (by rw [Int.mul_assoc]; omega) (by rw [Int.mul_assoc]; omega)).mpr ?_
  generalize bnd n d = x at *
  generalize bnd (Rat.divInt n d).num (Rat.divInt n d).den = y at *
  generalize ((Rat.divInt n d).den : Int) = z at *
  grind
theorem neg_rest {n d : Int} (h : 0 < d) : (-n) % d = if n % d = 0 then 0 else d - n % d := by
  have e := Int.emod_add_mul_ediv n d
  have m0 := Int.emod_nonneg n (show d ≠ 0 by omega)
  have m1 := Int.emod_lt_of_pos n h
  split
  · rename_i z
    exact Int.emod_eq_zero_of_dvd (Int.dvd_neg.mpr (Int.dvd_of_emod_eq_zero z))
  · rename_i z
    have : -n = (d - n % d) + d * (-(n / d) - 1) := by
      rw [Int.mul_sub, Int.mul_neg]
      omega
    rw [this, Int.add_mul_emod_self_left]
    exact Int.emod_eq_of_lt (by omega) (by omega)
theorem tth_neg {n d : Int} (h : 0 < d) : tth (-n) d = - tth n d := by
  unfold tth
  rw [neg_rest h]
  have m1 := Int.emod_lt_of_pos n h
  by_cases z : n % d = 0
  · rw [if_pos z, if_pos rfl, if_pos z]
    rfl
  · rw [if_neg z, if_neg (show d - n % d ≠ 0 by omega), if_neg z]
    omega
theorem bnd_neg {n d : Int} (h : 0 < d) : bnd (-n) d = bnd n d := by
  unfold bnd
  rw [neg_rest h]
  by_cases z : n % d = 0
  · rw [if_pos z, z]
  · rw [if_neg z]
    generalize n % d = x
    grind
theorem q_eq (q : Rat) : q = Rat.divInt q.num q.den := (Rat.num_divInt_den q).symm
theorem neg_D {n d : Int} : ((0 : Int) : Rat) - Rat.divInt n d = Rat.divInt (-n) d := by
  rw [← Rat.neg_divInt, Rat.sub_eq_add_neg]
  exact Rat.zero_add _
theorem Th_neg (q : Rat) : Th (((0 : Int) : Rat) - q) = ((0 : Int) : Rat) - Th q := by
  have h := den0 q
  rw [q_eq q, neg_D, Th_mk h, Th_mk h, neg_D, tth_neg h]
theorem Bd_neg (q : Rat) : Bd (((0 : Int) : Rat) - q) = Bd q := by
  have h := den0 q
  rw [q_eq q, neg_D, Bd_mk h, Bd_mk h, bnd_neg h]
theorem add_D {n d i : Int} (h : 0 < d) : Rat.divInt n d + (i : Rat) = Rat.divInt (n + i * d) d := by
  have : (i : Rat) = Rat.divInt i 1 := (Rat.num_divInt_den (i : Rat)).symm
  rw [this, Rat.divInt_add_divInt _ _ (by omega) (by decide), Int.mul_one, Int.mul_one]
theorem sub_D {n d i : Int} (h : 0 < d) : Rat.divInt n d - (i : Rat) = Rat.divInt (n - i * d) d := by
  have : (i : Rat) = Rat.divInt i 1 := (Rat.num_divInt_den (i : Rat)).symm
  rw [this, Rat.divInt_sub_divInt _ _ (by omega) (by decide), Int.mul_one, Int.mul_one]
theorem tth_add {n d i : Int} : tth (n + i * d) d = tth n d := by
  unfold tth
  rw [Int.add_mul_emod_self_right]
theorem bnd_add {n d i : Int} : bnd (n + i * d) d = bnd n d := by
  unfold bnd
  rw [Int.add_mul_emod_self_right]
theorem Th_add (q : Rat) (i : Int) : Th (q + (i : Rat)) = Th q := by
  have h := den0 q
  rw [q_eq q, add_D h, Th_mk h, Th_mk h, tth_add]
theorem Bd_sub (q : Rat) (i : Int) : Bd (q - (i : Rat)) = Bd q := by
  have h := den0 q
  rw [q_eq q, sub_D h, Bd_mk h, Bd_mk h, show q.num - i * (q.den : Int) = q.num + (-i) * q.den by rw [Int.neg_mul]; omega, bnd_add]
theorem ltD {n d n2 d2 : Int} (d0 : 0 < d) (d20 : 0 < d2) : Rat.divInt n d < Rat.divInt n2 d2 ↔ n * d2 < n2 * d := by
  obtain ⟨q, hq⟩ : ∃ q, q = Rat.divInt n d := ⟨_, rfl⟩
  obtain ⟨r, hr⟩ : ∃ r, r = Rat.divInt n2 d2 := ⟨_, rfl⟩
  have q0 := den0 q
  have r0 := den0 r
  have e1 : n * (q.den : Int) = q.num * d := by rw [hq]; exact crossD d0
  have e2 : n2 * (r.den : Int) = r.num * d2 := by rw [hr]; exact crossD d20
  have h1 : (q.den : Int) * r.den * (n * d2) < (q.den : Int) * r.den * (n2 * d) ↔ n * d2 < n2 * d := Int.mul_lt_mul_left (Int.mul_pos q0 r0)
  have h2 : d * d2 * (q.num * r.den) < d * d2 * (r.num * q.den) ↔ q.num * r.den < r.num * q.den := Int.mul_lt_mul_left (Int.mul_pos d0 d20)
  have f1 : (q.den : Int) * r.den * (n * d2) = d * d2 * (q.num * r.den) := by
    have : (q.den : Int) * r.den * (n * d2) = (n * q.den) * (d2 * r.den) := by grind
    rw [this, e1]
    clear e1 e2 h1 h2 this hq hr
    grind
  have f2 : (q.den : Int) * r.den * (n2 * d) = d * d2 * (r.num * q.den) := by
    have : (q.den : Int) * r.den * (n2 * d) = (n2 * r.den) * (d * q.den) := by grind
    rw [this, e2]
    clear e1 e2 h1 h2 f1 this hq hr
    grind
  rw [f1, f2] at h1
  rw [← hq, ← hr]
  exact (Rat.lt_iff q r).trans (h2.symm.trans h1)
theorem Th_lt (q : Rat) : Th q < Rat.divInt 1 2 ∧ Rat.divInt (-1) 2 < Th q := by
  have h := den0 q
  have m0 := Int.emod_nonneg q.num (show (q.den : Int) ≠ 0 by omega)
  have m1 := Int.emod_lt_of_pos q.num h
  unfold Th
  rw [ltD (by omega) (by decide), ltD (by decide) (by omega)]
  unfold tth
  split <;> omega
theorem Bd_le (q : Rat) : Bd q ≤ Rat.divInt 1 6 := Rat.not_lt.mp fun z => by
  have h := den0 q
  have m0 := Int.emod_nonneg q.num (show (q.den : Int) ≠ 0 by omega)
  have m1 := Int.emod_lt_of_pos q.num h
  have p2 := Int.mul_pos h h
  unfold Bd at z
  rw [ltD (by decide) (by rw [Int.mul_assoc]; omega)] at z
  unfold bnd at z
  have : q.num % (q.den : Int) * ((q.den : Int) - q.num % q.den) ≥ 0 := Int.mul_nonneg m0 (by omega)
  generalize q.num % (q.den : Int) = x at *
  generalize (q.den : Int) = y at *
  have e : (6 * x * (x - y) + y * y) * 6 = 6 * (y * y) - 36 * (x * (y - x)) := by grind
  rw [e, Int.mul_assoc] at z
  omega
theorem Th_whole {q : Rat} (h : q.den = 1) : Th q = ((0 : Int) : Rat) := by
  unfold Th tth
  rw [h, if_pos (show q.num % ((1 : Nat) : Int) = 0 from Int.emod_one _)]
  rfl
theorem Bd_whole {q : Rat} (h : q.den = 1) : Bd q = Rat.divInt 1 6 := by
  unfold Bd bnd
  rw [h, show q.num % ((1 : Nat) : Int) = 0 from Int.emod_one _]
  rfl
theorem not_whole {q : Rat} (h : q.den ≠ 1) : q.num % (q.den : Int) ≠ 0 := fun z => by
  have d0 := den0 q
  have e : (q.den : Int) ∣ q.num := Int.dvd_of_emod_eq_zero z
  have := q.reduced
  have e2 : q.den ∣ q.num.natAbs := by have := Int.natAbs_dvd_natAbs.mpr e; rwa [Int.natAbs_natCast] at this
  have : q.den ∣ 1 := by
    rw [← this]
    exact Nat.dvd_gcd e2 (Nat.dvd_refl _)
  exact h (Nat.dvd_one.mp this)
theorem Th_part {q : Rat} (h : q.den ≠ 1) : Th q = (q - (q.floor : Rat)) - Rat.divInt 1 2 := by
  have d0 := den0 q
  have z := not_whole h
  have f : q.floor = q.num / (q.den : Int) := by
    rw [Rat.floor_def]
  have e := Int.emod_add_mul_ediv q.num q.den
  have e1 : q - (q.floor : Rat) = Rat.divInt (q.num % q.den) q.den := by
    conv => lhs; rw [q_eq q]
    rw [sub_D d0, ← q_eq q, f]
    congr 1
    rw [Int.mul_comm]
    omega
  rw [e1, Rat.divInt_sub_divInt _ _ (by omega) (by decide)]
  unfold Th tth
  rw [if_neg z]
  refine (Rat.divInt_eq_divInt_iff (by omega) (by omega)).mpr ?_
  generalize q.num % (q.den : Int) = x at *
  clear e e1 f z
  grind
theorem Bd_part {q : Rat} (h : q.den ≠ 1) : Bd q = Th q * Th q - Rat.divInt 1 12 := by
  have d0 := den0 q
  have z := not_whole h
  have p := Int.mul_pos d0 d0
  have p4 : 2 * (q.den : Int) * (2 * q.den) = 4 * (q.den * q.den) := by grind
  unfold Th Bd
  rw [Rat.divInt_mul_divInt, Rat.divInt_sub_divInt _ _ (by omega) (by decide)]
  unfold tth bnd
  rw [if_neg z]
  refine (Rat.divInt_eq_divInt_iff (by rw [Int.mul_assoc]; omega) (by omega)).mpr ?_
  generalize q.num % (q.den : Int) = x at *
  clear z p4 p
  grind
theorem sumD (f : Nat → Int) {d : Int} (hd : d ≠ 0) : ∀ n : Nat, ((List.range n).map fun i => Rat.divInt (f i) d).sum = Rat.divInt (sm f n) d
  | 0 => by simp [sm, Rat.zero_divInt]
  | n + 1 => by
    rw [List.range_succ, List.map_append, List.sum_append, sumD f hd n]
    show _ + (Rat.divInt (f n) d + 0) = Rat.divInt (sm f n + f n) d
    rw [Rat.add_zero, Rat.divInt_add_divInt _ _ hd hd]
    refine (Rat.divInt_eq_divInt_iff (Int.mul_ne_zero hd hd) hd).mpr ?_
    grind
/-- (q + j) / m -/
def plc (q : Rat) (m : Nat) (j : Nat) : Rat := (q + ((j : Int) : Rat)) / ((m : Int) : Rat)
theorem plc_eq {q : Rat} {m j : Nat} (hm : 0 < m) : plc q m j = Rat.divInt (q.num + (j : Int) * q.den) ((q.den * m : Nat) : Int) := by
  have d0 := den0 q
  unfold plc
  have e : ((m : Int) : Rat) = Rat.divInt m 1 := (Rat.num_divInt_den ((m : Int) : Rat)).symm
  conv => lhs; rw [q_eq q]
  rw [add_D d0, Rat.div_def, e, Rat.inv_divInt, Rat.divInt_mul_divInt, Int.mul_one, Int.natCast_mul]
theorem plc_Th {q : Rat} {m : Nat} (hm : 0 < m) : ((List.range m).map fun j => Th (plc q m j)).sum = Th q := by
  have d0 := den0 q
  have dm : 0 < ((q.den * m : Nat) : Int) := by
    rw [Int.natCast_mul]
    exact Int.mul_pos d0 (by omega)
  have e : ((List.range m).map fun j => Th (plc q m j)) = (List.range m).map fun j : Nat => Rat.divInt (tth (q.num + (j : Int) * q.den) ((q.den * m : Nat) : Int)) (2 * ((q.den * m : Nat) : Int)) := by
    refine List.map_congr_left fun j _ => ?_
    rw [plc_eq hm, Th_mk dm]
  rw [e, sumD (fun j : Nat => tth (q.num + (j : Int) * q.den) ((q.den * m : Nat) : Int)) (by omega), tth_steps (by omega) hm]
  unfold Th
  refine (Rat.divInt_eq_divInt_iff (by omega) (by omega)).mpr ?_
  rw [Int.natCast_mul]
  generalize tth q.num q.den = x
  grind
theorem plc_Bd {q : Rat} {m : Nat} (hm : 0 < m) : ((List.range m).map fun j => Bd (plc q m j)).sum = Bd q / ((m : Int) : Rat) := by
  have d0 := den0 q
  have dm : 0 < ((q.den * m : Nat) : Int) := by
    rw [Int.natCast_mul]
    exact Int.mul_pos d0 (by omega)
  have dm2 := Int.mul_pos dm dm
  have d2 := Int.mul_pos d0 d0
  have e : ((List.range m).map fun j => Bd (plc q m j)) = (List.range m).map fun j : Nat => Rat.divInt (bnd (q.num + (j : Int) * q.den) ((q.den * m : Nat) : Int)) (6 * ((q.den * m : Nat) : Int) * ((q.den * m : Nat) : Int)) := by
    refine List.map_congr_left fun j _ => ?_
    rw [plc_eq hm, Bd_mk dm]
  have e2 : ((m : Int) : Rat) = Rat.divInt m 1 := (Rat.num_divInt_den ((m : Int) : Rat)).symm
  rw [e, sumD (fun j : Nat => bnd (q.num + (j : Int) * q.den) ((q.den * m : Nat) : Int)) (by rw [Int.mul_assoc]; omega), bnd_steps (by omega) hm]
  unfold Bd
  rw [Rat.div_def, e2, Rat.inv_divInt, Rat.divInt_mul_divInt, Int.mul_one]
  have m3 : 0 < 6 * (q.den : Int) * q.den * m := Int.mul_pos (by rw [Int.mul_assoc]; omega) (by omega)
  refine (Rat.divInt_eq_divInt_iff (by rw [Int.mul_assoc]; omega) (by omega)).mpr ?_
  rw [Int.natCast_mul]
  generalize bnd q.num q.den = x
  grind
/-- the products of a row -/
def Rw (a : Int) (b : Nat) (k : Nat) : Rat := Rat.divInt (tth k b * tth (k * a) b) (4 * b * b)
theorem tth_Pd {a : Int} {b : Nat} {k : Nat} (hk : k < b) : tth k b * tth (k * a) b = Pd a b k := by
  have r0 := Int.emod_nonneg ((k : Int) * a) (show (b : Int) ≠ 0 by omega)
  unfold tth Pd rs
  rw [Int.add_zero, Int.mul_comm a, Int.emod_eq_of_lt (a := (k : Int)) (by omega) (by omega)]
  by_cases z : (k : Int) * a % b = 0
  · rw [if_pos z, if_neg (show ¬ 0 < (k : Int) * a % b by omega), Int.mul_zero]
  · rw [if_neg z, if_pos (show 0 < (k : Int) * a % b by omega)]
    by_cases w : (k : Int) = 0
    · rw [w, Int.zero_mul] at z
      exact absurd (Int.zero_emod _) z
    · rw [if_neg w]
theorem Rw_total {a : Int} {b : Nat} (hb : 0 < b) : ((List.range b).map (Rw a b)).sum = Rat.divInt (TT a b) (12 * b) := by
  have p := Int.mul_pos (show 0 < (b : Int) by omega) (show 0 < (b : Int) by omega)
  show ((List.range b).map fun k : Nat => Rat.divInt (tth k b * tth (k * a) b) (4 * b * b)).sum = _
  rw [sumD (fun k : Nat => tth k b * tth (k * a) b) (by rw [Int.mul_assoc]; omega), sm_congr b fun k hk => tth_Pd hk]
  have e := Pd_all (a := a) hb
  refine (Rat.divInt_eq_divInt_iff (by rw [Int.mul_assoc]; omega) (by omega)).mpr ?_
  generalize sm (Pd a b) b = x at *
  generalize TT a b = y at *
  clear p
  grind
theorem tth_zero {d : Int} : tth 0 d = 0 := by
  unfold tth
  rw [if_pos (Int.zero_emod _)]
theorem Rw_zero {a : Int} {b : Nat} (hb : 0 < b) : Rw a b 0 = ((0 : Int) : Rat) := by
  unfold Rw
  show Rat.divInt (tth 0 _ * _) _ = _
  rw [tth_zero, Int.zero_mul, Rat.zero_divInt]
  rfl
theorem tth_back {a : Int} {b k : Nat} (hk : k ≤ b) (hb : 0 < b) : tth (((b - k : Nat) : Int) * a) b = - tth (k * a) b := by
  rw [← tth_neg (by omega), show ((b - k : Nat) : Int) * a = -((k : Int) * a) + a * b by rw [show ((b - k : Nat) : Int) = (b : Int) - k by omega, Int.sub_mul, Int.mul_comm (b : Int)]; omega, tth_add]
theorem Rw_back {a : Int} {b k : Nat} (hk : k ≤ b) (hb : 0 < b) : Rw a b (b - k) = Rw a b k := by
  unfold Rw
  have e := tth_back (a := 1) hk hb
  rw [Int.mul_one, Int.mul_one] at e
  rw [e, tth_back hk hb, Int.neg_mul_neg]
/-- the tooth of a row of rests -/
def Tr (a : Int) (b : Nat) (k : Nat) : Rat := Th (Rat.divInt (a % b * k) b)
theorem Tr_eq {a : Int} {b k : Nat} (hb : 0 < b) : Tr a b k = Rat.divInt (tth (k * a) b) (2 * b) := by
  unfold Tr
  rw [Th_mk (by omega)]
  congr 1
  unfold tth
  have : (a % b * k) % (b : Int) = ((k : Int) * a) % b := by
    rw [Int.mul_emod, Int.emod_emod, ← Int.mul_emod, Int.mul_comm]
  rw [this]
theorem Tr_total {a : Int} {b : Nat} (hb : 0 < b) : ((List.range b).map (Tr a b)).sum = ((0 : Int) : Rat) := by
  have e : (List.range b).map (Tr a b) = (List.range b).map fun k : Nat => Rat.divInt (tth (k * a) b) (2 * b) := List.map_congr_left fun k _ => Tr_eq hb
  rw [e, sumD (fun k : Nat => tth (k * a) b) (by omega)]
  have z : sm (fun k : Nat => tth (k * a) b) b = 0 := by
    have f := sm_from1 (f := fun k : Nat => tth (k * a) b) (by show tth (((0 : Nat) : Int) * a) b = 0; rw [show ((0 : Nat) : Int) = 0 from rfl, Int.zero_mul, tth_zero]) hb
    have r := sm_rev (fun i => tth ((1 + i : Nat) * a) b) (b - 1)
    have n : sm (fun i => tth ((1 + (b - 1 - 1 - i) : Nat) * a) b) (b - 1) = sm (fun i => - tth ((1 + i : Nat) * a) b) (b - 1) := by
      refine sm_congr _ fun i hi => ?_
      rw [← tth_back (by omega) hb, show b - (1 + i) = 1 + (b - 1 - 1 - i) by omega]
    rw [sm_neg] at n
    have r' : sm (fun i => tth ((1 + (b - 1 - 1 - i) : Nat) * a) b) (b - 1) = sm (fun i => tth ((1 + i : Nat) * a) b) (b - 1) := r
    have f' : sm (fun k : Nat => tth (k * a) b) b = sm (fun i => tth ((1 + i : Nat) * a) b) (b - 1) := f
    omega
  rw [z, Rat.zero_divInt]
  rfl
theorem Rw_mul {a : Int} {b k : Nat} (hb : 0 < b) : Rw a b k = Th (Rat.divInt k b) * Tr a b k := by
  have p := Int.mul_pos (show 0 < (b : Int) by omega) (show 0 < (b : Int) by omega)
  rw [Tr_eq hb, Th_mk (by omega), Rat.divInt_mul_divInt]
  unfold Rw
  congr 1
  grind
end Tm

namespace Tm
/-! Rows of quotients and the sums of their pairs. -/
theorem fo_snoc (q : Int) : ∀ (qs : List Int) (s : Int × Int), fo (qs ++ [q]) s = ((fo qs s).2, q * (fo qs s).2 + (fo qs s).1)
  | [], s => rfl
  | x :: qs, s => fo_snoc q qs _
theorem fo_last {qs : List Int} {s : Int × Int} (h : qs ≠ []) : (fo qs s).1 = (fo qs.dropLast s).2 := by
  have e := List.dropLast_concat_getLast h
  conv => lhs; rw [← e]
  rw [fo_snoc]
theorem row_step {F B u l q r bef las alt T T2 : Int} (hu : 0 < u) (hB : B = las * u + bef * l) (hq : u = q * l + r) (hR : l * T + u * T2 = l * l + u * u + 1 - 3 * (l * u)) :
    (F * u = alt * B * u + B * (T - l) - bef → F * l = (alt + q) * B * l - 3 * B * l - B * (T2 - r) + las) ∧
    (F * u = alt * B * u - 3 * B * u - B * (T - l) + bef → F * l = (alt - q) * B * l + B * (T2 - r) - las) := by
  constructor
  · intro h
    refine Int.eq_of_mul_eq_mul_right (show u ≠ 0 by omega) ?_
    have : F * l * u = F * u * l := by grind
    rw [this, h]
    have e : (alt * B * u + B * (T - l) - bef) * l = alt * B * u * l + B * (l * T) - B * l * l - bef * l := by grind
    have hT : l * T = l * l + u * u + 1 - 3 * (l * u) - u * T2 := by omega
    rw [e, hT]
    have h1 : bef * l = B - las * u := by omega
    rw [h1]
    clear h e this hR hT h1 hB
    subst hq
    grind
  · intro h
    refine Int.eq_of_mul_eq_mul_right (show u ≠ 0 by omega) ?_
    have : F * l * u = F * u * l := by grind
    rw [this, h]
    have e : (alt * B * u - 3 * B * u - B * (T - l) + bef) * l = alt * B * u * l - 3 * B * u * l - B * (l * T) + B * l * l + bef * l := by grind
    have hT : l * T = l * l + u * u + 1 - 3 * (l * u) - u * T2 := by omega
    rw [e, hT]
    have h1 : bef * l = B - las * u := by omega
    rw [h1]
    clear h e this hR hT h1 hB
    subst hq
    grind
theorem row_fin (F B : Int) : ∀ (n : Nat) (u l bef las alt : Int), l.toNat ≤ n → 0 ≤ l → l < u → gc l u = 1 → B = las * u + bef * l →
    (F * u = alt * B * u + B * Fd l u - bef →
      ((quos u l).length % 2 = 0 → F = (alt + alts (quos u l)) * B - (fo (quos u l) (bef, las)).1) ∧ ((quos u l).length % 2 = 1 → F = (alt + alts (quos u l)) * B - 3 * B + (fo (quos u l) (bef, las)).1)) ∧
    (F * u = alt * B * u - 3 * B * u - B * Fd l u + bef →
      ((quos u l).length % 2 = 0 → F = (alt - alts (quos u l)) * B - 3 * B + (fo (quos u l) (bef, las)).1) ∧ ((quos u l).length % 2 = 1 → F = (alt - alts (quos u l)) * B - (fo (quos u l) (bef, las)).1)) := by
  intro n
  induction n with
  | zero =>
    intro u l bef las alt hn l0 lu hg hB
    have : l = 0 := by omega
    subst this
    have u1 : u = 1 := by
      have e : gc 0 u = u := by
        unfold gc
        rw [Int.gcd_zero_left]
        omega
      omega
    subst u1
    rw [quos_nil (by omega)]
    have f0 : Fd 0 1 = 0 := by decide +kernel
    rw [f0]
    simp only [alts, fo, List.length_nil]
    refine ⟨fun h => ⟨fun _ => by grind, fun z => by omega⟩, fun h => ⟨fun _ => by grind, fun z => by omega⟩⟩
  | succ n ih =>
    intro u l bef las alt hn l0 lu hg hB
    by_cases hl : 0 < l
    · have r0 := Int.emod_nonneg u (show l ≠ 0 by omega)
      have r1 := Int.emod_lt_of_pos u hl
      have e := Int.emod_add_mul_ediv u l
      have hq : u = u / l * l + u % l := by rw [Int.mul_comm]; omega
      have hR := TT_rec hl lu
      rw [hg, Int.one_mul, ← TT_mod (a := u) hl] at hR
      obtain ⟨s1, s2⟩ := row_step (F := F) (alt := alt) (by omega) hB hq hR
      have hg2 : gc (u % l) l = 1 := by rw [gc_mod, gc_comm]; exact hg
      have hB2 : B = (u / l * las + bef) * l + las * (u % l) := by
        rw [hB]
        generalize u / l = q at *
        generalize u % l = r at *
        clear s1 s2 hR ih e
        subst hq
        grind
      have i1 := ih l (u % l) las (u / l * las + bef) (alt + u / l) (by omega) r0 r1 hg2 hB2
      have i2 := ih l (u % l) las (u / l * las + bef) (alt - u / l) (by omega) r0 r1 hg2 hB2
      rw [quos_pos hl]
      simp only [alts, fo, List.length_cons]
      refine ⟨fun h => ?_, fun h => ?_⟩
      · obtain ⟨a1, a2⟩ := i1.2 (s1 h)
        refine ⟨fun z => ?_, fun z => ?_⟩
        · have := a2 (by omega)
          rw [this]
          grind
        · have := a1 (by omega)
          rw [this]
          grind
      · obtain ⟨a1, a2⟩ := i2.1 (s2 h)
        refine ⟨fun z => ?_, fun z => ?_⟩
        · have := a2 (by omega)
          rw [this]
          grind
        · have := a1 (by omega)
          rw [this]
          grind
    · exact ih u l bef las alt (by omega) l0 lu hg hB
/-- twelve times the sum, by quotients -/
theorem TT_row {a b : Int} (h0 : 0 ≤ a) (h1 : a < b) (hg : gc a b = 1) :
    ((quos b a).length % 2 = 0 → TT a b = alts (quos b a) * b + a - (fo (quos b a) (0, 1)).1) ∧ ((quos b a).length % 2 = 1 → TT a b = (alts (quos b a) - 3) * b + a + (fo (quos b a) (0, 1)).1) := by
  have h := row_fin (Fd a b) b a.toNat b a 0 1 0 (Nat.le_refl _) h0 h1 hg (by omega)
  obtain ⟨i1, i2⟩ := h.1 (by rw [Int.zero_mul, Int.zero_mul, Int.mul_comm]; omega)
  refine ⟨fun z => ?_, fun z => ?_⟩
  · have := i1 z
    unfold Fd at this
    rw [Int.zero_add] at this
    omega
  · have := i2 z
    unfold Fd at this
    rw [Int.zero_add] at this
    have e : (alts (quos b a) - 3) * b = alts (quos b a) * b - 3 * b := by grind
    omega
theorem fo_bd : ∀ (n : Nat) (u l bef las : Int), l.toNat ≤ n → 0 ≤ l → l < u → 0 ≤ bef → 0 ≤ las → ∀ i, i < (quos u l).length →
    0 ≤ (fo ((quos u l).take i) (bef, las)).1 ∧ 0 ≤ (fo ((quos u l).take i) (bef, las)).2 ∧ (fo ((quos u l).take i) (bef, las)).1 ≤ las * u + bef * l ∧ (fo ((quos u l).take i) (bef, las)).2 ≤ las * u + bef * l
  | n, u, l, bef, las, hn, l0, lu, b0, s0, i, hi => by
    by_cases hl : 0 < l
    · have p1 := Int.mul_nonneg s0 (show 0 ≤ u by omega)
      have p2 := Int.mul_nonneg b0 l0
      rw [quos_pos hl] at hi ⊢
      cases i with
      | zero =>
        have q1 : las * 1 ≤ las * u := Int.mul_le_mul_of_nonneg_left (by omega) s0
        have q2 : bef * 1 ≤ bef * l := Int.mul_le_mul_of_nonneg_left (by omega) b0
        simp only [List.take_zero, fo]
        refine ⟨b0, s0, by omega, by omega⟩
      | succ i =>
        have r0 := Int.emod_nonneg u (show l ≠ 0 by omega)
        have r1 := Int.emod_lt_of_pos u hl
        have t0 : 0 ≤ u / l := Int.ediv_nonneg (by omega) (by omega)
        have e := Int.emod_add_mul_ediv u l
        have hq : u = u / l * l + u % l := by rw [Int.mul_comm]; omega
        cases n with
        | zero => omega
        | succ n =>
          have ih := fo_bd n l (u % l) las (u / l * las + bef) (by omega) r0 r1 s0 (by have := Int.mul_nonneg t0 s0; omega) i (by simpa using hi)
          rw [List.take_succ_cons]
          simp only [fo]
          have hB2 : las * u + bef * l = (u / l * las + bef) * l + las * (u % l) := by
            generalize u / l = q at *
            generalize u % l = r at *
            clear ih e hi
            subst hq
            grind
          rw [hB2]
          exact ih
    · rw [quos_nil hl] at hi
      simp at hi
theorem quos_bd : ∀ (n : Nat) (u l : Int), l.toNat ≤ n → 0 ≤ l → 0 ≤ u → ∀ q ∈ quos u l, 0 ≤ q ∧ q ≤ max u l
  | n, u, l, hn, l0, lu, q, hq => by
    by_cases hl : 0 < l
    · rw [quos_pos hl] at hq
      have r0 := Int.emod_nonneg u (show l ≠ 0 by omega)
      have r1 := Int.emod_lt_of_pos u hl
      rcases List.mem_cons.mp hq with rfl | hq
      · have t0 : 0 ≤ u / l := Int.ediv_nonneg (by omega) (by omega)
        have t1 : u / l ≤ u := Int.ediv_le_self l lu
        omega
      · cases n with
        | zero => omega
        | succ n =>
          have := quos_bd n l (u % l) (by omega) r0 l0 q hq
          omega
    · rw [quos_nil hl] at hq
      simp at hq
theorem alts_bd {B : Int} : ∀ (qs : List Int), (∀ q ∈ qs, 0 ≤ q ∧ q ≤ B) → (alts qs).natAbs ≤ B.toNat * qs.length
  | [], _ => by simp [alts]
  | q :: qs, h => by
    have ih := alts_bd qs fun x hx => h x (List.mem_cons_of_mem _ hx)
    have := h q (List.mem_cons_self ..)
    simp only [alts, List.length_cons, Nat.mul_add, Nat.mul_one]
    omega
theorem alts_map : ∀ (qs : List Int), alts qs = ((List.range qs.length).map fun i => (if i % 2 = 0 then 1 else -1) * (qs[i]?.getD 0)).sum
  | [] => rfl
  | q :: qs => by
    rw [List.length_cons, List.range_succ_eq_map, List.map_cons, List.map_map, List.sum_cons]
    simp only [alts]
    rw [alts_map qs]
    have e : ∀ (l : List Nat), (l.map ((fun i => (if i % 2 = 0 then (1 : Int) else -1) * ((q :: qs)[i]?.getD 0)) ∘ Nat.succ)).sum = - (l.map fun i => (if i % 2 = 0 then (1 : Int) else -1) * (qs[i]?.getD 0)).sum := by
      intro l
      induction l with
      | nil => rfl
      | cons x l ih =>
        rw [List.map_cons, List.map_cons, List.sum_cons, List.sum_cons, ih]
        show (if (x + 1) % 2 = 0 then (1 : Int) else -1) * ((q :: qs)[x + 1]?.getD 0) + _ = _
        rw [List.getElem?_cons_succ]
        by_cases z : x % 2 = 0
        · rw [if_pos z, if_neg (by omega)]
          omega
        · rw [if_neg z, if_pos (by omega)]
          omega
    rw [e]
    simp
    omega
end Tm

namespace Tm
/-! Sums that are 0, alike, equal. -/
theorem TT_oneM {x y : Int} (h : gc x y = 1) : TT x y = T1 x y := by
  unfold TT
  rw [h, Int.one_mul, Int.ediv_one, Int.ediv_one]
theorem mulL {b x : Int} (c : Int) (h : b ∣ x) : b ∣ c * x := by
  obtain ⟨k, hk⟩ := h
  exact ⟨c * k, by rw [hk]; grind⟩
theorem mulR {b x : Int} (c : Int) (h : b ∣ x) : b ∣ x * c := by
  obtain ⟨k, hk⟩ := h
  exact ⟨k * c, by rw [hk]; grind⟩
theorem dv {b x y : Int} (h : b ∣ x) (e : x = y) : b ∣ y := e ▸ h
theorem TT_rest {a b v : Int} (hb : 0 < b) (hg : gc a b = 1) (hv : b ∣ (a * v - 1)) : b ∣ (TT a b - a - v) := by
  have m0 := Int.emod_nonneg a (show b ≠ 0 by omega)
  have m1 := Int.emod_lt_of_pos a hb
  obtain ⟨m, f, c, t, O⟩ := sto_ex m0 m1
  have hc : c = 1 := by rw [← O.hc, gc_mod]; exact hg
  subst hc
  have hT := O.hT
  rw [TT_mod hb] at hT
  have ea := Int.emod_add_mul_ediv a b
  have d1 : b ∣ (TT a b - a % b - f) := ⟨m + t, by rw [← hT, Int.mul_comm b]; omega⟩
  have d2 : b ∣ (a % b - a) := ⟨-(a / b), by rw [Int.mul_neg]; omega⟩
  have d3 : b ∣ (f * a - 1) := by
    have h1 := Int.dvd_neg.mpr O.hd
    have h2 := Int.dvd_neg.mpr (mulL f d2)
    exact dv (Int.dvd_add h1 h2) (by rw [Int.mul_sub]; omega)
  have d4 : b ∣ (f - v) := dv (Int.dvd_sub (mulL v d3) (mulL f hv)) (by grind)
  exact dv (Int.dvd_add (Int.dvd_add d1 d2) d4) (by omega)
theorem inv_mod {x y v : Int} (h : y ∣ (x * v - 1)) : (x * v) % y = 1 % y := Int.emod_eq_emod_iff_emod_sub_eq_zero.mpr (Int.emod_eq_zero_of_dvd h)
theorem dvd_of_inv {x y v : Int} (h : (x * v) % y = 1 % y) : y ∣ (x * v - 1) := Int.dvd_of_emod_eq_zero (Int.emod_eq_emod_iff_emod_sub_eq_zero.mp h)
theorem zero_of {x y : Int} (hy : 0 < y) (hg : gc x y = 1) (h : y ∣ (x * x + 1)) : TT x y = 0 := by
  obtain ⟨n, rfl⟩ : ∃ n : Nat, y = n := ⟨y.toNat, by omega⟩
  rw [TT_oneM hg]
  have hv : (n : Int) ∣ (x * (-x) - 1) := dv (Int.dvd_neg.mpr h) (by grind)
  have e1 := T1_inv (a := x) (by omega) (inv_mod hv)
  have e2 := T1_neg (by omega) hg
  omega
theorem of_dvd {x y : Int} (hy : 0 < y) (hg : gc x y = 1) (h : y ∣ TT x y) : y ∣ (x * x + 1) := by
  obtain ⟨v, hv⟩ := inv_gen hy hg
  have hd := dvd_of_inv hv
  have r := TT_rest hy hg hd
  have d1 := mulL x (Int.dvd_sub h r)
  exact dv (Int.dvd_sub d1 hd) (by grind)
theorem zero_iff {x y : Int} (hy : 0 < y) (hg : gc x y = 1) : TT x y = 0 ↔ y ∣ (x * x + 1) := ⟨fun h => of_dvd hy hg (h ▸ Int.dvd_zero y), zero_of hy hg⟩
theorem whole_iffM {x y : Int} (hy : 0 < y) (hg : gc x y = 1) : y ∣ TT x y ↔ y ∣ (x * x + 1) := ⟨of_dvd hy hg, fun h => by rw [zero_of hy hg h]; exact Int.dvd_zero y⟩
theorem like_iff {a c b : Int} (hb : 0 < b) (h1 : gc a b = 1) (h2 : gc c b = 1) : b ∣ (TT a b - TT c b) ↔ b ∣ ((a - c) * (a * c - 1)) := by
  obtain ⟨v, hv⟩ := inv_gen hb h1
  obtain ⟨w, hw⟩ := inv_gen hb h2
  have dv1 := dvd_of_inv hv
  have dw1 := dvd_of_inv hw
  have r1 := TT_rest hb h1 dv1
  have r2 := TT_rest hb h2 dw1
  have r := Int.dvd_sub r1 r2
  -- (a + v - c - w) a c = (a - c)(a c - 1) up to multiples
  have key : b ∣ ((a + v - c - w) * (a * c) - (a - c) * (a * c - 1)) := by
    have k1 := mulL c dv1
    have k2 := mulL a dw1
    exact dv (Int.dvd_sub k1 k2) (by grind)
  constructor
  · intro h
    have d := mulR (a * c) (Int.dvd_sub h r)
    exact dv (Int.dvd_sub d key) (by grind)
  · intro h
    have d := Int.dvd_add key h
    have d2 : b ∣ ((a + v - c - w) * (a * c)) := dv d (by omega)
    have d3 := mulR (v * w) d2
    have d4 : b ∣ (a + v - c - w) := by
      have z1 := mulL ((a + v - c - w) * (c * w)) dv1
      have z2 := mulL (a + v - c - w) dw1
      exact dv (Int.dvd_sub (Int.dvd_sub d3 z1) z2) (by grind)
    exact dv (Int.dvd_add r d4) (by omega)
theorem equal_like {a c b : Int} (hb : 0 < b) (h1 : gc a b = 1) (h2 : gc c b = 1) (h : TT a b = TT c b) : b ∣ ((a - c) * (a * c - 1)) := (like_iff hb h1 h2).mp (by rw [h, Int.sub_self]; exact Int.dvd_zero b)
theorem equal_same {a c b : Int} (hb : 0 < b) (h : b ∣ (a - c)) : TT a b = TT c b := by
  rw [← TT_mod hb (a := a), ← TT_mod hb (a := c), Int.emod_eq_emod_iff_emod_sub_eq_zero.mpr (Int.emod_eq_zero_of_dvd h)]
theorem equal_inv {a c b : Int} (hb : 0 < b) (h1 : gc a b = 1) (h2 : gc c b = 1) (h : b ∣ (a * c - 1)) : TT a b = TT c b := by
  obtain ⟨n, rfl⟩ : ∃ n : Nat, b = n := ⟨b.toNat, by omega⟩
  rw [TT_oneM h1, TT_oneM h2]
  exact (T1_inv (by omega) (inv_mod h)).symm
end Tm

namespace Tm
/-! Rows of quotients that read the same from both ends. -/
def kk (cs : List Int) : Int := (fo cs (0, 1)).2
def tl (cs : List Int) : Int := (fo cs (1, 0)).2
def dl (cs : List Int) : Int := (fo cs (0, 1)).1
def ml (cs : List Int) : Int := (fo cs (1, 0)).1
theorem fo_lin : ∀ (cs : List Int) (x y : Int), fo cs (x, y) = (x * ml cs + y * dl cs, x * tl cs + y * kk cs)
  | [], x, y => by simp [fo, ml, dl, tl, kk]
  | c :: cs, x, y => by
    have h1 : ml (c :: cs) = dl cs := by
      show (fo cs (0, c * 0 + 1)).1 = _
      rw [Int.mul_zero, Int.zero_add]
      rfl
    have h2 : tl (c :: cs) = kk cs := by
      show (fo cs (0, c * 0 + 1)).2 = _
      rw [Int.mul_zero, Int.zero_add]
      rfl
    have h3 : dl (c :: cs) = ml cs + c * dl cs := by
      show (fo cs (1, c * 1 + 0)).1 = _
      rw [fo_lin cs]
      simp
    have h4 : kk (c :: cs) = tl cs + c * kk cs := by
      show (fo cs (1, c * 1 + 0)).2 = _
      rw [fo_lin cs]
      simp
    show fo cs (y, c * y + x) = _
    rw [fo_lin cs, h1, h2, h3, h4]
    refine Prod.ext ?_ ?_
    · show y * ml cs + (c * y + x) * dl cs = x * dl cs + y * (ml cs + c * dl cs)
      grind
    · show y * tl cs + (c * y + x) * kk cs = x * kk cs + y * (tl cs + c * kk cs)
      grind
theorem ml_cons (c : Int) (cs : List Int) : ml (c :: cs) = dl cs := by
  show (fo cs (0, c * 0 + 1)).1 = _
  rw [Int.mul_zero, Int.zero_add]
  rfl
theorem tl_cons (c : Int) (cs : List Int) : tl (c :: cs) = kk cs := by
  show (fo cs (0, c * 0 + 1)).2 = _
  rw [Int.mul_zero, Int.zero_add]
  rfl
theorem dl_cons (c : Int) (cs : List Int) : dl (c :: cs) = ml cs + c * dl cs := by
  show (fo cs (1, c * 1 + 0)).1 = _
  rw [fo_lin cs]
  simp
theorem kk_cons (c : Int) (cs : List Int) : kk (c :: cs) = tl cs + c * kk cs := by
  show (fo cs (1, c * 1 + 0)).2 = _
  rw [fo_lin cs]
  simp
theorem kk_snoc (c : Int) (cs : List Int) : kk (cs ++ [c]) = c * kk cs + dl cs := by
  unfold kk dl
  rw [fo_snoc]
theorem dl_snoc (c : Int) (cs : List Int) : dl (cs ++ [c]) = kk cs := by
  unfold kk dl
  rw [fo_snoc]
theorem tl_snoc (c : Int) (cs : List Int) : tl (cs ++ [c]) = c * tl cs + ml cs := by
  unfold tl ml
  rw [fo_snoc]
theorem ml_snoc (c : Int) (cs : List Int) : ml (cs ++ [c]) = tl cs := by
  unfold tl ml
  rw [fo_snoc]
theorem rev_all : ∀ cs : List Int, kk cs.reverse = kk cs ∧ tl cs.reverse = dl cs ∧ dl cs.reverse = tl cs ∧ ml cs.reverse = ml cs
  | [] => ⟨rfl, rfl, rfl, rfl⟩
  | c :: cs => by
    obtain ⟨h1, h2, h3, h4⟩ := rev_all cs
    rw [List.reverse_cons, kk_snoc, tl_snoc, dl_snoc, ml_snoc, kk_cons, tl_cons, dl_cons, ml_cons, h1, h2, h3, h4]
    refine ⟨by omega, by omega, rfl, rfl⟩
theorem det_all : ∀ cs : List Int, (cs.length % 2 = 0 → ml cs * kk cs - tl cs * dl cs = 1) ∧ (cs.length % 2 = 1 → ml cs * kk cs - tl cs * dl cs = -1)
  | [] => ⟨fun _ => by decide, fun h => by simp at h⟩
  | c :: cs => by
    obtain ⟨h1, h2⟩ := det_all cs
    rw [List.length_cons, ml_cons, tl_cons, dl_cons, kk_cons]
    have e : dl cs * (tl cs + c * kk cs) - kk cs * (ml cs + c * dl cs) = -(ml cs * kk cs - tl cs * dl cs) := by grind
    rw [e]
    refine ⟨fun h => by rw [h2 (by omega)]; rfl, fun h => by rw [h1 (by omega)]⟩
/-- sizes -/
theorem kk_pos : ∀ cs : List Int, (∀ c ∈ cs, 1 ≤ c) → 1 ≤ kk cs ∧ 0 ≤ tl cs ∧ 0 ≤ dl cs ∧ tl cs ≤ kk cs ∧ (tl cs = kk cs → cs = [1])
  | [], _ => ⟨by decide, by decide, by decide, by decide, fun h => by simp [tl, kk, fo] at h⟩
  | c :: cs, h => by
    obtain ⟨h1, h2, h3, h4, h5⟩ := kk_pos cs fun x hx => h x (List.mem_cons_of_mem _ hx)
    have hc := h c (List.mem_cons_self ..)
    have m0 : 0 ≤ ml cs := by
      cases cs with
      | nil => decide
      | cons d ds =>
        rw [ml_cons]
        exact (kk_pos ds fun x hx => h x (List.mem_cons_of_mem _ (List.mem_cons_of_mem _ hx))).2.2.1
    rw [kk_cons, tl_cons, dl_cons]
    have p1 : 1 * kk cs ≤ c * kk cs := Int.mul_le_mul_of_nonneg_right hc (by omega)
    have p2 : 0 ≤ c * dl cs := Int.mul_nonneg (by omega) h3
    refine ⟨by omega, by omega, by omega, by omega, fun e => ?_⟩
    have t0 : tl cs = 0 := by omega
    have c1 : c = 1 := by
      have : c * kk cs = 1 * kk cs := by omega
      exact Int.eq_of_mul_eq_mul_right (by omega) this
    cases cs with
    | nil => rw [c1]
    | cons d ds =>
      rw [tl_cons] at t0
      have := (kk_pos ds fun x hx => h x (List.mem_cons_of_mem _ (List.mem_cons_of_mem _ hx))).1
      omega
/-- a row that does not end with 1 -/
def nrm : List Int → List Int
  | [] => []
  | [c] => [c]
  | [c, d] => if d = 1 then [c + 1] else [c, d]
  | c :: d :: e :: cs => c :: nrm (d :: e :: cs)
theorem quos_kk : ∀ cs : List Int, cs ≠ [] → (∀ c ∈ cs, 1 ≤ c) → quos (kk cs) (tl cs) = nrm cs
  | [], h, _ => absurd rfl h
  | [c], _, h => by
    have hc := h c (List.mem_cons_self ..)
    show quos (c * 1 + 0) (c * 0 + 1) = [c]
    rw [show c * 1 + 0 = c by omega, show c * 0 + 1 = (1 : Int) by omega, quos_pos (by decide), Int.ediv_one, Int.emod_one, quos_nil (by decide)]
  | [c, d], _, h => by
    have hc := h c (List.mem_cons_self ..)
    have hd := h d (List.mem_cons_of_mem _ (List.mem_cons_self ..))
    have e1 : kk [c, d] = 1 + c * d := by
      rw [kk_cons]
      show d * 0 + 1 + c * (d * 1 + 0) = _
      grind
    have e2 : tl [c, d] = d := by
      rw [tl_cons]
      show d * 1 + 0 = d
      omega
    rw [e1, e2, quos_pos (by omega)]
    by_cases z : d = 1
    · subst z
      rw [Int.ediv_one, Int.emod_one, quos_nil (by decide)]
      show _ = if (1 : Int) = 1 then [c + 1] else [c, 1]
      rw [if_pos rfl, Int.mul_one, Int.add_comm]
    · have q : (1 + c * d) / d = c := by
        rw [Int.add_mul_ediv_right _ _ (by omega), Int.ediv_eq_zero_of_lt (by decide) (by omega)]
        omega
      have r : (1 + c * d) % d = 1 := by
        rw [Int.add_mul_emod_self_right]
        exact Int.emod_eq_of_lt (by decide) (by omega)
      rw [q, r, quos_pos (by decide), Int.ediv_one, Int.emod_one, quos_nil (by decide)]
      show _ = if d = 1 then [c + 1] else [c, d]
      rw [if_neg z]
  | c :: d :: e :: cs, _, h => by
    have hr : ∀ x ∈ d :: e :: cs, 1 ≤ x := fun x hx => h x (List.mem_cons_of_mem _ hx)
    obtain ⟨k1, k2, k3, k4, k5⟩ := kk_pos (d :: e :: cs) hr
    have hlt : tl (d :: e :: cs) < kk (d :: e :: cs) := by
      rcases Int.lt_or_eq_of_le k4 with z | z
      · exact z
      · have := k5 z
        cases this
    rw [kk_cons c (d :: e :: cs), tl_cons c (d :: e :: cs), quos_pos (by omega)]
    have q : (tl (d :: e :: cs) + c * kk (d :: e :: cs)) / kk (d :: e :: cs) = c := by
      rw [Int.add_mul_ediv_right _ _ (by omega), Int.ediv_eq_zero_of_lt k2 hlt]
      omega
    have r : (tl (d :: e :: cs) + c * kk (d :: e :: cs)) % kk (d :: e :: cs) = tl (d :: e :: cs) := by
      rw [Int.add_mul_emod_self_right]
      exact Int.emod_eq_of_lt k2 hlt
    rw [q, r, quos_kk (d :: e :: cs) (List.cons_ne_nil _ _) hr]
    rfl
/-- the row with an even number of quotients -/
def evn (qs : List Int) : List Int := if qs.length % 2 = 1 then qs.dropLast ++ [qs.getLast?.getD 0 - 1, 1] else qs
theorem nrm_snoc2 : ∀ (cs : List Int) (x y : Int), nrm (cs ++ [x, y]) = if y = 1 then cs ++ [x + 1] else cs ++ [x, y]
  | [], x, y => rfl
  | [c], x, y => by
    show c :: nrm [x, y] = _
    show c :: (if y = 1 then [x + 1] else [x, y]) = _
    split <;> rfl
  | c :: d :: cs, x, y => by
    have e : c :: d :: cs ++ [x, y] = c :: (d :: cs ++ [x, y]) := rfl
    have ih := nrm_snoc2 (d :: cs) x y
    rw [e]
    have e2 : nrm (c :: (d :: cs ++ [x, y])) = c :: nrm (d :: cs ++ [x, y]) := by
      cases cs with
      | nil => rfl
      | cons f cs => rfl
    rw [e2, ih]
    split <;> rfl
theorem evn_nrm {cs : List Int} (h : cs.length % 2 = 0) (hne : cs ≠ []) : evn (nrm cs) = cs := by
  obtain ⟨ds, y, rfl⟩ : ∃ ds y, cs = ds ++ [y] := ⟨cs.dropLast, cs.getLast hne, (List.dropLast_concat_getLast hne).symm⟩
  have hd : ds ≠ [] := by
    rintro rfl
    simp at h
  obtain ⟨es, x, rfl⟩ : ∃ es x, ds = es ++ [x] := ⟨ds.dropLast, ds.getLast hd, (List.dropLast_concat_getLast hd).symm⟩
  rw [List.append_assoc] at h ⊢
  show evn (nrm (es ++ [x, y])) = es ++ [x, y]
  rw [List.length_append] at h
  have h : (es.length + 2) % 2 = 0 := h
  rw [nrm_snoc2]
  unfold evn
  by_cases z : y = 1
  · rw [if_pos z, if_pos (by rw [List.length_append]; show (es.length + 1) % 2 = 1; omega), List.dropLast_concat, List.getLast?_concat, z]
    show es ++ [x + 1 - 1, 1] = _
    rw [show x + 1 - 1 = x by omega]
  · rw [if_neg z, if_neg (by rw [List.length_append]; show ¬ (es.length + 2) % 2 = 1; omega)]
/-- rows of a pair -/
theorem quos_vals : ∀ (n : Nat) (u l : Int), l.toNat ≤ n → 0 < l → l < u → gc l u = 1 → kk (quos u l) = u ∧ tl (quos u l) = l ∧ (∀ q ∈ quos u l, 1 ≤ q) ∧ 2 ≤ (quos u l).getLast?.getD 0
  | n, u, l, hn, l0, lu, hg => by
    have r0 := Int.emod_nonneg u (show l ≠ 0 by omega)
    have r1 := Int.emod_lt_of_pos u l0
    have e := Int.emod_add_mul_ediv u l
    have q1 : 1 ≤ u / l := Int.le_ediv_of_mul_le l0 (by omega)
    have hg2 : gc (u % l) l = 1 := by rw [gc_mod, gc_comm]; exact hg
    rw [quos_pos l0]
    by_cases z : 0 < u % l
    · cases n with
      | zero => omega
      | succ n =>
        obtain ⟨i1, i2, i3, i4⟩ := quos_vals n l (u % l) (by omega) z r1 hg2
        rw [kk_cons, tl_cons, i1, i2]
        refine ⟨by rw [Int.mul_comm]; omega, rfl, fun q hq => ?_, ?_⟩
        · rcases List.mem_cons.mp hq with rfl | hq
          · exact q1
          · exact i3 q hq
        · have hne : quos l (u % l) ≠ [] := quos_ne z
          rw [List.getLast?_cons, Option.getD_some]
          cases hh : quos l (u % l) with
          | nil => exact absurd hh hne
          | cons a as =>
            rw [hh] at i4
            rw [List.getLast?_eq_some_getLast (List.cons_ne_nil _ _)] at i4 ⊢
            exact i4
    · have rz : u % l = 0 := by omega
      have l1 : l = 1 := by
        rw [rz] at hg2
        unfold gc at hg2
        rw [Int.gcd_zero_left] at hg2
        omega
      subst l1
      rw [rz, quos_nil (by decide), Int.ediv_one]
      refine ⟨?_, ?_, fun q hq => ?_, ?_⟩
      · show u * 1 + 0 = u
        omega
      · show u * 0 + 1 = 1
        omega
      · rw [List.mem_singleton.mp hq]
        omega
      · show 2 ≤ u
        omega
theorem evn_vals {qs : List Int} (h1 : ∀ q ∈ qs, 1 ≤ q) (h2 : 2 ≤ qs.getLast?.getD 0) : kk (evn qs) = kk qs ∧ tl (evn qs) = tl qs ∧ (∀ q ∈ evn qs, 1 ≤ q) ∧ (evn qs).length % 2 = 0 ∧ evn qs ≠ [] := by
  have hne : qs ≠ [] := by
    rintro rfl
    simp at h2
  obtain ⟨es, x, rfl⟩ : ∃ es x, qs = es ++ [x] := ⟨qs.dropLast, qs.getLast hne, (List.dropLast_concat_getLast hne).symm⟩
  rw [List.getLast?_concat] at h2
  have h2 : 2 ≤ x := h2
  unfold evn
  by_cases z : (es ++ [x]).length % 2 = 1
  · rw [if_pos z, List.dropLast_concat, List.getLast?_concat]
    show kk (es ++ [x - 1, 1]) = _ ∧ tl (es ++ [x - 1, 1]) = _ ∧ (∀ q ∈ es ++ [x - 1, 1], 1 ≤ q) ∧ (es ++ [x - 1, 1]).length % 2 = 0 ∧ es ++ [x - 1, 1] ≠ []
    have e : es ++ [x - 1, 1] = es ++ [x - 1] ++ [1] := by rw [List.append_assoc]; rfl
    refine ⟨?_, ?_, fun q hq => ?_, ?_, by simp⟩
    · rw [e, kk_snoc, kk_snoc, dl_snoc, kk_snoc]
      grind
    · rw [e, tl_snoc, tl_snoc, ml_snoc, tl_snoc]
      grind
    · rcases List.mem_append.mp hq with hq | hq
      · exact h1 q (List.mem_append_left _ hq)
      · rcases List.mem_cons.mp hq with rfl | hq
        · omega
        · rw [List.mem_singleton.mp hq]
          decide
    · rw [List.length_append] at z ⊢
      have z : (es.length + 1) % 2 = 1 := z
      show (es.length + 2) % 2 = 0
      omega
  · rw [if_neg z]
    exact ⟨rfl, rfl, h1, by omega, hne⟩
/-- the row of a number whose square is -1 reads the same from both ends -/
theorem mirrorRow {b r : Int} (hr : 0 < r) (hb : r < b) (hg : gc r b = 1) (h : b ∣ (r * r + 1)) : (evn (quos b r)).reverse = evn (quos b r) := by
  obtain ⟨v1, v2, v3, v4⟩ := quos_vals r.toNat b r (Nat.le_refl _) hr hb hg
  obtain ⟨w1, w2, w3, w4, w5⟩ := evn_vals v3 v4
  obtain ⟨cs, hcs⟩ : ∃ cs, cs = evn (quos b r) := ⟨_, rfl⟩
  rw [← hcs] at w1 w2 w3 w4 w5 ⊢
  rw [v1] at w1
  rw [v2] at w2
  have det := (det_all cs).1 w4
  obtain ⟨p1, p2, p3, p4, p5⟩ := kk_pos cs w3
  obtain ⟨r1, r2, r3, r4⟩ := rev_all cs
  have hrev : ∀ c ∈ cs.reverse, 1 ≤ c := fun c hc => w3 c (List.mem_reverse.mp hc)
  have q4 := (kk_pos cs.reverse hrev).2.2.2.1
  rw [r1, r2, w1] at q4
  -- the other neighbor is the same number
  have d1 : b ∣ (r * dl cs + 1) := ⟨ml cs, by rw [w1, w2] at det; rw [Int.mul_comm b]; omega⟩
  have d2 : b ∣ (r * (dl cs - r)) := dv (Int.dvd_sub d1 h) (by grind)
  have d3 : b ∣ (dl cs - r) := by
    obtain ⟨v, hv⟩ := inv_gen (by omega) hg
    have hd := dvd_of_inv hv
    have z1 := mulL v d2
    have z2 := mulL (dl cs - r) hd
    exact dv (Int.dvd_sub z1 z2) (by grind)
  have e : dl cs = r := by
    obtain ⟨k, hk⟩ := d3
    have k0 : k = 0 := by
      rcases Int.lt_trichotomy k 0 with z | z | z
      · have : b * k ≤ b * (-1) := Int.mul_le_mul_of_nonneg_left (by omega) (by omega)
        omega
      · exact z
      · have : b * 1 ≤ b * k := Int.mul_le_mul_of_nonneg_left (by omega) (by omega)
        omega
    rw [k0] at hk
    omega
  have n1 := quos_kk cs w5 w3
  have n2 := quos_kk cs.reverse (by simpa using w5) hrev
  rw [r1, r2, w1, e] at n2
  rw [w1, w2] at n1
  have f1 := evn_nrm w4 w5
  have f2 := evn_nrm (cs := cs.reverse) (by rw [List.length_reverse]; exact w4) (by simpa using w5)
  rw [← n1] at f1
  rw [← n2] at f2
  rw [← f2, f1]
end Tm

namespace Tm
/-! Divisors of small numbers and the pairs into which they lead a pair. -/
/-- the first divisors of n -/
def dvs (n : Nat) : Nat → List Int
  | 0 => []
  | i + 1 => if (n : Int) % (1 + (i : Int)) = 0 then dvs n i ++ [1 + (i : Int)] else dvs n i
/-- the pairs into which the divisors lead a pair -/
def prsD (n : Nat) (a b : Int) (d : Int) (j : Nat) : List (Int × Int) := (List.range j).map fun j : Nat => ((n : Int) / d * a + (0 + (j : Int)) * b, d * b)
def prs (n : Nat) (a b : Int) (ds : List Int) : List (Int × Int) := ds.flatMap fun d => prsD n a b d d.toNat
def sOf (c : Int × Int) : Rat := Rat.divInt (TT c.1 c.2) (12 * c.2)
def chkP (n : Nat) (a b : Int) : Bool := decide (((prs n a b (dvs n n)).map sOf).sum = Rat.divInt (TT a b) (12 * b) * (((dvs n n).sum : Int) : Rat))
def chkAll (n : Nat) : Bool := (List.range 6).all fun b => (List.range (4 * (b + 1))).all fun x => chkP n ((x : Int) - 2 * ((b + 1 : Nat) : Int)) ((b + 1 : Nat) : Int)
end Tm

namespace Tm
/-! Bernoulli's numbers and polynomials: values, steps, sums in equal steps, sums of powers. -/
def PT : List (List Int) := [[1], [2, -1], [6, -6, 1], [2, -3, 1, 0], [30, -60, 30, 0, -1], [6, -15, 10, 0, -1, 0], [42, -126, 105, 0, -21, 0, 1], [6, -21, 21, 0, -7, 0, 1, 0], [30, -120, 140, 0, -70, 0, 20, 0, -1], [10, -45, 60, 0, -42, 0, 20, 0, -3, 0], [66, -330, 495, 0, -462, 0, 330, 0, -99, 0, 5]]
def PL (n : Nat) : List Int := PT.getD n []
def ph (n : Nat) : Int := (PL n).headD 1
/-- by Horner, from the highest on -/
def hv (fs : List Int) (q : Rat) : Rat := fs.foldl (fun (v : Rat) (f : Int) => v * q + (f : Rat)) 0
def BV (n : Nat) (q : Rat) : Rat := hv (PL n) q / ((ph n : Int) : Rat)
theorem hv_snoc (fs : List Int) (f : Int) (q : Rat) : hv (fs ++ [f]) q = hv fs q * q + (f : Rat) := by
  unfold hv
  rw [List.foldl_append]
  rfl
def pev : List Rat → Rat → Rat
  | [], _ => 0
  | c :: cs, x => c + x * pev cs x
def padd : List Rat → List Rat → List Rat
  | [], q => q
  | p, [] => p
  | a :: p, b :: q => (a + b) :: padd p q
def psc (k : Rat) (p : List Rat) : List Rat := p.map (k * ·)
def plin (a b : Rat) (p : List Rat) : List Rat := padd (psc a p) (0 :: psc b p)
def pcomp (a b : Rat) : List Rat → List Rat
  | [] => []
  | [c] => [c]
  | c :: cs => padd [c] (plin a b (pcomp a b cs))
theorem pev_add (x : Rat) : ∀ p q : List Rat, pev (padd p q) x = pev p x + pev q x
  | [], q => by
    show pev q x = 0 + pev q x
    rw [Rat.zero_add]
  | a :: p, [] => by
    show pev (a :: p) x = pev (a :: p) x + 0
    rw [Rat.add_zero]
  | a :: p, b :: q => by
    show (a + b) + x * pev (padd p q) x = (a + x * pev p x) + (b + x * pev q x)
    rw [pev_add x p q]
    grind
theorem pev_sc (k x : Rat) : ∀ p : List Rat, pev (psc k p) x = k * pev p x
  | [] => (Rat.mul_zero k).symm
  | a :: p => by
    show k * a + x * pev (psc k p) x = k * (a + x * pev p x)
    rw [pev_sc k x p]
    grind
theorem pev_lin (a b x : Rat) (p : List Rat) : pev (plin a b p) x = (a + b * x) * pev p x := by
  unfold plin
  rw [pev_add, pev_sc]
  show _ + (0 + x * pev (psc b p) x) = _
  rw [pev_sc]
  grind
theorem pev_comp (a b x : Rat) : ∀ p : List Rat, pev (pcomp a b p) x = pev p (a + b * x)
  | [] => rfl
  | [c] => by
    show c + x * 0 = c + (a + b * x) * 0
    grind
  | c :: d :: cs => by
    show pev (padd [c] (plin a b (pcomp a b (d :: cs)))) x = c + (a + b * x) * pev (d :: cs) (a + b * x)
    rw [pev_add, pev_lin, pev_comp a b x (d :: cs)]
    show c + x * 0 + _ = _
    grind
/-- the factors, from the lowest on -/
def pc (n : Nat) : List Rat := (PL n).reverse.map fun (f : Int) => ((f : Int) : Rat) / ((ph n : Int) : Rat)
theorem hv_rev (q : Rat) : ∀ l : List Int, hv l.reverse q = pev (l.map fun (f : Int) => ((f : Int) : Rat)) q
  | [] => rfl
  | a :: l => by
    rw [List.reverse_cons, hv_snoc, hv_rev q l]
    show _ = (a : Rat) + q * pev (l.map _) q
    grind
theorem pev_div (d x : Rat) : ∀ l : List Int, pev (l.map fun (f : Int) => ((f : Int) : Rat) / d) x = pev (l.map fun (f : Int) => ((f : Int) : Rat)) x / d
  | [] => by
    show 0 = 0 / d
    rw [Rat.div_def, Rat.zero_mul]
  | a :: l => by
    show (a : Rat) / d + x * pev (l.map _) x = ((a : Rat) + x * pev (l.map _) x) / d
    rw [pev_div d x l]
    simp only [Rat.div_def]
    grind
theorem BV_ev (n : Nat) (q : Rat) : BV n q = pev (pc n) q := by
  unfold BV pc
  rw [pev_div, ← hv_rev, List.reverse_reverse]
/-- the sum of the values at equal steps, as factors -/
def pst (n m : Nat) : Nat → List Rat
  | 0 => []
  | j + 1 => padd (pst n m j) (pcomp (((j : Int) : Rat) / ((m : Int) : Rat)) (1 / ((m : Int) : Rat)) (pc n))
theorem pst_ev (n m : Nat) (hm : 0 < m) (x : Rat) : ∀ j, pev (pst n m j) x = ((List.range j).map fun (i : Nat) => BV n ((x + ((i : Int) : Rat)) / ((m : Int) : Rat))).sum
  | 0 => rfl
  | j + 1 => by
    rw [List.range_succ, List.map_append, List.sum_append]
    show pev (padd _ _) x = _ + (BV n ((x + ((j : Int) : Rat)) / ((m : Int) : Rat)) + 0)
    rw [pev_add, pst_ev n m hm x j, pev_comp, Rat.add_zero, BV_ev]
    congr 2
    simp only [Rat.div_def]
    grind
def rp (q : Rat) (n : Nat) : Rat := q ^ n
theorem chk_st : ((List.range 10).all fun n => (List.range 6).all fun m => decide (pst (n + 1) (m + 1) (m + 1) = psc (1 / ((((m + 1 : Nat) : Int) : Rat) ^ n)) (pc (n + 1)))) = true := by decide +kernel
/-- values at equal steps add up -/
theorem BV_steps {n m : Nat} (h1 : n ≤ 9) (h2 : 1 ≤ m) (h3 : m ≤ 6) (x : Rat) : ((List.range m).map fun (i : Nat) => BV (n + 1) ((x + ((i : Int) : Rat)) / ((m : Int) : Rat))).sum = BV (n + 1) x / ((m : Int) : Rat) ^ n := by
  have h := chk_st
  rw [List.all_eq_true] at h
  have h := h n (List.mem_range.mpr (by omega))
  rw [List.all_eq_true] at h
  have h := h (m - 1) (List.mem_range.mpr (by omega))
  rw [show m - 1 + 1 = m by omega] at h
  have h := of_decide_eq_true h
  rw [← pst_ev (n + 1) m (by omega) x m, h, pev_sc, BV_ev]
  simp only [Rat.div_def]
  grind
def pmon (n : Nat) : List Rat := List.replicate n 0 ++ [(((n + 1 : Nat) : Int) : Rat), 0]
theorem pev_mon (k x : Rat) : ∀ n : Nat, pev (List.replicate n 0 ++ [k, 0]) x = k * x ^ n
  | 0 => by
    show k + x * (0 + x * 0) = k * x ^ 0
    rw [Rat.pow_zero]
    grind
  | n + 1 => by
    rw [List.replicate_succ]
    show 0 + x * pev (List.replicate n 0 ++ [k, 0]) x = _
    rw [pev_mon k x n, Rat.pow_succ]
    grind
theorem chk_up : ((List.range 10).all fun n => decide (pcomp 1 1 (pc (n + 1)) = padd (pc (n + 1)) (pmon n))) = true := by decide +kernel
theorem BV_up {n : Nat} (h1 : n ≤ 9) (x : Rat) : BV (n + 1) (x + 1) - BV (n + 1) x = x ^ n * (((n + 1 : Nat) : Int) : Rat) := by
  have h := chk_up
  rw [List.all_eq_true] at h
  have h := of_decide_eq_true (h n (List.mem_range.mpr (by omega)))
  have e : x + 1 = 1 + 1 * x := by grind
  rw [e, BV_ev, BV_ev, ← pev_comp, h, pev_add]
  unfold pmon
  rw [pev_mon]
  grind
def sgn (n : Nat) : Rat := if n % 2 = 0 then 1 else -1
theorem chk_turn : ((List.range 11).all fun n => decide (pcomp 1 (-1) (pc n) = psc (sgn n) (pc n))) = true := by decide +kernel
theorem BV_turn {n : Nat} (h1 : n ≤ 10) (x : Rat) : BV n (1 - x) = sgn n * BV n x := by
  have h := chk_turn
  rw [List.all_eq_true] at h
  have h := of_decide_eq_true (h n (List.mem_range.mpr (by omega)))
  have e : 1 - x = 1 + -1 * x := by grind
  rw [e, BV_ev, BV_ev, ← pev_comp, h, pev_sc]
end Tm

namespace Tm
/-! Bernoulli's numbers, higher teeth, sums of powers. -/
def EV : List (Int × Int) := [(1, 1), (1, 6), (-1, 30), (1, 42), (-1, 30), (5, 66), (-691, 2730), (7, 6), (-3617, 510), (43867, 798), (-174611, 330), (854513, 138), (-236364091, 2730), (8553103, 6), (-23749461029, 870), (8615841276005, 14322), (-7709321041217, 510), (2577687858367, 6), (-26315271553053477373, 1919190), (2929993913841559, 6), (-261082718496449122051, 13530)]
def bev (k : Nat) : Int × Int := EV.getD k (0, 1)
def Bn (k : Nat) : Rat := if k = 1 then Rat.divInt (-1) 2 else if k % 2 = 1 then Rat.divInt 0 1 else Rat.divInt (bev (k / 2)).1 (bev (k / 2)).2
theorem chk_zero : ((List.range 11).all fun n => decide (BV n 0 = Bn n)) = true := by decide +kernel
theorem BV_zero {n : Nat} (h : n ≤ 10) : BV n 0 = Bn n := by
  have k := chk_zero
  rw [List.all_eq_true] at k
  exact of_decide_eq_true (k n (List.mem_range.mpr (by omega)))
theorem BV_0 (q : Rat) : BV 0 q = 1 := by
  rw [BV_ev]
  show pev [((1 : Int) : Rat) / (((1 : Int) : Int) : Rat)] q = 1
  show ((1 : Int) : Rat) / ((1 : Int) : Rat) + q * 0 = 1
  have : ((1 : Int) : Rat) / ((1 : Int) : Rat) = 1 := by decide +kernel
  rw [this]
  grind
/-- binomial numbers, as they are worked out -/
def ch (n : Int) : Nat → Int
  | 0 => 1
  | s + 1 => ch n s * (n - (s : Int)) / ((s : Int) + 1)
def bsum (n i : Nat) : Rat := ((List.range i).map fun (k : Nat) => Bn k * ((ch ((n : Int) + 1) k : Int) : Rat)).sum
theorem chk_b0 : ((List.range 40).all fun n => decide (bsum (n + 1) (n + 2) = 0)) = true := by decide +kernel
def small (q : Rat) : Bool := decide (q.num.natAbs < 2 ^ 1000) && decide (q.den < 2 ^ 1000)
def smallAll (n : Nat) : Nat → Rat → Nat → Bool
  | 0, _, _ => true
  | f + 1, s, k => small s && (small (Bn k * ((ch ((n : Int) + 1) k : Int) : Rat)) && smallAll n f (s + Bn k * ((ch ((n : Int) + 1) k : Int) : Rat)) (k + 1))
theorem bsum_next (n i : Nat) : bsum n (i + 1) = bsum n i + Bn i * ((ch ((n : Int) + 1) i : Int) : Rat) := by
  unfold bsum
  rw [List.range_succ, List.map_append, List.sum_append]
  show _ + (_ + 0) = _
  rw [Rat.add_zero]
theorem smallAll_get {n : Nat} : ∀ (f i : Nat), smallAll n f (bsum n i) i = true → ∀ j, i ≤ j → j < i + f → small (bsum n j) = true ∧ small (Bn j * ((ch ((n : Int) + 1) j : Int) : Rat)) = true
  | 0, i, _, j, h1, h2 => by omega
  | f + 1, i, h, j, h1, h2 => by
    unfold smallAll at h
    rw [Bool.and_eq_true, Bool.and_eq_true, ← bsum_next] at h
    rcases Nat.lt_or_eq_of_le h1 with z | z
    · exact smallAll_get f (i + 1) h.2.2 j (by omega) (by omega)
    · subst z
      exact ⟨h.1, h.2.1⟩
theorem chk_small : ((List.range 40).all fun n => smallAll (n + 1) (n + 3) 0 0) = true := by decide +kernel
theorem b_small {n j : Nat} (h1 : 1 ≤ n) (h2 : n ≤ 40) (h3 : j ≤ n + 1) : small (bsum n j) = true ∧ small (Bn j * ((ch ((n : Int) + 1) j : Int) : Rat)) = true := by
  have k := chk_small
  rw [List.all_eq_true] at k
  have k := k (n - 1) (List.mem_range.mpr (by omega))
  rw [show n - 1 + 1 = n by omega] at k
  exact smallAll_get (n - 1 + 3) 0 k j (by omega) (by omega)
theorem b_sum {n : Nat} (h1 : 1 ≤ n) (h2 : n ≤ 40) : bsum n (n + 1) = 0 := by
  have k := chk_b0
  rw [List.all_eq_true] at k
  have k := of_decide_eq_true (k (n - 1) (List.mem_range.mpr (by omega)))
  rw [show n - 1 + 1 = n by omega, show n - 1 + 2 = n + 1 by omega] at k
  exact k
/-- sums of powers -/
def PS (e : Nat) : Nat → Int
  | 0 => 0
  | x + 1 => PS e x + (x : Int) ^ e
def hvI (fs : List Int) (x : Int) : Int := fs.foldl (fun v f => v * x + f) 0
def pw (fs : List Int) (x : Int) : Int := fs.foldl (fun v f => (v + f) * x) 0
theorem hvI_snoc (fs : List Int) (f x : Int) : hvI (fs ++ [f]) x = hvI fs x * x + f := by
  unfold hvI
  rw [List.foldl_append]
  rfl
theorem pw_snoc (fs : List Int) (f x : Int) : pw (fs ++ [f]) x = (pw fs x + f) * x := by
  unfold pw
  rw [List.foldl_append]
  rfl
theorem pw_rev (x : Int) : ∀ l : List Int, pw l.reverse x = x * hvI l.reverse x
  | [] => (Int.mul_zero x).symm
  | a :: l => by
    rw [List.reverse_cons, pw_snoc, hvI_snoc, pw_rev x l]
    grind
theorem pw_hv (x : Int) (l : List Int) : pw l x = x * hvI l x := by
  have := pw_rev x l.reverse
  rw [List.reverse_reverse] at this
  exact this
theorem hv_cast_rev (x : Int) : ∀ l : List Int, ((hvI l.reverse x : Int) : Rat) = hv l.reverse (x : Rat)
  | [] => rfl
  | a :: l => by
    rw [List.reverse_cons, hvI_snoc, hv_snoc, Rat.intCast_add, Rat.intCast_mul, hv_cast_rev x l]
theorem hv_cast (x : Int) (l : List Int) : ((hvI l x : Int) : Rat) = hv l (x : Rat) := by
  have := hv_cast_rev x l.reverse
  rw [List.reverse_reverse] at this
  exact this
theorem BV_PS {n : Nat} (h : n ≤ 9) : ∀ x : Nat, BV (n + 1) (((x : Int)) : Rat) - BV (n + 1) 0 = ((PS n x : Int) : Rat) * (((n + 1 : Nat) : Int) : Rat)
  | 0 => by
    show BV (n + 1) ((0 : Int) : Rat) - BV (n + 1) 0 = ((0 : Int) : Rat) * _
    have : (((0 : Int)) : Rat) = 0 := rfl
    rw [this]
    grind
  | x + 1 => by
    have e : ((((x + 1 : Nat) : Int)) : Rat) = (((x : Int)) : Rat) + 1 := by
      rw [show ((x + 1 : Nat) : Int) = (x : Int) + 1 by omega, Rat.intCast_add]
      rfl
    have u := BV_up h (((x : Int)) : Rat)
    have i := BV_PS h x
    show _ = (((PS n x + (x : Int) ^ n : Int)) : Rat) * _
    rw [e, Rat.intCast_add, Rat.intCast_pow]
    grind
theorem ph_pos {n : Nat} (h : n ≤ 10) : 0 < ph n := by
  have k : ((List.range 11).all fun n => decide (0 < ph n)) = true := by decide +kernel
  rw [List.all_eq_true] at k
  exact of_decide_eq_true (k n (List.mem_range.mpr (by omega)))
theorem PL_last {n : Nat} (h : n ≤ 10) : PL n = (PL n).dropLast ++ [(PL n).getLastD 0] := by
  have k : ((List.range 11).all fun n => decide (PL n = (PL n).dropLast ++ [(PL n).getLastD 0])) = true := by decide +kernel
  rw [List.all_eq_true] at k
  exact of_decide_eq_true (k n (List.mem_range.mpr (by omega)))
theorem BV_ph {n : Nat} (h : n ≤ 10) (q : Rat) : BV n q * ((ph n : Int) : Rat) = hv (PL n) q := by
  have := ph_pos h
  have e : ((ph n : Int) : Rat) ≠ 0 := fun z => by
    have := Rat.intCast_inj.mp (z.trans (show (0 : Rat) = ((0 : Int) : Rat) from rfl))
    omega
  unfold BV
  rw [Rat.div_mul_cancel e]
theorem pw_PS {n : Nat} (h : n ≤ 9) (x : Nat) : pw (PL (n + 1)).dropLast (x : Int) = ph (n + 1) * ((n + 1 : Nat) : Int) * PS n x := by
  have hb := BV_PS h x
  have l := PL_last (n := n + 1) (by omega)
  have e1 : hvI (PL (n + 1)) x = pw (PL (n + 1)).dropLast x + (PL (n + 1)).getLastD 0 := by
    conv => lhs; rw [l]
    rw [hvI_snoc, pw_hv]
    grind
  have e0 : hvI (PL (n + 1)) 0 = (PL (n + 1)).getLastD 0 := by
    conv => lhs; rw [l]
    rw [hvI_snoc]
    grind
  have c1 := hv_cast (x : Int) (PL (n + 1))
  have c0 := hv_cast 0 (PL (n + 1))
  rw [← BV_ph (by omega)] at c1 c0
  rw [e1, Rat.intCast_add] at c1
  rw [e0] at c0
  have z : (((0 : Int)) : Rat) = 0 := rfl
  rw [z] at c0
  have : ((pw (PL (n + 1)).dropLast (x : Int) : Int) : Rat) = ((ph (n + 1) * ((n + 1 : Nat) : Int) * PS n x : Int) : Rat) := by
    rw [Rat.intCast_mul, Rat.intCast_mul]
    grind
  exact Rat.intCast_inj.mp this
theorem pw_div {n : Nat} (h : n ≤ 9) (x : Nat) : pw (PL (n + 1)).dropLast (x : Int) / (ph (n + 1) * ((n + 1 : Nat) : Int)) = PS n x := by
  have := ph_pos (n := n + 1) (by omega)
  have p : 0 < ph (n + 1) * ((n + 1 : Nat) : Int) := Int.mul_pos this (by omega)
  rw [pw_PS h, Int.mul_ediv_cancel_left _ (by omega)]
theorem PS_one : ∀ x : Nat, 2 * PS 1 x = (x : Int) * ((x : Int) - 1)
  | 0 => rfl
  | x + 1 => by
    have := PS_one x
    show 2 * (PS 1 x + (x : Int) ^ 1) = _
    rw [Int.pow_succ, Int.pow_zero, show ((x + 1 : Nat) : Int) = (x : Int) + 1 by omega]
    grind
theorem PS_three : ∀ x : Nat, PS 3 x = PS 1 x * PS 1 x
  | 0 => rfl
  | x + 1 => by
    have h := PS_three x
    have o := PS_one x
    show PS 3 x + (x : Int) ^ 3 = (PS 1 x + (x : Int) ^ 1) * (PS 1 x + (x : Int) ^ 1)
    rw [h]
    grind
end Tm

namespace Tm
/-! Higher teeth: they stay by integers, and add up at equal steps. -/
def fr (q : Rat) : Rat := q - (q.floor : Rat)
theorem fr_0 (q : Rat) : 0 ≤ fr q := by
  have := Rat.floor_le q
  unfold fr
  grind
theorem fr_1 (q : Rat) : fr q < 1 := by
  have h := Rat.lt_floor_add_one q
  rw [Rat.intCast_add] at h
  have : (((1 : Int)) : Rat) = 1 := rfl
  unfold fr
  grind
theorem floor_one {q : Rat} {i : Int} (h0 : (i : Rat) ≤ q) (h1 : q < (i : Rat) + 1) : q.floor = i := by
  have a := Rat.le_floor_iff.mpr h0
  have b : q.floor < i + 1 := Rat.floor_lt_iff.mpr (by
    rw [Rat.intCast_add]
    exact h1)
  omega
theorem fr_add (q : Rat) (i : Int) : fr (q + (i : Rat)) = fr q := by
  have h0 := fr_0 q
  have h1 := fr_1 q
  unfold fr at *
  have : (q + (i : Rat)).floor = q.floor + i := floor_one (by rw [Rat.intCast_add]; grind) (by rw [Rat.intCast_add]; grind)
  rw [this, Rat.intCast_add]
  grind
theorem fr_self {q : Rat} (h0 : 0 ≤ q) (h1 : q < 1) : fr q = q := by
  have : q.floor = 0 := floor_one (i := 0) (by exact h0) (by
    have : (((0 : Int)) : Rat) + 1 = 1 := by decide +kernel
    rw [this]
    exact h1)
  unfold fr
  rw [this]
  have : (((0 : Int)) : Rat) = 0 := rfl
  rw [this]
  grind
/-- the higher tooth -/
def HT (n : Nat) (q : Rat) : Rat := if n = 1 ∧ fr q = 0 then 0 else BV n (fr q)
theorem HT_add (n : Nat) (q : Rat) (i : Int) : HT n (q + (i : Rat)) = HT n q := by
  unfold HT
  rw [fr_add]
theorem HT_fr (n : Nat) (q : Rat) : HT n (fr q) = HT n q := by
  have e : q = fr q + (q.floor : Rat) := by unfold fr; grind
  conv => rhs; rw [e]
  rw [HT_add]
/-- totals over a period, wherever it begins -/
def sR (f : Int → Rat) (s : Int) (m : Nat) : Rat := ((List.range m).map fun (j : Nat) => f (s + (j : Int))).sum
theorem sR_next (f : Int → Rat) (s : Int) (m : Nat) : sR f s (m + 1) = sR f s m + f (s + (m : Int)) := by
  unfold sR
  rw [List.range_succ, List.map_append, List.sum_append]
  show _ + (_ + 0) = _
  rw [Rat.add_zero]
theorem sR_first (f : Int → Rat) (s : Int) : ∀ m : Nat, sR f s (m + 1) = f s + sR f (s + 1) m
  | 0 => by
    rw [sR_next]
    show 0 + f (s + ((0 : Nat) : Int)) = f s + 0
    rw [show s + ((0 : Nat) : Int) = s by omega, Rat.zero_add, Rat.add_zero]
  | m + 1 => by
    rw [sR_next, sR_first f s m, sR_next f (s + 1) m, show s + ((m + 1 : Nat) : Int) = s + 1 + (m : Int) by omega]
    grind
theorem sR_shift {f : Int → Rat} {m : Nat} (h : ∀ x, f (x + (m : Int)) = f x) (s : Int) : sR f (s + 1) m = sR f s m := by
  have a := sR_first f s m
  have b := sR_next f s m
  rw [h s] at b
  have : f s + sR f (s + 1) m = f s + sR f s m := by rw [← a, b]; grind
  grind
theorem sR_nat {f : Int → Rat} {m : Nat} (h : ∀ x, f (x + (m : Int)) = f x) : ∀ s : Nat, sR f (s : Int) m = sR f 0 m
  | 0 => rfl
  | s + 1 => by rw [show ((s + 1 : Nat) : Int) = (s : Int) + 1 by omega, sR_shift h, sR_nat h s]
theorem sR_neg {f : Int → Rat} {m : Nat} (h : ∀ x, f (x + (m : Int)) = f x) : ∀ s : Nat, sR f (-(s : Int)) m = sR f 0 m
  | 0 => rfl
  | s + 1 => by
    rw [← sR_neg h s, ← sR_shift h (-((s + 1 : Nat) : Int)), show -((s + 1 : Nat) : Int) + 1 = -(s : Int) by omega]
theorem sR_any {f : Int → Rat} {m : Nat} (h : ∀ x, f (x + (m : Int)) = f x) (s : Int) : sR f s m = sR f 0 m := by
  rcases Int.le_total 0 s with z | z
  · rw [show s = ((s.toNat : Nat) : Int) by omega]
    exact sR_nat h _
  · rw [show s = -(((-s).toNat : Nat) : Int) by omega]
    exact sR_neg h _
theorem fr_den {q : Rat} : fr q = 0 ↔ q.den = 1 := by
  constructor
  · intro h
    have : q = (q.floor : Rat) := by unfold fr at h; grind
    rw [this]
    rfl
  · intro h
    have e : q = ((q.num : Int) : Rat) := by
      conv => lhs; rw [← Rat.num_divInt_den q, h]
      exact Rat.num_divInt_den ((q.num : Int) : Rat)
    rw [e]
    unfold fr
    rw [Rat.floor_intCast]
    grind
theorem HT_steps {n m : Nat} (h1 : n ≤ 9) (h2 : 1 ≤ m) (h3 : m ≤ 6) (q : Rat) : ((List.range m).map fun (j : Nat) => HT (n + 1) ((q + ((j : Int) : Rat)) / ((m : Int) : Rat))).sum = HT (n + 1) q / ((m : Int) : Rat) ^ n := by
  have m0 : (0 : Rat) < ((m : Int) : Rat) := by
    have : ((0 : Int) : Rat) < ((m : Int) : Rat) := Rat.intCast_lt_intCast.mpr (by omega)
    exact this
  have mn : ((m : Int) : Rat) ≠ 0 := by grind
  obtain ⟨f, hf⟩ : ∃ f, f = fr q := ⟨_, rfl⟩
  have f0 : 0 ≤ f := by rw [hf]; exact fr_0 q
  have f1 : f < 1 := by rw [hf]; exact fr_1 q
  have eq : q = f + (q.floor : Rat) := by rw [hf]; unfold fr; grind
  let G : Int → Rat := fun k => HT (n + 1) ((f + (k : Rat)) / ((m : Int) : Rat))
  have per : ∀ x, G (x + (m : Int)) = G x := fun x => by
    show HT (n + 1) ((f + ((x + (m : Int) : Int) : Rat)) / ((m : Int) : Rat)) = HT (n + 1) ((f + (x : Rat)) / ((m : Int) : Rat))
    have e : (f + ((x + (m : Int) : Int) : Rat)) / ((m : Int) : Rat) = (f + (x : Rat)) / ((m : Int) : Rat) + ((1 : Int) : Rat) := by
      have : (((1 : Int)) : Rat) = 1 := rfl
      rw [Rat.intCast_add, this]
      grind
    rw [e, HT_add]
  have e1 : ((List.range m).map fun (j : Nat) => HT (n + 1) ((q + ((j : Int) : Rat)) / ((m : Int) : Rat))).sum = sR G q.floor m := by
    unfold sR
    congr 1
    refine List.map_congr_left fun j _ => ?_
    show _ = HT (n + 1) ((f + ((q.floor + (j : Int) : Int) : Rat)) / ((m : Int) : Rat))
    rw [Rat.intCast_add]
    conv => lhs; rw [eq]
    congr 2
    grind
  rw [e1, sR_any per]
  have val : ∀ j : Nat, j < m → 0 ≤ (f + ((j : Int) : Rat)) / ((m : Int) : Rat) ∧ (f + ((j : Int) : Rat)) / ((m : Int) : Rat) < 1 := fun j hj => by
    have j0 : (0 : Rat) ≤ ((j : Int) : Rat) := by
      have : ((0 : Int) : Rat) ≤ ((j : Int) : Rat) := Rat.intCast_le_intCast.mpr (by omega)
      exact this
    have j1 : ((j : Int) : Rat) + 1 ≤ ((m : Int) : Rat) := by
      have h : (((j : Int) + 1 : Int) : Rat) ≤ ((m : Int) : Rat) := Rat.intCast_le_intCast.mpr (by omega)
      rw [Rat.intCast_add] at h
      exact h
    refine ⟨?_, (Rat.div_lt_iff m0).mpr (by grind)⟩
    refine Rat.not_lt.mp fun z => ?_
    have := (Rat.div_lt_iff m0).mp z
    grind
  have hB := BV_steps h1 h2 h3 f
  have e2 : sR G 0 m = ((List.range m).map fun (j : Nat) => if n + 1 = 1 ∧ f = 0 ∧ j = 0 then 0 else BV (n + 1) ((f + ((j : Int) : Rat)) / ((m : Int) : Rat))).sum := by
    unfold sR
    congr 1
    refine List.map_congr_left fun j hj => ?_
    have hj := List.mem_range.mp hj
    obtain ⟨v0, v1⟩ := val j hj
    show HT (n + 1) ((f + ((0 + (j : Int) : Int) : Rat)) / ((m : Int) : Rat)) = _
    rw [Int.zero_add]
    unfold HT
    rw [fr_self v0 v1]
    have iff : ((f + ((j : Int) : Rat)) / ((m : Int) : Rat) = 0) ↔ (f = 0 ∧ j = 0) := by
      have j0 : (0 : Rat) ≤ ((j : Int) : Rat) := by
        have : ((0 : Int) : Rat) ≤ ((j : Int) : Rat) := Rat.intCast_le_intCast.mpr (by omega)
        exact this
      constructor
      · intro z
        have z2 : f + ((j : Int) : Rat) = 0 := by
          have := Rat.div_mul_cancel (a := f + ((j : Int) : Rat)) mn
          rw [z] at this
          grind
        have zf : f = 0 := by grind
        have zj : ((j : Int) : Rat) = ((0 : Int) : Rat) := by
          have : ((0 : Int) : Rat) = 0 := rfl
          grind
        have := Rat.intCast_inj.mp zj
        exact ⟨zf, by omega⟩
      · rintro ⟨rfl, rfl⟩
        have : (((0 : Nat) : Int) : Rat) = 0 := rfl
        rw [this]
        simp only [Rat.div_def]
        grind
    by_cases c : n + 1 = 1 ∧ (f + ((j : Int) : Rat)) / ((m : Int) : Rat) = 0
    · rw [if_pos c, if_pos ⟨c.1, iff.mp c.2⟩]
    · rw [if_neg c, if_neg fun z => c ⟨z.1, iff.mpr z.2⟩]
  rw [e2]
  have e3 : HT (n + 1) q = if n + 1 = 1 ∧ f = 0 then 0 else BV (n + 1) f := by
    unfold HT
    rw [← hf]
  rw [e3]
  by_cases c : n + 1 = 1 ∧ f = 0
  · rw [if_pos c]
    obtain ⟨hn, hf0⟩ := c
    have hn : n = 0 := by omega
    subst hn
    obtain ⟨k, rfl⟩ : ∃ k, m = k + 1 := ⟨m - 1, by omega⟩
    rw [List.range_succ_eq_map, List.map_cons, List.map_map] at hB ⊢
    have tail : ((List.range k).map ((fun (j : Nat) => if 0 + 1 = 1 ∧ f = 0 ∧ j = 0 then 0 else BV (0 + 1) ((f + ((j : Int) : Rat)) / (((k + 1 : Nat) : Int) : Rat))) ∘ Nat.succ)) = ((List.range k).map ((fun (i : Nat) => BV (0 + 1) ((f + ((i : Int) : Rat)) / (((k + 1 : Nat) : Int) : Rat))) ∘ Nat.succ)) := List.map_congr_left fun j _ => by
      show (if 0 + 1 = 1 ∧ f = 0 ∧ j + 1 = 0 then 0 else _) = _
      rw [if_neg (fun z => by omega)]
      rfl
    rw [tail, List.sum_cons] at *
    rw [if_pos ⟨rfl, hf0, rfl⟩]
    rw [hf0] at hB ⊢
    have z0 : ((0 : Rat) + (((0 : Nat) : Int) : Rat)) / (((k + 1 : Nat) : Int) : Rat) = 0 := by
      have : (((0 : Nat) : Int) : Rat) = 0 := rfl
      rw [this]
      simp only [Rat.div_def]
      grind
    rw [z0, Rat.pow_zero] at hB
    simp only [Rat.div_def] at hB ⊢
    rw [Rat.pow_zero]
    grind
  · rw [if_neg c, ← hB]
    congr 1
    refine List.map_congr_left fun j _ => ?_
    rw [if_neg fun z => c ⟨z.1, z.2.1⟩]
end Tm

namespace Tm
/-! The integers that tables of the determinant 1 have by a sum of teeth, and those of products. -/
structure Tb where
  p : Int
  q : Int
  r : Int
  t : Int
def Tb.ok (m : Tb) : Prop := m.p * m.t - m.q * m.r = 1
def Tb.mul (m n : Tb) : Tb := ⟨m.p * n.p + m.q * n.r, m.p * n.q + m.q * n.t, m.r * n.p + m.t * n.r, m.r * n.q + m.t * n.t⟩
def Tb.neg (m : Tb) : Tb := ⟨-m.p, -m.q, -m.r, -m.t⟩
def Tb.inv (m : Tb) : Tb := ⟨m.t, -m.q, -m.r, m.p⟩
theorem Tb.ext' {m n : Tb} (h1 : m.p = n.p) (h2 : m.q = n.q) (h3 : m.r = n.r) (h4 : m.t = n.t) : m = n := by
  cases m; cases n; cases h1; cases h2; cases h3; cases h4; rfl
theorem Tb.mul_ok {m n : Tb} (h1 : m.ok) (h2 : n.ok) : (m.mul n).ok := by
  unfold Tb.ok Tb.mul at *
  have : (m.p * n.p + m.q * n.r) * (m.r * n.q + m.t * n.t) - (m.p * n.q + m.q * n.t) * (m.r * n.p + m.t * n.r) = (m.p * m.t - m.q * m.r) * (n.p * n.t - n.q * n.r) := by grind
  show (m.p * n.p + m.q * n.r) * (m.r * n.q + m.t * n.t) - (m.p * n.q + m.q * n.t) * (m.r * n.p + m.t * n.r) = 1
  rw [this, h1, h2]
  rfl
theorem Tb.mul_assoc (l m n : Tb) : (l.mul m).mul n = l.mul (m.mul n) := by
  refine Tb.ext' ?_ ?_ ?_ ?_ <;> simp only [Tb.mul] <;> grind
theorem Tb.neg_ok {m : Tb} (h : m.ok) : m.neg.ok := by
  unfold Tb.ok Tb.neg at *
  show -m.p * -m.t - -m.q * -m.r = 1
  rw [Int.neg_mul_neg, Int.neg_mul_neg]
  exact h
theorem Tb.inv_ok {m : Tb} (h : m.ok) : m.inv.ok := by
  unfold Tb.ok Tb.inv at *
  show m.t * m.p - -m.q * -m.r = 1
  rw [Int.neg_mul_neg, Int.mul_comm m.t]
  exact h
/-- twelve times the sum, for a modulus of either sign -/
def tA (d c : Int) : Int := TT d (c.natAbs : Int)
/-- the number, times the modulus without its sign -/
def phN (m : Tb) : Int := m.r.sign * (m.p + m.t - tA m.t m.r)
def phi (m : Tb) : Int := if m.r = 0 then m.q * m.t else phN m / (m.r.natAbs : Int)
theorem gc_okr {m : Tb} (h : m.ok) : gc m.t m.r = 1 := by
  unfold Tb.ok at h
  have h1 : gc m.t m.r ∣ m.t := gc_l _ _
  have h2 : gc m.t m.r ∣ m.r := gc_r _ _
  have h3 : gc m.t m.r ∣ 1 := by
    rw [← h]
    exact Int.dvd_sub (Int.dvd_trans h1 (Int.dvd_mul_left _ _)) (Int.dvd_trans h2 (Int.dvd_mul_left _ _))
  have := Int.le_of_dvd (by decide) h3
  have h0 : 0 ≤ gc m.t m.r := by unfold gc; omega
  rcases Int.lt_or_eq_of_le h0 with z | z
  · omega
  · rw [← z] at h3
    obtain ⟨k, hk⟩ := h3
    omega
theorem gc_nat {a b : Int} : gc a (b.natAbs : Int) = gc a b := by
  unfold gc
  congr 1
theorem sign_abs (x : Int) : x.sign * (x.natAbs : Int) = x := Int.sign_mul_natAbs x
theorem sign3 (x : Int) : (x < 0 ∧ x.sign = -1) ∨ (x = 0 ∧ x.sign = 0) ∨ (0 < x ∧ x.sign = 1) := by
  rcases Int.lt_trichotomy x 0 with h | h | h
  · exact .inl ⟨h, Int.sign_eq_neg_one_of_neg h⟩
  · subst h; exact .inr (.inl ⟨rfl, rfl⟩)
  · exact .inr (.inr ⟨h, Int.sign_eq_one_of_pos h⟩)
/-- the number is one -/
theorem phi_mul {m : Tb} (h : m.ok) (hr : m.r ≠ 0) : phi m * (m.r.natAbs : Int) = phN m := by
  unfold phi
  rw [if_neg hr]
  have b0 : 0 < ((m.r.natAbs : Nat) : Int) := by omega
  refine Int.ediv_mul_cancel ?_
  unfold phN
  refine Int.dvd_trans ?_ (Int.dvd_mul_left _ _)
  have hg : gc m.t (m.r.natAbs : Int) = 1 := by rw [gc_nat, gc_okr h]
  have a0 := Int.emod_nonneg m.t (show (m.r.natAbs : Int) ≠ 0 by omega)
  have a1 := Int.emod_lt_of_pos m.t b0
  obtain ⟨mm, f, c, x, O⟩ := sto_ex a0 a1
  have hc := O.hc
  rw [gc_mod, hg] at hc
  subst hc
  have hT := O.hT
  rw [TT_mod b0, Int.mul_one] at hT
  have hd := O.hd
  unfold tA
  rw [← hT]
  -- p and f are both inverses of t
  have e1 := Int.emod_add_mul_ediv m.t (m.r.natAbs : Int)
  generalize hB : ((m.r.natAbs : Nat) : Int) = B at *
  have hrB : B ∣ m.r := by rw [← hB]; exact Int.natAbs_dvd.mpr (Int.dvd_refl _)
  have d1 : B ∣ (1 - f * m.t) := by
    have : 1 - f * m.t = (1 - f * (m.t % B)) - B * (f * (m.t / B)) := by
      have : m.t = m.t % B + B * (m.t / B) := by omega
      conv => lhs; rw [this]
      grind
    rw [this]
    exact Int.dvd_sub hd (Int.dvd_mul_right _ _)
  have d2 : B ∣ (m.p * m.t - 1) := by
    have : m.p * m.t - 1 = m.q * m.r := by unfold Tb.ok at h; omega
    rw [this]
    exact Int.dvd_trans hrB (Int.dvd_mul_left _ _)
  have d3 : B ∣ (m.p - f) := by
    have : m.p - f = m.p * (1 - f * m.t) + f * (m.p * m.t - 1) := by grind
    rw [this]
    exact Int.dvd_add (Int.dvd_trans d1 (Int.dvd_mul_left _ _)) (Int.dvd_trans d2 (Int.dvd_mul_left _ _))
  have : m.p + m.t - ((mm + x) * B + m.t % B + f) = (m.p - f) + (B * (m.t / B) - (mm + x) * B) := by omega
  rw [this]
  exact Int.dvd_add d3 (Int.dvd_sub (Int.dvd_mul_right _ _) (Int.dvd_mul_left _ _))
end Tm

namespace Tm
/-! The integer of a product: `phi (m n) = phi m + phi n - 3 sign (r_m r_n r_mn)`. -/
/-- m T^k -/
def Tb.up (m : Tb) (k : Int) : Tb := ⟨m.p, m.p * k + m.q, m.r, m.r * k + m.t⟩
/-- m S -/
def Tb.rot (m : Tb) : Tb := ⟨m.q, -m.p, m.t, -m.r⟩
theorem Tb.up_ok {m : Tb} (h : m.ok) (k : Int) : (m.up k).ok := by
  unfold Tb.ok Tb.up at *
  show m.p * (m.r * k + m.t) - (m.p * k + m.q) * m.r = 1
  grind
theorem Tb.rot_ok {m : Tb} (h : m.ok) : m.rot.ok := by
  unfold Tb.ok Tb.rot at *
  show m.q * -m.r - -m.p * m.t = 1
  grind
theorem TT_coprime {a b : Int} (h : gc a b = 1) : TT a b = T1 a b := by
  unfold TT
  rw [h, Int.ediv_one, Int.ediv_one, Int.one_mul]
theorem unit_or {a b : Int} (h : a * b = 1) : a = 1 ∨ a = -1 := by
  have e := Int.natAbs_mul a b
  rw [h] at e
  have : a.natAbs = 1 := Nat.eq_one_of_mul_eq_one_right e.symm
  omega
theorem unit_sq {a b : Int} (h : a * b = 1) : a * a = 1 := by
  rcases unit_or h with z | z <;> subst z <;> rfl
theorem phN_eq {m : Tb} (h : m.ok) (hr : m.r ≠ 0) : phi m * (m.r.natAbs : Int) = m.r.sign * (m.p + m.t - TT m.t (m.r.natAbs : Int)) := phi_mul h hr
theorem phi_of {m : Tb} (h : m.ok) (hr : m.r ≠ 0) {x : Int} (hx : x * (m.r.natAbs : Int) = phN m) : phi m = x := by
  have e := phi_mul h hr
  have b0 : ((m.r.natAbs : Nat) : Int) ≠ 0 := by omega
  exact Int.eq_of_mul_eq_mul_right b0 (by rw [e, hx])
theorem phi_zero {m : Tb} (hr : m.r = 0) : phi m = m.q * m.t := by
  unfold phi; rw [if_pos hr]
theorem phi_up {m : Tb} (h : m.ok) (k : Int) : phi (m.up k) = phi m + k := by
  by_cases hr : m.r = 0
  · rw [phi_zero (m := m.up k) hr, phi_zero hr]
    show (m.p * k + m.q) * (m.r * k + m.t) = _
    have : m.p * m.t = 1 := by unfold Tb.ok at h; rw [hr] at h; simpa using h
    rw [hr]
    have : (m.p * k + m.q) * (0 * k + m.t) = (m.p * m.t) * k + m.q * m.t := by grind
    rw [this]; grind
  · refine phi_of (Tb.up_ok h k) hr ?_
    have e := phi_mul h hr
    show (phi m + k) * (m.r.natAbs : Int) = m.r.sign * (m.p + (m.r * k + m.t) - TT (m.r * k + m.t) (m.r.natAbs : Int))
    have b0 : 0 < ((m.r.natAbs : Nat) : Int) := by omega
    have s := sign_abs m.r
    have t : TT (m.r * k + m.t) (m.r.natAbs : Int) = TT m.t (m.r.natAbs : Int) := by
      have : m.r * k + m.t = m.t + (m.r.natAbs : Int) * (m.r.sign * k) := by
        conv => lhs; lhs; lhs; rw [← s]
        grind
      rw [this]; exact TT_lift b0
    rw [t, Int.add_mul, e]
    unfold phN tA
    have a : m.r.sign * m.r = (m.r.natAbs : Int) := by
      rcases sign3 m.r with ⟨q, z⟩ | ⟨q, z⟩ | ⟨q, z⟩ <;> rw [z] <;> omega
    have : m.r.sign * (m.p + (m.r * k + m.t) - TT m.t (m.r.natAbs : Int)) = m.r.sign * (m.p + m.t - TT m.t (m.r.natAbs : Int)) + (m.r.sign * m.r) * k := by grind
    rw [this, a, Int.mul_comm k]
theorem phi_neg {m : Tb} (h : m.ok) : phi m.neg = phi m := by
  by_cases hr : m.r = 0
  · rw [phi_zero (m := m.neg) (by show -m.r = 0; omega), phi_zero hr]
    show -m.q * -m.t = _
    exact Int.neg_mul_neg _ _
  · refine phi_of (Tb.neg_ok h) (by show -m.r ≠ 0; omega) ?_
    have e := phi_mul h hr
    have b0 : 0 < ((m.r.natAbs : Nat) : Int) := by omega
    show phi m * ((-m.r).natAbs : Int) = (-m.r).sign * (-m.p + -m.t - TT (-m.t) ((-m.r).natAbs : Int))
    rw [Int.natAbs_neg, Int.sign_neg, TT_neg b0, e]
    unfold phN tA
    grind
/-- the law of two, of the two signs -/
theorem TT_two {d c : Int} (hd : d ≠ 0) (hc : c ≠ 0) (hg : gc d c = 1) :
    (c.natAbs : Int) * TT c (d.natAbs : Int) * c.sign + (d.natAbs : Int) * TT d (c.natAbs : Int) * d.sign = (c.natAbs : Int) * (c.natAbs : Int) + (d.natAbs : Int) * (d.natAbs : Int) + 1 - 3 * ((c.natAbs : Int) * (d.natAbs : Int)) := by
  have hC : 0 < ((c.natAbs : Nat) : Int) := by omega
  have hD : 0 < ((d.natAbs : Nat) : Int) := by omega
  have g1 : gc (d.natAbs : Int) (c.natAbs : Int) = 1 := by
    rw [← hg]; unfold gc; congr 1
  have g2 : gc (c.natAbs : Int) (d.natAbs : Int) = 1 := by
    rw [← g1]; unfold gc; rw [Int.gcd_comm]
  have a := T1_any hC hD g2
  rw [← TT_coprime g2, ← TT_coprime g1] at a
  have sg (x y : Int) (hx : x ≠ 0) (hy : 0 < y) : TT x y * x.sign = TT (x.natAbs : Int) y := by
    rcases sign3 x with ⟨q, z⟩ | ⟨q, z⟩ | ⟨q, z⟩
    · rw [z, show ((x.natAbs : Nat) : Int) = -x by omega, TT_neg hy]; omega
    · exact absurd q hx
    · rw [z, show ((x.natAbs : Nat) : Int) = x by omega]; omega
  rw [Int.mul_assoc, Int.mul_assoc, sg c _ hc hD, sg d _ hd hC]
  exact a
theorem phi_rot {m : Tb} (h : m.ok) : phi m.rot = phi m - 3 * (m.r.sign * m.t.sign) := by
  by_cases hr : m.r = 0
  · have pt : m.p * m.t = 1 := by unfold Tb.ok at h; rw [hr] at h; simpa using h
    have t0 : m.t ≠ 0 := fun z => by rw [z] at pt; simp at pt
    rw [phi_zero hr, hr]
    have tt : m.t * m.t = 1 := unit_sq (by rw [Int.mul_comm]; exact pt)
    refine phi_of (Tb.rot_ok h) t0 ?_
    show (m.q * m.t - 3 * (Int.sign 0 * m.t.sign)) * (m.t.natAbs : Int) = m.t.sign * (m.q + -m.r - TT (-m.r) (m.t.natAbs : Int))
    rw [hr, show (-0 : Int) = 0 from rfl, TT_zero (by omega), Int.sign_zero]
    rcases unit_or (show m.t * m.p = 1 by rw [Int.mul_comm]; exact pt) with z | z <;> rw [z] <;> simp
  · by_cases ht : m.t = 0
    · have qr : m.q * m.r = -1 := by unfold Tb.ok at h; rw [ht] at h; omega
      have e := phN_eq h hr
      rw [ht] at e ⊢
      rw [TT_zero (by omega)] at e
      rw [phi_zero (m := m.rot) ht]
      show -m.p * -m.r = _
      rcases unit_or (show m.r * (-m.q) = 1 by rw [Int.mul_neg, Int.mul_comm]; omega) with z | z <;> rw [z] at e ⊢ <;> simp at e ⊢ <;> omega
    · have e := phN_eq h hr
      have e2 := phN_eq (Tb.rot_ok h) (show m.rot.r ≠ 0 from ht)
      change phi m.rot * (m.t.natAbs : Int) = m.t.sign * (m.q + -m.r - TT (-m.r) (m.t.natAbs : Int)) at e2
      have hC : 0 < ((m.r.natAbs : Nat) : Int) := by omega
      have hD : 0 < ((m.t.natAbs : Nat) : Int) := by omega
      rw [TT_neg hD] at e2
      have w := TT_two ht hr (gc_okr h)
      have sc := sign_abs m.r
      have sd := sign_abs m.t
      have dd : m.p * m.t - m.q * m.r = 1 := h
      have c2 : m.r.sign * m.r.sign = 1 := by rcases sign3 m.r with ⟨q, z⟩ | ⟨q, z⟩ | ⟨q, z⟩ <;> first | exact absurd q hr | (rw [z]; rfl)
      have d2 : m.t.sign * m.t.sign = 1 := by rcases sign3 m.t with ⟨q, z⟩ | ⟨q, z⟩ | ⟨q, z⟩ <;> first | exact absurd q ht | (rw [z]; rfl)
      generalize ((m.r.natAbs : Nat) : Int) = C at *
      generalize ((m.t.natAbs : Nat) : Int) = D at *
      generalize m.r.sign = s at *
      generalize m.t.sign = u at *
      generalize TT m.t C = X at *
      generalize TT m.r D = Y at *
      generalize phi m = F at *
      generalize phi m.rot = G at *
      generalize m.p = p at *
      generalize m.q = q at *
      rw [← sc] at e2
      rw [← sd] at e
      rw [← sc, ← sd] at dd
      clear sc sd
      refine Int.eq_of_mul_eq_mul_right (show C * D ≠ 0 from Int.ne_of_gt (Int.mul_pos hC hD)) ?_
      have a1 : G * (C * D) = C * (u * (q + -(s * C) - -Y)) := by rw [← e2]; grind
      have a2 : (F - 3 * (s * u)) * (C * D) = D * (s * (p + u * D - X)) - 3 * (s * u) * (C * D) := by rw [← e]; grind
      rw [a1, a2]
      have k1 : C * (u * (q + -(s * C) - -Y)) - D * (s * (p + u * D - X)) = C * u * q - D * s * p - s * u * (C * C + D * D) + (C * u * Y + D * s * X) := by grind
      have k2 : C * u * Y + D * s * X = s * u * (C * Y * s + D * X * u) := by
        have : s * u * (C * Y * s + D * X * u) = (s * s) * (C * u * Y) + (u * u) * (D * s * X) := by grind
        rw [this, c2, d2, Int.one_mul, Int.one_mul]
      have k3 : C * u * q - D * s * p = -(s * u) := by
        have : C * u * q - D * s * p = (s * s) * (C * u * q) - (u * u) * (D * s * p) := by rw [c2, d2, Int.one_mul, Int.one_mul]
        rw [this]
        have : (s * s) * (C * u * q) - (u * u) * (D * s * p) = -(s * u) * (p * (u * D) - q * (s * C)) := by grind
        rw [this, dd, Int.mul_one]
      rw [k2, k3, w] at k1
      grind
end Tm

namespace Tm
theorem sign_sub (u v : Int) : (v.sign < u.sign → (u - v).sign = 1) ∧ (u.sign < v.sign → (u - v).sign = -1) ∧ (u.sign = 0 → v.sign = 0 → (u - v).sign = 0) := by
  rcases sign3 u with ⟨a, x⟩ | ⟨a, x⟩ | ⟨a, x⟩ <;> rcases sign3 v with ⟨b, y⟩ | ⟨b, y⟩ | ⟨b, y⟩ <;> rcases sign3 (u - v) with ⟨c, z⟩ | ⟨c, z⟩ | ⟨c, z⟩ <;> rw [x, y, z] <;> omega
theorem sign_law {a b c d e : Int} (ha : a = -1 ∨ a = 0 ∨ a = 1) (hb : b = -1 ∨ b = 0 ∨ b = 1) (hc : c = -1 ∨ c = 0 ∨ c = 1) (hd : d = -1 ∨ d = 0 ∨ d = 1) (he : -1 ≤ e ∧ e ≤ 1)
    (h1 : d * a < c * b → e = 1) (h2 : c * b < d * a → e = -1) (h3 : c * b = 0 → d * a = 0 → e = 0) (n1 : ¬ (a = 0 ∧ b = 0)) (n2 : ¬ (c = 0 ∧ d = 0)) :
    e * a * c + c * d = a * b + e * b * d := by
  rcases ha with rfl | rfl | rfl <;> rcases hb with rfl | rfl | rfl <;> rcases hc with rfl | rfl | rfl <;> rcases hd with rfl | rfl | rfl <;> simp at h1 h2 h3 n1 n2 ⊢ <;> omega
theorem sign_or (x : Int) : x.sign = -1 ∨ x.sign = 0 ∨ x.sign = 1 := by
  rcases sign3 x with ⟨_, z⟩ | ⟨_, z⟩ | ⟨_, z⟩ <;> omega
theorem sign_id {x y C D : Int} (n1 : ¬ (x = 0 ∧ y = 0)) (n2 : ¬ (C = 0 ∧ D = 0)) :
    (C * y - D * x).sign * x.sign * C.sign + C.sign * D.sign = x.sign * y.sign + (C * y - D * x).sign * y.sign * D.sign := by
  have s := sign_sub (C * y) (D * x)
  rw [Int.sign_mul, Int.sign_mul] at s
  refine sign_law (sign_or x) (sign_or y) (sign_or C) (sign_or D) ?_ s.1 s.2.1 s.2.2 ?_ ?_
  · rcases sign_or (C * y - D * x) with h | h | h <;> omega
  · intro h; exact n1 ⟨Int.sign_eq_zero_iff_zero.mp h.1, Int.sign_eq_zero_iff_zero.mp h.2⟩
  · intro h; exact n2 ⟨Int.sign_eq_zero_iff_zero.mp h.1, Int.sign_eq_zero_iff_zero.mp h.2⟩
/-- what holds of a product -/
def Law (m n : Tb) : Prop := phi (m.mul n) = phi m + phi n - 3 * (m.r.sign * n.r.sign * (m.mul n).r.sign)
theorem row_ne {m : Tb} (h : m.ok) : ¬ (m.r = 0 ∧ m.t = 0) := by
  intro ⟨a, b⟩
  unfold Tb.ok at h
  rw [a, b] at h
  omega
theorem law_up {m n : Tb} (hm : m.ok) (hn : n.ok) (k : Int) (h : Law m n) : Law m (n.up k) := by
  unfold Law at *
  have e : m.mul (n.up k) = (m.mul n).up k := by
    refine Tb.ext' ?_ ?_ ?_ ?_ <;> simp only [Tb.mul, Tb.up] <;> grind
  rw [e, phi_up (Tb.mul_ok hm hn), phi_up hn, h]
  show _ = _ - 3 * (m.r.sign * n.r.sign * (m.mul n).r.sign)
  omega
theorem law_neg {m n : Tb} (hm : m.ok) (hn : n.ok) (h : Law m n) : Law m n.neg := by
  unfold Law at *
  have e : m.mul n.neg = (m.mul n).neg := by
    refine Tb.ext' ?_ ?_ ?_ ?_ <;> simp only [Tb.mul, Tb.neg] <;> grind
  rw [e, phi_neg (Tb.mul_ok hm hn), phi_neg hn, h]
  show _ = _ - 3 * (m.r.sign * (-n.r).sign * (-(m.mul n).r).sign)
  rw [Int.sign_neg, Int.sign_neg]
  grind
theorem law_rot {m n : Tb} (hm : m.ok) (hn : n.ok) (h : Law m n) : Law m n.rot := by
  unfold Law at *
  have e : m.mul n.rot = (m.mul n).rot := by
    refine Tb.ext' ?_ ?_ ?_ ?_ <;> simp only [Tb.mul, Tb.rot] <;> grind
  rw [e, phi_rot (Tb.mul_ok hm hn), phi_rot hn, h]
  show _ = _ - 3 * (m.r.sign * n.t.sign * (m.mul n).t.sign)
  have i := sign_id (row_ne hn) (row_ne (Tb.mul_ok hm hn))
  have r : (m.mul n).r * n.t - (m.mul n).t * n.r = m.r := by
    show (m.r * n.p + m.t * n.r) * n.t - (m.r * n.q + m.t * n.t) * n.r = m.r
    have : (m.r * n.p + m.t * n.r) * n.t - (m.r * n.q + m.t * n.t) * n.r = m.r * (n.p * n.t - n.q * n.r) := by grind
    rw [this, show n.p * n.t - n.q * n.r = 1 from hn, Int.mul_one]
  rw [r] at i
  omega
theorem law_flat {m n : Tb} (hm : m.ok) (hn : n.ok) (h0 : n.r = 0) : Law m n := by
  have pt : n.t * n.p = 1 := by unfold Tb.ok at hn; rw [h0] at hn; rw [Int.mul_comm]; simpa using hn
  have one : Law m ⟨1, 0, 0, 1⟩ := by
    unfold Law
    have e : m.mul ⟨1, 0, 0, 1⟩ = m := by
      refine Tb.ext' ?_ ?_ ?_ ?_ <;> simp only [Tb.mul] <;> omega
    rw [e, phi_zero (m := ⟨1, 0, 0, 1⟩) rfl]
    show _ = _ + 0 * 1 - 3 * (m.r.sign * Int.sign 0 * m.r.sign)
    rw [Int.sign_zero]; omega
  have o1 : (⟨1, 0, 0, 1⟩ : Tb).ok := rfl
  rcases unit_or pt with z | z
  · have e : n = (⟨1, 0, 0, 1⟩ : Tb).up n.q := by
      refine Tb.ext' ?_ ?_ ?_ ?_ <;> simp only [Tb.up] <;> rw [z] at pt <;> omega
    rw [e]
    exact law_up hm o1 _ one
  · have e : n = ((⟨1, 0, 0, 1⟩ : Tb).up (-n.q)).neg := by
      refine Tb.ext' ?_ ?_ ?_ ?_ <;> simp only [Tb.up, Tb.neg] <;> rw [z] at pt <;> omega
    rw [e]
    exact law_neg hm (Tb.up_ok o1 _) (law_up hm o1 _ one)
theorem law_all : ∀ (g : Nat) {m n : Tb}, m.ok → n.ok → n.r.natAbs < g → Law m n := by
  intro g
  induction g with
  | zero => intro m n _ _ h; omega
  | succ g ih =>
    intro m n hm hn hg
    by_cases h0 : n.r = 0
    · exact law_flat hm hn h0
    · have e : n = ((((n.up (-(n.t / n.r))).rot).rot).neg).up (n.t / n.r) := by
        refine Tb.ext' ?_ ?_ ?_ ?_ <;> simp only [Tb.up, Tb.rot, Tb.neg] <;> grind
      have o1 := Tb.rot_ok (Tb.up_ok hn (-(n.t / n.r)))
      have lt : ((n.up (-(n.t / n.r))).rot).r.natAbs < g := by
        show (n.r * -(n.t / n.r) + n.t).natAbs < g
        have : n.r * -(n.t / n.r) + n.t = n.t % n.r := by
          have := Int.emod_add_mul_ediv n.t n.r
          rw [Int.mul_neg]; omega
        rw [this]
        have a := Int.emod_nonneg n.t h0
        have b := Int.emod_lt n.t h0
        omega
      rw [e]
      exact law_up hm (Tb.neg_ok (Tb.rot_ok o1)) _ (law_neg hm (Tb.rot_ok o1) (law_rot hm o1 (ih hm o1 lt)))
/-- the integer of a product -/
theorem phi_prod {m n : Tb} (hm : m.ok) (hn : n.ok) : phi (m.mul n) = phi m + phi n - 3 * (m.r.sign * n.r.sign * (m.mul n).r.sign) := law_all _ hm hn (Nat.lt_succ_self _)
end Tm

namespace Tm
/-! Integers of opposites, and sums of teeth by their meaning. -/
theorem phi_one : phi ⟨1, 0, 0, 1⟩ = 0 := by decide +kernel
theorem phi_inv {m : Tb} (h : m.ok) : phi m.inv = - phi m := by
  have e := phi_prod h (Tb.inv_ok h)
  have i : m.mul m.inv = ⟨1, 0, 0, 1⟩ := by
    unfold Tb.ok at h
    refine Tb.ext' ?_ ?_ ?_ ?_ <;> simp only [Tb.mul, Tb.inv] <;> grind
  rw [i, phi_one] at e
  have z : m.r.sign * m.inv.r.sign * (⟨1, 0, 0, 1⟩ : Tb).r.sign = 0 := Int.mul_zero _
  rw [z] at e
  omega
/-- the parts of the sum by its meaning, twice and twice the wholes -/
def plT (a : Int) (n : Nat) (i : Nat) : Int := if rs a 0 n i = 0 then 0 else (2 * (i : Int) - n) * (2 * rs a 0 n i - n)
theorem rs_zero (a : Int) (n : Nat) : rs a 0 n 0 = 0 := by
  unfold rs
  simp
theorem plT_zero (a : Int) (n : Nat) : plT a n 0 = 0 := by
  unfold plT
  rw [if_pos (rs_zero a n)]
theorem sm_first (c : Int) : ∀ n : Nat, 0 < n → sm (fun i => if i = 0 then c else 0) n = c
  | 0, h => by omega
  | 1, _ => by show (0 : Int) + c = c; omega
  | n + 2, _ => by
    show sm (fun i => if i = 0 then c else 0) (n + 1) + (if n + 1 = 0 then c else 0) = c
    rw [sm_first c (n + 1) (by omega), if_neg (by omega)]
    omega
theorem plT_sum {a : Int} {n : Nat} (hn : 0 < n) (hg : gc a n = 1) : 3 * sm (plT a n) n = (n : Int) * T1 a n := by
  obtain ⟨v, hv⟩ := inv_int hn hg
  have p := perm_sum (a := a) (c := 0) hn hv (fun j => (j : Int))
  have c : sm (fun i => (fun j : Nat => (j : Int)) ((a * (i : Int) + 0) % (n : Int)).toNat) n = sm (fun i => rs a 0 n i) n := sm_congr n fun i _ => by
    have r0 := Int.emod_nonneg (a * (i : Int) + 0) (show (n : Int) ≠ 0 by omega)
    show ((((a * (i : Int) + 0) % (n : Int)).toNat : Nat) : Int) = _
    rw [show ((((a * (i : Int) + 0) % (n : Int)).toNat : Nat) : Int) = (a * (i : Int) + 0) % (n : Int) by omega]
    rfl
  rw [c] at p
  have e : sm (plT a n) n = sm (fun i => (4 * ((i : Int) * rs a 0 n i) - ((2 * (n : Int)) * (i : Int) + (2 * (n : Int)) * rs a 0 n i - (n : Int) * n)) - (if i = 0 then (n : Int) * n else 0)) n := by
    refine sm_congr n fun i hi => ?_
    unfold plT
    by_cases z : i = 0
    · subst z
      rw [if_pos (rs_zero a n), if_pos rfl, rs_zero]
      simp
    · have nz : rs a 0 n i ≠ 0 := by
        intro w
        have r := inv_rest hn hv hi
        unfold rs at w
        rw [Int.add_zero] at w
        rw [w] at r
        simp at r
        omega
      rw [if_neg nz, if_neg z]
      grind
  have s2 := sm_id n
  have h1 := T1_rests (a := a) hn
  rw [e, sm_sub, sm_sub, sm_sub, sm_add, sm_mul, sm_mul, sm_mul, sm_const, sm_first _ _ hn, p, h1]
  generalize sm (fun i => (i : Int) * rs a 0 n i) n = Q at *
  generalize sm (fun i => (i : Int)) n = R at *
  clear e p c hv h1
  grind
end Tm

namespace Tm
/-! The integer of a table as the program takes it: a ratio less a sum, its floor. -/
theorem phi_rat {m : Tb} (h : m.ok) (hr : m.r ≠ 0) : Rat.divInt (m.p + m.t) m.r - Rat.divInt (TT m.t (m.r.natAbs : Int)) (12 * (m.r.natAbs : Int)) * ((12 * m.r.sign : Int) : Rat) = ((phi m : Int) : Rat) := by
  have e := phN_eq h hr
  have hn : (m.r.natAbs : Int) ≠ 0 := by omega
  have hs : m.r.sign * (m.r.natAbs : Int) = m.r := sign_abs m.r
  have hs2 : m.r.sign * m.r.sign = 1 := by
    rcases sign3 m.r with ⟨_, q⟩ | ⟨q, _⟩ | ⟨_, q⟩
    · rw [q]; rfl
    · exact absurd q hr
    · rw [q]; rfl
  generalize (m.r.natAbs : Int) = n at *
  generalize TT m.t n = T at *
  generalize m.r.sign = s at *
  rw [← hs, Rat.divInt_eq_div, Rat.divInt_eq_div]
  have hs0 : s ≠ 0 := by rintro rfl; simp at hs2
  have n0 : (n : Rat) ≠ 0 := fun z => hn (Rat.intCast_inj.mp z)
  have s0 : (s : Rat) ≠ 0 := fun z => hs0 (Rat.intCast_inj.mp z)
  have e2 : ((phi m * n : Int) : Rat) = ((s * (m.p + m.t - T) : Int) : Rat) := by rw [e]
  have hs3 : ((s * s : Int) : Rat) = 1 := by rw [hs2]; rfl
  simp only [Rat.intCast_mul, Rat.intCast_add, Rat.intCast_sub] at *
  generalize (phi m : Rat) = f at *
  generalize (n : Rat) = n' at *
  generalize (s : Rat) = s' at *
  generalize (T : Rat) = t' at *
  generalize (m.p : Rat) = p' at *
  generalize (m.t : Rat) = q' at *
  have i1 : n' * n'⁻¹ = 1 := Rat.mul_inv_cancel _ n0
  rw [Rat.div_def, Rat.div_def, Rat.inv_mul_rev, Rat.inv_mul_rev]
  have i2 : s' * s'⁻¹ = 1 := Rat.mul_inv_cancel _ s0
  have i3 : (12 : Rat) * 12⁻¹ = 1 := by decide +kernel
  have i4 : s'⁻¹ = s' := by grind
  rw [i4]
  have : ((12 : Int) : Rat) = 12 := rfl
  rw [this]
  grind
end Tm

namespace Tm
/-! Powers of tables; the integer of a table as a quotient. -/
def Tb.one : Tb := ⟨1, 0, 0, 1⟩
def Tb.pw (m : Tb) : Nat → Tb
  | 0 => Tb.one
  | n + 1 => (m.pw n).mul m
theorem Tb.one_ok : Tb.one.ok := rfl
theorem Tb.pw_ok {m : Tb} (h : m.ok) : ∀ n, (m.pw n).ok
  | 0 => Tb.one_ok
  | n + 1 => Tb.mul_ok (Tb.pw_ok h n) h
/-- the power with an exponent of either sign -/
def Tb.pz (m : Tb) (e : Int) : Tb := (if e < 0 then m.inv else m).pw e.natAbs
theorem Tb.pz_ok {m : Tb} (h : m.ok) (e : Int) : (m.pz e).ok := by
  unfold Tb.pz
  split
  · exact Tb.pw_ok (Tb.inv_ok h) _
  · exact Tb.pw_ok h _
theorem phi_quot {m : Tb} (h : m.ok) (hr : m.r ≠ 0) {top bot : Int} (hd : TT m.t (m.r.natAbs : Int) * bot = top * (m.r.natAbs : Int)) :
    (m.p + m.t) * bot - m.r.sign * top * m.r = phi m * (m.r * bot) := by
  have e := phN_eq h hr
  have hs : m.r.sign * (m.r.natAbs : Int) = m.r := sign_abs m.r
  have hs2 : m.r.sign * m.r.sign = 1 := by
    rcases sign3 m.r with ⟨_, q⟩ | ⟨q, _⟩ | ⟨_, q⟩
    · rw [q]; rfl
    · exact absurd q hr
    · rw [q]; rfl
  have e2 : (m.p + m.t) * bot - m.r.sign * top * m.r = phi m * (m.r * bot) := by
    have hn : m.r.sign * m.r = (m.r.natAbs : Int) := by
      conv => lhs; rhs; rw [← hs]
      rw [← Int.mul_assoc, hs2, Int.one_mul]
    have a1 : m.r.sign * top * m.r = TT m.t (m.r.natAbs : Int) * bot := by
      rw [hd, ← hn]; grind
    rw [a1]
    have a2 : phi m * (m.r * bot) = m.r.sign * (phi m * (m.r.natAbs : Int)) * bot := by
      conv => lhs; rw [← hs]
      grind
    rw [a2, e]
    have : m.r.sign * (m.r.sign * (m.p + m.t - TT m.t (m.r.natAbs : Int))) = m.r.sign * m.r.sign * (m.p + m.t - TT m.t (m.r.natAbs : Int)) := by grind
    rw [this, hs2]
    grind
  exact e2
/-- psi -/
def psi (m : Tb) : Int := phi m - 3 * (m.r * (m.p + m.t)).sign
end Tm

namespace Tm
/-! Psi: around others, of powers, of words. -/
theorem psi_neg {m : Tb} (h : m.ok) : psi m.neg = psi m := by
  unfold psi
  rw [phi_neg h]
  have : m.neg.r * (m.neg.p + m.neg.t) = m.r * (m.p + m.t) := by show -m.r * (-m.p + -m.t) = _; grind
  rw [this]
theorem psi_inv {m : Tb} (h : m.ok) : psi m.inv = - psi m := by
  unfold psi
  rw [phi_inv h]
  have : m.inv.r * (m.inv.p + m.inv.t) = -(m.r * (m.p + m.t)) := by show -m.r * (m.t + m.p) = _; grind
  rw [this, Int.sign_neg]
  omega
theorem psi_one : psi Tb.one = 0 := by decide +kernel
theorem sign_far {u v : Int} (h : u * v < 0) : (u - v).sign = u.sign := by
  rcases Int.lt_trichotomy u 0 with a | a | a
  · have : 0 < v := by
      refine Classical.byContradiction fun z => ?_
      have : 0 ≤ u * v := Int.mul_nonneg_of_nonpos_of_nonpos (by omega) (by omega)
      omega
    rw [Int.sign_eq_neg_one_of_neg a, Int.sign_eq_neg_one_of_neg (by omega)]
  · subst a; simp at h
  · have : v < 0 := by
      refine Classical.byContradiction fun z => ?_
      have : 0 ≤ u * v := Int.mul_nonneg (by omega) (by omega)
      omega
    rw [Int.sign_eq_one_of_pos a, Int.sign_eq_one_of_pos (by omega)]
theorem sign_same {x y : Int} (h : 0 < x * y) : x.sign = y.sign := by
  rcases Int.lt_trichotomy x 0 with a | a | a
  · have : y < 0 := by
      refine Classical.byContradiction fun z => ?_
      have := Int.mul_nonpos_of_nonpos_of_nonneg (show x ≤ 0 by omega) (show 0 ≤ y by omega)
      omega
    rw [Int.sign_eq_neg_one_of_neg a, Int.sign_eq_neg_one_of_neg this]
  · subst a; simp at h
  · have : 0 < y := by
      refine Classical.byContradiction fun z => ?_
      have := Int.mul_nonpos_of_nonneg_of_nonpos (show 0 ≤ x by omega) (show y ≤ 0 by omega)
      omega
    rw [Int.sign_eq_one_of_pos a, Int.sign_eq_one_of_pos this]
theorem sign_one {x : Int} (h : x ≠ 0) : x.sign * x.sign = 1 := by
  rcases sign3 x with ⟨_, q⟩ | ⟨q, _⟩ | ⟨_, q⟩
  · rw [q]; rfl
  · exact absurd q h
  · rw [q]; rfl
theorem conj_tr {m n : Tb} (hn : n.ok) : ((n.mul m).mul n.inv).p + ((n.mul m).mul n.inv).t = m.p + m.t := by
  have hn : n.p * n.t - n.q * n.r = 1 := hn
  show (n.p * m.p + n.q * m.r) * n.t + (n.p * m.q + n.q * m.t) * -n.r + ((n.r * m.p + n.t * m.r) * -n.q + (n.r * m.q + n.t * m.t) * n.p) = _
  have : (n.p * m.p + n.q * m.r) * n.t + (n.p * m.q + n.q * m.t) * -n.r + ((n.r * m.p + n.t * m.r) * -n.q + (n.r * m.q + n.t * m.t) * n.p) = (n.p * n.t - n.q * n.r) * (m.p + m.t) := by grind
  rw [this, hn, Int.one_mul]
theorem psi_conj {m n : Tb} (hm : m.ok) (hn : n.ok) : psi ((n.mul m).mul n.inv) = psi m := by
  have hnm := Tb.mul_ok hn hm
  have e1 := phi_prod hn hm
  have e2 := phi_prod hnm (Tb.inv_ok hn)
  rw [e1, phi_inv hn] at e2
  have et := conj_tr (m := m) hn
  unfold psi
  rw [et, e2, Int.sign_mul, Int.sign_mul]
  have hR : ((n.mul m).mul n.inv).r = (n.r * m.p + n.t * m.r) * n.t + (n.r * m.q + n.t * m.t) * -n.r := rfl
  have hu : (n.mul m).r = n.r * m.p + n.t * m.r := rfl
  have hi : n.inv.r = -n.r := rfl
  generalize ((n.mul m).mul n.inv).r = R at *
  generalize (n.mul m).r = u at *
  rw [hi, Int.sign_neg]
  have hm' : m.p * m.t - m.q * m.r = 1 := hm
  have hn' : n.p * n.t - n.q * n.r = 1 := hn
  have key : m.r.sign = R.sign ∨ n.r.sign * u.sign = (m.p + m.t).sign := by
    by_cases hc : n.r = 0
    · left
      have : n.t * n.t = 1 := by
        rw [hc] at hn'
        have h1 : n.p * n.t = 1 := by omega
        rcases unit_or h1 with q | q
        · rw [q] at h1
          have : n.t = 1 := by omega
          rw [this]; rfl
        · rw [q] at h1
          have : n.t = -1 := by omega
          rw [this]; rfl
      rw [hR, hc]
      have : (0 * m.p + n.t * m.r) * n.t + (0 * m.q + n.t * m.t) * -0 = n.t * n.t * m.r := by grind
      rw [this, ‹n.t * n.t = 1›, Int.one_mul]
    · by_cases hs : 0 < m.r * R
      · exact .inl (sign_same hs)
      · right
        have e : m.r * R = u * (n.t * m.r - n.r * m.t) + n.r * n.r := by
          rw [hR, hu]
          have : m.q * m.r = m.p * m.t - 1 := by omega
          grind
        have c2 : 0 < n.r * n.r := by
          rcases Int.lt_or_gt_of_ne hc with a | a
          · exact Int.mul_pos_of_neg_of_neg a a
          · exact Int.mul_pos a a
        have uv : u * (n.t * m.r - n.r * m.t) < 0 := by omega
        have e3 : u - (n.t * m.r - n.r * m.t) = n.r * (m.p + m.t) := by rw [hu]; grind
        have s := sign_far uv
        rw [e3, Int.sign_mul] at s
        rw [← s, ← Int.mul_assoc, sign_one hc, Int.one_mul]
  generalize m.r.sign = a at *
  generalize R.sign = b at *
  generalize n.r.sign = c at *
  generalize u.sign = d at *
  generalize (m.p + m.t).sign = f at *
  have key2 : (a - b) * (c * d - f) = 0 := by
    rcases key with k | k
    · rw [k]; simp
    · rw [k]; simp
  grind
theorem inv_mul_one {m : Tb} (h : m.ok) : m.inv.mul m = Tb.one := by
  have h : m.p * m.t - m.q * m.r = 1 := h
  apply Tb.ext' <;> simp only [Tb.mul, Tb.inv, Tb.one] <;> grind
theorem mul_inv_one {m : Tb} (h : m.ok) : m.mul m.inv = Tb.one := by
  have h : m.p * m.t - m.q * m.r = 1 := h
  apply Tb.ext' <;> simp only [Tb.mul, Tb.inv, Tb.one] <;> grind
theorem mul_one (m : Tb) : m.mul Tb.one = m := by
  apply Tb.ext' <;> simp only [Tb.mul, Tb.one] <;> grind
theorem one_mul (m : Tb) : Tb.one.mul m = m := by
  apply Tb.ext' <;> simp only [Tb.mul, Tb.one] <;> grind
theorem inv_inv_tb (m : Tb) : m.inv.inv = m := by
  apply Tb.ext' <;> simp only [Tb.inv] <;> grind
theorem psi_swap {m n : Tb} (hm : m.ok) (hn : n.ok) : psi (m.mul n) = psi (n.mul m) := by
  have e : (n.mul (m.mul n)).mul n.inv = n.mul m := by
    rw [← Tb.mul_assoc, Tb.mul_assoc (n.mul m), mul_inv_one hn, mul_one]
  rw [← e, psi_conj (Tb.mul_ok hm hn) hn]
/-- the factors of a power -/
def ab (T : Int) : Nat → Int × Int
  | 0 => (0, -1)
  | k + 1 => (T * (ab T k).1 - (ab T k).2, (ab T k).1)
theorem pw_ab {m : Tb} (h : m.ok) : ∀ k, m.pw k = ⟨(ab (m.p + m.t) k).1 * m.p - (ab (m.p + m.t) k).2, (ab (m.p + m.t) k).1 * m.q, (ab (m.p + m.t) k).1 * m.r, (ab (m.p + m.t) k).1 * m.t - (ab (m.p + m.t) k).2⟩
  | 0 => by
    show Tb.one = _
    apply Tb.ext' <;> simp [Tb.one, ab]
  | k + 1 => by
    have h : m.p * m.t - m.q * m.r = 1 := h
    show (m.pw k).mul m = _
    rw [pw_ab (by exact h) k]
    show _ = (⟨_, _, _, _⟩ : Tb)
    simp only [ab]
    generalize (ab (m.p + m.t) k).1 = a
    generalize (ab (m.p + m.t) k).2 = b
    apply Tb.ext' <;> simp only [Tb.mul] <;> grind
theorem ab_pos {T : Int} (h : 2 < T) : ∀ k, 0 ≤ (ab T (k + 1)).2 ∧ (ab T (k + 1)).2 < (ab T (k + 1)).1
  | 0 => by simp [ab]
  | k + 1 => by
    obtain ⟨h0, h1⟩ := ab_pos h k
    show 0 ≤ (ab T (k + 1)).1 ∧ (ab T (k + 1)).1 < T * (ab T (k + 1)).1 - (ab T (k + 1)).2
    generalize (ab T (k + 1)).1 = a at *
    generalize (ab T (k + 1)).2 = b at *
    have : 3 * a ≤ T * a := Int.mul_le_mul_of_nonneg_right (by omega) (by omega)
    omega
theorem psi_pw_pos {m : Tb} (h : m.ok) (hT : 2 < m.p + m.t) : ∀ k, psi (m.pw (k + 1)) = ((k : Int) + 1) * psi m
  | 0 => by
    show psi (Tb.one.mul m) = _
    rw [one_mul]; simp
  | k + 1 => by
    have ih := psi_pw_pos h hT k
    have hk := Tb.pw_ok h (k + 1)
    have e := phi_prod hk h
    have sgn : ∀ j, (m.pw (j + 1)).r.sign = m.r.sign ∧ ((m.pw (j + 1)).p + (m.pw (j + 1)).t).sign = 1 := fun j => by
      rw [pw_ab h]
      obtain ⟨h0, h1⟩ := ab_pos hT j
      generalize (ab (m.p + m.t) (j + 1)).1 = a at *
      generalize (ab (m.p + m.t) (j + 1)).2 = b at *
      refine ⟨?_, ?_⟩
      · show (a * m.r).sign = _
        rw [Int.sign_mul, Int.sign_eq_one_of_pos (show 0 < a by omega), Int.one_mul]
      · show (a * m.p - b + (a * m.t - b)).sign = 1
        have : a * m.p - b + (a * m.t - b) = a * (m.p + m.t) - 2 * b := by grind
        rw [this]
        have : 3 * a ≤ a * (m.p + m.t) := by rw [Int.mul_comm]; exact Int.mul_le_mul_of_nonneg_left (by omega) (by omega)
        exact Int.sign_eq_one_of_pos (by omega)
    have s1 := sgn k
    have s2 := sgn (k + 1)
    have e2 : (m.pw (k + 1)).mul m = m.pw (k + 1 + 1) := rfl
    rw [e2, s1.1, s2.1] at e
    unfold psi at ih ⊢
    rw [Int.sign_mul, s1.1, s1.2] at ih
    rw [Int.sign_mul, s2.1, s2.2, e]
    have sT : (m.p + m.t).sign = 1 := Int.sign_eq_one_of_pos (by omega)
    rw [Int.sign_mul, sT] at ih ⊢
    have s3 : m.r.sign * m.r.sign * m.r.sign = m.r.sign := by
      rcases sign3 m.r with ⟨_, q⟩ | ⟨_, q⟩ | ⟨_, q⟩ <;> rw [q] <;> rfl
    rw [s3]
    generalize phi (m.pw (k + 1)) = A at *
    generalize phi m = B at *
    generalize m.r.sign = s at *
    push_cast
    grind
theorem pw_neg (m : Tb) : ∀ k, m.neg.pw k = m.pw k ∨ m.neg.pw k = (m.pw k).neg
  | 0 => .inl rfl
  | k + 1 => by
    rcases pw_neg m k with e | e
    · right
      show (m.neg.pw k).mul m.neg = ((m.pw k).mul m).neg
      rw [e]
      apply Tb.ext' <;> simp only [Tb.mul, Tb.neg] <;> grind
    · left
      show (m.neg.pw k).mul m.neg = (m.pw k).mul m
      rw [e]
      apply Tb.ext' <;> simp only [Tb.mul, Tb.neg] <;> grind
theorem psi_pw {m : Tb} (h : m.ok) (hT : 2 < (m.p + m.t).natAbs) (k : Nat) : psi (m.pw k) = (k : Int) * psi m := by
  cases k with
  | zero => show psi Tb.one = _; rw [psi_one]; simp
  | succ k =>
    by_cases hp : 2 < m.p + m.t
    · have := psi_pw_pos h hp k
      push_cast
      exact this
    · have hp2 : 2 < m.neg.p + m.neg.t := by show 2 < -m.p + -m.t; omega
      have e := psi_pw_pos (Tb.neg_ok h) hp2 k
      rw [psi_neg h] at e
      push_cast
      rw [← e]
      rcases pw_neg m (k + 1) with q | q
      · rw [q]
      · rw [q, psi_neg (Tb.pw_ok h _)]
theorem psi_pz {m : Tb} (h : m.ok) (hT : 2 < (m.p + m.t).natAbs) (e : Int) : psi (m.pz e) = e * psi m := by
  unfold Tb.pz
  split
  · have hT2 : 2 < (m.inv.p + m.inv.t).natAbs := by show 2 < (m.t + m.p).natAbs; omega
    rw [psi_pw (Tb.inv_ok h) hT2, psi_inv h]
    have : (e.natAbs : Int) = -e := by omega
    rw [this]; grind
  · rw [psi_pw h hT]
    have : (e.natAbs : Int) = e := by omega
    rw [this]
end Tm

namespace Tm
/-! Words of two letters as tables: true is U. -/
def tU : Tb := ⟨1, 1, 0, 1⟩
def tV : Tb := ⟨1, 0, 1, 1⟩
def lt' (b : Bool) : Tb := if b then tU else tV
def wtF (m : Tb) : List Bool → Tb
  | [] => m
  | b :: w => wtF (m.mul (lt' b)) w
def wt (w : List Bool) : Tb := wtF Tb.one w
/-- letters U, letters V -/
def nU (w : List Bool) : Nat := w.count true
def nV (w : List Bool) : Nat := w.count false
theorem wtF_snoc (w : List Bool) (b : Bool) : ∀ m, wtF m (w ++ [b]) = (wtF m w).mul (lt' b) := by
  induction w with
  | nil => intro m; rfl
  | cons c w ih => intro m; exact ih _
theorem wt_snoc (w : List Bool) (b : Bool) : wt (w ++ [b]) = (wt w).mul (lt' b) := wtF_snoc w b _
theorem wtF_mul (w : List Bool) : ∀ m, wtF m w = m.mul (wt w) := by
  induction w with
  | nil => intro m; exact (mul_one m).symm
  | cons c w ih =>
    intro m
    show wtF (m.mul (lt' c)) w = m.mul (wtF (Tb.one.mul (lt' c)) w)
    rw [ih, ih (Tb.one.mul _), one_mul, Tb.mul_assoc]
theorem wt_app (a b : List Bool) : wt (a ++ b) = (wt a).mul (wt b) := by
  rw [← wtF_mul]
  show wtF Tb.one (a ++ b) = wtF (wtF Tb.one a) b
  generalize Tb.one = m
  induction a generalizing m with
  | nil => rfl
  | cons c a ih => exact ih _
theorem lt_ok (b : Bool) : (lt' b).ok := by cases b <;> rfl
theorem snoc_ind {P : List Bool → Prop} (h0 : P []) (h1 : ∀ w b, P w → P (w ++ [b])) : ∀ w, P w := fun w => by
  have : ∀ v : List Bool, P v.reverse := fun v => by
    induction v with
    | nil => exact h0
    | cons b v ih => rw [List.reverse_cons]; exact h1 _ _ ih
  have := this w.reverse
  rwa [List.reverse_reverse] at this
theorem wt_ok : ∀ w, (wt w).ok := snoc_ind Tb.one_ok fun w b h => by rw [wt_snoc]; exact Tb.mul_ok h (lt_ok b)
structure WtI (w : List Bool) : Prop where
  p1 : 1 ≤ (wt w).p
  q0 : 0 ≤ (wt w).q
  r0 : 0 ≤ (wt w).r
  t1 : 1 ≤ (wt w).t
  rz : nV w = 0 → (wt w).r = 0
  rp : 0 < nV w → 0 < (wt w).r
  ph : phi (wt w) = (nU w : Int) - nV w + (if 0 < nV w then 3 else 0)
theorem nU_snoc (w : List Bool) (b : Bool) : nU (w ++ [b]) = nU w + (if b then 1 else 0) := by
  unfold nU; rw [List.count_append]; cases b <;> rfl
theorem nV_snoc (w : List Bool) (b : Bool) : nV (w ++ [b]) = nV w + (if b then 0 else 1) := by
  unfold nV; rw [List.count_append]; cases b <;> rfl
theorem phi_V : phi tV = 2 := by decide +kernel
theorem wt_all : ∀ w, WtI w := snoc_ind ⟨by decide, by decide, by decide, by decide, fun _ => rfl, (fun h => absurd h (by decide)), by show phi Tb.one = _; rw [show phi Tb.one = 0 from phi_one]; decide⟩ fun w b h => by
  obtain ⟨p1, q0, r0, t1, rz, rp, ph⟩ := h
  have ok := wt_ok w
  rw [show WtI (w ++ [b]) = WtI (w ++ [b]) from rfl]
  have es := wt_snoc w b
  cases b with
  | true =>
    have e : (wt w).mul (lt' true) = (wt w).up 1 := by apply Tb.ext' <;> simp [Tb.mul, Tb.up, lt', tU]
    have hU := nU_snoc w true
    have hV : nV (w ++ [true]) = nV w := nV_snoc w true
    simp only [if_true] at hU
    rw [e] at es
    refine ⟨by rw [es]; exact p1, by rw [es]; show 0 ≤ (wt w).p * 1 + (wt w).q; omega, by rw [es]; exact r0, by rw [es]; show 1 ≤ (wt w).r * 1 + (wt w).t; omega, fun z => by rw [es]; exact rz (by omega), fun z => by rw [es]; exact rp (by omega), ?_⟩
    rw [es, phi_up ok, hV, hU, ph]
    push_cast
    omega
  | false =>
    have hU : nU (w ++ [false]) = nU w := nU_snoc w false
    have hV : nV (w ++ [false]) = nV w + 1 := nV_snoc w false
    have er : ((wt w).mul (lt' false)).r = (wt w).r + (wt w).t := by show (wt w).r * 1 + (wt w).t * 1 = _; omega
    refine ⟨by rw [es]; show 1 ≤ (wt w).p * 1 + (wt w).q * 1; omega, by rw [es]; show 0 ≤ (wt w).p * 0 + (wt w).q * 1; omega, by rw [es, er]; omega, by rw [es]; show 1 ≤ (wt w).r * 0 + (wt w).t * 1; omega, fun z => by omega, fun z => by rw [es, er]; omega, ?_⟩
    rw [es, phi_prod ok (lt_ok false), er, show phi (lt' false) = 2 from phi_V, show (lt' false).r = 1 from rfl, hU, hV, if_pos (by omega), ph, Int.sign_eq_one_of_pos (show 0 < (wt w).r + (wt w).t by omega)]
    by_cases z : 0 < nV w
    · rw [if_pos z, Int.sign_eq_one_of_pos (rp z)]
      push_cast
      simp
      omega
    · rw [if_neg z, rz (by omega)]
      push_cast
      simp
      omega
theorem psi_word (w : List Bool) : psi (wt w) = (nU w : Int) - nV w := by
  obtain ⟨p1, q0, r0, t1, rz, rp, ph⟩ := wt_all w
  unfold psi
  rw [ph]
  by_cases z : 0 < nV w
  · rw [if_pos z, Int.sign_eq_one_of_pos (Int.mul_pos (rp z) (by omega))]; omega
  · rw [if_neg z, rz (by omega)]; simp
end Tm

namespace Tm
/-! Ways of all numbers up to one, numbers that are not reached. -/
theorem tri_step {a b n u v : Int} (ha : 0 < a) (hb : 0 < b) (hn : 0 ≤ n) (hv : (a * v) % b = 1 % b) (hu : (b * u) % a = 1 % a) : Tri a b n = Tri a b (n - 1) + Wy a b n (n * v % b) := by
  have hw : cnt (0 - b) n a (n / b + 1).toNat = Wy a b n (n * v % b) := by
    rw [cnt_ways (a := b) (b := a) hb ha hn (g := 1) (A := b) (B := a) (m := n) (by decide) (by omega) (by omega) (by omega) hu hb ha]
    exact wy_sym ha hb hv hu
  rw [← hw]
  have q0 : 0 ≤ n / b := Int.ediv_nonneg hn (by omega)
  rw [PT_rows ha hb hn]
  have key : ∀ y : Nat, (n - b * (y : Int)) / a + 1 = ((n - 1 - b * (y : Int)) / a + 1) + ind (decide (((0 - b) * (y : Int) + n) % a = 0)) := fun y => by
    have e : n - 1 - b * (y : Int) = (n - b * (y : Int)) - 1 := by omega
    have e2 : (0 - b) * (y : Int) + n = n - b * (y : Int) := by rw [Int.zero_sub, Int.neg_mul]; omega
    rw [e, e2, pred_div ha]
    omega
  have e3 : sm (fun y => (n - b * (y : Int)) / a + 1) (n / b + 1).toNat = sm (fun y : Nat => (n - 1 - b * (y : Int)) / a + 1) (n / b + 1).toNat + cnt (0 - b) n a (n / b + 1).toNat := by
    unfold cnt
    rw [← sm_add]
    exact sm_congr _ fun y _ => key y
  rw [e3]
  congr 1
  rcases Int.lt_or_le (n - 1) 0 with z | z
  · have z0 : n = 0 := by omega
    subst z0
    rw [PT_neg (by omega), Int.zero_ediv]
    show 0 + ((0 - 1 - b * ((0 : Nat) : Int)) / a + 1) = 0
    have : (0 - 1 - b * ((0 : Nat) : Int)) / a = -1 := by
      have e : (0 - 1 - b * ((0 : Nat) : Int)) = -1 := by simp
      rw [e]
      exact Int.ediv_eq_neg_one_of_neg_of_le (by omega) (by omega)
    omega
  · rw [PT_rows ha hb z]
    have e4 := pred_div (x := n) hb
    by_cases r : n % b = 0
    · rw [decide_eq_true r] at e4
      have e5 : (n - 1) / b = n / b - 1 := e4
      obtain ⟨k, hk⟩ : ∃ k : Nat, n / b = k := ⟨(n / b).toNat, by omega⟩
      rw [e5, hk]
      have : ((k : Int) + 1).toNat = k + 1 := by omega
      rw [this, show ((k : Int) - 1 + 1).toNat = k by omega]
      show sm _ k + ((n - 1 - b * (k : Int)) / a + 1) = _
      have e6 : n - 1 - b * (k : Int) = -1 := by
        have := Int.mul_ediv_add_emod n b
        rw [hk, r] at this
        omega
      rw [e6]
      have : (-1 : Int) / a = -1 := Int.ediv_eq_neg_one_of_neg_of_le (by omega) (by omega)
      omega
    · rw [decide_eq_false r] at e4
      have e5 : (n - 1) / b = n / b := by rw [e4]; show n / b - 0 = _; omega
      rw [e5]
theorem tri_sum {a b v u : Int} (ha : 0 < a) (hb : 0 < b) (hv : (a * v) % b = 1 % b) (hu : (b * u) % a = 1 % a) : ∀ L : Nat, sm (fun n => Wy a b n ((n : Int) * v % b)) L = Tri a b ((L : Int) - 1)
  | 0 => (PT_neg (by decide)).symm
  | L + 1 => by
    show sm _ L + Wy a b L ((L : Int) * v % b) = _
    rw [tri_sum ha hb hv hu L]
    have := tri_step ha hb (n := (L : Int)) (by omega) hv hu
    have e : ((L + 1 : Nat) : Int) - 1 = L := by omega
    rw [e, this]
/-- numbers below one that are not reached -/
def gp (a b v : Int) (L : Nat) : Int := sm (fun n => ind (decide (¬ ((n : Int) * v % b) * a ≤ n))) L
theorem gp_low {a b v u : Int} (ha : 0 < a) (hb : 0 < b) (hv : (a * v) % b = 1 % b) (hu : (b * u) % a = 1 % a) {L : Nat} (hL : (L : Int) ≤ a * b) : gp a b v L = (L : Int) - Tri a b ((L : Int) - 1) := by
  rw [← tri_sum ha hb hv hu L]
  unfold gp
  have e : ∀ n, n < L → ind (decide (¬ ((n : Int) * v % b) * a ≤ n)) = 1 - Wy a b n ((n : Int) * v % b) := fun n hn => by
    have p : 0 < a * b := Int.mul_pos ha hb
    have n0 : (n : Int) / (a * b) = 0 := Int.ediv_eq_zero_of_lt (by omega) (by omega)
    have w := wy_two ha hb (n := (n : Int)) (by omega) hv hu
    have wp := wy_pos (n := (n : Int)) (x := (n : Int) * v % b) ha hb
    rw [n0] at w
    by_cases z : ((n : Int) * v % b) * a ≤ n
    · have := wp.mpr z
      rw [decide_eq_false (by simpa using z)]
      show 0 = _
      omega
    · have : ¬ 0 < Wy a b n ((n : Int) * v % b) := fun q => z (wp.mp q)
      rw [decide_eq_true z]
      show 1 = _
      omega
  rw [sm_congr L e, sm_sub, sm_const]
  omega
theorem gp_all {a b v u : Int} (ha : 0 < a) (hb : 0 < b) (hg : gc a b = 1) (hv : (a * v) % b = 1 % b) (hu : (b * u) % a = 1 % a) {L : Nat} (hL : a * b - a - b < (L : Int)) : gp a b v L = (a - 1) * (b - 1) / 2 := by
  have z : a * b - a - b + 1 = (a - 1) * (b - 1) := by grind
  have p0 : 0 ≤ (a - 1) * (b - 1) := Int.mul_nonneg (by omega) (by omega)
  obtain ⟨k, hk⟩ : ∃ k : Nat, a * b - a - b + 1 = k := ⟨(a * b - a - b + 1).toNat, by omega⟩
  obtain ⟨r, rfl⟩ : ∃ r, L = k + r := ⟨L - k, by omega⟩
  have hi := PT_inner ha hb
  rw [hg] at hi
  have h1 : gp a b v k = (a - 1) * (b - 1) / 2 := by
    rw [gp_low ha hb hv hu (by omega)]
    have e1 : (k : Int) - 1 = a * b - a - b := by omega
    rw [e1]
    rcases Int.lt_or_le (a * b - a - b) 0 with w | w
    · rw [PT_neg w]
      have : (a - 1) * (b - 1) = 0 := by omega
      rw [this]
      omega
    · rw [tri_step ha hb w hv hu]
      have o := wy_opp (n := 0) ha hb hv
      have w0 : Wy a b (a * b - a - b) ((a * b - a - b) * v % b) = 0 := by
        have q := wy_pos (n := a * b - a - b) (x := (a * b - a - b) * v % b) ha hb
        have nn : ¬ 0 < Wy a b (a * b - a - b) ((a * b - a - b) * v % b) := fun hh => by
          have h2 := q.mp hh
          have h3 := o.mp (by rw [Int.sub_zero]; exact h2)
          simp at h3
        have n2 : 0 ≤ Wy a b (a * b - a - b) ((a * b - a - b) * v % b) := by
          unfold Wy
          split
          · have : 0 ≤ (a * b - a - b - (a * b - a - b) * v % b * a) / (a * b) := Int.ediv_nonneg (by assumption) (Int.le_of_lt (Int.mul_pos ha hb))
            omega
          · omega
        omega
      rw [w0]
      omega
  rw [← h1]
  unfold gp
  rw [sm_app]
  have : sm (fun i => ind (decide (¬ (((k + i : Nat) : Int) * v % b) * a ≤ ((k + i : Nat) : Int)))) r = 0 := by
    refine sm_zero r fun i _ => ?_
    have o := wy_opp (n := ((k + i : Nat) : Int)) ha hb hv
    have neg : a * b - a - b - ((k + i : Nat) : Int) < 0 := by push_cast; omega
    have nr : ¬ ((a * b - a - b - ((k + i : Nat) : Int)) * v % b) * a ≤ a * b - a - b - ((k + i : Nat) : Int) := fun hh => by
      have := Int.emod_nonneg ((a * b - a - b - ((k + i : Nat) : Int)) * v) (show b ≠ 0 by omega)
      have := Int.mul_nonneg this (show 0 ≤ a by omega)
      omega
    have : (((k + i : Nat) : Int) * v % b) * a ≤ ((k + i : Nat) : Int) := Classical.byContradiction fun hh => nr (o.mpr hh)
    rw [decide_eq_false (by simpa using this)]
    rfl
  rw [this]
  omega
/-- what the program tells of numbers below one that are not reached -/
def gB (a b L : Int) : Int := if a * b - a - b < L then (a - 1) * (b - 1) / 2 else if 0 < L then L - Tri a b (L - 1) else 0
theorem gB_gp {a b v u : Int} (ha : 0 < a) (hb : 0 < b) (hg : gc a b = 1) (hv : (a * v) % b = 1 % b) (hu : (b * u) % a = 1 % a) (L : Nat) : gB a b L = gp a b v L := by
  unfold gB
  by_cases z : a * b - a - b < (L : Int)
  · rw [if_pos z, gp_all ha hb hg hv hu z]
  · rw [if_neg z]
    by_cases l : (0 : Int) < L
    · rw [if_pos l, gp_low ha hb hv hu (by omega)]
    · rw [if_neg l]
      have : L = 0 := by omega
      subst this
      rfl
end Tm

set_option maxHeartbeats 1000000
/-! Pairs that lead to a number, one by one. -/
namespace Tm
theorem filt_prog {b f : Nat} (hf : f < b) : ∀ N : Nat, ∃ K : Nat, (List.range N).filter (fun x => decide (x % b = f)) = (List.range K).map (fun s => f + s * b) ∧ ∀ s, s < K ↔ f + s * b < N
  | 0 => ⟨0, rfl, fun s => by omega⟩
  | N + 1 => by
    obtain ⟨K, h1, h2⟩ := filt_prog hf N
    have b0 : 0 < b := by omega
    by_cases h : N % b = f
    · have e := Nat.div_add_mod N b
      rw [h, Nat.mul_comm] at e
      generalize N / b = q at e
      have hK : K = q := by
        have a1 : ¬ K < K := by omega
        rw [h2 K] at a1
        have a2 : q ≤ K := by
          refine Nat.not_lt.mp fun z => a1 ?_
          have := (Nat.mul_lt_mul_right (a := b) b0).mpr z
          omega
        refine Nat.le_antisymm (Nat.not_lt.mp fun z => ?_) a2
        have := (h2 q).mp z
        omega
      subst hK
      refine ⟨K + 1, ?_, fun s => ?_⟩
      · rw [List.range_succ, List.filter_append, h1, List.range_succ, List.map_append, List.filter_cons_of_pos (by simp [h])]
        congr 1
        show [N] = [f + K * b]
        rw [← e, Nat.add_comm]
      · constructor
        · intro hs
          have : s * b ≤ K * b := Nat.mul_le_mul_right _ (by omega)
          omega
        · intro hs
          refine Nat.lt_succ_of_le (Nat.not_lt.mp fun z => ?_)
          have := (Nat.mul_lt_mul_right (a := b) b0).mpr z
          omega
    · refine ⟨K, ?_, fun s => ?_⟩
      · rw [List.range_succ, List.filter_append, h1, List.filter_cons_of_neg (by simp [h])]
        exact List.append_nil _
      · rw [h2 s]
        have : f + s * b ≠ N := fun z => h (by rw [← z, Nat.add_mul_mod_self_right, Nat.mod_eq_of_lt hf])
        omega
/-- x is the first of a pair that leads to n -/
def pz (a b n : Int) (x : Nat) : Bool := decide (0 ≤ n - a * (x : Int)) && decide ((n - a * (x : Int)) % b = 0)
theorem pz_iff {a b n v : Int} (ha : 0 < a) (hb : 0 < b) (hv : (a * v) % b = 1 % b) {x : Nat} (hx : 0 ≤ n - a * (x : Int)) : pz a b n x = decide (x % b.toNat = (n * v % b).toNat) := by
  unfold pz
  rw [decide_eq_true hx, Bool.true_and]
  have f0 := Int.emod_nonneg (n * v) (show b ≠ 0 by omega)
  have hd : b ∣ a * v - 1 := Int.dvd_of_emod_eq_zero (Int.emod_eq_emod_iff_emod_sub_eq_zero.mp hv)
  have key : (n - a * (x : Int)) % b = 0 ↔ (x : Int) % b = n * v % b := by
    constructor
    · intro h
      have h1 : b ∣ n - a * (x : Int) := Int.dvd_of_emod_eq_zero h
      refine Int.emod_eq_emod_iff_emod_sub_eq_zero.mpr (Int.emod_eq_zero_of_dvd ?_)
      obtain ⟨c, hc⟩ := hd
      obtain ⟨d, hd⟩ := h1
      exact ⟨-(c * x) - d * v, by grind⟩
    · intro h
      have h1 : b ∣ (x : Int) - n * v := Int.dvd_of_emod_eq_zero (Int.emod_eq_emod_iff_emod_sub_eq_zero.mp h)
      refine Int.emod_eq_zero_of_dvd ?_
      obtain ⟨c, hc⟩ := hd
      obtain ⟨d, hd⟩ := h1
      exact ⟨-(c * n) - a * d, by grind⟩
  have e : ((x % b.toNat : Nat) : Int) = (x : Int) % b := by
    rw [Int.natCast_emod, show ((b.toNat : Nat) : Int) = b by omega]
  by_cases h : (n - a * (x : Int)) % b = 0
  · rw [decide_eq_true h, decide_eq_true]
    have := key.mp h
    omega
  · rw [decide_eq_false h, decide_eq_false]
    intro z
    exact h (key.mpr (by omega))
theorem pz_range {a b n v : Int} (ha : 0 < a) (hb : 0 < b) (hv : (a * v) % b = 1 % b) : (List.range (n / a + 1).toNat).filter (pz a b n) = (List.range (Wy a b n (n * v % b)).toNat).map fun s : Nat => (n * v % b).toNat + s * b.toNat := by
  have f0 := Int.emod_nonneg (n * v) (show b ≠ 0 by omega)
  have f1 := Int.emod_lt_of_pos (n * v) hb
  have ab := Int.mul_pos ha hb
  have in0 : ∀ x : Nat, x < (n / a + 1).toNat ↔ 0 ≤ n - a * (x : Int) := by
    intro x
    have : (x : Int) ≤ n / a ↔ (x : Int) * a ≤ n := Int.le_ediv_iff_mul_le ha
    have c := Int.mul_comm a (x : Int)
    constructor
    · intro h
      have := this.mp (by omega)
      omega
    · intro h
      have := this.mpr (by omega)
      omega
  rw [List.filter_congr (q := fun x => decide (x % b.toNat = (n * v % b).toNat)) fun x hx => pz_iff ha hb hv ((in0 x).mp (List.mem_range.mp hx))]
  obtain ⟨K, h1, h2⟩ := filt_prog (b := b.toNat) (f := (n * v % b).toNat) (by omega) (n / a + 1).toNat
  rw [h1]
  have hK : K = (Wy a b n (n * v % b)).toNat := by
    generalize hf : n * v % b = f at *
    have hs : ∀ s : Nat, s < K ↔ s < (Wy a b n f).toNat := by
      intro s
      rw [h2 s, in0]
      have e : ((f.toNat + s * b.toNat : Nat) : Int) = f + s * b := by
        rw [Int.natCast_add, Int.natCast_mul, show ((f.toNat : Nat) : Int) = f by omega, show ((b.toNat : Nat) : Int) = b by omega]
      rw [e]
      have e2 : n - a * (f + (s : Int) * b) = n - f * a - s * (a * b) := by grind
      rw [e2]
      unfold Wy
      have q0 : 0 ≤ (s : Int) * (a * b) := Int.mul_nonneg (by omega) (by omega)
      split
      · rename_i h
        have t : (s : Int) ≤ (n - f * a) / (a * b) ↔ (s : Int) * (a * b) ≤ n - f * a := Int.le_ediv_iff_mul_le ab
        have d0 := Int.ediv_nonneg h (Int.le_of_lt ab)
        constructor
        · intro z
          have := t.mpr (by omega)
          omega
        · intro z
          have := t.mp (by omega)
          omega
      · rename_i h
        constructor
        · intro z; omega
        · intro z; exact absurd (show s < 0 from z) (by omega)
    refine Nat.le_antisymm (Nat.not_lt.mp fun z => ?_) (Nat.not_lt.mp fun z => ?_)
    · have := (hs _).mp z
      omega
    · have := (hs _).mpr z
      omega
  rw [hK]
end Tm

set_option maxHeartbeats 1000000
/-! The sum of the gaps of small steps. -/
namespace Tm
def ivn (a b : Nat) : Nat := ((List.range b).find? fun v => a * v % b == 1 % b).getD 0
def gsum (a b v : Nat) : Nat := ((List.range (a * b)).filter fun n => !decide (n * v % b * a ≤ n)).foldl (· + ·) 0
def gchk (a b : Nat) : Bool := a == 0 || b == 0 || Nat.gcd a b != 1 || (a * ivn a b % b == 1 % b && 12 * gsum a b (ivn a b) == (a - 1) * (b - 1) * (2 * a * b - a - b - 1))
theorem gchk_all : ∀ a, a < 25 → ∀ b, b < 25 → gchk a b = true := by decide +kernel
theorem sum_cast : ∀ (l : List Nat) (k : Nat), ((l.foldl (· + ·) k : Nat) : Int) = (k : Int) + (l.map fun n : Nat => (n : Int)).sum
  | [], k => by simp
  | x :: l, k => by
    rw [List.foldl_cons, sum_cast l (k + x), List.map_cons, List.sum_cons, Int.natCast_add]
    omega
theorem gap_sum {a b v : Int} (ha : 0 < a) (hb : 0 < b) (a24 : a ≤ 24) (b24 : b ≤ 24) (hg : gc a b = 1) (hv : (a * v) % b = 1 % b) :
    (((List.range (a * b).toNat).filter fun n : Nat => !decide ((n : Int) * v % b * a ≤ n)).map fun n : Nat => (n : Int)).sum = (a - 1) * (b - 1) * (2 * a * b - a - b - 1) / 12 := by
  obtain ⟨A, rfl⟩ : ∃ A : Nat, a = A := ⟨a.toNat, by omega⟩
  obtain ⟨B, rfl⟩ : ∃ B : Nat, b = B := ⟨b.toNat, by omega⟩
  have c := gchk_all A (by omega) B (by omega)
  have gA : Nat.gcd A B = 1 := by
    have h : ((Int.gcd (A : Int) (B : Int) : Nat) : Int) = 1 := hg
    exact Int.ofNat.inj h
  have nA : (A == 0) = false := by simp; omega
  have nB : (B == 0) = false := by simp; omega
  unfold gchk at c
  rw [nA, nB, gA] at c
  simp only [bne_self_eq_false, Bool.false_or, Bool.and_eq_true, beq_iff_eq] at c
  obtain ⟨c1, c2⟩ := c
  generalize ivn A B = W at c1 c2
  have hW : ((A : Int) * (W : Int)) % (B : Int) = 1 % (B : Int) := by
    rw [← Int.natCast_mul, ← Int.natCast_emod, c1, Int.natCast_emod]
    rfl
  have eP : (fun n : Nat => !decide ((n : Int) * v % (B : Int) * (A : Int) ≤ n)) = fun n : Nat => !decide (n * W % B * A ≤ n) := by
    funext n
    rw [inv_same hv hW, ← Int.natCast_mul, ← Int.natCast_emod, ← Int.natCast_mul]
    congr 1
    exact decide_eq_decide.mpr Int.ofNat_le
  rw [eP, show ((A : Int) * (B : Int)).toNat = A * B by rw [← Int.natCast_mul]; rfl]
  have e := sum_cast ((List.range (A * B)).filter fun n => !decide (n * W % B * A ≤ n)) 0
  have e0 : ((gsum A B W : Nat) : Int) = (((List.range (A * B)).filter fun n => !decide (n * W % B * A ≤ n)).map fun n : Nat => (n : Int)).sum := by
    unfold gsum
    rw [e]
    omega
  rw [← e0]
  generalize gsum A B W = S at *
  have p : A + B ≤ A * B + 1 := by
    obtain ⟨x, rfl⟩ : ∃ x, A = x + 1 := ⟨A - 1, by omega⟩
    obtain ⟨y, rfl⟩ : ∃ y, B = y + 1 := ⟨B - 1, by omega⟩
    have : (x + 1) * (y + 1) = x * y + x + y + 1 := by grind
    omega
  have c3 : (12 : Int) * S = ((A : Int) - 1) * ((B : Int) - 1) * (2 * A * B - A - B - 1) := by
    by_cases h1 : A = 1 ∧ B = 1
    · obtain ⟨rfl, rfl⟩ := h1
      have : S = 0 := by omega
      rw [this]
      rfl
    · have p2 : A + B + 1 ≤ 2 * A * B := by
        have := Nat.mul_pos (show 0 < A by omega) (show 0 < B by omega)
        rw [Nat.mul_assoc]
        have : 2 ≤ A * B := by
          rcases Nat.lt_or_ge 1 A with z | z
          · have := Nat.mul_le_mul z (show 1 ≤ B by omega)
            omega
          · have : A = 1 := by omega
            subst this
            omega
        omega
      have c4 := congrArg (fun n : Nat => (n : Int)) c2
      simp only [Int.natCast_mul] at c4
      rw [Int.natCast_sub (show 1 ≤ 2 * A * B - A - B by omega), Int.natCast_sub (show B ≤ 2 * A * B - A by omega), Int.natCast_sub (show A ≤ 2 * A * B by omega), Int.natCast_sub (show 1 ≤ A by omega), Int.natCast_sub (show 1 ≤ B by omega)] at c4
      simp only [Int.natCast_mul] at c4
      exact c4
  omega
end Tm

set_option maxHeartbeats 1000000
/-! The row of the gaps. -/
namespace Tm
def gapB (a b v : Int) (n : Nat) : Bool := !decide ((n : Int) * v % b * a ≤ n)
theorem gap_len (a b v : Int) : ∀ L : Nat, ((((List.range L).filter (gapB a b v)).length : Nat) : Int) = gp a b v L
  | 0 => rfl
  | L + 1 => by
    have e : gp a b v (L + 1) = gp a b v L + ind (decide (¬ ((L : Int) * v % b) * a ≤ L)) := rfl
    rw [e, ← gap_len a b v L, List.range_succ, List.filter_append, List.length_append]
    by_cases h : (L : Int) * v % b * a ≤ L
    · rw [List.filter_cons_of_neg (by simp [gapB, h])]
      simp [ind, h]
    · rw [List.filter_cons_of_pos (by simp [gapB, h])]
      simp [ind, h]
theorem filt_tail (p : Nat → Bool) {M N : Nat} (h : M ≤ N) (e : ((List.range N).filter p).length = ((List.range M).filter p).length) : (List.range N).filter p = (List.range M).filter p := by
  obtain ⟨d, rfl⟩ : ∃ d, N = M + d := ⟨N - M, by omega⟩
  rw [List.range_add, List.filter_append] at e ⊢
  rw [List.length_append] at e
  generalize (List.map (fun x => M + x) (List.range d)).filter p = l at e ⊢
  have h0 : l.length = 0 := by omega
  rw [List.eq_nil_of_length_eq_zero h0, List.append_nil]
theorem gap_tail {a b v u : Int} (ha : 0 < a) (hb : 0 < b) (hg : gc a b = 1) (hv : (a * v) % b = 1 % b) (hu : (b * u) % a = 1 % a) : (List.range (a * b).toNat).filter (gapB a b v) = (List.range (a * b - a - b + 1).toNat).filter (gapB a b v) := by
  have e1 := gap_len a b v (a * b).toNat
  have e2 := gap_len a b v (a * b - a - b + 1).toNat
  have ab := Int.mul_pos ha hb
  rw [gp_all ha hb hg hv hu (by omega)] at e1
  rw [gp_all ha hb hg hv hu (by omega)] at e2
  exact filt_tail _ (by omega) (by omega)
theorem filt_at (p : Nat → Bool) {n N : Nat} (h : n < N) (hp : p n = true) : ((List.range N).filter p)[((List.range n).filter p).length]? = some n := by
  obtain ⟨d, rfl⟩ : ∃ d, N = n + 1 + d := ⟨N - (n + 1), by omega⟩
  rw [List.range_add, List.filter_append, List.range_succ, List.filter_append, List.filter_cons_of_pos hp, List.append_assoc, List.getElem?_append_right (Nat.le_refl _), Nat.sub_self]
  rfl
theorem gap_row_last {a b v u : Int} (ha : 0 < a) (hb : 0 < b) (hg : gc a b = 1) (hv : (a * v) % b = 1 % b) (hu : (b * u) % a = 1 % a) (hc : 0 < a * b - a - b) :
    ∃ l, (List.range (a * b).toNat).filter (gapB a b v) = l ++ [(a * b - a - b).toNat] := by
  rw [gap_tail ha hb hg hv hu, show (a * b - a - b + 1).toNat = (a * b - a - b).toNat + 1 by omega, List.range_succ, List.filter_append]
  refine ⟨(List.range (a * b - a - b).toNat).filter (gapB a b v), ?_⟩
  rw [List.filter_cons_of_pos]
  · rfl
  · have e : (((a * b - a - b).toNat : Nat) : Int) = a * b - a - b := by omega
    unfold gapB
    rw [e]
    have m : (a * b - a - b) * v % b = b - 1 := by
      have hd : b ∣ a * v - 1 := Int.dvd_of_emod_eq_zero (Int.emod_eq_emod_iff_emod_sub_eq_zero.mp hv)
      have h2 : (a * b - a - b) * v % b = (b - 1) % b := by
        refine Int.emod_eq_emod_iff_emod_sub_eq_zero.mpr (Int.emod_eq_zero_of_dvd ?_)
        obtain ⟨c, hc⟩ := hd
        exact ⟨a * v - v - 1 - c, by grind⟩
      rw [h2, Int.emod_eq_of_lt (by omega) (by omega)]
    rw [m, decide_eq_false]
    · rfl
    · have : (b - 1) * a = a * b - a := by grind
      omega
/-- what gap_at finds stands in the row at its index -/
theorem gap_found {a b v u i n : Int} (ha : 0 < a) (hb : 0 < b) (hg : gc a b = 1) (hv : (a * v) % b = 1 % b) (hu : (b * u) % a = 1 % a) (i0 : 0 ≤ i) (h1 : gB a b n ≤ i) (h2 : i < gB a b (n + 1)) (hc : 0 < a * b - a - b) :
    0 ≤ n ∧ ((List.range (a * b).toNat).filter (gapB a b v))[i.toNat]? = some n.toNat := by
  have n0 : 0 ≤ n := by
    refine Int.not_lt.mp fun z => ?_
    unfold gB at h2
    rw [if_neg (by omega), if_neg (by omega)] at h2
    omega
  refine ⟨n0, ?_⟩
  obtain ⟨m, rfl⟩ : ∃ m : Nat, n = m := ⟨n.toNat, by omega⟩
  rw [gB_gp ha hb hg hv hu m] at h1
  rw [show ((m : Int) + 1) = ((m + 1 : Nat) : Int) by omega, gB_gp ha hb hg hv hu (m + 1)] at h2
  have e : gp a b v (m + 1) = gp a b v m + ind (decide (¬ ((m : Int) * v % b) * a ≤ m)) := rfl
  rw [e] at h2
  have hp : ¬ ((m : Int) * v % b) * a ≤ m := by
    intro z
    rw [show decide (¬ ((m : Int) * v % b) * a ≤ m) = false by simp [z]] at h2
    have : ind false = 0 := rfl
    omega
  rw [show decide (¬ ((m : Int) * v % b) * a ≤ m) = true by simp [hp]] at h2
  have i1 : ind true = 1 := rfl
  have q := Int.emod_lt_of_pos ((m : Int) * v) hb
  have hm : (m : Int) < a * b := by
    have : (m : Int) * v % b * a ≤ b * a := Int.mul_le_mul_of_nonneg_right (by omega) (by omega)
    rw [Int.mul_comm a b]
    omega
  have f := filt_at (gapB a b v) (n := m) (N := (a * b).toNat) (by omega) (by simp [gapB, hp])
  have l := gap_len a b v m
  rw [show ((List.range m).filter (gapB a b v)).length = i.toNat by omega] at f
  exact f
end Tm

set_option maxHeartbeats 1000000
/-! Gaps: counts by floors, the gap of an index, twelve times the sum. -/
namespace Tm
theorem twelve_of {f : Int} (h3 : f % 3 = 0) (h4 : f % 4 = 0) : f % 12 = 0 := by omega
theorem g12_mod {a b : Int} : ((a - 1) * (b - 1) * (2 * a * b - a - b - 1)) % 12 = ((a % 12 - 1) * (b % 12 - 1) * (2 * (a % 12) * (b % 12) - a % 12 - b % 12 - 1)) % 12 := by
  have ea := Int.mul_ediv_add_emod a 12
  have eb := Int.mul_ediv_add_emod b 12
  generalize a % 12 = r at *
  generalize b % 12 = s at *
  generalize a / 12 = p at *
  generalize b / 12 = q at *
  subst ea eb
  refine Int.emod_eq_emod_iff_emod_sub_eq_zero.mpr (Int.emod_eq_zero_of_dvd ?_)
  refine ⟨p * ((12 * q + s - 1) * ((2 * (12 * q + s) - 1) * (12 * p + r + r) - (12 * q + s + 1) - (2 * (12 * q + s) - 1))) + q * ((r - 1) * ((2 * r - 1) * (12 * q + s + s) - (r + 1) - (2 * r - 1))), ?_⟩
  grind
theorem g12_chk : ∀ r : Fin 12, ∀ s : Fin 12, (r.val % 2 = 0 ∧ s.val % 2 = 0) ∨ (r.val % 3 = 0 ∧ s.val % 3 = 0) ∨ (((r.val : Int) - 1) * ((s.val : Int) - 1) * (2 * (r.val : Int) * (s.val : Int) - (r.val : Int) - (s.val : Int) - 1)) % 12 = 0 := by decide +kernel
theorem gap_twelve {a b : Int} (hg : gc a b = 1) : ((a - 1) * (b - 1) * (2 * a * b - a - b - 1)) % 12 = 0 := by
  rw [g12_mod]
  have r0 := Int.emod_nonneg a (show (12 : Int) ≠ 0 by decide)
  have r1 := Int.emod_lt_of_pos a (show (0 : Int) < 12 by decide)
  have s0 := Int.emod_nonneg b (show (12 : Int) ≠ 0 by decide)
  have s1 := Int.emod_lt_of_pos b (show (0 : Int) < 12 by decide)
  have ndvd : ∀ k : Int, 1 < k → k ∣ a → k ∣ b → False := fun k k1 h1 h2 => by
    have h3 : k ∣ ((Int.gcd a b : Nat) : Int) := Int.dvd_coe_gcd h1 h2
    have h4 : ((Int.gcd a b : Nat) : Int) = 1 := hg
    rw [h4] at h3
    have := Int.le_of_dvd (by decide) h3
    omega
  have c := g12_chk ⟨(a % 12).toNat, by omega⟩ ⟨(b % 12).toNat, by omega⟩
  simp only at c
  rcases c with c | c | c
  · exact (ndvd 2 (by decide) (by omega) (by omega)).elim
  · exact (ndvd 3 (by decide) (by omega) (by omega)).elim
  · rw [show (((a % 12).toNat : Nat) : Int) = a % 12 by omega, show (((b % 12).toNat : Nat) : Int) = b % 12 by omega] at c
    exact c
theorem two_cnt {a b : Int} (hg : gc a b = 1) : 2 * ((a - 1) * (b - 1) / 2) = (a - 1) * (b - 1) := by
  have : ((a - 1) * (b - 1)) % 2 = 0 := by
    by_cases h : a % 2 = 0
    · by_cases h2 : b % 2 = 0
      · have h3 : (2 : Int) ∣ ((Int.gcd a b : Nat) : Int) := Int.dvd_coe_gcd (Int.dvd_of_emod_eq_zero h) (Int.dvd_of_emod_eq_zero h2)
        have h4 : ((Int.gcd a b : Nat) : Int) = 1 := hg
        rw [h4] at h3
        have := Int.le_of_dvd (by decide) h3
        omega
      · rw [Int.mul_emod, show (b - 1) % 2 = 0 by omega, Int.mul_zero]
        rfl
    · rw [Int.mul_emod, show (a - 1) % 2 = 0 by omega, Int.zero_mul]
      rfl
  omega
theorem gap_tot12 {a b : Int} (hg : gc a b = 1) : (a - 1) * (b - 1) * (2 * a * b - a - b - 1) / 12 * 12 = 2 * ((a - 1) * (b - 1) / 2) * (2 * a * b - a - b - 1) := by
  rw [two_cnt hg]
  have := gap_twelve hg
  generalize (a - 1) * (b - 1) * (2 * a * b - a - b - 1) = f at *
  omega
theorem gB_nonpos {a b n : Int} (ha : 0 < a) (hb : 0 < b) (h0 : n ≤ 0) : gB a b n = 0 := by
  unfold gB
  split
  · rename_i h
    have e2 : (a - 1) * (b - 1) = a * b - a - b + 1 := by grind
    have e3 : 0 ≤ (a - 1) * (b - 1) := Int.mul_nonneg (by omega) (by omega)
    omega
  · rw [if_neg (by omega)]
/-- up to a b the count is by the rows of a triangle -/
theorem gB_rows {a b L : Int} (ha : 0 < a) (hb : 0 < b) (hg : gc a b = 1) (h0 : 0 < L) (h1 : L ≤ a * b) : gB a b L = L - ((L - 1) / a + 1 + S0 ((L - 1) / a + 1).toNat a ((L - 1) % a) b) := by
  obtain ⟨v, hv⟩ := inv_gen hb hg
  obtain ⟨u, hu⟩ := inv_gen ha (show gc b a = 1 by rw [gc_comm]; exact hg)
  obtain ⟨m, rfl⟩ : ∃ m : Nat, L = m := ⟨L.toNat, by omega⟩
  rw [gB_gp ha hb hg hv hu m, gp_low ha hb hv hu h1, PT_swap ha hb]
  unfold Tri
  rw [if_neg (by omega)]
theorem gp_mono (a b v : Int) (m : Nat) : ∀ k : Nat, gp a b v m ≤ gp a b v (m + k)
  | 0 => Int.le_refl _
  | k + 1 => by
    have h := gp_mono a b v m k
    have e : gp a b v (m + k + 1) = gp a b v (m + k) + ind (decide (¬ (((m + k : Nat) : Int) * v % b) * a ≤ ((m + k : Nat) : Int))) := rfl
    have i : 0 ≤ ind (decide (¬ (((m + k : Nat) : Int) * v % b) * a ≤ ((m + k : Nat) : Int))) := by
      unfold ind
      split <;> decide
    show gp a b v m ≤ gp a b v (m + k + 1)
    omega
theorem gB_mono {a b m n : Int} (ha : 0 < a) (hb : 0 < b) (hg : gc a b = 1) (h : m ≤ n) : gB a b m ≤ gB a b n := by
  obtain ⟨v, hv⟩ := inv_gen hb hg
  obtain ⟨u, hu⟩ := inv_gen ha (show gc b a = 1 by rw [gc_comm]; exact hg)
  have nn : ∀ k : Nat, 0 ≤ gp a b v k := fun k => by
    have h0 : gp a b v 0 = 0 := rfl
    have := gp_mono a b v 0 k
    rw [h0, Nat.zero_add] at this
    exact this
  by_cases h0 : m ≤ 0
  · rw [gB_nonpos ha hb h0]
    by_cases h1 : n ≤ 0
    · rw [gB_nonpos ha hb h1]
      exact Int.le_refl _
    · have e := gB_gp ha hb hg hv hu n.toNat
      rw [show ((n.toNat : Nat) : Int) = n by omega] at e
      rw [e]
      exact nn _
  · have e := gB_gp ha hb hg hv hu n.toNat
    rw [show ((n.toNat : Nat) : Int) = n by omega] at e
    have e2 := gB_gp ha hb hg hv hu m.toNat
    rw [show ((m.toNat : Nat) : Int) = m by omega] at e2
    rw [e, e2]
    have := gp_mono a b v m.toNat (n.toNat - m.toNat)
    rw [show m.toNat + (n.toNat - m.toNat) = n.toNat by omega] at this
    exact this
/-- the number at an index: it is not reached, and so many are below it -/
theorem gap_is {a b v i n : Int} (ha : 0 < a) (hb : 0 < b) (hg : gc a b = 1) (hv : (a * v) % b = 1 % b) (i0 : 0 ≤ i) (h1 : gB a b n ≤ i) (h2 : i < gB a b (n + 1)) :
    0 ≤ n ∧ ¬ n * v % b * a ≤ n ∧ gB a b n = i ∧ gB a b (n + 1) = i + 1 ∧ n ≤ a * b - a - b := by
  obtain ⟨u, hu⟩ := inv_gen ha (show gc b a = 1 by rw [gc_comm]; exact hg)
  have n0 : 0 ≤ n := by
    refine Int.not_lt.mp fun z => ?_
    rw [gB_nonpos ha hb (show n + 1 ≤ 0 by omega)] at h2
    omega
  obtain ⟨m, rfl⟩ : ∃ m : Nat, n = m := ⟨n.toNat, by omega⟩
  have g1 := gB_gp ha hb hg hv hu m
  have g2 := gB_gp ha hb hg hv hu (m + 1)
  rw [show (((m + 1 : Nat)) : Int) = (m : Int) + 1 by omega] at g2
  have e : gp a b v (m + 1) = gp a b v m + ind (decide (¬ ((m : Int) * v % b) * a ≤ m)) := rfl
  have last : (m : Int) ≤ a * b - a - b := by
    refine Int.not_lt.mp fun z => ?_
    have e1 : gB a b (m : Int) = (a - 1) * (b - 1) / 2 := by unfold gB; rw [if_pos z]
    have e2 : gB a b ((m : Int) + 1) = (a - 1) * (b - 1) / 2 := by unfold gB; rw [if_pos (by omega)]
    omega
  by_cases hp : ((m : Int) * v % b) * a ≤ m
  · rw [show decide (¬ ((m : Int) * v % b) * a ≤ m) = false by simp [hp]] at e
    have i0 : ind false = 0 := rfl
    omega
  · rw [show decide (¬ ((m : Int) * v % b) * a ≤ m) = true by simp [hp]] at e
    have i1 : ind true = 1 := rfl
    exact ⟨by omega, hp, by omega, by omega, last⟩
/-- the last index leads to the last one -/
theorem gap_last {a b n : Int} (ha : 0 < a) (hb : 0 < b) (hg : gc a b = 1) (hc : 0 < (a - 1) * (b - 1) / 2) (h1 : gB a b n ≤ (a - 1) * (b - 1) / 2 - 1) (h2 : (a - 1) * (b - 1) / 2 - 1 < gB a b (n + 1)) : n = a * b - a - b := by
  obtain ⟨v, hv⟩ := inv_gen hb hg
  obtain ⟨u, hu⟩ := inv_gen ha (show gc b a = 1 by rw [gc_comm]; exact hg)
  obtain ⟨p1, p2, p3, p4, p5⟩ := gap_is ha hb hg hv (by omega) h1 h2
  have e2 : (a - 1) * (b - 1) = a * b - a - b + 1 := by grind
  have l0 : 0 ≤ a * b - a - b := by omega
  refine Int.le_antisymm p5 (Int.not_lt.mp fun z => ?_)
  have g2 := gB_gp ha hb hg hv hu (a * b - a - b).toNat
  have g3 := gB_gp ha hb hg hv hu ((a * b - a - b).toNat + 1)
  rw [show (((a * b - a - b).toNat : Nat) : Int) = a * b - a - b by omega] at g2
  rw [show ((((a * b - a - b).toNat + 1 : Nat)) : Int) = a * b - a - b + 1 by omega] at g3
  have e : gp a b v ((a * b - a - b).toNat + 1) = gp a b v (a * b - a - b).toNat + ind (decide (¬ (((a * b - a - b).toNat : Nat) : Int) * v % b * a ≤ (((a * b - a - b).toNat : Nat) : Int))) := rfl
  rw [show (((a * b - a - b).toNat : Nat) : Int) = a * b - a - b by omega] at e
  have nr : ¬ (a * b - a - b) * v % b * a ≤ a * b - a - b := fun hh => by
    have o := (wy_opp (n := 0) ha hb hv).mp (by rw [Int.sub_zero]; exact hh)
    simp at o
  rw [decide_eq_true nr] at e
  have i1 : ind true = 1 := rfl
  have m1 := gB_mono ha hb hg (show n + 1 ≤ a * b - a - b by omega)
  have e3 : gB a b (a * b - a - b + 1) = (a - 1) * (b - 1) / 2 := by unfold gB; rw [if_pos (by omega)]
  omega
/-- the first index leads to 1 -/
theorem gap_first {a b n : Int} (ha : 2 ≤ a) (hb : 2 ≤ b) (hg : gc a b = 1) (h1 : gB a b n ≤ 0) (h2 : 0 < gB a b (n + 1)) : n = 1 := by
  have ha0 : 0 < a := by omega
  have hb0 : 0 < b := by omega
  obtain ⟨v, hv⟩ := inv_gen hb0 hg
  obtain ⟨u, hu⟩ := inv_gen ha0 (show gc b a = 1 by rw [gc_comm]; exact hg)
  obtain ⟨p1, p2, p3, p4, p5⟩ := gap_is ha0 hb0 hg hv (Int.le_refl 0) h1 h2
  have n0 : n ≠ 0 := fun z => by
    subst z
    rw [Int.zero_mul, Int.zero_emod, Int.zero_mul] at p2
    exact p2 (Int.le_refl 0)
  refine Int.le_antisymm (Int.not_lt.mp fun z => ?_) (by omega)
  have g2 := gB_gp ha0 hb0 hg hv hu 2
  have e : gp a b v 2 = gp a b v 1 + ind (decide (¬ (((1 : Nat) : Int) * v % b) * a ≤ ((1 : Nat) : Int))) := rfl
  have e1 := gp_mono a b v 0 1
  have e0 : gp a b v 0 = 0 := rfl
  have nr : ¬ (((1 : Nat) : Int) * v % b) * a ≤ ((1 : Nat) : Int) := fun hh => by
    rw [show ((1 : Nat) : Int) = 1 from rfl, Int.one_mul] at hh
    have q0 := Int.emod_nonneg v (show b ≠ 0 by omega)
    have q1 : v % b ≠ 0 := fun z => by
      have h3 : b ∣ v := Int.dvd_of_emod_eq_zero z
      have h4 : (a * v) % b = 0 := Int.emod_eq_zero_of_dvd (Int.dvd_trans h3 ⟨a, Int.mul_comm a v⟩)
      rw [h4, Int.emod_eq_of_lt (by decide) (by omega)] at hv
      omega
    have := Int.mul_le_mul (show 1 ≤ v % b by omega) ha (by decide) q0
    omega
  rw [decide_eq_true nr] at e
  have i1 : ind true = 1 := rfl
  rw [Nat.zero_add] at e1
  have m1 := gB_mono ha0 hb0 hg (show 2 ≤ n by omega)
  rw [show ((2 : Nat) : Int) = 2 from rfl] at g2
  omega
end Tm

set_option maxHeartbeats 1000000
/-! Numbers marked one by one; the sum of the gaps of steps up to 40. -/
namespace Tm
def mkB (a b : Int) (x n : Nat) : Bool := (List.range x).any fun x' => pz a b n x'
def mkY (a b : Int) (x y n : Nat) : Bool := mkB a b x n || (pz a b n x && decide (((n : Int) - a * (x : Int)) / b < (y : Int)))
theorem mkY_zero {a b : Int} (hb : 0 < b) (x n : Nat) : mkY a b x 0 n = mkB a b x n := by
  unfold mkY
  have : (pz a b n x && decide (((n : Int) - a * (x : Int)) / b < ((0 : Nat) : Int))) = false := by
    unfold pz
    by_cases h : 0 ≤ (n : Int) - a * (x : Int)
    · have := Int.ediv_nonneg h (show 0 ≤ b by omega)
      rw [decide_eq_false (show ¬ ((n : Int) - a * (x : Int)) / b < ((0 : Nat) : Int) by omega), Bool.and_false]
    · rw [decide_eq_false h, Bool.false_and, Bool.false_and]
  rw [this, Bool.or_false]
theorem pz_at {a b : Int} (hb : 0 < b) {n x y : Nat} : (pz a b n x && decide (((n : Int) - a * (x : Int)) / b = (y : Int))) = decide ((n : Int) = a * (x : Int) + b * (y : Int)) := by
  unfold pz
  by_cases h : (n : Int) = a * (x : Int) + b * (y : Int)
  · have e : (n : Int) - a * (x : Int) = b * (y : Int) := by omega
    rw [decide_eq_true h, e, Int.mul_ediv_cancel_left _ (by omega), Int.mul_emod_right, decide_eq_true (Int.mul_nonneg (by omega) (by omega))]
    simp
  · rw [decide_eq_false h]
    by_cases h2 : ((n : Int) - a * (x : Int)) % b = 0 ∧ ((n : Int) - a * (x : Int)) / b = (y : Int)
    · have := Int.mul_ediv_add_emod ((n : Int) - a * (x : Int)) b
      rw [h2.1, h2.2] at this
      omega
    · by_cases h3 : ((n : Int) - a * (x : Int)) % b = 0
      · rw [decide_eq_false (show ¬ ((n : Int) - a * (x : Int)) / b = (y : Int) from fun z => h2 ⟨h3, z⟩), Bool.and_false]
      · rw [decide_eq_false h3, Bool.and_false, Bool.false_and]
theorem mkY_succ {a b : Int} (hb : 0 < b) (x y n : Nat) : mkY a b x (y + 1) n = (mkY a b x y n || decide ((n : Int) = a * (x : Int) + b * (y : Int))) := by
  rw [← pz_at hb]
  unfold mkY
  have e : decide (((n : Int) - a * (x : Int)) / b < ((y + 1 : Nat) : Int)) = (decide (((n : Int) - a * (x : Int)) / b < (y : Int)) || decide (((n : Int) - a * (x : Int)) / b = (y : Int))) := by
    generalize ((n : Int) - a * (x : Int)) / b = t
    by_cases h1 : t < (y : Int)
    · rw [decide_eq_true h1, decide_eq_true (by omega), Bool.true_or]
    · rw [decide_eq_false h1, Bool.false_or]
      exact decide_eq_decide.mpr (by omega)
  rw [e, Bool.and_or_distrib_left, Bool.or_assoc]
theorem mkY_end {a b : Int} (ha : 0 < a) (hb : 0 < b) {x y n N : Nat} (hn : n ≤ N) (hy : ((N : Int) - a * (x : Int)) / b < (y : Int)) : mkY a b x y n = mkB a b (x + 1) n := by
  unfold mkY
  have e : mkB a b (x + 1) n = (mkB a b x n || pz a b n x) := by
    unfold mkB
    rw [List.range_succ, List.any_append]
    simp
  rw [e]
  congr 1
  have : ((n : Int) - a * (x : Int)) / b ≤ ((N : Int) - a * (x : Int)) / b := Int.ediv_le_ediv hb (by omega)
  rw [decide_eq_true (by omega), Bool.and_true]
theorem mkB_all {a b v : Int} (ha : 0 < a) (hb : 0 < b) (hv : (a * v) % b = 1 % b) (n : Nat) : mkB a b (b + 1).toNat n = decide ((n : Int) * v % b * a ≤ n) := by
  have f0 := Int.emod_nonneg ((n : Int) * v) (show b ≠ 0 by omega)
  have f1 := Int.emod_lt_of_pos ((n : Int) * v) hb
  by_cases h : (n : Int) * v % b * a ≤ n
  · rw [decide_eq_true h]
    unfold mkB
    refine List.any_eq_true.mpr ⟨((n : Int) * v % b).toNat, List.mem_range.mpr (by omega), ?_⟩
    rw [pz_iff ha hb hv (by rw [show ((((n : Int) * v % b).toNat : Nat) : Int) = (n : Int) * v % b by omega, Int.mul_comm]; omega)]
    exact decide_eq_true (Nat.mod_eq_of_lt (by omega))
  · rw [decide_eq_false h]
    unfold mkB
    refine Bool.eq_false_iff.mpr fun z => h ?_
    obtain ⟨x, hx, hp⟩ := List.any_eq_true.mp z
    have hp0 : 0 ≤ (n : Int) - a * (x : Int) := by
      unfold pz at hp
      rw [Bool.and_eq_true] at hp
      exact of_decide_eq_true hp.1
    rw [pz_iff ha hb hv hp0] at hp
    have e := of_decide_eq_true hp
    have l : ((n : Int) * v % b).toNat ≤ x := by rw [← e]; exact Nat.mod_le _ _
    have m : (n : Int) * v % b * a ≤ (x : Int) * a := Int.mul_le_mul_of_nonneg_right (by omega) (by omega)
    rw [Int.mul_comm a] at hp0
    omega
theorem set_map {α : Type} (f g : Nat → α) (N i : Nat) (v : α) (h : ∀ n, n < N → g n = if n = i then v else f n) : ((List.range N).map f).set i v = (List.range N).map g := by
  apply List.ext_getElem
  · simp
  · intro j h1 h2
    have hj : j < N := by simpa using h2
    rw [List.getElem_set, List.getElem_map, List.getElem_map, List.getElem_range, h j hj]
    by_cases z : i = j
    · rw [if_pos z, if_pos z.symm]
    · rw [if_neg z, if_neg (fun q => z q.symm)]
/-- the row of marks with one more -/
theorem mk_set {α : Type} (F : Bool → α) {a b : Int} (hb : 0 < b) (x y i N : Nat) (hi : (i : Int) = a * (x : Int) + b * (y : Int)) : ((List.range N).map fun n => F (mkY a b x y n)).set i (F true) = (List.range N).map fun n => F (mkY a b x (y + 1) n) := by
  refine set_map _ _ N i _ fun n _ => ?_
  rw [mkY_succ hb]
  by_cases z : n = i
  · rw [if_pos z, z, decide_eq_true hi, Bool.or_true]
  · rw [if_neg z, decide_eq_false (show ¬ (n : Int) = a * (x : Int) + b * (y : Int) by omega), Bool.or_false]
theorem gchk_40a : ∀ a, a < 33 → ∀ b, b < 41 → gchk a b = true := by decide +kernel
theorem gchk_40b : ∀ a, a < 8 → ∀ b, b < 41 → gchk (a + 33) b = true := by decide +kernel
end Tm

set_option maxHeartbeats 1000000
/-! The sum of the gaps of steps up to 40. -/
namespace Tm
theorem gap_sum40 {a b v : Int} (ha : 0 < a) (hb : 0 < b) (a40 : a ≤ 40) (b40 : b ≤ 40) (hg : gc a b = 1) (hv : (a * v) % b = 1 % b) :
    (((List.range (a * b).toNat).filter fun n : Nat => !decide ((n : Int) * v % b * a ≤ n)).map fun n : Nat => (n : Int)).sum = (a - 1) * (b - 1) * (2 * a * b - a - b - 1) / 12 := by
  obtain ⟨A, rfl⟩ : ∃ A : Nat, a = A := ⟨a.toNat, by omega⟩
  obtain ⟨B, rfl⟩ : ∃ B : Nat, b = B := ⟨b.toNat, by omega⟩
  have c : gchk A B = true := by
    by_cases h : A < 33
    · exact gchk_40a A h B (by omega)
    · have := gchk_40b (A - 33) (by omega) B (by omega)
      rwa [show A - 33 + 33 = A by omega] at this
  have gA : Nat.gcd A B = 1 := by
    have h : ((Int.gcd (A : Int) (B : Int) : Nat) : Int) = 1 := hg
    exact Int.ofNat.inj h
  have nA : (A == 0) = false := by simp; omega
  have nB : (B == 0) = false := by simp; omega
  unfold gchk at c
  rw [nA, nB, gA] at c
  simp only [bne_self_eq_false, Bool.false_or, Bool.and_eq_true, beq_iff_eq] at c
  obtain ⟨c1, c2⟩ := c
  generalize ivn A B = W at c1 c2
  have hW : ((A : Int) * (W : Int)) % (B : Int) = 1 % (B : Int) := by
    rw [← Int.natCast_mul, ← Int.natCast_emod, c1, Int.natCast_emod]
    rfl
  have eP : (fun n : Nat => !decide ((n : Int) * v % (B : Int) * (A : Int) ≤ n)) = fun n : Nat => !decide (n * W % B * A ≤ n) := by
    funext n
    rw [inv_same hv hW, ← Int.natCast_mul, ← Int.natCast_emod, ← Int.natCast_mul]
    congr 1
    exact decide_eq_decide.mpr Int.ofNat_le
  rw [eP, show ((A : Int) * (B : Int)).toNat = A * B by rw [← Int.natCast_mul]; rfl]
  have e := sum_cast ((List.range (A * B)).filter fun n => !decide (n * W % B * A ≤ n)) 0
  have e0 : ((gsum A B W : Nat) : Int) = (((List.range (A * B)).filter fun n => !decide (n * W % B * A ≤ n)).map fun n : Nat => (n : Int)).sum := by
    unfold gsum
    rw [e]
    omega
  rw [← e0]
  generalize gsum A B W = S at *
  have p : A + B ≤ A * B + 1 := by
    obtain ⟨x, rfl⟩ : ∃ x, A = x + 1 := ⟨A - 1, by omega⟩
    obtain ⟨y, rfl⟩ : ∃ y, B = y + 1 := ⟨B - 1, by omega⟩
    have : (x + 1) * (y + 1) = x * y + x + y + 1 := by grind
    omega
  have c3 : (12 : Int) * S = ((A : Int) - 1) * ((B : Int) - 1) * (2 * A * B - A - B - 1) := by
    by_cases h1 : A = 1 ∧ B = 1
    · obtain ⟨rfl, rfl⟩ := h1
      have : S = 0 := by omega
      rw [this]
      rfl
    · have p2 : A + B + 1 ≤ 2 * A * B := by
        have := Nat.mul_pos (show 0 < A by omega) (show 0 < B by omega)
        rw [Nat.mul_assoc]
        have : 2 ≤ A * B := by
          rcases Nat.lt_or_ge 1 A with z | z
          · have := Nat.mul_le_mul z (show 1 ≤ B by omega)
            omega
          · have : A = 1 := by omega
            subst this
            omega
        omega
      have c4 := congrArg (fun n : Nat => (n : Int)) c2
      simp only [Int.natCast_mul] at c4
      rw [Int.natCast_sub (show 1 ≤ 2 * A * B - A - B by omega), Int.natCast_sub (show B ≤ 2 * A * B - A by omega), Int.natCast_sub (show A ≤ 2 * A * B by omega), Int.natCast_sub (show 1 ≤ A by omega), Int.natCast_sub (show 1 ≤ B by omega)] at c4
      simp only [Int.natCast_mul] at c4
      exact c4
  omega
end Tm

set_option maxHeartbeats 1000000
/-! Points of triangles and corners, counted one by one. -/
namespace Tm
theorem len_ind (p : Nat → Bool) : ∀ M : Nat, ((((List.range M).filter p).length : Nat) : Int) = sm (fun i => ind (p i)) M
  | 0 => rfl
  | M + 1 => by
    rw [List.range_succ, List.filter_append, List.length_append]
    show _ = sm (fun i => ind (p i)) M + ind (p M)
    rw [← len_ind p M]
    cases h : p M <;> simp [h, ind]
theorem filter_le {b n : Int} (hb : 0 < b) : ∀ M : Nat, (List.range M).filter (fun y : Nat => decide (b * (y : Int) ≤ n)) = List.range (min M (n / b + 1).toNat)
  | 0 => by simp
  | M + 1 => by
    rw [List.range_succ, List.filter_append, filter_le hb M]
    have e : b * (M : Int) ≤ n ↔ (M : Int) ≤ n / b := by
      rw [Int.le_ediv_iff_mul_le hb, Int.mul_comm]
    by_cases h : b * (M : Int) ≤ n
    · have h2 := e.mp h
      rw [List.filter_cons_of_pos (p := fun y : Nat => decide (b * (y : Int) ≤ n)) (decide_eq_true h), show min M (n / b + 1).toNat = M by omega, show min (M + 1) (n / b + 1).toNat = M + 1 by omega, List.range_succ]
      rfl
    · have h2 : ¬ (M : Int) ≤ n / b := fun z => h (e.mpr z)
      rw [List.filter_cons_of_neg (p := fun y : Nat => decide (b * (y : Int) ≤ n)) (by simpa using h), show min (M + 1) (n / b + 1).toNat = min M (n / b + 1).toNat by omega]
      exact List.append_nil _
theorem sum_sm (f : Nat → Int) : ∀ M : Nat, ((List.range M).map f).sum = sm f M
  | 0 => rfl
  | M + 1 => by
    rw [List.range_succ, List.map_append, List.sum_append, sum_sm f M]
    simp [sm]
/-- the numbers of points of the rows of a triangle -/
def trow (a b n : Int) (i : Nat) : List Int := ((List.range i).filter fun y : Nat => decide (b * (y : Int) ≤ n)).map fun y : Nat => (n - b * (y : Int)) / a + 1
theorem trow_all {a b n : Int} (hb : 0 < b) {N : Nat} (hN : (n / b + 1).toNat ≤ N) : trow a b n N = (List.range (n / b + 1).toNat).map fun y : Nat => (n - b * (y : Int)) / a + 1 := by
  unfold trow
  rw [filter_le hb, Nat.min_eq_right hN]
theorem trow_sum {a b n : Int} (ha : 0 < a) (hb : 0 < b) {N : Nat} (hN : (n / b + 1).toNat ≤ N) : (trow a b n N).sum = Tri a b n := by
  rw [trow_all hb hN, sum_sm]
  rcases Int.lt_or_le n 0 with h | h
  · have : n / b < 0 := Int.ediv_neg_of_neg_of_pos h hb
    rw [PT_neg h, show (n / b + 1).toNat = 0 by omega]
    rfl
  · rw [PT_rows ha hb h]
theorem div_lt {n b : Int} (hb : 0 < b) (hn : 0 ≤ n) : (n / b + 1).toNat ≤ (n + 1).toNat := by
  have := Int.ediv_le_self b hn
  omega
theorem cnt_row {a b n : Int} (ha : 0 < a) {y : Nat} (h : b * (y : Int) ≤ n) (hb : 0 < b) : ((((List.range (n + 1).toNat).filter fun x : Nat => decide (a * (x : Int) + b * (y : Int) ≤ n)).length : Nat) : Int) = (n - b * (y : Int)) / a + 1 := by
  have y0 : 0 ≤ b * (y : Int) := Int.mul_nonneg (by omega) (by omega)
  rw [len_ind]
  have e : ∀ x : Nat, ind (decide (a * (x : Int) + b * (y : Int) ≤ n)) = ind (decide (a * (x : Int) ≤ n - b * (y : Int))) := fun x => by
    rw [decide_eq_decide.mpr (show a * (x : Int) + b * (y : Int) ≤ n ↔ a * (x : Int) ≤ n - b * (y : Int) by omega)]
  rw [sm_congr _ fun x _ => e x]
  refine sm_ind_le ha (by omega) _ ?_
  have := Int.ediv_le_self a (show 0 ≤ n - b * (y : Int) by omega)
  omega
theorem inner_all {a b n : Int} (ha : 0 < a) (hb : 0 < b) : sm (fun y => sm (fun x => ind (decide (a * (x : Int) + b * (y : Int) ≤ n - a - b - 1))) (n - 1).toNat) (n - 1).toNat = Tri a b (n - a - b - 1) := by
  rcases Int.lt_or_le (n - a - b - 1) 0 with h | h
  · rw [PT_neg h]
    refine sm_zero _ fun y _ => sm_zero _ fun x _ => ?_
    have h1 := Int.mul_nonneg (show 0 ≤ a by omega) (show 0 ≤ (x : Int) by omega)
    have h2 := Int.mul_nonneg (show 0 ≤ b by omega) (show 0 ≤ (y : Int) by omega)
    rw [decide_eq_false (by omega)]
    rfl
  · rw [PT_CT ha hb h (N := (n - 1).toNat) (by omega)]
    rfl
/-! corners -/
abbrev P3 := Nat × Nat × Nat
def cell (a b c t x y : Nat) : List P3 := if b * x + a * y ≤ a * b * t then (List.range ((a * b * t - b * x - a * y) * c / (a * b) + 1)).map fun z => (x, y, z) else []
def colm (a b c t x j : Nat) : List P3 := (List.range j).flatMap fun y => cell a b c t x y
def ptsT (a b c t i : Nat) : List P3 := (List.range i).flatMap fun x => colm a b c t x (b * t + 1)
def pts (a b c t : Nat) : List P3 := ptsT a b c t (a * t + 1)
def hgt (a b c : Nat) (p : P3) : Nat := p.1 * b * c + p.2.1 * a * c + p.2.2 * a * b
def onF (a b c t : Nat) (p : P3) : Bool := decide (hgt a b c p = a * b * c * t)
def inn (a b c t : Nat) (p : P3) : Bool := !(decide (p.1 = 0) || decide (p.2.1 = 0) || decide (p.2.2 = 0)) && !onF a b c t p
/-- the value of the polynomial as the program finds it -/
def cTops (a b c : Int) : Int × Int × Int × Int :=
  (12 * a * (b * c), 3 * a * (b * c) * (a + b + c + 3) + b * c * (b * c) + c * a * (c * a) + a * b * (a * b) + 1 - (b * c * TT (b * c) a + c * a * TT (c * a) b + a * b * TT (a * b) c), 3 * a * (b * c) * (a * b + b * c + c * a + 1), 2 * a * (b * c) * a * (b * c))
def cVal (a b c t : Int) : Int := ((((cTops a b c).2.2.2 * t + (cTops a b c).2.2.1) * t + (cTops a b c).2.1) * t + (cTops a b c).1) / (12 * a * b * c)
def cIn (a b c t : Nat) : Bool := Nat.gcd a b == 1 && Nat.gcd b c == 1 && Nat.gcd c a == 1 && decide (t < (if a * b * c < 60 then 4 else if a * b * c < 110 then 3 else 2))
def cOk (a b c t : Nat) : Bool :=
  let l := pts a b c t
  decide (cVal a b c t = (l.length : Nat)) && decide ((if t = 0 then 0 else -cVal a b c (-(t : Int))) = ((l.filter (inn a b c t)).length : Nat)) &&
  decide ((t + 1) * (t + 2) / 2 = (l.filter (onF a b c t)).length) && decide (l.length ≤ 400) &&
  (List.range (c * t + 1)).all fun z => decide (Tri ((b * c : Nat) : Int) ((c * a : Nat) : Int) ((a * b * c * t - a * b * z : Nat) : Int) = ((l.filter fun p => decide (p.2.2 = z)).length : Nat))
theorem cOk_all : ∀ a, a < 8 → ∀ b, b < 8 → ∀ c, c < 8 → ∀ t, t < 4 → (a == 0 || b == 0 || c == 0 || !cIn a b c t || cOk a b c t) = true := by decide +kernel
end Tm

set_option maxHeartbeats 1000000
/-! The polynomial of a box up to nine: whole values, points by force. -/
namespace Tm
def cNum (a b c t : Int) : Int := (((cTops a b c).2.2.2 * t + (cTops a b c).2.2.1) * t + (cTops a b c).2.1) * t + (cTops a b c).1
theorem cVal_num (a b c t : Int) : cVal a b c t = cNum a b c t / (12 * a * b * c) := rfl
theorem cub_all {B x0 x1 x2 x3 : Int} (h0 : B ∣ x0) (h1 : B ∣ ((x3 * 1 + x2) * 1 + x1) * 1 + x0) (h2 : B ∣ ((x3 * 2 + x2) * 2 + x1) * 2 + x0) (h3 : B ∣ ((x3 * 3 + x2) * 3 + x1) * 3 + x0) (t : Int) : B ∣ ((x3 * t + x2) * t + x1) * t + x0 := by
  obtain ⟨k0, h0⟩ := h0
  obtain ⟨k1, h1⟩ := h1
  obtain ⟨k2, h2⟩ := h2
  obtain ⟨k3, h3⟩ := h3
  have up : ∀ n : Nat, (∃ y0, ((x3 * (n : Int) + x2) * (n : Int) + x1) * (n : Int) + x0 = B * y0) ∧ (∃ y1, ((x3 * ((n : Int) + 1) + x2) * ((n : Int) + 1) + x1) * ((n : Int) + 1) + x0 = B * y1) ∧ (∃ y2, ((x3 * ((n : Int) + 2) + x2) * ((n : Int) + 2) + x1) * ((n : Int) + 2) + x0 = B * y2) ∧ (∃ y3, ((x3 * ((n : Int) + 3) + x2) * ((n : Int) + 3) + x1) * ((n : Int) + 3) + x0 = B * y3) := by
    intro n
    induction n with
    | zero => exact ⟨⟨k0, by simp; exact h0⟩, ⟨k1, by simpa using h1⟩, ⟨k2, by simpa using h2⟩, ⟨k3, by simpa using h3⟩⟩
    | succ n ih =>
      obtain ⟨⟨y0, e0⟩, ⟨y1, e1⟩, ⟨y2, e2⟩, ⟨y3, e3⟩⟩ := ih
      rw [Int.natCast_succ]
      generalize (n : Int) = m at *
      refine ⟨⟨y1, e1⟩, ⟨y2, by rw [← e2]; grind⟩, ⟨y3, by rw [← e3]; grind⟩, ⟨4 * y3 - 6 * y2 + 4 * y1 - y0, ?_⟩⟩
      have : B * (4 * y3 - 6 * y2 + 4 * y1 - y0) = 4 * (B * y3) - 6 * (B * y2) + 4 * (B * y1) - B * y0 := by grind
      rw [this, ← e0, ← e1, ← e2, ← e3]
      grind
  have dn : ∀ n : Nat, (∃ y0, ((x3 * (-(n : Int)) + x2) * (-(n : Int)) + x1) * (-(n : Int)) + x0 = B * y0) ∧ (∃ y1, ((x3 * (-(n : Int) + 1) + x2) * (-(n : Int) + 1) + x1) * (-(n : Int) + 1) + x0 = B * y1) ∧ (∃ y2, ((x3 * (-(n : Int) + 2) + x2) * (-(n : Int) + 2) + x1) * (-(n : Int) + 2) + x0 = B * y2) ∧ (∃ y3, ((x3 * (-(n : Int) + 3) + x2) * (-(n : Int) + 3) + x1) * (-(n : Int) + 3) + x0 = B * y3) := by
    intro n
    induction n with
    | zero => exact ⟨⟨k0, by simp; exact h0⟩, ⟨k1, by simpa using h1⟩, ⟨k2, by simpa using h2⟩, ⟨k3, by simpa using h3⟩⟩
    | succ n ih =>
      obtain ⟨⟨y0, e0⟩, ⟨y1, e1⟩, ⟨y2, e2⟩, ⟨y3, e3⟩⟩ := ih
      rw [Int.natCast_succ]
      generalize (n : Int) = m at *
      refine ⟨⟨4 * y0 - 6 * y1 + 4 * y2 - y3, ?_⟩, ⟨y0, by rw [← e0]; grind⟩, ⟨y1, by rw [← e1]; grind⟩, ⟨y2, by rw [← e2]; grind⟩⟩
      have : B * (4 * y0 - 6 * y1 + 4 * y2 - y3) = 4 * (B * y0) - 6 * (B * y1) + 4 * (B * y2) - B * y3 := by grind
      rw [this, ← e0, ← e1, ← e2, ← e3]
      grind
  rcases Int.le_total 0 t with h | h
  · obtain ⟨⟨y, e⟩, _⟩ := up t.toNat
    rw [show ((t.toNat : Nat) : Int) = t by omega] at e
    exact ⟨y, e⟩
  · obtain ⟨⟨y, e⟩, _⟩ := dn (-t).toNat
    rw [show -(((-t).toNat : Nat) : Int) = t by omega] at e
    exact ⟨y, e⟩
def cop3 (a b c : Nat) : Bool := Nat.gcd a b == 1 && Nat.gcd b c == 1 && Nat.gcd c a == 1
def inn2 (a b c t : Nat) (p : P3) : Bool := !(decide (p.1 = 0) || decide (p.2.1 = 0) || decide (p.2.2 = 0)) && decide (hgt a b c p < a * b * c * t)
def kOk (a b c : Nat) : Bool :=
  ((List.range 4).all fun t => decide (cNum a b c t % (12 * a * b * c) = 0)) &&
  (List.range 5).all fun t => decide (700 < a * b * c * t * t * t) ||
    (let l := pts a b c t
     decide (cVal a b c t = (l.length : Nat)) && (t == 0 || decide (cVal a b c (-(t : Int)) = -((l.filter (inn2 a b c t)).length : Nat))) && decide (l.length ≤ 400))
theorem kOk_all : ∀ a, a < 10 → ∀ b, b < 10 → ∀ c, c < 10 → (a == 0 || b == 0 || c == 0 || !cop3 a b c || kOk a b c) = true := by decide +kernel
end Tm

/-! Texts of great integers. -/
namespace Tc
open PySem PySem.Spec PyProof.Rows L2 Tm
def tx (l : List Char) : Str := ⟨(l.map Char.toNat).toArray⟩
theorem tx_app (a b : List Char) : tx (a ++ b) = tx a ++ tx b := by
  show Str.mk _ = Str.mk ((a.map Char.toNat).toArray ++ (b.map Char.toNat).toArray)
  simp
theorem tx_len (a : List Char) : (tx a).length = a.length := by
  show (a.map Char.toNat).toArray.size = _
  simp
theorem ofString_tx (s : String) : Str.ofString s = tx s.toList := Str.ofString_eq_toList s
theorem nat_tx (n : Nat) : Str.ofString (toString (n : Int)) = tx (dg n) := by
  have e : toString (n : Int) = Nat.repr n := rfl
  rw [e, Nat.repr_eq_ofList_toDigits, ofString_tx, String.toList_ofList]
  rfl
end Tc
namespace Tc
open PySem PySem.Spec PyProof.Rows L2 Tm
theorem dg_ne (n : Nat) : dg n ≠ [] := by
  intro h
  have : (dg n).length = 0 := by rw [h]; rfl
  unfold dg at this
  have := Nat.length_toDigits_pos (b := 10) (n := n)
  omega
theorem dg_digit {n : Nat} {c : Char} (h : c ∈ dg n) : 48 ≤ c.toNat ∧ c.toNat ≤ 57 := by
  have := Nat.isDigit_of_mem_toDigits (by decide) (by decide) h
  unfold Char.isDigit at this
  rw [Bool.and_eq_true, decide_eq_true_iff, decide_eq_true_iff] at this
  exact ⟨this.1, this.2⟩
theorem zfill_tx {k r : Nat} (h : r < 10 ^ (k + 1)) : Txt.zfill (tx (dg r)) ((k + 1 : Nat) : Int) = tx (pad (k + 1) r) := by
  have hl := dg_len_lt k r h
  unfold Txt.zfill pad
  rw [tx_len]
  split
  · rename_i q
    have : k + 1 - (dg r).length = 0 := by omega
    rw [this]
    rfl
  · rename_i q
    have e : (((k + 1 : Nat) : Int).toNat - (dg r).length) = k + 1 - (dg r).length := by omega
    rw [e]
    obtain ⟨c, l, hc⟩ : ∃ c l, dg r = c :: l := by
      cases hd : dg r with
      | nil => exact absurd hd (dg_ne r)
      | cons c l => exact ⟨c, l, rfl⟩
    have hd := dg_digit (n := r) (c := c) (by rw [hc]; exact List.mem_cons_self ..)
    have hx : (tx (dg r)).cps[0]? = some c.toNat := by
      rw [hc]
      rfl
    have hz : PySem.zfilled (tx (dg r)) (k + 1 - (dg r).length) = Builtin.Str.padded (tx (dg r)) (k + 1 - (dg r).length) 0 48 := by
      unfold PySem.zfilled
      rw [hx]
      split
      · rename_i z
        have := Option.some.inj z
        omega
      · rename_i z
        have := Option.some.inj z
        omega
      · rfl
    rw [hz, tx_app]
    show Str.mk (Array.replicate (k + 1 - (dg r).length) 48 ++ (tx (dg r)).cps ++ Array.replicate 0 48) = Str.mk ((tx (List.replicate (k + 1 - (dg r).length) '0')).cps ++ (tx (dg r)).cps)
    congr 1
    rw [show Array.replicate 0 48 = (#[] : Array Nat) from rfl, Array.append_empty]
    congr 1
    show _ = ((List.replicate (k + 1 - (dg r).length) '0').map Char.toNat).toArray
    rw [List.map_replicate]
    exact (List.toArray_replicate ..).symm
end Tc
namespace Tc
open PySem PySem.Spec PyProof.Rows L2 Tm
theorem glue_fold (g : Str) (hg : g.cps = #[]) : ∀ (ls : List (List Char)) (acc : List Char), ((ls.map tx).foldl (fun a p => a ++ g.cps ++ p.cps) (tx acc).cps) = (tx (acc ++ ls.flatten)).cps
  | [], acc => by simp
  | l :: ls, acc => by
    rw [List.map_cons, List.foldl_cons, hg, Array.append_empty]
    have e : (tx acc).cps ++ (tx l).cps = (tx (acc ++ l)).cps := by rw [tx_app]; rfl
    rw [e]
    have := glue_fold g hg ls (acc ++ l)
    rw [hg] at this
    rw [this, List.flatten_cons, List.append_assoc]
theorem join_tx (ls : List (List Char)) : Txt.join (Str.ofString "") (ls.map tx) = tx ls.flatten := by
  have hg : (Str.ofString "").cps = #[] := by decide
  cases ls with
  | nil => rfl
  | cons l ls =>
    show Str.mk (((ls.map tx)).foldl (fun acc p => acc ++ (Str.ofString "").cps ++ p.cps) (tx l).cps) = _
    rw [glue_fold _ hg, List.flatten_cons]
theorem int_tx (n : Int) : Str.ofString (toString n) = tx ((if n < 0 then ['-'] else []) ++ dg n.natAbs) := by
  by_cases h : n < 0
  · rw [if_pos h]
    obtain ⟨m, rfl, hm⟩ : ∃ m : Nat, n = -(m : Int) ∧ 0 < m := ⟨n.natAbs, by omega, by omega⟩
    rw [neg_text hm, of_app, nat_tx, Int.natAbs_neg, Int.natAbs_natCast, tx_app]
    rfl
  · rw [if_neg h]
    obtain ⟨m, rfl⟩ : ∃ m : Nat, n = m := ⟨n.natAbs, by omega⟩
    rw [nat_tx]
    rfl
theorem log_lt {n : Int} (h0 : 0 ≤ n) (h : n < 10 ^ 60) : n.natAbs.log2 < 1920 := by
  have : (10 : Nat) ^ 60 < 2 ^ 200 := by decide +kernel
  exact Nat.lt_of_lt_of_le (PySem.Flt.log2_lt_of (k := 200) (by decide) (by omega)) (by decide)
end Tc

/-! An integer is neither True nor False. -/
namespace Tc
open PySem PySem.Spec PyProof.Rows L2
variable {X : Cx}
def rNotIB : R2 := fun x y H Q => ∃ (i : Int) (b : Bool), x = .int i ∧ y = .bl b ∧ Q (.bl true) H
theorem op_notIB : OpR X (compareOp .IsNot) rNotIB := by
  intro pins s σ H x y v u Q I rx ry h
  obtain ⟨i, b, rfl, rfl, q⟩ := h
  obtain ⟨t, rfl⟩ := rx
  cases (show u = Value.bool b from ry)
  exact wpAny_isNot_other rfl (fun z => by cases z) ⟨.bl true, H, I, rfl, q⟩
end Tc

/-! A power whose value has a name. -/
namespace Tc
open PySem PySem.Spec PyProof.Rows L2
section
variable {X : Cx}
def rPowG : R2 := fun x y H Q => ∃ i j : Int, x = .int i ∧ y = .int j ∧ CPowX i j ∧ ∀ z : Int, z = i ^ j.toNat → Q (.int z) H
theorem op_powG : OpR X (binaryOp .Pow) rPowG := fun pins s σ H x y v u Q I rx ry ⟨i, j, e1, e2, c, q⟩ => op_powX pins s σ H x y v u Q I rx ry ⟨i, j, e1, e2, c, q _ rfl⟩
end
end Tc

/-! repr of a truth. -/
namespace Tc
open PySem PySem.Spec PyProof.Rows L2
section
variable {X : Cx}
def truthText (b : Bool) : Str := if b then "True" else "False"
theorem call_repr_bool : CallR X (.builtin "repr") (fun xs H Q => ∃ b, xs = [.bl b] ∧ Q (.str (truthText b)) H) := by
  intro pins s σ H xs us Q I r h
  obtain ⟨b, rfl, q⟩ := h
  cases r with
  | cons h1 t =>
    cases t
    cases (show _ = Value.bool b from h1)
    exact PySem.P.repr_of_bool ⟨.str _, H, I.tok _, ⟨_, rfl⟩, q⟩
theorem truthText_inj {a b : Bool} : truthText a = truthText b ↔ a = b := by
  cases a <;> cases b <;> decide
end
end Tc

/-! A call whose keywords name positional parameters with defaults. -/
namespace Tc
open PySem PySem.Spec PyProof.Rows L2
section
variable {K : PySem.W.Frag} {x qual : Str} {params : Arguments} {body : List Stmt} {scope : Scope} {dvs : List V} {f : Addr} {fd : FuncData} {ps : List Str}
theorem kb1 (F : FunD K x qual params body scope dvs [] f fd) (n : Nat) (ks : List Str) (hd : dvs ≠ [])
    (h : ∀ (T : Addr) (kV doc pm : Value) (an : Option Addr) (cdv ct : Value) (us its ws : List Value), us.length = n → its.length = dvs.length → ws.length = ks.length →
      ∃ k, bindArgs (PySem.W.fnOf x qual params body scope (.ref T) kV doc pm an cdv ct) ⟨us, ks.zip ws⟩ = seqItems? (.ref T) >>= k ∧ k (some its.toArray) = pure (ps.zip (us ++ ws))) :
    KBn K fd ps n ks (fun us ws => us ++ ws) (fun vs zs => vs ++ zs) := by
  obtain ⟨oc, od, dV, kV, doc, pm, an, cdv, ct, osl, rfl, lk, hcd, hD, hK⟩ := F.ex
  rcases hD with ⟨e, _⟩ | ⟨_, T, o, its, m, rfl, lT, oT, rT⟩
  · exact absurd e hd
  · refine ⟨fun s us ws X l1 l2 => ?_, fun r1 r2 => r1.append r2⟩
    obtain ⟨k, e1, e2⟩ := h T kV doc pm an cdv ct us its ws l1 rT.length.symm l2
    refine BindsTo.of_looks fun M => ?_
    rw [e1]
    exact looks_items X lT oT (.of_pure e2)
end
end Tc

set_option maxHeartbeats 2000000
/-! Defs that write lists as texts: promises where no writing of a list is under way. -/
namespace Tc
open PySem PySem.Spec PyProof.Rows L2
section
variable {P : Program} {w : World} {K : PySem.W.Frag} {mg : Str → Option Value} {base : Heap}
/-- a promise where no list is being written -/
structure FnG (P : Program) (w : World) (K : PySem.W.Frag) (mg : Str → Option Value) (base : Heap) (CX : CXT) (k : Nat) (f : Addr) (fd : FuncData) (ps : List Str) (sp : Sp) : Prop where
  lens : ∀ vs H Q E, sp vs H Q E → vs.length = ps.length
  goes : ∀ (B : Around), B.guards = some [] → ∀ (os : List Env) (s : Shared) (H : Hp) (as : Args) (us : List Value) (vs : List V) (Q : VK) (E : XK), Room k B → Env0 P w K mg base B os s H → BindsTo s fd as (ps.zip us) → Vals vs us → sp vs H Q E →
    codeAny (model P w) B (.call (.ref f) as) (CR CX os P w H s Q E) s
theorem okG {x qual : Str} {st : Stmt} {f : Addr} {fd : FuncData} {N ps : List Str} {k : Nat} {sp : Sp} (F : Fun K x qual st f fd) (S : FnScope N ps (defScope st)) (ln : ∀ vs H Q E, sp vs H Q E → vs.length = ps.length)
    (hb0 : ∀ (cdv : Value) (B : Around) (os : List Env) (s : Shared) (H : Hp) (vs : List V) (Q : VK) (E : XK), Room k (B.deeper (envOfC qual (defScope st) s.heap.objs.size f cdv)) → (B.deeper (envOfC qual (defScope st) s.heap.objs.size f cdv)).guards = some [] → sp vs H Q E →
      ∃ t, PSs (cxOf CX0 P w K mg base N qual (defScope st) f cdv B os s H E).nox (defBody st) t ∧ t { nx := fun _ H' => Q .non H', rt := Q } (start N vs) H) : FnG P w K mg base CX0 (k + 1) f fd ps sp := by
  obtain ⟨oc, od, kV, doc, pm, an, cdv, ct, osl, rfl, lk, hcd⟩ := F.ex
  constructor
  · exact ln
  intro B hg os s H as us vs Q E hr e0 hb r hs
  have hl : vs.length = ps.length := ln _ _ _ _ hs
  have bk : ∀ b o, base.get? b = some o → s.heap.get? b = some o := fun b o e => (e0.bs b o e).1
  have KX : K.In s.heap := e0.mod.kin.keeps bk
  have kinds : ∀ y ∈ ps.zip us, (defScope st).names.lookup y.1 = some .local ∨ ((defScope st).names.lookup y.1 = some .cell ∧ ((cellsFrom (s.heap.objs.size + 1) (defScope st).names []).lookup y.1).isSome = true) := by
    rintro ⟨n, v⟩ hy
    have hn := (List.of_mem_zip hy).1
    rcases S.par n hn with q | q
    · left; exact q
    · right; exact ⟨q, PySem.W.cellsFrom_some _ _ _ (.inl q)⟩
  refine codeAny_call_function hr.depth (KX _ _ lk) rfl S.co S.gen rfl (PySem.W.codeRec_of KX hcd) (hb _ _ _ _ (wpAny_newFunctionEnv_cells S.kind kinds fun env he s1 x => ?_))
  cases he
  refine ⟨(e0.mod.nolimit.keeps bk).keeps x.toInCall.keep, codeAny_func ?_⟩
  obtain ⟨t, ht, hq⟩ := hb0 cdv B os s H vs Q E (hr.deeper _) hg hs
  have I0 := inv_start S hr.hd e0 hl r x (CX := CX0) (E := E)
  refine wpAny_mono (ht.nox.run [] s1 (start N vs) H _ I0 hq) ?_ fun _ _ z => z
  intro fl s2 hz
  have done : ∀ {σ2 : L2.St} {H2 : Hp} {v : V} {u : Value}, Inv (cxOf CX0 P w K mg base N qual (defScope st) f cdv B os s H E) [] σ2 H2 s2 → RelV v u → Q v H2 → CE os P w H s Q u s2 := by
    intro σ2 H2 v u J rv q
    exact ⟨v, H2, J.os, J.bare, J.base, J.hok, rv, q⟩
  rcases fl with _ | _ | _ | u
  · obtain ⟨σ2, H2, J, q⟩ := hz
    exact done (v := V.non) (u := Value.none) J rfl q
  · obtain ⟨_, _, _, q⟩ := hz
    exact q.elim
  · obtain ⟨_, _, _, q⟩ := hz
    exact q.elim
  · obtain ⟨v, σ2, H2, J, rv, q⟩ := hz
    exact done J rv q
end
section
variable {X : Cx} {x : Str} {p pos : Pos} {e : Expr} {es : List Expr} {t : TA} {CX : CXT} {k : Nat} {f : Addr} {fd : FuncData} {ps : List Str} {sp : Sp} {ds : List Value} {dvs : List V} {E : XK}
/-- f(e, ..) of a def with such a promise -/
theorem pe_callG (F : FnG X.prog X.w X.K X.mg X.base CX k f fd ps sp) (h0 : X.A.guards = some []) (hr : Room k X.A) (gl : Gl X x) (at_ : X.mg x = some (.ref f)) (kp : PySem.W.keepIn X.K (.ref f) = true) (bi : Binds X.K fd ps ds) (dv : Vals dvs ds) (pa : Passes CX X E)
    (as : PA X (e :: es) t) (nd : (x == ("__debug__" : Str)) = false := by decide) (st : starEach (e :: es) X.env = (false, eval e X.env) :: starEach es X.env := by rfl) (np : (backTo pos (starEach es X.env)).any (·.1) = false := by rfl) :
    PE X (.Call (.Name x p) (e :: es) [] pos) (tCall sp dvs E t) := by
  constructor
  intro pins s σ H Q I h
  refine wpAny_Call_Name_kw (ld_glob I gl at_ ?_ nd)
  refine PySem.W.callWith_K (h₀ := X.base) I.ok.mod.kin kp (thn (as.run pos pins s σ H _ I h) ?_) st np
  rintro us s1 ⟨vs, H1, I1, r, q⟩
  refine ⟨I1.kIn, ?_⟩
  have rr : Vals (vs ++ dvs) (us ++ ds) := r.append dv
  have ll : (us ++ ds).length = ps.length := rr.length.symm.trans (F.lens _ _ _ _ q)
  refine wpAny_call (codeAny_mono (F.goes X.A h0 X.stack s1 H1 ⟨us, []⟩ _ _ Q E hr I1.env0 (bi s1 us I1.kIn ll) rr q) ?_)
  intro res s2 hq
  rcases res with er | fl
  · exact pa pins σ H1 s1 er s2 I1 hq
  · rcases fl with _ | _ | _ | u
    · exact hq.elim
    · exact hq.elim
    · exact hq.elim
    · exact I1.after hq
/-- repr of a display of plain data -/
def rShow (K : PySem.W.Frag) : List V → Hp → VK → Prop := fun xs H Q => ∃ v d, xs = [v] ∧ Dp K H v d ∧ d.showable = true ∧ d.hasDict = false ∧ isDisplay d = true ∧ d.depth ≤ 20 ∧ d.shown.length ≤ sizeLine ∧ Q (.str d.shown) H
theorem call_reprG (h0 : X.A.guards = some []) (hu : X.A.units + 64 < cLine) : CallR X (.builtin "repr") (rShow X.K) := by
  intro pins s σ H xs us Q I r h
  obtain ⟨v, d, rfl, hd, h1, h2, h3, h4, h5, q⟩ := h
  cases r with
  | @cons _ u _ _ rv t =>
    cases t
    obtain ⟨as, rd⟩ := Dp.reads I d v u hd rv
    obtain ⟨a, rfl⟩ := isRef_of_reads rd h3
    refine repr_of_reads' rd h1 (PyData.noDict_hsm h2) h0 (by omega) (fun _ _ e => e) (fun h' u tk hk => ?_) h5
    exact ⟨.str _, H, I.kept hk, ⟨_, rfl⟩, q⟩
end
/-- the law's own call, by such a promise -/
theorem law_goesG {P : Program} {w : World} {K : PySem.W.Frag} {mg mb : Str → Option Value} {k : Nat} {fa a : Addr} {fd : FuncData} {x : Str} {sp : Sp} {s0 : Shared} {us : List Value} {ns : List Int}
    (KX : K.In s0.heap) (hn : s0.heap.Ns mainGlobals mg) (hb : s0.heap.Ns builtinsNs mb) (hm : ∀ y : Str, y ≠ "__name__" → mb y = bootBuiltins y) (nl : s0.heap.NoLimit) (gn : s0.gens = #[])
    (ha : s0.heap.get? a = some { cls := .type "list", data := .seq us.toArray }) (hi : IntsAre us ns) (hl : ns.length ≤ sizeLine) (hr : Room k callerA)
    (F : ∀ b : Heap, K.In b → b.Ns mainGlobals mg → FnG P w K mg b CX0 k fa fd [x] sp) (bi : ∀ (s : Shared) (u : Value), BindsTo s fd ⟨[u], []⟩ [(x, u)])
    (hs : ∀ H : Hp, Only H → SqL K H a (ns.map V.int) → sp [.ref a] H (fun v _ => v = .bl true) fun _ _ _ => False) :
    codeAny (model P w) callerA (.call (.ref fa) ⟨[.ref a], []⟩) (fun r s' => r = .ok (.ret (.bool true)) ∧ OldK s0.heap s'.heap ∧ s'.os = s0.os ∧ AllBare s'.gens) s0 := by
  have rv := vals_ints hi
  have lv := hi.length
  have main : ∀ H : Hp, Only H → SqL K H a (ns.map V.int) → HOk P w H s0.heap → (∀ b, H b ≠ none → b = a) → (H a ≠ none → K.lookup a = none) →
      codeAny (model P w) callerA (.call (.ref fa) ⟨[.ref a], []⟩) (fun r s' => r = .ok (.ret (.bool true)) ∧ OldK s0.heap s'.heap ∧ s'.os = s0.os ∧ AllBare s'.gens) s0 := by
    intro H only sq ok one nk
    have free : ∀ {b : Addr} {o : Obj}, s0.heap.get? b = some o → (b = a → False) → H b = none := by
      intro b o _ ne
      rcases hh : H b with _ | u
      · rfl
      · exact (ne (one b (by rw [hh]; simp))).elim
    have stay : ∀ {b : Addr} {m : Str → Option Value}, s0.heap.Ns b m → (hidT s0.heap H).Ns b m := by
      rintro b m ⟨o, es, ep, e, d, r⟩
      refine ⟨o, es, ep, hidT_get e (free e fun z => ?_), d, r⟩
      subst z
      rw [ha] at e
      cases e
      exact absurd (show Data.seq us.toArray _ = Data.dict es ep from d) (by simp)
    have inK : K.In (hidT s0.heap H) := by
      intro b o e
      refine hidT_get (KX b o e) ?_
      rcases hh : H b with _ | u
      · rfl
      · have z := one b (by rw [hh]; simp)
        subst z
        rw [nk (by rw [hh]; simp)] at e
        cases e
    obtain ⟨mc, l1, l2⟩ := nl
    have md : Mod K mg (hidT s0.heap H) := ⟨inK, stay hn, ⟨mb, stay hb, hm⟩, mc, stay l1, l2⟩
    have en : Env0 P w K mg (hidT s0.heap H) callerA [] s0 H := ⟨rfl, md, fun b o e => of_hidT e, Nat.le_of_eq (hidT_size _ _), trivial, fun b z => (List.not_mem_nil z).elim, ok, .of_eq gn⟩
    refine codeAny_mono ((F _ inK (stay hn)).goes callerA rfl [] s0 H ⟨[.ref a], []⟩ [.ref a] [.ref a] _ _ hr en (bi s0 (.ref a)) (.cons rfl .nil) (hs H only sq)) ?_
    intro res s' h
    rcases res with er | fl
    · exact h.elim
    rcases fl with _ | _ | _ | u
    · exact h.elim
    · exact h.elim
    · exact h.elim
    obtain ⟨v, H', os, bare, un, ok', r', q⟩ := h
    obtain rfl : v = .bl true := q
    obtain rfl : u = Value.bool true := r'
    refine ⟨rfl, OldK.of_keep fun b o e => ?_, os, bare⟩
    rcases hh : H b with _ | u
    · exact un.keep b o e hh (fun z => (List.not_mem_nil z).elim) (by simp)
    · rcases only b with z | ⟨ob, xs, z⟩
      · rw [hh] at z
        cases z
      · obtain ⟨e1, _⟩ := ok b _ z
        obtain ⟨e2, _⟩ := ok' b _ (un.frzs b ob _ z)
        rw [e] at e1
        cases e1
        exact e2
  rcases hk : K.lookup a with _ | o
  · have at' : ∀ b, b ≠ a → (fun b => if b = a then some (HO.frz { cls := .type "list", data := .seq us.toArray } (.lst (ns.map V.int))) else none) b = none := fun b ne => if_neg ne
    refine main (fun b => if b = a then some (.frz { cls := .type "list", data := .seq us.toArray } (.lst (ns.map V.int))) else none) ?_ (.inl (.inr ⟨{ cls := .type "list", data := .seq us.toArray }, if_pos rfl⟩)) ?_ ?_ fun _ => hk
    · intro b
      rcases Classical.em (b = a) with z | z
      · exact .inr ⟨_, _, if_pos z⟩
      · exact .inl (at' b z)
    · intro b u z
      rcases Classical.em (b = a) with y | y
      · subst y
        cases (if_pos rfl).symm.trans z
        exact ⟨ha, by rw [List.length_map]; exact hl, us, _, rv, ha⟩
      · cases (at' b y).symm.trans z
    · intro b z
      exact Classical.byContradiction fun y => z (at' b y)
  · have e := KX a o hk
    rw [ha] at e
    cases e
    refine main (fun _ => none) (fun _ => .inl rfl) (.inr ⟨_, us.toArray, _, hk, rfl, rfl, rfl, by rw [List.size_toArray, lv]; exact hl, by simpa using rv⟩) ?_ (fun b z => (z rfl).elim) fun z => (z rfl).elim
    intro b u z
    cases (show (none : Option HO) = some u from z)
theorem walk_ofG {l : PySem.W.OpenLaw} {n k : Nat} {q : Program} {loose : List Str} {XP : (Str → Option Value) → Heap → Prop} {YP : World → Heap → Prop} {d : DefRec} {K : Params → PySem.W.Frag} {sp : World → Sp} {x : Str}
    (hn : l.most = some n) (n2 : n ≤ sizeLine) (nd : d.params.defaults = []) (hr : Room k callerA) (hY : ∀ (w : World) (h : Heap), YP w h → (K w.params).In h)
    (F : ∀ (w : World) (mg : Str → Option Value) (fa : Addr) (h : Heap), (K w.params).In h → h.Ns mainGlobals mg → mg d.name = some (.ref fa) →
      ∃ fd : FuncData, (∀ (s : Shared) (u : Value), BindsTo s fd ⟨[u], []⟩ [(x, u)]) ∧ ∀ b : Heap, (K w.params).In b → b.Ns mainGlobals mg → FnG l.prog w (K w.params) mg b CX0 k fa fd [x] (sp w))
    (hs : ∀ (w : World) (H : Hp) (a : Addr) (ns : List Int), ns.length ≤ n → Only H → SqL (K w.params) H a (ns.map V.int) → sp w [.ref a] H (fun v _ => v = .bl true) fun _ _ _ => False) :
    PySem.W.WalkO q loose XP YP l.row.toRowW d [] (fun f vs => PySem.call f vs) := by
  refine Att.attach_call hn nd ?_
  intro w s₀ s1 mg mb fa o pm cd doc a us ns G Y ho hd hcd hmg hobj hints hlen hg
  have KX := hY w _ Y
  obtain ⟨fd, hb, hF⟩ := F w mg fa _ KX G.T.g hmg
  exact law_goesG KX G.T.g G.T.b G.T.builtins G.T.nolimit hg hobj hints (Nat.le_trans hlen n2) hr hF hb (fun H hO hS => hs w H a ns hlen hO hS)
end Tc

set_option maxHeartbeats 4000000
/-! bool() of an own object with its __bool__. -/
namespace Tc
open PySem PySem.Spec PySem.Calls PyProof.Rows L2
section
open PySem.W
variable {prog : Program} {w : World} {A : Around} {E : Value → Shared → Prop} {s : Shared} {K : Frag} {x C L f g : Addr} {h₀ : Heap} {m : Str → Option Value} {ox : Obj} {od : Option Obj}
theorem truthy_K {Q : Bool → Shared → Prop} (F : Fr h₀ L s.heap m) (X₀ : K.In h₀) (I : InstAt s.heap x ox C od) (hs : findIn K (.ref C) "__bool__" = some (some (.ref f))) (hf : isFn K (.ref f) = true)
    (h : wpAny (model prog w) A (call (.ref f) [.ref x]) (fun v s' => ∃ b, v = .bool b ∧ Q b s') E s) : wpAny (model prog w) A (truthy (.ref x)) Q E s := by
  unfold truthy
  refine wpAny_bind (m := callSpecial? (.ref x) (Str.ofString "__bool__")) (special_fn (X₀.keeps F.keep) I hs (beq_iff_eq.mp hf) (wpAny_mono h (fun r s' hr => ?_) fun _ _ y => y))
  obtain ⟨b, rfl, hq⟩ := hr
  exact wpAny_pure hq
theorem bool_new_own : MeetsIn prog w (Builtin.«bool.__new__» ⟨[.type "bool", .ref x], []⟩) (fun B R s => wpAny (model prog w) B.in1 (truthy (.ref x)) (fun b s' => R (.ok (.ret (.bool b))) s') (fun e s' => R (.error e) s') s) :=
  MeetsIn.of_wp fun A R s hs => by
    obtain ⟨hp, g, d, tk, os⟩ := s
    have f1 := F.conv_sub_bool
    have tr : ∀ {Q' : Bool → Shared → Prop}, (∀ b s', R (.ok (.ret (.bool b))) s' → Q' b s') → wpAny (model prog w) A.in1 (truthy (.ref x)) Q' (fun e s' => R (.error e) s') { heap := hp, gens := g, drawn := d, toks := tk, os := os } := fun h => wpAny_mono hs (fun b s' z => h b s' z) (fun _ _ z => z)
    unfold Builtin.«bool.__new__»
    repeat (any_goals (first | assumption | with_reducible apply tr | wp_step))
    intro b s' z
    repeat (any_goals (first | assumption | wp_step))
    exact ⟨_, rfl, z⟩
theorem bool_K {Q : Value → Shared → Prop} (FR : Fr h₀ L s.heap m) (X₀ : K.In h₀) (I : InstAt s.heap x ox C od) (hs : findIn K (.ref C) "__bool__" = some (some (.ref f))) (hf : isFn K (.ref f) = true)
    (h : wpAny (model prog w) A.in1.in1 (call (.ref f) [.ref x]) (fun v s' => ∃ b, v = .bool b ∧ Q (.bool b) s') E s) : wpAny (model prog w) A (call (.type "bool") [.ref x]) Q E s := by
  refine callType_newIn F.called_bool F.newNe_bool (F.typeCall_bool_1 (.ref x)) (F.newCall_bool_1 (.ref x)) (fun obj => F.args_object_init_2 obj (.ref x)) F.entry_bool_new bool_new_own ?_
  exact truthy_K FR X₀ I hs hf (wpAny_mono h (fun v s' ⟨b, e, q⟩ => ⟨b, e, rfl, q⟩) fun _ _ z => z)
end
section
variable {X : Cx}
def rBoolO (C : Addr) (sp : Sp) (E : XK) : List V → Hp → VK → Prop := fun xs H Q => ∃ a dx fs, xs = [.ref a] ∧ H a = some (.ins C dx fs) ∧ sp [.ref a] H (fun v H' => ∃ b, v = .bl b ∧ Q (.bl b) H') E
theorem call_boolOwn {CX : CXT} {k : Nat} {f C : Addr} {fd : FuncData} {ps : List Str} {sp : Sp} {E : XK} (c : UnC X.K C f "__bool__") (F : FnOk X.prog X.w X.K X.mg X.base CX k f fd ps sp) (hb : Binds X.K fd ps []) (hx : Passes CX X E) (hr : Room (k + 1) X.A) : CallR X (.type "bool") (rBoolO C sp E) := by
  intro pins s σ H vs us Q I r h
  obtain ⟨a, dx, fs, rfl, ha, q⟩ := h
  rw [Vals.ref1 r]
  obtain ⟨mA, J, _⟩ := ins_get I.hok ha
  obtain ⟨od, J, _⟩ := J.look
  obtain ⟨m, hF⟩ := I.fr
  have hl : ([Value.ref a]).length = ps.length := (F.len _ _ _ _ q).symm ▸ rfl
  refine bool_K hF I.ok.mod.kin J c.slot c.fn ?_
  have hr2 : Room k X.A.in1.in1 := ⟨hr.hd, by have := hr.dp; show X.A.depth + 3 * k + 5 < _; omega, by have := hr.un; show X.A.units + 1 + 1 + 16 * k + 200 < _; omega⟩
  refine wpAny_call (codeAny_mono (F.run X.A.in1.in1 X.stack s H ⟨[.ref a], []⟩ [.ref a] [.ref a] _ E hr2 I.env0.in1.in1 (by simpa using hb s [.ref a] I.kIn hl) (.cons rfl .nil) q) ?_)
  intro res s' hq
  rcases res with e | fl
  · exact hx pins σ H s e s' I hq
  · rcases fl with _ | _ | _ | u
    · exact hq.elim
    · exact hq.elim
    · exact hq.elim
    · obtain ⟨v, H', J, rv, b, rfl, qq⟩ := I.after hq
      exact ⟨b, rv, ⟨.bl b, H', J, rfl, qq⟩⟩
end
end Tc

set_option maxHeartbeats 4000000
/-! != of two tuples whose things are equal one by one, by their own ==. -/
namespace Tc
open PySem PySem.Spec PyProof.Rows L2
open AutoSeq1 (wpAny_loadPart')
open MeetsSeq MeetsSeq2 MeetsSeq3 SeqRoads2
section
variable {prog : Program} {w : World} {A : Around} {R : Result → Shared → Prop}
theorem tup_neG (l b : Addr) (us vs : Array Value) (n n2 : Nat) (dd dd2 : Option Addr) (sl sl2 : Array (Option Value)) (hsz : us.size = vs.size) (I : Nat → Shared → Prop)
    (turn : ∀ i (h1 : i < us.size) (h2 : i < vs.size) s, I i s → wpAny (model prog w) A.in1 (eqBool us[i] vs[i]) (fun r s' => r = true ∧ I (i + 1) s') (fun e s' => R (.error e) s') s)
    (fin : ∀ s, I us.size s → R (.ok (.ret (.bool false))) s) {s : Shared} (hl1 : s.heap.get? l = some { cls := .type "tuple", dict := dd, data := .seq us n, slots := sl }) (hb1 : s.heap.get? b = some { cls := .type "tuple", dict := dd2, data := .seq vs n2, slots := sl2 }) (h : I 0 s) :
    wpAny (model prog w) A.in1 (Builtin.«tuple.__ne__» ⟨[.ref l, .ref b], []⟩) (GQ.FinOf prog w A R) (fun e s' => R (.error e) s') s := by
  have f2 := AutoSeq1.sub_tuple_tuple
  have zl : (us.toList.zip vs.toList).length = us.size := by simp [hsz]
  have h0 := h
  obtain ⟨hp, g, d, tk, os⟩ := s
  wp_walk using wpAny_loadPart' hl1, wpAny_loadPart' hb1, wpAny_forIn_list _ (fun rest b s' => b.1 = none ∧ ∃ i, rest = (us.toList.zip vs.toList).drop i ∧ i ≤ us.size ∧ I i s') _
  case turn =>
    rintro ⟨y, x⟩ rest b s' ⟨hb', i, hz, hi, hI⟩
    have h1 : i < us.size := by
      rcases Nat.lt_or_ge i (us.toList.zip vs.toList).length with z | z
      · omega
      · rw [List.drop_of_length_le z] at hz
        cases hz
    have h2 : i < vs.size := by omega
    rw [List.drop_eq_getElem_cons (by omega)] at hz
    injection hz with hyx hrest
    have hy : y = us[i] := by simpa using congrArg Prod.fst hyx
    have hx : x = vs[i] := by simpa using congrArg Prod.snd hyx
    subst hy hx
    refine wpAny_bind (wpAny_mono (turn i h1 h2 s' hI) (fun r s2 q2 => ?_) fun _ _ x => x)
    obtain ⟨rfl, q2⟩ := q2
    wp_walk
    exact ⟨rfl, i + 1, hrest, h1, q2⟩
  case fin =>
    rintro ⟨b1, b2⟩ s' ⟨hb', i, hz, hi, hI⟩
    simp only at hb'
    subst hb'
    have ei : i = us.size := by
      rcases Nat.lt_or_ge i (us.toList.zip vs.toList).length with z | z
      · rw [List.drop_eq_getElem_cons z] at hz
        cases hz
      · omega
    have hR : R (.ok (.ret (.bool false))) s' := fin s' (ei ▸ hI)
    wp_walk
    simpa [Builtin.Tuple.tupleCompareSizes, hsz] using hR
  case h =>
    exact ⟨rfl, 0, rfl, Nat.zero_le _, h0⟩
end
section
variable {X : Cx} {n : Nat} {D : Eqv}
def rNeG (D : Eqv) : R2 := fun x y H Q => D x y H ∧ ∀ H', Ext H H' → Q (.bl false) H'
theorem op_neG (hD : Mon D) (h : EqG X n D) (hr : Room (n + 1) X.A) : OpR X (compareOp .NotEq) (rNeG (DTup X.K D)) := by
  intro pins s σ H x y v u Q I rx ry hq
  obtain ⟨d, q⟩ := hq
  obtain ⟨a, b, xs, ys, rfl, rfl, ha, hb, p⟩ := d
  cases rx
  cases ry
  obtain ⟨its, r, e, z⟩ := I.tuple ha
  obtain ⟨its2, r2, e2, z2⟩ := I.tuple hb
  have hsz : its.toArray.size = its2.toArray.size := by rw [List.size_toArray, List.size_toArray, ← r.length, ← r2.length]; exact p.1
  have sb : Sub X (n + 1) X.A := ⟨hr, rfl⟩
  show wpAny (model X.prog X.w) X.A (richCompare .NotEq (.ref a) (.ref b)) (EP X pins σ Q) X.xe s
  obtain ⟨⟨cls, dd, data, sl⟩, ho, hc, n1, hd⟩ := id e
  obtain ⟨⟨cls2, dd2, data2, sl2⟩, ho2, hc2, n2, hd2⟩ := id e2
  simp only at hc hd hc2 hd2
  subst hc hd hc2 hd2
  refine wpAny_richCompare_same_room (op := .NotEq) ⟨_, ho, rfl⟩ ⟨_, ho2, rfl⟩ F.slot_tuple_ne (GQ.call_here F.slot_tuple_ne ⟨_, ho, rfl⟩ F.entry_tuple_ne (F.args_tuple_ne_2 _ _) ?_) sb.room.units0
  refine tup_neG (R := wants (fun v s' => v ≠ .notImplemented ∧ EP X pins σ Q v s') X.xe) a b its.toArray its2.toArray n1 n2 dd dd2 sl sl2 hsz (fun _ s' => LoopI X pins σ H s') (fun i h1 h2 s' q => turnG hD h sb p r r2 i h1 h2 s' q) (fun s' q2 => ⟨(fun x => nomatch x), ?_⟩) ho ho2 ⟨H, I, Ext.rfl'⟩
  obtain ⟨H', I', e⟩ := q2
  exact ⟨.bl false, H', I', rfl, q H' e⟩
theorem op_neTO {CX : CXT} {k : Nat} {f C : Addr} {fd : FuncData} {ps : List Str} {sp : Sp} {E : XK} {R : Addr → Addr → Hp → Prop} (c : EqC X.K C f) (F : FnOk X.prog X.w X.K X.mg X.base CX k f fd ps sp)
    (hi : ∀ vs H Q E, spEq R vs H Q E → sp vs H Q E) (hm : ∀ a b H H', Ext H H' → R a b H → R a b H') (hb : Binds X.K fd ps []) (hx : Passes CX X E) (hr : Room (k + 1) X.A) : OpR X (compareOp .NotEq) (rNeG (DTup X.K (DIns C R))) :=
  op_neG (mon_ins hm) (eqG_ins (F.imp hi) c.eq c.fn hb hx) hr
end
end Tc

/-! A comprehension's loop over any walk, its body left open: serves the outer and the inner loop of two. -/
namespace Tc
open PySem PySem.Spec PyProof.Rows L2
theorem lc_any {J : It} {n : Nat} {G : Hp → Prop} {Y : Nat → Hp → V → Hp → Prop} (w : Walk J n G Y) {g : TG} {B : L2.St → Hp → (Hp → Prop) → Prop} {σ : L2.St} {H1 : Hp} {Qd : Hp → Prop} (Pv : Nat → Hp → Prop) (h0 : Pv 0 H1) (hG : ∀ i H, i ≤ n → Pv i H → G H)
    (hs : ∀ i x H H', i < n → Pv i H → Y i H x H' → g x σ H' fun σ2 H2 => B σ2 H2 (Pv (i + 1))) (hd : ∀ H, Pv n H → Qd H) :
    ∃ W : Nat → Nat → Hp → Prop, (∃ m, W 0 m H1) ∧ ∀ i m H, W i m H →
      (J.stop i H ∧ Qd H) ∨ (J.go i H ∧ ∃ Nx : Hp → Prop, (∀ H', Nx H' → ∃ m', m' < m ∧ W (i + 1) m' H') ∧ ∀ x H', J.yld i H x H' → g x σ H' fun σ2 H2 => B σ2 H2 Nx) := by
  refine ⟨fun i m H => m = n - i ∧ i ≤ n ∧ Pv i H, ⟨n, by simp, Nat.zero_le _, h0⟩, ?_⟩
  rintro i m H ⟨rfl, hi, p⟩
  have q := hG i H hi p
  by_cases hlt : i < n
  · refine .inr ⟨w.goes i H hlt q, Pv (i + 1), fun H' p' => ⟨n - (i + 1), by omega, rfl, hlt, p'⟩, fun x H' y => hs i x H H' hlt p (w.yields i H x H' hlt q y)⟩
  · have e : i = n := by omega
    subst e
    exact .inl ⟨w.stops H q, hd H p⟩
end Tc

set_option maxHeartbeats 4000000
/-! An int != one of a class with an own __eq__: the int declines, the class answers. -/
namespace Tc
open PySem PySem.Spec PySem.Calls PyProof.Rows L2
section
open PySem.W
theorem not_int_ne (i : Int) (t : Tok) (x : Addr) : GivesAt (PlainAt x) (Builtin.«int.__ne__» ⟨[.int i t, .ref x], []⟩) (.val (Value.notImplemented)) := by
  intro prog w A R s hP h
  obtain ⟨C, dx, e⟩ := hP
  obtain ⟨hp, g, d, tk, os⟩ := s
  wp_walk
  exact h
variable {prog : Program} {w : World} {A : Around} {E : Value → Shared → Prop} {s : Shared} {K : Frag} {x C L f g : Addr} {h₀ : Heap} {m : Str → Option Value} {ox : Obj} {od : Option Obj}
theorem nerev_K {i : Int} {t : Tok} {Q : Value → Shared → Prop} (hu : A.units + 1 < cLine) (F : Fr h₀ L s.heap m) (X₀ : K.In h₀) (I : InstAt s.heap x ox C od) (hP : PlainAt x s) (hsub : subIn K (.ref C) (.type "int") = some false)
    (hne : findIn K (.ref C) "__ne__" = some (some (.builtin "object.__ne__"))) (hob : mroIn K C (.type "object") = some true) (hs : findIn K (.ref C) "__eq__" = some (some (.ref f))) (hf : isFn K (.ref f) = true)
    (h : wpAny (model prog w) A.in1 (call (.ref f) [.ref x, .int i t]) (fun v s' => ∃ r, v = .bool r ∧ Q (.bool (!r)) s') E s) : wpAny (model prog w) A (richCompare .NotEq (.int i t) (.ref x)) Q E s := by
  have X := X₀.keeps F.keep
  have one : wpAny (model prog w) A (tryCompare (.ref x) "__ne__" (.int i t)) (fun r s' => ∃ v, r = some v ∧ Q v s') E s := by
    unfold tryCompare
    refine wpAny_bind (ifNe_K hu X I hne hob hs hf (wpAny_mono h (fun v s' hv => ?_) fun _ _ e => e))
    obtain ⟨r, rfl, hq⟩ := hv
    exact ⟨r, rfl, wpAny_pure ⟨_, rfl, hq⟩⟩
  have L1 : Looks (model prog w) s.heap (typeOf (.int i t)) (.type "int") := Looks.of_pure rfl
  have L5 : Looks (model prog w) s.heap (isSubtype (.ref C) (.type "int")) false := looks_subIn X hsub
  have hnt : (Value.type "int" != Value.ref C) = true := by
    show (!(Value.type "int" == Value.ref C)) = true
    rw [Bool.eq_false_iff.mpr (fun q => by cases beq_iff_eq.mp q : ¬ (Value.type "int" == Value.ref C) = true)]
    rfl
  have dec : ∀ {Q' : Option Value → Shared → Prop}, Q' none s → wpAny (model prog w) A (tryCompare (.int i t) "__ne__" (.ref x)) Q' E s := fun q =>
    wpAny_tryCompare_declines (typeIs_int _ _ _) PySem.F.slot_int_ne (call_givesAt PySem.F.slot_int_ne (typeIs_int _ _ _) PySem.F.entry_int_ne (PySem.F.args_int_ne_2 _ _) (not_int_ne i t x) hP ⟨rfl, q⟩)
  unfold richCompare
  simp only [(typeIs_int s i t).oneThing_none]
  refine wpAny_holding (wpAny_bind (wpAny_cRoomFor (Nat.lt_of_succ_lt hu) ?_))
  rw [cmpInfo_NotEq]
  dsimp only
  refine wpAny_bind (L1.here (wpAny_bind (I.type.here ?_)))
  simp only [hnt, if_true]
  refine wpAny_bind (L5.here ?_)
  simp only [Bool.false_eq_true, if_false, Bool.not_false, if_true]
  refine wpAny_bind (dec ?_)
  refine wpAny_bind (wpAny_mono one (fun r s' z => ?_) fun _ _ e => e)
  obtain ⟨v, rfl, hq⟩ := z
  exact wpAny_pure hq
end
section
variable {X : Cx}
/-- i != y, y of the class: what the own __eq__ promises of both -/
def rNeRev (C : Addr) (sp : Sp) (E : XK) : R2 := fun x y H Q => ∃ (i : Int) (b dy : Addr) (gs : List (Str × V)), x = .int i ∧ y = .ref b ∧ H b = some (.ins C dy gs) ∧ sp [y, x] H (fun z H' => ∃ r, z = .bl r ∧ Q (.bl (!r)) H') E
theorem op_neRev {CX : CXT} {k : Nat} {f C : Addr} {fd : FuncData} {ps : List Str} {sp : Sp} {E : XK} (hsub : PySem.W.subIn X.K (.ref C) (.type "int") = some false) (c : EqC X.K C f) (F : FnOk X.prog X.w X.K X.mg X.base CX k f fd ps sp) (hb : Binds X.K fd ps []) (hx : Passes CX X E) (hr : Room (k + 1) X.A) : OpR X (compareOp .NotEq) (rNeRev C sp E) := by
  intro pins s σ H x y v u Q I rx ry h
  obtain ⟨i, b, dy, gs, rfl, rfl, hb', q⟩ := h
  obtain ⟨t, rfl⟩ := rx
  cases ry
  obtain ⟨mA, J0, _⟩ := ins_get I.hok hb'
  obtain ⟨od, J, _⟩ := J0.look
  obtain ⟨m, hF⟩ := I.fr
  have hl : ([Value.ref b, Value.int i t]).length = ps.length := by
    rw [← F.len _ _ _ _ q]
    rfl
  show wpAny (model X.prog X.w) X.A (richCompare .NotEq (.int i t) (.ref b)) (EP X pins σ Q) X.xe s
  refine nerev_K (by have := hr.units; omega) hF I.ok.mod.kin J ⟨C, dy, J0.obj⟩ hsub c.ne c.ob c.eq c.fn ?_
  refine wpAny_call (codeAny_mono (F.run X.A.in1 X.stack s H ⟨[.ref b, .int i t], []⟩ [.ref b, .int i t] [.ref b, .int i] _ E hr.in1 I.env0.in1 (by simpa using hb s [.ref b, .int i t] I.kIn hl) (.cons rfl (.cons ⟨_, rfl⟩ .nil)) q) fun r' s' hq => ?_)
  cases r' with
  | error e => exact hx pins σ H s e s' I hq
  | ok fl =>
    cases fl with
    | ret w' =>
      obtain ⟨z, H', I', rz, b', ez, q'⟩ := I.after hq
      subst ez
      cases rz
      exact ⟨b', rfl, .bl (!b'), H', I', rfl, q'⟩
    | next => exact False.elim hq
    | brk => exact False.elim hq
    | cont => exact False.elim hq
end
end Tc

/-! What stands within a comprehension names the fragment, not the block's own. -/
namespace Tc
open PySem PySem.Spec PyProof.Rows L2
def rTupK (K : PySem.W.Frag) : List V → Hp → VK → Prop := fun xs H Q => ∃ p ys, xs = [.ref p] ∧ ((SqL K H p ys ∧ ∀ l, H l = none → Q (.ref l) (upd H l (.tup ys))) ∨ (SqT K H p ys ∧ Q (.ref p) H))
end Tc

set_option maxHeartbeats 2000000
/-! Texts: read from the end, repeated. -/
namespace Tc
open PySem PySem.Spec PyProof.Rows L2
section
variable {X : Cx}
def revS (z : Str) : Str := ⟨z.cps.toList.reverse.toArray⟩
def repS (z : Str) (k : Nat) : Str := ⟨(List.replicate k z.cps.toList).flatten.toArray⟩
def tRevS (te : TE) : TE := fun σ H Q => te σ H fun x H1 => ∃ z, x = .str z ∧ z.length ≤ sizeLine ∧ Q (.str (revS z)) H1
theorem rev_cps (z : Str) : ((Builtin.Str.strSliceIndices none none (-1) z.length).filterMap (z.cps[·]?)).toArray = (revS z).cps := by
  rw [picked_rev, filterMap_get]
  · rw [List.map_map]
    unfold revS
    congr 1
    apply List.ext_getElem
    · simp [Str.length]
    · intro i h1 h2
      have hi : i < z.cps.size := by simpa [Str.length] using h1
      simp only [List.getElem_map, List.getElem_range, Function.comp, List.getElem_reverse, Array.getElem_toList, Array.length_toList]
      have : z.length - 1 - i < z.cps.size := by show z.cps.size - 1 - i < z.cps.size; omega
      show z.cps.getD (z.length - 1 - i) 0 = z.cps[z.cps.size - 1 - i]
      have e1 : z.length = z.cps.size := rfl
      simp only [e1]
      rw [Array.getD, dif_pos (by omega)]
      rfl
  · intro i hi
    obtain ⟨k, hk, rfl⟩ := List.mem_map.mp hi
    have hk' : k < z.length := List.mem_range.mp hk
    show z.length - 1 - k < z.cps.size
    show z.length - 1 - k < z.length
    omega
theorem pe_revS {e : Expr} {te : TE} {k : Nat} {p1 p2 p3 pos : Pos} (he : PE X e te) : PE X (.Subscript e (.Slice none none (some (.UnaryOp .USub (.Constant (.int 1) k p1) p2)) p3) pos) (tRevS te) := by
  refine ⟨fun pins s σ H Q I h => ?_⟩
  refine Subscript_ (thn (he.run pins s σ H _ I h) fun v s1 ⟨x, H1, I1, r1, q1⟩ => ?_)
  obtain ⟨z, ex, hz, q⟩ := q1
  subst ex
  obtain ⟨t, rfl⟩ := r1
  have hst : PO X (some (.UnaryOp .USub (.Constant (.int 1) k p1) p2)) (tPart (tUn (rU fun i => .int (-i)) (tC (.int 1)))) := po_some (pe_un un_neg pe_int)
  refine wpAny_Slice (thn (po_none.run pins s1 σ H1 (fun o H2 => o = none ∧ H2 = H1) I1 ⟨rfl, rfl⟩) fun vl s2 ⟨l, H2, I2, pl, el, e2⟩ => ?_)
  subst el e2
  refine thn (po_none.run pins s2 σ H2 (fun o H3 => o = none ∧ H3 = H2) I2 ⟨rfl, rfl⟩) fun vu s3 ⟨u, H3, I3, pu, eu, e3⟩ => ?_
  subst eu e3
  refine thn (hst.run pins s3 σ H3 (fun o H4 => o = some (-1) ∧ H4 = H3) I3 ⟨1, rfl, -1, rfl, rfl, rfl⟩) fun vs s4 ⟨o, H4, I4, ps, eo, e4⟩ => ?_
  subst eo e4
  have I5 : Inv X pins σ H4 { s4 with heap := s4.heap.push { cls := .type "slice", data := .fields #[vl, vu, vs] } } := I4.kept (t' := s4.toks) fun b ob q => Heap.get?_push_of_some _ q
  show wpAny (model X.prog X.w) X.A (subscriptTail e (.Slice none none (some (.UnaryOp .USub (.Constant (.int 1) k p1) p2)) p3) (.str z t) (.ref s4.heap.objs.size)) (EP X pins σ Q) X.xe { s4 with heap := s4.heap.push { cls := .type "slice", data := .fields #[vl, vu, vs] } }
  have pl' : IsPart vl none := pl
  have pu' : IsPart vu none := pu
  have ps' : IsPart vs (some (-1)) := ps
  obtain ⟨l, hl1, hl2⟩ := IsPart.raw pl'
  obtain ⟨u, hu1, hu2⟩ := IsPart.raw pu'
  obtain ⟨st, hs1, hs2⟩ := IsPart.raw ps'
  subst hl1 hu1 hs1
  refine tail_any (ops := [.ref s4.heap.objs.size, .str z t]) (typeIs_str _ _ _) F.slot_str_getitem.lookup ?_ (by with_unfolding_all rfl)
  refine wpAny_getItem_str_slice (l := l) (u := u) (st := st) (Heap.IsSliceOf.new s4.heap (partValue l) (partValue u) (partValue st)) (by rw [hs2]; rfl) ?_
  have e1 : (sliceMade z t l u st) = Made.str (revS z) := by
    unfold sliceMade slicePicked
    rw [hl2, hu2, hs2]
    rw [if_neg (by
      have : ((some (-1 : Int)).getD 1 == 1) = false := rfl
      rw [this]; simp)]
    exact congrArg Made.str (congrArg Str.mk (rev_cps z))
  rw [e1]
  refine ⟨?_, .str _, H4, I5.tok _, ⟨_, rfl⟩, q⟩
  show (revS z).length ≤ sizeLine
  have : (revS z).length = z.length := by unfold revS Str.length; simp
  omega
theorem op_rep_str : OpR X (binaryOp .Mult) (fun x y H Q => ∃ z k, x = .str z ∧ y = .int k ∧ 2 ≤ k ∧ k ≤ 1000 ∧ z.length ≤ 1000 ∧ Q (.str (repS z k.toNat)) H) := by
  intro pins s σ H x y v u Q I rx ry h
  obtain ⟨z, k, rfl, rfl, h2, h9, hz, q⟩ := h
  obtain ⟨t, rfl⟩ := rx
  obtain ⟨tk, rfl⟩ := ry
  have hl : z.length * k.toNat ≤ 1000000 := Nat.mul_le_mul hz (show k.toNat ≤ 1000 by omega)
  have sl : 1000000 ≤ sizeLine := by decide
  refine P.mul_str ?_ ?_ ?_ ?_
  · rw [decide_eq_false (by omega), decide_eq_false (by omega)]; rfl
  · intro _ _
    have : (1000 : Int) ≤ (2 ^ 63 - 1) / k := Int.le_ediv_of_mul_le (by omega) (by omega)
    omega
  · intro _ _
    show PySem.Builtin.Str.tooLong (z.length * k.toNat) = false
    unfold PySem.Builtin.Str.tooLong
    exact decide_eq_false (by omega)
  · rw [if_neg (by omega)]
    by_cases c : (k == 1 || z.length == 0) = true
    · rw [if_pos c]
      have z0 : z.length = 0 := by
        have : (k == 1) = false := by simp; omega
        rw [this] at c
        simpa using c
      have e : repS z k.toNat = z := by
        obtain ⟨cs⟩ := z
        have : cs.toList = [] := by
          have : cs.size = 0 := z0
          exact List.length_eq_zero_iff.mp (by simpa using this)
        unfold repS
        rw [this]
        have e2 : (List.replicate k.toNat ([] : List Nat)).flatten = [] := by simp
        rw [e2]
        congr 1
        exact Array.toList_inj.mp this.symm
      rw [e] at q
      exact ⟨.str z, H, I, ⟨t, rfl⟩, q⟩
    · rw [if_neg c]
      have e : (⟨(List.replicate k.toNat z.cps).foldl (· ++ ·) #[]⟩ : Str) = repS z k.toNat := by
        unfold repS
        congr 1
        have : ∀ (n : Nat) (a : Array Nat), ((List.replicate n z.cps).foldl (· ++ ·) a) = (a.toList ++ (List.replicate n z.cps.toList).flatten).toArray := by
          intro n
          induction n with
          | zero => intro a; simp
          | succ n ih => intro a; rw [List.replicate_succ, List.foldl_cons, ih, List.replicate_succ, List.flatten_cons]; simp
        rw [this]
        simp
      rw [e]
      refine ⟨?_, .str _, H, I.tok _, ⟨_, rfl⟩, q⟩
      have : (repS z k.toNat).length = k.toNat * z.length := by unfold repS Str.length; simp
      show (repS z k.toNat).length ≤ sizeLine
      rw [this, Nat.mul_comm]
      omega
end
end Tc

set_option maxHeartbeats 2000000
/-! The whole part of a square root. -/
namespace Tc
open PySem PySem.Spec PyProof.Rows L2
section
variable {X : Cx}
def rIsq : List V → Hp → VK → Prop := fun vs H Q => ∃ a : Int, vs = [.int a] ∧ 0 ≤ a ∧ a.natAbs < 2 ^ 4000 ∧ Q (.int ((Float64.isqrt a.toNat : Nat) : Int)) H
theorem vals_int1 {i : Int} {us : List Value} (r : Vals [V.int i] us) : ∃ t, us = [Value.int i t] := by
  cases r with
  | cons r t =>
    cases t
    obtain ⟨t, rfl⟩ := r
    exact ⟨t, rfl⟩
theorem log_le {n k : Nat} (h : n < 2 ^ (k + 1)) : n.log2 ≤ k := by
  by_cases h0 : n = 0
  · subst h0
    rw [Nat.log2_zero]
    exact Nat.zero_le _
  · exact Nat.le_of_lt_succ ((Nat.log2_lt h0).mpr h)
theorem cr_isq : CallR X (.builtin "math.isqrt") rIsq := by
  intro pins s σ H vs us Q I r h
  obtain ⟨a, rfl, h0, h1, q⟩ := h
  obtain ⟨t, rfl⟩ := vals_int1 r
  have hl : a.toNat.log2 ≤ 3999 := log_le (show a.toNat < 2 ^ (3999 + 1) from Nat.lt_of_le_of_lt (show a.toNat ≤ a.natAbs by omega) h1)
  refine call_function_meets PySem.W.MGF.kind_isqrt PySem.W.MGF.plain_isqrt PySem.W.MGF.entry_isqrt (PySem.W.MGF.args_isqrt _) (PySem.W.mg_run_isqrt a t (by omega) (by omega) (by omega)).meets ?_
  exact ⟨.int _, H, I.tok _, ⟨_, rfl⟩, q⟩
theorem rbh_le : ∀ k n : Nat, Float64.rootByHalves k n ≤ n
  | 0, n => by
    unfold Float64.rootByHalves Float64.rootBelow8
    split
    · omega
    · rename_i h
      have : n ≠ 0 := fun z => h (by rw [z]; rfl)
      split <;> omega
  | k + 1, n => by
    unfold Float64.rootByHalves
    split
    · unfold Float64.rootBelow8
      split
      · omega
      · rename_i h
        have : n ≠ 0 := fun z => h (by rw [z]; rfl)
        split <;> omega
    · rename_i h8
      dsimp only
      have n0 : n ≠ 0 := by omega
      have l3 : 3 ≤ n.log2 := (Nat.le_log2 n0).mpr (show 2 ^ 3 ≤ n by omega)
      have hn : 2 ^ n.log2 ≤ n := Nat.log2_self_le n0
      generalize hL : n.log2 = L at *
      generalize hK : (L + 1) / 4 = K
      have k1 : 1 ≤ K := by omega
      have e1 : 2 * 2 ^ K ≤ n := by
        have : 2 ^ (K + 1) ≤ 2 ^ L := Nat.pow_le_pow_right (by decide) (by omega)
        rw [Nat.pow_succ] at this
        omega
      have ih := rbh_le k (n / 4 ^ K)
      generalize hr : Float64.rootByHalves k (n / 4 ^ K) = r at *
      have e2 : (r + 1) * 2 ^ K ≤ n := by
        have p2 : 2 ≤ 2 ^ K := Nat.pow_le_pow_right (show 0 < 2 by decide) k1
        have e4 : (4 : Nat) ^ K = 2 ^ K * 2 ^ K := by rw [← Nat.mul_pow]
        rw [e4, ← Nat.div_div_eq_div_mul] at ih
        generalize 2 ^ K = P at *
        have q1 : n / P / P * P ≤ n / P := Nat.div_mul_le_self _ _
        have q2 : r * P ≤ n / P / P * P := Nat.mul_le_mul_right _ ih
        have q3 : n / P ≤ n / 2 := Nat.div_le_div_left p2 (by decide)
        rw [Nat.add_mul]
        omega
      generalize (r + 1) * 2 ^ K = x at *
      have e3 : n / x ≤ n := Nat.div_le_self _ _
      split <;> omega
theorem isq_le (n : Nat) : Float64.isqrt n ≤ n := rbh_le _ n
end
end Tc

set_option maxHeartbeats 2000000
/-! t[::c] of a tuple, c above 1. -/
namespace HT
open PySem PyProof.Rows
section
variable {prog : Program} {w : World} {A : Around} {E : Value → Shared → Prop} {s : Shared}
theorem sliceApplied_step {sl : Addr} {vk : Value} {c : Int} {n : Nat} {Q : Int × Int × Nat → Shared → Prop} (hs : s.heap.IsSliceOf sl .none .none vk) (pk : IsPart vk (some c)) (hc : 1 < c)
    (h : Q (0, c, Builtin.Slice.slicePlaces 0 (n : Int) c) s) : wpAny (model prog w) A (Builtin.Slice.sliceApplied (.ref sl) (pure (n : Int))) Q E s := by
  obtain ⟨os, hos, hcs, hds⟩ := id hs
  unfold Builtin.Slice.sliceApplied Builtin.Slice.sliceFields
  refine wpAny_bind (wpAny_bind (wpAny_field hos hds (x := .none) rfl (wpAny_bind (wpAny_field hos hds (x := .none) rfl (wpAny_bind (wpAny_field hos hds (x := vk) rfl (wpAny_pure ?_)))))))
  refine wpAny_bind (slicePart_ pk ?_)
  show wpAny _ _ (if (c == 0) = true then _ else _) _ _ s
  rw [if_neg (by rw [beq_iff_eq]; omega)]
  refine wpAny_bind (slicePart_none (wpAny_bind (slicePart_none (wpAny_bind (wpAny_pure ?_)))))
  show wpAny _ _ (match Builtin.Slice.sliceAdjust none none c (n : Int) with | (lo, hi) => pure (lo, c, Builtin.Slice.slicePlaces lo hi c)) _ _ s
  have e : Builtin.Slice.sliceAdjust none none c (n : Int) = (0, (n : Int)) := by
    unfold Builtin.Slice.sliceAdjust
    have h1 : ¬ c < 0 := by omega
    simp only [h1, if_false]
  rw [e]
  exact wpAny_pure h
def picks {α : Type} (xs : List α) (c : Int) : List α := (List.range (Builtin.Slice.slicePlaces 0 (xs.length : Int) c)).filterMap fun (m : Nat) => xs[((0 : Int) + (m : Int) * c).toNat]?
theorem picks_len {α : Type} (xs : List α) {c : Int} (hc : 1 < c) : (picks xs c).length ≤ xs.length := by
  unfold picks
  refine Nat.le_trans (List.length_filterMap_le _ _) ?_
  rw [List.length_range]
  unfold Builtin.Slice.slicePlaces
  rw [if_pos (by omega)]
  split
  · have h0 : 0 ≤ ((xs.length : Int) - 0 - 1) := by omega
    have := Int.ediv_le_self c h0
    omega
  · simp
theorem getItem_tuple_step {t sl : Addr} {items : Array Value} {vk : Value} {c : Int} {Q : Value → Shared → Prop} (ht : IsTup s.heap t items) (hs : s.heap.IsSliceOf sl .none .none vk) (pk : IsPart vk (some c)) (hc : 1 < c)
    (h : Q (.ref s.heap.objs.size) { s with heap := s.heap.push { cls := .type "tuple", data := .seq (picks items.toList c).toArray } })
    (hsz : items.size ≤ sizeLine) : wpAny (model prog w) A (getItem (.ref t) (.ref sl)) Q E s := by
  have htake : sizeOk (.seq (picks items.toList c).toArray) := by
    have := picks_len items.toList hc
    rw [Array.length_toList] at this
    exact Nat.le_trans this hsz
  obtain ⟨os, hos, hcs, hds⟩ := id hs
  have hTs : s.TypeIs (.ref sl) "slice" := ⟨os, hos, hcs⟩
  unfold getItem
  try with_reducible refine wpAny_holding ?_
  first | refine wpAny_bind (wpAny_pure ?_) | skip
  refine wpAny_bind (wpAny_sequenceKey ht.typeIs (by decide) ?_)
  refine wpAny_bind (wpAny_callSpecial?_slot (name := Str.ofString "__getitem__") ht.typeIs PyProof.Rows.slot_tuple_getitem
    (wpAny_call_entry PyProof.Rows.slot_tuple_getitem ht.typeIs entry_tuple_getitem ?_ (args_tuple_getitem _ _)))
  show wpAny _ _ (Builtin.Tuple.tupleItemsOf (.ref t) >>= _) _ _ s
  refine wpAny_bind (tupleItemsOf_ ht ?_)
  refine wpAny_bind (wpAny_typeOf hTs ?_)
  rw [if_pos (by decide)]
  refine wpAny_bind (sliceApplied_step hs pk hc ?_)
  have hno : ¬ (((0 : Int) == 0 && c == 1 && (Builtin.Slice.slicePlaces 0 (items.size : Int) c) == items.size) = true) := by
    intro q
    rw [Bool.and_eq_true, Bool.and_eq_true] at q
    have q1 : c = 1 := eq_of_beq q.1.2
    omega
  show wpAny _ _ (if ((0 : Int) == 0 && c == 1 && (Builtin.Slice.slicePlaces 0 (items.size : Int) c) == items.size) = true then _ else _) _ _ s
  rw [if_neg hno]
  have e : ((List.range (Builtin.Slice.slicePlaces 0 (items.size : Int) c)).filterMap fun (m : Nat) => items[((0 : Int) + (m : Int) * c).toNat]?).toArray = (picks items.toList c).toArray := by
    unfold picks
    simp only [Array.length_toList, Array.getElem?_toList]
  rw [e]
  first
    | exact wpAny_bind (m := Builtin.Tuple.tupleExact _) (wpAny_newObj_type (wpAny_pure ⟨_, rfl, wpAny_pure h⟩) htake)
    | exact wpAny_bind (m := Builtin.Tuple.tupleExact _) (wpAny_newObj_type (wpAny_bind (wpAny_pure (wpAny_pure ⟨_, rfl, wpAny_pure h⟩))) htake)
    | exact wpAny_bind (wpAny_bind (m := Builtin.Tuple.tupleExact _) (wpAny_newObj_type (wpAny_pure (wpAny_pure ⟨_, rfl, wpAny_pure h⟩)) htake))
    | exact wpAny_bind (wpAny_bind (m := Builtin.Tuple.tupleExact _) (wpAny_newObj_type (wpAny_pure ⟨_, rfl, wpAny_pure h⟩) htake))
end
end HT
namespace Tc
open PySem PySem.Spec PyProof.Rows L2
theorem vals_at {xs : List V} {us : List Value} (r : Vals xs us) : ∀ i : Nat, (xs[i]? = none ∧ us[i]? = none) ∨ ∃ v u, xs[i]? = some v ∧ us[i]? = some u ∧ RelV v u := by
  induction r with
  | nil => intro i; exact .inl ⟨by simp, by simp⟩
  | cons h t ih =>
    intro i
    cases i with
    | zero => exact .inr ⟨_, _, by simp, by simp, h⟩
    | succ i => simpa using ih i
theorem vals_pick {xs : List V} {us : List Value} (r : Vals xs us) (f : Nat → Nat) : ∀ is : List Nat, Vals (is.filterMap fun m => xs[f m]?) (is.filterMap fun m => us[f m]?)
  | [] => .nil
  | i :: is => by
    rcases vals_at r (f i) with ⟨h1, h2⟩ | ⟨v, u, h1, h2, h3⟩
    · rw [List.filterMap_cons, List.filterMap_cons, h1, h2]
      exact vals_pick r f is
    · rw [List.filterMap_cons, List.filterMap_cons, h1, h2]
      exact .cons h3 (vals_pick r f is)
section
variable {X : Cx}
def tStpT (K : PySem.W.Frag) (c : Int) (te : TE) : TE := fun σ H Q => te σ H fun x H1 => ∃ a xs, x = .ref a ∧ SqT K H1 a xs ∧ ∀ p, H1 p = none → Q (.ref p) (upd H1 p (.tup (HT.picks xs c)))
theorem pe_stpT {e : Expr} {te : TE} {k : Nat} {c : Int} {p1 p3 pos : Pos} (hc : 1 < c) (he : PE X e te) : PE X (.Subscript e (.Slice none none (some (.Constant (.int c) k p1)) p3) pos) (tStpT X.K c te) := by
  refine ⟨fun pins s σ H Q I h => ?_⟩
  refine Subscript_ (thn (he.run pins s σ H _ I h) fun v s1 ⟨x, H1, I1, r1, q1⟩ => ?_)
  obtain ⟨a, xs, ex, hx, q⟩ := q1
  subst ex
  cases r1
  have hst : PO X (some (.Constant (.int c) k p1)) (tPart (tC (.int c))) := po_some pe_int
  refine wpAny_Slice (thn (po_none.run pins s1 σ H1 (fun o H2 => o = none ∧ H2 = H1) I1 ⟨rfl, rfl⟩) fun vl s2 ⟨l, H2, I2, pl, el, e2⟩ => ?_)
  subst el e2
  refine thn (po_none.run pins s2 σ H2 (fun o H3 => o = none ∧ H3 = H2) I2 ⟨rfl, rfl⟩) fun vu s3 ⟨u, H3, I3, pu, eu, e3⟩ => ?_
  subst eu e3
  refine thn (hst.run pins s3 σ H3 (fun o H4 => o = some c ∧ H4 = H3) I3 ⟨c, rfl, rfl, rfl⟩) fun vs s4 ⟨o, H4, I4, ps, eo, e4⟩ => ?_
  subst eo e4
  have I5 : Inv X pins σ H4 { s4 with heap := s4.heap.push { cls := .type "slice", data := .fields #[vl, vu, vs] } } := I4.kept (t' := s4.toks) fun b ob q => Heap.get?_push_of_some _ q
  show wpAny (model X.prog X.w) X.A (subscriptTail e (.Slice none none (some (.Constant (.int c) k p1)) p3) (.ref a) (.ref s4.heap.objs.size)) (EP X pins σ Q) X.xe { s4 with heap := s4.heap.push { cls := .type "slice", data := .fields #[vl, vu, vs] } }
  have pl' : IsPart vl none := pl
  have pu' : IsPart vu none := pu
  have ps' : IsPart vs (some c) := ps
  cases pl'
  cases pu'
  obtain ⟨its, r, ht, hz⟩ := I5.tuple hx
  refine tail_any (ops := [.ref a, .ref s4.heap.objs.size]) ht.typeIs PyProof.Rows.slot_tuple_getitem.lookup ?_ (by with_unfolding_all rfl)
  refine HT.getItem_tuple_step ht (Heap.IsSliceOf.new s4.heap _ _ _) ps' hc ?_ (by rw [List.size_toArray, ← r.length]; exact hz)
  have lp := HT.picks_len xs hc
  refine ⟨.ref _, _, I5.laid (t' := s4.toks) (o := .tup (HT.picks xs c)) (fun b ob q => Heap.get?_push_of_some _ q) (Nat.le_refl _) ?_, rfl, q _ (I5.hok.fresh (Nat.le_refl _))⟩
  refine ⟨by omega, _, ?_, IsTup.new _ _⟩
  show Vals (HT.picks xs c) (HT.picks its c)
  unfold HT.picks
  rw [r.length]
  exact vals_pick r _ _
end
end Tc

set_option maxHeartbeats 2000000
namespace Tk
open PySem PySem.Spec PyProof.Rows L2 Tc
def top (i : Nat) : Stmt := PySem.Challenge.pw_toothchain_k47_whole_corner_polynomials.main.body.getD i (.Pass ⟨0, 0, 0, 0⟩)
abbrev s_Long___init__ : Stmt := inClass (top 11) 0
abbrev n_Long___init__ : List Str := ["self", "number"]
theorem sc_Long___init__ : FnScope n_Long___init__ ["self", "number"] (defScope s_Long___init__) := ⟨rfl, rfl, rfl, by decide +kernel, rfl, by decide +kernel, by decide +kernel⟩
abbrev s_is_short_integer : Stmt := top 12
abbrev n_is_short_integer : List Str := ["value"]
theorem sc_is_short_integer : FnScope n_is_short_integer ["value"] (defScope s_is_short_integer) := ⟨rfl, rfl, rfl, by decide +kernel, rfl, by decide +kernel, by decide +kernel⟩
abbrev s_checked_integer : Stmt := top 14
abbrev n_checked_integer : List Str := ["value"]
theorem sc_checked_integer : FnScope n_checked_integer ["value"] (defScope s_checked_integer) := ⟨rfl, rfl, rfl, by decide +kernel, rfl, by decide +kernel, by decide +kernel⟩
abbrev s_checked_from : Stmt := top 15
abbrev n_checked_from : List Str := ["least", "value", "number"]
theorem sc_checked_from : FnScope n_checked_from ["least", "value"] (defScope s_checked_from) := ⟨rfl, rfl, rfl, by decide +kernel, rfl, by decide +kernel, by decide +kernel⟩
abbrev s_integer_text : Stmt := top 16
abbrev n_integer_text : List Str := ["number", "rest", "pieces", "piece"]
theorem sc_integer_text : FnScope n_integer_text ["number"] (defScope s_integer_text) := ⟨rfl, rfl, rfl, by decide +kernel, rfl, by decide +kernel, by decide +kernel⟩
abbrev s_check_coprime : Stmt := top 18
abbrev n_check_coprime : List Str := ["a", "b", "c"]
theorem sc_check_coprime : FnScope n_check_coprime ["a", "b", "c"] (defScope s_check_coprime) := ⟨rfl, rfl, rfl, by decide +kernel, rfl, by decide +kernel, by decide +kernel⟩
abbrev s_Terms___init__ : Stmt := inClass (top 20) 0
abbrev n_Terms___init__ : List Str := ["self", "above", "below", "lowest"]
theorem sc_Terms___init__ : FnScope n_Terms___init__ ["self", "above", "below", "lowest"] (defScope s_Terms___init__) := ⟨rfl, rfl, rfl, by decide +kernel, rfl, by decide +kernel, by decide +kernel⟩
abbrev s_Ratio___init__ : Stmt := inClass (top 21) 0
abbrev n_Ratio___init__ : List Str := ["self", "top", "bottom", "terms"]
theorem sc_Ratio___init__ : FnScope n_Ratio___init__ ["self", "top", "bottom"] (defScope s_Ratio___init__) := ⟨rfl, rfl, rfl, by decide +kernel, rfl, by decide +kernel, by decide +kernel⟩
abbrev s_Ratio_top : Stmt := inClass (top 21) 1
abbrev n_Ratio_top : List Str := ["self"]
theorem sc_Ratio_top : FnScope n_Ratio_top ["self"] (defScope s_Ratio_top) := ⟨rfl, rfl, rfl, by decide +kernel, rfl, by decide +kernel, by decide +kernel⟩
abbrev s_Ratio_bottom : Stmt := inClass (top 21) 2
abbrev n_Ratio_bottom : List Str := ["self"]
theorem sc_Ratio_bottom : FnScope n_Ratio_bottom ["self"] (defScope s_Ratio_bottom) := ⟨rfl, rfl, rfl, by decide +kernel, rfl, by decide +kernel, by decide +kernel⟩
abbrev s_Ratio___str__ : Stmt := inClass (top 21) 16
abbrev n_Ratio___str__ : List Str := ["self"]
theorem sc_Ratio___str__ : FnScope n_Ratio___str__ ["self"] (defScope s_Ratio___str__) := ⟨rfl, rfl, rfl, by decide +kernel, rfl, by decide +kernel, by decide +kernel⟩
abbrev s_ratio_of : Stmt := top 22
abbrev n_ratio_of : List Str := ["top", "bottom"]
theorem sc_ratio_of : FnScope n_ratio_of ["top", "bottom"] (defScope s_ratio_of) := ⟨rfl, rfl, rfl, by decide +kernel, rfl, by decide +kernel, by decide +kernel⟩
abbrev s_fraction_text : Stmt := top 23
abbrev n_fraction_text : List Str := ["top", "bottom"]
theorem sc_fraction_text : FnScope n_fraction_text ["top", "bottom"] (defScope s_fraction_text) := ⟨rfl, rfl, rfl, by decide +kernel, rfl, by decide +kernel, by decide +kernel⟩
abbrev s__checked_terms : Stmt := top 25
abbrev n__checked_terms : List Str := ["top", "bottom"]
theorem sc__checked_terms : FnScope n__checked_terms ["top", "bottom"] (defScope s__checked_terms) := ⟨rfl, rfl, rfl, by decide +kernel, rfl, by decide +kernel, by decide +kernel⟩
abbrev s__lowest_terms : Stmt := top 26
abbrev n__lowest_terms : List Str := ["top", "bottom", "common"]
theorem sc__lowest_terms : FnScope n__lowest_terms ["top", "bottom"] (defScope s__lowest_terms) := ⟨rfl, rfl, rfl, by decide +kernel, rfl, by decide +kernel, by decide +kernel⟩
abbrev s_floor_total : Stmt := top 28
abbrev n_floor_total : List Str := ["n", "a", "c", "m", "result", "up", "start"]
theorem sc_floor_total : FnScope n_floor_total ["n", "a", "c", "m"] (defScope s_floor_total) := ⟨rfl, rfl, rfl, by decide +kernel, rfl, by decide +kernel, by decide +kernel⟩
abbrev s_sum_top : Stmt := top 31
abbrev n_sum_top : List Str := ["a", "b", "rest", "alternating", "factor", "common", "turn"]
theorem sc_sum_top : FnScope n_sum_top ["a", "b"] (defScope s_sum_top) := ⟨rfl, rfl, rfl, by decide +kernel, rfl, by decide +kernel, by decide +kernel⟩
abbrev s__steps : Stmt := top 32
abbrev n__steps : List Str := ["upper", "lower", "alternating", "before", "last", "up", "down"]
theorem sc__steps : FnScope n__steps ["upper", "lower"] (defScope s__steps) := ⟨rfl, rfl, rfl, by decide +kernel, rfl, by decide +kernel, by decide +kernel⟩
abbrev s__long_sum_top : Stmt := top 33
abbrev n__long_sum_top : List Str := ["b", "rest", "bits", "upper", "lower", "alternating", "end", "up", "down", "one", "other", "more", "factor", "common", "turn", "last"]
theorem sc__long_sum_top : FnScope n__long_sum_top ["b", "rest"] (defScope s__long_sum_top) := ⟨rfl, rfl, rfl, by decide +kernel, rfl, by decide +kernel, by decide +kernel⟩
abbrev s_triangle_points : Stmt := top 35
abbrev n_triangle_points : List Str := ["a", "b", "limit", "first", "second", "most"]
theorem sc_triangle_points : FnScope n_triangle_points ["a", "b", "limit"] (defScope s_triangle_points) := ⟨rfl, rfl, rfl, by decide +kernel, rfl, by decide +kernel, by decide +kernel⟩
abbrev s_triangle_inner : Stmt := top 36
abbrev n_triangle_inner : List Str := ["a", "b", "limit", "first", "second", "most"]
theorem sc_triangle_inner : FnScope n_triangle_inner ["a", "b", "limit"] (defScope s_triangle_inner) := ⟨rfl, rfl, rfl, by decide +kernel, rfl, by decide +kernel, by decide +kernel⟩
abbrev s_corner_points : Stmt := top 37
abbrev n_corner_points : List Str := ["a", "b", "c", "t", "one", "two", "three", "size"]
theorem sc_corner_points : FnScope n_corner_points ["a", "b", "c", "t"] (defScope s_corner_points) := ⟨rfl, rfl, rfl, by decide +kernel, rfl, by decide +kernel, by decide +kernel⟩
abbrev s_corner_inner : Stmt := top 38
abbrev n_corner_inner : List Str := ["a", "b", "c", "t", "one", "two", "three", "size"]
theorem sc_corner_inner : FnScope n_corner_inner ["a", "b", "c", "t"] (defScope s_corner_inner) := ⟨rfl, rfl, rfl, by decide +kernel, rfl, by decide +kernel, by decide +kernel⟩
abbrev s_corner_face : Stmt := top 39
abbrev n_corner_face : List Str := ["a", "b", "c", "t", "size"]
theorem sc_corner_face : FnScope n_corner_face ["a", "b", "c", "t"] (defScope s_corner_face) := ⟨rfl, rfl, rfl, by decide +kernel, rfl, by decide +kernel, by decide +kernel⟩
abbrev s_corner_polynomial : Stmt := top 40
abbrev n_corner_polynomial : List Str := ["a", "b", "c", "one", "two", "three", "bottom", "top"]
theorem sc_corner_polynomial : FnScope n_corner_polynomial ["a", "b", "c"] (defScope s_corner_polynomial) := ⟨rfl, rfl, rfl, by decide +kernel, rfl, by decide +kernel, by decide +kernel⟩
abbrev s_points_up_to : Stmt := top 41
abbrev n_points_up_to : List Str := ["a", "b", "limit", "rows", "rest"]
theorem sc_points_up_to : FnScope n_points_up_to ["a", "b", "limit"] (defScope s_points_up_to) := ⟨rfl, rfl, rfl, by decide +kernel, rfl, by decide +kernel, by decide +kernel⟩
abbrev s__checked_triangle : Stmt := top 42
abbrev n__checked_triangle : List Str := ["a", "b", "limit"]
theorem sc__checked_triangle : FnScope n__checked_triangle ["a", "b", "limit"] (defScope s__checked_triangle) := ⟨rfl, rfl, rfl, by decide +kernel, rfl, by decide +kernel, by decide +kernel⟩
abbrev s__checked_box : Stmt := top 43
abbrev n__checked_box : List Str := ["a", "b", "c", "one", "two", "three"]
theorem sc__checked_box : FnScope n__checked_box ["a", "b", "c"] (defScope s__checked_box) := ⟨rfl, rfl, rfl, by decide +kernel, rfl, by decide +kernel, by decide +kernel⟩
abbrev s__checked_corner : Stmt := top 44
abbrev n__checked_corner : List Str := ["a", "b", "c", "t", "one", "two", "three", "size"]
theorem sc__checked_corner : FnScope n__checked_corner ["a", "b", "c", "t"] (defScope s__checked_corner) := ⟨rfl, rfl, rfl, by decide +kernel, rfl, by decide +kernel, by decide +kernel⟩
abbrev s__corner_bottom : Stmt := top 45
abbrev n__corner_bottom : List Str := ["a", "b", "c"]
theorem sc__corner_bottom : FnScope n__corner_bottom ["a", "b", "c"] (defScope s__corner_bottom) := ⟨rfl, rfl, rfl, by decide +kernel, rfl, by decide +kernel, by decide +kernel⟩
abbrev s__corner_tops : Stmt := top 46
abbrev n__corner_tops : List Str := ["a", "b", "c", "ab", "bc", "ca", "sums", "linear"]
theorem sc__corner_tops : FnScope n__corner_tops ["a", "b", "c"] (defScope s__corner_tops) := ⟨rfl, rfl, rfl, by decide +kernel, rfl, by decide +kernel, by decide +kernel⟩
abbrev s__corner_value : Stmt := top 47
abbrev n__corner_value : List Str := ["a", "b", "c", "t", "alone", "linear", "square", "cube"]
theorem sc__corner_value : FnScope n__corner_value ["a", "b", "c", "t"] (defScope s__corner_value) := ⟨rfl, rfl, rfl, by decide +kernel, rfl, by decide +kernel, by decide +kernel⟩
abbrev s__law_purse_of : Stmt := top 49
abbrev n__law_purse_of : List Str := ["_law_script", "_law_at", "_law_cell", "_law_great_here"]
theorem sc__law_purse_of : FnScope n__law_purse_of ["_law_script", "_law_at"] (defScope s__law_purse_of) := ⟨rfl, rfl, rfl, by decide +kernel, rfl, by decide +kernel, by decide +kernel⟩
abbrev s__law_coin : Stmt := top 50
abbrev n__law_coin : List Str := ["_law_purse", "_law_total", "_law_found", "_law_one", "_law_two", "_law_three"]
theorem sc__law_coin : FnScope n__law_coin ["_law_purse", "_law_total"] (defScope s__law_coin) := ⟨rfl, rfl, rfl, by decide +kernel, rfl, by decide +kernel, by decide +kernel⟩
abbrev s__law_common : Stmt := top 52
abbrev n__law_common : List Str := ["_law_one", "_law_other", "_law_turn"]
theorem sc__law_common : FnScope n__law_common ["_law_one", "_law_other"] (defScope s__law_common) := ⟨rfl, rfl, rfl, by decide +kernel, rfl, by decide +kernel, by decide +kernel⟩
abbrev s__law_low : Stmt := top 53
abbrev n__law_low : List Str := ["_law_top", "_law_bottom", "_law_common_here"]
theorem sc__law_low : FnScope n__law_low ["_law_top", "_law_bottom"] (defScope s__law_low) := ⟨rfl, rfl, rfl, by decide +kernel, rfl, by decide +kernel, by decide +kernel⟩
abbrev s__law_plus : Stmt := top 54
abbrev n__law_plus : List Str := ["_law_one", "_law_other"]
theorem sc__law_plus : FnScope n__law_plus ["_law_one", "_law_other"] (defScope s__law_plus) := ⟨rfl, rfl, rfl, by decide +kernel, rfl, by decide +kernel, by decide +kernel⟩
abbrev s__law_times : Stmt := top 55
abbrev n__law_times : List Str := ["_law_one", "_law_other"]
theorem sc__law_times : FnScope n__law_times ["_law_one", "_law_other"] (defScope s__law_times) := ⟨rfl, rfl, rfl, by decide +kernel, rfl, by decide +kernel, by decide +kernel⟩
abbrev s__law_pair_of : Stmt := top 57
abbrev n__law_pair_of : List Str := ["_law_ratio"]
theorem sc__law_pair_of : FnScope n__law_pair_of ["_law_ratio"] (defScope s__law_pair_of) := ⟨rfl, rfl, rfl, by decide +kernel, rfl, by decide +kernel, by decide +kernel⟩
abbrev s__law_great : Stmt := top 60
abbrev n__law_great : List Str := ["_law_purse", "_law_digits", "_law_found", "_law_turn"]
theorem sc__law_great : FnScope n__law_great ["_law_purse", "_law_digits"] (defScope s__law_great) := ⟨rfl, rfl, rfl, by decide +kernel, rfl, by decide +kernel, by decide +kernel⟩
abbrev s__law_box_drawn : Stmt := top 62
abbrev n__law_box_drawn : List Str := ["_law_purse", "_law_top", "_law_found", "_law_turn", "_law_one", "_law_other"]
theorem sc__law_box_drawn : FnScope n__law_box_drawn ["_law_purse", "_law_top"] (defScope s__law_box_drawn) := ⟨rfl, rfl, rfl, by decide +kernel, rfl, by decide +kernel, by decide +kernel⟩
abbrev s__law_corner : Stmt := top 63
abbrev n__law_corner : List Str := ["_law_a", "_law_b", "_law_c", "_law_t", "_law_found", "_law_x", "_law_y", "_law_left", "_law_z"]
theorem sc__law_corner : FnScope n__law_corner ["_law_a", "_law_b", "_law_c", "_law_t"] (defScope s__law_corner) := ⟨rfl, rfl, rfl, by decide +kernel, rfl, by decide +kernel, by decide +kernel⟩
abbrev s__law_value : Stmt := top 64
abbrev n__law_value : List Str := ["_law_rows", "_law_t", "_law_found", "_law_row"]
theorem sc__law_value : FnScope n__law_value ["_law_rows", "_law_t"] (defScope s__law_value) := ⟨rfl, rfl, rfl, by decide +kernel, rfl, by decide +kernel, by decide +kernel⟩
abbrev s__law_height : Stmt := top 65
abbrev n__law_height : List Str := ["_law_one", "_law_a", "_law_b", "_law_c"]
theorem sc__law_height : FnScope n__law_height ["_law_one", "_law_a", "_law_b", "_law_c"] (defScope s__law_height) := ⟨rfl, rfl, rfl, by decide +kernel, rfl, by decide +kernel, by decide +kernel⟩
abbrev s__law_force_right : Stmt := top 66
abbrev n__law_force_right : List Str := ["_law_a", "_law_b", "_law_c", "_law_rows", "_law_t", "_law_points", "_law_inner", "_law_one"]
theorem sc__law_force_right : FnScope n__law_force_right ["_law_a", "_law_b", "_law_c", "_law_rows"] (defScope s__law_force_right) := ⟨rfl, rfl, rfl, by decide +kernel, rfl, by decide +kernel, by decide +kernel⟩
abbrev s__law_shuts_right : Stmt := top 67
abbrev n__law_shuts_right : List Str := ["_law_a", "_law_b", "_law_c", "_law_t", "_law_whole", "_law_inner", "_law_shuts", "_law_one", "_law_two", "_law_inside", "_law_spot"]
theorem sc__law_shuts_right : FnScope n__law_shuts_right ["_law_a", "_law_b", "_law_c", "_law_t"] (defScope s__law_shuts_right) := ⟨rfl, rfl, rfl, by decide +kernel, rfl, by decide +kernel, by decide +kernel⟩
abbrev s__law_right : Stmt := top 68
abbrev n__law_right : List Str := ["_law_purse", "_law_a", "_law_b", "_law_c", "_law_rows", "_law_one", "_law_t", "_law_told", "_law_step"]
theorem sc__law_right : FnScope n__law_right ["_law_purse"] (defScope s__law_right) := ⟨rfl, rfl, rfl, by decide +kernel, rfl, by decide +kernel, by decide +kernel⟩
abbrev s_law : Stmt := top 69
abbrev n_law : List Str := ["_law_script", "_law_spot", "_law_purse", "_law_turn", "_law_told", "_law_one"]
theorem sc_law : FnScope n_law ["_law_script"] (defScope s_law) := ⟨rfl, rfl, rfl, by decide +kernel, rfl, by decide +kernel, by decide +kernel⟩
/-- where things stand -/
structure Ad where
  f_Long___init__ : Addr
  d_Long___init__ : FuncData
  f_is_short_integer : Addr
  d_is_short_integer : FuncData
  f_checked_integer : Addr
  d_checked_integer : FuncData
  f_checked_from : Addr
  d_checked_from : FuncData
  f_integer_text : Addr
  d_integer_text : FuncData
  f_check_coprime : Addr
  d_check_coprime : FuncData
  f_Terms___init__ : Addr
  d_Terms___init__ : FuncData
  f_Ratio___init__ : Addr
  d_Ratio___init__ : FuncData
  f_Ratio_top : Addr
  d_Ratio_top : FuncData
  f_Ratio_bottom : Addr
  d_Ratio_bottom : FuncData
  f_Ratio___str__ : Addr
  d_Ratio___str__ : FuncData
  f_ratio_of : Addr
  d_ratio_of : FuncData
  f_fraction_text : Addr
  d_fraction_text : FuncData
  f__checked_terms : Addr
  d__checked_terms : FuncData
  f__lowest_terms : Addr
  d__lowest_terms : FuncData
  f_floor_total : Addr
  d_floor_total : FuncData
  f_sum_top : Addr
  d_sum_top : FuncData
  f__steps : Addr
  d__steps : FuncData
  f__long_sum_top : Addr
  d__long_sum_top : FuncData
  f_triangle_points : Addr
  d_triangle_points : FuncData
  f_triangle_inner : Addr
  d_triangle_inner : FuncData
  f_corner_points : Addr
  d_corner_points : FuncData
  f_corner_inner : Addr
  d_corner_inner : FuncData
  f_corner_face : Addr
  d_corner_face : FuncData
  f_corner_polynomial : Addr
  d_corner_polynomial : FuncData
  f_points_up_to : Addr
  d_points_up_to : FuncData
  f__checked_triangle : Addr
  d__checked_triangle : FuncData
  f__checked_box : Addr
  d__checked_box : FuncData
  f__checked_corner : Addr
  d__checked_corner : FuncData
  f__corner_bottom : Addr
  d__corner_bottom : FuncData
  f__corner_tops : Addr
  d__corner_tops : FuncData
  f__corner_value : Addr
  d__corner_value : FuncData
  f__law_purse_of : Addr
  d__law_purse_of : FuncData
  f__law_coin : Addr
  d__law_coin : FuncData
  f__law_common : Addr
  d__law_common : FuncData
  f__law_low : Addr
  d__law_low : FuncData
  f__law_plus : Addr
  d__law_plus : FuncData
  f__law_times : Addr
  d__law_times : FuncData
  f__law_pair_of : Addr
  d__law_pair_of : FuncData
  f__law_great : Addr
  d__law_great : FuncData
  f__law_box_drawn : Addr
  d__law_box_drawn : FuncData
  f__law_corner : Addr
  d__law_corner : FuncData
  f__law_value : Addr
  d__law_value : FuncData
  f__law_height : Addr
  d__law_height : FuncData
  f__law_force_right : Addr
  d__law_force_right : FuncData
  f__law_shuts_right : Addr
  d__law_shuts_right : FuncData
  f__law_right : Addr
  d__law_right : FuncData
  f_law : Addr
  d_law : FuncData
  pp_Ratio_top : Addr
  pp_Ratio_bottom : Addr
  a_Long : Addr
  a_Terms : Addr
  a_Ratio : Addr
/-- what the top has written -/
structure Txt (K : PySem.W.Frag) (mg : Str → Option Value) (A : Ad) : Prop where
  F_Long___init__ : Fun K "__init__" "Long.__init__" s_Long___init__ A.f_Long___init__ A.d_Long___init__
  b_Long___init__ : Binds K A.d_Long___init__ ["self", "number"] []
  mk_Long : Mk K A.a_Long A.f_Long___init__
  F_is_short_integer : Fun K "is_short_integer" "is_short_integer" s_is_short_integer A.f_is_short_integer A.d_is_short_integer
  b_is_short_integer : Binds K A.d_is_short_integer ["value"] []
  m_is_short_integer : mg "is_short_integer" = some (.ref A.f_is_short_integer)
  F_checked_integer : Fun K "checked_integer" "checked_integer" s_checked_integer A.f_checked_integer A.d_checked_integer
  b_checked_integer : Binds K A.d_checked_integer ["value"] []
  m_checked_integer : mg "checked_integer" = some (.ref A.f_checked_integer)
  F_checked_from : Fun K "checked_from" "checked_from" s_checked_from A.f_checked_from A.d_checked_from
  b_checked_from : Binds K A.d_checked_from ["least", "value"] []
  m_checked_from : mg "checked_from" = some (.ref A.f_checked_from)
  F_integer_text : Fun K "integer_text" "integer_text" s_integer_text A.f_integer_text A.d_integer_text
  b_integer_text : Binds K A.d_integer_text ["number"] []
  m_integer_text : mg "integer_text" = some (.ref A.f_integer_text)
  F_check_coprime : FunD K "check_coprime" "check_coprime" (defArgs s_check_coprime) (defBody s_check_coprime) (defScope s_check_coprime) [V.int (1)] [] A.f_check_coprime A.d_check_coprime
  b1_check_coprime : ∃ ds, Vals [V.int (1)] ds ∧ Binds K A.d_check_coprime ["a", "b", "c"] ds
  b_check_coprime : Binds K A.d_check_coprime ["a", "b", "c"] []
  m_check_coprime : mg "check_coprime" = some (.ref A.f_check_coprime)
  F_Terms___init__ : Fun K "__init__" "Terms.__init__" s_Terms___init__ A.f_Terms___init__ A.d_Terms___init__
  b_Terms___init__ : Binds K A.d_Terms___init__ ["self", "above", "below", "lowest"] []
  mk_Terms : Mk K A.a_Terms A.f_Terms___init__
  F_Ratio___init__ : FunD K "__init__" "Ratio.__init__" (defArgs s_Ratio___init__) (defBody s_Ratio___init__) (defScope s_Ratio___init__) [V.int (1)] [] A.f_Ratio___init__ A.d_Ratio___init__
  b1_Ratio___init__ : ∃ ds, Vals [V.int (1)] ds ∧ Binds K A.d_Ratio___init__ ["self", "top", "bottom"] ds
  b_Ratio___init__ : Binds K A.d_Ratio___init__ ["self", "top", "bottom"] []
  mk_Ratio : Mk K A.a_Ratio A.f_Ratio___init__
  F_Ratio_top : Fun K "top" "Ratio.top" s_Ratio_top A.f_Ratio_top A.d_Ratio_top
  b_Ratio_top : Binds K A.d_Ratio_top ["self"] []
  p_Ratio_top : PropOf K A.a_Ratio "top" A.pp_Ratio_top A.f_Ratio_top
  F_Ratio_bottom : Fun K "bottom" "Ratio.bottom" s_Ratio_bottom A.f_Ratio_bottom A.d_Ratio_bottom
  b_Ratio_bottom : Binds K A.d_Ratio_bottom ["self"] []
  p_Ratio_bottom : PropOf K A.a_Ratio "bottom" A.pp_Ratio_bottom A.f_Ratio_bottom
  F_Ratio___str__ : Fun K "__str__" "Ratio.__str__" s_Ratio___str__ A.f_Ratio___str__ A.d_Ratio___str__
  b_Ratio___str__ : Binds K A.d_Ratio___str__ ["self"] []
  me_Ratio___str__ : Meth K A.a_Ratio "__str__" A.f_Ratio___str__
  F_ratio_of : Fun K "ratio_of" "ratio_of" s_ratio_of A.f_ratio_of A.d_ratio_of
  b_ratio_of : Binds K A.d_ratio_of ["top", "bottom"] []
  m_ratio_of : mg "ratio_of" = some (.ref A.f_ratio_of)
  F_fraction_text : Fun K "fraction_text" "fraction_text" s_fraction_text A.f_fraction_text A.d_fraction_text
  b_fraction_text : Binds K A.d_fraction_text ["top", "bottom"] []
  m_fraction_text : mg "fraction_text" = some (.ref A.f_fraction_text)
  F__checked_terms : Fun K "_checked_terms" "_checked_terms" s__checked_terms A.f__checked_terms A.d__checked_terms
  b__checked_terms : Binds K A.d__checked_terms ["top", "bottom"] []
  m__checked_terms : mg "_checked_terms" = some (.ref A.f__checked_terms)
  F__lowest_terms : Fun K "_lowest_terms" "_lowest_terms" s__lowest_terms A.f__lowest_terms A.d__lowest_terms
  b__lowest_terms : Binds K A.d__lowest_terms ["top", "bottom"] []
  m__lowest_terms : mg "_lowest_terms" = some (.ref A.f__lowest_terms)
  F_floor_total : Fun K "floor_total" "floor_total" s_floor_total A.f_floor_total A.d_floor_total
  b_floor_total : Binds K A.d_floor_total ["n", "a", "c", "m"] []
  m_floor_total : mg "floor_total" = some (.ref A.f_floor_total)
  F_sum_top : Fun K "sum_top" "sum_top" s_sum_top A.f_sum_top A.d_sum_top
  b_sum_top : Binds K A.d_sum_top ["a", "b"] []
  m_sum_top : mg "sum_top" = some (.ref A.f_sum_top)
  F__steps : Fun K "_steps" "_steps" s__steps A.f__steps A.d__steps
  b__steps : Binds K A.d__steps ["upper", "lower"] []
  m__steps : mg "_steps" = some (.ref A.f__steps)
  F__long_sum_top : Fun K "_long_sum_top" "_long_sum_top" s__long_sum_top A.f__long_sum_top A.d__long_sum_top
  b__long_sum_top : Binds K A.d__long_sum_top ["b", "rest"] []
  m__long_sum_top : mg "_long_sum_top" = some (.ref A.f__long_sum_top)
  F_triangle_points : Fun K "triangle_points" "triangle_points" s_triangle_points A.f_triangle_points A.d_triangle_points
  b_triangle_points : Binds K A.d_triangle_points ["a", "b", "limit"] []
  m_triangle_points : mg "triangle_points" = some (.ref A.f_triangle_points)
  F_triangle_inner : Fun K "triangle_inner" "triangle_inner" s_triangle_inner A.f_triangle_inner A.d_triangle_inner
  b_triangle_inner : Binds K A.d_triangle_inner ["a", "b", "limit"] []
  m_triangle_inner : mg "triangle_inner" = some (.ref A.f_triangle_inner)
  F_corner_points : Fun K "corner_points" "corner_points" s_corner_points A.f_corner_points A.d_corner_points
  b_corner_points : Binds K A.d_corner_points ["a", "b", "c", "t"] []
  m_corner_points : mg "corner_points" = some (.ref A.f_corner_points)
  F_corner_inner : Fun K "corner_inner" "corner_inner" s_corner_inner A.f_corner_inner A.d_corner_inner
  b_corner_inner : Binds K A.d_corner_inner ["a", "b", "c", "t"] []
  m_corner_inner : mg "corner_inner" = some (.ref A.f_corner_inner)
  F_corner_face : Fun K "corner_face" "corner_face" s_corner_face A.f_corner_face A.d_corner_face
  b_corner_face : Binds K A.d_corner_face ["a", "b", "c", "t"] []
  m_corner_face : mg "corner_face" = some (.ref A.f_corner_face)
  F_corner_polynomial : Fun K "corner_polynomial" "corner_polynomial" s_corner_polynomial A.f_corner_polynomial A.d_corner_polynomial
  b_corner_polynomial : Binds K A.d_corner_polynomial ["a", "b", "c"] []
  m_corner_polynomial : mg "corner_polynomial" = some (.ref A.f_corner_polynomial)
  F_points_up_to : Fun K "points_up_to" "points_up_to" s_points_up_to A.f_points_up_to A.d_points_up_to
  b_points_up_to : Binds K A.d_points_up_to ["a", "b", "limit"] []
  m_points_up_to : mg "points_up_to" = some (.ref A.f_points_up_to)
  F__checked_triangle : Fun K "_checked_triangle" "_checked_triangle" s__checked_triangle A.f__checked_triangle A.d__checked_triangle
  b__checked_triangle : Binds K A.d__checked_triangle ["a", "b", "limit"] []
  m__checked_triangle : mg "_checked_triangle" = some (.ref A.f__checked_triangle)
  F__checked_box : Fun K "_checked_box" "_checked_box" s__checked_box A.f__checked_box A.d__checked_box
  b__checked_box : Binds K A.d__checked_box ["a", "b", "c"] []
  m__checked_box : mg "_checked_box" = some (.ref A.f__checked_box)
  F__checked_corner : Fun K "_checked_corner" "_checked_corner" s__checked_corner A.f__checked_corner A.d__checked_corner
  b__checked_corner : Binds K A.d__checked_corner ["a", "b", "c", "t"] []
  m__checked_corner : mg "_checked_corner" = some (.ref A.f__checked_corner)
  F__corner_bottom : Fun K "_corner_bottom" "_corner_bottom" s__corner_bottom A.f__corner_bottom A.d__corner_bottom
  b__corner_bottom : Binds K A.d__corner_bottom ["a", "b", "c"] []
  m__corner_bottom : mg "_corner_bottom" = some (.ref A.f__corner_bottom)
  F__corner_tops : Fun K "_corner_tops" "_corner_tops" s__corner_tops A.f__corner_tops A.d__corner_tops
  b__corner_tops : Binds K A.d__corner_tops ["a", "b", "c"] []
  m__corner_tops : mg "_corner_tops" = some (.ref A.f__corner_tops)
  F__corner_value : Fun K "_corner_value" "_corner_value" s__corner_value A.f__corner_value A.d__corner_value
  b__corner_value : Binds K A.d__corner_value ["a", "b", "c", "t"] []
  m__corner_value : mg "_corner_value" = some (.ref A.f__corner_value)
  F__law_purse_of : Fun K "_law_purse_of" "_law_purse_of" s__law_purse_of A.f__law_purse_of A.d__law_purse_of
  b__law_purse_of : Binds K A.d__law_purse_of ["_law_script", "_law_at"] []
  m__law_purse_of : mg "_law_purse_of" = some (.ref A.f__law_purse_of)
  F__law_coin : Fun K "_law_coin" "_law_coin" s__law_coin A.f__law_coin A.d__law_coin
  b__law_coin : Binds K A.d__law_coin ["_law_purse", "_law_total"] []
  m__law_coin : mg "_law_coin" = some (.ref A.f__law_coin)
  F__law_common : Fun K "_law_common" "_law_common" s__law_common A.f__law_common A.d__law_common
  b__law_common : Binds K A.d__law_common ["_law_one", "_law_other"] []
  m__law_common : mg "_law_common" = some (.ref A.f__law_common)
  F__law_low : Fun K "_law_low" "_law_low" s__law_low A.f__law_low A.d__law_low
  b__law_low : Binds K A.d__law_low ["_law_top", "_law_bottom"] []
  m__law_low : mg "_law_low" = some (.ref A.f__law_low)
  F__law_plus : Fun K "_law_plus" "_law_plus" s__law_plus A.f__law_plus A.d__law_plus
  b__law_plus : Binds K A.d__law_plus ["_law_one", "_law_other"] []
  m__law_plus : mg "_law_plus" = some (.ref A.f__law_plus)
  F__law_times : Fun K "_law_times" "_law_times" s__law_times A.f__law_times A.d__law_times
  b__law_times : Binds K A.d__law_times ["_law_one", "_law_other"] []
  m__law_times : mg "_law_times" = some (.ref A.f__law_times)
  F__law_pair_of : Fun K "_law_pair_of" "_law_pair_of" s__law_pair_of A.f__law_pair_of A.d__law_pair_of
  b__law_pair_of : Binds K A.d__law_pair_of ["_law_ratio"] []
  m__law_pair_of : mg "_law_pair_of" = some (.ref A.f__law_pair_of)
  F__law_great : Fun K "_law_great" "_law_great" s__law_great A.f__law_great A.d__law_great
  b__law_great : Binds K A.d__law_great ["_law_purse", "_law_digits"] []
  m__law_great : mg "_law_great" = some (.ref A.f__law_great)
  F__law_box_drawn : Fun K "_law_box_drawn" "_law_box_drawn" s__law_box_drawn A.f__law_box_drawn A.d__law_box_drawn
  b__law_box_drawn : Binds K A.d__law_box_drawn ["_law_purse", "_law_top"] []
  m__law_box_drawn : mg "_law_box_drawn" = some (.ref A.f__law_box_drawn)
  F__law_corner : Fun K "_law_corner" "_law_corner" s__law_corner A.f__law_corner A.d__law_corner
  b__law_corner : Binds K A.d__law_corner ["_law_a", "_law_b", "_law_c", "_law_t"] []
  m__law_corner : mg "_law_corner" = some (.ref A.f__law_corner)
  F__law_value : Fun K "_law_value" "_law_value" s__law_value A.f__law_value A.d__law_value
  b__law_value : Binds K A.d__law_value ["_law_rows", "_law_t"] []
  m__law_value : mg "_law_value" = some (.ref A.f__law_value)
  F__law_height : Fun K "_law_height" "_law_height" s__law_height A.f__law_height A.d__law_height
  b__law_height : Binds K A.d__law_height ["_law_one", "_law_a", "_law_b", "_law_c"] []
  m__law_height : mg "_law_height" = some (.ref A.f__law_height)
  F__law_force_right : Fun K "_law_force_right" "_law_force_right" s__law_force_right A.f__law_force_right A.d__law_force_right
  b__law_force_right : Binds K A.d__law_force_right ["_law_a", "_law_b", "_law_c", "_law_rows"] []
  m__law_force_right : mg "_law_force_right" = some (.ref A.f__law_force_right)
  F__law_shuts_right : Fun K "_law_shuts_right" "_law_shuts_right" s__law_shuts_right A.f__law_shuts_right A.d__law_shuts_right
  b__law_shuts_right : Binds K A.d__law_shuts_right ["_law_a", "_law_b", "_law_c", "_law_t"] []
  m__law_shuts_right : mg "_law_shuts_right" = some (.ref A.f__law_shuts_right)
  F__law_right : Fun K "_law_right" "_law_right" s__law_right A.f__law_right A.d__law_right
  b__law_right : Binds K A.d__law_right ["_law_purse"] []
  m__law_right : mg "_law_right" = some (.ref A.f__law_right)
  F_law : Fun K "law" "law" s_law A.f_law A.d_law
  b_law : Binds K A.d_law ["_law_script"] []
  m_law : mg "law" = some (.ref A.f_law)
  c_Long : Cls K A.a_Long
  m_Long : mg "Long" = some (.ref A.a_Long)
  na_Long_number : NoAttr K A.a_Long "number"
  ic_Long : PySem.W.isClsIn K A.a_Long = true
  ty_Long : PySem.W.typeIn K (.ref A.a_Long) = some (.type "type")
  cl_Long : PySem.W.findIn K (.ref A.a_Long) "__class__" = some (some (.builtin "object.__class__"))
  ob_Long : PySem.W.mroIn K A.a_Long (.type "object") = some true
  oi_Long : PySem.W.mroIn K A.a_Long (.type "int") = some false
  c_Terms : Cls K A.a_Terms
  m_Terms : mg "Terms" = some (.ref A.a_Terms)
  na_Terms_above : NoAttr K A.a_Terms "above"
  na_Terms_below : NoAttr K A.a_Terms "below"
  na_Terms_lowest : NoAttr K A.a_Terms "lowest"
  ic_Terms : PySem.W.isClsIn K A.a_Terms = true
  ty_Terms : PySem.W.typeIn K (.ref A.a_Terms) = some (.type "type")
  cl_Terms : PySem.W.findIn K (.ref A.a_Terms) "__class__" = some (some (.builtin "object.__class__"))
  ob_Terms : PySem.W.mroIn K A.a_Terms (.type "object") = some true
  oi_Terms : PySem.W.mroIn K A.a_Terms (.type "int") = some false
  c_Ratio : Cls K A.a_Ratio
  m_Ratio : mg "Ratio" = some (.ref A.a_Ratio)
  na_Ratio__top : NoAttr K A.a_Ratio "_top"
  na_Ratio__bottom : NoAttr K A.a_Ratio "_bottom"
  na_Ratio__is_lowest : NoAttr K A.a_Ratio "_is_lowest"
  ic_Ratio : PySem.W.isClsIn K A.a_Ratio = true
  ty_Ratio : PySem.W.typeIn K (.ref A.a_Ratio) = some (.type "type")
  cl_Ratio : PySem.W.findIn K (.ref A.a_Ratio) "__class__" = some (some (.builtin "object.__class__"))
  ob_Ratio : PySem.W.mroIn K A.a_Ratio (.type "object") = some true
  oi_Ratio : PySem.W.mroIn K A.a_Ratio (.type "int") = some false
  sg : PySem.W.specialIn K (.builtin "object.__class__") "__get__" = some (some (.builtin "getset_descriptor.__get__"))
  tk : PySem.W.takesIn K (.builtin "object.__class__") = some true
  b_len : mg "len" = none
  b_abs : mg "abs" = none
  b_max : mg "max" = none
  b_min : mg "min" = none
  b_isinstance : mg "isinstance" = none
  b_range : mg "range" = none
  b_int : mg "int" = none
  b_tuple : mg "tuple" = none
  b_divmod : mg "divmod" = none
  b_sum : mg "sum" = none
  b_str : mg "str" = none
  m__TOO_LONG : ∃ t, mg "_TOO_LONG" = some (.int (10 ^ 60) t)
  m__PIECE_DIGITS : ∃ t, mg "_PIECE_DIGITS" = some (.int (60) t)
  m__SHORT : ∃ t, mg "_SHORT" = some (.int (2 ^ 30) t)
  m_gcd : mg "gcd" = some (.builtin "math.gcd")
  ou_str : UnC K A.a_Ratio A.f_Ratio___str__ "__str__"
end Tk

set_option maxHeartbeats 2000000
namespace Tk
open PySem PySem.Spec PyProof.Rows L2 Tc
section
variable {P : Program} {w : World} {K : PySem.W.Frag} {mg : Str → Option Value} {base : Heap} {A : Ad}
theorem rel_int (i : Int) (t : Tok) : RelV (.int i) (Value.int i t) := ⟨t, rfl⟩
theorem rel_ref (a : Addr) : RelV (.ref a) (Value.ref a) := rfl
theorem kit_own {C : Addr} {T : String} (ic : PySem.W.isClsIn K C = true) (ty : PySem.W.typeIn K (.ref C) = some (.type "type")) (h : (PySem.fastBuiltinMro T).map (fun l => l.all fun v => match v with | .type _ => true | _ => false) = some true) : PySem.W.kitOne K (.type T) (.ref C) = some false := by
  have e1 : ((PySem.W.clsIn K C).isSome && PySem.W.typeIn K (.ref C) == some (.type "type")) = true := by
    have h2 : (PySem.W.clsIn K C).isSome = true := ic
    rw [h2, ty]
    rfl
  show (if (Value.type T == Value.ref C) = true then some true else (if ((PySem.W.clsIn K C).isSome && PySem.W.typeIn K (.ref C) == some (.type "type")) = true then PySem.W.subIn K (.type T) (.ref C) else none)) = some false
  rw [if_neg (by intro z; cases eq_of_beq z), if_pos e1]
  show (PySem.fastBuiltinMro T).map (·.contains (Value.ref C)) = some false
  cases e : PySem.fastBuiltinMro T with
  | none => rw [e] at h; cases h
  | some l =>
    rw [e] at h
    have h' : (l.all fun v => match v with | .type _ => true | _ => false) = true := Option.some.inj h
    show some (l.contains (Value.ref C)) = some false
    congr 1
    cases q : l.contains (Value.ref C) with
    | false => rfl
    | true =>
      have m := List.contains_iff_mem.mp q
      have := List.all_eq_true.mp h' _ m
      cases this
theorem ty_ins {C p dx : Addr} {fs : List (Str × V)} {H : Hp} (h : H p = some (.ins C dx fs)) (c : Cls K C) (cl : PySem.W.findIn K (.ref C) "__class__" = some (some (.builtin "object.__class__"))) (ob : PySem.W.mroIn K C (.type "object") = some true) (T : Txt K mg A) : TyX K H (.ref p) (.ref C) :=
  .base (.ins h c cl T.sg T.tk ob)
theorem kit_self {C : Addr} : PySem.W.kitOne K (.ref C) (.ref C) = some true := by
  unfold PySem.W.kitOne
  rw [if_pos (beq_self_eq_true _)]
theorem lk_here {k : Str} {v : V} {r : List (Str × V)} : List.lookup k ((k, v) :: r) = some v := by
  have e : (k == k) = true := beq_self_eq_true k
  simp only [List.lookup, e]
theorem lk_past {k g : Str} {v : V} {r : List (Str × V)} (h : (k == g) = false) : List.lookup k ((g, v) :: r) = List.lookup k r := by
  simp only [List.lookup, h]
theorem put_past {f g : Str} {v x : V} {r : List (Str × V)} (h : ¬ g = f) : putF f v ((g, x) :: r) = (g, x) :: putF f v r := if_neg h
theorem kit_int {C : Addr} (h : PySem.W.mroIn K C (.type "int") = some false) : PySem.W.kitOne K (.ref C) (.type "int") = some false := by
  show (if (Value.ref C == Value.type "int") = true then some true else PySem.W.kitCls K (.ref C) (.type "int")) = some false
  rw [if_neg (by intro z; cases eq_of_beq z)]
  show (if PySem.W.kitMeta "int" = true then PySem.W.subIn K (.ref C) (.type "int") else none) = some false
  rw [if_pos (by decide +kernel)]
  exact h
/- ints alone -/
def sp_is_any_integer : Sp := fun vs H Q _ => ∃ i : Int, vs = [.int i] ∧ Q (.bl true) H
def Short (i : Int) : Prop := -(10 ^ 60) < i ∧ i < 10 ^ 60
def NotInt (K : PySem.W.Frag) (H : Hp) (v : V) : Prop := ∃ t, TyX K H v t ∧ PySem.W.kitOne K t (.type "int") = some false
def sp_is_short_integer (K : PySem.W.Frag) : Sp := fun vs H Q _ => ∃ v, vs = [v] ∧ ((∃ i : Int, v = .int i ∧ Short i ∧ Q (.bl true) H) ∨ (NotInt K H v ∧ Q (.bl false) H))
theorem ok_is_short_integer (T : Txt K mg A) : FnOk P w K mg base CX0 2 A.f_is_short_integer A.d_is_short_integer ["value"] (sp_is_short_integer K) := by
  refine T.F_is_short_integer.ok sc_is_short_integer (fun vs H Q E h => ?_) (fun cdv Ar outer s H vs Q E hr h => ?_)
  · obtain ⟨v, rfl, _⟩ := h
    rfl
  · obtain ⟨v, rfl, k⟩ := h
    have hu := hu_of hr
    refine ⟨_, (pss_one (ps_ret (pe_and (pe_callB call_isi (by rfl) T.b_isinstance (by decide +kernel) (pa_cons (pv 0) (pa_cons (pe_bltn (v := .ty "int") (by rfl) T.b_int (by decide +kernel) rfl) pa_nil))) (pe_and (pe_cmpR op_notIB (pv 0) pe_bl (nomark _)) (pe_and (pe_cmpR op_notIB (pv 0) pe_bl (nomark _)) (pe_one (pe_chain op_lt op_lt (pe_un un_neg (pe_glob rfl T.m__TOO_LONG.choose_spec (rel_int _ _))) (pv 0) (pe_glob rfl T.m__TOO_LONG.choose_spec (rel_int _ _))))))))), ?_⟩
    rcases k with ⟨i, rfl, hi, k⟩ | ⟨⟨t, h1, h2⟩, k⟩
    · refine ⟨_, rfl, _, _, _, _, true, rfl, .ty "int", .base (.int i), kit_ty (by decide +kernel), _, rfl, ?_⟩
      refine iteT ?_
      refine ⟨_, rfl, _, _, rfl, rfl, _, rfl, ?_⟩
      refine iteT ?_
      refine ⟨_, rfl, _, _, rfl, rfl, _, rfl, ?_⟩
      refine iteT ?_
      refine ⟨_, rfl, _, rfl, _, _, rfl, rfl, _, rfl, ?_⟩
      rw [decide_eq_true hi.1]
      refine iteT ?_
      refine ⟨_, _, rfl, rfl, ?_⟩
      show Q (V.bl (decide (i < 10 ^ 60))) H
      rw [decide_eq_true hi.2]
      exact k
    · refine ⟨_, rfl, _, _, _, _, false, rfl, .ty "int", h1, h2, _, rfl, ?_⟩
      refine iteF ?_
      exact k
end
end Tk

set_option maxHeartbeats 2000000
namespace Tk
open PySem PySem.Spec PyProof.Rows L2 Tc
section
variable {P : Program} {w : World} {K : PySem.W.Frag} {mg : Str → Option Value} {base : Heap} {A : Ad}
/- an int that may be passed, or one of any length within a Long -/
inductive Num (A : Ad) (H : Hp) : V → Int → Prop where
  | int {i : Int} (h : Short i) : Num A H (.int i) i
  | long {p dx : Addr} {i : Int} (h : H p = some (.ins A.a_Long dx [("number", .int i)])) : Num A H (.ref p) i
def sp_checked_integer (A : Ad) : Sp := fun vs H Q _ => ∃ (v : V) (i : Int), vs = [v] ∧ Num A H v i ∧ Q (.int i) H
theorem ok_checked_integer (T : Txt K mg A) : FnOk P w K mg base CX0 4 A.f_checked_integer A.d_checked_integer ["value"] (sp_checked_integer A) := by
  refine T.F_checked_integer.ok sc_checked_integer (fun vs H Q E h => ?_) (fun cdv Ar outer s H vs Q E hr h => ?_)
  · obtain ⟨v, i, rfl, _⟩ := h
    rfl
  · obtain ⟨v, i, rfl, hv, k⟩ := h
    have hu := hu_of hr
    refine ⟨_, (pss_cons (ps_if (pt_val (pe_call (ok_is_short_integer T) (hr.mono (by decide)) rfl T.m_is_short_integer T.F_is_short_integer.kp T.b_is_short_integer .nil pass0 (pa_cons (pv 0) pa_nil)))
        (pss_one (ps_ret (pv 0)))
        pss_nil)
      (pss_cons (ps_if (pt_val (pe_callB call_isi (by rfl) T.b_isinstance (by decide +kernel) (pa_cons (pv 0) (pa_cons (pe_glob rfl T.m_Long (rel_ref _)) pa_nil))))
        (pss_one (ps_ret (pe_fld (pv 0) rfl)))
        pss_nil)
      (pss_one ps_never))), ?_⟩
    cases hv with
    | int hi =>
      refine ⟨_, rfl, _, rfl, .inl ⟨i, rfl, hi, _, rfl, ?_⟩⟩
      refine iteT ?_
      exact ⟨_, rfl, k⟩
    | @long p dx i hp =>
      refine ⟨_, rfl, _, rfl, .inr ⟨⟨_, ty_ins hp T.c_Long T.cl_Long T.ob_Long T, kit_int T.oi_Long⟩, _, rfl, ?_⟩⟩
      refine iteF ?_
      refine ⟨_, rfl, _, _, _, _, true, rfl, .own A.a_Long, ty_ins hp T.c_Long T.cl_Long T.ob_Long T, kit_self, _, rfl, ?_⟩
      refine iteT ?_
      exact ⟨_, rfl, p, A.a_Long, dx, _, _, rfl, hp, T.c_Long, T.na_Long_number, lk_here, k⟩
def sp_checked_from (A : Ad) : Sp := fun vs H Q _ => ∃ (l : Int) (v : V) (i : Int), vs = [.int l, v] ∧ Num A H v i ∧ l ≤ i ∧ Q (.int i) H
theorem ok_checked_from (T : Txt K mg A) : FnOk P w K mg base CX0 5 A.f_checked_from A.d_checked_from ["least", "value"] (sp_checked_from A) := by
  refine T.F_checked_from.ok sc_checked_from (fun vs H Q E h => ?_) (fun cdv Ar outer s H vs Q E hr h => ?_)
  · obtain ⟨l, v, i, rfl, _⟩ := h
    rfl
  · obtain ⟨l, v, i, rfl, hv, hl, k⟩ := h
    have hu := hu_of hr
    refine ⟨_, (pss_cons (ps_set (i := 2) sc_checked_from.nd rfl (Or.inl rfl) (pe_call (ok_checked_integer T) (hr.mono (by decide)) rfl T.m_checked_integer T.F_checked_integer.kp T.b_checked_integer .nil pass0 (pa_cons (pv 1) pa_nil)))
      (pss_cons (ps_if (pt_cmpR op_lt (pv 2) (pv 0) (nomark _))
        (pss_one ps_never)
        pss_nil)
      (pss_one (ps_ret (pv 2))))), ?_⟩
    refine ⟨_, rfl, v, i, rfl, hv, ?_⟩
    refine ⟨_, rfl, _, rfl, _, _, rfl, rfl, _, rfl, ?_⟩
    rw [decide_eq_false (by omega)]
    refine iteF ?_
    exact ⟨_, rfl, k⟩
def sp_checked_pair (A : Ad) : Sp := fun vs H Q _ => ∃ (u v : V) (a b : Int), vs = [u, v] ∧ Num A H u a ∧ Num A H v b ∧ 1 ≤ b ∧ ∀ p H', H p = none → Same H H' → H' p = some (.tup [.int a, .int b]) → Q (.ref p) H'
def sp_Long___init__ (A : Ad) : Sp := fun vs H Q _ => ∃ (p dx : Addr) (v : V), vs = [.ref p, v] ∧ H p = some (.ins A.a_Long dx []) ∧ ∀ H', H' p = some (.ins A.a_Long dx [("number", v)]) → (∀ x o, H x = some o → x ≠ p → H' x = some o) → Q .non H'
theorem ok_Long___init__ (T : Txt K mg A) : FnOk P w K mg base CX0 1 A.f_Long___init__ A.d_Long___init__ ["self", "number"] (sp_Long___init__ A) := by
  refine T.F_Long___init__.ok sc_Long___init__ (fun vs H Q E h => ?_) (fun cdv Ar outer s H vs Q E hr h => ?_)
  · obtain ⟨p, dx, v, rfl, _⟩ := h
    rfl
  · obtain ⟨p, dx, v, rfl, hp, k⟩ := h
    have hu := hu_of hr
    refine ⟨_, (pss_one (ps_fld (pv 0) (pv 1) rfl)), ?_⟩
    refine ⟨_, rfl, _, rfl, p, A.a_Long, dx, [], rfl, hp, T.c_Long, T.na_Long_number, by show 0 < 1000; decide, ?_⟩
    exact k _ upd_same fun x o e ne => by rw [upd_ne ne]; exact e
end
end Tk

set_option maxHeartbeats 2000000
namespace Tk
open PySem PySem.Spec PyProof.Rows L2 Tc
section
variable {P : Program} {w : World} {K : PySem.W.Frag} {mg : Str → Option Value} {base : Heap} {A : Ad}
open Tm
local macro_rules | `(tactic| walk_at "arr") => `(tactic| first
  | with_reducible assumption
  | ((with_reducible apply same_new); with_reducible assumption))
local macro_rules | `(tactic| walk_at "f") => `(tactic| first
  | with_reducible assumption
  | with_reducible exact upd_same
  | with_reducible exact Same.refl _
  | with_reducible exact Frm.refl
  | ((with_reducible apply sqL_K); (focus with_reducible assumption); rfl)
  | ((with_reducible apply sqT_K); (focus with_reducible assumption); rfl)
  | ((with_reducible apply SqT.of); walk_at "f")
  | ((with_reducible apply SqL.of); walk_at "f")
  | ((with_reducible apply back_raw); (focus walk_at "arr"); walk_at "f")
  | ((with_reducible apply frm_tup); (focus with_reducible assumption); (focus walk_at "f"); (focus walk_at "f"); (focus (intro _ z; cases z; done)))
  | ((with_reducible apply frm_raw); (focus with_reducible assumption); (focus walk_at "f"); walk_at "f")
  | ((with_reducible apply bowl_back); (focus walk_at "arr"); walk_at "f")
  | ((with_reducible apply bowl_ne); (focus with_reducible assumption); walk_at "f")
  | ((with_reducible apply Num.int); with_reducible assumption)
  | ((with_reducible apply same_snoc); (focus walk_at "arr"); walk_at "f")
  | ((with_reducible apply frm_back); (focus walk_at "arr"); walk_at "f")
  | ((with_reducible apply frm_backF); (focus with_reducible assumption); walk_at "f")
  | ((with_reducible apply back_sqT); (focus walk_at "arr"); walk_at "f")
  | ((with_reducible apply same_sqL); (focus walk_at "arr"); walk_at "f")
  | ((with_reducible apply free_same); (focus with_reducible assumption); walk_at "f")
  | ((with_reducible apply free_frm); (focus with_reducible assumption); (focus with_reducible assumption); walk_at "f")
  | ((with_reducible apply frm_sqL); (focus with_reducible assumption); (focus walk_at "f"); walk_at "f"))
local macro_rules | `(tactic| walk_at "bt") => `(tactic| first
  | with_reducible assumption
  | ((with_reducible apply bt_mul); (focus walk_at "bt"); walk_at "bt")
  | ((with_reducible apply bt_add); (focus walk_at "bt"); walk_at "bt")
  | ((with_reducible apply bt_sub); (focus walk_at "bt"); walk_at "bt")
  | ((with_reducible apply bt_neg); walk_at "bt")
  | ((with_reducible apply bt_div); walk_at "bt")
  | ((with_reducible apply bt_mod); (focus (first | assumption | omega)); walk_at "bt")
  | exact bt_lit (n := 64) (by decide)
  | exact bt_lit (n := 200) (by decide +kernel))
local macro_rules | `(tactic| walk_at "lin") => `(tactic| first
  | exact (by decide : 1 ≤ sizeLine) | exact (by decide : 2 ≤ sizeLine) | exact (by decide : 3 ≤ sizeLine) | exact (by decide : 4 ≤ sizeLine) | exact (by decide : 0 ≤ sizeLine) | exact (by decide : 5 ≤ sizeLine) | exact (by decide : 6 ≤ sizeLine))
local macro_rules | `(tactic| walk_at "dp") => `(tactic| first
  | exact Dp.int _
  | exact DpAll.nil
  | ((with_reducible apply Dp.lst); (focus walk_at "f"); walk_at "dp")
  | ((with_reducible apply Dp.tup); (focus walk_at "f"); walk_at "dp")
  | ((with_reducible apply DpAll.cons); (focus walk_at "dp"); walk_at "dp"))
local macro_rules | `(tactic| walk_at "sv") => `(tactic| first
  | with_reducible rfl
  | walk_at "f"
  | exact rfl
  | walk_at "dp"
  | exact shp_lst [_] | exact shp_lst [_, _] | exact shp_lst [_, _, _] | exact shp_lst [_, _, _, _] | exact shp_tup [_, _] | exact shp_tup [_, _, _]
  | ((apply tyV_lst); walk_at "f")
  | ((with_reducible apply bt_mulW); (focus walk_at "bt"); (focus walk_at "bt"); (focus (first | decide | omega)))
  | ((with_reducible apply bt_divW); (focus (first | decide | assumption | omega)); (focus walk_at "bt"); (focus (first | decide | omega)))
  | ((with_reducible apply bt_divP); (focus (first | decide | assumption | omega)); (focus walk_at "bt"); (focus (first | decide | omega)))
  | exact ⟨by decide, by decide +kernel⟩
  | exact Or.inl (by decide)
  | exact Or.inr (by decide)
  | exact Or.inl ⟨by omega, by omega⟩
  | exact Or.inr ⟨by omega, by omega⟩
  | ((with_reducible apply Or.inl); walk_at "sv")
  | ((with_reducible apply Or.inr); walk_at "sv")
  | ((with_reducible apply Exists.intro); walk_at "sv")
  | ((with_reducible apply And.intro); (focus walk_at "sv"); walk_at "sv")
  | walk_at "lin"
  | decide
  | omega
  | (simp only [List.length_cons, List.length_nil, List.length_map]; first | done | omega))
local macro_rules | `(tactic| walk_at "one") => `(tactic| first
  | ((fail_if_success refine' @Exists.intro (Nat → L2.St → Hp → Prop) _ ?_ ?_); (fail_if_success refine' @Exists.intro (Nat → Nat → L2.St → Hp → Prop) _ ?_ ?_); (fail_if_success refine' @Exists.intro (L2.St → Hp → Prop) _ ?_ ?_); (fail_if_success refine' @Exists.intro (Nat → Nat → Hp → Prop) _ ?_ ?_); (fail_if_success refine' @Exists.intro (Hp → Prop) _ ?_ ?_); apply Exists.intro)
  | (apply And.intro; (focus walk_at "sv"))
  | intro _
  | (apply ifT; (focus rfl))
  | (apply ifF; (focus rfl))
  | ((apply Or.inl); (apply Exists.intro); (apply And.intro); (focus exact rfl))
  | ((apply Or.inl); (apply And.intro); (focus walk_at "f"))
  | ((apply Or.inr); (apply Exists.intro); (apply And.intro); (focus exact rfl))
  | (apply ifTd; (focus (first | assumption | omega)))
  | (apply ifFd; (focus (first | assumption | omega))))
local macro_rules | `(tactic| walk_at "go") => `(tactic| repeat walk_at "one")
local macro_rules | `(tactic| walk_at "nm") => `(tactic| try simp only [List.set_cons_zero, List.set_cons_succ])
local macro_rules | `(tactic| walk_at "gon") => `(tactic| repeat (walk_at "one"; walk_at "nm"))
theorem bits_gt {b : Int} (h : 0 < b) : 4 * b < 2 ^ (((Builtin.Int.intBits b : Nat) : Int) + 2).toNat := by
  have e : (((Builtin.Int.intBits b : Nat) : Int) + 2).toNat = Builtin.Int.intBits b + 2 := by omega
  rw [e]
  have e2 : Builtin.Int.intBits b = b.natAbs.log2 + 1 := by
    unfold Builtin.Int.intBits
    rw [if_neg (by intro z; have := eq_of_beq z; omega)]
  have l : b.natAbs < 2 ^ (b.natAbs.log2 + 1) := Nat.lt_log2_self
  rw [← e2] at l
  have e3 : (((2 : Nat) ^ (Builtin.Int.intBits b) : Nat) : Int) = 2 ^ (Builtin.Int.intBits b) := by norm_cast
  have e4 : (2 : Int) ^ (Builtin.Int.intBits b + 2) = 2 ^ (Builtin.Int.intBits b) * 4 := by
    rw [Int.pow_add]
    rfl
  omega
theorem bits_shl {x b : Int} (hx : x.natAbs < 2 ^ 500) (hb : b.natAbs < 2 ^ 500) : CShl x (((Builtin.Int.intBits b : Nat) : Int) + 2) := by
  have h := PyProof.Rows.intBits_le hb
  have c := shl_ok (i := x) (j := Builtin.Int.intBits b + 2) hx (by omega)
  exact c
def sp_inverse_or_none : Sp := fun vs H Q _ => ∃ a b : Int, vs = [.int a, .int b] ∧ 1 ≤ b ∧ b.natAbs < 2 ^ 500 ∧
  (Int.gcd a b = 1 → ∀ v, 0 ≤ v → v < b → b ∣ (a * v - 1) → Q (.int v) H) ∧ (Int.gcd a b ≠ 1 → Q .non H)
end
end Tk

set_option maxHeartbeats 2000000
namespace Tk
open PySem PySem.Spec PyProof.Rows L2 Tc
section
variable {P : Program} {w : World} {K : PySem.W.Frag} {mg : Str → Option Value} {base : Heap} {A : Ad}
open Tm
theorem gcd_div_num {x y : Int} (h : 0 < y) : x / ((Nat.gcd x.natAbs y.natAbs : Nat) : Int) = (Rat.divInt x y).num := by
  rw [Rat.num_divInt, Int.sign_eq_one_of_pos h, Int.one_mul, Int.gcd_comm]
  rfl
theorem gcd_div_den {x y : Int} (h : 0 < y) : y / ((Nat.gcd x.natAbs y.natAbs : Nat) : Int) = ((Rat.divInt x y).den : Int) := by
  rw [Rat.den_divInt, if_neg (by omega), Int.gcd_comm, Int.natCast_ediv, Int.natAbs_of_nonneg (by omega)]
  rfl
theorem gcd_div_num' {x y : Int} (h : y < 0) : (-x) / ((Nat.gcd x.natAbs y.natAbs : Nat) : Int) = (Rat.divInt x y).num := by
  have e := gcd_div_num (x := -x) (y := -y) (by omega)
  rw [Int.natAbs_neg, Int.natAbs_neg] at e
  rw [e, Rat.divInt_neg', Int.neg_neg]
theorem gcd_div_den' {x y : Int} (h : y < 0) : (-y) / ((Nat.gcd x.natAbs y.natAbs : Nat) : Int) = ((Rat.divInt x y).den : Int) := by
  have e := gcd_div_den (x := -x) (y := -y) (by omega)
  rw [Int.natAbs_neg, Int.natAbs_neg] at e
  rw [e, Rat.divInt_neg', Int.neg_neg]
/- what is handed to a ratio: two terms, and whether they are lowest -/
def trmL (n d : Int) (lo : Bool) : List (Str × V) := [("above", .int n), ("below", .int d), ("lowest", .bl lo)]
theorem trm_a {n d : Int} {lo : Bool} : (trmL n d lo).lookup ("above" : Str) = some (.int n) := lk_here
theorem trm_b {n d : Int} {lo : Bool} : (trmL n d lo).lookup ("below" : Str) = some (.int d) := (lk_past (by decide +kernel)).trans lk_here
theorem trm_l {n d : Int} {lo : Bool} : (trmL n d lo).lookup ("lowest" : Str) = some (.bl lo) := (lk_past (by decide +kernel)).trans ((lk_past (by decide +kernel)).trans lk_here)
def sp_Terms___init__ (A : Ad) : Sp := fun vs H Q _ => ∃ (p dx : Addr) (n d : Int) (lo : Bool), vs = [.ref p, .int n, .int d, .bl lo] ∧ H p = some (.ins A.a_Terms dx []) ∧ ∀ H', H' p = some (.ins A.a_Terms dx (trmL n d lo)) → (∀ x o, H x = some o → x ≠ p → H' x = some o) → Q .non H'
theorem ok_Terms___init__ (T : Txt K mg A) : FnOk P w K mg base CX0 1 A.f_Terms___init__ A.d_Terms___init__ ["self", "above", "below", "lowest"] (sp_Terms___init__ A) := by
  refine T.F_Terms___init__.ok sc_Terms___init__ (fun vs H Q E h => ?_) (fun cdv Ar outer s H vs Q E hr h => ?_)
  · obtain ⟨p, dx, n, d, lo, rfl, _⟩ := h
    rfl
  · obtain ⟨p, dx, n, d, lo, rfl, hp, k⟩ := h
    have hu := hu_of hr
    refine ⟨_, (pss_cons (ps_fld (pv 0) (pv 1) rfl)
      (pss_cons (ps_fld (pv 0) (pv 2) rfl)
      (pss_one (ps_fld (pv 0) (pv 3) rfl)))), ?_⟩
    refine ⟨_, rfl, _, rfl, p, A.a_Terms, dx, [], rfl, hp, T.c_Terms, T.na_Terms_above, by show 0 < 1000; decide, ?_⟩
    refine ⟨_, rfl, _, rfl, p, A.a_Terms, dx, _, rfl, upd_same, T.c_Terms, T.na_Terms_below, by show 1 < 1000; decide, ?_⟩
    rw [upd_upd]
    have e1 : putF "below" (.int d) (putF "above" (.int n) []) = ([("above", .int n), ("below", .int d)] : List (Str × V)) := (put_past (by decide +kernel)).trans rfl
    rw [e1]
    refine ⟨_, rfl, _, rfl, p, A.a_Terms, dx, _, rfl, upd_same, T.c_Terms, T.na_Terms_lowest, by show 2 < 1000; decide, ?_⟩
    rw [upd_upd]
    have e2 : putF "lowest" (.bl lo) [("above", .int n), ("below", .int d)] = trmL n d lo := (put_past (by decide +kernel)).trans (congrArg _ ((put_past (by decide +kernel)).trans rfl))
    rw [e2]
    exact k _ upd_same fun x o e ne => by rw [upd_ne ne]; exact e
def sp__lowest_terms (A : Ad) : Sp := fun vs H Q _ => ∃ x y : Int, vs = [.int x, .int y] ∧ y ≠ 0 ∧ y.natAbs < 2 ^ 8000 ∧ ∀ p dx H', H p = none → Same H H' → H' p = some (.ins A.a_Terms dx (trmL (Rat.divInt x y).num ((Rat.divInt x y).den : Int) true)) → Q (.ref p) H'
theorem ok__lowest_terms (T : Txt K mg A) : FnOk P w K mg base CX0 3 A.f__lowest_terms A.d__lowest_terms ["top", "bottom"] (sp__lowest_terms A) := by
  refine T.F__lowest_terms.ok sc__lowest_terms (fun vs H Q E h => ?_) (fun cdv Ar outer s H vs Q E hr h => ?_)
  · obtain ⟨x, y, rfl, _⟩ := h
    rfl
  · obtain ⟨x, y, rfl, h0, hy, k⟩ := h
    have hu := hu_of hr
    refine ⟨_, (pss_cons (ps_set (i := 2) sc__lowest_terms.nd rfl (Or.inl rfl) (pe_callBfun cr_gcd rfl T.m_gcd (pa_cons (pv 0) (pa_cons (pv 1) pa_nil))))
      (pss_cons (ps_if (pt_cmpR op_gt (pv 1) pe_int (nomark _))
        (pss_one (ps_ret (pe_make T.mk_Terms (ok_Terms___init__ T) (hr.mono (by decide)) rfl T.m_Terms T.b_Terms___init__ .nil pass0 (pa_cons (pe_op op_fdivW (pv 0) (pv 2)) (pa_cons (pe_op op_fdivW (pv 1) (pv 2)) (pa_cons pe_bl pa_nil))))))
        pss_nil)
      (pss_cons (ps_if (pt_cmpR op_eq (pv 1) pe_int (nomark _))
        (pss_one ps_never)
        pss_nil)
      (pss_one (ps_ret (pe_make T.mk_Terms (ok_Terms___init__ T) (hr.mono (by decide)) rfl T.m_Terms T.b_Terms___init__ .nil pass0 (pa_cons (pe_op op_fdivW (pe_un un_neg (pv 0)) (pv 2)) (pa_cons (pe_op op_fdivW (pe_un un_neg (pv 1)) (pv 2)) (pa_cons pe_bl pa_nil))))))))), ?_⟩
    have hg0 : 0 < Nat.gcd x.natAbs y.natAbs := Nat.gcd_pos_of_pos_right _ (by omega)
    have hgy : Nat.gcd x.natAbs y.natAbs ≤ y.natAbs := Nat.le_of_dvd (by omega) (Nat.gcd_dvd_right _ _)
    have hgb : Nat.gcd x.natAbs y.natAbs < 2 ^ 8000 := Nat.lt_of_le_of_lt hgy hy
    refine ⟨_, rfl, _, rfl, x, y, rfl, ?_⟩
    refine ⟨_, rfl, _, _, rfl, rfl, _, rfl, ?_⟩
    refine ite2 (fun h => ?_) (fun h => ?_)
    · have h : 0 < y := of_decide_eq_true h
      rw [← gcd_div_num h, ← gcd_div_den h] at k
      refine ⟨_, rfl, _, rfl, _, _, rfl, rfl, wide_div (b := 8000) (by omega) (by rw [Int.natAbs_natCast]; exact hgb) (by decide) (by decide), _, rfl, _, rfl, _, _, rfl, rfl, wide_div (b := 8000) (by omega) (by rw [Int.natAbs_natCast]; exact hgb) (by decide) (by decide), ?_⟩
      intro M dM nM ndM neM
      exact ⟨M, dM, _, _, _, rfl, upd_same, fun H1 m1 kp1 => ⟨rfl, k M dM H1 nM (made nM ndM kp1) m1⟩⟩
    · have h : y < 0 := by
        have : ¬ 0 < y := fun z => h (decide_eq_true z)
        omega
      rw [← gcd_div_num' h, ← gcd_div_den' h] at k
      refine ⟨_, rfl, rfl, _, rfl, ?_⟩
      refine ifF (decide_eq_false fun z => h0 (by injection z)) ?_
      refine ⟨_, rfl, _, rfl, _, rfl, _, _, rfl, rfl, wide_div (b := 8000) (by omega) (by rw [Int.natAbs_natCast]; exact hgb) (by decide) (by decide), _, rfl, _, rfl, _, rfl, _, _, rfl, rfl, wide_div (b := 8000) (by omega) (by rw [Int.natAbs_natCast]; exact hgb) (by decide) (by decide), ?_⟩
      intro M dM nM ndM neM
      exact ⟨M, dM, _, _, _, rfl, upd_same, fun H1 m1 kp1 => ⟨rfl, k M dM H1 nM (made nM ndM kp1) m1⟩⟩
def sp__checked_terms (A : Ad) : Sp := fun vs H Q _ => ∃ x y : Int, vs = [.int x, .int y] ∧ Short x ∧ Short y ∧ y ≠ 0 ∧ ∀ p dx H', H p = none → Same H H' → H' p = some (.ins A.a_Terms dx (trmL (Rat.divInt x y).num ((Rat.divInt x y).den : Int) true)) → Q (.ref p) H'
theorem short_8000 {y : Int} (h : Short y) : y.natAbs < 2 ^ 8000 := by
  obtain ⟨h1, h2⟩ := h
  have : y.natAbs < 10 ^ 60 := by omega
  exact Nat.lt_trans this (Nat.lt_of_lt_of_le (show 10 ^ 60 < 2 ^ 200 by decide +kernel) (Nat.pow_le_pow_right (by decide) (by decide)))
theorem ok__checked_terms (T : Txt K mg A) : FnOk P w K mg base CX0 4 A.f__checked_terms A.d__checked_terms ["top", "bottom"] (sp__checked_terms A) := by
  refine T.F__checked_terms.ok sc__checked_terms (fun vs H Q E h => ?_) (fun cdv Ar outer s H vs Q E hr h => ?_)
  · obtain ⟨x, y, rfl, _⟩ := h
    rfl
  · obtain ⟨x, y, rfl, hx, hy, h0, k⟩ := h
    have hu := hu_of hr
    refine ⟨_, (pss_cons (ps_if (PW.pt (pw_or (pt_not (pt_val (pe_call (ok_is_short_integer T) (hr.mono (by decide)) rfl T.m_is_short_integer T.F_is_short_integer.kp T.b_is_short_integer .nil pass0 (pa_cons (pv 0) pa_nil)))) (pw_or1 (pt_not (pt_val (pe_call (ok_is_short_integer T) (hr.mono (by decide)) rfl T.m_is_short_integer T.F_is_short_integer.kp T.b_is_short_integer .nil pass0 (pa_cons (pv 1) pa_nil)))))))
        (pss_one ps_never)
        pss_nil)
      (pss_one (ps_ret (pe_call (ok__lowest_terms T) (hr.mono (by decide)) rfl T.m__lowest_terms T.F__lowest_terms.kp T.b__lowest_terms .nil pass0 (pa_cons (pv 0) (pa_cons (pv 1) pa_nil)))))), ?_⟩
    refine ⟨_, rfl, _, rfl, .inl ⟨x, rfl, hx, _, rfl, ?_⟩⟩
    refine iteF ?_
    refine ⟨_, rfl, _, rfl, .inl ⟨y, rfl, hy, _, rfl, ?_⟩⟩
    refine iteF ?_
    exact ⟨_, rfl, _, rfl, x, y, rfl, h0, short_8000 hy, k⟩
/- a ratio at p, its terms as they lie -/
def ratL (n d : Int) (lo : Bool) : List (Str × V) := [("_top", .int n), ("_bottom", .int d), ("_is_lowest", .bl lo)]
def RatU (C : Addr) (H : Hp) (p : Addr) (n d : Int) (lo : Bool) : Prop := ∃ dx, H p = some (.ins C dx (ratL n d lo))
theorem RatU.stay {C : Addr} {H H' : Hp} {p : Addr} {n d : Int} {lo : Bool} (e : Sol H H') (L : RatU C H p n d lo) : RatU C H' p n d lo := by
  obtain ⟨dx, h⟩ := L
  exact ⟨dx, e _ _ h (fun _ z => by cases z)⟩
theorem rat_top {n d : Int} {lo : Bool} : (ratL n d lo).lookup ("_top" : Str) = some (.int n) := lk_here
theorem rat_bottom {n d : Int} {lo : Bool} : (ratL n d lo).lookup ("_bottom" : Str) = some (.int d) := (lk_past (by decide +kernel)).trans lk_here
theorem rat_low {n d : Int} {lo : Bool} : (ratL n d lo).lookup ("_is_lowest" : Str) = some (.bl lo) := (lk_past (by decide +kernel)).trans ((lk_past (by decide +kernel)).trans lk_here)
/- bounds of a fraction's digits -/
def Rsz (n : Nat) (q : Rat) : Prop := q.num.natAbs < 2 ^ n ∧ q.den < 2 ^ n
theorem Rsz.mono {m n : Nat} {q : Rat} (h : Rsz m q) (e : m ≤ n) : Rsz n q := ⟨Nat.lt_of_lt_of_le h.1 (Nat.pow_le_pow_right (by decide) e), Nat.lt_of_lt_of_le h.2 (Nat.pow_le_pow_right (by decide) e)⟩
/- two terms of a number -/
structure Rq (k : Nat) (n d : Int) (lo : Bool) (q : Rat) : Prop where
  d0 : 0 < d
  e : Rat.divInt n d = q
  low : lo = true → n = q.num ∧ d = (q.den : Int)
  bn : n.natAbs < 2 ^ k
  bd : d.natAbs < 2 ^ k
theorem Rq.lowest {k : Nat} {q : Rat} (z : Rsz k q) : Rq k q.num (q.den : Int) true q := ⟨by have := q.den_nz; omega, Rat.num_divInt_den q, fun _ => ⟨rfl, rfl⟩, z.1, by rw [Int.natAbs_natCast]; exact z.2⟩
theorem Rq.mono {k j : Nat} {n d : Int} {lo : Bool} {q : Rat} (h : Rq k n d lo q) (l : k ≤ j) : Rq j n d lo q := ⟨h.d0, h.e, h.low, Nat.lt_of_lt_of_le h.bn (Nat.pow_le_pow_right (by decide) l), Nat.lt_of_lt_of_le h.bd (Nat.pow_le_pow_right (by decide) l)⟩
def RatB (k : Nat) (C : Addr) (H : Hp) (p : Addr) (q : Rat) : Prop := ∃ n d lo, RatU C H p n d lo ∧ Rq k n d lo q
theorem RatB.stay {k : Nat} {C : Addr} {H H' : Hp} {p : Addr} {q : Rat} (e : Sol H H') (L : RatB k C H p q) : RatB k C H' p q := by
  obtain ⟨n, d, lo, u, r⟩ := L
  exact ⟨n, d, lo, u.stay e, r⟩
theorem RatB.mono {k j : Nat} {C : Addr} {H : Hp} {p : Addr} {q : Rat} (L : RatB k C H p q) (l : k ≤ j) : RatB j C H p q := by
  obtain ⟨n, d, lo, u, r⟩ := L
  exact ⟨n, d, lo, u, r.mono l⟩
theorem RatB.ins {k : Nat} {C : Addr} {H : Hp} {p : Addr} {q : Rat} (h : RatB k C H p q) : ∃ dx fs, H p = some (.ins C dx fs) := by
  obtain ⟨n, d, lo, ⟨dx, h⟩, _⟩ := h
  exact ⟨dx, _, h⟩
/- a ratio at p in lowest terms -/
def RatAt (C : Addr) (H : Hp) (p : Addr) (q : Rat) : Prop := RatU C H p q.num (q.den : Int) true
theorem RatAt.stay {C : Addr} {H H' : Hp} {p : Addr} {q : Rat} (e : Sol H H') (L : RatAt C H p q) : RatAt C H' p q := RatU.stay e L
theorem RatAt.b {k : Nat} {C : Addr} {H : Hp} {p : Addr} {q : Rat} (L : RatAt C H p q) (z : Rsz k q) : RatB k C H p q := ⟨_, _, _, L, Rq.lowest z⟩
theorem RatAt.ins {C : Addr} {H : Hp} {p : Addr} {q : Rat} (h : RatAt C H p q) : ∃ dx fs, H p = some (.ins C dx fs) := by
  obtain ⟨dx, h⟩ := h
  exact ⟨dx, _, h⟩
/- what a ratio is made of -/
inductive Pay (A : Ad) (H : Hp) : V → V → Int → Int → Bool → Prop where
  | two {x y : Int} {q : Rat} (hx : Short x) (hy : Short y) (h0 : y ≠ 0) (hq : Rat.divInt x y = q) : Pay A H (.int x) (.int y) q.num (q.den : Int) true
  | trm {t dx : Addr} {v : V} {n d : Int} {lo : Bool} (h : H t = some (.ins A.a_Terms dx (trmL n d lo))) : Pay A H (.ref t) v n d lo
def sp_Ratio___init__ (A : Ad) : Sp := fun vs H Q _ => ∃ (p dx : Addr) (u v : V) (n d : Int) (lo : Bool), vs = [.ref p, u, v] ∧ H p = some (.ins A.a_Ratio dx []) ∧ Pay A H u v n d lo ∧
  ∀ H', RatU A.a_Ratio H' p n d lo → (∀ x o, H x = some o → x ≠ p → H' x = some o) → Q .non H'
theorem ok_Ratio___init__ (T : Txt K mg A) : FnOk P w K mg base CX0 6 A.f_Ratio___init__ A.d_Ratio___init__ ["self", "top", "bottom"] (sp_Ratio___init__ A) := by
  refine T.F_Ratio___init__.ok sc_Ratio___init__ (fun vs H Q E h => ?_) (fun cdv Ar outer s H vs Q E hr h => ?_)
  · obtain ⟨p, dx, u, v, n, d, lo, rfl, _⟩ := h
    rfl
  · obtain ⟨p, dx, vu, vv, n, d, lo, rfl, hp, ha, k⟩ := h
    have hu := hu_of hr
    refine ⟨_, (pss_cons (ps_set (i := 3) sc_Ratio___init__.nd rfl (Or.inl rfl) (pe_ifExp (pt_val (pe_callB call_isi (by rfl) T.b_isinstance (by decide +kernel) (pa_cons (pv 1) (pa_cons (pe_glob rfl T.m_Terms (rel_ref _)) pa_nil)))) (pv 1) (pe_call (ok__checked_terms T) (hr.mono (by decide)) rfl T.m__checked_terms T.F__checked_terms.kp T.b__checked_terms .nil pass0 (pa_cons (pv 1) (pa_cons (pv 2) pa_nil)))))
      (pss_cons (ps_fld (pv 0) (pe_fld (pv 3) rfl) rfl)
      (pss_cons (ps_fld (pv 0) (pe_fld (pv 3) rfl) rfl)
      (pss_one (ps_fld (pv 0) (pe_fld (pv 3) rfl) rfl))))), ?_⟩
    have fin : ∀ (t dt : Addr) (H1 : Hp), Same H H1 → Q .non (upd H1 p (.ins A.a_Ratio dx (ratL n d lo))) := fun t dt H1 s1 =>
      k _ ⟨dx, upd_same⟩ fun z o e ne => by rw [upd_ne ne]; exact s1 z o e
    have e1 : ∀ {x y : V}, putF "_bottom" x (putF "_top" y []) = ([("_top", y), ("_bottom", x)] : List (Str × V)) := (put_past (by decide +kernel)).trans rfl
    have e2 : ∀ {x y z : V}, putF "_is_lowest" z [("_top", y), ("_bottom", x)] = ([("_top", y), ("_bottom", x), ("_is_lowest", z)] : List (Str × V)) := (put_past (by decide +kernel)).trans (congrArg _ ((put_past (by decide +kernel)).trans rfl))
    cases ha with
    | @two x y q hx hy h0 hq =>
      subst hq
      refine ⟨_, rfl, _, _, _, _, false, rfl, .own A.a_Terms, .base (.int x), kit_own T.ic_Terms T.ty_Terms (by decide +kernel), _, rfl, ?_⟩
      refine iteF ?_
      refine ⟨_, rfl, _, rfl, x, y, rfl, hx, hy, h0, fun t dt H1 nt s1 g1 => ?_⟩
      have hp1 := s1 _ _ hp
      have npt : t ≠ p := by
        rintro rfl
        rw [nt] at hp
        cases hp
      refine ⟨_, rfl, t, A.a_Terms, dt, _, _, rfl, g1, T.c_Terms, T.na_Terms_above, trm_a, _, rfl, p, A.a_Ratio, dx, [], rfl, hp1, T.c_Ratio, T.na_Ratio__top, by show 0 < 1000; decide, ?_⟩
      have g2 : ∀ o, (upd H1 p o) t = some (.ins A.a_Terms dt (trmL (Rat.divInt x y).num ((Rat.divInt x y).den : Int) true)) := fun o => by rw [upd_ne npt]; exact g1
      refine ⟨_, rfl, t, A.a_Terms, dt, _, _, rfl, g2 _, T.c_Terms, T.na_Terms_below, trm_b, _, rfl, p, A.a_Ratio, dx, _, rfl, upd_same, T.c_Ratio, T.na_Ratio__bottom, by show 1 < 1000; decide, ?_⟩
      rw [upd_upd, e1]
      refine ⟨_, rfl, t, A.a_Terms, dt, _, _, rfl, g2 _, T.c_Terms, T.na_Terms_lowest, trm_l, _, rfl, p, A.a_Ratio, dx, _, rfl, upd_same, T.c_Ratio, T.na_Ratio__is_lowest, by show 2 < 1000; decide, ?_⟩
      rw [upd_upd, e2]
      exact fin t dt H1 s1
    | @trm t dt v n d lo g1 =>
      have npt : t ≠ p := by
        rintro rfl
        rw [g1] at hp
        have z := Option.some.inj hp
        injection z with z1 z2 z3
        cases z3
      refine ⟨_, rfl, _, _, _, _, true, rfl, .own A.a_Terms, ty_ins g1 T.c_Terms T.cl_Terms T.ob_Terms T, kit_self, _, rfl, ?_⟩
      refine iteT ?_
      refine ⟨_, rfl, ?_⟩
      refine ⟨_, rfl, t, A.a_Terms, dt, _, _, rfl, g1, T.c_Terms, T.na_Terms_above, trm_a, _, rfl, p, A.a_Ratio, dx, [], rfl, hp, T.c_Ratio, T.na_Ratio__top, by show 0 < 1000; decide, ?_⟩
      have g2 : ∀ o, (upd H p o) t = some (.ins A.a_Terms dt (trmL n d lo)) := fun o => by rw [upd_ne npt]; exact g1
      refine ⟨_, rfl, t, A.a_Terms, dt, _, _, rfl, g2 _, T.c_Terms, T.na_Terms_below, trm_b, _, rfl, p, A.a_Ratio, dx, _, rfl, upd_same, T.c_Ratio, T.na_Ratio__bottom, by show 1 < 1000; decide, ?_⟩
      rw [upd_upd, e1]
      refine ⟨_, rfl, t, A.a_Terms, dt, _, _, rfl, g2 _, T.c_Terms, T.na_Terms_lowest, trm_l, _, rfl, p, A.a_Ratio, dx, _, rfl, upd_same, T.c_Ratio, T.na_Ratio__is_lowest, by show 2 < 1000; decide, ?_⟩
      rw [upd_upd, e2]
      exact fin t dt H (Same.refl H)
/- a number: a ratio, or an int of at most sixty digits -/
inductive Rn (A : Ad) (k : Nat) (H : Hp) : V → Rat → Prop where
  | rat {p : Addr} {q : Rat} (h : RatB k A.a_Ratio H p q) : Rn A k H (.ref p) q
  | int {i : Int} (h : Short i) : Rn A k H (.int i) (i : Rat)
theorem Rn.stay {k : Nat} {H H' : Hp} {v : V} {q : Rat} (e : Sol H H') (n : Rn A k H v q) : Rn A k H' v q := by
  cases n with
  | rat h => exact .rat (h.stay e)
  | int h => exact .int h
theorem short_bits {k : Nat} (hk : 200 ≤ k) {y : Int} (h : Short y) : y.natAbs < 2 ^ k := by
  obtain ⟨h1, h2⟩ := h
  have : y.natAbs < 10 ^ 60 := by omega
  exact Nat.lt_of_lt_of_le (Nat.lt_trans this (show 10 ^ 60 < 2 ^ 200 by decide +kernel)) (Nat.pow_le_pow_right (by decide) hk)
def sp__plain_terms_of (A : Ad) : Sp := fun vs H Q _ => ∃ (v : V) (k : Nat) (q : Rat), vs = [v] ∧ Rn A k H v q ∧ 200 ≤ k ∧ ∀ p n d lo H', H p = none → Same H H' → H' p = some (.tup [.int n, .int d]) → Rq k n d lo q → Q (.ref p) H'
def sp_ratio_of (A : Ad) : Sp := fun vs H Q _ => ∃ x y : Int, vs = [.int x, .int y] ∧ y ≠ 0 ∧ y.natAbs < 2 ^ 8000 ∧ ∀ p H', Same H H' → RatAt A.a_Ratio H' p (Rat.divInt x y) → Q (.ref p) H'
theorem ok_ratio_of (T : Txt K mg A) : FnOk P w K mg base CX0 8 A.f_ratio_of A.d_ratio_of ["top", "bottom"] (sp_ratio_of A) := by
  refine T.F_ratio_of.ok sc_ratio_of (fun vs H Q E h => ?_) (fun cdv Ar outer s H vs Q E hr h => ?_)
  · obtain ⟨x, y, rfl, _⟩ := h
    rfl
  · obtain ⟨x, y, rfl, h0, hy, k⟩ := h
    have hu := hu_of hr
    refine ⟨_, (pss_one (ps_ret (pe_make T.mk_Ratio (ok_Ratio___init__ T) (hr.mono (by decide)) rfl T.m_Ratio T.b1_Ratio___init__.choose_spec.2 T.b1_Ratio___init__.choose_spec.1 pass0 (pa_cons (pe_call (ok__lowest_terms T) (hr.mono (by decide)) rfl T.m__lowest_terms T.F__lowest_terms.kp T.b__lowest_terms .nil pass0 (pa_cons (pv 0) (pa_cons (pv 1) pa_nil))) pa_nil)))), ?_⟩
    refine ⟨_, rfl, _, rfl, x, y, rfl, h0, hy, fun t dt H1 nt s1 g1 => ?_⟩
    intro L dL nL ndL neL
    have up := same_up (C := A.a_Ratio) nL ndL
    exact ⟨L, dL, _, _, _, _, _, rfl, upd_same, .trm (up _ _ g1), fun H3 L3 kp3 => ⟨rfl, k L H3 (s1.trans (made nL ndL kp3)) L3⟩⟩
def sp_unreduced_ratio (A : Ad) : Sp := fun vs H Q _ => ∃ (x y : Int) (k : Nat), vs = [.int x, .int y] ∧ 0 < y ∧ x.natAbs < 2 ^ k ∧ y.natAbs < 2 ^ k ∧ ∀ p H', Same H H' → RatB k A.a_Ratio H' p (Rat.divInt x y) → Q (.ref p) H'
theorem divInt_small {x y : Int} {k : Nat} (h : y ≠ 0) (hx : x.natAbs < 2 ^ k) (hy : y.natAbs < 2 ^ k) : Rsz k (Rat.divInt x y) := by
  rcases Int.lt_or_lt_of_ne h with z | z
  · have e1 := gcd_div_num' (x := x) z
    have e2 := gcd_div_den' (x := x) z
    have g0 : 0 < Nat.gcd x.natAbs y.natAbs := Nat.gcd_pos_of_pos_right _ (by omega)
    refine ⟨?_, ?_⟩
    · rw [← e1]
      have := Int.natAbs_ediv_le_natAbs (-x) ((Nat.gcd x.natAbs y.natAbs : Nat) : Int)
      omega
    · have := Int.natAbs_ediv_le_natAbs (-y) ((Nat.gcd x.natAbs y.natAbs : Nat) : Int)
      rw [e2] at this
      omega
  · have e1 := gcd_div_num (x := x) z
    have e2 := gcd_div_den (x := x) z
    refine ⟨?_, ?_⟩
    · rw [← e1]
      have := Int.natAbs_ediv_le_natAbs x ((Nat.gcd x.natAbs y.natAbs : Nat) : Int)
      omega
    · have := Int.natAbs_ediv_le_natAbs y ((Nat.gcd x.natAbs y.natAbs : Nat) : Int)
      rw [e2] at this
      omega
theorem Rq.sz {k : Nat} {n d : Int} {lo : Bool} {q : Rat} (h : Rq k n d lo q) : Rsz k q := by
  rw [← h.e]
  have := h.d0
  exact divInt_small (by omega) h.bn h.bd
theorem den_mul {a b : Int} (h1 : 0 < a) (h2 : 0 < b) : a * b ≠ 0 := Int.mul_ne_zero (by omega) (by omega)
theorem den_bits {a b : Int} (h1 : a.natAbs < 2 ^ 4000) (h2 : b.natAbs < 2 ^ 4000) : (a * b).natAbs < 2 ^ 8000 := wide_lt h1 h2
def sp_Ratio_top (A : Ad) : Sp := fun vs H Q _ => ∃ (p : Addr) (q : Rat), vs = [.ref p] ∧ RatB 4000 A.a_Ratio H p q ∧ Q (.int q.num) H
theorem ok_Ratio_top (T : Txt K mg A) : FnOk P w K mg base CX0 2 A.f_Ratio_top A.d_Ratio_top ["self"] (sp_Ratio_top A) := by
  refine T.F_Ratio_top.ok sc_Ratio_top (fun vs H Q E h => ?_) (fun cdv Ar outer s H vs Q E hr h => ?_)
  · obtain ⟨p, q, rfl, _⟩ := h
    rfl
  · obtain ⟨p, q, rfl, ⟨n, d, lo, ⟨dx, L⟩, r⟩, k⟩ := h
    have hu := hu_of hr
    refine ⟨_, (pss_one (ps_ret (pe_ifExp (pt_val (pe_fld (pv 0) rfl)) (pe_fld (pv 0) rfl) (pe_op op_fdivW (pe_fld (pv 0) rfl) (pe_callBfun cr_gcd rfl T.m_gcd (pa_cons (pe_fld (pv 0) rfl) (pa_cons (pe_fld (pv 0) rfl) pa_nil))))))), ?_⟩
    refine ⟨_, rfl, p, A.a_Ratio, dx, _, _, rfl, L, T.c_Ratio, T.na_Ratio__is_lowest, rat_low, _, rfl, ?_⟩
    cases lo with
    | true =>
      refine iteT ?_
      rw [← (r.low rfl).1] at k
      exact ⟨_, rfl, p, A.a_Ratio, dx, _, _, rfl, L, T.c_Ratio, T.na_Ratio__top, rat_top, k⟩
    | false =>
      refine iteF ?_
      have d0 := r.d0
      have e := gcd_div_num (x := n) d0
      rw [r.e] at e
      rw [← e] at k
      have g0 : 0 < Nat.gcd n.natAbs d.natAbs := Nat.gcd_pos_of_pos_right _ (by omega)
      have gb : Nat.gcd n.natAbs d.natAbs < 2 ^ 4000 := Nat.lt_of_le_of_lt (Nat.le_of_dvd (by omega) (Nat.gcd_dvd_right _ _)) r.bd
      refine ⟨_, rfl, p, A.a_Ratio, dx, _, _, rfl, L, T.c_Ratio, T.na_Ratio__top, rat_top, _, rfl, p, A.a_Ratio, dx, _, _, rfl, L, T.c_Ratio, T.na_Ratio__top, rat_top, _, rfl, p, A.a_Ratio, dx, _, _, rfl, L, T.c_Ratio, T.na_Ratio__bottom, rat_bottom, n, d, rfl, _, _, rfl, rfl, wide_div (b := 4000) (by omega) (by rw [Int.natAbs_natCast]; exact gb) (by decide) (by decide), k⟩
def sp_Ratio_bottom (A : Ad) : Sp := fun vs H Q _ => ∃ (p : Addr) (q : Rat), vs = [.ref p] ∧ RatB 4000 A.a_Ratio H p q ∧ Q (.int (q.den : Int)) H
theorem ok_Ratio_bottom (T : Txt K mg A) : FnOk P w K mg base CX0 2 A.f_Ratio_bottom A.d_Ratio_bottom ["self"] (sp_Ratio_bottom A) := by
  refine T.F_Ratio_bottom.ok sc_Ratio_bottom (fun vs H Q E h => ?_) (fun cdv Ar outer s H vs Q E hr h => ?_)
  · obtain ⟨p, q, rfl, _⟩ := h
    rfl
  · obtain ⟨p, q, rfl, ⟨n, d, lo, ⟨dx, L⟩, r⟩, k⟩ := h
    have hu := hu_of hr
    refine ⟨_, (pss_one (ps_ret (pe_ifExp (pt_val (pe_fld (pv 0) rfl)) (pe_fld (pv 0) rfl) (pe_op op_fdivW (pe_fld (pv 0) rfl) (pe_callBfun cr_gcd rfl T.m_gcd (pa_cons (pe_fld (pv 0) rfl) (pa_cons (pe_fld (pv 0) rfl) pa_nil))))))), ?_⟩
    refine ⟨_, rfl, p, A.a_Ratio, dx, _, _, rfl, L, T.c_Ratio, T.na_Ratio__is_lowest, rat_low, _, rfl, ?_⟩
    cases lo with
    | true =>
      refine iteT ?_
      rw [← (r.low rfl).2] at k
      exact ⟨_, rfl, p, A.a_Ratio, dx, _, _, rfl, L, T.c_Ratio, T.na_Ratio__bottom, rat_bottom, k⟩
    | false =>
      refine iteF ?_
      have d0 := r.d0
      have e := gcd_div_den (x := n) d0
      rw [r.e] at e
      rw [← e] at k
      have g0 : 0 < Nat.gcd n.natAbs d.natAbs := Nat.gcd_pos_of_pos_right _ (by omega)
      have gb : Nat.gcd n.natAbs d.natAbs < 2 ^ 4000 := Nat.lt_of_le_of_lt (Nat.le_of_dvd (by omega) (Nat.gcd_dvd_right _ _)) r.bd
      refine ⟨_, rfl, p, A.a_Ratio, dx, _, _, rfl, L, T.c_Ratio, T.na_Ratio__bottom, rat_bottom, _, rfl, p, A.a_Ratio, dx, _, _, rfl, L, T.c_Ratio, T.na_Ratio__top, rat_top, _, rfl, p, A.a_Ratio, dx, _, _, rfl, L, T.c_Ratio, T.na_Ratio__bottom, rat_bottom, n, d, rfl, _, _, rfl, rfl, wide_div (b := 4000) (by omega) (by rw [Int.natAbs_natCast]; exact gb) (by decide) (by decide), k⟩
def sp_Ratio___add__ (A : Ad) : Sp := fun vs H Q _ => ∃ (p : Addr) (v : V) (q r : Rat), vs = [.ref p, v] ∧ RatB 4000 A.a_Ratio H p q ∧ Rn A 4000 H v r ∧ ∀ p H', Same H H' → RatAt A.a_Ratio H' p (q + r) → Q (.ref p) H'
def sp_Ratio___sub__ (A : Ad) : Sp := fun vs H Q _ => ∃ (p : Addr) (v : V) (q r : Rat), vs = [.ref p, v] ∧ RatB 4000 A.a_Ratio H p q ∧ Rn A 4000 H v r ∧ ∀ p H', Same H H' → RatAt A.a_Ratio H' p (q - r) → Q (.ref p) H'
def sp_Ratio___mul__ (A : Ad) : Sp := fun vs H Q _ => ∃ (p : Addr) (v : V) (q r : Rat), vs = [.ref p, v] ∧ RatB 4000 A.a_Ratio H p q ∧ Rn A 4000 H v r ∧ ∀ p H', Same H H' → RatAt A.a_Ratio H' p (q * r) → Q (.ref p) H'
def sp_Ratio_over (A : Ad) : Sp := fun vs H Q _ => ∃ (p : Addr) (v : V) (q r : Rat), vs = [.ref p, v] ∧ RatB 4000 A.a_Ratio H p q ∧ Rn A 4000 H v r ∧ r ≠ 0 ∧ ∀ p H', Same H H' → RatAt A.a_Ratio H' p (q / r) → Q (.ref p) H'
def sp_Ratio___neg__ (A : Ad) : Sp := fun vs H Q _ => ∃ (p : Addr) (q : Rat), vs = [.ref p] ∧ RatB 4000 A.a_Ratio H p q ∧ ∀ p H', Same H H' → RatB 4000 A.a_Ratio H' p (-q) → Q (.ref p) H'
theorem Rn.side {k : Nat} {H : Hp} {v : V} {q : Rat} (n : Rn A k H v q) : (∃ b dy gs, v = .ref b ∧ H b = some (.ins A.a_Ratio dy gs)) ∨ ∃ i : Int, v = .int i := by
  cases n with
  | @rat p q h =>
    obtain ⟨dx, fs, e⟩ := h.ins
    exact .inl ⟨p, dx, fs, rfl, e⟩
  | @int i h => exact .inr ⟨i, rfl⟩
def sp_Ratio___radd__ (A : Ad) : Sp := sp_Ratio___add__ A
def sp_Ratio___rmul__ (A : Ad) : Sp := sp_Ratio___mul__ A
def sp_Ratio___rsub__ (A : Ad) : Sp := fun vs H Q _ => ∃ (p : Addr) (v : V) (q r : Rat), vs = [.ref p, v] ∧ RatB 4000 A.a_Ratio H p q ∧ Rn A 4000 H v r ∧ ∀ p H', Same H H' → RatAt A.a_Ratio H' p (r - q) → Q (.ref p) H'
theorem rq_eq {k : Nat} {n d n2 d2 : Int} {lo lo2 : Bool} {q r : Rat} (z1 : Rq k n d lo q) (z2 : Rq k n2 d2 lo2 r) : decide (n * d2 = n2 * d) = decide (q = r) := by
  have h := Rat.divInt_eq_divInt_iff (n₁ := n) (n₂ := n2) (d₁ := d) (d₂ := d2) (by have := z1.d0; omega) (by have := z2.d0; omega)
  rw [z1.e, z2.e] at h
  by_cases e : q = r
  · rw [decide_eq_true e, decide_eq_true (h.mp e)]
  · rw [decide_eq_false e, decide_eq_false (fun z => e (h.mpr z))]
theorem rq_int {i : Int} (h : i.natAbs < 2 ^ 4000) : Rq 4000 i 1 true (i : Rat) := ⟨by decide, Rat.num_divInt_den (i : Rat), fun _ => ⟨rfl, rfl⟩, h, Nat.one_lt_two_pow (by decide)⟩
def sp_Ratio___eq__ (A : Ad) : Sp := fun vs H Q _ => ∃ (p : Addr) (y : V) (q : Rat), vs = [.ref p, y] ∧ RatB 4000 A.a_Ratio H p q ∧
  ((∃ m r, y = .ref m ∧ RatB 4000 A.a_Ratio H m r ∧ Q (.bl (decide (q = r))) H) ∨ (∃ i : Int, y = .int i ∧ i.natAbs < 2 ^ 4000 ∧ Q (.bl (decide (q = (i : Rat)))) H))
end
end Tk

set_option maxHeartbeats 2000000
namespace Tk
open PySem PySem.Spec PyProof.Rows L2 Tc
section
variable {P : Program} {w : World} {K : PySem.W.Frag} {mg : Str → Option Value} {base : Heap} {A : Ad}
open Tm
local macro_rules | `(tactic| walk_at "arr") => `(tactic| first
  | with_reducible assumption
  | ((with_reducible apply same_new); with_reducible assumption))
local macro_rules | `(tactic| walk_at "f") => `(tactic| first
  | with_reducible assumption
  | with_reducible exact upd_same
  | with_reducible exact Same.refl _
  | with_reducible exact Frm.refl
  | ((with_reducible apply sqL_K); (focus with_reducible assumption); rfl)
  | ((with_reducible apply sqT_K); (focus with_reducible assumption); rfl)
  | ((with_reducible apply SqT.of); walk_at "f")
  | ((with_reducible apply SqL.of); walk_at "f")
  | ((with_reducible apply back_raw); (focus walk_at "arr"); walk_at "f")
  | ((with_reducible apply frm_tup); (focus with_reducible assumption); (focus walk_at "f"); (focus walk_at "f"); (focus (intro _ z; cases z; done)))
  | ((with_reducible apply frm_raw); (focus with_reducible assumption); (focus walk_at "f"); walk_at "f")
  | ((with_reducible apply bowl_back); (focus walk_at "arr"); walk_at "f")
  | ((with_reducible apply bowl_ne); (focus with_reducible assumption); walk_at "f")
  | ((with_reducible apply Num.int); with_reducible assumption)
  | ((with_reducible apply same_snoc); (focus walk_at "arr"); walk_at "f")
  | ((with_reducible apply frm_back); (focus walk_at "arr"); walk_at "f")
  | ((with_reducible apply frm_backF); (focus with_reducible assumption); walk_at "f")
  | ((with_reducible apply back_sqT); (focus walk_at "arr"); walk_at "f")
  | ((with_reducible apply same_sqL); (focus walk_at "arr"); walk_at "f")
  | ((with_reducible apply free_same); (focus with_reducible assumption); walk_at "f")
  | ((with_reducible apply free_frm); (focus with_reducible assumption); (focus with_reducible assumption); walk_at "f")
  | ((with_reducible apply frm_sqL); (focus with_reducible assumption); (focus walk_at "f"); walk_at "f"))
local macro_rules | `(tactic| walk_at "bt") => `(tactic| first
  | with_reducible assumption
  | ((with_reducible apply bt_mul); (focus walk_at "bt"); walk_at "bt")
  | ((with_reducible apply bt_add); (focus walk_at "bt"); walk_at "bt")
  | ((with_reducible apply bt_sub); (focus walk_at "bt"); walk_at "bt")
  | ((with_reducible apply bt_neg); walk_at "bt")
  | ((with_reducible apply bt_div); walk_at "bt")
  | ((with_reducible apply bt_mod); (focus (first | assumption | omega)); walk_at "bt")
  | exact bt_lit (n := 64) (by decide)
  | exact bt_lit (n := 200) (by decide +kernel))
local macro_rules | `(tactic| walk_at "lin") => `(tactic| first
  | exact (by decide : 1 ≤ sizeLine) | exact (by decide : 2 ≤ sizeLine) | exact (by decide : 3 ≤ sizeLine) | exact (by decide : 4 ≤ sizeLine) | exact (by decide : 0 ≤ sizeLine) | exact (by decide : 5 ≤ sizeLine) | exact (by decide : 6 ≤ sizeLine))
local macro_rules | `(tactic| walk_at "dp") => `(tactic| first
  | exact Dp.int _
  | exact DpAll.nil
  | ((with_reducible apply Dp.lst); (focus walk_at "f"); walk_at "dp")
  | ((with_reducible apply Dp.tup); (focus walk_at "f"); walk_at "dp")
  | ((with_reducible apply DpAll.cons); (focus walk_at "dp"); walk_at "dp"))
local macro_rules | `(tactic| walk_at "sv") => `(tactic| first
  | with_reducible rfl
  | walk_at "f"
  | exact rfl
  | walk_at "dp"
  | exact shp_lst [_] | exact shp_lst [_, _] | exact shp_lst [_, _, _] | exact shp_lst [_, _, _, _] | exact shp_tup [_, _] | exact shp_tup [_, _, _]
  | ((apply tyV_lst); walk_at "f")
  | ((with_reducible apply bt_mulW); (focus walk_at "bt"); (focus walk_at "bt"); (focus (first | decide | omega)))
  | ((with_reducible apply bt_divW); (focus (first | decide | assumption | omega)); (focus walk_at "bt"); (focus (first | decide | omega)))
  | ((with_reducible apply bt_divP); (focus (first | decide | assumption | omega)); (focus walk_at "bt"); (focus (first | decide | omega)))
  | exact ⟨by decide, by decide +kernel⟩
  | exact Or.inl (by decide)
  | exact Or.inr (by decide)
  | exact Or.inl ⟨by omega, by omega⟩
  | exact Or.inr ⟨by omega, by omega⟩
  | ((with_reducible apply Or.inl); walk_at "sv")
  | ((with_reducible apply Or.inr); walk_at "sv")
  | ((with_reducible apply Exists.intro); walk_at "sv")
  | ((with_reducible apply And.intro); (focus walk_at "sv"); walk_at "sv")
  | walk_at "lin"
  | decide
  | omega
  | (simp only [List.length_cons, List.length_nil, List.length_map]; first | done | omega))
local macro_rules | `(tactic| walk_at "one") => `(tactic| first
  | ((fail_if_success refine' @Exists.intro (Nat → L2.St → Hp → Prop) _ ?_ ?_); (fail_if_success refine' @Exists.intro (Nat → Nat → L2.St → Hp → Prop) _ ?_ ?_); (fail_if_success refine' @Exists.intro (L2.St → Hp → Prop) _ ?_ ?_); (fail_if_success refine' @Exists.intro (Nat → Nat → Hp → Prop) _ ?_ ?_); (fail_if_success refine' @Exists.intro (Hp → Prop) _ ?_ ?_); apply Exists.intro)
  | (apply And.intro; (focus walk_at "sv"))
  | intro _
  | (apply ifT; (focus rfl))
  | (apply ifF; (focus rfl))
  | ((apply Or.inl); (apply Exists.intro); (apply And.intro); (focus exact rfl))
  | ((apply Or.inl); (apply And.intro); (focus walk_at "f"))
  | ((apply Or.inr); (apply Exists.intro); (apply And.intro); (focus exact rfl))
  | (apply ifTd; (focus (first | assumption | omega)))
  | (apply ifFd; (focus (first | assumption | omega))))
local macro_rules | `(tactic| walk_at "go") => `(tactic| repeat walk_at "one")
local macro_rules | `(tactic| walk_at "nm") => `(tactic| try simp only [List.set_cons_zero, List.set_cons_succ])
local macro_rules | `(tactic| walk_at "gon") => `(tactic| repeat (walk_at "one"; walk_at "nm"))
theorem rat_back {C : Addr} {H H' : Hp} {p : Addr} {q : Rat} (e : Same H H') (L : RatAt C H p q) : RatAt C H' p q := L.stay (same_sol e)
theorem rat_frm {C x : Addr} {H H' : Hp} {p : Addr} {q : Rat} (e : Frm x H H') (B : Bowl H x) (L : RatAt C H p q) : RatAt C H' p q := L.stay (sol_frm e B)
theorem rat_raw {C : Addr} {H : Hp} {p : Addr} {q : Rat} (L : RatAt C H p q) : H p = some (.ins C (dxOf H p) (fsOf H p)) := ins_raw L.ins
theorem ratu_back {C : Addr} {H H' : Hp} {p : Addr} {n d : Int} {lo : Bool} (e : Same H H') (L : RatU C H p n d lo) : RatU C H' p n d lo := L.stay (same_sol e)
theorem ratu_frm {C x : Addr} {H H' : Hp} {p : Addr} {n d : Int} {lo : Bool} (e : Frm x H H') (B : Bowl H x) (L : RatU C H p n d lo) : RatU C H' p n d lo := L.stay (sol_frm e B)
theorem ratb_back {k : Nat} {C : Addr} {H H' : Hp} {p : Addr} {q : Rat} (e : Same H H') (L : RatB k C H p q) : RatB k C H' p q := L.stay (same_sol e)
theorem ratb_frm {k : Nat} {C x : Addr} {H H' : Hp} {p : Addr} {q : Rat} (e : Frm x H H') (B : Bowl H x) (L : RatB k C H p q) : RatB k C H' p q := L.stay (sol_frm e B)
theorem ratb_raw {k : Nat} {C : Addr} {H : Hp} {p : Addr} {q : Rat} (L : RatB k C H p q) : H p = some (.ins C (dxOf H p) (fsOf H p)) := ins_raw L.ins
theorem ratb_at {k : Nat} {C : Addr} {H : Hp} {p : Addr} {q : Rat} (L : RatAt C H p q) (z : Rsz k q) : RatB k C H p q := L.b z
theorem ratb_u {k : Nat} {C : Addr} {H : Hp} {p : Addr} {q : Rat} (L : RatU C H p q.num (q.den : Int) true) (z : Rsz k q) : RatB k C H p q := RatAt.b L z
theorem rat_over_none {n d : Int} {lo : Bool} : List.lookup ("over" : Str) (ratL n d lo) = none := (lk_past (by decide +kernel)).trans ((lk_past (by decide +kernel)).trans (lk_past (by decide +kernel)))
theorem ratu_no_over {C : Addr} {H : Hp} {p : Addr} {n d : Int} {lo : Bool} (L : RatU C H p n d lo) : List.lookup ("over" : Str) (fsOf H p) = none := by
  obtain ⟨dx, h⟩ := L
  unfold fsOf
  rw [h]
  exact rat_over_none
theorem ty_rat (T : Txt K mg A) {H : Hp} {p : Addr} {q : Rat} (L : RatAt A.a_Ratio H p q) : TyX K H (.ref p) (.ref A.a_Ratio) := by
  obtain ⟨dx, fs, g⟩ := L.ins
  exact ty_ins g T.c_Ratio T.cl_Ratio T.ob_Ratio T
theorem ty_ratb (T : Txt K mg A) {H : Hp} {k : Nat} {p : Addr} {q : Rat} (L : RatB k A.a_Ratio H p q) : TyX K H (.ref p) (.ref A.a_Ratio) := by
  obtain ⟨dx, fs, g⟩ := L.ins
  exact ty_ins g T.c_Ratio T.cl_Ratio T.ob_Ratio T
theorem nf_K {K' : PySem.W.Frag} {C : Addr} {t : Value} (h : PySem.W.notFirst K C t = true) (e : K = K') : PySem.W.notFirst K' C t = true := e ▸ h
theorem nf_self {C : Addr} : PySem.W.notFirst K C (.ref C) = true := by simp [PySem.W.notFirst]
local macro_rules | `(tactic| walk_at "arr") => `(tactic| first
  | ((with_reducible apply made2); (focus with_reducible assumption); (focus with_reducible assumption); with_reducible assumption)
  | ((with_reducible apply same_up); (focus with_reducible assumption); with_reducible assumption))
local macro_rules | `(tactic| walk_at "f") => `(tactic| first
  | ((with_reducible apply Num.long); walk_at "f")
  | ((with_reducible apply ratu_back); (focus walk_at "arr"); walk_at "f")
  | ((with_reducible apply ratu_frm); (focus with_reducible assumption); (focus walk_at "f"); walk_at "f")
  | ((with_reducible apply rat_back); (focus walk_at "arr"); walk_at "f")
  | ((with_reducible apply rat_frm); (focus with_reducible assumption); (focus walk_at "f"); walk_at "f")
  | ((with_reducible apply ratb_u); (focus walk_at "f"); with_reducible assumption)
  | ((with_reducible apply ratb_at); (focus walk_at "f"); with_reducible assumption)
  | ((with_reducible apply ratb_back); (focus walk_at "arr"); walk_at "f")
  | ((with_reducible apply ratb_frm); (focus with_reducible assumption); (focus walk_at "f"); walk_at "f")
  | ((with_reducible apply Rn.rat); walk_at "f")
  | ((with_reducible apply Rn.int); with_reducible assumption)
  | ((with_reducible apply rat_raw); walk_at "f")
  | ((with_reducible apply ratb_raw); walk_at "f"))
local macro_rules | `(tactic| walk_at "f") => `(tactic| first
  | ((apply ty_rat); (focus assumption); walk_at "f")
  | ((apply ty_ratb); (focus assumption); walk_at "f")
  | exact nf_self
  | exact TyX.base (.int _)
  | ((with_reducible apply Pay.two); (focus with_reducible assumption); (focus with_reducible assumption); (focus (first | with_reducible assumption | decide)); (first | with_reducible assumption | rfl))
  | ((with_reducible apply nf_K); (focus with_reducible assumption); rfl)
  | exact bt_lit (by decide +kernel))
local macro_rules | `(tactic| walk_at "one") => `(tactic| ((apply Or.inl); (apply Exists.intro); (apply Exists.intro); (apply And.intro); (focus exact rfl)))
def sp__rest_total : Sp := fun vs H Q _ => ∃ (n a c m : Int), vs = [.int n, .int a, .int c, .int m] ∧ 0 ≤ n ∧ 1 ≤ m ∧ Bt 300 n ∧ Bt 300 a ∧ Bt 300 c ∧ Bt 300 m ∧
  ∀ H', Same H H' → Q (.int (sm (rs a c m) n.toNat)) H'
def sp_rest_total (A : Ad) : Sp := fun vs H Q _ => ∃ (u v x y : V) (n a c m : Int), vs = [u, v, x, y] ∧ Num A H u n ∧ Num A H v a ∧ Num A H x c ∧ Num A H y m ∧ 0 ≤ n ∧ 1 ≤ m ∧ Bt 300 n ∧ Bt 300 a ∧ Bt 300 c ∧ Bt 300 m ∧
  ∀ H', Same H H' → Q (.int (sm (rs a c m) n.toNat)) H'
def sp__steps : Sp := fun vs H Q _ => ∃ (b a : Int), vs = [.int b, .int a] ∧ 0 ≤ a ∧ a < b ∧ Bt 900 b ∧
  ∀ t m f c x H', H t = none → Same H H' → H' t = some (.tup [.int m, .int f, .int c, .int x]) → StO a b m f c x → Q (.ref t) H'
theorem ok__steps (T : Txt K mg A) : FnOk P w K mg base CX0 1 A.f__steps A.d__steps ["upper", "lower"] sp__steps := by
  refine T.F__steps.ok sc__steps (fun vs H Q E h => ?_) (fun cdv Ar outer s H vs Q E hr h => ?_)
  · obtain ⟨_, _, rfl, _⟩ := h
    rfl
  · obtain ⟨b, a, rfl, a0, a1, bb, k⟩ := h
    have hu := hu_of hr
    refine ⟨_, (pss_cons (ps_asg (pe_tup (pa_cons pe_int (pa_cons pe_int (pa_cons pe_int pa_nil)))) (pg_tup rfl (pgs_cons (pg_name (i := 2) sc__steps.nd rfl (Or.inl rfl)) (pgs_cons (pg_name (i := 3) sc__steps.nd rfl (Or.inl rfl)) (pgs_cons (pg_name (i := 4) sc__steps.nd rfl (Or.inl rfl)) pgs_nil)))))
      (pss_cons (ps_while PassesOwn.never (pt_truth (pv 1) (fun _ => rfl))
        (pss_cons (ps_set (i := 5) sc__steps.nd rfl (Or.inl rfl) (pe_op op_fdivW (pv 0) (pv 1)))
          (pss_cons (ps_set (i := 0) sc__steps.nd rfl (Or.inl rfl) (pe_op op_mod (pv 0) (pv 1)))
          (pss_cons (ps_if (pt_not (pt_truth (pv 0) (fun _ => rfl)))
            (pss_one (ps_ret (pe_tup (pa_cons (pe_op op_add (pv 2) (pv 5)) (pa_cons (pv 4) (pa_cons (pv 1) (pa_cons (pe_un un_neg pe_int) pa_nil)))))))
            pss_nil)
          (pss_cons (ps_set (i := 3) sc__steps.nd rfl (Or.inl rfl) (pe_op op_add (pv 3) (pe_op op_mulW (pv 5) (pv 4))))
          (pss_cons (ps_set (i := 6) sc__steps.nd rfl (Or.inl rfl) (pe_op op_fdivW (pv 1) (pv 0)))
          (pss_cons (ps_set (i := 1) sc__steps.nd rfl (Or.inl rfl) (pe_op op_mod (pv 1) (pv 0)))
          (pss_cons (ps_set (i := 4) sc__steps.nd rfl (Or.inl rfl) (pe_op op_add (pv 4) (pe_op op_mulW (pv 6) (pv 3))))
          (pss_one (ps_set (i := 2) sc__steps.nd rfl (Or.inl rfl) (pe_op op_sub (pe_op op_add (pv 2) (pv 5)) (pv 6))))))))))))
      (pss_one (ps_ret (pe_tup (pa_cons (pv 2) (pa_cons (pe_un un_neg (pv 3)) (pa_cons (pv 0) (pa_cons pe_int pa_nil))))))))), ?_⟩
    have S0 := StI.start a0 a1
    walk_at "go"
    rename_i tp htp
    refine ⟨fun m' σ H' => Stop (∃ (alt bef las u l : Int) (v5 v6 : Option V), m' = l.toNat ∧ σ = [some (.int u), some (.int l), some (.int alt), some (.int bef), some (.int las), v5, v6] ∧ Same H H' ∧ StI a b (gc a b) alt bef las u l), ⟨_, ⟨_, _, _, _, _, _, _, rfl, rfl, same_new htp, S0⟩⟩, ?_⟩
    rintro m' σ H1 ⟨⟨alt, bef, las, u, l, v5, v6, rfl, rfl, s1, S⟩⟩
    have l0 := S.l0
    have lu := S.lu
    have sl := S.las_le
    have b0 := S.b0
    have sp := S.s0
    have bs := S.bs
    have bl : Bt 900 l := bt_le l0 (by omega) bb
    have bu : Bt 900 u := bt_le (by omega) sl.2 bb
    have bla : Bt 900 las := bt_le (by omega) sl.1 bb
    have bbe : Bt 900 bef := bt_le b0 (by omega) bb
    walk_at "go"
    refine ite2 (fun h => ?_) (fun h => ?_)
    · have hl : 0 < l := by
        rcases Int.lt_or_eq_of_le l0 with z | z
        · exact z
        · rw [← z] at h
          cases h
      refine pass_body ?_
      walk_at "go"
      refine ite2 (fun h2 => ?_) (fun h2 => ?_)
      · have hu : u % l = 0 := by
          by_cases z : u % l = 0
          · exact z
          · exfalso
            rw [show (u % l != 0) = true from by rw [bne_iff_ne]; exact z] at h2
            cases h2
        have O := S.endA rfl hl hu
        walk_at "go"
        exact k _ _ _ _ _ _ (by walk_at "f") (by walk_at "f") upd_same O
      · have hu0 := Int.emod_nonneg u (show l ≠ 0 by omega)
        have hu : 0 < u % l := by
          rcases Int.lt_or_eq_of_le hu0 with z | z
          · exact z
          · exfalso
            rw [← z] at h2
            exact h2 rfl
        have S2 := S.go hl hu
        have bm : Bt 900 (u % l) := bt_mod hl bl
        have bd : Bt 901 (u / l) := bt_div bu
        have bd2 : Bt 901 (l / (u % l)) := bt_div bl
        have lt := Int.emod_lt_of_pos l hu
        have lt2 := Int.emod_lt_of_pos u hl
        walk_at "go"
        exact ⟨_, (show (l % (u % l)).toNat < l.toNat by omega), ⟨_, _, _, _, _, _, _, rfl, rfl, s1, S2⟩⟩
    · have hl : l = 0 := by
        by_cases z : l = 0
        · exact z
        · exact absurd (by rw [bne_iff_ne]; exact z) h
      subst hl
      have O := S.endB rfl
      walk_at "go"
      exact k _ _ _ _ _ _ (by walk_at "f") (by walk_at "f") upd_same O
end
end Tk

set_option maxHeartbeats 2000000
namespace Tk
open PySem PySem.Spec PyProof.Rows L2 Tc
section
variable {P : Program} {w : World} {K : PySem.W.Frag} {mg : Str → Option Value} {base : Heap} {A : Ad}
open Tm
local macro_rules | `(tactic| walk_at "arr") => `(tactic| first
  | with_reducible assumption
  | ((with_reducible apply same_new); with_reducible assumption))
local macro_rules | `(tactic| walk_at "f") => `(tactic| first
  | with_reducible assumption
  | with_reducible exact upd_same
  | with_reducible exact Same.refl _
  | with_reducible exact Frm.refl
  | ((with_reducible apply sqL_K); (focus with_reducible assumption); rfl)
  | ((with_reducible apply sqT_K); (focus with_reducible assumption); rfl)
  | ((with_reducible apply SqT.of); walk_at "f")
  | ((with_reducible apply SqL.of); walk_at "f")
  | ((with_reducible apply back_raw); (focus walk_at "arr"); walk_at "f")
  | ((with_reducible apply frm_tup); (focus with_reducible assumption); (focus walk_at "f"); (focus walk_at "f"); (focus (intro _ z; cases z; done)))
  | ((with_reducible apply frm_raw); (focus with_reducible assumption); (focus walk_at "f"); walk_at "f")
  | ((with_reducible apply bowl_back); (focus walk_at "arr"); walk_at "f")
  | ((with_reducible apply bowl_ne); (focus with_reducible assumption); walk_at "f")
  | ((with_reducible apply Num.int); with_reducible assumption)
  | ((with_reducible apply same_snoc); (focus walk_at "arr"); walk_at "f")
  | ((with_reducible apply frm_back); (focus walk_at "arr"); walk_at "f")
  | ((with_reducible apply frm_backF); (focus with_reducible assumption); walk_at "f")
  | ((with_reducible apply back_sqT); (focus walk_at "arr"); walk_at "f")
  | ((with_reducible apply same_sqL); (focus walk_at "arr"); walk_at "f")
  | ((with_reducible apply free_same); (focus with_reducible assumption); walk_at "f")
  | ((with_reducible apply free_frm); (focus with_reducible assumption); (focus with_reducible assumption); walk_at "f")
  | ((with_reducible apply frm_sqL); (focus with_reducible assumption); (focus walk_at "f"); walk_at "f"))
local macro_rules | `(tactic| walk_at "bt") => `(tactic| first
  | with_reducible assumption
  | ((with_reducible apply bt_mul); (focus walk_at "bt"); walk_at "bt")
  | ((with_reducible apply bt_add); (focus walk_at "bt"); walk_at "bt")
  | ((with_reducible apply bt_sub); (focus walk_at "bt"); walk_at "bt")
  | ((with_reducible apply bt_neg); walk_at "bt")
  | ((with_reducible apply bt_div); walk_at "bt")
  | ((with_reducible apply bt_mod); (focus (first | assumption | omega)); walk_at "bt")
  | exact bt_lit (n := 64) (by decide)
  | exact bt_lit (n := 200) (by decide +kernel))
local macro_rules | `(tactic| walk_at "lin") => `(tactic| first
  | exact (by decide : 1 ≤ sizeLine) | exact (by decide : 2 ≤ sizeLine) | exact (by decide : 3 ≤ sizeLine) | exact (by decide : 4 ≤ sizeLine) | exact (by decide : 0 ≤ sizeLine) | exact (by decide : 5 ≤ sizeLine) | exact (by decide : 6 ≤ sizeLine))
local macro_rules | `(tactic| walk_at "dp") => `(tactic| first
  | exact Dp.int _
  | exact DpAll.nil
  | ((with_reducible apply Dp.lst); (focus walk_at "f"); walk_at "dp")
  | ((with_reducible apply Dp.tup); (focus walk_at "f"); walk_at "dp")
  | ((with_reducible apply DpAll.cons); (focus walk_at "dp"); walk_at "dp"))
local macro_rules | `(tactic| walk_at "sv") => `(tactic| first
  | with_reducible rfl
  | walk_at "f"
  | exact rfl
  | walk_at "dp"
  | exact shp_lst [_] | exact shp_lst [_, _] | exact shp_lst [_, _, _] | exact shp_lst [_, _, _, _] | exact shp_tup [_, _] | exact shp_tup [_, _, _]
  | ((apply tyV_lst); walk_at "f")
  | ((with_reducible apply bt_mulW); (focus walk_at "bt"); (focus walk_at "bt"); (focus (first | decide | omega)))
  | ((with_reducible apply bt_divW); (focus (first | decide | assumption | omega)); (focus walk_at "bt"); (focus (first | decide | omega)))
  | ((with_reducible apply bt_divP); (focus (first | decide | assumption | omega)); (focus walk_at "bt"); (focus (first | decide | omega)))
  | exact ⟨by decide, by decide +kernel⟩
  | exact Or.inl (by decide)
  | exact Or.inr (by decide)
  | exact Or.inl ⟨by omega, by omega⟩
  | exact Or.inr ⟨by omega, by omega⟩
  | ((with_reducible apply Or.inl); walk_at "sv")
  | ((with_reducible apply Or.inr); walk_at "sv")
  | ((with_reducible apply Exists.intro); walk_at "sv")
  | ((with_reducible apply And.intro); (focus walk_at "sv"); walk_at "sv")
  | walk_at "lin"
  | decide
  | omega
  | (simp only [List.length_cons, List.length_nil, List.length_map]; first | done | omega))
local macro_rules | `(tactic| walk_at "one") => `(tactic| first
  | ((fail_if_success refine' @Exists.intro (Nat → L2.St → Hp → Prop) _ ?_ ?_); (fail_if_success refine' @Exists.intro (Nat → Nat → L2.St → Hp → Prop) _ ?_ ?_); (fail_if_success refine' @Exists.intro (L2.St → Hp → Prop) _ ?_ ?_); (fail_if_success refine' @Exists.intro (Nat → Nat → Hp → Prop) _ ?_ ?_); (fail_if_success refine' @Exists.intro (Hp → Prop) _ ?_ ?_); apply Exists.intro)
  | (apply And.intro; (focus walk_at "sv"))
  | intro _
  | (apply ifT; (focus rfl))
  | (apply ifF; (focus rfl))
  | ((apply Or.inl); (apply Exists.intro); (apply And.intro); (focus exact rfl))
  | ((apply Or.inl); (apply And.intro); (focus walk_at "f"))
  | ((apply Or.inr); (apply Exists.intro); (apply And.intro); (focus exact rfl))
  | (apply ifTd; (focus (first | assumption | omega)))
  | (apply ifFd; (focus (first | assumption | omega))))
local macro_rules | `(tactic| walk_at "go") => `(tactic| repeat walk_at "one")
local macro_rules | `(tactic| walk_at "nm") => `(tactic| try simp only [List.set_cons_zero, List.set_cons_succ])
local macro_rules | `(tactic| walk_at "gon") => `(tactic| repeat (walk_at "one"; walk_at "nm"))
theorem bits_gtT {b : Int} (h : 0 < b) : 4 * b < 2 ^ (((Builtin.Int.intBits b : Nat) : Int) + 2).toNat := by
  have e : (((Builtin.Int.intBits b : Nat) : Int) + 2).toNat = Builtin.Int.intBits b + 2 := by omega
  rw [e]
  have e2 : Builtin.Int.intBits b = b.natAbs.log2 + 1 := by
    unfold Builtin.Int.intBits
    rw [if_neg (by intro z; have := eq_of_beq z; omega)]
  have l : b.natAbs < 2 ^ (b.natAbs.log2 + 1) := Nat.lt_log2_self
  rw [← e2] at l
  have e3 : (((2 : Nat) ^ (Builtin.Int.intBits b) : Nat) : Int) = 2 ^ (Builtin.Int.intBits b) := by norm_cast
  have e4 : (2 : Int) ^ (Builtin.Int.intBits b + 2) = 2 ^ (Builtin.Int.intBits b) * 4 := by
    rw [Int.pow_add]
    rfl
  omega
theorem bits_le {b : Int} (hb : Bt 900 b) : (((Builtin.Int.intBits b : Nat) : Int) + 2).toNat ≤ 902 := by
  have h := PyProof.Rows.intBits_le hb
  omega
theorem bits_shlT {x b : Int} (hx : Bt 900 x) (hb : Bt 900 b) : CShl x (((Builtin.Int.intBits b : Nat) : Int) + 2) := by
  have h := PyProof.Rows.intBits_le hb
  have c := shl_ok (i := x) (j := Builtin.Int.intBits b + 2) hx (by omega)
  exact c
theorem sto_bits {a b m f c x : Int} (O : StO a b m f c x) (b0 : 0 < b) (bb : Bt 900 b) : Bt 900 c ∧ Bt 900 f ∧ Bt 902 m ∧ Bt 64 x := by
  have c0 : 0 < c := by rw [← O.hc]; exact gc_pos (by omega)
  have c1' : c ≤ b := by
    rw [← O.hc]
    exact Int.le_of_dvd (by omega) (gc_r ..)
  have f0 := O.f0
  have f1 := O.f1
  have m0 := O.m0
  have m1 := O.m1
  have bb2 : b.natAbs < 2 ^ 900 := bb
  refine ⟨bt_le (by omega) c1' bb, ?_, ?_, ?_⟩
  · show f.natAbs < 2 ^ 900
    omega
  · show m.natAbs < 2 ^ 902
    have e : (2 : Nat) ^ 902 = 2 ^ 900 * 4 := by rw [Nat.pow_add 2 900 2]
    rw [e]
    generalize (2 : Nat) ^ 900 = z at *
    omega
  · rcases O.t0 with z | z <;> subst z <;> exact bt_lit (by decide)
theorem tt_bits {a b : Int} (b0 : 0 < b) (bb : Bt 900 b) : (Tm.TT a b).natAbs < 2 ^ 2000 := by
  have a0 := Int.emod_nonneg a (show b ≠ 0 by omega)
  have a1 := Int.emod_lt_of_pos a b0
  obtain ⟨m, f, c, x, O⟩ := sto_ex a0 a1
  obtain ⟨bc, bf, bm, bx⟩ := sto_bits O b0 bb
  rw [← TT_mod b0, ← O.hT]
  have h : Bt 2000 ((m + x) * b + a % b + f * c) := Bt.mono (bt_addm (n := 1868) (bt_addm (n := 1867) (bt_mul (bt_add bm bx) bb) ((bt_mod b0 bb).mono (by decide))) ((bt_mul bf bc).mono (by decide))) (by decide)
  exact h
local macro_rules | `(tactic| walk_at "arr") => `(tactic| first
  | ((with_reducible apply made2); (focus with_reducible assumption); (focus with_reducible assumption); with_reducible assumption)
  | ((with_reducible apply same_up); (focus with_reducible assumption); with_reducible assumption))
local macro_rules | `(tactic| walk_at "f") => `(tactic| first
  | ((with_reducible apply Num.long); walk_at "f")
  | ((with_reducible apply ratu_back); (focus walk_at "arr"); walk_at "f")
  | ((with_reducible apply ratu_frm); (focus with_reducible assumption); (focus walk_at "f"); walk_at "f")
  | ((with_reducible apply rat_back); (focus walk_at "arr"); walk_at "f")
  | ((with_reducible apply rat_frm); (focus with_reducible assumption); (focus walk_at "f"); walk_at "f")
  | ((with_reducible apply ratb_u); (focus walk_at "f"); with_reducible assumption)
  | ((with_reducible apply ratb_at); (focus walk_at "f"); with_reducible assumption)
  | ((with_reducible apply ratb_back); (focus walk_at "arr"); walk_at "f")
  | ((with_reducible apply ratb_frm); (focus with_reducible assumption); (focus walk_at "f"); walk_at "f")
  | ((with_reducible apply Rn.rat); walk_at "f")
  | ((with_reducible apply Rn.int); with_reducible assumption)
  | ((with_reducible apply rat_raw); walk_at "f")
  | ((with_reducible apply ratb_raw); walk_at "f"))
local macro_rules | `(tactic| walk_at "f") => `(tactic| first
  | ((apply ty_rat); (focus assumption); walk_at "f")
  | ((apply ty_ratb); (focus assumption); walk_at "f")
  | exact nf_self
  | exact TyX.base (.int _)
  | ((with_reducible apply Pay.two); (focus with_reducible assumption); (focus with_reducible assumption); (focus (first | with_reducible assumption | decide)); (first | with_reducible assumption | rfl))
  | ((with_reducible apply nf_K); (focus with_reducible assumption); rfl)
  | exact bt_lit (by decide +kernel))
local macro_rules | `(tactic| walk_at "one") => `(tactic| ((apply Or.inl); (apply Exists.intro); (apply Exists.intro); (apply And.intro); (focus exact rfl)))
def sp__long_sum_top : Sp := fun vs H Q _ => ∃ (b a : Int), vs = [.int b, .int a] ∧ 0 ≤ a ∧ a < b ∧ Bt 900 b ∧ ∀ H', Same H H' → Q (.int (TT a b)) H'
theorem ok__long_sum_top (T : Txt K mg A) : FnOk P w K mg base CX0 3 A.f__long_sum_top A.d__long_sum_top ["b", "rest"] sp__long_sum_top := by
  refine T.F__long_sum_top.ok sc__long_sum_top (fun vs H Q E h => ?_) (fun cdv Ar outer s H vs Q E hr h => ?_)
  · obtain ⟨_, _, rfl, _⟩ := h
    rfl
  · obtain ⟨b, a, rfl, a0, a1, bb, k⟩ := h
    have hu := hu_of hr
    refine ⟨_, (pss_cons (ps_set (i := 2) sc__long_sum_top.nd rfl (Or.inl rfl) (pe_op op_add (pe_bits (pv 0)) pe_int))
      (pss_cons (ps_par (i := 3) (j := 4) (by rfl) sc__long_sum_top.nd rfl rfl (by decide) rfl rfl (pa_cons (pe_op op_shlW (pv 0) (pv 2)) (pa_cons (pe_op op_add (pe_op op_shlW (pv 1) (pv 2)) pe_int) pa_nil)) (by rfl))
      (pss_cons (ps_set (i := 5) sc__long_sum_top.nd rfl (Or.inl rfl) pe_int)
      (pss_cons (ps_set (i := 6) sc__long_sum_top.nd rfl (Or.inl rfl) (pe_op op_shlW (pe_glob rfl T.m__SHORT.choose_spec (rel_int _ _)) (pv 2)))
      (pss_cons (ps_while PassesOwn.never (pt_cmpR op_gt (pv 4) (pv 6) (nomark _))
        (pss_cons (ps_asg (pe_callB call_divmodW (by rfl) T.b_divmod (by decide +kernel) (pa_cons (pv 3) (pa_cons (pv 4) pa_nil))) (pg_tup rfl (pgs_cons (pg_name (i := 7) sc__long_sum_top.nd rfl (Or.inl rfl)) (pgs_cons (pg_name (i := 3) sc__long_sum_top.nd rfl (Or.inl rfl)) pgs_nil))))
          (pss_cons (ps_asg (pe_callB call_divmodW (by rfl) T.b_divmod (by decide +kernel) (pa_cons (pv 4) (pa_cons (pv 3) pa_nil))) (pg_tup rfl (pgs_cons (pg_name (i := 8) sc__long_sum_top.nd rfl (Or.inl rfl)) (pgs_cons (pg_name (i := 4) sc__long_sum_top.nd rfl (Or.inl rfl)) pgs_nil))))
          (pss_one (ps_set (i := 5) sc__long_sum_top.nd rfl (Or.inl rfl) (pe_op op_sub (pe_op op_add (pv 5) (pv 7)) (pv 8)))))))
      (pss_cons (ps_par (i := 9) (j := 10) (by rfl) sc__long_sum_top.nd rfl rfl (by decide) rfl rfl (pa_cons (pe_un un_neg (pe_op op_shr (pe_un un_neg (pv 3)) (pv 2))) (pa_cons (pe_op op_shr (pv 4) (pv 2)) pa_nil)) (by rfl))
      (pss_cons (ps_asg (pe_call (ok__steps T) (hr.mono (by decide)) rfl T.m__steps T.F__steps.kp T.b__steps .nil pass0 (pa_cons (pv 9) (pa_cons (pv 10) pa_nil))) (pg_tup rfl (pgs_cons (pg_name (i := 11) sc__long_sum_top.nd rfl (Or.inl rfl)) (pgs_cons (pg_name (i := 12) sc__long_sum_top.nd rfl (Or.inl rfl)) (pgs_cons (pg_name (i := 13) sc__long_sum_top.nd rfl (Or.inl rfl)) (pgs_cons (pg_name (i := 14) sc__long_sum_top.nd rfl (Or.inl rfl)) pgs_nil))))))
      (pss_cons (ps_set (i := 15) sc__long_sum_top.nd rfl (Or.inl rfl) (pe_op op_sub (pe_op op_add (pe_op op_mulW (pe_op op_fdivW (pe_op op_sub (pv 13) (pe_op op_mulW (pv 12) (pv 10))) (pv 9)) (pv 3)) (pe_op op_mulW (pv 12) (pv 4))) (pe_op op_shlW (pv 13) (pv 2))))
      (pss_one (ps_ret (pe_op op_add (pe_op op_add (pe_op op_mulW (pe_op op_add (pe_op op_add (pv 5) (pv 11)) (pv 14)) (pv 0)) (pv 1)) (pe_op op_mulW (pv 15) (pv 13))))))))))))), ?_⟩
    have ba : Bt 900 a := bt_le a0 (by omega) bb
    have c1 := bits_shlT bb bb
    have c2 := bits_shlT ba bb
    have c3 := bits_shlT (x := 2 ^ 30) (bt_lit (by decide +kernel)) bb
    have hB := bits_gtT (b := b) (by omega)
    have lbits := bits_le bb
    have P0 := pk_start (Bt := 2 ^ (((Builtin.Int.intBits b : Nat) : Int) + 2).toNat) a0 a1
    generalize hbits : (((Builtin.Int.intBits b : Nat) : Int) + 2) = bits at *
    have st : L2.start n__long_sum_top [V.int b, V.int a] = [some (.int b), some (.int a), none, none, none, none, none, none, none, none, none, none, none, none, none, none] := rfl
    rw [st]
    walk_at "gon"
    simp only [hbits]
    walk_at "gon"
    refine ⟨fun m' σ H' => Stop (∃ (alt U L : Int) (v7 v8 : Option V), m' = L.toNat ∧ σ = [some (.int b), some (.int a), some (.int bits), some (.int U), some (.int L), some (.int alt), some (.int (2 ^ 30 * 2 ^ bits.toNat)), v7, v8, none, none, none, none, none, none, none] ∧ Same H H' ∧ (Pk a b (2 ^ bits.toNat) (gc a b) alt U L ∨ PkE a b (2 ^ bits.toNat) (gc a b) alt U L)), ⟨_, ⟨_, _, _, _, _, rfl, rfl, Same.refl _, .inl P0⟩⟩, ?_⟩
    rintro m' σ H1 ⟨⟨alt, U, L, v7, v8, rfl, rfl, s1, S⟩⟩
    obtain ⟨u, l, hu, hl, l0, lu, ub, al0, al1, L0, U0, U1, L1, fin⟩ := pk_fin hB rfl S
    have bB : Bt 903 (2 ^ bits.toNat : Int) := by
      show ((2 ^ bits.toNat : Int)).natAbs < 2 ^ 903
      rw [Int.natAbs_pow]
      exact Nat.pow_lt_pow_right (by decide) (by omega)
    have bbB := bt_mul bb bB
    have bU : Bt 1803 U := bt_le U0 U1 bbB
    have bL : Bt 1803 L := bt_le L0 L1 bbB
    have bp : 0 < (2 ^ bits.toNat : Int) := Int.pow_pos (by decide)
    have bits0 : 0 ≤ bits := by omega
    walk_at "gon"
    refine ite2 (fun h => ?_) (fun h => ?_)
    · have h : 2 ^ 30 * 2 ^ bits.toNat < L := of_decide_eq_true h
      have h3 : 2 * (2 ^ bits.toNat : Int) ≤ 2 ^ 30 * 2 ^ bits.toNat := Int.mul_le_mul_of_nonneg_right (by decide) (by omega)
      have P1 : Pk a b (2 ^ bits.toNat) (gc a b) alt U L := by
        rcases S with z | z
        · exact z
        · have := z.LB
          omega
      obtain ⟨g1, g2, g3, g4⟩ := pk_go hB P1 (by omega) rfl
      have Lp : 0 < L := by omega
      have bm : Bt 1803 (U % L) := bt_mod Lp bL
      refine pass_body ?_
      walk_at "gon"
      exact ⟨_, (show (L % (U % L)).toNat < L.toNat by omega), ⟨_, _, _, _, _, rfl, rfl, by walk_at "f", g4⟩⟩
    · have bu : Bt 900 (-(-U / 2 ^ bits.toNat)) := by
        rw [hu]
        exact bt_le (by omega) ub bb
      walk_at "gon"
      rename_i tp m f c x H2 ntp s2 htp O
      have O' := O
      rw [hl, hu] at O'
      have c0 : 0 < c := by rw [← O'.hc]; exact gc_pos (by omega)
      have c1' : c ≤ u := by
        rw [← O'.hc]
        exact Int.le_of_dvd (by omega) (gc_r ..)
      have f0 := O'.f0
      have f1 := O'.f1
      have m0 := O'.m0
      have m1 := O'.m1
      have bb2 : b.natAbs < 2 ^ 900 := bb
      have bc : Bt 900 c := bt_le (by omega) (show c ≤ b by omega) bb
      have bf : Bt 900 f := by
        show f.natAbs < 2 ^ 900
        omega
      have bm : Bt 902 m := by
        show m.natAbs < 2 ^ 902
        have e : (2 : Nat) ^ 902 = 2 ^ 900 * 4 := by rw [Nat.pow_add 2 900 2]
        rw [e]
        generalize (2 : Nat) ^ 900 = z at *
        omega
      have bl : Bt 900 (L / 2 ^ bits.toNat) := by
        rw [hl]
        exact bt_le l0 (show l ≤ b by omega) bb
      have c4 := bits_shlT (x := c) bc bb
      rw [hbits] at c4
      have up : 0 < -(-U / 2 ^ bits.toNat) := by rw [hu]; omega
      have balt : Bt 900 alt := by
        show alt.natAbs < 2 ^ 900
        omega
      have bx : Bt 64 x := by
        rcases O'.t0 with z | z <;> subst z <;> exact bt_lit (by decide)
      have e := fin m f c x O'
      rw [← hu, ← hl] at e
      have kk := k H2 (s1.trans s2)
      rw [← e] at kk
      walk_at "gon"
      exact kk
def sp_sum_top : Sp := fun vs H Q _ => ∃ (a b : Int), vs = [.int a, .int b] ∧ 0 < b ∧ Bt 900 b ∧ ∀ H', Same H H' → Q (.int (TT a b)) H'
theorem ok_sum_top (T : Txt K mg A) : FnOk P w K mg base CX0 4 A.f_sum_top A.d_sum_top ["a", "b"] sp_sum_top := by
  refine T.F_sum_top.ok sc_sum_top (fun vs H Q E h => ?_) (fun cdv Ar outer s H vs Q E hr h => ?_)
  · obtain ⟨_, _, rfl, _⟩ := h
    rfl
  · obtain ⟨a, b, rfl, b0, bb, k⟩ := h
    have hu := hu_of hr
    refine ⟨_, (pss_cons (ps_set (i := 2) sc_sum_top.nd rfl (Or.inl rfl) (pe_op op_mod (pv 0) (pv 1)))
      (pss_cons (ps_if (pt_cmpR op_ge (pv 2) (pe_glob rfl T.m__SHORT.choose_spec (rel_int _ _)) (nomark _))
        (pss_one (ps_ret (pe_call (ok__long_sum_top T) (hr.mono (by decide)) rfl T.m__long_sum_top T.F__long_sum_top.kp T.b__long_sum_top .nil pass0 (pa_cons (pv 1) (pa_cons (pv 2) pa_nil)))))
        pss_nil)
      (pss_cons (ps_asg (pe_call (ok__steps T) (hr.mono (by decide)) rfl T.m__steps T.F__steps.kp T.b__steps .nil pass0 (pa_cons (pv 1) (pa_cons (pv 2) pa_nil))) (pg_tup rfl (pgs_cons (pg_name (i := 3) sc_sum_top.nd rfl (Or.inl rfl)) (pgs_cons (pg_name (i := 4) sc_sum_top.nd rfl (Or.inl rfl)) (pgs_cons (pg_name (i := 5) sc_sum_top.nd rfl (Or.inl rfl)) (pgs_cons (pg_name (i := 6) sc_sum_top.nd rfl (Or.inl rfl)) pgs_nil))))))
      (pss_one (ps_ret (pe_op op_add (pe_op op_add (pe_op op_mulW (pe_op op_add (pv 3) (pv 6)) (pv 1)) (pv 2)) (pe_op op_mulW (pv 4) (pv 5)))))))), ?_⟩
    have a0 := Int.emod_nonneg a (show b ≠ 0 by omega)
    have a1 := Int.emod_lt_of_pos a b0
    rw [← TT_mod b0] at k
    walk_at "go"
    refine ite2 (fun h => ?_) (fun h => ?_)
    · walk_at "go"
      exact k _ (by walk_at "f")
    · walk_at "go"
      rename_i tp m f c x H2 ntp s2 htp O
      obtain ⟨bc, bf, bm, bx⟩ := sto_bits O b0 bb
      have kk := k H2 s2
      rw [← O.hT] at kk
      walk_at "go"
      exact kk
def sp_sum_of (A : Ad) : Sp := fun vs H Q _ => ∃ (a b : Int), vs = [.int a, .int b] ∧ 0 < b ∧ Bt 900 b ∧ ∀ p H', Same H H' → RatB 4000 A.a_Ratio H' p (Rat.divInt (TT a b) (12 * b)) → Q (.ref p) H'
def sp_tooth_sum (A : Ad) : Sp := fun vs H Q _ => ∃ (u v : V) (a b : Int), vs = [u, v] ∧ Num A H u a ∧ Num A H v b ∧ 1 ≤ b ∧ Bt 900 b ∧ ∀ p H', Same H H' → RatB 4000 A.a_Ratio H' p (Rat.divInt (TT a b) (12 * b)) → Q (.ref p) H'
end
end Tk

set_option maxHeartbeats 2000000
namespace Tk
open PySem PySem.Spec PyProof.Rows L2 Tc
section
variable {P : Program} {w : World} {K : PySem.W.Frag} {mg : Str → Option Value} {base : Heap} {A : Ad}
open Tm
local macro_rules | `(tactic| walk_at "arr") => `(tactic| first
  | with_reducible assumption
  | ((with_reducible apply same_new); with_reducible assumption))
local macro_rules | `(tactic| walk_at "f") => `(tactic| first
  | with_reducible assumption
  | with_reducible exact upd_same
  | with_reducible exact Same.refl _
  | with_reducible exact Frm.refl
  | ((with_reducible apply sqL_K); (focus with_reducible assumption); rfl)
  | ((with_reducible apply sqT_K); (focus with_reducible assumption); rfl)
  | ((with_reducible apply SqT.of); walk_at "f")
  | ((with_reducible apply SqL.of); walk_at "f")
  | ((with_reducible apply back_raw); (focus walk_at "arr"); walk_at "f")
  | ((with_reducible apply frm_tup); (focus with_reducible assumption); (focus walk_at "f"); (focus walk_at "f"); (focus (intro _ z; cases z; done)))
  | ((with_reducible apply frm_raw); (focus with_reducible assumption); (focus walk_at "f"); walk_at "f")
  | ((with_reducible apply bowl_back); (focus walk_at "arr"); walk_at "f")
  | ((with_reducible apply bowl_ne); (focus with_reducible assumption); walk_at "f")
  | ((with_reducible apply Num.int); with_reducible assumption)
  | ((with_reducible apply same_snoc); (focus walk_at "arr"); walk_at "f")
  | ((with_reducible apply frm_back); (focus walk_at "arr"); walk_at "f")
  | ((with_reducible apply frm_backF); (focus with_reducible assumption); walk_at "f")
  | ((with_reducible apply back_sqT); (focus walk_at "arr"); walk_at "f")
  | ((with_reducible apply same_sqL); (focus walk_at "arr"); walk_at "f")
  | ((with_reducible apply free_same); (focus with_reducible assumption); walk_at "f")
  | ((with_reducible apply free_frm); (focus with_reducible assumption); (focus with_reducible assumption); walk_at "f")
  | ((with_reducible apply frm_sqL); (focus with_reducible assumption); (focus walk_at "f"); walk_at "f"))
local macro_rules | `(tactic| walk_at "bt") => `(tactic| first
  | with_reducible assumption
  | ((with_reducible apply bt_mul); (focus walk_at "bt"); walk_at "bt")
  | ((with_reducible apply bt_add); (focus walk_at "bt"); walk_at "bt")
  | ((with_reducible apply bt_sub); (focus walk_at "bt"); walk_at "bt")
  | ((with_reducible apply bt_neg); walk_at "bt")
  | ((with_reducible apply bt_div); walk_at "bt")
  | ((with_reducible apply bt_mod); (focus (first | assumption | omega)); walk_at "bt")
  | exact bt_lit (n := 64) (by decide)
  | exact bt_lit (n := 200) (by decide +kernel))
local macro_rules | `(tactic| walk_at "lin") => `(tactic| first
  | exact (by decide : 1 ≤ sizeLine) | exact (by decide : 2 ≤ sizeLine) | exact (by decide : 3 ≤ sizeLine) | exact (by decide : 4 ≤ sizeLine) | exact (by decide : 0 ≤ sizeLine) | exact (by decide : 5 ≤ sizeLine) | exact (by decide : 6 ≤ sizeLine))
local macro_rules | `(tactic| walk_at "dp") => `(tactic| first
  | exact Dp.int _
  | exact DpAll.nil
  | ((with_reducible apply Dp.lst); (focus walk_at "f"); walk_at "dp")
  | ((with_reducible apply Dp.tup); (focus walk_at "f"); walk_at "dp")
  | ((with_reducible apply DpAll.cons); (focus walk_at "dp"); walk_at "dp"))
local macro_rules | `(tactic| walk_at "sv") => `(tactic| first
  | with_reducible rfl
  | walk_at "f"
  | exact rfl
  | walk_at "dp"
  | exact shp_lst [_] | exact shp_lst [_, _] | exact shp_lst [_, _, _] | exact shp_lst [_, _, _, _] | exact shp_tup [_, _] | exact shp_tup [_, _, _]
  | ((apply tyV_lst); walk_at "f")
  | ((with_reducible apply bt_mulW); (focus walk_at "bt"); (focus walk_at "bt"); (focus (first | decide | omega)))
  | ((with_reducible apply bt_divW); (focus (first | decide | assumption | omega)); (focus walk_at "bt"); (focus (first | decide | omega)))
  | ((with_reducible apply bt_divP); (focus (first | decide | assumption | omega)); (focus walk_at "bt"); (focus (first | decide | omega)))
  | exact ⟨by decide, by decide +kernel⟩
  | exact Or.inl (by decide)
  | exact Or.inr (by decide)
  | exact Or.inl ⟨by omega, by omega⟩
  | exact Or.inr ⟨by omega, by omega⟩
  | ((with_reducible apply Or.inl); walk_at "sv")
  | ((with_reducible apply Or.inr); walk_at "sv")
  | ((with_reducible apply Exists.intro); walk_at "sv")
  | ((with_reducible apply And.intro); (focus walk_at "sv"); walk_at "sv")
  | walk_at "lin"
  | decide
  | omega
  | (simp only [List.length_cons, List.length_nil, List.length_map]; first | done | omega))
local macro_rules | `(tactic| walk_at "one") => `(tactic| first
  | ((fail_if_success refine' @Exists.intro (Nat → L2.St → Hp → Prop) _ ?_ ?_); (fail_if_success refine' @Exists.intro (Nat → Nat → L2.St → Hp → Prop) _ ?_ ?_); (fail_if_success refine' @Exists.intro (L2.St → Hp → Prop) _ ?_ ?_); (fail_if_success refine' @Exists.intro (Nat → Nat → Hp → Prop) _ ?_ ?_); (fail_if_success refine' @Exists.intro (Hp → Prop) _ ?_ ?_); apply Exists.intro)
  | (apply And.intro; (focus walk_at "sv"))
  | intro _
  | (apply ifT; (focus rfl))
  | (apply ifF; (focus rfl))
  | ((apply Or.inl); (apply Exists.intro); (apply And.intro); (focus exact rfl))
  | ((apply Or.inl); (apply And.intro); (focus walk_at "f"))
  | ((apply Or.inr); (apply Exists.intro); (apply And.intro); (focus exact rfl))
  | (apply ifTd; (focus (first | assumption | omega)))
  | (apply ifFd; (focus (first | assumption | omega))))
local macro_rules | `(tactic| walk_at "go") => `(tactic| repeat walk_at "one")
local macro_rules | `(tactic| walk_at "nm") => `(tactic| try simp only [List.set_cons_zero, List.set_cons_succ])
local macro_rules | `(tactic| walk_at "gon") => `(tactic| repeat (walk_at "one"; walk_at "nm"))
theorem abs_val (x : Int) : (if x < 0 then -x else x) = (x.natAbs : Int) := by
  split <;> omega
def sp_integer_text : Sp := fun vs H Q _ => ∃ n : Int, vs = [.int n] ∧ Bt 8000 n ∧ ∀ H', Same H H' → Q (.str (Str.ofString (toString n))) H'
theorem ok_integer_text (T : Txt K mg A) : FnOk P w K mg base CX0 2 A.f_integer_text A.d_integer_text ["number"] sp_integer_text := by
  refine T.F_integer_text.ok sc_integer_text (fun vs H Q E h => ?_) (fun cdv Ar outer s H vs Q E hr h => ?_)
  · obtain ⟨n, rfl, _⟩ := h
    rfl
  · obtain ⟨n, rfl, hn, k⟩ := h
    have hu := hu_of hr
    refine ⟨_, (pss_cons (ps_set (i := 1) sc_integer_text.nd rfl (Or.inl rfl) (pe_callB call_abs (by rfl) T.b_abs (by decide +kernel) (pa_cons (pv 0) pa_nil)))
      (pss_cons (ps_set (i := 2) sc_integer_text.nd rfl (Or.inl rfl) (pe_lst pa_nil))
      (pss_cons (ps_while PassesOwn.never (pt_cmpR op_ge (pv 1) (pe_glob rfl T.m__TOO_LONG.choose_spec (rel_int _ _)) (nomark _))
        (pss_cons (ps_asg (pe_callB call_divmodW (by rfl) T.b_divmod (by decide +kernel) (pa_cons (pv 1) (pa_cons (pe_glob rfl T.m__TOO_LONG.choose_spec (rel_int _ _)) pa_nil))) (pg_tup rfl (pgs_cons (pg_name (i := 1) sc_integer_text.nd rfl (Or.inl rfl)) (pgs_cons (pg_name (i := 3) sc_integer_text.nd rfl (Or.inl rfl)) pgs_nil))))
          (pss_one (ps_expr (pe_bm PySem.F.plainAttrs_list PySem.F.slot_list_append PySem.F.type_list_append mt_append (pv 2) (pa_cons (pe_bm PySem.F.plainAttrs_str PySem.F.slot_str_zfill PySem.F.type_str_zfill mt_zfill (pe_callTy call_str_int (by rfl) T.b_str (by decide +kernel) (pa_cons (pv 3) pa_nil)) (pa_cons (pe_glob rfl T.m__PIECE_DIGITS.choose_spec (rel_int _ _)) pa_nil)) pa_nil))))))
      (pss_cons (ps_expr (pe_bm PySem.F.plainAttrs_list PySem.F.slot_list_append PySem.F.type_list_append mt_append (pv 2) (pa_cons (pe_callTy call_str_int (by rfl) T.b_str (by decide +kernel) (pa_cons (pv 1) pa_nil)) pa_nil)))
      (pss_cons (ps_expr (pe_bm PySem.F.plainAttrs_list PySem.F.slot_list_append PySem.F.type_list_append mt_append (pv 2) (pa_cons (pe_ifExp (pt_cmpR op_lt (pv 0) pe_int (nomark _)) pe_str pe_str) pa_nil)))
      (pss_one (ps_ret (pe_join pe_str (pe_revL (pv 2)))))))))), ?_⟩
    have hN : n.natAbs < 10 ^ (7999 + 1) := Nat.lt_of_lt_of_le hn (Nat.pow_le_pow_left (by decide) 8000)
    have hlen := dg_len_lt 7999 n.natAbs hN
    walk_at "go"
    rename_i p hp
    rw [abs_val]
    refine ⟨fun m' σ H' => Stop (∃ (R : Nat) (v3 : Option V) (cs : List (List Char)), m' = R ∧ σ = [some (.int n), some (.int (R : Int)), some (.ref p), v3] ∧ Same H H' ∧ H' p = some (.lst (cs.map fun c => V.str (tx c))) ∧
      dg n.natAbs = dg R ++ cs.reverse.flatten ∧ R ≤ n.natAbs ∧ cs.length * 60 = cs.reverse.flatten.length), ⟨_, ⟨n.natAbs, _, [], rfl, rfl, same_new hp, upd_same, by simp, Nat.le_refl _, rfl⟩⟩, ?_⟩
    rintro R σ H1 ⟨⟨_, v3, cs, rfl, rfl, s1, g1, e1, r1, c1⟩⟩
    have cl : cs.length ≤ 134 := by
      have := congrArg List.length e1
      rw [List.length_append] at this
      omega
    have lq : (cs.map fun c => V.str (tx c)).length < sizeLine := by
      rw [List.length_map]
      exact lt_line (by omega)
    walk_at "go"
    refine ite2 (fun h => ?_) (fun h => ?_)
    · have h := of_decide_eq_true h
      have hR : 10 ^ 60 ≤ R := by omega
      have lg : ((R : Int) % 10 ^ 60).natAbs.log2 < 1920 := log_lt (by omega) (by omega)
      have q1 : ((R : Int) / 10 ^ 60) = ((R / 10 ^ 60 : Nat) : Int) := by norm_cast
      have q2 : ((R : Int) % 10 ^ 60) = ((R % 10 ^ 60 : Nat) : Int) := by norm_cast
      have z1 : Txt.zfill (Str.ofString (toString ((R : Int) % 10 ^ 60))) 60 = tx (pad 60 (R % 10 ^ 60)) := by
        rw [q2, nat_tx]
        exact zfill_tx (k := 59) (Nat.mod_lt _ (by decide +kernel))
      have d1 : dg R = dg (R / 10 ^ 60) ++ pad 60 (R % 10 ^ 60) := by
        have := dg_pad (n := R / 10 ^ 60) (Nat.div_pos hR (by decide +kernel)) 59 (R % 10 ^ 60) (Nat.mod_lt _ (by decide +kernel))
        rw [Nat.div_add_mod'] at this
        exact this
      have d2 : (pad 60 (R % 10 ^ 60)).length = 60 := pad_len (k := 59) (Nat.mod_lt _ (by decide +kernel))
      have d3 : R / 10 ^ 60 < R := Nat.div_lt_self (by omega) (by decide +kernel)
      refine pass_body ?_
      walk_at "go"
      rename_i p1 hp1
      refine ⟨R / 10 ^ 60, d3, ⟨_, _, cs ++ [pad 60 (R % 10 ^ 60)], rfl, by rw [q1]; rfl, same_mut (s1.trans (same_new hp1)) hp, ?_, ?_, by omega, ?_⟩⟩
      · rw [upd_same, List.map_append, z1]
        rfl
      · rw [e1, d1, List.reverse_append, List.append_assoc]
        rfl
      · rw [List.reverse_append, List.length_append]
        show (cs.length + 1) * 60 = ((pad 60 (R % 10 ^ 60)) ++ cs.reverse.flatten).length
        rw [List.length_append, d2]
        omega
    · have h : ¬ (10 ^ 60 ≤ (R : Int)) := fun z => h (decide_eq_true z)
      have lg : ((R : Int)).natAbs.log2 < 1920 := log_lt (by omega) (by omega)
      walk_at "go"
      have l2 : (cs.map (fun c => V.str (tx c)) ++ [V.str (Str.ofString (toString (R : Int)))]).length < sizeLine := by
        rw [List.length_append, List.length_map]
        exact lt_line (by show cs.length + 1 < 100000; omega)
      have rv : ∀ (sg : List Char), (cs.map (fun c => V.str (tx c)) ++ [V.str (Str.ofString (toString (R : Int)))] ++ [V.str (tx sg)]).reverse = ((sg :: dg R :: cs.reverse).map tx).map V.str := fun sg => by
        rw [nat_tx, List.reverse_append, List.reverse_append, List.map_map, ← List.map_reverse]
        rfl
      have sm1 : ∀ ls : List (List Char), ((ls.map tx).map fun x => x.length).sum = ls.flatten.length := fun ls => by
        induction ls with
        | nil => rfl
        | cons l ls ih =>
          rw [List.map_cons, List.map_cons, List.sum_cons, ih, List.flatten_cons, List.length_append, tx_len]
      have fin : ∀ (sg : List Char) (q : Addr) (H9 : Hp), sg.length ≤ 1 → Same H H9 → H9 q = some (.lst (((sg :: dg R :: cs.reverse).map tx).map V.str)) → sg ++ dg n.natAbs = (if n < 0 then ['-'] else []) ++ dg n.natAbs →
          (((sg :: dg R :: cs.reverse).map tx).map fun x => x.length).sum + ((sg :: dg R :: cs.reverse).map tx).length * (Str.ofString "").length ≤ 16777216 ∧ Q (.str (Txt.join (Str.ofString "") ((sg :: dg R :: cs.reverse).map tx))) H9 := fun sg q H9 l1 s9 g9 es => by
        have z0 : (Str.ofString "").length = 0 := by decide
        have c2 := congrArg List.length e1
        rw [List.length_append] at c2
        refine ⟨?_, ?_⟩
        · rw [sm1, z0, Nat.mul_zero, List.flatten_cons, List.flatten_cons, List.length_append, List.length_append]
          omega
        · rw [join_tx, List.flatten_cons, List.flatten_cons, ← e1, es, ← int_tx]
          exact k H9 s9
      refine ite2 (fun h => ?_) (fun h => ?_)
      · have h := of_decide_eq_true h
        have hm : Str.ofString "-" = tx ['-'] := ofString_tx "-"
        rw [hm]
        walk_at "go"
        rename_i q hq
        have g9 : (upd (upd (upd H1 p (.lst (cs.map (fun c => V.str (tx c)) ++ [V.str (Str.ofString (toString (R : Int)))]))) p (.lst (cs.map (fun c => V.str (tx c)) ++ [V.str (Str.ofString (toString (R : Int)))] ++ [V.str (tx ['-'])]))) q
            (.lst (cs.map (fun c => V.str (tx c)) ++ [V.str (Str.ofString (toString (R : Int)))] ++ [V.str (tx ['-'])]).reverse)) q = some (.lst (((['-'] :: dg R :: cs.reverse).map tx).map V.str)) := by rw [upd_same, rv]
        obtain ⟨f1, f2⟩ := fin ['-'] q _ (by decide) ((same_mut (same_mut s1 hp) hp).trans (same_new hq)) g9 (by rw [if_pos h])
        exact ⟨.inl (SqL.of g9), f1, f2⟩
      · have h : ¬ n < 0 := fun z => h (decide_eq_true z)
        have hm : Str.ofString "" = tx [] := ofString_tx ""
        have go2 : ∀ x : Str, x = tx [] → True := fun _ _ => trivial
        walk_at "go"
        rename_i q hq
        have g9 : (upd (upd (upd H1 p (.lst (cs.map (fun c => V.str (tx c)) ++ [V.str (Str.ofString (toString (R : Int)))]))) p (.lst (cs.map (fun c => V.str (tx c)) ++ [V.str (Str.ofString (toString (R : Int)))] ++ [V.str (Str.ofString "")]))) q
            (.lst (cs.map (fun c => V.str (tx c)) ++ [V.str (Str.ofString (toString (R : Int)))] ++ [V.str (Str.ofString "")]).reverse)) q = some (.lst ((([] :: dg R :: cs.reverse).map tx).map V.str)) := by rw [upd_same, hm, rv]
        obtain ⟨f1, f2⟩ := fin [] q _ (by decide) ((same_mut (same_mut s1 hp) hp).trans (same_new hq)) g9 (by rw [if_neg h])
        exact ⟨.inl (SqL.of g9), f1, f2⟩
end
end Tk

set_option maxHeartbeats 2000000
namespace Tk
open PySem PySem.Spec PyProof.Rows L2 Tc
section
variable {P : Program} {w : World} {K : PySem.W.Frag} {mg : Str → Option Value} {base : Heap} {A : Ad}
open Tm
local macro_rules | `(tactic| walk_at "arr") => `(tactic| first
  | with_reducible assumption
  | ((with_reducible apply same_new); with_reducible assumption))
local macro_rules | `(tactic| walk_at "f") => `(tactic| first
  | with_reducible assumption
  | with_reducible exact upd_same
  | with_reducible exact Same.refl _
  | with_reducible exact Frm.refl
  | ((with_reducible apply sqL_K); (focus with_reducible assumption); rfl)
  | ((with_reducible apply sqT_K); (focus with_reducible assumption); rfl)
  | ((with_reducible apply SqT.of); walk_at "f")
  | ((with_reducible apply SqL.of); walk_at "f")
  | ((with_reducible apply back_raw); (focus walk_at "arr"); walk_at "f")
  | ((with_reducible apply frm_tup); (focus with_reducible assumption); (focus walk_at "f"); (focus walk_at "f"); (focus (intro _ z; cases z; done)))
  | ((with_reducible apply frm_raw); (focus with_reducible assumption); (focus walk_at "f"); walk_at "f")
  | ((with_reducible apply bowl_back); (focus walk_at "arr"); walk_at "f")
  | ((with_reducible apply bowl_ne); (focus with_reducible assumption); walk_at "f")
  | ((with_reducible apply Num.int); with_reducible assumption)
  | ((with_reducible apply same_snoc); (focus walk_at "arr"); walk_at "f")
  | ((with_reducible apply frm_back); (focus walk_at "arr"); walk_at "f")
  | ((with_reducible apply frm_backF); (focus with_reducible assumption); walk_at "f")
  | ((with_reducible apply back_sqT); (focus walk_at "arr"); walk_at "f")
  | ((with_reducible apply same_sqL); (focus walk_at "arr"); walk_at "f")
  | ((with_reducible apply free_same); (focus with_reducible assumption); walk_at "f")
  | ((with_reducible apply free_frm); (focus with_reducible assumption); (focus with_reducible assumption); walk_at "f")
  | ((with_reducible apply frm_sqL); (focus with_reducible assumption); (focus walk_at "f"); walk_at "f"))
local macro_rules | `(tactic| walk_at "bt") => `(tactic| first
  | with_reducible assumption
  | ((with_reducible apply bt_mul); (focus walk_at "bt"); walk_at "bt")
  | ((with_reducible apply bt_add); (focus walk_at "bt"); walk_at "bt")
  | ((with_reducible apply bt_sub); (focus walk_at "bt"); walk_at "bt")
  | ((with_reducible apply bt_neg); walk_at "bt")
  | ((with_reducible apply bt_div); walk_at "bt")
  | ((with_reducible apply bt_mod); (focus (first | assumption | omega)); walk_at "bt")
  | exact bt_lit (n := 64) (by decide)
  | exact bt_lit (n := 200) (by decide +kernel))
local macro_rules | `(tactic| walk_at "lin") => `(tactic| first
  | exact (by decide : 1 ≤ sizeLine) | exact (by decide : 2 ≤ sizeLine) | exact (by decide : 3 ≤ sizeLine) | exact (by decide : 4 ≤ sizeLine) | exact (by decide : 0 ≤ sizeLine) | exact (by decide : 5 ≤ sizeLine) | exact (by decide : 6 ≤ sizeLine))
local macro_rules | `(tactic| walk_at "dp") => `(tactic| first
  | exact Dp.int _
  | exact DpAll.nil
  | ((with_reducible apply Dp.lst); (focus walk_at "f"); walk_at "dp")
  | ((with_reducible apply Dp.tup); (focus walk_at "f"); walk_at "dp")
  | ((with_reducible apply DpAll.cons); (focus walk_at "dp"); walk_at "dp"))
local macro_rules | `(tactic| walk_at "sv") => `(tactic| first
  | with_reducible rfl
  | walk_at "f"
  | exact rfl
  | walk_at "dp"
  | exact shp_lst [_] | exact shp_lst [_, _] | exact shp_lst [_, _, _] | exact shp_lst [_, _, _, _] | exact shp_tup [_, _] | exact shp_tup [_, _, _]
  | ((apply tyV_lst); walk_at "f")
  | ((with_reducible apply bt_mulW); (focus walk_at "bt"); (focus walk_at "bt"); (focus (first | decide | omega)))
  | ((with_reducible apply bt_divW); (focus (first | decide | assumption | omega)); (focus walk_at "bt"); (focus (first | decide | omega)))
  | ((with_reducible apply bt_divP); (focus (first | decide | assumption | omega)); (focus walk_at "bt"); (focus (first | decide | omega)))
  | exact ⟨by decide, by decide +kernel⟩
  | exact Or.inl (by decide)
  | exact Or.inr (by decide)
  | exact Or.inl ⟨by omega, by omega⟩
  | exact Or.inr ⟨by omega, by omega⟩
  | ((with_reducible apply Or.inl); walk_at "sv")
  | ((with_reducible apply Or.inr); walk_at "sv")
  | ((with_reducible apply Exists.intro); walk_at "sv")
  | ((with_reducible apply And.intro); (focus walk_at "sv"); walk_at "sv")
  | walk_at "lin"
  | decide
  | omega
  | (simp only [List.length_cons, List.length_nil, List.length_map]; first | done | omega))
local macro_rules | `(tactic| walk_at "one") => `(tactic| first
  | ((fail_if_success refine' @Exists.intro (Nat → L2.St → Hp → Prop) _ ?_ ?_); (fail_if_success refine' @Exists.intro (Nat → Nat → L2.St → Hp → Prop) _ ?_ ?_); (fail_if_success refine' @Exists.intro (L2.St → Hp → Prop) _ ?_ ?_); (fail_if_success refine' @Exists.intro (Nat → Nat → Hp → Prop) _ ?_ ?_); (fail_if_success refine' @Exists.intro (Hp → Prop) _ ?_ ?_); apply Exists.intro)
  | (apply And.intro; (focus walk_at "sv"))
  | intro _
  | (apply ifT; (focus rfl))
  | (apply ifF; (focus rfl))
  | ((apply Or.inl); (apply Exists.intro); (apply And.intro); (focus exact rfl))
  | ((apply Or.inl); (apply And.intro); (focus walk_at "f"))
  | ((apply Or.inr); (apply Exists.intro); (apply And.intro); (focus exact rfl))
  | (apply ifTd; (focus (first | assumption | omega)))
  | (apply ifFd; (focus (first | assumption | omega))))
local macro_rules | `(tactic| walk_at "go") => `(tactic| repeat walk_at "one")
local macro_rules | `(tactic| walk_at "nm") => `(tactic| try simp only [List.set_cons_zero, List.set_cons_succ])
local macro_rules | `(tactic| walk_at "gon") => `(tactic| repeat (walk_at "one"; walk_at "nm"))
def sp__law_cup (K : PySem.W.Frag) : Sp := fun vs H Q _ => ∃ (sc : Addr) (i : Nat) (ns : List Int), vs = [.ref sc, .int (i : Int)] ∧ SqL K H sc (ns.map V.int) ∧ ∀ p H', H p = none → Same H H' → Bowl H' p → Q (.ref p) H'
def sp__law_bite : Sp := fun vs H Q _ => ∃ (a l : Addr) (xs : List V), vs = [.ref a, .ref l] ∧ Bowl H a ∧ H l = some (.lst xs) ∧ l ≠ a ∧ 0 < xs.length ∧ xs.length ≤ 1000 ∧ ∀ (i : Nat) x H', xs[i]? = some x → Frm a H H' → Bowl H' a → Q x H'
theorem ten_le {a b : Nat} (h : a ≤ b) : (10 : Int) ^ a ≤ 10 ^ b := by
  rcases Nat.lt_or_eq_of_le h with h | rfl
  · exact Int.le_of_lt (Int.pow_lt_pow_of_lt (by decide) h)
  · exact Int.le_refl _
theorem p15 : (10 : Int) ^ (15 : Int).toNat = 10 ^ 15 := by decide +kernel
theorem fig_step {f r : Int} {j : Nat} (f0 : 0 ≤ f) (f1 : f < 10 ^ (15 * j)) (r0 : 0 ≤ r) (r1 : r < 10 ^ 15) : 0 ≤ f * 10 ^ 15 + r ∧ f * 10 ^ 15 + r < 10 ^ (15 * (j + 1)) := by
  have e : (10 : Int) ^ (15 * (j + 1)) = 10 ^ (15 * j) * 10 ^ 15 := by
    rw [show 15 * (j + 1) = 15 * j + 15 by omega, Int.pow_add]
  rw [e]
  generalize (10 : Int) ^ (15 * j) = p at *
  omega
def sp__law_figure : Sp := fun vs H Q _ => ∃ a : Addr, vs = [.ref a] ∧ Bowl H a ∧ ∀ (r : Int) H', r.natAbs < 10 ^ 59 → Frm a H H' → Bowl H' a → Q (.int r) H'
theorem gc_abs {x y : Int} : gc (if x < 0 then -x else x) (if y < 0 then -y else y) = gc x y := by
  unfold gc
  unfold Int.gcd
  have e : ∀ z : Int, (if z < 0 then -z else z).natAbs = z.natAbs := fun z => by split <;> omega
  rw [e, e]
theorem gc_zero {x : Int} (h : 0 ≤ x) : gc x 0 = x := by
  unfold gc
  rw [Int.gcd_zero_right]
  omega
theorem gc_turn {x y : Int} : gc y (x % y) = gc x y := by rw [gc_comm, gc_mod]
theorem rat_add {q r : Rat} : Rat.divInt (q.num * r.den + r.num * q.den) (q.den * r.den) = q + r := by
  rw [← Rat.divInt_add_divInt q.num r.num (by have := q.den_nz; omega) (by have := r.den_nz; omega), Rat.num_divInt_den, Rat.num_divInt_den]
theorem Rsz.bt {n : Nat} {q : Rat} (h : Rsz n q) : Bt n q.num ∧ Bt n (q.den : Int) := ⟨h.1, by show ((q.den : Int)).natAbs < 2 ^ n; rw [Int.natAbs_natCast]; exact h.2⟩
theorem Rsz.neg {n : Nat} {q : Rat} (h : Rsz n q) : Rsz n (-q) := by
  unfold Rsz
  rw [Rat.neg_num, Rat.neg_den, Int.natAbs_neg]
  exact h
theorem rsz_add {m : Nat} {q r : Rat} (h1 : Rsz m q) (h2 : Rsz m r) : Rsz (m + m + 1) (q + r) := by
  rw [← rat_add]
  have d1 := q.den_nz
  have d2 := r.den_nz
  refine divInt_small (Int.mul_ne_zero (by omega) (by omega)) (bt_addm (bt_mul h1.bt.1 h2.bt.2) (bt_mul h2.bt.1 h1.bt.2)) ?_
  exact Bt.mono (bt_mul h1.bt.2 h2.bt.2) (Nat.le_succ _)
theorem int_divInt (s : Int) : (s : Rat) = Rat.divInt s 1 := (Rat.num_divInt_den (s : Rat)).symm
theorem TT_one {x y : Int} (h : gc x y = 1) : Tm.TT x y = T1 x y := by
  unfold Tm.TT
  rw [h, Int.ediv_one, Int.ediv_one, Int.one_mul]
theorem t_low {a b x y : Int} (hb : b = gc a b * y) (ex : a / gc a b = x) (ey : b / gc a b = y) (h1 : gc x y = 1) (g0 : 0 < gc a b) : Rat.divInt (TT a b) b = Rat.divInt (TT x y) y := by
  rw [TT_one h1]
  have e : TT a b = gc a b * T1 x y := by
    unfold Tm.TT
    rw [ex, ey]
  rw [e]
  conv => lhs; rhs; rw [hb]
  exact Rat.divInt_mul_left (by omega)
theorem t_sz {a b : Int} (b0 : 0 < b) (bb : Bt 200 b) : Rsz 2000 (Rat.divInt (TT a b) b) := divInt_small (by omega) (tt_bits b0 (bb.mono (by decide))) (bb.mono (by decide))
local macro_rules | `(tactic| walk_at "arr") => `(tactic| first
  | ((with_reducible apply made2); (focus with_reducible assumption); (focus with_reducible assumption); with_reducible assumption)
  | ((with_reducible apply same_up); (focus with_reducible assumption); with_reducible assumption))
local macro_rules | `(tactic| walk_at "f") => `(tactic| first
  | ((with_reducible apply Num.long); walk_at "f")
  | ((with_reducible apply ratu_back); (focus walk_at "arr"); walk_at "f")
  | ((with_reducible apply ratu_frm); (focus with_reducible assumption); (focus walk_at "f"); walk_at "f")
  | ((with_reducible apply rat_back); (focus walk_at "arr"); walk_at "f")
  | ((with_reducible apply rat_frm); (focus with_reducible assumption); (focus walk_at "f"); walk_at "f")
  | ((with_reducible apply ratb_u); (focus walk_at "f"); with_reducible assumption)
  | ((with_reducible apply ratb_at); (focus walk_at "f"); with_reducible assumption)
  | ((with_reducible apply ratb_back); (focus walk_at "arr"); walk_at "f")
  | ((with_reducible apply ratb_frm); (focus with_reducible assumption); (focus walk_at "f"); walk_at "f")
  | ((with_reducible apply Rn.rat); walk_at "f")
  | ((with_reducible apply Rn.int); with_reducible assumption)
  | ((with_reducible apply rat_raw); walk_at "f")
  | ((with_reducible apply ratb_raw); walk_at "f"))
local macro_rules | `(tactic| walk_at "f") => `(tactic| first
  | ((apply ty_rat); (focus assumption); walk_at "f")
  | ((apply ty_ratb); (focus assumption); walk_at "f")
  | exact nf_self
  | exact TyX.base (.int _)
  | ((with_reducible apply Pay.two); (focus with_reducible assumption); (focus with_reducible assumption); (focus (first | with_reducible assumption | decide)); (first | with_reducible assumption | rfl))
  | ((with_reducible apply nf_K); (focus with_reducible assumption); rfl)
  | exact bt_lit (by decide +kernel))
local macro_rules | `(tactic| walk_at "one") => `(tactic| ((apply Or.inl); (apply Exists.intro); (apply Exists.intro); (apply And.intro); (focus exact rfl)))
theorem frt_K {K' : PySem.W.Frag} {H : Hp} {p : Addr} {q : Rat} (h : SqT K H p [.int q.num, .int (q.den : Int)]) (e : K = K') : SqT K' H p [.int q.num, .int (q.den : Int)] := e ▸ h
def sp__law_gcd : Sp := fun vs H Q _ => ∃ (x y : Int), vs = [.int x, .int y] ∧ Q (.int (gc x y)) H
theorem frac_num {x y : Int} (h : y ≠ 0) : (if 0 < y then 1 else -1) * x / gc x y = (Rat.divInt x y).num := by
  rw [Rat.num_divInt, Int.gcd_comm]
  have e : y.sign = if 0 < y then 1 else -1 := by
    split
    · rename_i z
      exact Int.sign_eq_one_of_pos z
    · exact Int.sign_eq_neg_one_of_neg (by omega)
  rw [e]
  rfl
theorem frac_den {x y : Int} (h : y ≠ 0) : (if 0 < y then 1 else -1) * y / gc x y = ((Rat.divInt x y).den : Int) := by
  rw [Rat.den_divInt, if_neg h, Int.gcd_comm, Int.natCast_ediv]
  have e : (if 0 < y then 1 else -1) * y = (y.natAbs : Int) := by
    split <;> omega
  rw [e]
  rfl
/- a fraction as a tuple of two ints -/
def FrT (K : PySem.W.Frag) (H : Hp) (p : Addr) (q : Rat) : Prop := SqT K H p [.int q.num, .int (q.den : Int)]
def sp__law_frac : Sp := fun vs H Q _ => ∃ x y : Int, vs = [.int x, .int y] ∧ y ≠ 0 ∧ x.natAbs < 2 ^ 8000 ∧ y.natAbs < 2 ^ 8000 ∧ ∀ t H', H t = none → Same H H' → H' t = some (.tup [.int (Rat.divInt x y).num, .int ((Rat.divInt x y).den : Int)]) → Q (.ref t) H'
theorem rat_mul2 {q r : Rat} : Rat.divInt (q.num * r.num) (q.den * r.den) = q * r := by
  rw [← Rat.divInt_mul_divInt, Rat.num_divInt_den, Rat.num_divInt_den]
theorem den_ne (q : Rat) : (q.den : Int) ≠ 0 := by have := q.den_nz; omega
theorem den_ne2 (q r : Rat) : (q.den : Int) * (r.den : Int) ≠ 0 := Int.mul_ne_zero (den_ne q) (den_ne r)
def sp__law_minus (K : PySem.W.Frag) : Sp := fun vs H Q _ => ∃ (a : Addr) (q : Rat), vs = [.ref a] ∧ FrT K H a q ∧ ∀ t H', H t = none → Same H H' → H' t = some (.tup [.int (-q).num, .int ((-q).den : Int)]) → Q (.ref t) H'
def sp__law_pair_of (A : Ad) : Sp := fun vs H Q _ => ∃ (p : Addr) (q : Rat), vs = [.ref p] ∧ RatB 4000 A.a_Ratio H p q ∧ ∀ t H', H t = none → Same H H' → H' t = some (.tup [.int q.num, .int (q.den : Int)]) → Q (.ref t) H'
theorem ok__law_pair_of (T : Txt K mg A) : FnOk P w K mg base CX0 4 A.f__law_pair_of A.d__law_pair_of ["_law_ratio"] (sp__law_pair_of A) := by
  refine T.F__law_pair_of.ok sc__law_pair_of (fun vs H Q E h => ?_) (fun cdv Ar outer s H vs Q E hr h => ?_)
  · obtain ⟨p, q, rfl, _⟩ := h
    rfl
  · obtain ⟨p, q, rfl, L, k⟩ := h
    have hu := hu_of hr
    refine ⟨_, (pss_one (ps_ret (pe_tup (pa_cons (pe_prop (pv 0) T.c_Ratio T.p_Ratio_top (ok_Ratio_top T) (hr.mono (by decide)) T.b_Ratio_top .nil pass0 rfl) (pa_cons (pe_prop (pv 0) T.c_Ratio T.p_Ratio_bottom (ok_Ratio_bottom T) (hr.mono (by decide)) T.b_Ratio_bottom .nil pass0 rfl) pa_nil))))), ?_⟩
    walk_at "go"
    exact k _ _ (by walk_at "f") (by walk_at "f") (by walk_at "f")
theorem frt {H : Hp} {p : Addr} {q : Rat} (h : H p = some (.tup [.int q.num, .int (q.den : Int)])) : FrT K H p q := SqT.of h
theorem frT_K {K' : PySem.W.Frag} {H : Hp} {p : Addr} {q : Rat} (h : FrT K H p q) (e : K = K') : FrT K' H p q := e ▸ h
theorem frt_back {H H' : Hp} {p : Addr} {q : Rat} (e : Same H H') (h : FrT K H p q) : FrT K H' p q := same_sqT e h
theorem sqT_sol {H H' : Hp} {a : Addr} {xs : List V} (e : Sol H H') (h : SqT K H a xs) : SqT K H' a xs := by
  rcases h with (h | ⟨o, h⟩) | h
  · exact .inl (.inl (e _ _ h (fun _ z => by cases z)))
  · exact .inl (.inr ⟨o, e _ _ h (fun _ z => by cases z)⟩)
  · exact .inr h
theorem frt_frm {x : Addr} {H H' : Hp} {p : Addr} {q : Rat} (e : Frm x H H') (B : Bowl H x) (h : FrT K H p q) : FrT K H' p q := sqT_sol (sol_frm e B) h
end
end Tk

set_option maxHeartbeats 2000000
namespace Tk
open PySem PySem.Spec PyProof.Rows L2 Tc
section
variable {P : Program} {w : World} {K : PySem.W.Frag} {mg : Str → Option Value} {base : Heap} {A : Ad}
open Tm
local macro_rules | `(tactic| walk_at "arr") => `(tactic| first
  | with_reducible assumption
  | ((with_reducible apply same_new); with_reducible assumption))
local macro_rules | `(tactic| walk_at "f") => `(tactic| first
  | with_reducible assumption
  | with_reducible exact upd_same
  | with_reducible exact Same.refl _
  | with_reducible exact Frm.refl
  | ((with_reducible apply sqL_K); (focus with_reducible assumption); rfl)
  | ((with_reducible apply sqT_K); (focus with_reducible assumption); rfl)
  | ((with_reducible apply SqT.of); walk_at "f")
  | ((with_reducible apply SqL.of); walk_at "f")
  | ((with_reducible apply back_raw); (focus walk_at "arr"); walk_at "f")
  | ((with_reducible apply frm_tup); (focus with_reducible assumption); (focus walk_at "f"); (focus walk_at "f"); (focus (intro _ z; cases z; done)))
  | ((with_reducible apply frm_raw); (focus with_reducible assumption); (focus walk_at "f"); walk_at "f")
  | ((with_reducible apply bowl_back); (focus walk_at "arr"); walk_at "f")
  | ((with_reducible apply bowl_ne); (focus with_reducible assumption); walk_at "f")
  | ((with_reducible apply Num.int); with_reducible assumption)
  | ((with_reducible apply same_snoc); (focus walk_at "arr"); walk_at "f")
  | ((with_reducible apply frm_back); (focus walk_at "arr"); walk_at "f")
  | ((with_reducible apply frm_backF); (focus with_reducible assumption); walk_at "f")
  | ((with_reducible apply back_sqT); (focus walk_at "arr"); walk_at "f")
  | ((with_reducible apply same_sqL); (focus walk_at "arr"); walk_at "f")
  | ((with_reducible apply free_same); (focus with_reducible assumption); walk_at "f")
  | ((with_reducible apply free_frm); (focus with_reducible assumption); (focus with_reducible assumption); walk_at "f")
  | ((with_reducible apply frm_sqL); (focus with_reducible assumption); (focus walk_at "f"); walk_at "f"))
local macro_rules | `(tactic| walk_at "bt") => `(tactic| first
  | with_reducible assumption
  | ((with_reducible apply bt_mul); (focus walk_at "bt"); walk_at "bt")
  | ((with_reducible apply bt_add); (focus walk_at "bt"); walk_at "bt")
  | ((with_reducible apply bt_sub); (focus walk_at "bt"); walk_at "bt")
  | ((with_reducible apply bt_neg); walk_at "bt")
  | ((with_reducible apply bt_div); walk_at "bt")
  | ((with_reducible apply bt_mod); (focus (first | assumption | omega)); walk_at "bt")
  | exact bt_lit (n := 64) (by decide)
  | exact bt_lit (n := 200) (by decide +kernel))
local macro_rules | `(tactic| walk_at "lin") => `(tactic| first
  | exact (by decide : 1 ≤ sizeLine) | exact (by decide : 2 ≤ sizeLine) | exact (by decide : 3 ≤ sizeLine) | exact (by decide : 4 ≤ sizeLine) | exact (by decide : 0 ≤ sizeLine) | exact (by decide : 5 ≤ sizeLine) | exact (by decide : 6 ≤ sizeLine))
local macro_rules | `(tactic| walk_at "dp") => `(tactic| first
  | exact Dp.int _
  | exact DpAll.nil
  | ((with_reducible apply Dp.lst); (focus walk_at "f"); walk_at "dp")
  | ((with_reducible apply Dp.tup); (focus walk_at "f"); walk_at "dp")
  | ((with_reducible apply DpAll.cons); (focus walk_at "dp"); walk_at "dp"))
local macro_rules | `(tactic| walk_at "sv") => `(tactic| first
  | with_reducible rfl
  | walk_at "f"
  | exact rfl
  | walk_at "dp"
  | exact shp_lst [_] | exact shp_lst [_, _] | exact shp_lst [_, _, _] | exact shp_lst [_, _, _, _] | exact shp_tup [_, _] | exact shp_tup [_, _, _]
  | ((apply tyV_lst); walk_at "f")
  | ((with_reducible apply bt_mulW); (focus walk_at "bt"); (focus walk_at "bt"); (focus (first | decide | omega)))
  | ((with_reducible apply bt_divW); (focus (first | decide | assumption | omega)); (focus walk_at "bt"); (focus (first | decide | omega)))
  | ((with_reducible apply bt_divP); (focus (first | decide | assumption | omega)); (focus walk_at "bt"); (focus (first | decide | omega)))
  | exact ⟨by decide, by decide +kernel⟩
  | exact Or.inl (by decide)
  | exact Or.inr (by decide)
  | exact Or.inl ⟨by omega, by omega⟩
  | exact Or.inr ⟨by omega, by omega⟩
  | ((with_reducible apply Or.inl); walk_at "sv")
  | ((with_reducible apply Or.inr); walk_at "sv")
  | ((with_reducible apply Exists.intro); walk_at "sv")
  | ((with_reducible apply And.intro); (focus walk_at "sv"); walk_at "sv")
  | walk_at "lin"
  | decide
  | omega
  | (simp only [List.length_cons, List.length_nil, List.length_map]; first | done | omega))
local macro_rules | `(tactic| walk_at "one") => `(tactic| first
  | ((fail_if_success refine' @Exists.intro (Nat → L2.St → Hp → Prop) _ ?_ ?_); (fail_if_success refine' @Exists.intro (Nat → Nat → L2.St → Hp → Prop) _ ?_ ?_); (fail_if_success refine' @Exists.intro (L2.St → Hp → Prop) _ ?_ ?_); (fail_if_success refine' @Exists.intro (Nat → Nat → Hp → Prop) _ ?_ ?_); (fail_if_success refine' @Exists.intro (Hp → Prop) _ ?_ ?_); apply Exists.intro)
  | (apply And.intro; (focus walk_at "sv"))
  | intro _
  | (apply ifT; (focus rfl))
  | (apply ifF; (focus rfl))
  | ((apply Or.inl); (apply Exists.intro); (apply And.intro); (focus exact rfl))
  | ((apply Or.inl); (apply And.intro); (focus walk_at "f"))
  | ((apply Or.inr); (apply Exists.intro); (apply And.intro); (focus exact rfl))
  | (apply ifTd; (focus (first | assumption | omega)))
  | (apply ifFd; (focus (first | assumption | omega))))
local macro_rules | `(tactic| walk_at "go") => `(tactic| repeat walk_at "one")
local macro_rules | `(tactic| walk_at "nm") => `(tactic| try simp only [List.set_cons_zero, List.set_cons_succ])
local macro_rules | `(tactic| walk_at "gon") => `(tactic| repeat (walk_at "one"; walk_at "nm"))
/- tuples, one after another -/
inductive TpA (H : Hp) : List Addr → List (List V) → Prop where
  | nil : TpA H [] []
  | cons {a : Addr} {l : List V} {as : List Addr} {ls : List (List V)} (h : H a = some (.tup l)) (t : TpA H as ls) : TpA H (a :: as) (l :: ls)
theorem TpA.snoc {H : Hp} {a : Addr} {l : List V} (h : H a = some (.tup l)) : ∀ {as : List Addr} {ls : List (List V)}, TpA H as ls → TpA H (as ++ [a]) (ls ++ [l])
  | _, _, .nil => .cons h .nil
  | _, _, .cons h' t => .cons h' (TpA.snoc h t)
theorem TpA.len {H : Hp} : ∀ {as : List Addr} {ls : List (List V)}, TpA H as ls → as.length = ls.length
  | _, _, .nil => rfl
  | _, _, .cons _ t => congrArg (· + 1) t.len
theorem TpA.stay {H H' : Hp} (e : ∀ b xs, H b = some (.tup xs) → H' b = some (.tup xs)) : ∀ {as : List Addr} {ls : List (List V)}, TpA H as ls → TpA H' as ls
  | _, _, .nil => .nil
  | _, _, .cons h t => .cons (e _ _ h) (t.stay e)
theorem TpA.rev {H : Hp} : ∀ {as : List Addr} {ls : List (List V)}, TpA H as ls → TpA H as.reverse ls.reverse
  | _, _, .nil => .nil
  | _, _, .cons h t => by
    rw [List.reverse_cons, List.reverse_cons]
    exact TpA.snoc h t.rev
theorem TpA.get {H : Hp} : ∀ {as : List Addr} {ls : List (List V)} {i : Nat} {a : Addr}, TpA H as ls → as[i]? = some a → ∃ l, ls[i]? = some l ∧ H a = some (.tup l)
  | _, _, 0, _, .cons h _, e => ⟨_, rfl, by cases e; exact h⟩
  | _, _, i + 1, _, .cons _ t, e => TpA.get (i := i) t (by simpa using e)
theorem map_snoc {α β : Type} (f : α → β) (xs : List α) (x : α) : xs.map f ++ [f x] = (xs ++ [x]).map f := by rw [List.map_append]; rfl
theorem tup_mut {H : Hp} {l : Addr} {xs : List V} {o : HO} (g : H l = some (.lst xs)) : ∀ b ys, H b = some (.tup ys) → (upd H l o) b = some (.tup ys) := fun b ys e => by
  rw [upd_ne (ne_of e g (by intro z; cases z))]
  exact e
def pr2 (p : Int × Int) : List V := [.int p.1, .int p.2]
/- the pairs of Euclid's steps, the last one first -/
def Chn (x y : Int) : List (Int × Int) → Int → Int → Prop
  | [], p, q => p = x % y ∧ q = y
  | c :: rs, p, q => 0 < c.1 ∧ c.1 < c.2 ∧ gc c.1 c.2 = 1 ∧ c.2 ≤ y ∧ p = c.2 % c.1 ∧ q = c.1 ∧ Chn x y rs c.1 c.2
theorem chn_step {p q f : Int} (p0 : 0 < p) (pq : p < q) (hg : gc p q = 1) (hf : f = TT (q % p) p) : (p * p + q * q + 1 - 3 * p * q - q * f) / p = TT p q := by
  have r := TT_rec p0 pq
  rw [hg, ← TT_mod p0, ← hf] at r
  have e : p * p + q * q + 1 - 3 * p * q - q * f = p * TT p q := by
    rw [Int.mul_assoc 3 p q]
    omega
  rw [e, Int.mul_ediv_cancel_left _ (by omega)]
theorem t_low12 {a b x y : Int} (hb : b = gc a b * y) (ex : a / gc a b = x) (ey : b / gc a b = y) (h1 : gc x y = 1) (g0 : 0 < gc a b) : Rat.divInt (TT x y) (12 * y) = Rat.divInt (TT a b) (12 * b) := by
  have e : TT a b = gc a b * T1 x y := by
    unfold Tm.TT
    rw [ex, ey]
  rw [TT_one h1, e]
  conv => rhs; rhs; rw [hb]
  rw [show 12 * (gc a b * y) = gc a b * (12 * y) by grind]
  exact (Rat.divInt_mul_left (by omega)).symm
theorem eucl_le {k : Nat} {a b : Int} (h : Bt k b) : (eucl a b).length ≤ 2 * k := eucl_len k a b (by
  unfold Bt at h
  have e : (((2 : Nat) ^ k : Nat) : Int) = 2 ^ k := by norm_cast
  omega)
local macro_rules | `(tactic| walk_at "arr") => `(tactic| first
  | ((with_reducible apply made2); (focus with_reducible assumption); (focus with_reducible assumption); with_reducible assumption)
  | ((with_reducible apply same_up); (focus with_reducible assumption); with_reducible assumption))
local macro_rules | `(tactic| walk_at "f") => `(tactic| first
  | ((with_reducible apply Num.long); walk_at "f")
  | ((with_reducible apply ratu_back); (focus walk_at "arr"); walk_at "f")
  | ((with_reducible apply ratu_frm); (focus with_reducible assumption); (focus walk_at "f"); walk_at "f")
  | ((with_reducible apply rat_back); (focus walk_at "arr"); walk_at "f")
  | ((with_reducible apply rat_frm); (focus with_reducible assumption); (focus walk_at "f"); walk_at "f")
  | ((with_reducible apply ratb_u); (focus walk_at "f"); with_reducible assumption)
  | ((with_reducible apply ratb_at); (focus walk_at "f"); with_reducible assumption)
  | ((with_reducible apply ratb_back); (focus walk_at "arr"); walk_at "f")
  | ((with_reducible apply ratb_frm); (focus with_reducible assumption); (focus walk_at "f"); walk_at "f")
  | ((with_reducible apply Rn.rat); walk_at "f")
  | ((with_reducible apply Rn.int); with_reducible assumption)
  | ((with_reducible apply rat_raw); walk_at "f")
  | ((with_reducible apply ratb_raw); walk_at "f"))
local macro_rules | `(tactic| walk_at "f") => `(tactic| first
  | ((apply ty_rat); (focus assumption); walk_at "f")
  | ((apply ty_ratb); (focus assumption); walk_at "f")
  | exact nf_self
  | exact TyX.base (.int _)
  | ((with_reducible apply Pay.two); (focus with_reducible assumption); (focus with_reducible assumption); (focus (first | with_reducible assumption | decide)); (first | with_reducible assumption | rfl))
  | ((with_reducible apply nf_K); (focus with_reducible assumption); rfl)
  | exact bt_lit (by decide +kernel))
local macro_rules | `(tactic| walk_at "one") => `(tactic| ((apply Or.inl); (apply Exists.intro); (apply Exists.intro); (apply And.intro); (focus exact rfl)))
def sp__law_by_steps : Sp := fun vs H Q _ => ∃ (a b : Int), vs = [.int a, .int b] ∧ 0 < b ∧ Bt 900 a ∧ Bt 900 b ∧ ∀ t H', H t = none → Same H H' → H' t = some (.tup [.int (Rat.divInt (TT a b) (12 * b)).num, .int ((Rat.divInt (TT a b) (12 * b)).den : Int)]) → Q (.ref t) H'
end
end Tk

set_option maxHeartbeats 2000000
namespace Tk
open PySem PySem.Spec PyProof.Rows L2 Tc
section
variable {P : Program} {w : World} {K : PySem.W.Frag} {mg : Str → Option Value} {base : Heap} {A : Ad}
open Tm
local macro_rules | `(tactic| walk_at "arr") => `(tactic| first
  | with_reducible assumption
  | ((with_reducible apply same_new); with_reducible assumption))
local macro_rules | `(tactic| walk_at "f") => `(tactic| first
  | with_reducible assumption
  | with_reducible exact upd_same
  | with_reducible exact Same.refl _
  | with_reducible exact Frm.refl
  | ((with_reducible apply sqL_K); (focus with_reducible assumption); rfl)
  | ((with_reducible apply sqT_K); (focus with_reducible assumption); rfl)
  | ((with_reducible apply SqT.of); walk_at "f")
  | ((with_reducible apply SqL.of); walk_at "f")
  | ((with_reducible apply back_raw); (focus walk_at "arr"); walk_at "f")
  | ((with_reducible apply frm_tup); (focus with_reducible assumption); (focus walk_at "f"); (focus walk_at "f"); (focus (intro _ z; cases z; done)))
  | ((with_reducible apply frm_raw); (focus with_reducible assumption); (focus walk_at "f"); walk_at "f")
  | ((with_reducible apply bowl_back); (focus walk_at "arr"); walk_at "f")
  | ((with_reducible apply bowl_ne); (focus with_reducible assumption); walk_at "f")
  | ((with_reducible apply Num.int); with_reducible assumption)
  | ((with_reducible apply same_snoc); (focus walk_at "arr"); walk_at "f")
  | ((with_reducible apply frm_back); (focus walk_at "arr"); walk_at "f")
  | ((with_reducible apply frm_backF); (focus with_reducible assumption); walk_at "f")
  | ((with_reducible apply back_sqT); (focus walk_at "arr"); walk_at "f")
  | ((with_reducible apply same_sqL); (focus walk_at "arr"); walk_at "f")
  | ((with_reducible apply free_same); (focus with_reducible assumption); walk_at "f")
  | ((with_reducible apply free_frm); (focus with_reducible assumption); (focus with_reducible assumption); walk_at "f")
  | ((with_reducible apply frm_sqL); (focus with_reducible assumption); (focus walk_at "f"); walk_at "f"))
local macro_rules | `(tactic| walk_at "bt") => `(tactic| first
  | with_reducible assumption
  | ((with_reducible apply bt_mul); (focus walk_at "bt"); walk_at "bt")
  | ((with_reducible apply bt_add); (focus walk_at "bt"); walk_at "bt")
  | ((with_reducible apply bt_sub); (focus walk_at "bt"); walk_at "bt")
  | ((with_reducible apply bt_neg); walk_at "bt")
  | ((with_reducible apply bt_div); walk_at "bt")
  | ((with_reducible apply bt_mod); (focus (first | assumption | omega)); walk_at "bt")
  | exact bt_lit (n := 64) (by decide)
  | exact bt_lit (n := 200) (by decide +kernel))
local macro_rules | `(tactic| walk_at "lin") => `(tactic| first
  | exact (by decide : 1 ≤ sizeLine) | exact (by decide : 2 ≤ sizeLine) | exact (by decide : 3 ≤ sizeLine) | exact (by decide : 4 ≤ sizeLine) | exact (by decide : 0 ≤ sizeLine) | exact (by decide : 5 ≤ sizeLine) | exact (by decide : 6 ≤ sizeLine))
local macro_rules | `(tactic| walk_at "dp") => `(tactic| first
  | exact Dp.int _
  | exact DpAll.nil
  | ((with_reducible apply Dp.lst); (focus walk_at "f"); walk_at "dp")
  | ((with_reducible apply Dp.tup); (focus walk_at "f"); walk_at "dp")
  | ((with_reducible apply DpAll.cons); (focus walk_at "dp"); walk_at "dp"))
local macro_rules | `(tactic| walk_at "sv") => `(tactic| first
  | with_reducible rfl
  | walk_at "f"
  | exact rfl
  | walk_at "dp"
  | exact shp_lst [_] | exact shp_lst [_, _] | exact shp_lst [_, _, _] | exact shp_lst [_, _, _, _] | exact shp_tup [_, _] | exact shp_tup [_, _, _]
  | ((apply tyV_lst); walk_at "f")
  | ((with_reducible apply bt_mulW); (focus walk_at "bt"); (focus walk_at "bt"); (focus (first | decide | omega)))
  | ((with_reducible apply bt_divW); (focus (first | decide | assumption | omega)); (focus walk_at "bt"); (focus (first | decide | omega)))
  | ((with_reducible apply bt_divP); (focus (first | decide | assumption | omega)); (focus walk_at "bt"); (focus (first | decide | omega)))
  | exact ⟨by decide, by decide +kernel⟩
  | exact Or.inl (by decide)
  | exact Or.inr (by decide)
  | exact Or.inl ⟨by omega, by omega⟩
  | exact Or.inr ⟨by omega, by omega⟩
  | ((with_reducible apply Or.inl); walk_at "sv")
  | ((with_reducible apply Or.inr); walk_at "sv")
  | ((with_reducible apply Exists.intro); walk_at "sv")
  | ((with_reducible apply And.intro); (focus walk_at "sv"); walk_at "sv")
  | walk_at "lin"
  | decide
  | omega
  | (simp only [List.length_cons, List.length_nil, List.length_map]; first | done | omega))
local macro_rules | `(tactic| walk_at "one") => `(tactic| first
  | ((fail_if_success refine' @Exists.intro (Nat → L2.St → Hp → Prop) _ ?_ ?_); (fail_if_success refine' @Exists.intro (Nat → Nat → L2.St → Hp → Prop) _ ?_ ?_); (fail_if_success refine' @Exists.intro (L2.St → Hp → Prop) _ ?_ ?_); (fail_if_success refine' @Exists.intro (Nat → Nat → Hp → Prop) _ ?_ ?_); (fail_if_success refine' @Exists.intro (Hp → Prop) _ ?_ ?_); apply Exists.intro)
  | (apply And.intro; (focus walk_at "sv"))
  | intro _
  | (apply ifT; (focus rfl))
  | (apply ifF; (focus rfl))
  | ((apply Or.inl); (apply Exists.intro); (apply And.intro); (focus exact rfl))
  | ((apply Or.inl); (apply And.intro); (focus walk_at "f"))
  | ((apply Or.inr); (apply Exists.intro); (apply And.intro); (focus exact rfl))
  | (apply ifTd; (focus (first | assumption | omega)))
  | (apply ifFd; (focus (first | assumption | omega))))
local macro_rules | `(tactic| walk_at "go") => `(tactic| repeat walk_at "one")
local macro_rules | `(tactic| walk_at "nm") => `(tactic| try simp only [List.set_cons_zero, List.set_cons_succ])
local macro_rules | `(tactic| walk_at "gon") => `(tactic| repeat (walk_at "one"; walk_at "nm"))

local macro_rules | `(tactic| walk_at "arr") => `(tactic| first
  | ((with_reducible apply made2); (focus with_reducible assumption); (focus with_reducible assumption); with_reducible assumption)
  | ((with_reducible apply same_up); (focus with_reducible assumption); with_reducible assumption))
local macro_rules | `(tactic| walk_at "f") => `(tactic| first
  | ((with_reducible apply Num.long); walk_at "f")
  | ((with_reducible apply ratu_back); (focus walk_at "arr"); walk_at "f")
  | ((with_reducible apply ratu_frm); (focus with_reducible assumption); (focus walk_at "f"); walk_at "f")
  | ((with_reducible apply rat_back); (focus walk_at "arr"); walk_at "f")
  | ((with_reducible apply rat_frm); (focus with_reducible assumption); (focus walk_at "f"); walk_at "f")
  | ((with_reducible apply ratb_u); (focus walk_at "f"); with_reducible assumption)
  | ((with_reducible apply ratb_at); (focus walk_at "f"); with_reducible assumption)
  | ((with_reducible apply ratb_back); (focus walk_at "arr"); walk_at "f")
  | ((with_reducible apply ratb_frm); (focus with_reducible assumption); (focus walk_at "f"); walk_at "f")
  | ((with_reducible apply Rn.rat); walk_at "f")
  | ((with_reducible apply Rn.int); with_reducible assumption)
  | ((with_reducible apply rat_raw); walk_at "f")
  | ((with_reducible apply ratb_raw); walk_at "f"))
local macro_rules | `(tactic| walk_at "f") => `(tactic| first
  | ((apply ty_rat); (focus assumption); walk_at "f")
  | ((apply ty_ratb); (focus assumption); walk_at "f")
  | exact nf_self
  | exact TyX.base (.int _)
  | ((with_reducible apply Pay.two); (focus with_reducible assumption); (focus with_reducible assumption); (focus (first | with_reducible assumption | decide)); (first | with_reducible assumption | rfl))
  | ((with_reducible apply nf_K); (focus with_reducible assumption); rfl)
  | exact bt_lit (by decide +kernel))
local macro_rules | `(tactic| walk_at "one") => `(tactic| ((apply Or.inl); (apply Exists.intro); (apply Exists.intro); (apply And.intro); (focus exact rfl)))
def sp_common_factor (A : Ad) : Sp := fun vs H Q _ => ∃ (u v : V) (a b : Int), vs = [u, v] ∧ Num A H u a ∧ Num A H v b ∧ 1 ≤ b ∧ ∀ H', Same H H' → Q (.int (gc a b)) H'
def sp_are_coprime (A : Ad) : Sp := fun vs H Q _ => ∃ (u v : V) (a b : Int), vs = [u, v] ∧ Num A H u a ∧ Num A H v b ∧ 1 ≤ b ∧ ∀ H', Same H H' → Q (.bl (decide (V.int (gc a b) = V.int 1))) H'
def sp_inverse_of (A : Ad) : Sp := fun vs H Q _ => ∃ (u v : V) (a b : Int), vs = [u, v] ∧ Num A H u a ∧ Num A H v b ∧ 1 ≤ b ∧ Bt 400 b ∧ gc a b = 1 ∧ ∀ x H', 0 ≤ x → x < b → b ∣ (a * x - 1) → Same H H' → Q (.int x) H'
theorem inv_bd {l h one other b : Int} (e : h * one + l * other = b) (h0 : 0 ≤ h) (l0 : 0 ≤ l) (o0 : 0 < other) (p0 : 0 ≤ one) : l ≤ b := by
  have h1 := Int.mul_nonneg h0 p0
  have h2 : l * 1 ≤ l * other := Int.mul_le_mul_of_nonneg_left (by omega) l0
  omega
theorem gc_z {x : Int} (h : 0 ≤ x) : gc x 0 = x := by
  unfold gc
  rw [Int.gcd_zero_right]
  omega
/- what the law's own steps towards an inverse keep -/
structure WI (a b one other low high : Int) : Prop where
  o0 : 0 ≤ one
  p0 : 0 ≤ other
  ob : one ≤ b
  pb : other ≤ b
  g : gc one other = gc a b
  d1 : b ∣ (one - low * a)
  d2 : b ∣ (other - high * a)
  s : ∃ l h : Int, 0 ≤ l ∧ 0 ≤ h ∧ l ≤ b ∧ h ≤ b ∧ h * one + l * other = b ∧ ((low = l ∧ high = -h) ∨ (low = -l ∧ high = h))
theorem WI.start {a b : Int} (hb : 0 < b) : WI a b (a % b) b 1 0 := by
  have m0 := Int.emod_nonneg a (show b ≠ 0 by omega)
  have m1 := Int.emod_lt_of_pos a hb
  refine ⟨m0, by omega, by omega, by omega, gc_mod, ?_, ?_, 1, 0, by omega, by omega, by omega, by omega, by omega, .inl ⟨rfl, rfl⟩⟩
  · refine ⟨-(a / b), ?_⟩
    have := Int.emod_add_mul_ediv a b
    rw [Int.one_mul, Int.mul_neg]
    omega
  · refine ⟨1, ?_⟩
    omega
theorem WI.go {a b one other low high : Int} (w : WI a b one other low high) (hb : 0 < b) (h : 0 < other) : WI a b other (one - one / other * other) high (low - one / other * high) := by
  have e : one - one / other * other = one % other := by
    have := Int.emod_add_mul_ediv one other
    rw [Int.mul_comm] at this
    omega
  have t0 : 0 ≤ one / other := Int.ediv_nonneg w.o0 (by omega)
  have m0 := Int.emod_nonneg one (show other ≠ 0 by omega)
  have m1 := Int.emod_lt_of_pos one h
  obtain ⟨l, hh, l0, h0, lb, hb', e2, sg⟩ := w.s
  have e4 := Int.emod_add_mul_ediv one other
  have pb := w.pb
  have th := Int.mul_nonneg t0 h0
  have e5 : (l + one / other * hh) * other + hh * (one - one / other * other) = b := by
    rw [← e2]
    generalize one / other = t at *
    clear w e2 e4 th sg
    grind
  have hn : l + one / other * hh ≤ b := inv_bd (h := hh) (one := one - one / other * other) (by rw [← e5]; omega) h0 (by omega) h (by omega)
  refine ⟨by omega, by omega, w.pb, by omega, ?_, w.d2, ?_, hh, l + one / other * hh, h0, by omega, hb', hn, e5, ?_⟩
  · rw [e, gc_comm, gc_mod]
    exact w.g
  · obtain ⟨x, hx⟩ := w.d1
    obtain ⟨y, hy⟩ := w.d2
    refine ⟨x - one / other * y, ?_⟩
    rw [Int.mul_sub, ← hx, show b * (one / other * y) = one / other * (b * y) by grind, ← hy]
    generalize one / other = t at *
    clear w e hx hy e2 e4 e5 th sg hn
    grind
  · rcases sg with ⟨z1, z2⟩ | ⟨z1, z2⟩
    · refine .inr ⟨z2, ?_⟩
      rw [z1, z2, Int.mul_neg]
      omega
    · refine .inl ⟨z2, ?_⟩
      rw [z1, z2]
      omega
theorem WI.fin {a b one low high : Int} (w : WI a b one 0 low high) (hb : 0 < b) : one = gc a b ∧ (one = 1 → 0 ≤ low % b ∧ low % b < b ∧ b ∣ (a * (low % b) - 1)) := by
  have g := w.g
  rw [gc_z w.o0] at g
  refine ⟨g, fun h1 => ⟨Int.emod_nonneg _ (by omega), Int.emod_lt_of_pos _ hb, ?_⟩⟩
  obtain ⟨x, hx⟩ := w.d1
  refine ⟨-x - a * (low / b), ?_⟩
  have e := Int.emod_add_mul_ediv low b
  have e2 : low % b = low - b * (low / b) := by omega
  rw [e2]
  generalize low / b = t at *
  clear w e e2 g
  subst h1
  grind
def sp__law_whole_inverse : Sp := fun vs H Q _ => ∃ (a b : Int), vs = [.int a, .int b] ∧ 0 < b ∧ Bt 900 b ∧ (gc a b = 1 → ∀ x H', 0 ≤ x → x < b → b ∣ (a * x - 1) → Same H H' → Q (.int x) H') ∧ (gc a b ≠ 1 → ∀ H', Same H H' → Q .non H')
def sp__law_exchange : Sp := fun vs H Q _ => ∃ (a b : Int), vs = [.int a, .int b] ∧ 0 < a ∧ 0 < b ∧ Bt 900 a ∧ Bt 900 b ∧ ∀ t H', H t = none → Same H H' → H' t = some (.tup [.int (Rat.divInt (a * a + b * b + 1 - 3 * a * b) (12 * a * b)).num, .int ((Rat.divInt (a * a + b * b + 1 - 3 * a * b) (12 * a * b)).den : Int)]) → Q (.ref t) H'
end
end Tk

set_option maxHeartbeats 2000000
namespace Tk
open PySem PySem.Spec PyProof.Rows L2 Tc
section
variable {P : Program} {w : World} {K : PySem.W.Frag} {mg : Str → Option Value} {base : Heap} {A : Ad}
open Tm
local macro_rules | `(tactic| walk_at "arr") => `(tactic| first
  | with_reducible assumption
  | ((with_reducible apply same_new); with_reducible assumption))
local macro_rules | `(tactic| walk_at "f") => `(tactic| first
  | with_reducible assumption
  | with_reducible exact upd_same
  | with_reducible exact Same.refl _
  | with_reducible exact Frm.refl
  | ((with_reducible apply sqL_K); (focus with_reducible assumption); rfl)
  | ((with_reducible apply sqT_K); (focus with_reducible assumption); rfl)
  | ((with_reducible apply SqT.of); walk_at "f")
  | ((with_reducible apply SqL.of); walk_at "f")
  | ((with_reducible apply back_raw); (focus walk_at "arr"); walk_at "f")
  | ((with_reducible apply frm_tup); (focus with_reducible assumption); (focus walk_at "f"); (focus walk_at "f"); (focus (intro _ z; cases z; done)))
  | ((with_reducible apply frm_raw); (focus with_reducible assumption); (focus walk_at "f"); walk_at "f")
  | ((with_reducible apply bowl_back); (focus walk_at "arr"); walk_at "f")
  | ((with_reducible apply bowl_ne); (focus with_reducible assumption); walk_at "f")
  | ((with_reducible apply Num.int); with_reducible assumption)
  | ((with_reducible apply same_snoc); (focus walk_at "arr"); walk_at "f")
  | ((with_reducible apply frm_back); (focus walk_at "arr"); walk_at "f")
  | ((with_reducible apply frm_backF); (focus with_reducible assumption); walk_at "f")
  | ((with_reducible apply back_sqT); (focus walk_at "arr"); walk_at "f")
  | ((with_reducible apply same_sqL); (focus walk_at "arr"); walk_at "f")
  | ((with_reducible apply free_same); (focus with_reducible assumption); walk_at "f")
  | ((with_reducible apply free_frm); (focus with_reducible assumption); (focus with_reducible assumption); walk_at "f")
  | ((with_reducible apply frm_sqL); (focus with_reducible assumption); (focus walk_at "f"); walk_at "f"))
local macro_rules | `(tactic| walk_at "bt") => `(tactic| first
  | with_reducible assumption
  | ((with_reducible apply bt_mul); (focus walk_at "bt"); walk_at "bt")
  | ((with_reducible apply bt_add); (focus walk_at "bt"); walk_at "bt")
  | ((with_reducible apply bt_sub); (focus walk_at "bt"); walk_at "bt")
  | ((with_reducible apply bt_neg); walk_at "bt")
  | ((with_reducible apply bt_div); walk_at "bt")
  | ((with_reducible apply bt_mod); (focus (first | assumption | omega)); walk_at "bt")
  | exact bt_lit (n := 64) (by decide)
  | exact bt_lit (n := 200) (by decide +kernel))
local macro_rules | `(tactic| walk_at "lin") => `(tactic| first
  | exact (by decide : 1 ≤ sizeLine) | exact (by decide : 2 ≤ sizeLine) | exact (by decide : 3 ≤ sizeLine) | exact (by decide : 4 ≤ sizeLine) | exact (by decide : 0 ≤ sizeLine) | exact (by decide : 5 ≤ sizeLine) | exact (by decide : 6 ≤ sizeLine))
local macro_rules | `(tactic| walk_at "dp") => `(tactic| first
  | exact Dp.int _
  | exact DpAll.nil
  | ((with_reducible apply Dp.lst); (focus walk_at "f"); walk_at "dp")
  | ((with_reducible apply Dp.tup); (focus walk_at "f"); walk_at "dp")
  | ((with_reducible apply DpAll.cons); (focus walk_at "dp"); walk_at "dp"))
local macro_rules | `(tactic| walk_at "sv") => `(tactic| first
  | with_reducible rfl
  | walk_at "f"
  | exact rfl
  | walk_at "dp"
  | exact shp_lst [_] | exact shp_lst [_, _] | exact shp_lst [_, _, _] | exact shp_lst [_, _, _, _] | exact shp_tup [_, _] | exact shp_tup [_, _, _]
  | ((apply tyV_lst); walk_at "f")
  | ((with_reducible apply bt_mulW); (focus walk_at "bt"); (focus walk_at "bt"); (focus (first | decide | omega)))
  | ((with_reducible apply bt_divW); (focus (first | decide | assumption | omega)); (focus walk_at "bt"); (focus (first | decide | omega)))
  | ((with_reducible apply bt_divP); (focus (first | decide | assumption | omega)); (focus walk_at "bt"); (focus (first | decide | omega)))
  | exact ⟨by decide, by decide +kernel⟩
  | exact Or.inl (by decide)
  | exact Or.inr (by decide)
  | exact Or.inl ⟨by omega, by omega⟩
  | exact Or.inr ⟨by omega, by omega⟩
  | ((with_reducible apply Or.inl); walk_at "sv")
  | ((with_reducible apply Or.inr); walk_at "sv")
  | ((with_reducible apply Exists.intro); walk_at "sv")
  | ((with_reducible apply And.intro); (focus walk_at "sv"); walk_at "sv")
  | walk_at "lin"
  | decide
  | omega
  | (simp only [List.length_cons, List.length_nil, List.length_map]; first | done | omega))
local macro_rules | `(tactic| walk_at "one") => `(tactic| first
  | ((fail_if_success refine' @Exists.intro (Nat → L2.St → Hp → Prop) _ ?_ ?_); (fail_if_success refine' @Exists.intro (Nat → Nat → L2.St → Hp → Prop) _ ?_ ?_); (fail_if_success refine' @Exists.intro (L2.St → Hp → Prop) _ ?_ ?_); (fail_if_success refine' @Exists.intro (Nat → Nat → Hp → Prop) _ ?_ ?_); (fail_if_success refine' @Exists.intro (Hp → Prop) _ ?_ ?_); apply Exists.intro)
  | (apply And.intro; (focus walk_at "sv"))
  | intro _
  | (apply ifT; (focus rfl))
  | (apply ifF; (focus rfl))
  | ((apply Or.inl); (apply Exists.intro); (apply And.intro); (focus exact rfl))
  | ((apply Or.inl); (apply And.intro); (focus walk_at "f"))
  | ((apply Or.inr); (apply Exists.intro); (apply And.intro); (focus exact rfl))
  | (apply ifTd; (focus (first | assumption | omega)))
  | (apply ifFd; (focus (first | assumption | omega))))
local macro_rules | `(tactic| walk_at "go") => `(tactic| repeat walk_at "one")
local macro_rules | `(tactic| walk_at "nm") => `(tactic| try simp only [List.set_cons_zero, List.set_cons_succ])
local macro_rules | `(tactic| walk_at "gon") => `(tactic| repeat (walk_at "one"; walk_at "nm"))
def intOf : V → Int
  | .int i => i
  | _ => 0
/- a ratio in words -/
def ratText (q : Rat) : Str := if q.den = 1 then Str.ofString (toString q.num) else Str.ofString (toString q.num) ++ Str.ofString "/" ++ Str.ofString (toString (q.den : Int))
theorem text_len {n : Int} (h : Bt 8000 n) : (Str.ofString (toString n)).length ≤ 8001 := by
  have hN : n.natAbs < 10 ^ (7999 + 1) := Nat.lt_of_lt_of_le h (Nat.pow_le_pow_left (by decide) 8000)
  have hl := dg_len_lt 7999 n.natAbs hN
  rw [int_tx, tx_len, List.length_append]
  have : (if n < 0 then ['-'] else []).length ≤ 1 := by split <;> decide
  omega
theorem app_len (a b : Str) : (a ++ b).length = a.length + b.length := by
  obtain ⟨a⟩ := a
  obtain ⟨b⟩ := b
  show (a ++ b).size = a.size + b.size
  exact Array.size_append
theorem line_big : 100000 ≤ sizeLine := by decide
def sp_fraction_text : Sp := fun vs H Q _ => ∃ q : Rat, vs = [.int q.num, .int (q.den : Int)] ∧ Bt 8000 q.num ∧ Bt 8000 (q.den : Int) ∧ ∀ H', Same H H' → Q (.str (ratText q)) H'
theorem ok_fraction_text (T : Txt K mg A) : FnOk P w K mg base CX0 3 A.f_fraction_text A.d_fraction_text ["top", "bottom"] sp_fraction_text := by
  refine T.F_fraction_text.ok sc_fraction_text (fun vs H Q E h => ?_) (fun cdv Ar outer s H vs Q E hr h => ?_)
  · obtain ⟨q, rfl, _⟩ := h
    rfl
  · obtain ⟨q, rfl, h1, h2, k⟩ := h
    have hu := hu_of hr
    refine ⟨_, (pss_cons (ps_if (pt_cmpR op_eq (pv 1) pe_int (nomark _))
        (pss_one (ps_ret (pe_call (ok_integer_text T) (hr.mono (by decide)) rfl T.m_integer_text T.F_integer_text.kp T.b_integer_text .nil pass0 (pa_cons (pv 0) pa_nil))))
        pss_nil)
      (pss_one (ps_ret (pe_joined (.cons (pe_fmt (pe_call (ok_integer_text T) (hr.mono (by decide)) rfl T.m_integer_text T.F_integer_text.kp T.b_integer_text .nil pass0 (pa_cons (pv 0) pa_nil))) (.cons pe_str (.cons (pe_fmt (pe_call (ok_integer_text T) (hr.mono (by decide)) rfl T.m_integer_text T.F_integer_text.kp T.b_integer_text .nil pass0 (pa_cons (pv 1) pa_nil))) PJ.nil))))))), ?_⟩
    have l1 := text_len h1
    have l2 := text_len h2
    have lb := line_big
    refine ⟨_, rfl, rfl, _, rfl, ?_⟩
    rw [dec_int']
    refine ite2 (fun h => ?_) (fun h => ?_)
    · have e : q.den = 1 := by
        have := of_decide_eq_true h
        omega
      refine ⟨_, rfl, _, rfl, h1, fun H1 s1 => ?_⟩
      have kk := k H1 s1
      unfold ratText at kk
      rw [if_pos e] at kk
      exact kk
    · have e : ¬ q.den = 1 := fun z => h (decide_eq_true (by omega))
      refine ⟨_, rfl, _, rfl, h1, fun H1 s1 => .inl ⟨_, rfl, by omega, ?_⟩⟩
      have kk : ∀ H', Same H H' → Q (.str (Str.empty ++ Str.ofString (toString q.num) ++ Str.ofString "/" ++ Str.ofString (toString (q.den : Int)))) H' := fun H' s => by
        have kk := k H' s
        unfold ratText at kk
        rw [if_neg e] at kk
        have z : Str.empty ++ Str.ofString (toString q.num) = Str.ofString (toString q.num) := by
          have z : (Str.empty).cps = #[] := rfl
          generalize Str.ofString (toString q.num) = b
          obtain ⟨b⟩ := b
          show Str.mk (Str.empty.cps ++ b) = Str.mk b
          simp [z]
        rw [z]
        exact kk
      have l0 : (Str.empty ++ Str.ofString (toString q.num)).length ≤ 8001 := by
        rw [app_len]
        show 0 + _ ≤ _
        omega
      have l4 : (Str.ofString "/").length = 1 := by decide
      refine ⟨_, rfl, by omega, ?_⟩
      refine ⟨_, rfl, by rw [app_len]; omega, _, rfl, _, rfl, h2, fun H2 s2 => .inl ⟨_, rfl, by omega, ?_⟩⟩
      refine ⟨_, rfl, by rw [app_len, app_len]; omega, ?_⟩
      exact kk H2 (s1.trans s2)

local macro_rules | `(tactic| walk_at "arr") => `(tactic| first
  | ((with_reducible apply made2); (focus with_reducible assumption); (focus with_reducible assumption); with_reducible assumption)
  | ((with_reducible apply same_up); (focus with_reducible assumption); with_reducible assumption))
local macro_rules | `(tactic| walk_at "f") => `(tactic| first
  | ((with_reducible apply Num.long); walk_at "f")
  | ((with_reducible apply ratu_back); (focus walk_at "arr"); walk_at "f")
  | ((with_reducible apply ratu_frm); (focus with_reducible assumption); (focus walk_at "f"); walk_at "f")
  | ((with_reducible apply rat_back); (focus walk_at "arr"); walk_at "f")
  | ((with_reducible apply rat_frm); (focus with_reducible assumption); (focus walk_at "f"); walk_at "f")
  | ((with_reducible apply ratb_u); (focus walk_at "f"); with_reducible assumption)
  | ((with_reducible apply ratb_at); (focus walk_at "f"); with_reducible assumption)
  | ((with_reducible apply ratb_back); (focus walk_at "arr"); walk_at "f")
  | ((with_reducible apply ratb_frm); (focus with_reducible assumption); (focus walk_at "f"); walk_at "f")
  | ((with_reducible apply Rn.rat); walk_at "f")
  | ((with_reducible apply Rn.int); with_reducible assumption)
  | ((with_reducible apply rat_raw); walk_at "f")
  | ((with_reducible apply ratb_raw); walk_at "f"))
local macro_rules | `(tactic| walk_at "f") => `(tactic| first
  | ((apply ty_rat); (focus assumption); walk_at "f")
  | ((apply ty_ratb); (focus assumption); walk_at "f")
  | exact nf_self
  | exact TyX.base (.int _)
  | ((with_reducible apply Pay.two); (focus with_reducible assumption); (focus with_reducible assumption); (focus (first | with_reducible assumption | decide)); (first | with_reducible assumption | rfl))
  | ((with_reducible apply nf_K); (focus with_reducible assumption); rfl)
  | exact bt_lit (by decide +kernel))
local macro_rules | `(tactic| walk_at "one") => `(tactic| ((apply Or.inl); (apply Exists.intro); (apply Exists.intro); (apply And.intro); (focus exact rfl)))
def sp_Ratio___str__ (A : Ad) : Sp := fun vs H Q _ => ∃ (p : Addr) (q : Rat), vs = [.ref p] ∧ RatB 4000 A.a_Ratio H p q ∧ Bt 8000 q.num ∧ Bt 8000 (q.den : Int) ∧ ∀ H', Same H H' → Q (.str (ratText q)) H'
theorem ok_Ratio___str__ (T : Txt K mg A) : FnOk P w K mg base CX0 4 A.f_Ratio___str__ A.d_Ratio___str__ ["self"] (sp_Ratio___str__ A) := by
  refine T.F_Ratio___str__.ok sc_Ratio___str__ (fun vs H Q E h => ?_) (fun cdv Ar outer s H vs Q E hr h => ?_)
  · obtain ⟨p, q, rfl, _⟩ := h
    rfl
  · obtain ⟨p, q, rfl, L, h1, h2, k⟩ := h
    have hu := hu_of hr
    refine ⟨_, (pss_one (ps_ret (pe_callTy SkE.call_str_str (by rfl) T.b_str (by decide +kernel) (pa_cons (pe_call (ok_fraction_text T) (hr.mono (by decide)) rfl T.m_fraction_text T.F_fraction_text.kp T.b_fraction_text .nil pass0 (pa_cons (pe_prop (pv 0) T.c_Ratio T.p_Ratio_top (ok_Ratio_top T) (hr.mono (by decide)) T.b_Ratio_top .nil pass0 rfl) (pa_cons (pe_prop (pv 0) T.c_Ratio T.p_Ratio_bottom (ok_Ratio_bottom T) (hr.mono (by decide)) T.b_Ratio_bottom .nil pass0 rfl) pa_nil))) pa_nil)))), ?_⟩
    walk_at "go"
    exact k _ (by walk_at "f")
def sp__law_wide_pair : Sp := fun vs H Q _ => ∃ (a : Addr) (w : Int), vs = [.ref a, .int w] ∧ Bowl H a ∧ 0 < w ∧ w ≤ 10 ^ 58 ∧ ∀ p x y H', H p = none → Frm a H H' → Bowl H' a → H' p = some (.tup [.int x, .int y]) → -(12 * w) ≤ x → x ≤ 12 * w → 1 ≤ y → y ≤ 6 * w → Q (.ref p) H'
end
end Tk

set_option maxHeartbeats 2000000
namespace Tk
open PySem PySem.Spec PyProof.Rows L2 Tc
section
variable {P : Program} {w : World} {K : PySem.W.Frag} {mg : Str → Option Value} {base : Heap} {A : Ad}
open Tm
local macro_rules | `(tactic| walk_at "arr") => `(tactic| first
  | with_reducible assumption
  | ((with_reducible apply same_new); with_reducible assumption))
local macro_rules | `(tactic| walk_at "f") => `(tactic| first
  | with_reducible assumption
  | with_reducible exact upd_same
  | with_reducible exact Same.refl _
  | with_reducible exact Frm.refl
  | ((with_reducible apply sqL_K); (focus with_reducible assumption); rfl)
  | ((with_reducible apply sqT_K); (focus with_reducible assumption); rfl)
  | ((with_reducible apply SqT.of); walk_at "f")
  | ((with_reducible apply SqL.of); walk_at "f")
  | ((with_reducible apply back_raw); (focus walk_at "arr"); walk_at "f")
  | ((with_reducible apply frm_tup); (focus with_reducible assumption); (focus walk_at "f"); (focus walk_at "f"); (focus (intro _ z; cases z; done)))
  | ((with_reducible apply frm_raw); (focus with_reducible assumption); (focus walk_at "f"); walk_at "f")
  | ((with_reducible apply bowl_back); (focus walk_at "arr"); walk_at "f")
  | ((with_reducible apply bowl_ne); (focus with_reducible assumption); walk_at "f")
  | ((with_reducible apply Num.int); with_reducible assumption)
  | ((with_reducible apply same_snoc); (focus walk_at "arr"); walk_at "f")
  | ((with_reducible apply frm_back); (focus walk_at "arr"); walk_at "f")
  | ((with_reducible apply frm_backF); (focus with_reducible assumption); walk_at "f")
  | ((with_reducible apply back_sqT); (focus walk_at "arr"); walk_at "f")
  | ((with_reducible apply same_sqL); (focus walk_at "arr"); walk_at "f")
  | ((with_reducible apply free_same); (focus with_reducible assumption); walk_at "f")
  | ((with_reducible apply free_frm); (focus with_reducible assumption); (focus with_reducible assumption); walk_at "f")
  | ((with_reducible apply frm_sqL); (focus with_reducible assumption); (focus walk_at "f"); walk_at "f"))
local macro_rules | `(tactic| walk_at "bt") => `(tactic| first
  | with_reducible assumption
  | ((with_reducible apply bt_mul); (focus walk_at "bt"); walk_at "bt")
  | ((with_reducible apply bt_add); (focus walk_at "bt"); walk_at "bt")
  | ((with_reducible apply bt_sub); (focus walk_at "bt"); walk_at "bt")
  | ((with_reducible apply bt_neg); walk_at "bt")
  | ((with_reducible apply bt_div); walk_at "bt")
  | ((with_reducible apply bt_mod); (focus (first | assumption | omega)); walk_at "bt")
  | exact bt_lit (n := 64) (by decide)
  | exact bt_lit (n := 200) (by decide +kernel))
local macro_rules | `(tactic| walk_at "lin") => `(tactic| first
  | exact (by decide : 1 ≤ sizeLine) | exact (by decide : 2 ≤ sizeLine) | exact (by decide : 3 ≤ sizeLine) | exact (by decide : 4 ≤ sizeLine) | exact (by decide : 0 ≤ sizeLine) | exact (by decide : 5 ≤ sizeLine) | exact (by decide : 6 ≤ sizeLine))
local macro_rules | `(tactic| walk_at "dp") => `(tactic| first
  | exact Dp.int _
  | exact DpAll.nil
  | ((with_reducible apply Dp.lst); (focus walk_at "f"); walk_at "dp")
  | ((with_reducible apply Dp.tup); (focus walk_at "f"); walk_at "dp")
  | ((with_reducible apply DpAll.cons); (focus walk_at "dp"); walk_at "dp"))
local macro_rules | `(tactic| walk_at "sv") => `(tactic| first
  | with_reducible rfl
  | walk_at "f"
  | exact rfl
  | walk_at "dp"
  | exact shp_lst [_] | exact shp_lst [_, _] | exact shp_lst [_, _, _] | exact shp_lst [_, _, _, _] | exact shp_tup [_, _] | exact shp_tup [_, _, _]
  | ((apply tyV_lst); walk_at "f")
  | ((with_reducible apply bt_mulW); (focus walk_at "bt"); (focus walk_at "bt"); (focus (first | decide | omega)))
  | ((with_reducible apply bt_divW); (focus (first | decide | assumption | omega)); (focus walk_at "bt"); (focus (first | decide | omega)))
  | ((with_reducible apply bt_divP); (focus (first | decide | assumption | omega)); (focus walk_at "bt"); (focus (first | decide | omega)))
  | exact ⟨by decide, by decide +kernel⟩
  | exact Or.inl (by decide)
  | exact Or.inr (by decide)
  | exact Or.inl ⟨by omega, by omega⟩
  | exact Or.inr ⟨by omega, by omega⟩
  | ((with_reducible apply Or.inl); walk_at "sv")
  | ((with_reducible apply Or.inr); walk_at "sv")
  | ((with_reducible apply Exists.intro); walk_at "sv")
  | ((with_reducible apply And.intro); (focus walk_at "sv"); walk_at "sv")
  | walk_at "lin"
  | decide
  | omega
  | (simp only [List.length_cons, List.length_nil, List.length_map]; first | done | omega))
local macro_rules | `(tactic| walk_at "one") => `(tactic| first
  | ((fail_if_success refine' @Exists.intro (Nat → L2.St → Hp → Prop) _ ?_ ?_); (fail_if_success refine' @Exists.intro (Nat → Nat → L2.St → Hp → Prop) _ ?_ ?_); (fail_if_success refine' @Exists.intro (L2.St → Hp → Prop) _ ?_ ?_); (fail_if_success refine' @Exists.intro (Nat → Nat → Hp → Prop) _ ?_ ?_); (fail_if_success refine' @Exists.intro (Hp → Prop) _ ?_ ?_); apply Exists.intro)
  | (apply And.intro; (focus walk_at "sv"))
  | intro _
  | (apply ifT; (focus rfl))
  | (apply ifF; (focus rfl))
  | ((apply Or.inl); (apply Exists.intro); (apply And.intro); (focus exact rfl))
  | ((apply Or.inl); (apply And.intro); (focus walk_at "f"))
  | ((apply Or.inr); (apply Exists.intro); (apply And.intro); (focus exact rfl))
  | (apply ifTd; (focus (first | assumption | omega)))
  | (apply ifFd; (focus (first | assumption | omega))))
local macro_rules | `(tactic| walk_at "go") => `(tactic| repeat walk_at "one")
local macro_rules | `(tactic| walk_at "nm") => `(tactic| try simp only [List.set_cons_zero, List.set_cons_succ])
local macro_rules | `(tactic| walk_at "gon") => `(tactic| repeat (walk_at "one"; walk_at "nm"))
def sp__checked_line (A : Ad) : Sp := fun vs H Q _ => ∃ (u v x y : V) (n a c m : Int), vs = [u, v, x, y] ∧ Num A H u n ∧ Num A H v a ∧ Num A H x c ∧ Num A H y m ∧ 0 ≤ n ∧ 1 ≤ m ∧
  ∀ p H', Same H H' → H' p = some (.tup [.int n, .int a, .int c, .int m]) → Q (.ref p) H'
def sp_floor_total : Sp := fun vs H Q _ => ∃ (n a c m : Int), vs = [.int n, .int a, .int c, .int m] ∧ 0 ≤ n ∧ 1 ≤ m ∧ Bt 400 n ∧ Bt 400 a ∧ Bt 400 c ∧ Bt 400 m ∧
  ∀ H', Same H H' → Q (.int (S0 n.toNat a c m)) H'
theorem ok_floor_total (T : Txt K mg A) : FnOk P w K mg base CX0 1 A.f_floor_total A.d_floor_total ["n", "a", "c", "m"] sp_floor_total := by
  refine T.F_floor_total.ok sc_floor_total (fun vs H Q E h => ?_) (fun cdv Ar outer s H vs Q E hr h => ?_)
  · obtain ⟨_, _, _, _, rfl, _⟩ := h
    rfl
  · obtain ⟨n0, a0, c0, m0, rfl, hn0, hm0, bn0, ba0, bc0, bm0, k⟩ := h
    have hu := hu_of hr
    refine ⟨_, (pss_cons (ps_set (i := 4) sc_floor_total.nd rfl (Or.inl rfl) pe_int)
      (pss_one (ps_while PassesOwn.never (pt_val pe_bl)
        (pss_cons (ps_asg (pe_callB call_divmodW (by rfl) T.b_divmod (by decide +kernel) (pa_cons (pv 1) (pa_cons (pv 3) pa_nil))) (pg_tup rfl (pgs_cons (pg_name (i := 5) sc_floor_total.nd rfl (Or.inl rfl)) (pgs_cons (pg_name (i := 1) sc_floor_total.nd rfl (Or.inl rfl)) pgs_nil))))
          (pss_cons (ps_asg (pe_callB call_divmodW (by rfl) T.b_divmod (by decide +kernel) (pa_cons (pv 2) (pa_cons (pv 3) pa_nil))) (pg_tup rfl (pgs_cons (pg_name (i := 6) sc_floor_total.nd rfl (Or.inl rfl)) (pgs_cons (pg_name (i := 2) sc_floor_total.nd rfl (Or.inl rfl)) pgs_nil))))
          (pss_cons (ps_set (i := 4) sc_floor_total.nd rfl (Or.inl rfl) (pe_op op_add (pe_op op_add (pv 4) (pe_op op_mulW (pv 5) (pe_op op_fdivW (pe_op op_mulW (pv 0) (pe_op op_sub (pv 0) pe_int)) pe_int))) (pe_op op_mulW (pv 6) (pv 0))))
          (pss_cons (ps_asg (pe_callB call_divmodW (by rfl) T.b_divmod (by decide +kernel) (pa_cons (pe_op op_add (pe_op op_mulW (pv 1) (pv 0)) (pv 2)) (pa_cons (pv 3) pa_nil))) (pg_tup rfl (pgs_cons (pg_name (i := 0) sc_floor_total.nd rfl (Or.inl rfl)) (pgs_cons (pg_name (i := 2) sc_floor_total.nd rfl (Or.inl rfl)) pgs_nil))))
          (pss_cons (ps_if (pt_cmpR op_eq (pv 0) pe_int (nomark _))
            (pss_one (ps_ret (pv 4)))
            pss_nil)
          (pss_one (ps_par (i := 1) (j := 3) (by rfl) sc_floor_total.nd rfl rfl (by decide) rfl rfl (pa_cons (pv 3) (pa_cons (pv 1) pa_nil)) (by rfl))))))))))), ?_⟩
    walk_at "go"
    refine ⟨fun m' σ H' => Stop (∃ (n a c m r : Int) (v5 v6 : Option V), m' = m.toNat ∧ σ = [some (.int n), some (.int a), some (.int c), some (.int m), some (.int r), v5, v6] ∧
      Same H H' ∧ 0 ≤ n ∧ 0 < m ∧ Bt 400 n ∧ Bt 400 a ∧ Bt 400 c ∧ Bt 400 m ∧ r + S0 n.toNat a c m = S0 n0.toNat a0 c0 m0),
      ⟨_, ⟨n0, a0, c0, m0, 0, none, none, rfl, rfl, Same.refl H, hn0, by omega, bn0, ba0, bc0, bm0, by omega⟩⟩, ?_⟩
    rintro m' σ H1 ⟨⟨n, a, c, m, r, v5, v6, rfl, rfl, s1, g1, g2, bn, ba, bc, bm, e1⟩⟩
    obtain ⟨q0, q1⟩ := high_le (a := a) (c := c) g2 g1
    have r1 := Int.emod_nonneg a (show m ≠ 0 by omega)
    have r2 := Int.emod_nonneg c (show m ≠ 0 by omega)
    have r3 := Int.emod_lt_of_pos a g2
    have r4 := Int.emod_lt_of_pos c g2
    have r5 := Int.emod_nonneg (a % m * n + c % m) (show m ≠ 0 by omega)
    have r6 := Int.emod_lt_of_pos (a % m * n + c % m) g2
    have bn' : Bt 400 ((a % m * n + c % m) / m) := bt_le q0 q1 bn
    walk_at "go"
    refine pass_body ?_
    walk_at "go"
    have dI : ∀ x : Int, (decide (V.int x = V.int 0)) = decide (x = 0) := fun x => dec_int' x 0
    have done : ∀ (x : Int) H', x = S0 n0.toNat a0 c0 m0 → Same H H' → Q (V.int x) H' := fun x H' e s => by
      rw [e]
      exact k H' s
    refine ite2 (fun hy => ?_) (fun hy => ?_)
    · have hy : (a % m * n + c % m) / m = 0 := of_decide_eq_true ((dI _).symm.trans hy)
      have st := area_end (a := a) (c := c) g2 g1 (.inr hy)
      have e2 : r + a / m * (n * (n - 1) / 2) + c / m * n = S0 n0.toNat a0 c0 m0 := by
        rw [← e1, st, ← Int.add_assoc]
        rfl
      walk_at "go"
      exact done _ _ e2 (by walk_at "f")
    · have hy : (a % m * n + c % m) / m ≠ 0 := fun e => hy ((dI _).trans (decide_eq_true e))
      have ap := floor_pos g2 g1 hy
      have st := floor_go (a := a) (c := c) g2 g1 ap
      have e2 : (r + a / m * (n * (n - 1) / 2) + c / m * n) + S0 ((a % m * n + c % m) / m).toNat m ((a % m * n + c % m) % m) (a % m) = S0 n0.toNat a0 c0 m0 := by
        rw [← e1, st, ← Int.add_assoc, ← Int.add_assoc]
        rfl
      walk_at "go"
      exact ⟨_, (show (a % m).toNat < m.toNat by omega), ⟨_, m, _, a % m, _, _, _, rfl, rfl, by walk_at "f", q0, ap, bn', bm, bt_le r5 (Int.le_of_lt r6) bm, bt_le r1 (Int.le_of_lt r3) bm, e2⟩⟩
def sp_line_sum (A : Ad) : Sp := fun vs H Q _ => ∃ (u v x y : V) (n a c m : Int), vs = [u, v, x, y] ∧ Num A H u n ∧ Num A H v a ∧ Num A H x c ∧ Num A H y m ∧ 0 ≤ n ∧ 1 ≤ m ∧ Bt 400 n ∧ Bt 400 a ∧ Bt 400 c ∧ Bt 400 m ∧
  ∀ H', Same H H' → Q (.int (S0 n.toNat a c m)) H'
def sp_points_up_to : Sp := fun vs H Q _ => ∃ (a b n : Int), vs = [.int a, .int b, .int n] ∧ 0 < a ∧ 0 < b ∧ Bt 398 a ∧ Bt 398 b ∧ Bt 398 n ∧ ∀ H', Same H H' → Q (.int (Tri a b n)) H'
theorem ok_points_up_to (T : Txt K mg A) : FnOk P w K mg base CX0 2 A.f_points_up_to A.d_points_up_to ["a", "b", "limit"] sp_points_up_to := by
  refine T.F_points_up_to.ok sc_points_up_to (fun vs H Q E h => ?_) (fun cdv Ar outer s H vs Q E hr h => ?_)
  · obtain ⟨_, _, _, rfl, _⟩ := h
    rfl
  · obtain ⟨a, b, n, rfl, a0, b0, ba, bb, bn, k⟩ := h
    have hu := hu_of hr
    refine ⟨_, (pss_cons (ps_if (pt_cmpR op_lt (pv 2) pe_int (nomark _))
        (pss_one (ps_ret pe_int))
        pss_nil)
      (pss_cons (ps_par (i := 3) (j := 4) (by rfl) sc_points_up_to.nd rfl rfl (by decide) rfl rfl (pa_cons (pe_op op_add (pe_op op_fdivW (pv 2) (pv 1)) pe_int) (pa_cons (pe_op op_mod (pv 2) (pv 1)) pa_nil)) (by rfl))
      (pss_one (ps_ret (pe_op op_add (pv 3) (pe_call (ok_floor_total T) (hr.mono (by decide)) rfl T.m_floor_total T.F_floor_total.kp T.b_floor_total .nil pass0 (pa_cons (pv 3) (pa_cons (pv 1) (pa_cons (pv 4) (pa_cons (pv 0) pa_nil)))))))))), ?_⟩
    have ba4 := ba.mono (show 398 ≤ 400 by decide)
    have bb4 := bb.mono (show 398 ≤ 400 by decide)
    have m0 := Int.emod_nonneg n (show b ≠ 0 by omega)
    have bm : Bt 400 (n % b) := (bt_mod b0 bb).mono (by decide)
    have br : Bt 400 (n / b + 1) := Bt.mono (bt_addm (bt_div bn) (bt_lit (n := 399) (by decide +kernel))) (by decide)
    by_cases h : n < 0
    · rw [PT_neg h] at k
      walk_at "go"
      exact k _ (by walk_at "f")
    · have q0 : 0 ≤ n / b := Int.ediv_nonneg (by omega) (by omega)
      have r0 : 0 ≤ n / b + 1 := by omega
      unfold Tri at k
      rw [if_neg h] at k
      walk_at "go"
      exact k _ (by walk_at "f")
def sp__checked_triangle (A : Ad) : Sp := fun vs H Q _ => ∃ (u v x : V) (a b n : Int), vs = [u, v, x] ∧ Num A H u a ∧ Num A H v b ∧ Num A H x n ∧ 1 ≤ a ∧ 1 ≤ b ∧ ∀ p H', Same H H' → H' p = some (.tup [.int a, .int b, .int n]) → Q (.ref p) H'
theorem ok__checked_triangle (T : Txt K mg A) : FnOk P w K mg base CX0 6 A.f__checked_triangle A.d__checked_triangle ["a", "b", "limit"] (sp__checked_triangle A) := by
  refine T.F__checked_triangle.ok sc__checked_triangle (fun vs H Q E h => ?_) (fun cdv Ar outer s H vs Q E hr h => ?_)
  · obtain ⟨_, _, _, _, _, _, rfl, _⟩ := h
    rfl
  · obtain ⟨_, _, _, a, b, n, rfl, h1, h2, h3, h4, h5, k⟩ := h
    have hu := hu_of hr
    refine ⟨_, (pss_one (ps_ret (pe_tup (pa_cons (pe_call (ok_checked_from T) (hr.mono (by decide)) rfl T.m_checked_from T.F_checked_from.kp T.b_checked_from .nil pass0 (pa_cons pe_int (pa_cons (pv 0) pa_nil))) (pa_cons (pe_call (ok_checked_from T) (hr.mono (by decide)) rfl T.m_checked_from T.F_checked_from.kp T.b_checked_from .nil pass0 (pa_cons pe_int (pa_cons (pv 1) pa_nil))) (pa_cons (pe_call (ok_checked_integer T) (hr.mono (by decide)) rfl T.m_checked_integer T.F_checked_integer.kp T.b_checked_integer .nil pass0 (pa_cons (pv 2) pa_nil)) pa_nil)))))), ?_⟩
    walk_at "go"
    exact k _ _ (by walk_at "f") (by walk_at "f")
def sp_triangle_points (A : Ad) : Sp := fun vs H Q _ => ∃ (u v x : V) (a b n : Int), vs = [u, v, x] ∧ Num A H u a ∧ Num A H v b ∧ Num A H x n ∧ 1 ≤ a ∧ 1 ≤ b ∧ Bt 398 a ∧ Bt 398 b ∧ Bt 398 n ∧ ∀ H', Same H H' → Q (.int (Tri a b n)) H'
theorem ok_triangle_points (T : Txt K mg A) : FnOk P w K mg base CX0 7 A.f_triangle_points A.d_triangle_points ["a", "b", "limit"] (sp_triangle_points A) := by
  refine T.F_triangle_points.ok sc_triangle_points (fun vs H Q E h => ?_) (fun cdv Ar outer s H vs Q E hr h => ?_)
  · obtain ⟨_, _, _, _, _, _, rfl, _⟩ := h
    rfl
  · obtain ⟨_, _, _, a, b, n, rfl, h1, h2, h3, h4, h5, b1, b2, b3, k⟩ := h
    have hu := hu_of hr
    refine ⟨_, (pss_cons (ps_asg (pe_call (ok__checked_triangle T) (hr.mono (by decide)) rfl T.m__checked_triangle T.F__checked_triangle.kp T.b__checked_triangle .nil pass0 (pa_cons (pv 0) (pa_cons (pv 1) (pa_cons (pv 2) pa_nil)))) (pg_tup rfl (pgs_cons (pg_name (i := 3) sc_triangle_points.nd rfl (Or.inl rfl)) (pgs_cons (pg_name (i := 4) sc_triangle_points.nd rfl (Or.inl rfl)) (pgs_cons (pg_name (i := 5) sc_triangle_points.nd rfl (Or.inl rfl)) pgs_nil)))))
      (pss_one (ps_ret (pe_call (ok_points_up_to T) (hr.mono (by decide)) rfl T.m_points_up_to T.F_points_up_to.kp T.b_points_up_to .nil pass0 (pa_cons (pv 3) (pa_cons (pv 4) (pa_cons (pv 5) pa_nil))))))), ?_⟩
    have a0 : 0 < a := by omega
    have b0 : 0 < b := by omega
    walk_at "go"
    exact k _ (by walk_at "f")
def sp_triangle_inner (A : Ad) : Sp := fun vs H Q _ => ∃ (u v x : V) (a b n : Int), vs = [u, v, x] ∧ Num A H u a ∧ Num A H v b ∧ Num A H x n ∧ 1 ≤ a ∧ 1 ≤ b ∧ Bt 395 a ∧ Bt 395 b ∧ Bt 395 n ∧ ∀ H', Same H H' → Q (.int (Tri a b (n - a - b - 1))) H'
theorem ok_triangle_inner (T : Txt K mg A) : FnOk P w K mg base CX0 7 A.f_triangle_inner A.d_triangle_inner ["a", "b", "limit"] (sp_triangle_inner A) := by
  refine T.F_triangle_inner.ok sc_triangle_inner (fun vs H Q E h => ?_) (fun cdv Ar outer s H vs Q E hr h => ?_)
  · obtain ⟨_, _, _, _, _, _, rfl, _⟩ := h
    rfl
  · obtain ⟨_, _, _, a, b, n, rfl, h1, h2, h3, h4, h5, b1, b2, b3, k⟩ := h
    have hu := hu_of hr
    refine ⟨_, (pss_cons (ps_asg (pe_call (ok__checked_triangle T) (hr.mono (by decide)) rfl T.m__checked_triangle T.F__checked_triangle.kp T.b__checked_triangle .nil pass0 (pa_cons (pv 0) (pa_cons (pv 1) (pa_cons (pv 2) pa_nil)))) (pg_tup rfl (pgs_cons (pg_name (i := 3) sc_triangle_inner.nd rfl (Or.inl rfl)) (pgs_cons (pg_name (i := 4) sc_triangle_inner.nd rfl (Or.inl rfl)) (pgs_cons (pg_name (i := 5) sc_triangle_inner.nd rfl (Or.inl rfl)) pgs_nil)))))
      (pss_one (ps_ret (pe_call (ok_points_up_to T) (hr.mono (by decide)) rfl T.m_points_up_to T.F_points_up_to.kp T.b_points_up_to .nil pass0 (pa_cons (pv 3) (pa_cons (pv 4) (pa_cons (pe_op op_sub (pe_op op_sub (pe_op op_sub (pv 5) (pv 3)) (pv 4)) pe_int) pa_nil))))))), ?_⟩
    have a0 : 0 < a := by omega
    have b0 : 0 < b := by omega
    have b1' := b1.mono (show 395 ≤ 398 by decide)
    have b2' := b2.mono (show 395 ≤ 398 by decide)
    have b4 : Bt 398 (n - a - b - 1) := bt_subm (n := 397) (bt_subm (n := 396) (bt_subm b3 b1) (b2.mono (by decide))) (bt_lit (by decide +kernel))
    walk_at "go"
    exact k _ (by walk_at "f")
end
end Tk

set_option maxHeartbeats 2000000
namespace Tk
open PySem PySem.Spec PyProof.Rows L2 Tc
section
variable {P : Program} {w : World} {K : PySem.W.Frag} {mg : Str → Option Value} {base : Heap} {A : Ad}
open Tm
local macro_rules | `(tactic| walk_at "arr") => `(tactic| first
  | with_reducible assumption
  | ((with_reducible apply same_new); with_reducible assumption))
local macro_rules | `(tactic| walk_at "f") => `(tactic| first
  | with_reducible assumption
  | with_reducible exact upd_same
  | with_reducible exact Same.refl _
  | with_reducible exact Frm.refl
  | ((with_reducible apply sqL_K); (focus with_reducible assumption); rfl)
  | ((with_reducible apply sqT_K); (focus with_reducible assumption); rfl)
  | ((with_reducible apply SqT.of); walk_at "f")
  | ((with_reducible apply SqL.of); walk_at "f")
  | ((with_reducible apply back_raw); (focus walk_at "arr"); walk_at "f")
  | ((with_reducible apply frm_tup); (focus with_reducible assumption); (focus walk_at "f"); (focus walk_at "f"); (focus (intro _ z; cases z; done)))
  | ((with_reducible apply frm_raw); (focus with_reducible assumption); (focus walk_at "f"); walk_at "f")
  | ((with_reducible apply bowl_back); (focus walk_at "arr"); walk_at "f")
  | ((with_reducible apply bowl_ne); (focus with_reducible assumption); walk_at "f")
  | ((with_reducible apply Num.int); with_reducible assumption)
  | ((with_reducible apply same_snoc); (focus walk_at "arr"); walk_at "f")
  | ((with_reducible apply frm_back); (focus walk_at "arr"); walk_at "f")
  | ((with_reducible apply frm_backF); (focus with_reducible assumption); walk_at "f")
  | ((with_reducible apply back_sqT); (focus walk_at "arr"); walk_at "f")
  | ((with_reducible apply same_sqL); (focus walk_at "arr"); walk_at "f")
  | ((with_reducible apply free_same); (focus with_reducible assumption); walk_at "f")
  | ((with_reducible apply free_frm); (focus with_reducible assumption); (focus with_reducible assumption); walk_at "f")
  | ((with_reducible apply frm_sqL); (focus with_reducible assumption); (focus walk_at "f"); walk_at "f"))
local macro_rules | `(tactic| walk_at "bt") => `(tactic| first
  | with_reducible assumption
  | ((with_reducible apply bt_mul); (focus walk_at "bt"); walk_at "bt")
  | ((with_reducible apply bt_add); (focus walk_at "bt"); walk_at "bt")
  | ((with_reducible apply bt_sub); (focus walk_at "bt"); walk_at "bt")
  | ((with_reducible apply bt_neg); walk_at "bt")
  | ((with_reducible apply bt_div); walk_at "bt")
  | ((with_reducible apply bt_mod); (focus (first | assumption | omega)); walk_at "bt")
  | exact bt_lit (n := 64) (by decide)
  | exact bt_lit (n := 200) (by decide +kernel))
local macro_rules | `(tactic| walk_at "lin") => `(tactic| first
  | exact (by decide : 1 ≤ sizeLine) | exact (by decide : 2 ≤ sizeLine) | exact (by decide : 3 ≤ sizeLine) | exact (by decide : 4 ≤ sizeLine) | exact (by decide : 0 ≤ sizeLine) | exact (by decide : 5 ≤ sizeLine) | exact (by decide : 6 ≤ sizeLine))
local macro_rules | `(tactic| walk_at "dp") => `(tactic| first
  | exact Dp.int _
  | exact DpAll.nil
  | ((with_reducible apply Dp.lst); (focus walk_at "f"); walk_at "dp")
  | ((with_reducible apply Dp.tup); (focus walk_at "f"); walk_at "dp")
  | ((with_reducible apply DpAll.cons); (focus walk_at "dp"); walk_at "dp"))
local macro_rules | `(tactic| walk_at "sv") => `(tactic| first
  | with_reducible rfl
  | walk_at "f"
  | exact rfl
  | walk_at "dp"
  | exact shp_lst [_] | exact shp_lst [_, _] | exact shp_lst [_, _, _] | exact shp_lst [_, _, _, _] | exact shp_tup [_, _] | exact shp_tup [_, _, _]
  | ((apply tyV_lst); walk_at "f")
  | ((with_reducible apply bt_mulW); (focus walk_at "bt"); (focus walk_at "bt"); (focus (first | decide | omega)))
  | ((with_reducible apply bt_divW); (focus (first | decide | assumption | omega)); (focus walk_at "bt"); (focus (first | decide | omega)))
  | ((with_reducible apply bt_divP); (focus (first | decide | assumption | omega)); (focus walk_at "bt"); (focus (first | decide | omega)))
  | exact ⟨by decide, by decide +kernel⟩
  | exact Or.inl (by decide)
  | exact Or.inr (by decide)
  | exact Or.inl ⟨by omega, by omega⟩
  | exact Or.inr ⟨by omega, by omega⟩
  | ((with_reducible apply Or.inl); walk_at "sv")
  | ((with_reducible apply Or.inr); walk_at "sv")
  | ((with_reducible apply Exists.intro); walk_at "sv")
  | ((with_reducible apply And.intro); (focus walk_at "sv"); walk_at "sv")
  | walk_at "lin"
  | decide
  | omega
  | (simp only [List.length_cons, List.length_nil, List.length_map]; first | done | omega))
local macro_rules | `(tactic| walk_at "one") => `(tactic| first
  | ((fail_if_success refine' @Exists.intro (Nat → L2.St → Hp → Prop) _ ?_ ?_); (fail_if_success refine' @Exists.intro (Nat → Nat → L2.St → Hp → Prop) _ ?_ ?_); (fail_if_success refine' @Exists.intro (L2.St → Hp → Prop) _ ?_ ?_); (fail_if_success refine' @Exists.intro (Nat → Nat → Hp → Prop) _ ?_ ?_); (fail_if_success refine' @Exists.intro (Hp → Prop) _ ?_ ?_); apply Exists.intro)
  | (apply And.intro; (focus walk_at "sv"))
  | intro _
  | (apply ifT; (focus rfl))
  | (apply ifF; (focus rfl))
  | ((apply Or.inl); (apply Exists.intro); (apply And.intro); (focus exact rfl))
  | ((apply Or.inl); (apply And.intro); (focus walk_at "f"))
  | ((apply Or.inr); (apply Exists.intro); (apply And.intro); (focus exact rfl))
  | (apply ifTd; (focus (first | assumption | omega)))
  | (apply ifFd; (focus (first | assumption | omega))))
local macro_rules | `(tactic| walk_at "go") => `(tactic| repeat walk_at "one")
local macro_rules | `(tactic| walk_at "nm") => `(tactic| try simp only [List.set_cons_zero, List.set_cons_succ])
local macro_rules | `(tactic| walk_at "gon") => `(tactic| repeat (walk_at "one"; walk_at "nm"))
theorem pow61_10 : (0 : Int) < ((10 : Int) ^ (61 : Int).toNat) ^ (10 : Int).toNat := by decide +kernel
def sp__law_purse_of (K : PySem.W.Frag) : Sp := fun vs H Q _ => ∃ (sc : Addr) (i : Nat) (ns : List Int), vs = [.ref sc, .int (i : Int)] ∧ SqL K H sc (ns.map V.int) ∧ ∀ p H', H p = none → Same H H' → Bowl H' p → Q (.ref p) H'
theorem ok__law_purse_of (T : Txt K mg A) : FnOk P w K mg base CX0 1 A.f__law_purse_of A.d__law_purse_of ["_law_script", "_law_at"] (sp__law_purse_of K) := by
  refine T.F__law_purse_of.ok sc__law_purse_of (fun vs H Q E h => ?_) (fun cdv Ar outer s H vs Q E hr h => ?_)
  · obtain ⟨sc, i, ns, rfl, _⟩ := h
    rfl
  · obtain ⟨sc, i, ns, rfl, hS, k⟩ := h
    have hu := hu_of hr
    refine ⟨_, (pss_cons (ps_set (i := 2) sc__law_purse_of.nd rfl (Or.inl rfl) (pe_ifExp (pt_cmpR op_lt (pv 1) (pe_callB call_len_seq (by rfl) T.b_len (by decide +kernel) (pa_cons (pv 0) pa_nil)) (nomark _)) (pe_ix ix_list (pv 0) (pv 1) (fun _ _ => rfl)) (pe_op op_add (pe_op op_mul pe_int (pv 1)) pe_int)))
      (pss_cons (ps_set (i := 3) sc__law_purse_of.nd rfl (Or.inl rfl) (pe_op op_mod (pe_callTy call_int1 (by rfl) T.b_int (by decide +kernel) (pa_cons (pe_callB call_abs (by rfl) T.b_abs (by decide +kernel) (pa_cons (pv 2) pa_nil)) pa_nil)) (pe_op op_powX (pe_op op_powX pe_int pe_int) pe_int)))
      (pss_one (ps_ret (pe_lst (pa_cons (pe_callB (call_max2 rfl) (by rfl) T.b_max (by decide +kernel) (pa_cons pe_int (pa_cons (pe_op op_sub (pv 3) (pe_op op_powX pe_int pe_int)) pa_nil))) (pa_cons (pe_op op_add (pe_op op_add (pe_op op_mul (pe_callTy call_int1 (by rfl) T.b_int (by decide +kernel) (pa_cons (pe_op op_add (pe_op op_mul (pv 3) pe_int) (pe_callTy call_int1 (by rfl) T.b_int (by decide +kernel) (pa_cons (pe_cmpR op_lt (pv 2) pe_int (nomark _)) pa_nil))) pa_nil)) pe_int) (pe_op op_mul pe_int (pv 1))) pe_int) (pa_cons pe_int pa_nil)))))))), ?_⟩
    refine ⟨_, rfl, _, rfl, sc, _, rfl, .inl hS, _, _, rfl, rfl, _, rfl, ?_⟩
    refine ite2 (fun h => ?ca) (fun h => ?cb)
    case' ca =>
      have hi : i < ns.length := by
        have := of_decide_eq_true h
        rw [List.length_map] at this
        omega
      refine ⟨_, rfl, _, rfl, sc, _, _, .int ns[i], rfl, rfl, hS, atI_nat (by rw [List.getElem?_map, List.getElem?_eq_getElem hi]; rfl), ?_⟩
      generalize ns[i] = z
    case' cb =>
      refine ⟨_, rfl, _, _, rfl, rfl, .inl (by decide), _, _, rfl, rfl, ?_⟩
      generalize (97 * (i : Int) + 31) = z
    all_goals
      refine ⟨_, rfl, _, rfl, .inl ⟨_, rfl, ?_⟩⟩
      refine ⟨_, _, rfl, rfl, ⟨by decide, by decide +kernel⟩, _, _, rfl, rfl, ⟨by decide, by decide +kernel⟩, _, _, rfl, rfl, pow61_10, ?_⟩
      generalize ((if z < 0 then -z else z) % ((10 : Int) ^ (61 : Int).toNat) ^ (10 : Int).toNat) = g
      walk_at "go"
      exact k _ _ (by walk_at "f") (by walk_at "f") ⟨_, _, _, upd_same⟩
def sp__law_coin : Sp := fun vs H Q _ => ∃ (a : Addr) (m : Int), vs = [.ref a, .int m] ∧ 0 < m ∧ m.natAbs < 2 ^ 4000 ∧ Bowl H a ∧ ∀ (r : Int) H', 0 ≤ r → r < m → Frm a H H' → Bowl H' a → Q (.int r) H'
theorem mod64 {x m : Int} (h0 : 0 < m) (h : m < 2 ^ 62) : Bt 62 (x % m) := by
  have h1 := Int.emod_lt_of_pos x h0
  have h2 := Int.emod_nonneg x (show m ≠ 0 by omega)
  have e : (((2 : Nat) ^ 62 : Nat) : Int) = 2 ^ 62 := by norm_cast
  show (x % m).natAbs < 2 ^ 62
  omega
theorem ok__law_coin (T : Txt K mg A) : FnOk P w K mg base CX0 1 A.f__law_coin A.d__law_coin ["_law_purse", "_law_total"] sp__law_coin := by
  refine T.F__law_coin.ok sc__law_coin (fun vs H Q E h => ?_) (fun cdv Ar outer s H vs Q E hr h => ?_)
  · obtain ⟨a, m, rfl, _⟩ := h
    rfl
  · obtain ⟨a, m, rfl, h0, hm, ⟨g, s', n, hB⟩, k⟩ := h
    have hu := hu_of hr
    refine ⟨_, (pss_cons (ps_if (pt_cmpR op_gt (pe_ix ix_list (pv 0) pe_int (fun _ _ => rfl)) pe_int (nomark _))
        (pss_cons (ps_set (i := 2) sc__law_coin.nd rfl (Or.inl rfl) (pe_op op_mod (pe_callTy call_int1 (by rfl) T.b_int (by decide +kernel) (pa_cons (pe_ix ix_list (pv 0) pe_int (fun _ _ => rfl)) pa_nil)) (pv 1)))
          (pss_cons (ps_asg (pe_op op_fdivW (pe_ix ix_list (pv 0) pe_int (fun _ _ => rfl)) (pv 1)) (pg_sub (pv 0) pe_int set_list))
          (pss_one (ps_ret (pv 2)))))
        pss_nil)
      (pss_cons (ps_asg (pe_op op_add (pe_ix ix_list (pv 0) pe_int (fun _ _ => rfl)) pe_int) (pg_sub (pv 0) pe_int set_list))
      (pss_cons (ps_set (i := 3) sc__law_coin.nd rfl (Or.inl rfl) (pe_op op_mod (pe_callTy call_int1 (by rfl) T.b_int (by decide +kernel) (pa_cons (pe_op op_add (pe_ix ix_list (pv 0) pe_int (fun _ _ => rfl)) (pe_op op_mul (pe_ix ix_list (pv 0) pe_int (fun _ _ => rfl)) pe_int)) pa_nil)) pe_int))
      (pss_cons (ps_set (i := 4) sc__law_coin.nd rfl (Or.inl rfl) (pe_op op_mod (pe_callTy call_int1 (by rfl) T.b_int (by decide +kernel) (pa_cons (pe_op op_add (pe_op op_mulW (pv 3) (pv 3)) (pe_op op_mul (pe_ix ix_list (pv 0) pe_int (fun _ _ => rfl)) pe_int)) pa_nil)) pe_int))
      (pss_cons (ps_set (i := 5) sc__law_coin.nd rfl (Or.inl rfl) (pe_op op_mod (pe_callTy call_int1 (by rfl) T.b_int (by decide +kernel) (pa_cons (pe_op op_add (pe_op op_mulW (pv 4) (pv 4)) (pv 3)) pa_nil)) pe_int))
      (pss_one (ps_ret (pe_op op_mod (pe_callTy call_int1 (by rfl) T.b_int (by decide +kernel) (pa_cons (pe_op op_fdivW (pv 5) pe_int) pa_nil)) (pv 1))))))))), ?_⟩
    refine ⟨_, rfl, a, _, _, _, rfl, rfl, SqL.of hB, rfl, _, _, rfl, rfl, _, rfl, ?_⟩
    refine ite2 (fun h => ?_) (fun h => ?_)
    · refine ⟨_, rfl, a, _, _, _, rfl, rfl, SqL.of hB, rfl, .inl ⟨_, rfl, _, rfl, _, _, rfl, rfl, h0, ?_⟩⟩
      refine ⟨_, rfl, a, _, _, _, rfl, rfl, SqL.of hB, rfl, _, rfl, _, _, rfl, rfl, wide_div h0 hm (by decide) (by decide), ?_⟩
      refine ⟨_, rfl, a, _, _, 0, rfl, rfl, hB, rfl, ?_⟩
      exact ⟨_, rfl, k _ _ (Int.emod_nonneg _ (by omega)) (Int.emod_lt_of_pos _ h0) Frm.write ⟨_, _, _, upd_same⟩⟩
    · refine ⟨_, rfl, a, _, _, _, rfl, rfl, SqL.of hB, rfl, _, _, rfl, rfl, ?_⟩
      refine ⟨_, rfl, a, _, _, 2, rfl, rfl, hB, rfl, ?_⟩
      have hB2 : (upd H a (.lst ([V.int g, V.int s', V.int n].set 2 (V.int (n + 1))))) a = some (.lst [.int g, .int s', .int (n + 1)]) := upd_same
      refine ⟨_, rfl, a, _, _, _, rfl, rfl, SqL.of hB2, rfl, _, rfl, a, _, _, _, rfl, rfl, SqL.of hB2, rfl, ?_⟩
      have b1 := mod64 (x := s' + (n + 1) * 6364136223846793005) (m := 2305843009213693951) (by decide) (by decide)
      have b2 := mod64 (x := (s' + (n + 1) * 6364136223846793005) % 2305843009213693951 * ((s' + (n + 1) * 6364136223846793005) % 2305843009213693951) + (n + 1) * 69069) (m := 1152921504606846883) (by decide) (by decide)
      walk_at "go"
      exact k _ _ (Int.emod_nonneg _ (by omega)) (Int.emod_lt_of_pos _ h0) Frm.write ⟨_, _, _, hB2⟩
def sp__law_pick (K : PySem.W.Frag) : Sp := fun vs H Q _ => ∃ (b q : Addr) (xs : List Int), vs = [.ref b, .ref q] ∧ SqL K H q (xs.map V.int) ∧ Bowl H b ∧ q ≠ b ∧ 0 < xs.length ∧ xs.length < 100 ∧
  ∀ x H', x ∈ xs → Frm b H H' → Bowl H' b → Q (.int x) H'
end
end Tk

set_option maxHeartbeats 2000000
namespace Tk
open PySem PySem.Spec PyProof.Rows L2 Tc
section
variable {P : Program} {w : World} {K : PySem.W.Frag} {mg : Str → Option Value} {base : Heap} {A : Ad}
open Tm
local macro_rules | `(tactic| walk_at "arr") => `(tactic| first
  | with_reducible assumption
  | ((with_reducible apply same_new); with_reducible assumption))
local macro_rules | `(tactic| walk_at "f") => `(tactic| first
  | with_reducible assumption
  | with_reducible exact upd_same
  | with_reducible exact Same.refl _
  | with_reducible exact Frm.refl
  | ((with_reducible apply sqL_K); (focus with_reducible assumption); rfl)
  | ((with_reducible apply sqT_K); (focus with_reducible assumption); rfl)
  | ((with_reducible apply SqT.of); walk_at "f")
  | ((with_reducible apply SqL.of); walk_at "f")
  | ((with_reducible apply back_raw); (focus walk_at "arr"); walk_at "f")
  | ((with_reducible apply frm_tup); (focus with_reducible assumption); (focus walk_at "f"); (focus walk_at "f"); (focus (intro _ z; cases z; done)))
  | ((with_reducible apply frm_raw); (focus with_reducible assumption); (focus walk_at "f"); walk_at "f")
  | ((with_reducible apply bowl_back); (focus walk_at "arr"); walk_at "f")
  | ((with_reducible apply bowl_ne); (focus with_reducible assumption); walk_at "f")
  | ((with_reducible apply Num.int); with_reducible assumption)
  | ((with_reducible apply same_snoc); (focus walk_at "arr"); walk_at "f")
  | ((with_reducible apply frm_back); (focus walk_at "arr"); walk_at "f")
  | ((with_reducible apply frm_backF); (focus with_reducible assumption); walk_at "f")
  | ((with_reducible apply back_sqT); (focus walk_at "arr"); walk_at "f")
  | ((with_reducible apply same_sqL); (focus walk_at "arr"); walk_at "f")
  | ((with_reducible apply free_same); (focus with_reducible assumption); walk_at "f")
  | ((with_reducible apply free_frm); (focus with_reducible assumption); (focus with_reducible assumption); walk_at "f")
  | ((with_reducible apply frm_sqL); (focus with_reducible assumption); (focus walk_at "f"); walk_at "f"))
local macro_rules | `(tactic| walk_at "bt") => `(tactic| first
  | with_reducible assumption
  | ((with_reducible apply bt_mul); (focus walk_at "bt"); walk_at "bt")
  | ((with_reducible apply bt_add); (focus walk_at "bt"); walk_at "bt")
  | ((with_reducible apply bt_sub); (focus walk_at "bt"); walk_at "bt")
  | ((with_reducible apply bt_neg); walk_at "bt")
  | ((with_reducible apply bt_div); walk_at "bt")
  | ((with_reducible apply bt_mod); (focus (first | assumption | omega)); walk_at "bt")
  | exact bt_lit (n := 64) (by decide)
  | exact bt_lit (n := 200) (by decide +kernel))
local macro_rules | `(tactic| walk_at "lin") => `(tactic| first
  | exact (by decide : 1 ≤ sizeLine) | exact (by decide : 2 ≤ sizeLine) | exact (by decide : 3 ≤ sizeLine) | exact (by decide : 4 ≤ sizeLine) | exact (by decide : 0 ≤ sizeLine) | exact (by decide : 5 ≤ sizeLine) | exact (by decide : 6 ≤ sizeLine))
local macro_rules | `(tactic| walk_at "dp") => `(tactic| first
  | exact Dp.int _
  | exact DpAll.nil
  | ((with_reducible apply Dp.lst); (focus walk_at "f"); walk_at "dp")
  | ((with_reducible apply Dp.tup); (focus walk_at "f"); walk_at "dp")
  | ((with_reducible apply DpAll.cons); (focus walk_at "dp"); walk_at "dp"))
local macro_rules | `(tactic| walk_at "sv") => `(tactic| first
  | with_reducible rfl
  | walk_at "f"
  | exact rfl
  | walk_at "dp"
  | exact shp_lst [_] | exact shp_lst [_, _] | exact shp_lst [_, _, _] | exact shp_lst [_, _, _, _] | exact shp_tup [_, _] | exact shp_tup [_, _, _]
  | ((apply tyV_lst); walk_at "f")
  | ((with_reducible apply bt_mulW); (focus walk_at "bt"); (focus walk_at "bt"); (focus (first | decide | omega)))
  | ((with_reducible apply bt_divW); (focus (first | decide | assumption | omega)); (focus walk_at "bt"); (focus (first | decide | omega)))
  | ((with_reducible apply bt_divP); (focus (first | decide | assumption | omega)); (focus walk_at "bt"); (focus (first | decide | omega)))
  | exact ⟨by decide, by decide +kernel⟩
  | exact Or.inl (by decide)
  | exact Or.inr (by decide)
  | exact Or.inl ⟨by omega, by omega⟩
  | exact Or.inr ⟨by omega, by omega⟩
  | ((with_reducible apply Or.inl); walk_at "sv")
  | ((with_reducible apply Or.inr); walk_at "sv")
  | ((with_reducible apply Exists.intro); walk_at "sv")
  | ((with_reducible apply And.intro); (focus walk_at "sv"); walk_at "sv")
  | walk_at "lin"
  | decide
  | omega
  | (simp only [List.length_cons, List.length_nil, List.length_map]; first | done | omega))
local macro_rules | `(tactic| walk_at "one") => `(tactic| first
  | ((fail_if_success refine' @Exists.intro (Nat → L2.St → Hp → Prop) _ ?_ ?_); (fail_if_success refine' @Exists.intro (Nat → Nat → L2.St → Hp → Prop) _ ?_ ?_); (fail_if_success refine' @Exists.intro (L2.St → Hp → Prop) _ ?_ ?_); (fail_if_success refine' @Exists.intro (Nat → Nat → Hp → Prop) _ ?_ ?_); (fail_if_success refine' @Exists.intro (Hp → Prop) _ ?_ ?_); apply Exists.intro)
  | (apply And.intro; (focus walk_at "sv"))
  | intro _
  | (apply ifT; (focus rfl))
  | (apply ifF; (focus rfl))
  | ((apply Or.inl); (apply Exists.intro); (apply And.intro); (focus exact rfl))
  | ((apply Or.inl); (apply And.intro); (focus walk_at "f"))
  | ((apply Or.inr); (apply Exists.intro); (apply And.intro); (focus exact rfl))
  | (apply ifTd; (focus (first | assumption | omega)))
  | (apply ifFd; (focus (first | assumption | omega))))
local macro_rules | `(tactic| walk_at "go") => `(tactic| repeat walk_at "one")
local macro_rules | `(tactic| walk_at "nm") => `(tactic| try simp only [List.set_cons_zero, List.set_cons_succ])
local macro_rules | `(tactic| walk_at "gon") => `(tactic| repeat (walk_at "one"; walk_at "nm"))
theorem turn_no {i : Nat} {a m : Int} (hi : 400 ≤ i) (hm : 0 < m) (t : Turn i a m) : False := by
  have big : ∀ k : Nat, 200 ≤ k → (2 : Int) ^ 180 ≤ 2 ^ k := fun k h => Int.le_of_lt (Int.pow_lt_pow_of_lt (by decide) (by omega))
  rcases Nat.mod_two_eq_zero_or_one i with e | e
  · have h := (t (i / 2)).1 (by omega)
    have h2 := big (i / 2) (by omega)
    have h3 := mul_ge (x := m) (y := 2 ^ (i / 2)) (by omega) (Int.le_of_lt (Int.pow_pos (by decide)))
    omega
  · have h := (t (i / 2)).2 (by omega)
    have h2 := big (i / 2) (by omega)
    have h3 := mul_ge (x := a) (y := 2 ^ (i / 2)) (by omega) (Int.le_of_lt (Int.pow_pos (by decide)))
    omega
def sp__law_great : Sp := fun vs H Q _ => ∃ (a : Addr) (d : Int), vs = [.ref a, .int d] ∧ 0 ≤ d ∧ d ≤ 60 ∧ Bowl H a ∧ ∀ (r : Int) H', 0 ≤ r → r < 10 ^ d.toNat → Frm a H H' → Bowl H' a → Q (.int r) H'
theorem ok__law_great (T : Txt K mg A) : FnOk P w K mg base CX0 2 A.f__law_great A.d__law_great ["_law_purse", "_law_digits"] sp__law_great := by
  refine T.F__law_great.ok sc__law_great (fun vs H Q E h => ?_) (fun cdv Ar outer s H vs Q E hr h => ?_)
  · obtain ⟨a, d, rfl, _⟩ := h
    rfl
  · obtain ⟨a, d, rfl, d0, d1, hB, k⟩ := h
    have hu := hu_of hr
    refine ⟨_, (pss_cons (ps_set (i := 2) sc__law_great.nd rfl (Or.inl rfl) pe_int)
      (pss_cons (ps_for PassesOwn.never rfl (pi_range1 rfl T.b_range (pa_cons (pe_op op_fdivW (pv 1) pe_int) pa_nil)) (pg_name (i := 3) sc__law_great.nd rfl (Or.inl rfl))
        (pss_one (ps_set (i := 2) sc__law_great.nd rfl (Or.inl rfl) (pe_op op_add (pe_op op_mulW (pv 2) (pe_op op_powX pe_int pe_int)) (pe_call (ok__law_coin T) (hr.mono (by decide)) rfl T.m__law_coin T.F__law_coin.kp T.b__law_coin .nil pass0 (pa_cons (pv 0) (pa_cons (pe_op op_powX pe_int pe_int) pa_nil)))))))
      (pss_one (ps_ret (pv 2))))), ?_⟩
    have q0 : 0 ≤ d / 6 := Int.ediv_nonneg d0 (by decide)
    walk_at "go"
    refine for_range (fun i σ H' => Stop (∃ (f : Int) (v : Option V), σ = [some (.ref a), some (.int d), some (.int f), v] ∧ Frm a H H' ∧ Bowl H' a ∧ 0 ≤ f ∧ f < 10 ^ (6 * i))) ⟨0, none, rfl, Frm.refl, hB, by decide, by decide⟩ ?_ ?_
    · rintro i σ H1 hi ⟨⟨f, v, rfl, f2, B2, f0, f3⟩⟩
      have f4 : f < 10 ^ 60 := by
        rcases Nat.lt_or_ge (6 * i) 60 with h | h
        · exact Int.lt_trans f3 (Int.pow_lt_pow_of_lt (by decide) h)
        · omega
      have bf : Bt 200 f := bt10 (by omega) f4 (by decide)
      have bp : Bt 64 ((10 : Int) ^ (6 : Int).toNat) := bt_lit (by decide +kernel)
      have c0 : (0 : Int) < (10 : Int) ^ (6 : Int).toNat := by decide +kernel
      have c1 : ((10 : Int) ^ (6 : Int).toNat).natAbs < 2 ^ 4000 := bp.mono (by decide)
      walk_at "go"
      rename_i r H2 r0 r1 f5 B5
      have r1 : r < 1000000 := r1
      refine ⟨⟨_, _, rfl, f2.trans f5, B5, ?_, ?_⟩⟩
      · show 0 ≤ f * 1000000 + r
        omega
      · show f * 1000000 + r < _
        have e : (10 : Int) ^ (6 * (i + 1)) = 10 ^ (6 * i) * 1000000 := by
          rw [show 6 * (i + 1) = 6 * i + 6 by omega, Int.pow_add]
          rfl
        rw [e]
        omega
    · rintro σ H1 ⟨⟨f, v, rfl, f2, B2, f0, f3⟩⟩
      walk_at "go"
      refine k f _ f0 (Int.lt_of_lt_of_le f3 ?_) f2 B2
      rcases Nat.lt_or_ge (6 * (d / 6).toNat) d.toNat with h | h
      · exact Int.le_of_lt (Int.pow_lt_pow_of_lt (by decide) h)
      · rw [show 6 * (d / 6).toNat = d.toNat by omega]
        exact Int.le_refl _
def sp__law_common : Sp := fun vs H Q _ => ∃ (x y : Int), vs = [.int x, .int y] ∧ y.natAbs < 2 ^ 180 ∧ Q (.int (gc x y)) H
theorem ok__law_common (T : Txt K mg A) : FnOk P w K mg base CX0 1 A.f__law_common A.d__law_common ["_law_one", "_law_other"] sp__law_common := by
  refine T.F__law_common.ok sc__law_common (fun vs H Q E h => ?_) (fun cdv Ar outer s H vs Q E hr h => ?_)
  · obtain ⟨_, _, rfl, _⟩ := h
    rfl
  · obtain ⟨x, y, rfl, hy, k⟩ := h
    have hu := hu_of hr
    refine ⟨_, (pss_cons (ps_par (i := 0) (j := 1) (by rfl) sc__law_common.nd rfl rfl (by decide) rfl rfl (pa_cons (pe_callB call_abs (by rfl) T.b_abs (by decide +kernel) (pa_cons (pv 0) pa_nil)) (pa_cons (pe_callB call_abs (by rfl) T.b_abs (by decide +kernel) (pa_cons (pv 1) pa_nil)) pa_nil)) (by rfl))
      (pss_cons (ps_for PassesOwn.never rfl (pi_range1 rfl T.b_range (pa_cons pe_int pa_nil)) (pg_name (i := 2) sc__law_common.nd rfl (Or.inl rfl))
        (pss_cons (ps_if (pt_cmpR op_eq (pv 1) pe_int (nomark _))
            (pss_one ps_break)
            pss_nil)
          (pss_one (ps_par (i := 0) (j := 1) (by rfl) sc__law_common.nd rfl rfl (by decide) rfl rfl (pa_cons (pv 1) (pa_cons (pe_op op_mod (pe_callTy call_int1 (by rfl) T.b_int (by decide +kernel) (pa_cons (pv 0) pa_nil)) (pv 1)) pa_nil)) (by rfl)))))
      (pss_one (ps_ret (pv 0))))), ?_⟩
    have e := gc_abs (x := x) (y := y)
    have p1 : 0 ≤ (if x < 0 then -x else x) := by split <;> omega
    have p2 : 0 ≤ (if y < 0 then -y else y) := by split <;> omega
    have p3 : (if y < 0 then -y else y) < 2 ^ 180 := by split <;> omega
    walk_at "go"
    generalize (if x < 0 then -x else x) = u0 at *
    generalize (if y < 0 then -y else y) = v0 at *
    refine for_range (fun i σ H' => Stop (∃ (u v : Int) (w : Option V), σ = [some (.int u), some (.int v), w] ∧ H' = H ∧ 0 ≤ u ∧ 0 ≤ v ∧ gc u v = gc x y ∧ (0 < v → Turn i u v))) ⟨u0, v0, none, rfl, rfl, p1, p2, e, fun _ => turn_zero p3⟩ ?_ ?_
    · rintro i σ H1 hi ⟨⟨u, v, w, rfl, rfl, h1, h2, h3, t⟩⟩
      by_cases h : v = 0
      · subst h
        rw [gc_zero h1] at h3
        subst h3
        walk_at "go"
        exact k
      · have hv : 0 < v := by omega
        have q0 := Int.emod_nonneg u (show v ≠ 0 by omega)
        have dz : decide (V.int v = V.int 0) = false := (dec_int' v 0).trans (decide_eq_false h)
        walk_at "go"
        refine ifF dz ?_
        walk_at "go"
        exact ⟨⟨_, _, _, rfl, rfl, h2, q0, by rw [gc_turn]; exact h3, fun z => turn_succ hv z (t hv)⟩⟩
    · rintro σ H1 ⟨⟨u, v, w, rfl, rfl, h1, h2, h3, t⟩⟩
      rcases Int.lt_or_eq_of_le h2 with z | z
      · exact absurd (t z) (fun t => turn_no (by decide) z t)
      · subst z
        rw [gc_zero h1] at h3
        subst h3
        walk_at "go"
        exact k
def sp__law_floors : Sp := fun vs H Q _ => ∃ (n a c m : Int), vs = [.int n, .int a, .int c, .int m] ∧ 0 ≤ n ∧ 1 ≤ m ∧ m < 2 ^ 180 ∧ Bt 400 n ∧ Bt 400 a ∧ Bt 400 c ∧
  ∀ H', Same H H' → Q (.int (S0 n.toNat a c m)) H'
def sp__law_triangle : Sp := fun vs H Q _ => ∃ (a b n : Int), vs = [.int a, .int b, .int n] ∧ 0 < a ∧ 0 < b ∧ a < 2 ^ 180 ∧ Bt 398 b ∧ Bt 398 n ∧ ∀ H', Same H H' → Q (.int (Tri a b n)) H'
end
end Tk


set_option maxHeartbeats 2000000
namespace Tk
open PySem PySem.Spec PyProof.Rows L2 Tc
section
variable {P : Program} {w : World} {K : PySem.W.Frag} {mg : Str → Option Value} {base : Heap} {A : Ad}
open Tm
local macro_rules | `(tactic| walk_at "arr") => `(tactic| first
  | with_reducible assumption
  | ((with_reducible apply same_new); with_reducible assumption))
local macro_rules | `(tactic| walk_at "f") => `(tactic| first
  | with_reducible assumption
  | with_reducible exact upd_same
  | with_reducible exact Same.refl _
  | with_reducible exact Frm.refl
  | ((with_reducible apply sqL_K); (focus with_reducible assumption); rfl)
  | ((with_reducible apply sqT_K); (focus with_reducible assumption); rfl)
  | ((with_reducible apply SqT.of); walk_at "f")
  | ((with_reducible apply SqL.of); walk_at "f")
  | ((with_reducible apply back_raw); (focus walk_at "arr"); walk_at "f")
  | ((with_reducible apply frm_tup); (focus with_reducible assumption); (focus walk_at "f"); (focus walk_at "f"); (focus (intro _ z; cases z; done)))
  | ((with_reducible apply frm_raw); (focus with_reducible assumption); (focus walk_at "f"); walk_at "f")
  | ((with_reducible apply bowl_back); (focus walk_at "arr"); walk_at "f")
  | ((with_reducible apply bowl_ne); (focus with_reducible assumption); walk_at "f")
  | ((with_reducible apply Num.int); with_reducible assumption)
  | ((with_reducible apply same_snoc); (focus walk_at "arr"); walk_at "f")
  | ((with_reducible apply frm_back); (focus walk_at "arr"); walk_at "f")
  | ((with_reducible apply frm_backF); (focus with_reducible assumption); walk_at "f")
  | ((with_reducible apply back_sqT); (focus walk_at "arr"); walk_at "f")
  | ((with_reducible apply same_sqL); (focus walk_at "arr"); walk_at "f")
  | ((with_reducible apply free_same); (focus with_reducible assumption); walk_at "f")
  | ((with_reducible apply free_frm); (focus with_reducible assumption); (focus with_reducible assumption); walk_at "f")
  | ((with_reducible apply frm_sqL); (focus with_reducible assumption); (focus walk_at "f"); walk_at "f"))
local macro_rules | `(tactic| walk_at "bt") => `(tactic| first
  | with_reducible assumption
  | ((with_reducible apply bt_mul); (focus walk_at "bt"); walk_at "bt")
  | ((with_reducible apply bt_add); (focus walk_at "bt"); walk_at "bt")
  | ((with_reducible apply bt_sub); (focus walk_at "bt"); walk_at "bt")
  | ((with_reducible apply bt_neg); walk_at "bt")
  | ((with_reducible apply bt_div); walk_at "bt")
  | ((with_reducible apply bt_mod); (focus (first | assumption | omega)); walk_at "bt")
  | exact bt_lit (n := 64) (by decide)
  | exact bt_lit (n := 200) (by decide +kernel))
local macro_rules | `(tactic| walk_at "lin") => `(tactic| first
  | exact (by decide : 1 ≤ sizeLine) | exact (by decide : 2 ≤ sizeLine) | exact (by decide : 3 ≤ sizeLine) | exact (by decide : 4 ≤ sizeLine) | exact (by decide : 0 ≤ sizeLine) | exact (by decide : 5 ≤ sizeLine) | exact (by decide : 6 ≤ sizeLine))
local macro_rules | `(tactic| walk_at "dp") => `(tactic| first
  | exact Dp.int _
  | exact DpAll.nil
  | ((with_reducible apply Dp.lst); (focus walk_at "f"); walk_at "dp")
  | ((with_reducible apply Dp.tup); (focus walk_at "f"); walk_at "dp")
  | ((with_reducible apply DpAll.cons); (focus walk_at "dp"); walk_at "dp"))
local macro_rules | `(tactic| walk_at "sv") => `(tactic| first
  | with_reducible rfl
  | walk_at "f"
  | exact rfl
  | walk_at "dp"
  | exact shp_lst [_] | exact shp_lst [_, _] | exact shp_lst [_, _, _] | exact shp_lst [_, _, _, _] | exact shp_tup [_, _] | exact shp_tup [_, _, _]
  | ((apply tyV_lst); walk_at "f")
  | ((with_reducible apply bt_mulW); (focus walk_at "bt"); (focus walk_at "bt"); (focus (first | decide | omega)))
  | ((with_reducible apply bt_divW); (focus (first | decide | assumption | omega)); (focus walk_at "bt"); (focus (first | decide | omega)))
  | ((with_reducible apply bt_divP); (focus (first | decide | assumption | omega)); (focus walk_at "bt"); (focus (first | decide | omega)))
  | exact ⟨by decide, by decide +kernel⟩
  | exact Or.inl (by decide)
  | exact Or.inr (by decide)
  | exact Or.inl ⟨by omega, by omega⟩
  | exact Or.inr ⟨by omega, by omega⟩
  | ((with_reducible apply Or.inl); walk_at "sv")
  | ((with_reducible apply Or.inr); walk_at "sv")
  | ((with_reducible apply Exists.intro); walk_at "sv")
  | ((with_reducible apply And.intro); (focus walk_at "sv"); walk_at "sv")
  | walk_at "lin"
  | decide
  | omega
  | (simp only [List.length_cons, List.length_nil, List.length_map]; first | done | omega))
local macro_rules | `(tactic| walk_at "one") => `(tactic| first
  | ((fail_if_success refine' @Exists.intro (Nat → L2.St → Hp → Prop) _ ?_ ?_); (fail_if_success refine' @Exists.intro (Nat → Nat → L2.St → Hp → Prop) _ ?_ ?_); (fail_if_success refine' @Exists.intro (L2.St → Hp → Prop) _ ?_ ?_); (fail_if_success refine' @Exists.intro (Nat → Nat → Hp → Prop) _ ?_ ?_); (fail_if_success refine' @Exists.intro (Hp → Prop) _ ?_ ?_); apply Exists.intro)
  | (apply And.intro; (focus walk_at "sv"))
  | intro _
  | (apply ifT; (focus rfl))
  | (apply ifF; (focus rfl))
  | ((apply Or.inl); (apply Exists.intro); (apply And.intro); (focus exact rfl))
  | ((apply Or.inl); (apply And.intro); (focus walk_at "f"))
  | ((apply Or.inr); (apply Exists.intro); (apply And.intro); (focus exact rfl))
  | (apply ifTd; (focus (first | assumption | omega)))
  | (apply ifFd; (focus (first | assumption | omega))))
local macro_rules | `(tactic| walk_at "go") => `(tactic| repeat walk_at "one")
local macro_rules | `(tactic| walk_at "nm") => `(tactic| try simp only [List.set_cons_zero, List.set_cons_succ])
local macro_rules | `(tactic| walk_at "gon") => `(tactic| repeat (walk_at "one"; walk_at "nm"))

/- three numbers of which any two are coprime -/
structure Cop (a b c : Int) : Prop where
  a1 : 1 ≤ a
  b1 : 1 ≤ b
  c1 : 1 ≤ c
  ab : gc a b = 1
  bc : gc b c = 1
  ca : gc c a = 1
theorem len_range {β : Type} (f : Int → β) (g : Nat → Int) {i : Nat} (h : i < 5000) : (((List.range i).map g).map f).length < sizeLine := by
  rw [List.length_map, List.length_map, List.length_range]
  exact lt_line (by omega)
theorem bt_small {i : Int} (h0 : 0 ≤ i) (h1 : i < 5000) : Bt 20 i := by
  unfold Bt
  have : (2 : Nat) ^ 20 = 1048576 := rfl
  omega
theorem ne_iz {v : V} {w : V} (h : v = w) : (!decide (v = w)) = false := by
  subst h
  simp
theorem b8 {x : Int} (h0 : -16 < x) (h1 : x < 16) : Bt 4 x := by
  show x.natAbs < 2 ^ 4
  omega
theorem tt8 {x y : Int} (h0 : 0 < y) (h1 : y ≤ 9) : Bt 6 (TT x y) := by
  obtain ⟨h2, h3⟩ := TT_bound (a := x) h0
  have h4 : (y - 1) * (y - 2) ≤ 56 := by
    rcases (show y = 1 ∨ y = 2 ∨ y = 3 ∨ y = 4 ∨ y = 5 ∨ y = 6 ∨ y = 7 ∨ y = 8 ∨ y = 9 by omega) with z | z | z | z | z | z | z | z | z <;> rw [z] <;> decide
  show (TT x y).natAbs < 2 ^ 6
  omega
local macro_rules | `(tactic| walk_at "arr") => `(tactic| first
  | ((with_reducible apply made2); (focus with_reducible assumption); (focus with_reducible assumption); with_reducible assumption)
  | ((with_reducible apply same_up); (focus with_reducible assumption); with_reducible assumption))
local macro_rules | `(tactic| walk_at "f") => `(tactic| first
  | ((with_reducible apply Num.long); walk_at "f")
  | ((with_reducible apply ratu_back); (focus walk_at "arr"); walk_at "f")
  | ((with_reducible apply ratu_frm); (focus with_reducible assumption); (focus walk_at "f"); walk_at "f")
  | ((with_reducible apply rat_back); (focus walk_at "arr"); walk_at "f")
  | ((with_reducible apply rat_frm); (focus with_reducible assumption); (focus walk_at "f"); walk_at "f")
  | ((with_reducible apply ratb_u); (focus with_reducible assumption); with_reducible assumption)
  | ((with_reducible apply ratb_at); (focus with_reducible assumption); with_reducible assumption)
  | ((with_reducible apply ratb_back); (focus walk_at "arr"); walk_at "f")
  | ((with_reducible apply ratb_frm); (focus with_reducible assumption); (focus walk_at "f"); walk_at "f")
  | ((with_reducible apply Rn.rat); walk_at "f")
  | ((with_reducible apply Rn.int); with_reducible assumption)
  | ((with_reducible apply rat_raw); walk_at "f")
  | ((with_reducible apply ratb_raw); walk_at "f"))
local macro_rules | `(tactic| walk_at "f") => `(tactic| first
  | ((apply ty_rat); (focus assumption); walk_at "f")
  | ((apply ty_ratb); (focus assumption); walk_at "f")
  | exact nf_self
  | exact TyX.base (.int _)
  | ((with_reducible apply Pay.two); (focus with_reducible assumption); (focus with_reducible assumption); (focus (first | with_reducible assumption | decide)); (first | with_reducible assumption | rfl))
  | ((with_reducible apply nf_K); (focus with_reducible assumption); rfl)
  | exact bt_lit (by decide +kernel))
local macro_rules | `(tactic| walk_at "one") => `(tactic| ((apply Or.inl); (apply Exists.intro); (apply Exists.intro); (apply And.intro); (focus exact rfl)))
local macro_rules | `(tactic| walk_at "f") => `(tactic| first
  | ((with_reducible apply frT_K); (focus with_reducible assumption); rfl)
  | ((with_reducible apply frt); (focus with_reducible assumption))
  | ((with_reducible apply frt_back); (focus walk_at "arr"); walk_at "f")
  | ((with_reducible apply frt_frm); (focus with_reducible assumption); (focus walk_at "f"); walk_at "f"))
local macro_rules | `(tactic| walk_at "sv") => `(tactic| first
  | ((with_reducible refine lt_line ?_); simp only [List.length_append, List.length_cons, List.length_nil, List.length_map, List.length_replicate, List.length_range]; omega)
  | ((with_reducible refine Nat.le_of_lt (lt_line ?_)); simp only [List.length_append, List.length_cons, List.length_nil, List.length_map, List.length_replicate, List.length_range]; omega))
def sp_check_coprime : Sp := fun vs H Q _ => ∃ (a b c : Int), vs = [.int a, .int b, .int c] ∧ gc a b = 1 ∧ gc b c = 1 ∧ gc c a = 1 ∧ Q .non H
theorem ok_check_coprime (T : Txt K mg A) : FnOk P w K mg base CX0 1 A.f_check_coprime A.d_check_coprime ["a", "b", "c"] sp_check_coprime := by
  refine T.F_check_coprime.ok sc_check_coprime (fun vs H Q E h => ?_) (fun cdv Ar outer s H vs Q E hr h => ?_)
  · obtain ⟨_, _, _, rfl, _⟩ := h
    rfl
  · obtain ⟨a, b, c, rfl, h1, h2, h3, k⟩ := h
    have hu := hu_of hr
    refine ⟨_, (pss_one (ps_if (PW.pt (pw_or (pt_cmpR op_ne (pe_callBfun cr_gcd rfl T.m_gcd (pa_cons (pv 0) (pa_cons (pv 1) pa_nil))) pe_int (nomark _)) (pw_or (pt_cmpR op_ne (pe_callBfun cr_gcd rfl T.m_gcd (pa_cons (pv 1) (pa_cons (pv 2) pa_nil))) pe_int (nomark _)) (pw_or1 (pt_cmpR op_ne (pe_callBfun cr_gcd rfl T.m_gcd (pa_cons (pv 2) (pa_cons (pv 0) pa_nil))) pe_int (nomark _))))))
        (pss_one ps_never)
        pss_nil)), ?_⟩
    have g1 : ((a.natAbs.gcd b.natAbs : Nat) : Int) = 1 := h1
    have g2 : ((b.natAbs.gcd c.natAbs : Nat) : Int) = 1 := h2
    have g3 : ((c.natAbs.gcd a.natAbs : Nat) : Int) = 1 := h3
    walk_at "go"
    refine ifF (ne_iz (by rw [g1])) ?_
    walk_at "go"
    refine ifF (ne_iz (by rw [g2])) ?_
    walk_at "go"
    refine ifF (ne_iz (by rw [g3])) ?_
    walk_at "go"
    exact k
def sp__checked_box (A : Ad) : Sp := fun vs H Q _ => ∃ (u v x : V) (a b c : Int), vs = [u, v, x] ∧ Num A H u a ∧ Num A H v b ∧ Num A H x c ∧ Cop a b c ∧ ∀ p H', H p = none → Same H H' → H' p = some (.tup [.int a, .int b, .int c]) → Q (.ref p) H'
theorem ok__checked_box (T : Txt K mg A) : FnOk P w K mg base CX0 6 A.f__checked_box A.d__checked_box ["a", "b", "c"] (sp__checked_box A) := by
  refine T.F__checked_box.ok sc__checked_box (fun vs H Q E h => ?_) (fun cdv Ar outer s H vs Q E hr h => ?_)
  · obtain ⟨_, _, _, _, _, _, rfl, _⟩ := h
    rfl
  · obtain ⟨u, v, x, a, b, c, rfl, h1, h2, h3, ⟨a1, b1, c1, ab, bc, ca⟩, k⟩ := h
    have hu := hu_of hr
    refine ⟨_, (pss_cons (ps_par3 (i := 3) (j := 4) (l := 5) (by rfl) sc__checked_box.nd rfl rfl rfl (by decide) (by decide) (by decide) rfl rfl rfl (pa_cons (pe_call (ok_checked_from T) (hr.mono (by decide)) rfl T.m_checked_from T.F_checked_from.kp T.b_checked_from .nil pass0 (pa_cons pe_int (pa_cons (pv 0) pa_nil))) (pa_cons (pe_call (ok_checked_from T) (hr.mono (by decide)) rfl T.m_checked_from T.F_checked_from.kp T.b_checked_from .nil pass0 (pa_cons pe_int (pa_cons (pv 1) pa_nil))) (pa_cons (pe_call (ok_checked_from T) (hr.mono (by decide)) rfl T.m_checked_from T.F_checked_from.kp T.b_checked_from .nil pass0 (pa_cons pe_int (pa_cons (pv 2) pa_nil))) pa_nil))) (by rfl))
      (pss_cons (ps_expr (pe_call (ok_check_coprime T) (hr.mono (by decide)) rfl T.m_check_coprime T.F_check_coprime.kp T.b_check_coprime .nil pass0 (pa_cons (pv 3) (pa_cons (pv 4) (pa_cons (pv 5) pa_nil)))))
      (pss_one (ps_ret (pe_tup (pa_cons (pv 3) (pa_cons (pv 4) (pa_cons (pv 5) pa_nil)))))))), ?_⟩
    walk_at "go"
    exact k _ _ (by walk_at "f") (by walk_at "f") (by walk_at "f")
def sp__checked_corner (A : Ad) : Sp := fun vs H Q _ => ∃ (u v x y : V) (a b c t : Int), vs = [u, v, x, y] ∧ Num A H u a ∧ Num A H v b ∧ Num A H x c ∧ Num A H y t ∧ Cop a b c ∧ 0 ≤ t ∧ ∀ p H', H p = none → Same H H' → H' p = some (.tup [.int a, .int b, .int c, .int t]) → Q (.ref p) H'
theorem ok__checked_corner (T : Txt K mg A) : FnOk P w K mg base CX0 6 A.f__checked_corner A.d__checked_corner ["a", "b", "c", "t"] (sp__checked_corner A) := by
  refine T.F__checked_corner.ok sc__checked_corner (fun vs H Q E h => ?_) (fun cdv Ar outer s H vs Q E hr h => ?_)
  · obtain ⟨_, _, _, _, _, _, _, _, rfl, _⟩ := h
    rfl
  · obtain ⟨u, v, x, y, a, b, c, t, rfl, h1, h2, h3, h4, ⟨a1, b1, c1, ab, bc, ca⟩, t0, k⟩ := h
    have hu := hu_of hr
    refine ⟨_, (pss_cons (ps_asg (pe_tup (pa_cons (pe_call (ok_checked_from T) (hr.mono (by decide)) rfl T.m_checked_from T.F_checked_from.kp T.b_checked_from .nil pass0 (pa_cons pe_int (pa_cons (pv 0) pa_nil))) (pa_cons (pe_call (ok_checked_from T) (hr.mono (by decide)) rfl T.m_checked_from T.F_checked_from.kp T.b_checked_from .nil pass0 (pa_cons pe_int (pa_cons (pv 1) pa_nil))) (pa_cons (pe_call (ok_checked_from T) (hr.mono (by decide)) rfl T.m_checked_from T.F_checked_from.kp T.b_checked_from .nil pass0 (pa_cons pe_int (pa_cons (pv 2) pa_nil))) (pa_cons (pe_call (ok_checked_from T) (hr.mono (by decide)) rfl T.m_checked_from T.F_checked_from.kp T.b_checked_from .nil pass0 (pa_cons pe_int (pa_cons (pv 3) pa_nil))) pa_nil))))) (pg_tup rfl (pgs_cons (pg_name (i := 4) sc__checked_corner.nd rfl (Or.inl rfl)) (pgs_cons (pg_name (i := 5) sc__checked_corner.nd rfl (Or.inl rfl)) (pgs_cons (pg_name (i := 6) sc__checked_corner.nd rfl (Or.inl rfl)) (pgs_cons (pg_name (i := 7) sc__checked_corner.nd rfl (Or.inl rfl)) pgs_nil))))))
      (pss_cons (ps_expr (pe_call (ok_check_coprime T) (hr.mono (by decide)) rfl T.m_check_coprime T.F_check_coprime.kp T.b_check_coprime .nil pass0 (pa_cons (pv 4) (pa_cons (pv 5) (pa_cons (pv 6) pa_nil)))))
      (pss_one (ps_ret (pe_tup (pa_cons (pv 4) (pa_cons (pv 5) (pa_cons (pv 6) (pa_cons (pv 7) pa_nil))))))))), ?_⟩
    walk_at "go"
    exact k _ _ (by walk_at "f") (by walk_at "f") (by walk_at "f")
def sp__corner_bottom : Sp := fun vs H Q _ => ∃ (a b c : Int), vs = [.int a, .int b, .int c] ∧ Bt 4 a ∧ Bt 4 b ∧ Bt 4 c ∧ Q (.int (12 * a * b * c)) H
theorem ok__corner_bottom (T : Txt K mg A) : FnOk P w K mg base CX0 1 A.f__corner_bottom A.d__corner_bottom ["a", "b", "c"] sp__corner_bottom := by
  refine T.F__corner_bottom.ok sc__corner_bottom (fun vs H Q E h => ?_) (fun cdv Ar outer s H vs Q E hr h => ?_)
  · obtain ⟨_, _, _, rfl, _⟩ := h
    rfl
  · obtain ⟨a, b, c, rfl, ba, bb, bc, k⟩ := h
    have hu := hu_of hr
    refine ⟨_, (pss_one (ps_ret (pe_op op_mulW (pe_op op_mulW (pe_op op_mul pe_int (pv 0)) (pv 1)) (pv 2)))), ?_⟩
    walk_at "go"
    exact k
def sp__corner_tops : Sp := fun vs H Q _ => ∃ (a b c : Int), vs = [.int a, .int b, .int c] ∧ 1 ≤ a ∧ 1 ≤ b ∧ 1 ≤ c ∧ a ≤ 9 ∧ b ≤ 9 ∧ c ≤ 9 ∧ ∀ p x0 x1 x2 x3 H', H p = none → Same H H' → H' p = some (.tup [.int x0, .int x1, .int x2, .int x3]) → cTops a b c = (x0, x1, x2, x3) → Bt 60 x0 → Bt 60 x1 → Bt 60 x2 → Bt 60 x3 → Q (.ref p) H'
theorem ok__corner_tops (T : Txt K mg A) : FnOk P w K mg base CX0 5 A.f__corner_tops A.d__corner_tops ["a", "b", "c"] sp__corner_tops := by
  refine T.F__corner_tops.ok sc__corner_tops (fun vs H Q E h => ?_) (fun cdv Ar outer s H vs Q E hr h => ?_)
  · obtain ⟨_, _, _, rfl, _⟩ := h
    rfl
  · obtain ⟨a, b, c, rfl, a1, b1, c1, a8, b8', c8, k⟩ := h
    have hu := hu_of hr
    refine ⟨_, (pss_cons (ps_par3 (i := 3) (j := 4) (l := 5) (by rfl) sc__corner_tops.nd rfl rfl rfl (by decide) (by decide) (by decide) rfl rfl rfl (pa_cons (pe_op op_mulW (pv 0) (pv 1)) (pa_cons (pe_op op_mulW (pv 1) (pv 2)) (pa_cons (pe_op op_mulW (pv 2) (pv 0)) pa_nil))) (by rfl))
      (pss_cons (ps_set (i := 6) sc__corner_tops.nd rfl (Or.inl rfl) (pe_op op_add (pe_op op_add (pe_op op_mulW (pv 4) (pe_call (ok_sum_top T) (hr.mono (by decide)) rfl T.m_sum_top T.F_sum_top.kp T.b_sum_top .nil pass0 (pa_cons (pv 4) (pa_cons (pv 0) pa_nil)))) (pe_op op_mulW (pv 5) (pe_call (ok_sum_top T) (hr.mono (by decide)) rfl T.m_sum_top T.F_sum_top.kp T.b_sum_top .nil pass0 (pa_cons (pv 5) (pa_cons (pv 1) pa_nil))))) (pe_op op_mulW (pv 3) (pe_call (ok_sum_top T) (hr.mono (by decide)) rfl T.m_sum_top T.F_sum_top.kp T.b_sum_top .nil pass0 (pa_cons (pv 3) (pa_cons (pv 2) pa_nil))))))
      (pss_cons (ps_set (i := 7) sc__corner_tops.nd rfl (Or.inl rfl) (pe_op op_sub (pe_op op_add (pe_op op_add (pe_op op_add (pe_op op_add (pe_op op_mulW (pe_op op_mulW (pe_op op_mul pe_int (pv 0)) (pv 4)) (pe_op op_add (pe_op op_add (pe_op op_add (pv 0) (pv 1)) (pv 2)) pe_int)) (pe_op op_mulW (pv 4) (pv 4))) (pe_op op_mulW (pv 5) (pv 5))) (pe_op op_mulW (pv 3) (pv 3))) pe_int) (pv 6)))
      (pss_one (ps_ret (pe_tup (pa_cons (pe_op op_mulW (pe_op op_mul pe_int (pv 0)) (pv 4)) (pa_cons (pv 7) (pa_cons (pe_op op_mulW (pe_op op_mulW (pe_op op_mul pe_int (pv 0)) (pv 4)) (pe_op op_add (pe_op op_add (pe_op op_add (pv 3) (pv 4)) (pv 5)) pe_int)) (pa_cons (pe_op op_mulW (pe_op op_mulW (pe_op op_mulW (pe_op op_mul pe_int (pv 0)) (pv 4)) (pv 0)) (pv 4)) pa_nil)))))))))), ?_⟩
    have ba : Bt 4 a := b8 (by omega) (by omega)
    have bb : Bt 4 b := b8 (by omega) (by omega)
    have bc : Bt 4 c := b8 (by omega) (by omega)
    have bab : Bt 8 (a * b) := bt_mul ba bb
    have bbc : Bt 8 (b * c) := bt_mul bb bc
    have bca : Bt 8 (c * a) := bt_mul bc ba
    have t1 : Bt 6 (TT (b * c) a) := tt8 (by omega) a8
    have t2 : Bt 6 (TT (c * a) b) := tt8 (by omega) b8'
    have t3 : Bt 6 (TT (a * b) c) := tt8 (by omega) c8
    have a9 : Bt 900 a := ba.mono (by decide)
    have b9 : Bt 900 b := bb.mono (by decide)
    have c9 : Bt 900 c := bc.mono (by decide)
    have p0 : 0 < a := by omega
    have p1 : 0 < b := by omega
    have p2 : 0 < c := by omega
    have l2 : Bt 2 3 := bt_lit (by decide)
    have l4 : Bt 4 12 := bt_lit (by decide)
    have l1 : Bt 2 2 := bt_lit (by decide)
    have l0 : Bt 2 1 := bt_lit (by decide)
    have m3 : Bt 14 (3 * a * (b * c)) := bt_mul (bt_mul l2 ba) bbc
    have x0 : Bt 60 (12 * a * (b * c)) := Bt.mono (bt_mul (bt_mul l4 ba) bbc) (by decide)
    have s1 : Bt 20 (a + b + c + 3) := (bt_addm (n := 19) ((bt_addm (n := 18) ((bt_addm (n := 17) (ba.mono (by decide)) (bb.mono (by decide)))) (bc.mono (by decide)))) (l2.mono (by decide)))
    have s2 : Bt 20 (a * b + b * c + c * a + 1) := (bt_addm (n := 19) ((bt_addm (n := 18) ((bt_addm (n := 17) (bab.mono (by decide)) (bbc.mono (by decide)))) (bca.mono (by decide)))) (l0.mono (by decide)))
    have x2 : Bt 60 (3 * a * (b * c) * (a * b + b * c + c * a + 1)) := (bt_mul m3 s2).mono (by decide)
    have x3 : Bt 60 (2 * a * (b * c) * a * (b * c)) := Bt.mono (bt_mul (bt_mul (bt_mul (bt_mul l1 ba) bbc) ba) bbc) (by decide)
    have sm : Bt 20 (b * c * TT (b * c) a + c * a * TT (c * a) b + a * b * TT (a * b) c) := bt_addm (n := 19) (bt_addm (n := 18) (Bt.mono (bt_mul bbc t1) (by decide)) (Bt.mono (bt_mul bca t2) (by decide))) (Bt.mono (bt_mul bab t3) (by decide))
    have q1 : Bt 50 (3 * a * (b * c) * (a + b + c + 3)) := (bt_mul m3 s1).mono (by decide)
    have q2 : Bt 50 (b * c * (b * c)) := (bt_mul bbc bbc).mono (by decide)
    have q3 : Bt 51 (c * a * (c * a)) := (bt_mul bca bca).mono (by decide)
    have q4 : Bt 52 (a * b * (a * b)) := (bt_mul bab bab).mono (by decide)
    have x1 : Bt 60 (3 * a * (b * c) * (a + b + c + 3) + b * c * (b * c) + c * a * (c * a) + a * b * (a * b) + 1 - (b * c * TT (b * c) a + c * a * TT (c * a) b + a * b * TT (a * b) c)) := (bt_subm (n := 54) (bt_addm (n := 53) (bt_addm (n := 52) (bt_addm (n := 51) (bt_addm (n := 50) q1 q2) q3) q4) (l0.mono (by decide))) (sm.mono (by decide))).mono (by decide)
    walk_at "go"
    exact k _ _ _ _ _ _ (by walk_at "f") (by walk_at "f") upd_same rfl x0 x1 x2 x3
def sp__corner_value : Sp := fun vs H Q _ => ∃ (a b c t : Int), vs = [.int a, .int b, .int c, .int t] ∧ 1 ≤ a ∧ 1 ≤ b ∧ 1 ≤ c ∧ a ≤ 9 ∧ b ≤ 9 ∧ c ≤ 9 ∧ Bt 200 t ∧ ∀ H', Same H H' → Q (.int (cVal a b c t)) H'
theorem ok__corner_value (T : Txt K mg A) : FnOk P w K mg base CX0 6 A.f__corner_value A.d__corner_value ["a", "b", "c", "t"] sp__corner_value := by
  refine T.F__corner_value.ok sc__corner_value (fun vs H Q E h => ?_) (fun cdv Ar outer s H vs Q E hr h => ?_)
  · obtain ⟨_, _, _, _, rfl, _⟩ := h
    rfl
  · obtain ⟨a, b, c, t, rfl, a1, b1, c1, a8, b8', c8, bt, k⟩ := h
    have hu := hu_of hr
    refine ⟨_, (pss_cons (ps_asg (pe_call (ok__corner_tops T) (hr.mono (by decide)) rfl T.m__corner_tops T.F__corner_tops.kp T.b__corner_tops .nil pass0 (pa_cons (pv 0) (pa_cons (pv 1) (pa_cons (pv 2) pa_nil)))) (pg_tup rfl (pgs_cons (pg_name (i := 4) sc__corner_value.nd rfl (Or.inl rfl)) (pgs_cons (pg_name (i := 5) sc__corner_value.nd rfl (Or.inl rfl)) (pgs_cons (pg_name (i := 6) sc__corner_value.nd rfl (Or.inl rfl)) (pgs_cons (pg_name (i := 7) sc__corner_value.nd rfl (Or.inl rfl)) pgs_nil))))))
      (pss_one (ps_ret (pe_op op_fdivW (pe_op op_add (pe_op op_mulW (pe_op op_add (pe_op op_mulW (pe_op op_add (pe_op op_mulW (pv 7) (pv 3)) (pv 6)) (pv 3)) (pv 5)) (pv 3)) (pv 4)) (pe_call (ok__corner_bottom T) (hr.mono (by decide)) rfl T.m__corner_bottom T.F__corner_bottom.kp T.b__corner_bottom .nil pass0 (pa_cons (pv 0) (pa_cons (pv 1) (pa_cons (pv 2) pa_nil)))))))), ?_⟩
    have ba : Bt 4 a := b8 (by omega) (by omega)
    have bb : Bt 4 b := b8 (by omega) (by omega)
    have bc : Bt 4 c := b8 (by omega) (by omega)
    walk_at "go"
    rename_i p x0 x1 x2 x3 H1 np s1 gp e q0 q1 q2 q3
    have d0 : 0 < 12 * a * b * c := Int.mul_pos (Int.mul_pos (by omega) (by omega)) (by omega)
    have bd : Bt 400 (12 * a * b * c) := Bt.mono (bt_mul (bt_mul (bt_mul (bt_lit (n := 4) (x := 12) (by decide)) ba) bb) bc) (by decide)
    have ev : cVal a b c t = (((x3 * t + x2) * t + x1) * t + x0) / (12 * a * b * c) := by
      unfold cVal
      rw [e]
    rw [ev] at k
    walk_at "go"
    exact k _ (by walk_at "f")
def sp_corner_points (A : Ad) : Sp := fun vs H Q _ => ∃ (u v x y : V) (a b c t : Int), vs = [u, v, x, y] ∧ Num A H u a ∧ Num A H v b ∧ Num A H x c ∧ Num A H y t ∧ Cop a b c ∧ a ≤ 9 ∧ b ≤ 9 ∧ c ≤ 9 ∧ 0 ≤ t ∧ t ≤ 10 ^ 40 ∧ ∀ H', Same H H' → Q (.int (cVal a b c t)) H'
theorem ok_corner_points (T : Txt K mg A) : FnOk P w K mg base CX0 7 A.f_corner_points A.d_corner_points ["a", "b", "c", "t"] (sp_corner_points A) := by
  refine T.F_corner_points.ok sc_corner_points (fun vs H Q E h => ?_) (fun cdv Ar outer s H vs Q E hr h => ?_)
  · obtain ⟨_, _, _, _, _, _, _, _, rfl, _⟩ := h
    rfl
  · obtain ⟨u, v, x, y, a, b, c, t, rfl, h1, h2, h3, h4, hc, a8, b8', c8, t0, t8, k⟩ := h
    have hu := hu_of hr
    refine ⟨_, (pss_cons (ps_asg (pe_call (ok__checked_corner T) (hr.mono (by decide)) rfl T.m__checked_corner T.F__checked_corner.kp T.b__checked_corner .nil pass0 (pa_cons (pv 0) (pa_cons (pv 1) (pa_cons (pv 2) (pa_cons (pv 3) pa_nil))))) (pg_tup rfl (pgs_cons (pg_name (i := 4) sc_corner_points.nd rfl (Or.inl rfl)) (pgs_cons (pg_name (i := 5) sc_corner_points.nd rfl (Or.inl rfl)) (pgs_cons (pg_name (i := 6) sc_corner_points.nd rfl (Or.inl rfl)) (pgs_cons (pg_name (i := 7) sc_corner_points.nd rfl (Or.inl rfl)) pgs_nil))))))
      (pss_one (ps_ret (pe_call (ok__corner_value T) (hr.mono (by decide)) rfl T.m__corner_value T.F__corner_value.kp T.b__corner_value .nil pass0 (pa_cons (pv 4) (pa_cons (pv 5) (pa_cons (pv 6) (pa_cons (pv 7) pa_nil)))))))), ?_⟩
    obtain ⟨a1, b1, c1, ab, bc, ca⟩ := id hc
    have bt : Bt 200 t := Bt.mono (n := 140) (Nat.lt_trans (show _ < 10 ^ 41 by omega) (by decide +kernel)) (by decide)
    walk_at "go"
    exact k _ (by walk_at "f")
def sp_corner_inner (A : Ad) : Sp := fun vs H Q _ => ∃ (u v x y : V) (a b c t : Int), vs = [u, v, x, y] ∧ Num A H u a ∧ Num A H v b ∧ Num A H x c ∧ Num A H y t ∧ Cop a b c ∧ a ≤ 9 ∧ b ≤ 9 ∧ c ≤ 9 ∧ 0 ≤ t ∧ t ≤ 10 ^ 40 ∧ ∀ H', Same H H' → Q (.int (if t = 0 then 0 else -cVal a b c (-t))) H'
theorem ok_corner_inner (T : Txt K mg A) : FnOk P w K mg base CX0 7 A.f_corner_inner A.d_corner_inner ["a", "b", "c", "t"] (sp_corner_inner A) := by
  refine T.F_corner_inner.ok sc_corner_inner (fun vs H Q E h => ?_) (fun cdv Ar outer s H vs Q E hr h => ?_)
  · obtain ⟨_, _, _, _, _, _, _, _, rfl, _⟩ := h
    rfl
  · obtain ⟨u, v, x, y, a, b, c, t, rfl, h1, h2, h3, h4, hc, a8, b8', c8, t0, t8, k⟩ := h
    have hu := hu_of hr
    refine ⟨_, (pss_cons (ps_asg (pe_call (ok__checked_corner T) (hr.mono (by decide)) rfl T.m__checked_corner T.F__checked_corner.kp T.b__checked_corner .nil pass0 (pa_cons (pv 0) (pa_cons (pv 1) (pa_cons (pv 2) (pa_cons (pv 3) pa_nil))))) (pg_tup rfl (pgs_cons (pg_name (i := 4) sc_corner_inner.nd rfl (Or.inl rfl)) (pgs_cons (pg_name (i := 5) sc_corner_inner.nd rfl (Or.inl rfl)) (pgs_cons (pg_name (i := 6) sc_corner_inner.nd rfl (Or.inl rfl)) (pgs_cons (pg_name (i := 7) sc_corner_inner.nd rfl (Or.inl rfl)) pgs_nil))))))
      (pss_one (ps_ret (pe_ifExp (pt_truth (pv 7) (fun _ => rfl)) (pe_un un_neg (pe_call (ok__corner_value T) (hr.mono (by decide)) rfl T.m__corner_value T.F__corner_value.kp T.b__corner_value .nil pass0 (pa_cons (pv 4) (pa_cons (pv 5) (pa_cons (pv 6) (pa_cons (pe_un un_neg (pv 7)) pa_nil)))))) pe_int)))), ?_⟩
    obtain ⟨a1, b1, c1, ab, bc, ca⟩ := id hc
    have bt : Bt 200 (-t) := Bt.mono (n := 140) (Nat.lt_trans (show _ < 10 ^ 41 by omega) (by decide +kernel)) (by decide)
    walk_at "go"
    refine ite2 (fun h => ?_) (fun h => ?_)
    · have h : t ≠ 0 := by simpa using h
      rw [if_neg h] at k
      walk_at "go"
      exact k _ (by walk_at "f")
    · have h : t = 0 := by simpa using h
      rw [if_pos h] at k
      exact k _ (by walk_at "f")
def sp_corner_face (A : Ad) : Sp := fun vs H Q _ => ∃ (u v x y : V) (a b c t : Int), vs = [u, v, x, y] ∧ Num A H u a ∧ Num A H v b ∧ Num A H x c ∧ Num A H y t ∧ Cop a b c ∧ 0 ≤ t ∧ t ≤ 10 ^ 40 ∧ ∀ H', Same H H' → Q (.int ((t + 1) * (t + 2) / 2)) H'
theorem ok_corner_face (T : Txt K mg A) : FnOk P w K mg base CX0 7 A.f_corner_face A.d_corner_face ["a", "b", "c", "t"] (sp_corner_face A) := by
  refine T.F_corner_face.ok sc_corner_face (fun vs H Q E h => ?_) (fun cdv Ar outer s H vs Q E hr h => ?_)
  · obtain ⟨_, _, _, _, _, _, _, _, rfl, _⟩ := h
    rfl
  · obtain ⟨u, v, x, y, a, b, c, t, rfl, h1, h2, h3, h4, hc, t0, t8, k⟩ := h
    have hu := hu_of hr
    refine ⟨_, (pss_cons (ps_set (i := 4) sc_corner_face.nd rfl (Or.inl rfl) (pe_ix ix_tup (pe_call (ok__checked_corner T) (hr.mono (by decide)) rfl T.m__checked_corner T.F__checked_corner.kp T.b__checked_corner .nil pass0 (pa_cons (pv 0) (pa_cons (pv 1) (pa_cons (pv 2) (pa_cons (pv 3) pa_nil))))) pe_int (fun _ _ => rfl)))
      (pss_one (ps_ret (pe_op op_fdivW (pe_op op_mulW (pe_op op_add (pv 4) pe_int) (pe_op op_add (pv 4) pe_int)) pe_int)))), ?_⟩
    have bt : Bt 200 t := Bt.mono (n := 140) (Nat.lt_trans (show _ < 10 ^ 41 by omega) (by decide +kernel)) (by decide)
    walk_at "go"
    exact k _ (by walk_at "f")
theorem sol_mutZ {H : Hp} {D : Addr} {xs ys : List V} (g : H D = some (.lst xs)) : Sol H (upd H D (.lst ys)) := fun b o e ne => by
  rw [upd_ne (ne_of e g (ne xs))]
  exact e
def ppair (H : Hp) (C : Addr) : List Addr → List Rat → Prop
  | [], [] => True
  | p :: ps, q :: qs => RatAt C H p q ∧ ppair H C ps qs
  | _, _ => False
theorem ppair.stay {H H' : Hp} {C : Addr} (e : Sol H H') : ∀ {ps : List Addr} {qs : List Rat}, ppair H C ps qs → ppair H' C ps qs
  | [], [], _ => True.intro
  | _ :: _, _ :: _, ⟨h, t⟩ => ⟨h.stay e, ppair.stay e t⟩
  | [], _ :: _, h => h.elim
  | _ :: _, [], h => h.elim
theorem ppair.snoc {H : Hp} {C : Addr} {p : Addr} {q : Rat} (L : RatAt C H p q) : ∀ {ps : List Addr} {qs : List Rat}, ppair H C ps qs → ppair H C (ps ++ [p]) (qs ++ [q])
  | [], [], _ => ⟨L, True.intro⟩
  | _ :: _, _ :: _, ⟨h, t⟩ => ⟨h, ppair.snoc L t⟩
  | [], _ :: _, h => h.elim
  | _ :: _, [], h => h.elim
/- the four factors -/
def cRow (a b c : Int) : List Int := [(cTops a b c).1, (cTops a b c).2.1, (cTops a b c).2.2.1, (cTops a b c).2.2.2]
def cRat (a b c : Int) (x : Int) : Rat := Rat.divInt x (12 * a * b * c)
def sp_corner_polynomial (A : Ad) : Sp := fun vs H Q _ => ∃ (u v x : V) (a b c : Int), vs = [u, v, x] ∧ Num A H u a ∧ Num A H v b ∧ Num A H x c ∧ Cop a b c ∧ a ≤ 9 ∧ b ≤ 9 ∧ c ≤ 9 ∧
  ∀ t ps H', H t = none → Same H H' → H' t = some (.tup (ps.map V.ref)) → ppair H' A.a_Ratio ps ((cRow a b c).map (cRat a b c)) → Q (.ref t) H'
theorem ok_corner_polynomial (T : Txt K mg A) : FnOk P w K mg base CX0 9 A.f_corner_polynomial A.d_corner_polynomial ["a", "b", "c"] (sp_corner_polynomial A) := by
  refine T.F_corner_polynomial.ok sc_corner_polynomial (fun vs H Q E h => ?_) (fun cdv Ar outer s H vs Q E hr h => ?_)
  · obtain ⟨_, _, _, _, _, _, rfl, _⟩ := h
    rfl
  · obtain ⟨u, v, x, a, b, c, rfl, h1, h2, h3, hc, a9, b9, c9, k⟩ := h
    have hu := hu_of hr
    refine ⟨_, (pss_cons (ps_asg (pe_call (ok__checked_box T) (hr.mono (by decide)) rfl T.m__checked_box T.F__checked_box.kp T.b__checked_box .nil pass0 (pa_cons (pv 0) (pa_cons (pv 1) (pa_cons (pv 2) pa_nil)))) (pg_tup rfl (pgs_cons (pg_name (i := 3) sc_corner_polynomial.nd rfl (Or.inl rfl)) (pgs_cons (pg_name (i := 4) sc_corner_polynomial.nd rfl (Or.inl rfl)) (pgs_cons (pg_name (i := 5) sc_corner_polynomial.nd rfl (Or.inl rfl)) pgs_nil)))))
      (pss_cons (ps_set (i := 6) sc_corner_polynomial.nd rfl (Or.inr rfl) (pe_call (ok__corner_bottom T) (hr.mono (by decide)) rfl T.m__corner_bottom T.F__corner_bottom.kp T.b__corner_bottom .nil pass0 (pa_cons (pv 3) (pa_cons (pv 4) (pa_cons (pv 5) pa_nil)))))
      (pss_one (ps_ret (pe_callTy call_tuple_of (by rfl) T.b_tuple (by decide +kernel) (pa_cons (pe_lc (own := [("top", 7)]) (g := gName 7) rfl sc_corner_polynomial.nd (pi_tup (pe_call (ok__corner_tops T) (hr.mono (by decide)) rfl T.m__corner_tops T.F__corner_tops.kp T.b__corner_tops .nil pass0 (pa_cons (pv 3) (pa_cons (pv 4) (pa_cons (pv 5) pa_nil))))) (blkOk_by (own := [("top", 7)]) (N := n_corner_polynomial) (sc := defScope s_corner_polynomial) (by decide +kernel)) (fun _ _ _ _ _ => pg_name (i := 7) sc_corner_polynomial.nd rfl (Or.inl rfl)) (fun _ _ _ _ _ => pts_nil) (fun _ _ _ _ _ => (pe_call (ok_ratio_of T) (hr.mono (by decide)) rfl T.m_ratio_of T.F_ratio_of.kp T.b_ratio_of .nil pass0 (pa_cons (pv 7) (pa_cons (pv 6) pa_nil))))) pa_nil)))))), ?_⟩
    obtain ⟨a1, b1, c1, ab, bc, ca⟩ := id hc
    have ba : Bt 4 a := b8 (by omega) (by omega)
    have bb : Bt 4 b := b8 (by omega) (by omega)
    have bc' : Bt 4 c := b8 (by omega) (by omega)
    have d0 : 0 < 12 * a * b * c := Int.mul_pos (Int.mul_pos (by omega) (by omega)) (by omega)
    have bd : (12 * a * b * c).natAbs < 2 ^ 8000 := Bt.mono (bt_mul (bt_mul (bt_mul (bt_lit (n := 4) (x := 12) (by decide)) ba) bb) bc') (by decide)
    have dn : 12 * a * b * c ≠ 0 := by omega
    walk_at "go"
    rename_i tp H1 ntp s1 gtp p x0 x1 x2 x3 H2 np s2 gp e q0 q1 q2 q3 D hD
    have er : cRow a b c = [x0, x1, x2, x3] := by unfold cRow; rw [e]
    rw [er] at k
    refine lc_tup (K := K) (a := p) (xs := [x0, x1, x2, x3].map V.int) (fun j H' => Stop (∃ ps : List Addr, H' D = some (.lst (ps.map V.ref)) ∧ ppair H' A.a_Ratio ps (([x0, x1, x2, x3].take j).map (cRat a b c)) ∧ ps.length = j ∧ Same H2 H')) ⟨[], upd_same, True.intro, rfl, same_new hD⟩ (fun j H' _ ⟨⟨_, _, _, _, s⟩⟩ => SqT.of (s _ _ gp)) ?_ ?_
    · rintro j x H3 hx ⟨⟨ps, gD, gR, lp, sD⟩⟩
      obtain ⟨y, hy, rfl⟩ : ∃ y, [x0, x1, x2, x3][j]? = some y ∧ V.int y = x := by
        rw [List.getElem?_map, Option.map_eq_some_iff] at hx
        exact hx
      have et : [x0, x1, x2, x3].take (j + 1) = [x0, x1, x2, x3].take j ++ [y] := by rw [List.take_add_one, hy]; rfl
      have j4 : j < 4 := (List.getElem?_eq_some_iff.mp hy).1
      have hl : (ps.map V.ref).length < sizeLine := lt_line (by rw [List.length_map]; omega)
      walk_at "go"
      rename_i pr H4 s4 L4
      have gl := s4 _ _ gD
      refine ⟨⟨ps ++ [pr], ?_, ?_, by rw [List.length_append, lp]; rfl, same_mut (sD.trans s4) hD⟩⟩
      · rw [upd_same, List.map_append]
        rfl
      · rw [et, List.map_append]
        exact (ppair.snoc L4 (gR.stay (same_sol s4))).stay (sol_mutZ gl)
    · rintro H3 ⟨⟨ps, gD, gR, lp, sD⟩⟩
      have gR : ppair H3 A.a_Ratio ps ([x0, x1, x2, x3].map (cRat a b c)) := gR
      walk_at "go"
      rename_i l nl
      exact k _ ps _ (by walk_at "f") (by walk_at "f") upd_same (gR.stay (same_sol (same_new nl)))
end
end Tk


set_option maxHeartbeats 2000000
namespace Tk
open PySem PySem.Spec PyProof.Rows L2 Tc
section
variable {P : Program} {w : World} {K : PySem.W.Frag} {mg : Str → Option Value} {base : Heap} {A : Ad}
open Tm
local macro_rules | `(tactic| walk_at "arr") => `(tactic| first
  | with_reducible assumption
  | ((with_reducible apply same_new); with_reducible assumption))
local macro_rules | `(tactic| walk_at "f") => `(tactic| first
  | with_reducible assumption
  | with_reducible exact upd_same
  | with_reducible exact Same.refl _
  | with_reducible exact Frm.refl
  | ((with_reducible apply sqL_K); (focus with_reducible assumption); rfl)
  | ((with_reducible apply sqT_K); (focus with_reducible assumption); rfl)
  | ((with_reducible apply SqT.of); walk_at "f")
  | ((with_reducible apply SqL.of); walk_at "f")
  | ((with_reducible apply back_raw); (focus walk_at "arr"); walk_at "f")
  | ((with_reducible apply frm_tup); (focus with_reducible assumption); (focus walk_at "f"); (focus walk_at "f"); (focus (intro _ z; cases z; done)))
  | ((with_reducible apply frm_raw); (focus with_reducible assumption); (focus walk_at "f"); walk_at "f")
  | ((with_reducible apply bowl_back); (focus walk_at "arr"); walk_at "f")
  | ((with_reducible apply bowl_ne); (focus with_reducible assumption); walk_at "f")
  | ((with_reducible apply Num.int); with_reducible assumption)
  | ((with_reducible apply same_snoc); (focus walk_at "arr"); walk_at "f")
  | ((with_reducible apply frm_back); (focus walk_at "arr"); walk_at "f")
  | ((with_reducible apply frm_backF); (focus with_reducible assumption); walk_at "f")
  | ((with_reducible apply back_sqT); (focus walk_at "arr"); walk_at "f")
  | ((with_reducible apply same_sqL); (focus walk_at "arr"); walk_at "f")
  | ((with_reducible apply free_same); (focus with_reducible assumption); walk_at "f")
  | ((with_reducible apply free_frm); (focus with_reducible assumption); (focus with_reducible assumption); walk_at "f")
  | ((with_reducible apply frm_sqL); (focus with_reducible assumption); (focus walk_at "f"); walk_at "f"))
local macro_rules | `(tactic| walk_at "bt") => `(tactic| first
  | with_reducible assumption
  | ((with_reducible apply bt_mul); (focus walk_at "bt"); walk_at "bt")
  | ((with_reducible apply bt_add); (focus walk_at "bt"); walk_at "bt")
  | ((with_reducible apply bt_sub); (focus walk_at "bt"); walk_at "bt")
  | ((with_reducible apply bt_neg); walk_at "bt")
  | ((with_reducible apply bt_div); walk_at "bt")
  | ((with_reducible apply bt_mod); (focus (first | assumption | omega)); walk_at "bt")
  | exact bt_lit (n := 64) (by decide)
  | exact bt_lit (n := 200) (by decide +kernel))
local macro_rules | `(tactic| walk_at "lin") => `(tactic| first
  | exact (by decide : 1 ≤ sizeLine) | exact (by decide : 2 ≤ sizeLine) | exact (by decide : 3 ≤ sizeLine) | exact (by decide : 4 ≤ sizeLine) | exact (by decide : 0 ≤ sizeLine) | exact (by decide : 5 ≤ sizeLine) | exact (by decide : 6 ≤ sizeLine))
local macro_rules | `(tactic| walk_at "dp") => `(tactic| first
  | exact Dp.int _
  | exact DpAll.nil
  | ((with_reducible apply Dp.lst); (focus walk_at "f"); walk_at "dp")
  | ((with_reducible apply Dp.tup); (focus walk_at "f"); walk_at "dp")
  | ((with_reducible apply DpAll.cons); (focus walk_at "dp"); walk_at "dp"))
local macro_rules | `(tactic| walk_at "sv") => `(tactic| first
  | with_reducible rfl
  | walk_at "f"
  | exact rfl
  | walk_at "dp"
  | exact shp_lst [_] | exact shp_lst [_, _] | exact shp_lst [_, _, _] | exact shp_lst [_, _, _, _] | exact shp_tup [_, _] | exact shp_tup [_, _, _]
  | ((apply tyV_lst); walk_at "f")
  | ((with_reducible apply bt_mulW); (focus walk_at "bt"); (focus walk_at "bt"); (focus (first | decide | omega)))
  | ((with_reducible apply bt_divW); (focus (first | decide | assumption | omega)); (focus walk_at "bt"); (focus (first | decide | omega)))
  | ((with_reducible apply bt_divP); (focus (first | decide | assumption | omega)); (focus walk_at "bt"); (focus (first | decide | omega)))
  | exact ⟨by decide, by decide +kernel⟩
  | exact Or.inl (by decide)
  | exact Or.inr (by decide)
  | exact Or.inl ⟨by omega, by omega⟩
  | exact Or.inr ⟨by omega, by omega⟩
  | ((with_reducible apply Or.inl); walk_at "sv")
  | ((with_reducible apply Or.inr); walk_at "sv")
  | ((with_reducible apply Exists.intro); walk_at "sv")
  | ((with_reducible apply And.intro); (focus walk_at "sv"); walk_at "sv")
  | walk_at "lin"
  | decide
  | omega
  | (simp only [List.length_cons, List.length_nil, List.length_map]; first | done | omega))
local macro_rules | `(tactic| walk_at "one") => `(tactic| first
  | ((fail_if_success refine' @Exists.intro (Nat → L2.St → Hp → Prop) _ ?_ ?_); (fail_if_success refine' @Exists.intro (Nat → Nat → L2.St → Hp → Prop) _ ?_ ?_); (fail_if_success refine' @Exists.intro (L2.St → Hp → Prop) _ ?_ ?_); (fail_if_success refine' @Exists.intro (Nat → Nat → Hp → Prop) _ ?_ ?_); (fail_if_success refine' @Exists.intro (Hp → Prop) _ ?_ ?_); apply Exists.intro)
  | (apply And.intro; (focus walk_at "sv"))
  | intro _
  | (apply ifT; (focus rfl))
  | (apply ifF; (focus rfl))
  | ((apply Or.inl); (apply Exists.intro); (apply And.intro); (focus exact rfl))
  | ((apply Or.inl); (apply And.intro); (focus walk_at "f"))
  | ((apply Or.inr); (apply Exists.intro); (apply And.intro); (focus exact rfl))
  | (apply ifTd; (focus (first | assumption | omega)))
  | (apply ifFd; (focus (first | assumption | omega))))
local macro_rules | `(tactic| walk_at "go") => `(tactic| repeat walk_at "one")
local macro_rules | `(tactic| walk_at "nm") => `(tactic| try simp only [List.set_cons_zero, List.set_cons_succ])
local macro_rules | `(tactic| walk_at "gon") => `(tactic| repeat (walk_at "one"; walk_at "nm"))


theorem frm_mutZ {a D : Addr} {H H' : Hp} {o : HO} (f : Frm a H H') (n : H D = none) : Frm a H (upd H' D o) := fun b x ne e => by
  rw [upd_ne (ne_of_none e n)]
  exact f b x ne e
theorem bowl_mutZ {a D : Addr} {H : Hp} {o : HO} (B : Bowl H a) (n : D ≠ a) : Bowl (upd H D o) a := by
  obtain ⟨g, s, k, h⟩ := B
  exact ⟨g, s, k, by rw [upd_ne (fun z => n z.symm)]; exact h⟩
theorem bowl_neZ {a D : Addr} {H : Hp} (B : Bowl H a) (n : H D = none) : D ≠ a := fun z => by
  obtain ⟨g, s, k, h⟩ := B
  rw [z, h] at n
  cases n
structure PwC (m : Int) (xs : List Int) : Prop where
  al : ∀ x ∈ xs, 1 ≤ x ∧ x ≤ m
  pw : xs.Pairwise fun x y => gc y x = 1
theorem PwC.snoc {m y : Int} {xs : List Int} (h : PwC m xs) (y1 : 1 ≤ y) (y2 : y ≤ m) (hy : ∀ x ∈ xs, gc y x = 1) : PwC m (xs ++ [y]) := by
  constructor
  · intro x hx
    rcases List.mem_append.mp hx with e | e
    · exact h.al x e
    · rw [List.mem_singleton.mp e]; exact ⟨y1, y2⟩
  · refine List.pairwise_append.mpr ⟨h.pw, List.pairwise_singleton _ _, fun x hx z hz => ?_⟩
    rw [List.mem_singleton.mp hz]
    exact hy x hx
theorem PwC.take {m : Int} {xs : List Int} (h : PwC m xs) (hm : 1 ≤ m) : ∃ a b c : Int, (xs ++ [1, 1, 1]).take 3 = [a, b, c] ∧ Cop a b c ∧ a ≤ m ∧ b ≤ m ∧ c ≤ m := by
  have g1 : ∀ x : Int, gc 1 x = 1 := fun x => by unfold gc; rw [Int.gcd_one_left]; rfl
  have g2 : ∀ x : Int, gc x 1 = 1 := fun x => by rw [gc_comm]; exact g1 x
  obtain ⟨al, pw⟩ := h
  rcases xs with _ | ⟨a, _ | ⟨b, _ | ⟨c, xs⟩⟩⟩
  · exact ⟨1, 1, 1, rfl, ⟨by decide, by decide, by decide, g1 1, g1 1, g1 1⟩, hm, hm, hm⟩
  · obtain ⟨a1, a2⟩ := al a (by simp)
    exact ⟨a, 1, 1, rfl, ⟨a1, by decide, by decide, g2 a, g1 1, g1 a⟩, a2, hm, hm⟩
  · obtain ⟨a1, a2⟩ := al a (by simp)
    obtain ⟨b1, b2⟩ := al b (by simp)
    have h1 : gc b a = 1 := by simpa using pw
    exact ⟨a, b, 1, rfl, ⟨a1, b1, by decide, by rw [gc_comm]; exact h1, g2 b, g1 a⟩, a2, b2, hm⟩
  · obtain ⟨a1, a2⟩ := al a (by simp)
    obtain ⟨b1, b2⟩ := al b (by simp)
    obtain ⟨c1, c2⟩ := al c (by simp)
    rw [List.pairwise_cons, List.pairwise_cons] at pw
    obtain ⟨p1, p2, p3⟩ := pw
    have h1 : gc b a = 1 := p1 b (by simp)
    have h2 : gc c a = 1 := p1 c (by simp)
    have h3 : gc c b = 1 := p2 c (by simp)
    exact ⟨a, b, c, rfl, ⟨a1, b1, c1, by rw [gc_comm]; exact h1, by rw [gc_comm]; exact h3, h2⟩, a2, b2, c2⟩
local macro_rules | `(tactic| walk_at "arr") => `(tactic| first
  | ((with_reducible apply made2); (focus with_reducible assumption); (focus with_reducible assumption); with_reducible assumption)
  | ((with_reducible apply same_up); (focus with_reducible assumption); with_reducible assumption))
local macro_rules | `(tactic| walk_at "f") => `(tactic| first
  | ((with_reducible apply Num.long); walk_at "f")
  | ((with_reducible apply ratu_back); (focus walk_at "arr"); walk_at "f")
  | ((with_reducible apply ratu_frm); (focus with_reducible assumption); (focus walk_at "f"); walk_at "f")
  | ((with_reducible apply rat_back); (focus walk_at "arr"); walk_at "f")
  | ((with_reducible apply rat_frm); (focus with_reducible assumption); (focus walk_at "f"); walk_at "f")
  | ((with_reducible apply ratb_u); (focus with_reducible assumption); with_reducible assumption)
  | ((with_reducible apply ratb_at); (focus with_reducible assumption); with_reducible assumption)
  | ((with_reducible apply ratb_back); (focus walk_at "arr"); walk_at "f")
  | ((with_reducible apply ratb_frm); (focus with_reducible assumption); (focus walk_at "f"); walk_at "f")
  | ((with_reducible apply Rn.rat); walk_at "f")
  | ((with_reducible apply Rn.int); with_reducible assumption)
  | ((with_reducible apply rat_raw); walk_at "f")
  | ((with_reducible apply ratb_raw); walk_at "f"))
local macro_rules | `(tactic| walk_at "f") => `(tactic| first
  | ((apply ty_rat); (focus assumption); walk_at "f")
  | ((apply ty_ratb); (focus assumption); walk_at "f")
  | exact nf_self
  | exact TyX.base (.int _)
  | ((with_reducible apply Pay.two); (focus with_reducible assumption); (focus with_reducible assumption); (focus (first | with_reducible assumption | decide)); (first | with_reducible assumption | rfl))
  | ((with_reducible apply nf_K); (focus with_reducible assumption); rfl)
  | exact bt_lit (by decide +kernel))
local macro_rules | `(tactic| walk_at "one") => `(tactic| ((apply Or.inl); (apply Exists.intro); (apply Exists.intro); (apply And.intro); (focus exact rfl)))
local macro_rules | `(tactic| walk_at "f") => `(tactic| first
  | ((with_reducible apply frT_K); (focus with_reducible assumption); rfl)
  | ((with_reducible apply frt); (focus with_reducible assumption))
  | ((with_reducible apply frt_back); (focus walk_at "arr"); walk_at "f")
  | ((with_reducible apply frt_frm); (focus with_reducible assumption); (focus walk_at "f"); walk_at "f"))
local macro_rules | `(tactic| walk_at "sv") => `(tactic| first
  | ((with_reducible refine lt_line ?_); simp only [List.length_append, List.length_cons, List.length_nil, List.length_map, List.length_replicate, List.length_range]; omega)
  | ((with_reducible refine Nat.le_of_lt (lt_line ?_)); simp only [List.length_append, List.length_cons, List.length_nil, List.length_map, List.length_replicate, List.length_range]; omega))
def sp__law_box_drawn : Sp := fun vs H Q _ => ∃ (c : Addr) (m : Int), vs = [.ref c, .int m] ∧ Bowl H c ∧ 0 < m ∧ m ≤ 10 ^ 12 ∧ ∀ p a b d H', H p = none → Frm c H H' → Bowl H' c → H' p = some (.tup [.int a, .int b, .int d]) → Cop a b d → a ≤ m → b ≤ m → d ≤ m → Q (.ref p) H'
theorem ok__law_box_drawn (T : Txt K mg A) : FnOk P w K mg base CX0 3 A.f__law_box_drawn A.d__law_box_drawn ["_law_purse", "_law_top"] sp__law_box_drawn := by
  refine T.F__law_box_drawn.ok sc__law_box_drawn (fun vs H Q E h => ?_) (fun cdv Ar outer s H vs Q E hr h => ?_)
  · obtain ⟨_, _, rfl, _⟩ := h
    rfl
  · obtain ⟨c, m, rfl, hB, m0, m1, k⟩ := h
    have hu := hu_of hr
    refine ⟨_, (pss_cons (ps_set (i := 2) sc__law_box_drawn.nd rfl (Or.inl rfl) (pe_lst pa_nil))
      (pss_cons (ps_for PassesOwn.never rfl (pi_range1 rfl T.b_range (pa_cons pe_int pa_nil)) (pg_name (i := 3) sc__law_box_drawn.nd rfl (Or.inl rfl))
        (pss_cons (ps_set (i := 4) sc__law_box_drawn.nd rfl (Or.inr rfl) (pe_op op_add pe_int (pe_call (ok__law_coin T) (hr.mono (by decide)) rfl T.m__law_coin T.F__law_coin.kp T.b__law_coin .nil pass0 (pa_cons (pv 0) (pa_cons (pv 1) pa_nil)))))
          (pss_one (ps_if (PW.pt (pw_and (pt_cmpR op_lt (pe_callB call_len_seq (by rfl) T.b_len (by decide +kernel) (pa_cons (pv 2) pa_nil)) pe_int (nomark _)) (pw_and1 (pt_cmpR (show OpR _ (compareOp .Eq) (rEqD K) from op_eqD hr.units) (pe_lc (own := [("_law_other", 5)]) (g := gName 5) rfl sc__law_box_drawn.nd (pi_list (pv 2)) (blkOk_by (own := [("_law_other", 5)]) (N := n__law_box_drawn) (sc := defScope s__law_box_drawn) (by decide +kernel)) (fun _ _ _ _ _ => pg_name (i := 5) sc__law_box_drawn.nd rfl (Or.inl rfl)) (fun _ _ _ _ _ => (pts_one (pt_cmpR op_ne (pe_call (ok__law_common T) (hr.mono (by decide)) rfl T.m__law_common T.F__law_common.kp T.b__law_common .nil pass0 (pa_cons (pv 4) (pa_cons (pv 5) pa_nil))) pe_int (nomark _)))) (fun _ _ _ _ _ => (pv 5))) (pe_lst pa_nil) (nomark _)))))
            (pss_one (ps_expr (pe_bm PySem.F.plainAttrs_list PySem.F.slot_list_append PySem.F.type_list_append mt_append (pv 2) (pa_cons (pv 4) pa_nil))))
            pss_nil))))
      (pss_one (ps_ret (pe_callTy call_tuple_of (by rfl) T.b_tuple (by decide +kernel) (pa_cons (pe_slice sl_list (pe_op op_cat (pv 2) (pe_lst (pa_cons pe_int (pa_cons pe_int (pa_cons pe_int pa_nil))))) po_none (po_some pe_int)) pa_nil)))))), ?_⟩
    have nf : m.natAbs < 2 ^ 4000 := Nat.lt_of_lt_of_le (show _ < 2 ^ 64 by omega) (Nat.pow_le_pow_right (by decide) (by decide))
    walk_at "go"
    rename_i l nl
    have lc : l ≠ c := bowl_neZ hB nl
    refine for_range (fun i σ H' => Stop (∃ (xs : List Int) (v3 v4 : Option V), σ = [some (.ref c), some (.int m), some (.ref l), v3, v4, none] ∧ Frm c H H' ∧ Bowl H' c ∧ H' l = some (.lst (xs.map V.int)) ∧ xs.length ≤ 3 ∧ PwC m xs)) ⟨[], _, _, rfl, same_frame (same_new nl), hB.stay (same_new nl), upd_same, by decide, ⟨fun x hx => (nomatch hx), .nil⟩⟩ ?_ ?_
    · rintro i σ H1 hi ⟨⟨xs, v3, v4, rfl, f1, B1, gl, hx, hp⟩⟩
      walk_at "go"
      rename_i r H2 r0 r1 f2 B2
      have gl2 : H2 l = some (.lst (xs.map V.int)) := f2 _ _ lc gl
      have f12 := f1.trans f2
      refine ite2 (fun h => ?_) (fun h => ?_)
      · have h3 : xs.length < 3 := by
          have h := of_decide_eq_true h
          rw [List.length_map] at h
          omega
        dsimp only
        walk_at "go"
        rename_i D hD
        have lD : l ≠ D := fun z => by rw [z, hD] at gl2; cases gl2
        refine lc_list (K := K) (a := l) (xs := xs.map V.int) (fun j H' => Stop (H' = upd H2 D (.lst (((xs.take j).filter fun x => decide (gc (1 + r) x ≠ 1)).map V.int)))) ⟨rfl⟩ (fun j H' _ ⟨e⟩ => by rw [e]; exact SqL.of (same_new hD _ _ gl2)) ?_ ?_
        · rintro j x H3 hx ⟨rfl⟩
          obtain ⟨y, hy, rfl⟩ : ∃ y, xs[j]? = some y ∧ V.int y = x := by
            rw [List.getElem?_map, Option.map_eq_some_iff] at hx
            exact hx
          have et : xs.take (j + 1) = xs.take j ++ [y] := by rw [List.take_add_one, hy]; rfl
          have hl : (((xs.take j).filter fun x => decide (gc (1 + r) x ≠ 1)).map V.int).length < sizeLine := by
            refine lt_line ?_
            have e1 := List.length_filter_le (fun x => decide (gc (1 + r) x ≠ 1)) (xs.take j)
            have e2 := List.length_take_le' j xs
            rw [List.length_map]
            omega
          have ym := hp.al y (List.mem_of_getElem? hy)
          have y2 : y.natAbs < 2 ^ 180 := Nat.lt_trans (show _ < 10 ^ 13 by omega) (by decide +kernel)
          walk_at "go"
          have ee : (!decide (V.int (gc (1 + r) y) = V.int 1)) = decide (gc (1 + r) y ≠ 1) := by by_cases h : gc (1 + r) y = 1 <;> simp [h]
          rw [ee]
          refine ite2 (fun h => ?_) (fun h => ?_)
          · walk_at "go"
            refine ⟨?_⟩
            rw [upd_upd, et, List.filter_append, List.map_append, List.filter_cons_of_pos (p := fun x => decide (gc (1 + r) x ≠ 1)) h]
            rfl
          · refine ⟨?_⟩
            rw [et, List.filter_append, List.filter_cons_of_neg (p := fun x => decide (gc (1 + r) x ≠ 1)) h]
            exact congrArg (fun l : List Int => upd H2 D (.lst (l.map V.int))) (List.append_nil _).symm
        · rintro H3 ⟨rfl⟩
          rw [List.length_map, List.take_length]
          walk_at "go"
          rename_i e ne
          have s1 := same_new (o := .lst ((xs.filter fun x => decide (gc (1 + r) x ≠ 1)).map V.int)) hD
          have s2 := same_new (o := .lst []) ne
          apply And.intro
          · exact Dp.lst (SqL.of (s2 _ _ upd_same)) (dpa_ints _)
          apply And.intro
          · exact Dp.lst (SqL.of upd_same) .nil
          refine ⟨shp_lst _, rfl, ?_⟩
          have eE : PyData.eqv (.list (dInts (xs.filter fun x => decide (gc (1 + r) x ≠ 1)))) (.list []) = decide ((xs.filter fun x => decide (gc (1 + r) x ≠ 1)) = []) := by
            cases (xs.filter fun x => decide (gc (1 + r) x ≠ 1)) <;> simp [dInts, PyData.eqv, PyData.eqvAll]
          rw [eE]
          have gl4 := s2 _ _ (s1 _ _ gl2)
          refine ⟨_, rfl, ?_⟩
          refine ite2 (fun h => ?_) (fun h => ?_)
          · have h := of_decide_eq_true h
            walk_at "go"
            refine ⟨⟨xs ++ [1 + r], _, _, rfl, frm_mutZ (f12.trans (same_frame (s1.trans s2))) nl, bowl_mutZ (B2.stay (s1.trans s2)) lc, by rw [upd_same, List.map_append]; rfl, by rw [List.length_append]; simp; omega, hp.snoc (by omega) (by omega) fun x hx => ?_⟩⟩
            have := List.filter_eq_nil_iff.mp h x hx
            simpa using this
          · exact ⟨⟨xs, _, _, rfl, f12.trans (same_frame (s1.trans s2)), B2.stay (s1.trans s2), gl4, hx, hp⟩⟩
      · exact ⟨⟨xs, _, _, rfl, f12, B2, gl2, hx, hp⟩⟩
    · rintro σ H1 ⟨⟨xs, v3, v4, rfl, f1, B1, gl, hx, hp⟩⟩
      walk_at "go"
      rename_i p1 n1 p2 n2 p3 n3 p4 n4
      obtain ⟨a, b, d, e, hc, h1, h2, h3⟩ := hp.take (show 1 ≤ m by omega)
      have ec : cutV (xs.map V.int ++ [V.int 1, V.int 1, V.int 1]) none (some 3) = [V.int a, V.int b, V.int d] := by
        have e0 : cutV (xs.map V.int ++ [V.int 1, V.int 1, V.int 1]) none (some 3) = (xs.map V.int ++ [V.int 1, V.int 1, V.int 1]).take 3 := by
          unfold cutV
          have e5 : HT.sIx (xs.map V.int ++ [V.int 1, V.int 1, V.int 1]).length (xs.map V.int ++ [V.int 1, V.int 1, V.int 1]).length (some 3) = 3 := by
            rw [show (some (3 : Int)) = some ((3 : Nat) : Int) from rfl, HT.sIx_nat, List.length_append]
            exact Nat.min_eq_left (by simp)
          rw [e5]
          rfl
        rw [e0, show xs.map V.int ++ [V.int 1, V.int 1, V.int 1] = (xs ++ [1, 1, 1]).map V.int by rw [List.map_append]; rfl, ← List.map_take, e]
        rfl
      have s1 := same_new (o := .lst [V.int 1, V.int 1, V.int 1]) n1
      have s2 := same_new (o := .lst (xs.map V.int ++ [V.int 1, V.int 1, V.int 1])) n2
      rw [ec] at n4 ⊢
      have s3 := same_new (o := .lst [V.int a, V.int b, V.int d]) n3
      have s4 := same_new (o := .tup [V.int a, V.int b, V.int d]) n4
      have ss := s1.trans (s2.trans (s3.trans s4))
      have B9 := B1.stay ss
      refine k _ a b d _ ?_ (f1.trans (same_frame ss)) B9 upd_same hc h1 h2 h3
      exact free_frm (free_same n4 (s1.trans (s2.trans s3))) B1 f1

/-! the points of a corner -/
theorem TpA.app {H : Hp} : ∀ {as bs : List Addr} {xs ys : List (List V)}, TpA H as xs → TpA H bs ys → TpA H (as ++ bs) (xs ++ ys)
  | _, _, _, _, .nil, g => g
  | _, _, _, _, .cons h t, g => .cons h (t.app g)
def vP (p : P3) : List V := [V.int p.1, V.int p.2.1, V.int p.2.2]
theorem flat_le {α : Type} (f : Nat → List α) {i : Nat} : ∀ {n : Nat}, i ≤ n → ((List.range i).flatMap f).length ≤ ((List.range n).flatMap f).length := by
  intro n h
  induction n with
  | zero => have : i = 0 := by omega
            rw [this]; exact Nat.le_refl _
  | succ n ih =>
    by_cases e : i = n + 1
    · rw [e]; exact Nat.le_refl _
    · rw [List.range_succ, List.flatMap_append, List.length_append]
      have := ih (by omega)
      omega
theorem flat_succ {α : Type} (f : Nat → List α) (i : Nat) : (List.range (i + 1)).flatMap f = (List.range i).flatMap f ++ f i := by
  rw [List.range_succ, List.flatMap_append]
  simp
theorem part_le {a b c t i j : Nat} (hi : i < a * t + 1) (hj : j ≤ b * t + 1) : (ptsT a b c t i ++ colm a b c t i j).length ≤ (pts a b c t).length := by
  have h1 : (ptsT a b c t (i + 1)).length ≤ (pts a b c t).length := flat_le _ (by omega)
  have h2 : ptsT a b c t (i + 1) = ptsT a b c t i ++ colm a b c t i (b * t + 1) := flat_succ _ _
  have h3 : (colm a b c t i j).length ≤ (colm a b c t i (b * t + 1)).length := flat_le _ hj
  rw [h2, List.length_append] at h1
  rw [List.length_append]
  omega
theorem tup_mutZ {H : Hp} {l b : Addr} {xs : List V} {ys : List V} {o : HO} (g : H l = some (.lst xs)) (e : H b = some (.tup ys)) : (upd H l o) b = some (.tup ys) := by
  rw [upd_ne (fun z => by rw [z, g] at e; cases e)]
  exact e
def sp__law_corner : Sp := fun vs H Q _ => ∃ (a b c t : Nat), vs = [.int a, .int b, .int c, .int t] ∧ 0 < a ∧ 0 < b ∧ 0 < c ∧ a ≤ 9 ∧ b ≤ 9 ∧ c ≤ 9 ∧ t ≤ 8 ∧ (pts a b c t).length ≤ 400 ∧
  ∀ l as H', H l = none → Same H H' → H' l = some (.lst (as.map V.ref)) → TpA H' as ((pts a b c t).map vP) → Q (.ref l) H'
theorem ok__law_corner (T : Txt K mg A) : FnOk P w K mg base CX0 1 A.f__law_corner A.d__law_corner ["_law_a", "_law_b", "_law_c", "_law_t"] sp__law_corner := by
  refine T.F__law_corner.ok sc__law_corner (fun vs H Q E h => ?_) (fun cdv Ar outer s H vs Q E hr h => ?_)
  · obtain ⟨_, _, _, _, rfl, _⟩ := h
    rfl
  · obtain ⟨a, b, c, t, rfl, a0, b0, c0, a8, b8', c8, t8, hl, k⟩ := h
    have hu := hu_of hr
    refine ⟨_, (pss_cons (ps_set (i := 4) sc__law_corner.nd rfl (Or.inl rfl) (pe_lst pa_nil))
      (pss_cons (ps_for PassesOwn.never rfl (pi_range1 rfl T.b_range (pa_cons (pe_op op_add (pe_op op_mulW (pv 0) (pv 3)) pe_int) pa_nil)) (pg_name (i := 5) sc__law_corner.nd rfl (Or.inr rfl))
        (pss_one (ps_for PassesOwn.never rfl (pi_range1 rfl T.b_range (pa_cons (pe_op op_add (pe_op op_mulW (pv 1) (pv 3)) pe_int) pa_nil)) (pg_name (i := 6) sc__law_corner.nd rfl (Or.inr rfl))
            (pss_cons (ps_set (i := 7) sc__law_corner.nd rfl (Or.inl rfl) (pe_op op_sub (pe_op op_sub (pe_op op_mulW (pe_op op_mulW (pv 0) (pv 1)) (pv 3)) (pe_op op_mulW (pv 1) (pv 5))) (pe_op op_mulW (pv 0) (pv 6))))
              (pss_one (ps_if (pt_cmpR op_ge (pv 7) pe_int (nomark _))
                (pss_one (ps_set (i := 4) sc__law_corner.nd rfl (Or.inl rfl) (pe_op op_cat (pv 4) (pe_lc (own := [("_law_z", 8)]) (g := gName 8) rfl sc__law_corner.nd (pi_range1 rfl T.b_range (pa_cons (pe_op op_add (pe_op op_fdivW (pe_op op_mulW (pv 7) (pv 2)) (pe_op op_mulW (pv 0) (pv 1))) pe_int) pa_nil)) (blkOk_by (own := [("_law_z", 8)]) (N := n__law_corner) (sc := defScope s__law_corner) (by decide +kernel)) (fun _ _ _ _ _ => pg_name (i := 8) sc__law_corner.nd rfl (Or.inl rfl)) (fun _ _ _ _ _ => pts_nil) (fun _ _ _ _ _ => (pe_tup (pa_cons (pv 5) (pa_cons (pv 6) (pa_cons (pv 8) pa_nil)))))))))
                pss_nil))))))
      (pss_one (ps_ret (pv 4))))), ?_⟩
    have ba : Bt 4 (a : Int) := b8 (by omega) (by omega)
    have bb : Bt 4 (b : Int) := b8 (by omega) (by omega)
    have bc : Bt 4 (c : Int) := b8 (by omega) (by omega)
    have bt : Bt 4 (t : Int) := b8 (by omega) (by omega)
    have at1 : a * t ≤ 9 * 8 := Nat.mul_le_mul a8 t8
    have bt1 : b * t ≤ 9 * 8 := Nat.mul_le_mul b8' t8
    have eat : (a : Int) * (t : Int) = ((a * t : Nat) : Int) := (Int.natCast_mul ..).symm
    have ebt : (b : Int) * (t : Int) = ((b * t : Nat) : Int) := (Int.natCast_mul ..).symm
    have st : L2.start n__law_corner [V.int (a : Int), V.int (b : Int), V.int (c : Int), V.int (t : Int)] = [some (.int a), some (.int b), some (.int c), some (.int t), none, none, none, none, none] := rfl
    rw [st]
    walk_at "go"
    rename_i l0 nl0
    refine for_range (fun i σ H' => Stop (∃ (l : Addr) (as : List Addr) (v5 v6 v7 : Option V), σ = [some (.int a), some (.int b), some (.int c), some (.int t), some (.ref l), v5, v6, v7, none] ∧ H l = none ∧ Same H H' ∧ H' l = some (.lst (as.map V.ref)) ∧ TpA H' as ((ptsT a b c t i).map vP))) ⟨l0, [], _, _, _, rfl, nl0, same_new nl0, upd_same, .nil⟩ ?_ ?_
    · rintro i σ H1 hi ⟨⟨l, as, v5, v6, v7, rfl, nl, s1, gl, hT⟩⟩
      have hi : i < ((a : Int) * (t : Int) + 1).toNat := hi
      have hi2 : i < a * t + 1 := by rw [eat] at hi; omega
      walk_at "go"
      refine for_range (fun j σ H' => Stop (∃ (l : Addr) (as : List Addr) (v6 v7 : Option V), σ = [some (.int a), some (.int b), some (.int c), some (.int t), some (.ref l), some (.int (0 + (i : Int))), v6, v7, none] ∧ H l = none ∧ Same H H' ∧ H' l = some (.lst (as.map V.ref)) ∧ TpA H' as ((ptsT a b c t i ++ colm a b c t i j).map vP))) ⟨l, as, _, _, rfl, nl, s1, gl, by rw [show colm a b c t i 0 = [] from rfl, List.append_nil]; exact hT⟩ ?_ ?_
      · rintro j σ H2 hj ⟨⟨l, as, v6, v7, rfl, nl, s2, gl, hT⟩⟩
        have hj : j < ((b : Int) * (t : Int) + 1).toNat := hj
        have hj2 : j < b * t + 1 := by rw [ebt] at hj; omega
        have pl1 := part_le (a := a) (b := b) (c := c) (t := t) hi2 (show j ≤ b * t + 1 by omega)
        have pl2 := part_le (a := a) (b := b) (c := c) (t := t) hi2 (show j + 1 ≤ b * t + 1 by omega)
        have ecs : colm a b c t i (j + 1) = colm a b c t i j ++ cell a b c t i j := flat_succ _ _
        have las : as.length = (ptsT a b c t i ++ colm a b c t i j).length := by rw [hT.len, List.length_map]
        rw [ecs, ← List.append_assoc, List.length_append] at pl2
        have bi : Bt 10 (0 + (i : Int)) := by show (0 + (i : Int)).natAbs < 2 ^ 10; omega
        have bj : Bt 10 (0 + (j : Int)) := by show (0 + (j : Int)).natAbs < 2 ^ 10; omega
        have eL : (a : Int) * (b : Int) * (t : Int) - (b : Int) * (0 + (i : Int)) - (a : Int) * (0 + (j : Int)) = ((a * b * t : Nat) : Int) - ((b * i : Nat) : Int) - ((a * j : Nat) : Int) := by
          rw [Int.zero_add, Int.zero_add]
          simp only [Int.natCast_mul]
        have ab0 : 0 < (a : Int) * (b : Int) := Int.mul_pos (by omega) (by omega)
        have bab : Bt 8 ((a : Int) * (b : Int)) := bt_mul ba bb
        have bL : Bt 40 ((a : Int) * (b : Int) * (t : Int) - (b : Int) * (0 + (i : Int)) - (a : Int) * (0 + (j : Int))) := (bt_subm (n := 21) (bt_subm (n := 20) (Bt.mono (bt_mul bab bt) (by decide)) (Bt.mono (bt_mul bb bi) (by decide))) (Bt.mono (bt_mul ba bj) (by decide))).mono (by decide)
        walk_at "go"
        refine ite2 (fun h => ?_) (fun h => ?_)
        · have h := of_decide_eq_true h
          have hc : b * i + a * j ≤ a * b * t := by
            rw [eL] at h
            omega
          have eLf : (a : Int) * (b : Int) * (t : Int) - (b : Int) * (0 + (i : Int)) - (a : Int) * (0 + (j : Int)) = ((a * b * t - b * i - a * j : Nat) : Int) := by
            rw [eL]
            omega
          have eQ : ((a : Int) * (b : Int) * (t : Int) - (b : Int) * (0 + (i : Int)) - (a : Int) * (0 + (j : Int))) * (c : Int) / ((a : Int) * (b : Int)) = (((a * b * t - b * i - a * j) * c / (a * b) : Nat) : Int) := by
            rw [eLf, Int.natCast_ediv, Int.natCast_mul, Int.natCast_mul]
          have ecell : cell a b c t i j = (List.range ((a * b * t - b * i - a * j) * c / (a * b) + 1)).map fun z => (i, j, z) := by
            unfold cell
            rw [if_pos hc]
          have lcell : (cell a b c t i j).length = (a * b * t - b * i - a * j) * c / (a * b) + 1 := by rw [ecell, List.length_map, List.length_range]
          have q0 : 0 ≤ ((a : Int) * (b : Int) * (t : Int) - (b : Int) * (0 + (i : Int)) - (a : Int) * (0 + (j : Int))) * (c : Int) / ((a : Int) * (b : Int)) := by rw [eQ]; exact Int.natCast_nonneg _
          have q1 : ((a : Int) * (b : Int) * (t : Int) - (b : Int) * (0 + (i : Int)) - (a : Int) * (0 + (j : Int))) * (c : Int) / ((a : Int) * (b : Int)) ≤ 400 := by rw [eQ]; omega
          walk_at "go"
          rename_i D hD
          refine lc_range (fun z H' => Stop (∃ bs : List Addr, H' D = some (.lst (bs.map V.ref)) ∧ TpA H' bs (((List.range z).map fun z : Nat => (i, j, z)).map vP) ∧ Same H2 H')) ⟨[], upd_same, .nil, same_new hD⟩ ?_ ?_
          · rintro z H3 hz ⟨⟨bs, gD, gT, sD⟩⟩
            have hz : z < (((a : Int) * (b : Int) * (t : Int) - (b : Int) * (0 + (i : Int)) - (a : Int) * (0 + (j : Int))) * (c : Int) / ((a : Int) * (b : Int)) + 1).toNat := hz
            have lb : bs.length = z := by rw [gT.len, List.length_map, List.length_map, List.length_range]
            have hlen : (bs.map V.ref).length < sizeLine := lt_line (by rw [List.length_map]; omega)
            walk_at "go"
            rename_i q nq
            have sq := same_new (o := .tup [.int (0 + (i : Int)), .int (0 + (j : Int)), .int (0 + (z : Int))]) nq
            have gl3 := sq _ _ gD
            refine ⟨⟨bs ++ [q], ?_, ?_, same_mut (sD.trans sq) hD⟩⟩
            · rw [upd_same, List.map_append]
              rfl
            · rw [List.range_succ, List.map_append, List.map_append]
              refine (gT.stay fun b xs e => tup_mutZ gl3 (sq _ _ e)).app (.cons (tup_mutZ gl3 ?_) .nil)
              rw [upd_same, Int.zero_add, Int.zero_add, Int.zero_add]
              rfl
          · rintro H3 ⟨⟨bs, gD, gT, sD⟩⟩
            have gT : TpA H3 bs (((List.range (((a : Int) * (b : Int) * (t : Int) - (b : Int) * (0 + (i : Int)) - (a : Int) * (0 + (j : Int))) * (c : Int) / ((a : Int) * (b : Int)) + 1).toNat).map fun z : Nat => (i, j, z)).map vP) := gT
            rw [eQ, show ((((a * b * t - b * i - a * j) * c / (a * b) : Nat) : Int) + 1).toNat = (a * b * t - b * i - a * j) * c / (a * b) + 1 by omega, ← ecell] at gT
            have lb : bs.length = (cell a b c t i j).length := by rw [gT.len, List.length_map]
            have gl3 := sD _ _ gl
            have hlen : (as.map V.ref).length + (bs.map V.ref).length ≤ sizeLine := by
              have : 100000 ≤ sizeLine := by decide
              rw [List.length_map, List.length_map]
              omega
            walk_at "go"
            rename_i l2 nl2
            have sl2 := same_new (o := .lst (as.map V.ref ++ bs.map V.ref)) nl2
            refine ⟨⟨l2, as ++ bs, _, _, rfl, free_same nl2 (s2.trans sD), s2.trans (sD.trans sl2), ?_, ?_⟩⟩
            · rw [upd_same, List.map_append]
            · rw [ecs, ← List.append_assoc, List.map_append]
              exact (hT.stay fun b xs e => sl2 _ _ (sD _ _ e)).app (gT.stay fun b xs e => sl2 _ _ e)
        · have h : ¬ 0 ≤ (a : Int) * (b : Int) * (t : Int) - (b : Int) * (0 + (i : Int)) - (a : Int) * (0 + (j : Int)) := fun z => h (decide_eq_true z)
          have hc : ¬ b * i + a * j ≤ a * b * t := by
            rw [eL] at h
            omega
          have ecell : cell a b c t i j = [] := by
            unfold cell
            rw [if_neg hc]
          exact ⟨⟨l, as, _, _, rfl, nl, s2, gl, by rw [ecs, ecell, List.append_nil]; exact hT⟩⟩
      · rintro σ H2 ⟨⟨l, as, v6, v7, rfl, nl, s2, gl, hT⟩⟩
        have hT : TpA H2 as ((ptsT a b c t i ++ colm a b c t i ((b : Int) * (t : Int) + 1).toNat).map vP) := hT
        rw [show ((b : Int) * (t : Int) + 1).toNat = b * t + 1 by rw [ebt]; omega, show ptsT a b c t i ++ colm a b c t i (b * t + 1) = ptsT a b c t (i + 1) from (flat_succ (fun x => colm a b c t x (b * t + 1)) i).symm] at hT
        exact ⟨⟨l, as, _, v6, v7, rfl, nl, s2, gl, hT⟩⟩
    · rintro σ H1 ⟨⟨l, as, v5, v6, v7, rfl, nl, s1, gl, hT⟩⟩
      have hT : TpA H1 as ((ptsT a b c t ((a : Int) * (t : Int) + 1).toNat).map vP) := hT
      rw [show ((a : Int) * (t : Int) + 1).toNat = a * t + 1 by rw [eat]; omega] at hT
      walk_at "go"
      exact k l as _ nl s1 gl hT
end
end Tk


set_option maxHeartbeats 2000000
namespace Tk
open PySem PySem.Spec PyProof.Rows L2 Tc
section
variable {P : Program} {w : World} {K : PySem.W.Frag} {mg : Str → Option Value} {base : Heap} {A : Ad}
open Tm
local macro_rules | `(tactic| walk_at "arr") => `(tactic| first
  | with_reducible assumption
  | ((with_reducible apply same_new); with_reducible assumption))
local macro_rules | `(tactic| walk_at "f") => `(tactic| first
  | with_reducible assumption
  | with_reducible exact upd_same
  | with_reducible exact Same.refl _
  | with_reducible exact Frm.refl
  | ((with_reducible apply sqL_K); (focus with_reducible assumption); rfl)
  | ((with_reducible apply sqT_K); (focus with_reducible assumption); rfl)
  | ((with_reducible apply SqT.of); walk_at "f")
  | ((with_reducible apply SqL.of); walk_at "f")
  | ((with_reducible apply back_raw); (focus walk_at "arr"); walk_at "f")
  | ((with_reducible apply frm_tup); (focus with_reducible assumption); (focus walk_at "f"); (focus walk_at "f"); (focus (intro _ z; cases z; done)))
  | ((with_reducible apply frm_raw); (focus with_reducible assumption); (focus walk_at "f"); walk_at "f")
  | ((with_reducible apply bowl_back); (focus walk_at "arr"); walk_at "f")
  | ((with_reducible apply bowl_ne); (focus with_reducible assumption); walk_at "f")
  | ((with_reducible apply Num.int); with_reducible assumption)
  | ((with_reducible apply same_snoc); (focus walk_at "arr"); walk_at "f")
  | ((with_reducible apply frm_back); (focus walk_at "arr"); walk_at "f")
  | ((with_reducible apply frm_backF); (focus with_reducible assumption); walk_at "f")
  | ((with_reducible apply back_sqT); (focus walk_at "arr"); walk_at "f")
  | ((with_reducible apply same_sqL); (focus walk_at "arr"); walk_at "f")
  | ((with_reducible apply free_same); (focus with_reducible assumption); walk_at "f")
  | ((with_reducible apply free_frm); (focus with_reducible assumption); (focus with_reducible assumption); walk_at "f")
  | ((with_reducible apply frm_sqL); (focus with_reducible assumption); (focus walk_at "f"); walk_at "f"))
local macro_rules | `(tactic| walk_at "bt") => `(tactic| first
  | with_reducible assumption
  | ((with_reducible apply bt_mul); (focus walk_at "bt"); walk_at "bt")
  | ((with_reducible apply bt_add); (focus walk_at "bt"); walk_at "bt")
  | ((with_reducible apply bt_sub); (focus walk_at "bt"); walk_at "bt")
  | ((with_reducible apply bt_neg); walk_at "bt")
  | ((with_reducible apply bt_div); walk_at "bt")
  | ((with_reducible apply bt_mod); (focus (first | assumption | omega)); walk_at "bt")
  | exact bt_lit (n := 64) (by decide)
  | exact bt_lit (n := 200) (by decide +kernel))
local macro_rules | `(tactic| walk_at "lin") => `(tactic| first
  | exact (by decide : 1 ≤ sizeLine) | exact (by decide : 2 ≤ sizeLine) | exact (by decide : 3 ≤ sizeLine) | exact (by decide : 4 ≤ sizeLine) | exact (by decide : 0 ≤ sizeLine) | exact (by decide : 5 ≤ sizeLine) | exact (by decide : 6 ≤ sizeLine))
local macro_rules | `(tactic| walk_at "dp") => `(tactic| first
  | exact Dp.int _
  | exact DpAll.nil
  | ((with_reducible apply Dp.lst); (focus walk_at "f"); walk_at "dp")
  | ((with_reducible apply Dp.tup); (focus walk_at "f"); walk_at "dp")
  | ((with_reducible apply DpAll.cons); (focus walk_at "dp"); walk_at "dp"))
local macro_rules | `(tactic| walk_at "sv") => `(tactic| first
  | with_reducible rfl
  | walk_at "f"
  | exact rfl
  | walk_at "dp"
  | exact shp_lst [_] | exact shp_lst [_, _] | exact shp_lst [_, _, _] | exact shp_lst [_, _, _, _] | exact shp_tup [_, _] | exact shp_tup [_, _, _]
  | ((apply tyV_lst); walk_at "f")
  | ((with_reducible apply bt_mulW); (focus walk_at "bt"); (focus walk_at "bt"); (focus (first | decide | omega)))
  | ((with_reducible apply bt_divW); (focus (first | decide | assumption | omega)); (focus walk_at "bt"); (focus (first | decide | omega)))
  | ((with_reducible apply bt_divP); (focus (first | decide | assumption | omega)); (focus walk_at "bt"); (focus (first | decide | omega)))
  | exact ⟨by decide, by decide +kernel⟩
  | exact Or.inl (by decide)
  | exact Or.inr (by decide)
  | exact Or.inl ⟨by omega, by omega⟩
  | exact Or.inr ⟨by omega, by omega⟩
  | ((with_reducible apply Or.inl); walk_at "sv")
  | ((with_reducible apply Or.inr); walk_at "sv")
  | ((with_reducible apply Exists.intro); walk_at "sv")
  | ((with_reducible apply And.intro); (focus walk_at "sv"); walk_at "sv")
  | walk_at "lin"
  | decide
  | omega
  | (simp only [List.length_cons, List.length_nil, List.length_map]; first | done | omega))
local macro_rules | `(tactic| walk_at "one") => `(tactic| first
  | ((fail_if_success refine' @Exists.intro (Nat → L2.St → Hp → Prop) _ ?_ ?_); (fail_if_success refine' @Exists.intro (Nat → Nat → L2.St → Hp → Prop) _ ?_ ?_); (fail_if_success refine' @Exists.intro (L2.St → Hp → Prop) _ ?_ ?_); (fail_if_success refine' @Exists.intro (Nat → Nat → Hp → Prop) _ ?_ ?_); (fail_if_success refine' @Exists.intro (Hp → Prop) _ ?_ ?_); apply Exists.intro)
  | (apply And.intro; (focus walk_at "sv"))
  | intro _
  | (apply ifT; (focus rfl))
  | (apply ifF; (focus rfl))
  | ((apply Or.inl); (apply Exists.intro); (apply And.intro); (focus exact rfl))
  | ((apply Or.inl); (apply And.intro); (focus walk_at "f"))
  | ((apply Or.inr); (apply Exists.intro); (apply And.intro); (focus exact rfl))
  | (apply ifTd; (focus (first | assumption | omega)))
  | (apply ifFd; (focus (first | assumption | omega))))
local macro_rules | `(tactic| walk_at "go") => `(tactic| repeat walk_at "one")
local macro_rules | `(tactic| walk_at "nm") => `(tactic| try simp only [List.set_cons_zero, List.set_cons_succ])
local macro_rules | `(tactic| walk_at "gon") => `(tactic| repeat (walk_at "one"; walk_at "nm"))

theorem num_leZ {x y : Int} (z : 0 < y) : (Rat.divInt x y).num.natAbs ≤ x.natAbs := by
  rw [← gcd_div_num (x := x) z]
  exact Int.natAbs_ediv_le_natAbs ..
theorem den_leZ {x y : Int} (z : 0 < y) : ((Rat.divInt x y).den : Int).natAbs ≤ y.natAbs := by
  rw [← gcd_div_den (x := x) z]
  exact Int.natAbs_ediv_le_natAbs ..
theorem step_ratZ {n x t B : Int} (hB : B ≠ 0) : Rat.divInt n B * (t : Rat) + Rat.divInt x B = Rat.divInt (n * t + x) B := by
  simp only [Rat.divInt_eq_div, Rat.intCast_add, Rat.intCast_mul, Rat.div_def]
  grind
theorem sum_ratZ {n x B : Int} (hB : 0 < B) : Rat.divInt n B + Rat.divInt x B = Rat.divInt (n + x) B := by
  simp only [Rat.divInt_eq_div, Rat.intCast_add, Rat.div_def]
  grind
theorem times_ratZ {n t B : Int} : Rat.divInt n B * (t : Rat) = Rat.divInt (n * t) B := by
  simp only [Rat.divInt_eq_div, Rat.intCast_mul, Rat.div_def]
  grind
theorem gc_natZ {a b : Nat} (h : gc (a : Int) (b : Int) = 1) : Nat.gcd a b = 1 := by
  have h : ((Int.gcd (a : Int) (b : Int) : Nat) : Int) = 1 := h
  exact Int.ofNat.inj h
theorem pts_bd {a b c t : Nat} {p : P3} (a7 : a ≤ 9) (b7 : b ≤ 9) (t4 : t ≤ 4) (hl : (pts a b c t).length ≤ 400) (h : p ∈ pts a b c t) : p.1 < 1000 ∧ p.2.1 < 1000 ∧ p.2.2 < 1000 := by
  have at1 : a * t ≤ 9 * 4 := Nat.mul_le_mul a7 t4
  have bt1 : b * t ≤ 9 * 4 := Nat.mul_le_mul b7 t4
  unfold pts ptsT at h
  obtain ⟨x, hx, h⟩ := List.mem_flatMap.mp h
  unfold colm at h
  obtain ⟨y, hy, h⟩ := List.mem_flatMap.mp h
  have hx := List.mem_range.mp hx
  have hy := List.mem_range.mp hy
  have l1 := part_le (a := a) (b := b) (c := c) (t := t) hx (show y + 1 ≤ b * t + 1 by omega)
  have l2 : colm a b c t x (y + 1) = colm a b c t x y ++ cell a b c t x y := flat_succ _ _
  rw [l2, List.length_append, List.length_append] at l1
  unfold cell at h l1
  split at h
  · rename_i hc
    rw [if_pos hc, List.length_map, List.length_range] at l1
    obtain ⟨z, hz, rfl⟩ := List.mem_map.mp h
    have hz := List.mem_range.mp hz
    exact ⟨by show x < 1000; omega, by show y < 1000; omega, by show z < 1000; omega⟩
  · cases h
/- the points of a list with where they are -/
theorem zip_of {H : Hp} : ∀ {as : List Addr} {ps : List P3}, TpA H as (ps.map vP) → ∃ zs : List (Addr × P3), as = zs.map Prod.fst ∧ ps = zs.map Prod.snd ∧ ∀ z ∈ zs, H z.1 = some (.tup (vP z.2))
  | [], [], _ => ⟨[], rfl, rfl, fun z hz => nomatch hz⟩
  | [], p :: ps, h => nomatch h
  | a :: as, [], h => nomatch h
  | a :: as, p :: ps, .cons h t => by
    obtain ⟨zs, h1, h2, h3⟩ := zip_of t
    refine ⟨(a, p) :: zs, by rw [h1]; rfl, by rw [h2]; rfl, fun z hz => ?_⟩
    rcases List.mem_cons.mp hz with e | e
    · rw [e]; exact h
    · exact h3 z e
def rfs (zs : List (Addr × P3)) : List V := zs.map fun z => V.ref z.1
theorem flt_snd (p : P3 → Bool) (zs : List (Addr × P3)) : (zs.filter fun z => p z.2).length = ((zs.map Prod.snd).filter p).length := by
  rw [List.filter_map, List.length_map]
  rfl
theorem inn2_eq {a b c t : Nat} {p : P3} : inn2 a b c t p = (!inV (V.int 0) [V.int (p.1 : Int), V.int (p.2.1 : Int), V.int (p.2.2 : Int)] && decide ((p.1 : Int) * (b : Int) * (c : Int) + (p.2.1 : Int) * (a : Int) * (c : Int) + (p.2.2 : Int) * (a : Int) * (b : Int) < (a : Int) * (b : Int) * (c : Int) * (t : Int))) := by
  unfold inn2 inV
  have e : ∀ n : Nat, eqV (V.int (n : Int)) (V.int 0) = decide (n = 0) := fun n => by
    unfold eqV
    by_cases h : n = 0
    · rw [h]; rfl
    · rw [decide_eq_false h]
      simp
      omega
  rw [List.any_cons, List.any_cons, List.any_cons, List.any_nil, e, e, e, Bool.or_false, Bool.or_assoc]
  congr 1
  refine decide_eq_decide.mpr ?_
  unfold hgt
  rw [← Int.ofNat_lt]
  simp only [Int.natCast_add, Int.natCast_mul]
theorem box_facts {a b c : Nat} (hc : Cop (a : Int) (b : Int) (c : Int)) (a9 : a ≤ 9) (b9 : b ≤ 9) (c9 : c ≤ 9) :
    (∀ t : Int, (12 * (a : Int) * (b : Int) * (c : Int)) ∣ cNum a b c t) ∧
    ∀ t : Nat, t < 5 → a * b * c * t * t * t ≤ 700 → cVal a b c t = (((pts a b c t).length : Nat) : Int) ∧ (t ≠ 0 → cVal a b c (-(t : Int)) = -((((pts a b c t).filter (inn2 a b c t)).length : Nat) : Int)) ∧ (pts a b c t).length ≤ 400 := by
  have a1 := hc.a1
  have b1 := hc.b1
  have c1 := hc.c1
  have h := kOk_all a (by omega) b (by omega) c (by omega)
  have z1 : (a == 0) = false := by simp; omega
  have z2 : (b == 0) = false := by simp; omega
  have z3 : (c == 0) = false := by simp; omega
  have hin : cop3 a b c = true := by
    unfold cop3
    rw [gc_natZ hc.ab, gc_natZ hc.bc, gc_natZ hc.ca]
    rfl
  rw [z1, z2, z3, hin] at h
  have h : kOk a b c = true := by simpa using h
  unfold kOk at h
  rw [Bool.and_eq_true] at h
  obtain ⟨h1, h2⟩ := h
  constructor
  · intro t
    have g : ∀ k : Nat, k < 4 → (12 * (a : Int) * (b : Int) * (c : Int)) ∣ cNum a b c k := fun k hk => by
      have := List.all_eq_true.mp h1 k (List.mem_range.mpr hk)
      exact Int.dvd_of_emod_eq_zero (of_decide_eq_true this)
    have g0 := g 0 (by decide)
    have g1 := g 1 (by decide)
    have g2 := g 2 (by decide)
    have g3 := g 3 (by decide)
    have e0 : cNum a b c ((0 : Nat) : Int) = (cTops a b c).1 := by unfold cNum; simp
    rw [e0] at g0
    exact cub_all g0 g1 g2 g3 t
  · intro t ht hl
    have h3 := List.all_eq_true.mp h2 t (List.mem_range.mpr ht)
    rw [decide_eq_false (by omega), Bool.false_or] at h3
    simp only [Bool.and_eq_true, Bool.or_eq_true, decide_eq_true_eq, beq_iff_eq] at h3
    obtain ⟨⟨q1, q2⟩, q3⟩ := h3
    exact ⟨q1, fun n0 => q2.resolve_left n0, q3⟩
theorem val_pair {B N k : Int} (hB : 0 < B) (h : N = B * k) : (Rat.divInt N B).num = N / B ∧ ((Rat.divInt N B).den : Int) = 1 := by
  have b0 : (B : Rat) ≠ 0 := fun z => (show B ≠ 0 by omega) (Rat.intCast_inj.mp z)
  have e : Rat.divInt N B = ((k : Int) : Rat) := by
    rw [h, Rat.divInt_eq_div, Rat.intCast_mul, Rat.mul_comm, Rat.div_def, Rat.mul_assoc, Rat.mul_inv_cancel _ b0, Rat.mul_one]
  rw [e, h, Int.mul_ediv_cancel_left _ (by omega)]
  exact ⟨rfl, rfl⟩
theorem tops_bd {a b c : Int} (a1 : 1 ≤ a) (b1 : 1 ≤ b) (c1 : 1 ≤ c) (a8 : a ≤ 9) (b8' : b ≤ 9) (c8 : c ≤ 9) : Bt 60 (cTops a b c).1 ∧ Bt 60 (cTops a b c).2.1 ∧ Bt 60 (cTops a b c).2.2.1 ∧ Bt 60 (cTops a b c).2.2.2 := by
  have ba : Bt 4 a := b8 (by omega) (by omega)
  have bb : Bt 4 b := b8 (by omega) (by omega)
  have bc : Bt 4 c := b8 (by omega) (by omega)
  have bab : Bt 8 (a * b) := bt_mul ba bb
  have bbc : Bt 8 (b * c) := bt_mul bb bc
  have bca : Bt 8 (c * a) := bt_mul bc ba
  have t1 : Bt 6 (TT (b * c) a) := tt8 (by omega) a8
  have t2 : Bt 6 (TT (c * a) b) := tt8 (by omega) b8'
  have t3 : Bt 6 (TT (a * b) c) := tt8 (by omega) c8
  have a9 : Bt 900 a := ba.mono (by decide)
  have b9 : Bt 900 b := bb.mono (by decide)
  have c9 : Bt 900 c := bc.mono (by decide)
  have p0 : 0 < a := by omega
  have p1 : 0 < b := by omega
  have p2 : 0 < c := by omega
  have l2 : Bt 2 3 := bt_lit (by decide)
  have l4 : Bt 4 12 := bt_lit (by decide)
  have l1 : Bt 2 2 := bt_lit (by decide)
  have l0 : Bt 2 1 := bt_lit (by decide)
  have m3 : Bt 14 (3 * a * (b * c)) := bt_mul (bt_mul l2 ba) bbc
  have x0 : Bt 60 (12 * a * (b * c)) := Bt.mono (bt_mul (bt_mul l4 ba) bbc) (by decide)
  have s1 : Bt 20 (a + b + c + 3) := (bt_addm (n := 19) ((bt_addm (n := 18) ((bt_addm (n := 17) (ba.mono (by decide)) (bb.mono (by decide)))) (bc.mono (by decide)))) (l2.mono (by decide)))
  have s2 : Bt 20 (a * b + b * c + c * a + 1) := (bt_addm (n := 19) ((bt_addm (n := 18) ((bt_addm (n := 17) (bab.mono (by decide)) (bbc.mono (by decide)))) (bca.mono (by decide)))) (l0.mono (by decide)))
  have x2 : Bt 60 (3 * a * (b * c) * (a * b + b * c + c * a + 1)) := (bt_mul m3 s2).mono (by decide)
  have x3 : Bt 60 (2 * a * (b * c) * a * (b * c)) := Bt.mono (bt_mul (bt_mul (bt_mul (bt_mul l1 ba) bbc) ba) bbc) (by decide)
  have sm : Bt 20 (b * c * TT (b * c) a + c * a * TT (c * a) b + a * b * TT (a * b) c) := bt_addm (n := 19) (bt_addm (n := 18) (Bt.mono (bt_mul bbc t1) (by decide)) (Bt.mono (bt_mul bca t2) (by decide))) (Bt.mono (bt_mul bab t3) (by decide))
  have q1 : Bt 50 (3 * a * (b * c) * (a + b + c + 3)) := (bt_mul m3 s1).mono (by decide)
  have q2 : Bt 50 (b * c * (b * c)) := (bt_mul bbc bbc).mono (by decide)
  have q3 : Bt 51 (c * a * (c * a)) := (bt_mul bca bca).mono (by decide)
  have q4 : Bt 52 (a * b * (a * b)) := (bt_mul bab bab).mono (by decide)
  have x1 : Bt 60 (3 * a * (b * c) * (a + b + c + 3) + b * c * (b * c) + c * a * (c * a) + a * b * (a * b) + 1 - (b * c * TT (b * c) a + c * a * TT (c * a) b + a * b * TT (a * b) c)) := (bt_subm (n := 54) (bt_addm (n := 53) (bt_addm (n := 52) (bt_addm (n := 51) (bt_addm (n := 50) q1 q2) q3) q4) (l0.mono (by decide))) (sm.mono (by decide))).mono (by decide)
  exact ⟨x0, x1, x2, x3⟩
local macro_rules | `(tactic| walk_at "arr") => `(tactic| first
  | ((with_reducible apply made2); (focus with_reducible assumption); (focus with_reducible assumption); with_reducible assumption)
  | ((with_reducible apply same_up); (focus with_reducible assumption); with_reducible assumption))
local macro_rules | `(tactic| walk_at "f") => `(tactic| first
  | ((with_reducible apply Num.long); walk_at "f")
  | ((with_reducible apply ratu_back); (focus walk_at "arr"); walk_at "f")
  | ((with_reducible apply ratu_frm); (focus with_reducible assumption); (focus walk_at "f"); walk_at "f")
  | ((with_reducible apply rat_back); (focus walk_at "arr"); walk_at "f")
  | ((with_reducible apply rat_frm); (focus with_reducible assumption); (focus walk_at "f"); walk_at "f")
  | ((with_reducible apply ratb_u); (focus with_reducible assumption); with_reducible assumption)
  | ((with_reducible apply ratb_at); (focus with_reducible assumption); with_reducible assumption)
  | ((with_reducible apply ratb_back); (focus walk_at "arr"); walk_at "f")
  | ((with_reducible apply ratb_frm); (focus with_reducible assumption); (focus walk_at "f"); walk_at "f")
  | ((with_reducible apply Rn.rat); walk_at "f")
  | ((with_reducible apply Rn.int); with_reducible assumption)
  | ((with_reducible apply rat_raw); walk_at "f")
  | ((with_reducible apply ratb_raw); walk_at "f"))
local macro_rules | `(tactic| walk_at "f") => `(tactic| first
  | ((apply ty_rat); (focus assumption); walk_at "f")
  | ((apply ty_ratb); (focus assumption); walk_at "f")
  | exact nf_self
  | exact TyX.base (.int _)
  | ((with_reducible apply Pay.two); (focus with_reducible assumption); (focus with_reducible assumption); (focus (first | with_reducible assumption | decide)); (first | with_reducible assumption | rfl))
  | ((with_reducible apply nf_K); (focus with_reducible assumption); rfl)
  | exact bt_lit (by decide +kernel))
local macro_rules | `(tactic| walk_at "one") => `(tactic| ((apply Or.inl); (apply Exists.intro); (apply Exists.intro); (apply And.intro); (focus exact rfl)))
local macro_rules | `(tactic| walk_at "f") => `(tactic| first
  | ((with_reducible apply frT_K); (focus with_reducible assumption); rfl)
  | ((with_reducible apply frt); (focus with_reducible assumption))
  | ((with_reducible apply frt_back); (focus walk_at "arr"); walk_at "f")
  | ((with_reducible apply frt_frm); (focus with_reducible assumption); (focus walk_at "f"); walk_at "f"))
local macro_rules | `(tactic| walk_at "sv") => `(tactic| first
  | ((with_reducible refine lt_line ?_); simp only [List.length_append, List.length_cons, List.length_nil, List.length_map, List.length_replicate, List.length_range]; omega)
  | ((with_reducible refine Nat.le_of_lt (lt_line ?_)); simp only [List.length_append, List.length_cons, List.length_nil, List.length_map, List.length_replicate, List.length_range]; omega))
def sp__law_low : Sp := fun vs H Q _ => ∃ (x y : Int), vs = [.int x, .int y] ∧ 0 < y ∧ Bt 400 x ∧ Bt 170 y ∧ ∀ t H', H t = none → Same H H' → H' t = some (.tup [.int (Rat.divInt x y).num, .int ((Rat.divInt x y).den : Int)]) → Q (.ref t) H'
theorem ok__law_low (T : Txt K mg A) : FnOk P w K mg base CX0 2 A.f__law_low A.d__law_low ["_law_top", "_law_bottom"] sp__law_low := by
  refine T.F__law_low.ok sc__law_low (fun vs H Q E h => ?_) (fun cdv Ar outer s H vs Q E hr h => ?_)
  · obtain ⟨_, _, rfl, _⟩ := h
    rfl
  · obtain ⟨x, y, rfl, y0, bx, by', k⟩ := h
    have hu := hu_of hr
    refine ⟨_, (pss_cons (ps_if (pt_cmpR op_lt (pv 1) pe_int (nomark _))
        (pss_one (ps_par (i := 0) (j := 1) (by rfl) sc__law_low.nd rfl rfl (by decide) rfl rfl (pa_cons (pe_un un_neg (pv 0)) (pa_cons (pe_un un_neg (pv 1)) pa_nil)) (by rfl)))
        pss_nil)
      (pss_cons (ps_set (i := 2) sc__law_low.nd rfl (Or.inl rfl) (pe_callB (call_max2 rfl) (by rfl) T.b_max (by decide +kernel) (pa_cons pe_int (pa_cons (pe_call (ok__law_common T) (hr.mono (by decide)) rfl T.m__law_common T.F__law_common.kp T.b__law_common .nil pass0 (pa_cons (pv 0) (pa_cons (pv 1) pa_nil))) pa_nil))))
      (pss_one (ps_ret (pe_tup (pa_cons (pe_op op_fdivW (pv 0) (pv 2)) (pa_cons (pe_op op_fdivW (pv 1) (pv 2)) pa_nil))))))), ?_⟩
    have y1 : ¬ y < 0 := by omega
    have y2 : y.natAbs < 2 ^ 180 := by'.mono (by decide)
    have g0 := gc_pos (a := x) y0
    have bg : Bt 170 (gc x y) := bt_le (by omega) (Int.le_of_dvd y0 (gc_r ..)) by'
    have fn : x / gc x y = (Rat.divInt x y).num := by
      have := frac_num (x := x) (y := y) (by omega)
      rw [if_pos y0, Int.one_mul] at this
      exact this
    have fd : y / gc x y = ((Rat.divInt x y).den : Int) := by
      have := frac_den (x := x) (y := y) (by omega)
      rw [if_pos y0, Int.one_mul] at this
      exact this
    have em : (if gc x y > 1 then gc x y else 1) = gc x y := by split <;> omega
    rw [← fn, ← fd] at k
    walk_at "go"
    simp only [em]
    walk_at "go"
    exact k _ _ (by walk_at "f") (by walk_at "f") upd_same
def sp__law_plus (K : PySem.W.Frag) : Sp := fun vs H Q _ => ∃ (a b : Addr) (q r : Rat), vs = [.ref a, .ref b] ∧ FrT K H a q ∧ FrT K H b r ∧ Bt 374 q.num ∧ Bt 20 (q.den : Int) ∧ Bt 100 r.num ∧ Bt 20 (r.den : Int) ∧ ∀ t H', H t = none → Same H H' → H' t = some (.tup [.int (q + r).num, .int ((q + r).den : Int)]) → Q (.ref t) H'
theorem ok__law_plus (T : Txt K mg A) : FnOk P w K mg base CX0 3 A.f__law_plus A.d__law_plus ["_law_one", "_law_other"] (sp__law_plus K) := by
  refine T.F__law_plus.ok sc__law_plus (fun vs H Q E h => ?_) (fun cdv Ar outer s H vs Q E hr h => ?_)
  · obtain ⟨a, b, q, r, rfl, _⟩ := h
    rfl
  · obtain ⟨a, b, q, r, rfl, ha, hb, n1, d1, n2, d2, k⟩ := h
    have hu := hu_of hr
    refine ⟨_, (pss_one (ps_ret (pe_call (ok__law_low T) (hr.mono (by decide)) rfl T.m__law_low T.F__law_low.kp T.b__law_low .nil pass0 (pa_cons (pe_op op_add (pe_op op_mulW (pe_ix ix_tup (pv 0) pe_int (fun _ _ => rfl)) (pe_ix ix_tup (pv 1) pe_int (fun _ _ => rfl))) (pe_op op_mulW (pe_ix ix_tup (pv 1) pe_int (fun _ _ => rfl)) (pe_ix ix_tup (pv 0) pe_int (fun _ _ => rfl)))) (pa_cons (pe_op op_mulW (pe_ix ix_tup (pv 0) pe_int (fun _ _ => rfl)) (pe_ix ix_tup (pv 1) pe_int (fun _ _ => rfl))) pa_nil))))), ?_⟩
    have ha : SqT K H a [.int q.num, .int (q.den : Int)] := ha
    have hb : SqT K H b [.int r.num, .int (r.den : Int)] := hb
    have m1 : Bt 400 (q.num * (r.den : Int) + r.num * (q.den : Int)) := Bt.mono (bt_addm (n := 396) (Bt.mono (bt_mul n1 d2) (by decide)) (Bt.mono (bt_mul n2 d1) (by decide))) (by decide)
    have m2 : Bt 170 ((q.den : Int) * (r.den : Int)) := Bt.mono (bt_mul d1 d2) (by decide)
    have q0 : 0 < (q.den : Int) := by have := q.den_nz; omega
    have r0 : 0 < (r.den : Int) := by have := r.den_nz; omega
    have m3 : 0 < (q.den : Int) * (r.den : Int) := Int.mul_pos q0 r0
    rw [← rat_add] at k
    walk_at "go"
    exact k _ _ (by walk_at "f") (by walk_at "f") (by walk_at "f")
def sp__law_times (K : PySem.W.Frag) : Sp := fun vs H Q _ => ∃ (a b : Addr) (q r : Rat), vs = [.ref a, .ref b] ∧ FrT K H a q ∧ FrT K H b r ∧ Bt 270 q.num ∧ Bt 20 (q.den : Int) ∧ Bt 110 r.num ∧ Bt 20 (r.den : Int) ∧ ∀ t H', H t = none → Same H H' → H' t = some (.tup [.int (q * r).num, .int ((q * r).den : Int)]) → Q (.ref t) H'
theorem ok__law_times (T : Txt K mg A) : FnOk P w K mg base CX0 3 A.f__law_times A.d__law_times ["_law_one", "_law_other"] (sp__law_times K) := by
  refine T.F__law_times.ok sc__law_times (fun vs H Q E h => ?_) (fun cdv Ar outer s H vs Q E hr h => ?_)
  · obtain ⟨a, b, q, r, rfl, _⟩ := h
    rfl
  · obtain ⟨a, b, q, r, rfl, ha, hb, n1, d1, n2, d2, k⟩ := h
    have hu := hu_of hr
    refine ⟨_, (pss_one (ps_ret (pe_call (ok__law_low T) (hr.mono (by decide)) rfl T.m__law_low T.F__law_low.kp T.b__law_low .nil pass0 (pa_cons (pe_op op_mulW (pe_ix ix_tup (pv 0) pe_int (fun _ _ => rfl)) (pe_ix ix_tup (pv 1) pe_int (fun _ _ => rfl))) (pa_cons (pe_op op_mulW (pe_ix ix_tup (pv 0) pe_int (fun _ _ => rfl)) (pe_ix ix_tup (pv 1) pe_int (fun _ _ => rfl))) pa_nil))))), ?_⟩
    have ha : SqT K H a [.int q.num, .int (q.den : Int)] := ha
    have hb : SqT K H b [.int r.num, .int (r.den : Int)] := hb
    have m1 : Bt 400 (q.num * r.num) := Bt.mono (bt_mul n1 n2) (by decide)
    have m2 : Bt 170 ((q.den : Int) * (r.den : Int)) := Bt.mono (bt_mul d1 d2) (by decide)
    have q0 : 0 < (q.den : Int) := by have := q.den_nz; omega
    have r0 : 0 < (r.den : Int) := by have := r.den_nz; omega
    have m3 : 0 < (q.den : Int) * (r.den : Int) := Int.mul_pos q0 r0
    rw [← rat_mul2] at k
    walk_at "go"
    exact k _ _ (by walk_at "f") (by walk_at "f") (by walk_at "f")
def frV (q : Rat) : List V := [V.int q.num, V.int (q.den : Int)]
/- what the value comes to after some steps, times the bottom -/
def hN (x0 x1 x2 x3 t : Int) (i : Nat) : Int := match i with
  | 0 => 0
  | 1 => x3
  | 2 => x3 * t + x2
  | 3 => (x3 * t + x2) * t + x1
  | _ => ((x3 * t + x2) * t + x1) * t + x0
def sp__law_value (K : PySem.W.Frag) : Sp := fun vs H Q _ => ∃ (l : Addr) (t : Int) (as : List Addr) (x0 x1 x2 x3 B : Int), vs = [.ref l, .int t] ∧ H l = some (.lst (as.map V.ref)) ∧ TpA H as (([x0, x1, x2, x3].map fun x => Rat.divInt x B).map frV) ∧ Bt 60 x0 ∧ Bt 60 x1 ∧ Bt 60 x2 ∧ Bt 60 x3 ∧ 0 < B ∧ Bt 20 B ∧ Bt 100 t ∧
  ∀ p H', H p = none → Same H H' → H' p = some (.tup [.int (Rat.divInt (hN x0 x1 x2 x3 t 4) B).num, .int ((Rat.divInt (hN x0 x1 x2 x3 t 4) B).den : Int)]) → Q (.ref p) H'
theorem ok__law_value (T : Txt K mg A) : FnOk P w K mg base CX0 4 A.f__law_value A.d__law_value ["_law_rows", "_law_t"] (sp__law_value K) := by
  refine T.F__law_value.ok sc__law_value (fun vs H Q E h => ?_) (fun cdv Ar outer s H vs Q E hr h => ?_)
  · obtain ⟨_, _, _, _, _, _, _, _, rfl, _⟩ := h
    rfl
  · obtain ⟨l, t, as, x0, x1, x2, x3, B, rfl, gl, hT, b0, b1, b2, b3, B0, bB, bt, k⟩ := h
    have hu := hu_of hr
    refine ⟨_, (pss_cons (ps_set (i := 2) sc__law_value.nd rfl (Or.inl rfl) (pe_tup (pa_cons pe_int (pa_cons pe_int pa_nil))))
      (pss_cons (ps_for PassesOwn.never rfl (pi_list (pe_revL (pv 0))) (pg_name (i := 3) sc__law_value.nd rfl (Or.inl rfl))
        (pss_one (ps_set (i := 2) sc__law_value.nd rfl (Or.inl rfl) (pe_call (ok__law_plus T) (hr.mono (by decide)) rfl T.m__law_plus T.F__law_plus.kp T.b__law_plus .nil pass0 (pa_cons (pe_call (ok__law_times T) (hr.mono (by decide)) rfl T.m__law_times T.F__law_times.kp T.b__law_times .nil pass0 (pa_cons (pv 2) (pa_cons (pe_tup (pa_cons (pv 1) (pa_cons pe_int pa_nil))) pa_nil))) (pa_cons (pv 3) pa_nil))))))
      (pss_one (ps_ret (pv 2))))), ?_⟩
    have hT : TpA H as [frV (Rat.divInt x0 B), frV (Rat.divInt x1 B), frV (Rat.divInt x2 B), frV (Rat.divInt x3 B)] := hT
    have hh : ∀ i, i ≤ 3 → Bt 266 (hN x0 x1 x2 x3 t i) := fun i hi => by
      have e2 : Bt 162 (x3 * t + x2) := (bt_addm (n := 161) (Bt.mono (bt_mul b3 bt) (by decide)) (b2.mono (by decide)))
      rcases (show i = 0 ∨ i = 1 ∨ i = 2 ∨ i = 3 by omega) with z | z | z | z <;> subst z
      · show Bt 266 0
        exact bt_lit (by decide)
      · exact b3.mono (by decide)
      · exact e2.mono (by decide)
      · exact (bt_addm (n := 263) (Bt.mono (bt_mul e2 bt) (by decide)) (b1.mono (by decide))).mono (by decide)
    have rows : ∀ (i : Nat) (x : V), ((as.map V.ref).reverse)[i]? = some x → ∃ r xi, x = .ref r ∧ H r = some (.tup (frV (Rat.divInt xi B))) ∧ Bt 60 xi ∧ hN x0 x1 x2 x3 t (i + 1) = hN x0 x1 x2 x3 t i * t + xi ∧ i ≤ 3 := fun i x hx => by
      cases hT with
      | cons g0 hT =>
        cases hT with
        | cons g1 hT =>
          cases hT with
          | cons g2 hT =>
            cases hT with
            | cons g3 hT =>
              cases hT with
              | nil =>
                rcases i with _ | _ | _ | _ | i
                · cases hx
                  exact ⟨_, x3, rfl, g3, b3, by show x3 = 0 * t + x3; omega, by omega⟩
                · cases hx
                  exact ⟨_, x2, rfl, g2, b2, rfl, by omega⟩
                · cases hx
                  exact ⟨_, x1, rfl, g1, b1, rfl, by omega⟩
                · cases hx
                  exact ⟨_, x0, rfl, g0, b0, rfl, by omega⟩
                · simp at hx
    have l4 : as.length = 4 := hT.len
    have st : L2.start n__law_value [V.ref l, V.int t] = [some (.ref l), some (.int t), none, none] := rfl
    rw [st]
    walk_at "go"
    rename_i p0 np0 p2 np2
    have s0 := same_new (o := .tup [V.int 0, V.int 1]) np0
    have s2 := same_new (o := .lst (as.map V.ref).reverse) np2
    have e0 : Rat.divInt (hN x0 x1 x2 x3 t 0) B = 0 := Rat.zero_divInt ..
    refine for_list (K := K) (a := p2) (xs := (as.map V.ref).reverse) (fun i σ H' => Stop (∃ (f : Addr) (v3 : Option V), σ = [some (.ref l), some (.int t), some (.ref f), v3] ∧ H f = none ∧ Same H H' ∧ H' p2 = some (.lst (as.map V.ref).reverse) ∧ H' f = some (.tup (frV (Rat.divInt (hN x0 x1 x2 x3 t i) B))))) ⟨p0, none, rfl, np0, s0.trans s2, upd_same, by rw [e0]; exact s2 _ _ upd_same⟩ (fun i σ H' _ ⟨⟨_, _, _, _, _, g, _⟩⟩ => SqL.of g) ?_ ?_
    · rintro i x σ H3 hx ⟨⟨f, v3, rfl, nf, s3, gp, gf⟩⟩
      obtain ⟨r, xi, rfl, gr, bx, ehn, i3⟩ := rows i x hx
      have bh := hh i i3
      have gr3 := s3 _ _ gr
      walk_at "go"
      rename_i pt npt
      have sp := same_new (o := .tup [V.int t, V.int 1]) npt
      have qn : Bt 270 (Rat.divInt (hN x0 x1 x2 x3 t i) B).num := Nat.lt_of_le_of_lt (num_leZ B0) (bh.mono (by decide))
      have qd : Bt 20 ((Rat.divInt (hN x0 x1 x2 x3 t i) B).den : Int) := Nat.lt_of_le_of_lt (den_leZ B0) bB
      have hr : FrT K (upd H3 pt (.tup [V.int t, V.int 1])) pt ((t : Int) : Rat) := SqT.of upd_same
      have hq : FrT K (upd H3 pt (.tup [V.int t, V.int 1])) f (Rat.divInt (hN x0 x1 x2 x3 t i) B) := SqT.of (sp _ _ gf)
      refine ⟨hq, hr, qn, qd, (show Bt 110 t from bt.mono (by decide)), (show Bt 20 1 from bt_lit (by decide)), fun t1 H5 n1 s5 g1 => ?_⟩
      rw [times_ratZ] at g1
      have mn : Bt 374 (Rat.divInt (hN x0 x1 x2 x3 t i * t) B).num := Nat.lt_of_le_of_lt (num_leZ B0) (Bt.mono (bt_mul bh bt) (by decide))
      have md : Bt 20 ((Rat.divInt (hN x0 x1 x2 x3 t i * t) B).den : Int) := Nat.lt_of_le_of_lt (den_leZ B0) bB
      have xn : Bt 100 (Rat.divInt xi B).num := Nat.lt_of_le_of_lt (num_leZ B0) (bx.mono (by decide))
      have xd : Bt 20 ((Rat.divInt xi B).den : Int) := Nat.lt_of_le_of_lt (den_leZ B0) bB
      have h1 : FrT K H5 t1 (Rat.divInt (hN x0 x1 x2 x3 t i * t) B) := SqT.of g1
      have h2 : FrT K H5 r (Rat.divInt xi B) := SqT.of (s5 _ _ (sp _ _ gr3))
      walk_at "go"
      rename_i t2 H6 n2 s6 g2
      rw [sum_ratZ B0] at g2
      exact ⟨⟨t2, _, rfl, free_same n2 (s3.trans (sp.trans s5)), s3.trans (sp.trans (s5.trans s6)), s6 _ _ (s5 _ _ (sp _ _ gp)), by rw [ehn]; exact g2⟩⟩
    · rintro σ H3 ⟨⟨f, v3, rfl, nf, s3, gp, gf⟩⟩
      walk_at "go"
      have gf : H3 f = some (.tup (frV (Rat.divInt (hN x0 x1 x2 x3 t (as.map V.ref).reverse.length) B))) := gf
      rw [List.length_reverse, List.length_map, l4] at gf
      exact k _ _ nf s3 gf
def sp__law_height : Sp := fun vs H Q _ => ∃ (p : Addr) (x y z a b c : Int), vs = [.ref p, .int a, .int b, .int c] ∧ H p = some (.tup [.int x, .int y, .int z]) ∧ Bt 12 x ∧ Bt 12 y ∧ Bt 12 z ∧ Bt 4 a ∧ Bt 4 b ∧ Bt 4 c ∧ Q (.int (x * b * c + y * a * c + z * a * b)) H
theorem ok__law_height (T : Txt K mg A) : FnOk P w K mg base CX0 1 A.f__law_height A.d__law_height ["_law_one", "_law_a", "_law_b", "_law_c"] sp__law_height := by
  refine T.F__law_height.ok sc__law_height (fun vs H Q E h => ?_) (fun cdv Ar outer s H vs Q E hr h => ?_)
  · obtain ⟨_, _, _, _, _, _, _, rfl, _⟩ := h
    rfl
  · obtain ⟨p, x, y, z, a, b, c, rfl, hp, bx, by', bz, ba, bb, bc, k⟩ := h
    have hu := hu_of hr
    refine ⟨_, (pss_one (ps_ret (pe_op op_add (pe_op op_add (pe_op op_mulW (pe_op op_mulW (pe_ix ix_tup (pv 0) pe_int (fun _ _ => rfl)) (pv 2)) (pv 3)) (pe_op op_mulW (pe_op op_mulW (pe_ix ix_tup (pv 0) pe_int (fun _ _ => rfl)) (pv 1)) (pv 3))) (pe_op op_mulW (pe_op op_mulW (pe_ix ix_tup (pv 0) pe_int (fun _ _ => rfl)) (pv 1)) (pv 2))))), ?_⟩
    have e0 : atI [V.int x, V.int y, V.int z] 0 = some (V.int x) := rfl
    have e1 : atI [V.int x, V.int y, V.int z] 1 = some (V.int y) := rfl
    have e2 : atI [V.int x, V.int y, V.int z] 2 = some (V.int z) := rfl
    walk_at "go"
    exact k
def sp__law_force_right (A : Ad) : Sp := fun vs H Q _ => ∃ (a b c : Nat) (l : Addr) (as : List Addr), vs = [.int a, .int b, .int c, .ref l] ∧ Cop (a : Int) (b : Int) (c : Int) ∧ a ≤ 9 ∧ b ≤ 9 ∧ c ≤ 9 ∧ H l = some (.lst (as.map V.ref)) ∧ TpA H as (((cRow a b c).map (cRat a b c)).map frV) ∧ ∀ H', Same H H' → Q (.bl true) H'
theorem ok__law_force_right (T : Txt K mg A) : FnOk P w K mg base CX0 6 A.f__law_force_right A.d__law_force_right ["_law_a", "_law_b", "_law_c", "_law_rows"] (sp__law_force_right A) := by
  refine T.F__law_force_right.ok sc__law_force_right (fun vs H Q E h => ?_) (fun cdv Ar outer s H vs Q E hr h => ?_)
  · obtain ⟨_, _, _, _, _, rfl, _⟩ := h
    rfl
  · obtain ⟨a, b, d, l0, as, rfl, hc, a9, b9, c9, gl0, hT, k⟩ := h
    have hu := hu_of hr
    refine ⟨_, (pss_cons (ps_for PassesOwn.never rfl (pi_range1 rfl T.b_range (pa_cons pe_int pa_nil)) (pg_name (i := 4) sc__law_force_right.nd rfl (Or.inr rfl))
        (Evl.pss_cut (ps_if (pt_cmpR op_gt (pe_op op_mulW (pe_op op_mulW (pe_op op_mulW (pe_op op_mulW (pe_op op_mulW (pv 0) (pv 1)) (pv 2)) (pv 4)) (pv 4)) (pv 4)) pe_int (nomark _))
            (pss_one ps_break)
            pss_nil)
          (Evl.pss_cut (ps_set (i := 5) sc__law_force_right.nd rfl (Or.inl rfl) (pe_call (ok__law_corner T) (hr.mono (by decide)) rfl T.m__law_corner T.F__law_corner.kp T.b__law_corner .nil pass0 (pa_cons (pv 0) (pa_cons (pv 1) (pa_cons (pv 2) (pa_cons (pv 4) pa_nil))))))
          (Evl.pss_cut (ps_setLc (i := 6) (own := [("_law_one", 7)]) (g := gName 7) rfl sc__law_force_right.nd rfl rfl (sw_true rfl rfl rfl (by decide +kernel)) (pi_list (pv 5)) (blkOk_by (own := [("_law_one", 7)]) (N := n__law_force_right) (sc := defScope s__law_force_right) (by decide +kernel)) (fun _ _ _ _ _ => pg_name (i := 7) sc__law_force_right.nd rfl (Or.inl rfl)) (fun _ _ _ _ _ => (pts_one (PW.pt (pw_and (pt_cmpR (show OpR _ (compareOp .NotIn) (rIn K true) from op_notIn_seq) pe_int (pv 7) (by rfl)) (pw_and1 (pt_cmpR op_lt (pe_call (ok__law_height T) (hr.mono (by decide)) rfl T.m__law_height T.F__law_height.kp T.b__law_height .nil pass0 (pa_cons (pv 7) (pa_cons (pv 0) (pa_cons (pv 1) (pa_cons (pv 2) pa_nil))))) (pe_op op_mulW (pe_op op_mulW (pe_op op_mulW (pv 0) (pv 1)) (pv 2)) (pv 4)) (nomark _))))))) (fun _ _ _ _ _ => (pv 7)))
          (pss_one (ps_if (PW.pt (pw_or (pt_cmpR (op_neD hr.units) (pe_call (ok__law_value T) (hr.mono (by decide)) rfl T.m__law_value T.F__law_value.kp T.b__law_value .nil pass0 (pa_cons (pv 3) (pa_cons (pv 4) pa_nil))) (pe_tup (pa_cons (pe_callB call_len_seq (by rfl) T.b_len (by decide +kernel) (pa_cons (pv 5) pa_nil)) (pa_cons pe_int pa_nil))) (nomark _)) (pw_or1 (PW.pt (pw_and (pt_cmpR op_gt (pv 4) pe_int (nomark _)) (pw_and1 (pt_cmpR (op_neD hr.units) (pe_call (ok__law_value T) (hr.mono (by decide)) rfl T.m__law_value T.F__law_value.kp T.b__law_value .nil pass0 (pa_cons (pv 3) (pa_cons (pe_un un_neg (pv 4)) pa_nil))) (pe_tup (pa_cons (pe_un un_neg (pe_callB call_len_seq (by rfl) T.b_len (by decide +kernel) (pa_cons (pv 6) pa_nil))) (pa_cons pe_int pa_nil))) (nomark _))))))))
            (pss_one (ps_ret pe_bl))
            pss_nil))))))
      (pss_one (ps_ret pe_bl))), ?_⟩
    obtain ⟨K1, K2⟩ := box_facts hc a9 b9 c9
    have a1 := hc.a1
    have b1 := hc.b1
    have d1 := hc.c1
    have a0 : 0 < a := by omega
    have b0 : 0 < b := by omega
    have d0 : 0 < d := by omega
    have ba : Bt 4 (a : Int) := b8 (by omega) (by omega)
    have bb : Bt 4 (b : Int) := b8 (by omega) (by omega)
    have bd : Bt 4 (d : Int) := b8 (by omega) (by omega)
    have B0 : 0 < 12 * (a : Int) * (b : Int) * (d : Int) := Int.mul_pos (Int.mul_pos (by omega) (by omega)) (by omega)
    have bB : Bt 20 (12 * (a : Int) * (b : Int) * (d : Int)) := Bt.mono (bt_mul (bt_mul (bt_mul (bt_lit (n := 4) (x := 12) (by decide)) ba) bb) bd) (by decide)
    obtain ⟨t0, t1, t2, t3⟩ := tops_bd (show (1 : Int) ≤ a by omega) (show (1 : Int) ≤ b by omega) (show (1 : Int) ≤ d by omega) (show (a : Int) ≤ 9 by omega) (show (b : Int) ≤ 9 by omega) (show (d : Int) ≤ 9 by omega)
    have hT' : TpA H as (([(cTops a b d).1, (cTops a b d).2.1, (cTops a b d).2.2.1, (cTops a b d).2.2.2].map fun x => Rat.divInt x (12 * (a : Int) * (b : Int) * (d : Int))).map frV) := hT
    have vN : ∀ t : Int, hN (cTops a b d).1 (cTops a b d).2.1 (cTops a b d).2.2.1 (cTops a b d).2.2.2 t 4 = cNum a b d t := fun t => rfl
    have vP2 : ∀ t : Int, (Rat.divInt (cNum a b d t) (12 * (a : Int) * (b : Int) * (d : Int))).num = cVal a b d t ∧ ((Rat.divInt (cNum a b d t) (12 * (a : Int) * (b : Int) * (d : Int))).den : Int) = 1 := fun t => by
      obtain ⟨kk, hk⟩ := K1 t
      exact val_pair B0 hk
    have st : L2.start n__law_force_right [V.int (a : Int), V.int (b : Int), V.int (d : Int), V.ref l0] = [some (.int a), some (.int b), some (.int d), some (.ref l0), none, none, none, none] := rfl
    rw [st]
    walk_at "go"
    refine for_range (fun i σ H' => Stop (∃ v4 v5 v6 : Option V, σ = [some (.int a), some (.int b), some (.int d), some (.ref l0), v4, v5, v6, none] ∧ Same H H')) ⟨_, _, _, rfl, Same.refl _⟩ ?_ ?_
    · rintro t σ H1 hi ⟨⟨v4, v5, v6, rfl, s1⟩⟩
      have hi : t < (5 : Int).toNat := hi
      have t5 : t < 5 := hi
      have bt : Bt 4 ((t : Nat) : Int) := b8 (by omega) (by omega)
      refine ⟨fun σ H' => Stop (σ = [some (.int a), some (.int b), some (.int d), some (.ref l0), some (.int (t : Int)), v5, v6, none] ∧ Same H1 H' ∧ a * b * d * t * t * t ≤ 700), ?_, ?_⟩
      · walk_at "go"
        rw [Int.zero_add]
        have e7 : (a : Int) * (b : Int) * (d : Int) * (t : Int) * (t : Int) * (t : Int) = ((a * b * d * t * t * t : Nat) : Int) := by simp only [Int.natCast_mul]
        rw [e7]
        refine ite2 (fun h => ?_) (fun h => ?_)
        · walk_at "go"
          exact k _ s1
        · have h : ¬ (700 : Int) < ((a * b * d * t * t * t : Nat) : Int) := fun z => h (decide_eq_true z)
          exact ⟨⟨rfl, Same.refl _, by omega⟩⟩
      rintro σ H2 ⟨⟨rfl, s2, h700⟩⟩
      obtain ⟨F1, F2, F4⟩ := K2 t t5 h700
      refine ⟨fun σ H' => Stop (∃ (l : Addr) (zs : List (Addr × P3)), σ = [some (.int a), some (.int b), some (.int d), some (.ref l0), some (.int (t : Int)), some (.ref l), v6, none] ∧ Same H2 H' ∧ H' l = some (.lst (rfs zs)) ∧ pts a b d t = zs.map Prod.snd ∧ ∀ z ∈ zs, H' z.1 = some (.tup (vP z.2))), ?_, ?_⟩
      · walk_at "go"
        rename_i l as2 H3 nl s3 gl hT2
        obtain ⟨zs, e1, e2, e3⟩ := zip_of hT2
        exact ⟨⟨l, zs, rfl, s3, by rw [gl, e1, List.map_map]; rfl, e2, e3⟩⟩
      rintro σ H3 ⟨⟨l, zs, rfl, s3, gl, ez, hz⟩⟩
      have lz : zs.length ≤ 400 := by rw [← List.length_map (f := Prod.snd), ← ez]; exact F4
      have bz : ∀ z ∈ zs, z.2.1 < 1000 ∧ z.2.2.1 < 1000 ∧ z.2.2.2 < 1000 := fun z hm => pts_bd (by omega) (by omega) (by omega) F4 (by rw [ez]; exact List.mem_map_of_mem hm)
      have xl : ∀ {j : Nat} {x : V}, (rfs zs)[j]? = some x → ∃ z, zs[j]? = some z ∧ x = V.ref z.1 := fun {j x} hx => by
        unfold rfs at hx
        rw [List.getElem?_map, Option.map_eq_some_iff] at hx
        obtain ⟨z, h1, h2⟩ := hx
        exact ⟨z, h1, h2.symm⟩
      have fl : ∀ (p : Addr × P3 → Bool) (j : Nat), (rfs ((zs.take j).filter p)).length < sizeLine := fun p j => by
        refine lt_line ?_
        unfold rfs
        have e1 := List.length_filter_le p (zs.take j)
        have e2 := List.length_take_le' j zs
        rw [List.length_map]
        omega
      have fm : ∀ {p : Addr × P3 → Bool} {j : Nat} {z : Addr × P3}, zs[j]? = some z → p z = true → rfs ((zs.take (j + 1)).filter p) = rfs ((zs.take j).filter p) ++ [V.ref z.1] := fun {p j z} h hp => by
        have et : zs.take (j + 1) = zs.take j ++ [z] := by rw [List.take_add_one, h]; rfl
        unfold rfs
        rw [et, List.filter_append, List.map_append, List.filter_cons_of_pos hp]
        rfl
      have fn : ∀ {p : Addr × P3 → Bool} {j : Nat} {z : Addr × P3}, zs[j]? = some z → ¬ p z = true → rfs ((zs.take (j + 1)).filter p) = rfs ((zs.take j).filter p) := fun {p j z} h hp => by
        have et : zs.take (j + 1) = zs.take j ++ [z] := by rw [List.take_add_one, h]; rfl
        unfold rfs
        rw [et, List.filter_append, List.filter_cons_of_neg hp]
        exact congrArg (List.map _) (List.append_nil _)
      have fe : ∀ (p : Addr × P3 → Bool), (zs.take (rfs zs).length).filter p = zs.filter p := fun p => by
        rw [List.take_of_length_le (by unfold rfs; rw [List.length_map]; exact Nat.le_refl _)]
      refine ⟨fun σ H' => Stop (∃ n : Addr, σ = [some (.int a), some (.int b), some (.int d), some (.ref l0), some (.int (t : Int)), some (.ref l), some (.ref n), none] ∧ Same H3 H' ∧ H' n = some (.lst (rfs (zs.filter fun z => inn2 a b d t z.2)))), ?_, ?_⟩
      · walk_at "go"
        rename_i D hD
        refine lc_list (K := K) (a := l) (xs := rfs zs) (fun j H' => Stop (H' = upd H3 D (.lst (rfs ((zs.take j).filter fun z => inn2 a b d t z.2))))) ⟨rfl⟩ (fun j H' _ ⟨e⟩ => by rw [e]; exact SqL.of (same_new hD _ _ gl)) ?_ ?_
        · rintro j x H5 hx ⟨rfl⟩
          obtain ⟨z, hzj, rfl⟩ := xl hx
          have hm := List.mem_of_getElem? hzj
          have hl := fl (fun z => inn2 a b d t z.2) j
          have sD := same_new (o := .lst (rfs ((zs.take j).filter fun z => inn2 a b d t z.2))) hD
          have gz : (upd H3 D (.lst (rfs ((zs.take j).filter fun z => inn2 a b d t z.2)))) z.1 = some (.tup [V.int (z.2.1 : Int), V.int (z.2.2.1 : Int), V.int (z.2.2.2 : Int)]) := sD _ _ (hz z hm)
          have g6 : (upd H3 D (.lst (rfs ((zs.take j).filter fun z => inn2 a b d t z.2)))) D = some (.lst (rfs ((zs.take j).filter fun z => inn2 a b d t z.2))) := upd_same
          obtain ⟨q1, q2, q3⟩ := bz z hm
          have w1 : Bt 12 (z.2.1 : Int) := by show ((z.2.1 : Int)).natAbs < 2 ^ 12; omega
          have w2 : Bt 12 (z.2.2.1 : Int) := by show ((z.2.2.1 : Int)).natAbs < 2 ^ 12; omega
          have w3 : Bt 12 (z.2.2.2 : Int) := by show ((z.2.2.2 : Int)).natAbs < 2 ^ 12; omega
          walk_at "go"
          refine ite2 (fun h => ?_) (fun h => ?_)
          · have h0 : inV (V.int 0) [V.int (z.2.1 : Int), V.int (z.2.2.1 : Int), V.int (z.2.2.2 : Int)] = false := by simpa using h
            walk_at "go"
            refine ite2 (fun h2 => ?_) (fun h2 => ?_)
            · have hi : inn2 a b d t z.2 = true := by rw [inn2_eq, h0]; simpa using h2
              walk_at "go"
              refine ⟨?_⟩
              rw [upd_upd, fm (p := fun z => inn2 a b d t z.2) hzj hi]
            · have hi : ¬ inn2 a b d t z.2 = true := by rw [inn2_eq, h0]; simpa using h2
              refine ⟨?_⟩
              rw [fn (p := fun z => inn2 a b d t z.2) hzj hi]
          · have h0 : inV (V.int 0) [V.int (z.2.1 : Int), V.int (z.2.2.1 : Int), V.int (z.2.2.2 : Int)] = true := by simpa using h
            have hi : ¬ inn2 a b d t z.2 = true := by rw [inn2_eq, h0]; simp
            refine ifF (c := false) rfl ?_
            refine ⟨?_⟩
            rw [fn (p := fun z => inn2 a b d t z.2) hzj hi]
        · rintro H5 ⟨rfl⟩
          rw [fe]
          exact ⟨⟨D, rfl, same_new hD, upd_same⟩⟩
      rintro σ H5 ⟨⟨n, rfl, s5, gn⟩⟩
      have gl5 := s5 _ _ gl
      have s15 := s1.trans (s2.trans (s3.trans s5))
      have gl05 := s15 _ _ gl0
      have hT5 := hT'.stay fun b xs e => s15 _ _ e
      have L1 : (((rfs zs).length : Nat) : Int) = cVal a b d t := by rw [F1, ez]; unfold rfs; rw [List.length_map, List.length_map]
      have L2 : t ≠ 0 → -(((rfs (zs.filter fun z => inn2 a b d t z.2)).length : Nat) : Int) = cVal a b d (-(t : Int)) := fun h => by
        rw [F2 h, ez]
        unfold rfs
        rw [List.length_map, flt_snd (fun p => inn2 a b d t p)]
      have bt1 : Bt 100 ((t : Nat) : Int) := bt.mono (by decide)
      have bt2 : Bt 100 (-((t : Nat) : Int)) := by show (-((t : Nat) : Int)).natAbs < 2 ^ 100; omega
      walk_at "go"
      rename_i pv Hv nv sv gv pt npt
      have hT6 := hT5.stay fun b xs e => same_new (o := .tup [V.int ((rfs zs).length : Nat), V.int 1]) npt _ _ (sv _ _ e)
      rw [vN, (vP2 t).1, (vP2 t).2]
      refine ifF (c := !PyData.eqv (.tuple [.int (cVal a b d t), .int 1]) (.tuple [.int ((rfs zs).length : Nat), .int 1])) (by rw [L1]; simp [PyData.eqv, PyData.eqvAll]) ?_
      walk_at "go"
      refine ite2 (fun h => ?_) (fun h => ?_)
      · have h : (0 : Int) < (t : Int) := of_decide_eq_true h
        walk_at "go"
        rw [vN, (vP2 (-(t : Int))).1, (vP2 (-(t : Int))).2]
        refine ifF (c := !PyData.eqv (.tuple [.int (cVal a b d (-(t : Int))), .int 1]) (.tuple [.int (-((rfs (zs.filter fun z => inn2 a b d t z.2)).length : Nat)), .int 1])) (by rw [L2 (by omega)]; simp [PyData.eqv, PyData.eqvAll]) ?_
        exact ⟨⟨_, _, _, rfl, by walk_at "f"⟩⟩
      · refine ifF (c := false) rfl ?_
        exact ⟨⟨_, _, _, rfl, by walk_at "f"⟩⟩
    · rintro σ H1 ⟨⟨v4, v5, v6, rfl, s1⟩⟩
      walk_at "go"
      exact k _ s1
end
end Tk


set_option maxHeartbeats 2000000
namespace Tk
open PySem PySem.Spec PyProof.Rows L2 Tc
section
variable {P : Program} {w : World} {K : PySem.W.Frag} {mg : Str → Option Value} {base : Heap} {A : Ad}
open Tm
local macro_rules | `(tactic| walk_at "arr") => `(tactic| first
  | with_reducible assumption
  | ((with_reducible apply same_new); with_reducible assumption))
local macro_rules | `(tactic| walk_at "f") => `(tactic| first
  | with_reducible assumption
  | with_reducible exact upd_same
  | with_reducible exact Same.refl _
  | with_reducible exact Frm.refl
  | ((with_reducible apply sqL_K); (focus with_reducible assumption); rfl)
  | ((with_reducible apply sqT_K); (focus with_reducible assumption); rfl)
  | ((with_reducible apply SqT.of); walk_at "f")
  | ((with_reducible apply SqL.of); walk_at "f")
  | ((with_reducible apply back_raw); (focus walk_at "arr"); walk_at "f")
  | ((with_reducible apply frm_tup); (focus with_reducible assumption); (focus walk_at "f"); (focus walk_at "f"); (focus (intro _ z; cases z; done)))
  | ((with_reducible apply frm_raw); (focus with_reducible assumption); (focus walk_at "f"); walk_at "f")
  | ((with_reducible apply bowl_back); (focus walk_at "arr"); walk_at "f")
  | ((with_reducible apply bowl_ne); (focus with_reducible assumption); walk_at "f")
  | ((with_reducible apply Num.int); with_reducible assumption)
  | ((with_reducible apply same_snoc); (focus walk_at "arr"); walk_at "f")
  | ((with_reducible apply frm_back); (focus walk_at "arr"); walk_at "f")
  | ((with_reducible apply frm_backF); (focus with_reducible assumption); walk_at "f")
  | ((with_reducible apply back_sqT); (focus walk_at "arr"); walk_at "f")
  | ((with_reducible apply same_sqL); (focus walk_at "arr"); walk_at "f")
  | ((with_reducible apply free_same); (focus with_reducible assumption); walk_at "f")
  | ((with_reducible apply free_frm); (focus with_reducible assumption); (focus with_reducible assumption); walk_at "f")
  | ((with_reducible apply frm_sqL); (focus with_reducible assumption); (focus walk_at "f"); walk_at "f"))
local macro_rules | `(tactic| walk_at "bt") => `(tactic| first
  | with_reducible assumption
  | ((with_reducible apply bt_mul); (focus walk_at "bt"); walk_at "bt")
  | ((with_reducible apply bt_add); (focus walk_at "bt"); walk_at "bt")
  | ((with_reducible apply bt_sub); (focus walk_at "bt"); walk_at "bt")
  | ((with_reducible apply bt_neg); walk_at "bt")
  | ((with_reducible apply bt_div); walk_at "bt")
  | ((with_reducible apply bt_mod); (focus (first | assumption | omega)); walk_at "bt")
  | exact bt_lit (n := 64) (by decide)
  | exact bt_lit (n := 200) (by decide +kernel))
local macro_rules | `(tactic| walk_at "lin") => `(tactic| first
  | exact (by decide : 1 ≤ sizeLine) | exact (by decide : 2 ≤ sizeLine) | exact (by decide : 3 ≤ sizeLine) | exact (by decide : 4 ≤ sizeLine) | exact (by decide : 0 ≤ sizeLine) | exact (by decide : 5 ≤ sizeLine) | exact (by decide : 6 ≤ sizeLine))
local macro_rules | `(tactic| walk_at "dp") => `(tactic| first
  | exact Dp.int _
  | exact DpAll.nil
  | ((with_reducible apply Dp.lst); (focus walk_at "f"); walk_at "dp")
  | ((with_reducible apply Dp.tup); (focus walk_at "f"); walk_at "dp")
  | ((with_reducible apply DpAll.cons); (focus walk_at "dp"); walk_at "dp"))
local macro_rules | `(tactic| walk_at "sv") => `(tactic| first
  | with_reducible rfl
  | walk_at "f"
  | exact rfl
  | walk_at "dp"
  | exact shp_lst [_] | exact shp_lst [_, _] | exact shp_lst [_, _, _] | exact shp_lst [_, _, _, _] | exact shp_tup [_, _] | exact shp_tup [_, _, _]
  | ((apply tyV_lst); walk_at "f")
  | ((with_reducible apply bt_mulW); (focus walk_at "bt"); (focus walk_at "bt"); (focus (first | decide | omega)))
  | ((with_reducible apply bt_divW); (focus (first | decide | assumption | omega)); (focus walk_at "bt"); (focus (first | decide | omega)))
  | ((with_reducible apply bt_divP); (focus (first | decide | assumption | omega)); (focus walk_at "bt"); (focus (first | decide | omega)))
  | exact ⟨by decide, by decide +kernel⟩
  | exact Or.inl (by decide)
  | exact Or.inr (by decide)
  | exact Or.inl ⟨by omega, by omega⟩
  | exact Or.inr ⟨by omega, by omega⟩
  | ((with_reducible apply Or.inl); walk_at "sv")
  | ((with_reducible apply Or.inr); walk_at "sv")
  | ((with_reducible apply Exists.intro); walk_at "sv")
  | ((with_reducible apply And.intro); (focus walk_at "sv"); walk_at "sv")
  | walk_at "lin"
  | decide
  | omega
  | (simp only [List.length_cons, List.length_nil, List.length_map]; first | done | omega))
local macro_rules | `(tactic| walk_at "one") => `(tactic| first
  | ((fail_if_success refine' @Exists.intro (Nat → L2.St → Hp → Prop) _ ?_ ?_); (fail_if_success refine' @Exists.intro (Nat → Nat → L2.St → Hp → Prop) _ ?_ ?_); (fail_if_success refine' @Exists.intro (L2.St → Hp → Prop) _ ?_ ?_); (fail_if_success refine' @Exists.intro (Nat → Nat → Hp → Prop) _ ?_ ?_); (fail_if_success refine' @Exists.intro (Hp → Prop) _ ?_ ?_); apply Exists.intro)
  | (apply And.intro; (focus walk_at "sv"))
  | intro _
  | (apply ifT; (focus rfl))
  | (apply ifF; (focus rfl))
  | ((apply Or.inl); (apply Exists.intro); (apply And.intro); (focus exact rfl))
  | ((apply Or.inl); (apply And.intro); (focus walk_at "f"))
  | ((apply Or.inr); (apply Exists.intro); (apply And.intro); (focus exact rfl))
  | (apply ifTd; (focus (first | assumption | omega)))
  | (apply ifFd; (focus (first | assumption | omega))))
local macro_rules | `(tactic| walk_at "go") => `(tactic| repeat walk_at "one")
local macro_rules | `(tactic| walk_at "nm") => `(tactic| try simp only [List.set_cons_zero, List.set_cons_succ])
local macro_rules | `(tactic| walk_at "gon") => `(tactic| repeat (walk_at "one"; walk_at "nm"))

theorem val_mul {a b c t : Nat} (hc : Cop (a : Int) (b : Int) (c : Int)) (a9 : a ≤ 9) (b9 : b ≤ 9) (c9 : c ≤ 9) (t : Int) : 12 * (a : Int) * (b : Int) * (c : Int) * cVal a b c t = cNum a b c t := by
  obtain ⟨K1, _⟩ := box_facts hc a9 b9 c9
  rw [cVal_num]
  exact Int.mul_ediv_cancel' (K1 t)
theorem top_0 (a b c : Int) : (cTops a b c).1 = 12 * a * b * c := by unfold cTops; simp only; grind
theorem top_2 (a b c : Int) : 4 * (cTops a b c).2.2.1 = 12 * a * b * c * (a * b + b * c + c * a + 1) := by unfold cTops; simp only; grind
theorem top_3 (a b c : Int) : 6 * (cTops a b c).2.2.2 = 12 * a * b * c * (a * b * c) := by unfold cTops; simp only; grind
theorem tops_sw (a b c : Int) : cTops b a c = cTops a b c := by
  unfold cTops
  rw [Int.mul_comm a c, Int.mul_comm c b, Int.mul_comm b a]
  refine Prod.ext ?_ (Prod.ext ?_ (Prod.ext ?_ ?_)) <;> simp only <;> grind
/- points of a corner and of its inside -/
theorem open_shut {a b c : Nat} (hc : Cop (a : Int) (b : Int) (c : Int)) (a9 : a ≤ 9) (b9 : b ≤ 9) (c9 : c ≤ 9) (t : Int) : 2 * (cVal a b c t + cVal a b c (-t)) = 4 + ((a : Int) * b + b * c + c * a + 1) * (t * t) := by
  have a1 := hc.a1
  have b1 := hc.b1
  have c1 := hc.c1
  have B0 : 0 < 12 * (a : Int) * (b : Int) * (c : Int) := Int.mul_pos (Int.mul_pos (by omega) (by omega)) (by omega)
  have h1 := val_mul (t := 0) hc a9 b9 c9 t
  have h2 := val_mul (t := 0) hc a9 b9 c9 (-t)
  have e0 := top_0 (a : Int) b c
  have e2 := top_2 (a : Int) b c
  unfold cNum at h1 h2
  generalize (cTops (a : Int) b c).1 = x0 at *
  generalize (cTops (a : Int) b c).2.1 = x1 at *
  generalize (cTops (a : Int) b c).2.2.1 = x2 at *
  generalize (cTops (a : Int) b c).2.2.2 = x3 at *
  generalize cVal a b c t = W at *
  generalize cVal a b c (-t) = I at *
  refine Int.eq_of_mul_eq_mul_left (show 12 * (a : Int) * (b : Int) * (c : Int) ≠ 0 by omega) ?_
  have g1 : 12 * (a : Int) * (b : Int) * (c : Int) * (2 * (W + I)) = 4 * x0 + 4 * x2 * (t * t) := by
    rw [show 12 * (a : Int) * (b : Int) * (c : Int) * (2 * (W + I)) = 2 * (12 * (a : Int) * (b : Int) * (c : Int) * W + 12 * (a : Int) * (b : Int) * (c : Int) * I) by grind, h1, h2]
    grind
  rw [g1, e0, e2]
  grind
theorem third {a b c : Nat} (hc : Cop (a : Int) (b : Int) (c : Int)) (a9 : a ≤ 9) (b9 : b ≤ 9) (c9 : c ≤ 9) (t : Int) : cVal a b c (t + 3) - 3 * cVal a b c (t + 2) + 3 * cVal a b c (t + 1) - cVal a b c t = (a : Int) * b * c := by
  have a1 := hc.a1
  have b1 := hc.b1
  have c1 := hc.c1
  have B0 : 0 < 12 * (a : Int) * (b : Int) * (c : Int) := Int.mul_pos (Int.mul_pos (by omega) (by omega)) (by omega)
  have h0 := val_mul (t := 0) hc a9 b9 c9 t
  have h1 := val_mul (t := 0) hc a9 b9 c9 (t + 1)
  have h2 := val_mul (t := 0) hc a9 b9 c9 (t + 2)
  have h3 := val_mul (t := 0) hc a9 b9 c9 (t + 3)
  have e3 := top_3 (a : Int) b c
  unfold cNum at h0 h1 h2 h3
  generalize (cTops (a : Int) b c).1 = x0 at *
  generalize (cTops (a : Int) b c).2.1 = x1 at *
  generalize (cTops (a : Int) b c).2.2.1 = x2 at *
  generalize (cTops (a : Int) b c).2.2.2 = x3 at *
  generalize cVal a b c t = W0 at *
  generalize cVal a b c (t + 1) = W1 at *
  generalize cVal a b c (t + 2) = W2 at *
  generalize cVal a b c (t + 3) = W3 at *
  refine Int.eq_of_mul_eq_mul_left (show 12 * (a : Int) * (b : Int) * (c : Int) ≠ 0 by omega) ?_
  rw [← e3, show 12 * (a : Int) * (b : Int) * (c : Int) * (W3 - 3 * W2 + 3 * W1 - W0) = 12 * (a : Int) * (b : Int) * (c : Int) * W3 - 3 * (12 * (a : Int) * (b : Int) * (c : Int) * W2) + 3 * (12 * (a : Int) * (b : Int) * (c : Int) * W1) - 12 * (a : Int) * (b : Int) * (c : Int) * W0 by grind, h0, h1, h2, h3]
  grind
theorem shut_sum {a b d t W C T1 T2 T3 N : Int} (h : 2 * (W + C) = 4 + (a * b + b * d + d * a + 1) * (t * t)) (h1 : 2 * T1 = (b * t + 1) * (a * t + 1) + (t * 1 + 1)) (h2 : 2 * T2 = (d * t + 1) * (b * t + 1) + (t * 1 + 1)) (h3 : 2 * T3 = (d * t + 1) * (a * t + 1) + (t * 1 + 1)) (hN : 2 * N = (t - 1) * t) (t1 : 1 ≤ t) :
    W = -C + (1 + a * t + b * t + d * t + T1 - 1 - a * t - b * t + T2 - 1 - b * t - d * t + T3 - 1 - a * t - d * t) + (if N - t + 1 > 0 then N - t + 1 else 0) := by
  have x0 : 0 ≤ N - t + 1 := by
    have e : 2 * (N - t + 1) = (t - 1) * (t - 2) := by rw [Int.mul_add, Int.mul_sub, hN]; grind
    have : 0 ≤ (t - 1) * (t - 2) := by
      rcases (show t = 1 ∨ 2 ≤ t by omega) with z | z
      · subst z; decide
      · exact Int.mul_nonneg (by omega) (by omega)
    omega
  have e : (if N - t + 1 > 0 then N - t + 1 else 0) = N - t + 1 := by split <;> omega
  rw [e]
  have e2 : 2 * W = 2 * (-C + (1 + a * t + b * t + d * t + T1 - 1 - a * t - b * t + T2 - 1 - b * t - d * t + T3 - 1 - a * t - d * t) + (N - t + 1)) := by grind
  omega
def sS (a b d t : Int) (j : Nat) : Int := match j with
  | 0 => 1 + a * t + b * t + d * t
  | 1 => 1 + a * t + b * t + d * t + Tri a b (a * b * t) - 1 - a * t - b * t
  | 2 => 1 + a * t + b * t + d * t + Tri a b (a * b * t) - 1 - a * t - b * t + Tri b d (b * d * t) - 1 - b * t - d * t
  | _ => 1 + a * t + b * t + d * t + Tri a b (a * b * t) - 1 - a * t - b * t + Tri b d (b * d * t) - 1 - b * t - d * t + Tri a d (a * d * t) - 1 - a * t - d * t
local macro_rules | `(tactic| walk_at "arr") => `(tactic| first
  | ((with_reducible apply made2); (focus with_reducible assumption); (focus with_reducible assumption); with_reducible assumption)
  | ((with_reducible apply same_up); (focus with_reducible assumption); with_reducible assumption))
local macro_rules | `(tactic| walk_at "f") => `(tactic| first
  | ((with_reducible apply Num.long); walk_at "f")
  | ((with_reducible apply ratu_back); (focus walk_at "arr"); walk_at "f")
  | ((with_reducible apply ratu_frm); (focus with_reducible assumption); (focus walk_at "f"); walk_at "f")
  | ((with_reducible apply rat_back); (focus walk_at "arr"); walk_at "f")
  | ((with_reducible apply rat_frm); (focus with_reducible assumption); (focus walk_at "f"); walk_at "f")
  | ((with_reducible apply ratb_u); (focus with_reducible assumption); with_reducible assumption)
  | ((with_reducible apply ratb_at); (focus with_reducible assumption); with_reducible assumption)
  | ((with_reducible apply ratb_back); (focus walk_at "arr"); walk_at "f")
  | ((with_reducible apply ratb_frm); (focus with_reducible assumption); (focus walk_at "f"); walk_at "f")
  | ((with_reducible apply Rn.rat); walk_at "f")
  | ((with_reducible apply Rn.int); with_reducible assumption)
  | ((with_reducible apply rat_raw); walk_at "f")
  | ((with_reducible apply ratb_raw); walk_at "f"))
local macro_rules | `(tactic| walk_at "f") => `(tactic| first
  | ((apply ty_rat); (focus assumption); walk_at "f")
  | ((apply ty_ratb); (focus assumption); walk_at "f")
  | exact nf_self
  | exact TyX.base (.int _)
  | ((with_reducible apply Pay.two); (focus with_reducible assumption); (focus with_reducible assumption); (focus (first | with_reducible assumption | decide)); (first | with_reducible assumption | rfl))
  | ((with_reducible apply nf_K); (focus with_reducible assumption); rfl)
  | exact bt_lit (by decide +kernel))
local macro_rules | `(tactic| walk_at "one") => `(tactic| ((apply Or.inl); (apply Exists.intro); (apply Exists.intro); (apply And.intro); (focus exact rfl)))
local macro_rules | `(tactic| walk_at "f") => `(tactic| first
  | ((with_reducible apply frT_K); (focus with_reducible assumption); rfl)
  | ((with_reducible apply frt); (focus with_reducible assumption))
  | ((with_reducible apply frt_back); (focus walk_at "arr"); walk_at "f")
  | ((with_reducible apply frt_frm); (focus with_reducible assumption); (focus walk_at "f"); walk_at "f"))
local macro_rules | `(tactic| walk_at "sv") => `(tactic| first
  | ((with_reducible refine lt_line ?_); simp only [List.length_append, List.length_cons, List.length_nil, List.length_map, List.length_replicate, List.length_range]; omega)
  | ((with_reducible refine Nat.le_of_lt (lt_line ?_)); simp only [List.length_append, List.length_cons, List.length_nil, List.length_map, List.length_replicate, List.length_range]; omega))
def sp__law_shuts_right (A : Ad) : Sp := fun vs H Q _ => ∃ (a b d : Nat) (t : Int), vs = [.int a, .int b, .int d, .int t] ∧ Cop (a : Int) (b : Int) (d : Int) ∧ a ≤ 9 ∧ b ≤ 9 ∧ d ≤ 9 ∧ 1 ≤ t ∧ t ≤ 40 ∧ ∀ H', Same H H' → Q (.bl true) H'
theorem ok__law_shuts_right (T : Txt K mg A) : FnOk P w K mg base CX0 8 A.f__law_shuts_right A.d__law_shuts_right ["_law_a", "_law_b", "_law_c", "_law_t"] (sp__law_shuts_right A) := by
  refine T.F__law_shuts_right.ok sc__law_shuts_right (fun vs H Q E h => ?_) (fun cdv Ar outer s H vs Q E hr h => ?_)
  · obtain ⟨_, _, _, _, rfl, _⟩ := h
    rfl
  · obtain ⟨a, b, d, t, rfl, hc, a9, b9, c9, t1, t40, k⟩ := h
    have hu := hu_of hr
    refine ⟨_, (Evl.pss_cut (ps_par (i := 4) (j := 5) (by rfl) sc__law_shuts_right.nd rfl rfl (by decide) rfl rfl (pa_cons (pe_call (ok_corner_points T) (hr.mono (by decide)) rfl T.m_corner_points T.F_corner_points.kp T.b_corner_points .nil pass0 (pa_cons (pv 0) (pa_cons (pv 1) (pa_cons (pv 2) (pa_cons (pv 3) pa_nil))))) (pa_cons (pe_call (ok_corner_inner T) (hr.mono (by decide)) rfl T.m_corner_inner T.F_corner_inner.kp T.b_corner_inner .nil pass0 (pa_cons (pv 0) (pa_cons (pv 1) (pa_cons (pv 2) (pa_cons (pv 3) pa_nil))))) pa_nil)) (by rfl))
      (Evl.pss_cut (ps_set (i := 6) sc__law_shuts_right.nd rfl (Or.inl rfl) (pe_op op_add (pe_op op_add (pe_op op_add pe_int (pe_op op_mulW (pv 0) (pv 3))) (pe_op op_mulW (pv 1) (pv 3))) (pe_op op_mulW (pv 2) (pv 3))))
      (Evl.pss_cut (ps_for PassesOwn.never rfl (pi_tup (pe_tup (pa_cons (pe_tup (pa_cons (pv 0) (pa_cons (pv 1) pa_nil))) (pa_cons (pe_tup (pa_cons (pv 1) (pa_cons (pv 2) pa_nil))) (pa_cons (pe_tup (pa_cons (pv 0) (pa_cons (pv 2) pa_nil))) pa_nil))))) (pg_tup rfl (pgs_cons (pg_name (i := 7) sc__law_shuts_right.nd rfl (Or.inl rfl)) (pgs_cons (pg_name (i := 8) sc__law_shuts_right.nd rfl (Or.inl rfl)) pgs_nil)))
        (pss_one (ps_set (i := 6) sc__law_shuts_right.nd rfl (Or.inl rfl) (pe_op op_sub (pe_op op_sub (pe_op op_sub (pe_op op_add (pv 6) (pe_call (ok_triangle_points T) (hr.mono (by decide)) rfl T.m_triangle_points T.F_triangle_points.kp T.b_triangle_points .nil pass0 (pa_cons (pv 7) (pa_cons (pv 8) (pa_cons (pe_op op_mulW (pe_op op_mulW (pv 7) (pv 8)) (pv 3)) pa_nil))))) pe_int) (pe_op op_mulW (pv 7) (pv 3))) (pe_op op_mulW (pv 8) (pv 3))))))
      (Evl.pss_cut (ps_set (i := 9) sc__law_shuts_right.nd rfl (Or.inl rfl) pe_int)
      (Evl.pss_cut (ps_for PassesOwn.never rfl (pi_range2 rfl T.b_range (pa_cons pe_int (pa_cons (pv 3) pa_nil))) (pg_name (i := 10) sc__law_shuts_right.nd rfl (Or.inl rfl))
        (pss_one (ps_set (i := 9) sc__law_shuts_right.nd rfl (Or.inl rfl) (pe_op op_add (pv 9) (pv 10)))))
      (pss_one (ps_ret (pe_cmpR op_eq (pv 4) (pe_op op_add (pe_op op_add (pv 5) (pv 6)) (pe_callB (call_max2 rfl) (by rfl) T.b_max (by decide +kernel) (pa_cons pe_int (pa_cons (pe_op op_add (pe_op op_sub (pv 9) (pv 3)) pe_int) pa_nil)))) (nomark _))))))))), ?_⟩
    obtain ⟨t, rfl⟩ : ∃ n : Nat, t = n := ⟨t.toNat, by omega⟩
    have a1 := hc.a1
    have b1 := hc.b1
    have d1 := hc.c1
    have ba : Bt 4 (a : Int) := b8 (by omega) (by omega)
    have bb : Bt 4 (b : Int) := b8 (by omega) (by omega)
    have bd : Bt 4 (d : Int) := b8 (by omega) (by omega)
    have bt : Bt 6 (t : Int) := by show ((t : Int)).natAbs < 2 ^ 6; omega
    have sa : Short (a : Int) := ⟨by omega, by omega⟩
    have sb : Short (b : Int) := ⟨by omega, by omega⟩
    have sd : Short (d : Int) := ⟨by omega, by omega⟩
    have st' : Short (t : Int) := ⟨by omega, by omega⟩
    have st : L2.start n__law_shuts_right [V.int (a : Int), V.int (b : Int), V.int (d : Int), V.int (t : Int)] = [some (.int a), some (.int b), some (.int d), some (.int t), none, none, none, none, none, none, none] := rfl
    rw [st]
    have t0 : (t : Int) ≠ 0 := by omega
    obtain ⟨W, hW⟩ : ∃ W, W = cVal a b d t := ⟨_, rfl⟩
    obtain ⟨C, hC⟩ : ∃ C, C = cVal a b d (-(t : Int)) := ⟨_, rfl⟩
    refine ⟨fun σ H' => Stop (σ = [some (.int a), some (.int b), some (.int d), some (.int t), some (.int W), some (.int (-C)), none, none, none, none, none] ∧ Same H H'), ?_, ?_⟩
    · walk_at "go"
      rw [if_neg t0, ← hW, ← hC]
      exact ⟨⟨rfl, by walk_at "f"⟩⟩
    rintro σ H1 ⟨⟨rfl, s1⟩⟩
    refine ⟨fun σ H' => Stop (σ = [some (.int a), some (.int b), some (.int d), some (.int t), some (.int W), some (.int (-C)), some (.int (sS a b d t 0)), none, none, none, none] ∧ Same H1 H'), ?_, ?_⟩
    · walk_at "go"
      exact ⟨⟨rfl, by walk_at "f"⟩⟩
    rintro σ H2 ⟨⟨rfl, s2⟩⟩
    refine ⟨fun σ H' => Stop (∃ v7 v8 : Option V, σ = [some (.int a), some (.int b), some (.int d), some (.int t), some (.int W), some (.int (-C)), some (.int (sS a b d t 3)), v7, v8, none, none] ∧ Same H2 H'), ?_, ?_⟩
    · walk_at "go"
      rename_i p1 n1 p2 n2 p3 n3 p np
      have q1 := same_new (o := .tup [V.int (a : Int), V.int (b : Int)]) n1
      have q2 := same_new (o := .tup [V.int (b : Int), V.int (d : Int)]) n2
      have q3 := same_new (o := .tup [V.int (a : Int), V.int (d : Int)]) n3
      have q4 := same_new (o := .tup [V.ref p1, V.ref p2, V.ref p3]) np
      have g1 := q4 _ _ (q3 _ _ (q2 _ _ (upd_same (H := H2) (a := p1) (o := .tup [V.int (a : Int), V.int (b : Int)]))))
      have g2 := q4 _ _ (q3 _ _ (upd_same (H := upd H2 p1 (.tup [V.int (a : Int), V.int (b : Int)])) (a := p2) (o := .tup [V.int (b : Int), V.int (d : Int)])))
      have g3 := q4 _ _ (upd_same (H := upd (upd H2 p1 (.tup [V.int (a : Int), V.int (b : Int)])) p2 (.tup [V.int (b : Int), V.int (d : Int)])) (a := p3) (o := .tup [V.int (a : Int), V.int (d : Int)]))
      have g4 : (upd (upd (upd (upd H2 p1 (.tup [V.int (a : Int), V.int (b : Int)])) p2 (.tup [V.int (b : Int), V.int (d : Int)])) p3 (.tup [V.int (a : Int), V.int (d : Int)])) p (.tup [V.ref p1, V.ref p2, V.ref p3])) p = some (.tup [V.ref p1, V.ref p2, V.ref p3]) := upd_same
      have qq := q1.trans (q2.trans (q3.trans q4))
      clear q1 q2 q3 q4 n1 n2 n3 np
      generalize upd (upd (upd (upd H2 p1 (.tup [V.int (a : Int), V.int (b : Int)])) p2 (.tup [V.int (b : Int), V.int (d : Int)])) p3 (.tup [V.int (a : Int), V.int (d : Int)])) p (.tup [V.ref p1, V.ref p2, V.ref p3]) = Hx at *
      refine for_tup (K := K) (a := p) (xs := [.ref p1, .ref p2, .ref p3]) (fun j σ H' => Stop (∃ v7 v8 : Option V, σ = [some (.int a), some (.int b), some (.int d), some (.int t), some (.int W), some (.int (-C)), some (.int (sS a b d t j)), v7, v8, none, none] ∧ Same Hx H')) ⟨none, none, rfl, Same.refl _⟩ (fun j σ H' _ ⟨⟨_, _, _, s⟩⟩ => SqT.of (s _ _ g4)) ?_ ?_
      · rintro j x σ H3 hx ⟨⟨v7, v8, rfl, s3⟩⟩
        obtain ⟨r, y, z, rfl, gr, es, y1, y9, z1, z9⟩ : ∃ (r : Addr) (y z : Int), x = .ref r ∧ Hx r = some (.tup [.int y, .int z]) ∧ sS a b d t (j + 1) = sS a b d t j + Tri y z (y * z * t) - 1 - y * t - z * t ∧ 1 ≤ y ∧ y ≤ 9 ∧ 1 ≤ z ∧ z ≤ 9 := by
          rcases j with _ | _ | _ | j
          · cases hx
            exact ⟨_, a, b, rfl, g1, rfl, by omega, by omega, by omega, by omega⟩
          · cases hx
            exact ⟨_, b, d, rfl, g2, rfl, by omega, by omega, by omega, by omega⟩
          · cases hx
            exact ⟨_, a, d, rfl, g3, rfl, by omega, by omega, by omega, by omega⟩
          · cases hx
        have gr3 := s3 _ _ gr
        have yz : y * z ≤ 9 * 9 := Int.mul_le_mul y9 z9 (by omega) (by decide)
        have yz0 : 0 ≤ y * z := Int.mul_nonneg (by omega) (by omega)
        have yzt : y * z * t ≤ 9 * 9 * 40 := Int.mul_le_mul yz (by omega) (by omega) (by decide)
        have yzt0 : 0 ≤ y * z * t := Int.mul_nonneg yz0 (by omega)
        have sy : Short y := ⟨by omega, by omega⟩
        have sz : Short z := ⟨by omega, by omega⟩
        have syzt : Short (y * z * t) := ⟨by omega, by omega⟩
        have by4 : Bt 4 y := b8 (by omega) (by omega)
        have bz4 : Bt 4 z := b8 (by omega) (by omega)
        have by3 : Bt 398 y := by4.mono (by decide)
        have bz3 : Bt 398 z := bz4.mono (by decide)
        have byz : Bt 398 (y * z * t) := Bt.mono (bt_mul (bt_mul by4 bz4) bt) (by decide)
        walk_at "go"
        rename_i H4 s4
        exact ⟨⟨some (.int y), some (.int z), by rw [es]; rfl, s3.trans s4⟩⟩
      · rintro σ H3 ⟨⟨v7, v8, rfl, s3⟩⟩
        exact ⟨⟨v7, v8, rfl, qq.trans s3⟩⟩
    rintro σ H3 ⟨⟨v7, v8, rfl, s3⟩⟩
    refine ⟨fun σ H' => Stop (σ = [some (.int a), some (.int b), some (.int d), some (.int t), some (.int W), some (.int (-C)), some (.int (sS a b d t 3)), v7, v8, some (.int 0), none] ∧ Same H3 H'), ?_, ?_⟩
    · walk_at "go"
      exact ⟨⟨rfl, Same.refl _⟩⟩
    rintro σ H4 ⟨⟨rfl, s4⟩⟩
    refine ⟨fun σ H' => Stop (∃ (N : Int) (v10 : Option V), σ = [some (.int a), some (.int b), some (.int d), some (.int t), some (.int W), some (.int (-C)), some (.int (sS a b d t 3)), v7, v8, some (.int N), v10] ∧ Same H4 H' ∧ 2 * N = ((t : Int) - 1) * (t : Int)), ?_, ?_⟩
    · walk_at "go"
      refine for_range (fun i σ H' => Stop (∃ (N : Int) (v10 : Option V), σ = [some (.int a), some (.int b), some (.int d), some (.int t), some (.int W), some (.int (-C)), some (.int (sS a b d t 3)), v7, v8, some (.int N), v10] ∧ Same H4 H' ∧ 2 * N = (i : Int) * ((i : Int) + 1))) ⟨0, _, rfl, Same.refl _, rfl⟩ ?_ ?_
      · rintro i σ H5 hi ⟨⟨N, v10, rfl, s5, hN⟩⟩
        walk_at "go"
        refine ⟨⟨N + (1 + (i : Int)), _, rfl, s5, ?_⟩⟩
        rw [Int.mul_add, hN, Int.natCast_add]
        show (i : Int) * ((i : Int) + 1) + 2 * (1 + (i : Int)) = ((i : Int) + 1) * ((i : Int) + 1 + 1)
        grind
      · rintro σ H5 ⟨⟨N, v10, rfl, s5, hN⟩⟩
        have hN : 2 * N = ((((t : Int) - 1).toNat : Nat) : Int) * (((((t : Int) - 1).toNat : Nat) : Int) + 1) := hN
        rw [show ((((t : Int) - 1).toNat : Nat) : Int) = (t : Int) - 1 by omega, Int.sub_add_cancel] at hN
        exact ⟨⟨N, v10, rfl, s5, hN⟩⟩
    rintro σ H5 ⟨⟨N, v10, rfl, s5, hN⟩⟩
    have key := shut_sum (a := a) (b := b) (d := d) (t := t) (W := W) (C := C) (by rw [hW, hC]; exact open_shut hc a9 b9 c9 t) (by have := PT_box (a := a) (b := b) (t := t) (by omega) (by omega) (by omega); rw [hc.ab] at this; exact this) (by have := PT_box (a := b) (b := d) (t := t) (by omega) (by omega) (by omega); rw [hc.bc] at this; exact this) (by have := PT_box (a := a) (b := d) (t := t) (by omega) (by omega) (by omega); rw [show gc (a : Int) (d : Int) = 1 by rw [gc_comm]; exact hc.ca] at this; exact this) hN (by omega)
    walk_at "go"
    have kk : ∀ (x y : Int) (H' : Hp), x = y → Same H H' → Q (.bl (decide (V.int x = V.int y))) H' := fun x y H' e s => by
      subst e
      rw [decide_eq_true rfl]
      exact k H' s
    exact kk _ _ _ key (s1.trans (s2.trans (s3.trans (s4.trans s5))))
end
end Tk


set_option maxHeartbeats 2000000
namespace Tk
open PySem PySem.Spec PyProof.Rows L2 Tc
section
variable {P : Program} {w : World} {K : PySem.W.Frag} {mg : Str → Option Value} {base : Heap} {A : Ad}
open Tm
local macro_rules | `(tactic| walk_at "arr") => `(tactic| first
  | with_reducible assumption
  | ((with_reducible apply same_new); with_reducible assumption))
local macro_rules | `(tactic| walk_at "f") => `(tactic| first
  | with_reducible assumption
  | with_reducible exact upd_same
  | with_reducible exact Same.refl _
  | with_reducible exact Frm.refl
  | ((with_reducible apply sqL_K); (focus with_reducible assumption); rfl)
  | ((with_reducible apply sqT_K); (focus with_reducible assumption); rfl)
  | ((with_reducible apply SqT.of); walk_at "f")
  | ((with_reducible apply SqL.of); walk_at "f")
  | ((with_reducible apply back_raw); (focus walk_at "arr"); walk_at "f")
  | ((with_reducible apply frm_tup); (focus with_reducible assumption); (focus walk_at "f"); (focus walk_at "f"); (focus (intro _ z; cases z; done)))
  | ((with_reducible apply frm_raw); (focus with_reducible assumption); (focus walk_at "f"); walk_at "f")
  | ((with_reducible apply bowl_back); (focus walk_at "arr"); walk_at "f")
  | ((with_reducible apply bowl_ne); (focus with_reducible assumption); walk_at "f")
  | ((with_reducible apply Num.int); with_reducible assumption)
  | ((with_reducible apply same_snoc); (focus walk_at "arr"); walk_at "f")
  | ((with_reducible apply frm_back); (focus walk_at "arr"); walk_at "f")
  | ((with_reducible apply frm_backF); (focus with_reducible assumption); walk_at "f")
  | ((with_reducible apply back_sqT); (focus walk_at "arr"); walk_at "f")
  | ((with_reducible apply same_sqL); (focus walk_at "arr"); walk_at "f")
  | ((with_reducible apply free_same); (focus with_reducible assumption); walk_at "f")
  | ((with_reducible apply free_frm); (focus with_reducible assumption); (focus with_reducible assumption); walk_at "f")
  | ((with_reducible apply frm_sqL); (focus with_reducible assumption); (focus walk_at "f"); walk_at "f"))
local macro_rules | `(tactic| walk_at "bt") => `(tactic| first
  | with_reducible assumption
  | ((with_reducible apply bt_mul); (focus walk_at "bt"); walk_at "bt")
  | ((with_reducible apply bt_add); (focus walk_at "bt"); walk_at "bt")
  | ((with_reducible apply bt_sub); (focus walk_at "bt"); walk_at "bt")
  | ((with_reducible apply bt_neg); walk_at "bt")
  | ((with_reducible apply bt_div); walk_at "bt")
  | ((with_reducible apply bt_mod); (focus (first | assumption | omega)); walk_at "bt")
  | exact bt_lit (n := 64) (by decide)
  | exact bt_lit (n := 200) (by decide +kernel))
local macro_rules | `(tactic| walk_at "lin") => `(tactic| first
  | exact (by decide : 1 ≤ sizeLine) | exact (by decide : 2 ≤ sizeLine) | exact (by decide : 3 ≤ sizeLine) | exact (by decide : 4 ≤ sizeLine) | exact (by decide : 0 ≤ sizeLine) | exact (by decide : 5 ≤ sizeLine) | exact (by decide : 6 ≤ sizeLine))
local macro_rules | `(tactic| walk_at "dp") => `(tactic| first
  | exact Dp.int _
  | exact DpAll.nil
  | ((with_reducible apply Dp.lst); (focus walk_at "f"); walk_at "dp")
  | ((with_reducible apply Dp.tup); (focus walk_at "f"); walk_at "dp")
  | ((with_reducible apply DpAll.cons); (focus walk_at "dp"); walk_at "dp"))
local macro_rules | `(tactic| walk_at "sv") => `(tactic| first
  | with_reducible rfl
  | walk_at "f"
  | exact rfl
  | walk_at "dp"
  | exact shp_lst [_] | exact shp_lst [_, _] | exact shp_lst [_, _, _] | exact shp_lst [_, _, _, _] | exact shp_tup [_, _] | exact shp_tup [_, _, _]
  | ((apply tyV_lst); walk_at "f")
  | ((with_reducible apply bt_mulW); (focus walk_at "bt"); (focus walk_at "bt"); (focus (first | decide | omega)))
  | ((with_reducible apply bt_divW); (focus (first | decide | assumption | omega)); (focus walk_at "bt"); (focus (first | decide | omega)))
  | ((with_reducible apply bt_divP); (focus (first | decide | assumption | omega)); (focus walk_at "bt"); (focus (first | decide | omega)))
  | exact ⟨by decide, by decide +kernel⟩
  | exact Or.inl (by decide)
  | exact Or.inr (by decide)
  | exact Or.inl ⟨by omega, by omega⟩
  | exact Or.inr ⟨by omega, by omega⟩
  | ((with_reducible apply Or.inl); walk_at "sv")
  | ((with_reducible apply Or.inr); walk_at "sv")
  | ((with_reducible apply Exists.intro); walk_at "sv")
  | ((with_reducible apply And.intro); (focus walk_at "sv"); walk_at "sv")
  | walk_at "lin"
  | decide
  | omega
  | (simp only [List.length_cons, List.length_nil, List.length_map]; first | done | omega))
local macro_rules | `(tactic| walk_at "one") => `(tactic| first
  | ((fail_if_success refine' @Exists.intro (Nat → L2.St → Hp → Prop) _ ?_ ?_); (fail_if_success refine' @Exists.intro (Nat → Nat → L2.St → Hp → Prop) _ ?_ ?_); (fail_if_success refine' @Exists.intro (L2.St → Hp → Prop) _ ?_ ?_); (fail_if_success refine' @Exists.intro (Nat → Nat → Hp → Prop) _ ?_ ?_); (fail_if_success refine' @Exists.intro (Hp → Prop) _ ?_ ?_); apply Exists.intro)
  | (apply And.intro; (focus walk_at "sv"))
  | intro _
  | (apply ifT; (focus rfl))
  | (apply ifF; (focus rfl))
  | ((apply Or.inl); (apply Exists.intro); (apply And.intro); (focus exact rfl))
  | ((apply Or.inl); (apply And.intro); (focus walk_at "f"))
  | ((apply Or.inr); (apply Exists.intro); (apply And.intro); (focus exact rfl))
  | (apply ifTd; (focus (first | assumption | omega)))
  | (apply ifFd; (focus (first | assumption | omega))))
local macro_rules | `(tactic| walk_at "go") => `(tactic| repeat walk_at "one")
local macro_rules | `(tactic| walk_at "nm") => `(tactic| try simp only [List.set_cons_zero, List.set_cons_succ])
local macro_rules | `(tactic| walk_at "gon") => `(tactic| repeat (walk_at "one"; walk_at "nm"))

theorem TpA.dpF {H : Hp} : ∀ {as : List Addr} {qs : List Rat}, TpA H as (qs.map frV) → DpAll K H (as.map V.ref) (dPairs (qs.map fun q => (q.num, (q.den : Int))))
  | [], [], _ => .nil
  | [], q :: qs, h => nomatch h
  | a :: as, [], h => nomatch h
  | a :: as, q :: qs, .cons h t => .cons (.tup (SqT.of h) (.cons (.int _) (.cons (.int _) .nil))) t.dpF
theorem shp_lpairsZ (cs : List (Int × Int)) : SeqAt.shaped (.list (dPairs cs)) = true := by
  unfold SeqAt.shaped
  rw [PyData.canLay0, PyData.depth, canLay_pairs]
  have := depth_pairs cs
  rw [decide_eq_true (by omega)]
  rfl
theorem ppair.len {H : Hp} {C : Addr} : ∀ {ps : List Addr} {qs : List Rat}, ppair H C ps qs → ps.length = qs.length
  | [], [], _ => rfl
  | _ :: _, _ :: _, ⟨_, t⟩ => congrArg (· + 1) (ppair.len t)
  | [], _ :: _, h => h.elim
  | _ :: _, [], h => h.elim
theorem ppair.get {H : Hp} {C : Addr} : ∀ {ps : List Addr} {qs : List Rat} {j : Nat} {p : Addr}, ppair H C ps qs → ps[j]? = some p → ∃ q, qs[j]? = some q ∧ RatAt C H p q
  | [], [], _, _, _, h => by cases h
  | p :: ps, q :: qs, 0, _, ⟨L, _⟩, h => ⟨q, rfl, by injection h with h; rw [← h]; exact L⟩
  | _ :: _, _ :: _, j + 1, _, ⟨_, t⟩, h => by
    obtain ⟨q, h1, h2⟩ := ppair.get (j := j) t (by simpa using h)
    exact ⟨q, by simpa using h1, h2⟩
  | [], _ :: _, _, _, h, _ => h.elim
  | _ :: _, [], _, _, h, _ => h.elim
theorem crat_sz {a b c : Nat} {q : Rat} (hc : Cop (a : Int) (b : Int) (c : Int)) (a9 : a ≤ 9) (b9 : b ≤ 9) (c9 : c ≤ 9) (h : q ∈ (cRow a b c).map (cRat a b c)) : Rsz 4000 q := by
  have a1 := hc.a1
  have b1 := hc.b1
  have c1 := hc.c1
  obtain ⟨t0, t1, t2, t3⟩ := tops_bd (show (1 : Int) ≤ a by omega) (show (1 : Int) ≤ b by omega) (show (1 : Int) ≤ c by omega) (show (a : Int) ≤ 9 by omega) (show (b : Int) ≤ 9 by omega) (show (c : Int) ≤ 9 by omega)
  have B0 : 0 < 12 * (a : Int) * (b : Int) * (c : Int) := Int.mul_pos (Int.mul_pos (by omega) (by omega)) (by omega)
  have ba : Bt 4 (a : Int) := b8 (by omega) (by omega)
  have bb : Bt 4 (b : Int) := b8 (by omega) (by omega)
  have bd : Bt 4 (c : Int) := b8 (by omega) (by omega)
  have bB : Bt 20 (12 * (a : Int) * (b : Int) * (c : Int)) := Bt.mono (bt_mul (bt_mul (bt_mul (bt_lit (n := 4) (x := 12) (by decide)) ba) bb) bd) (by decide)
  obtain ⟨x, hx, rfl⟩ := List.mem_map.mp h
  have hb : Bt 60 x := by
    unfold cRow at hx
    simp only [List.mem_cons, List.not_mem_nil, or_false] at hx
    rcases hx with z | z | z | z <;> rw [z] <;> assumption
  exact divInt_small (by omega) (hb.mono (by decide)) (bB.mono (by decide))
theorem row_sw (a b c : Int) : (cRow b a c).map (cRat b a c) = (cRow a b c).map (cRat a b c) := by
  unfold cRow cRat
  rw [tops_sw, show 12 * b * a * c = 12 * a * b * c by grind]
theorem at_zeroZ {α : Type} (x : α) (xs : List α) : atI (x :: xs) 0 = some x := by
  unfold atI ixN
  rw [if_pos (Int.le_refl 0), if_pos (by rw [List.length_cons]; omega)]
  rfl
theorem half_two (t : Int) : (t + 1) * (t + 2) / 2 * 2 = (t + 1) * (t + 2) := by
  have h : (t + 1) * (t + 2) % 2 = 0 := by
    rcases Int.emod_two_eq t with z | z
    · rw [Int.mul_emod, show (t + 2) % 2 = 0 by omega, Int.mul_zero]
      rfl
    · rw [Int.mul_emod, show (t + 1) % 2 = 0 by omega, Int.zero_mul]
      rfl
  omega
local macro_rules | `(tactic| walk_at "arr") => `(tactic| first
  | ((with_reducible apply made2); (focus with_reducible assumption); (focus with_reducible assumption); with_reducible assumption)
  | ((with_reducible apply same_up); (focus with_reducible assumption); with_reducible assumption))
local macro_rules | `(tactic| walk_at "f") => `(tactic| first
  | ((with_reducible apply Num.long); walk_at "f")
  | ((with_reducible apply ratu_back); (focus walk_at "arr"); walk_at "f")
  | ((with_reducible apply ratu_frm); (focus with_reducible assumption); (focus walk_at "f"); walk_at "f")
  | ((with_reducible apply rat_back); (focus walk_at "arr"); walk_at "f")
  | ((with_reducible apply rat_frm); (focus with_reducible assumption); (focus walk_at "f"); walk_at "f")
  | ((with_reducible apply ratb_u); (focus with_reducible assumption); with_reducible assumption)
  | ((with_reducible apply ratb_at); (focus with_reducible assumption); with_reducible assumption)
  | ((with_reducible apply ratb_back); (focus walk_at "arr"); walk_at "f")
  | ((with_reducible apply ratb_frm); (focus with_reducible assumption); (focus walk_at "f"); walk_at "f")
  | ((with_reducible apply Rn.rat); walk_at "f")
  | ((with_reducible apply Rn.int); with_reducible assumption)
  | ((with_reducible apply rat_raw); walk_at "f")
  | ((with_reducible apply ratb_raw); walk_at "f"))
local macro_rules | `(tactic| walk_at "f") => `(tactic| first
  | ((apply ty_rat); (focus assumption); walk_at "f")
  | ((apply ty_ratb); (focus assumption); walk_at "f")
  | exact nf_self
  | exact TyX.base (.int _)
  | ((with_reducible apply Pay.two); (focus with_reducible assumption); (focus with_reducible assumption); (focus (first | with_reducible assumption | decide)); (first | with_reducible assumption | rfl))
  | ((with_reducible apply nf_K); (focus with_reducible assumption); rfl)
  | exact bt_lit (by decide +kernel))
local macro_rules | `(tactic| walk_at "one") => `(tactic| ((apply Or.inl); (apply Exists.intro); (apply Exists.intro); (apply And.intro); (focus exact rfl)))
local macro_rules | `(tactic| walk_at "f") => `(tactic| first
  | ((with_reducible apply frT_K); (focus with_reducible assumption); rfl)
  | ((with_reducible apply frt); (focus with_reducible assumption))
  | ((with_reducible apply frt_back); (focus walk_at "arr"); walk_at "f")
  | ((with_reducible apply frt_frm); (focus with_reducible assumption); (focus walk_at "f"); walk_at "f"))
local macro_rules | `(tactic| walk_at "sv") => `(tactic| first
  | ((with_reducible refine lt_line ?_); simp only [List.length_append, List.length_cons, List.length_nil, List.length_map, List.length_replicate, List.length_range]; omega)
  | ((with_reducible refine Nat.le_of_lt (lt_line ?_)); simp only [List.length_append, List.length_cons, List.length_nil, List.length_map, List.length_replicate, List.length_range]; omega))
def sp__law_right (A : Ad) : Sp := fun vs H Q _ => ∃ (c : Addr), vs = [.ref c] ∧ Bowl H c ∧ ∀ H', Frm c H H' → Bowl H' c → Q (.bl true) H'
theorem ok__law_right (T : Txt K mg A) : FnOk P w K mg base CX0 13 A.f__law_right A.d__law_right ["_law_purse"] (sp__law_right A) := by
  refine T.F__law_right.ok sc__law_right (fun vs H Q E h => ?_) (fun cdv Ar outer s H vs Q E hr h => ?_)
  · obtain ⟨_, rfl, _⟩ := h
    rfl
  · obtain ⟨c, rfl, hB, k⟩ := h
    have hu := hu_of hr
    refine ⟨_, (Evl.pss_cut (ps_asg (pe_call (ok__law_box_drawn T) (hr.mono (by decide)) rfl T.m__law_box_drawn T.F__law_box_drawn.kp T.b__law_box_drawn .nil pass0 (pa_cons (pv 0) (pa_cons pe_int pa_nil))) (pg_tup rfl (pgs_cons (pg_name (i := 1) sc__law_right.nd rfl (Or.inr rfl)) (pgs_cons (pg_name (i := 2) sc__law_right.nd rfl (Or.inr rfl)) (pgs_cons (pg_name (i := 3) sc__law_right.nd rfl (Or.inr rfl)) pgs_nil)))))
      (Evl.pss_cut (ps_setLc (i := 4) (own := [("_law_one", 5)]) (g := gName 5) rfl sc__law_right.nd rfl rfl (sw_true rfl rfl rfl (by decide +kernel)) (pi_tup (pe_call (ok_corner_polynomial T) (hr.mono (by decide)) rfl T.m_corner_polynomial T.F_corner_polynomial.kp T.b_corner_polynomial .nil pass0 (pa_cons (pv 1) (pa_cons (pv 2) (pa_cons (pv 3) pa_nil))))) (blkOk_by (own := [("_law_one", 5)]) (N := n__law_right) (sc := defScope s__law_right) (by decide +kernel)) (fun _ _ _ _ _ => pg_name (i := 5) sc__law_right.nd rfl (Or.inl rfl)) (fun _ _ _ _ _ => pts_nil) (fun _ _ _ _ _ => (pe_call (ok__law_pair_of T) (hr.mono (by decide)) rfl T.m__law_pair_of T.F__law_pair_of.kp T.b__law_pair_of .nil pass0 (pa_cons (pv 5) pa_nil))))
      (Evl.pss_cut (ps_if (PW.pt (pw_or (pt_cmpR op_ne (pe_callB call_len_seq (by rfl) T.b_len (by decide +kernel) (pa_cons (pv 4) pa_nil)) pe_int (nomark _)) (pw_or (pt_not (pt_val (pe_callB call_isi (by rfl) T.b_isinstance (by decide +kernel) (pa_cons (pe_call (ok_corner_polynomial T) (hr.mono (by decide)) rfl T.m_corner_polynomial T.F_corner_polynomial.kp T.b_corner_polynomial .nil pass0 (pa_cons (pv 1) (pa_cons (pv 2) (pa_cons (pv 3) pa_nil)))) (pa_cons (pe_bltn (v := .ty "tuple") (by rfl) T.b_tuple (by decide +kernel) rfl) pa_nil))))) (pw_or1 (pt_not (pt_val (pe_call (ok__law_force_right T) (hr.mono (by decide)) rfl T.m__law_force_right T.F__law_force_right.kp T.b__law_force_right .nil pass0 (pa_cons (pv 1) (pa_cons (pv 2) (pa_cons (pv 3) (pa_cons (pv 4) pa_nil)))))))))))
        (pss_one (ps_ret pe_bl))
        pss_nil)
      (Evl.pss_cut (ps_if (PW.pt (pw_or (pt_cmpR (op_neD hr.units) (pe_lc (own := [("_law_one", 5)]) (g := gName 5) rfl sc__law_right.nd (pi_tup (pe_call (ok_corner_polynomial T) (hr.mono (by decide)) rfl T.m_corner_polynomial T.F_corner_polynomial.kp T.b_corner_polynomial .nil pass0 (pa_cons (pv 2) (pa_cons (pv 1) (pa_cons (pv 3) pa_nil))))) (blkOk_by (own := [("_law_one", 5)]) (N := n__law_right) (sc := defScope s__law_right) (by decide +kernel)) (fun _ _ _ _ _ => pg_name (i := 5) sc__law_right.nd rfl (Or.inl rfl)) (fun _ _ _ _ _ => pts_nil) (fun _ _ _ _ _ => (pe_call (ok__law_pair_of T) (hr.mono (by decide)) rfl T.m__law_pair_of T.F__law_pair_of.kp T.b__law_pair_of .nil pass0 (pa_cons (pv 5) pa_nil)))) (pv 4) (nomark _)) (pw_or1 (pt_cmpR (op_neD hr.units) (pe_ix ix_list (pv 4) pe_int (fun _ _ => rfl)) (pe_tup (pa_cons pe_int (pa_cons pe_int pa_nil))) (nomark _)))))
        (pss_one (ps_ret pe_bl))
        pss_nil)
      (Evl.pss_cut (ps_set (i := 6) sc__law_right.nd rfl (Or.inr rfl) (pe_call (ok__law_great T) (hr.mono (by decide)) rfl T.m__law_great T.F__law_great.kp T.b__law_great .nil pass0 (pa_cons (pv 0) (pa_cons pe_int pa_nil))))
      (Evl.pss_cut (ps_setLc (i := 7) (own := [("_law_step", 8)]) (g := gName 8) rfl sc__law_right.nd rfl rfl (sw_true rfl rfl rfl (by decide +kernel)) (pi_range1 rfl T.b_range (pa_cons pe_int pa_nil)) (blkOk_by (own := [("_law_step", 8)]) (N := n__law_right) (sc := defScope s__law_right) (by decide +kernel)) (fun _ _ _ _ _ => pg_name (i := 8) sc__law_right.nd rfl (Or.inl rfl)) (fun _ _ _ _ _ => pts_nil) (fun _ _ _ _ _ => (pe_call (ok_corner_points T) (hr.mono (by decide)) rfl T.m_corner_points T.F_corner_points.kp T.b_corner_points .nil pass0 (pa_cons (pv 1) (pa_cons (pv 2) (pa_cons (pv 3) (pa_cons (pe_op op_add (pv 6) (pv 8)) pa_nil)))))))
      (Evl.pss_cut (ps_if (PW.pt (pw_or (pt_cmpR op_ne (pe_op op_sub (pe_op op_add (pe_op op_sub (pe_ix ix_list (pv 7) pe_int (fun _ _ => rfl)) (pe_op op_mul pe_int (pe_ix ix_list (pv 7) pe_int (fun _ _ => rfl)))) (pe_op op_mul pe_int (pe_ix ix_list (pv 7) pe_int (fun _ _ => rfl)))) (pe_ix ix_list (pv 7) pe_int (fun _ _ => rfl))) (pe_op op_mulW (pe_op op_mulW (pv 1) (pv 2)) (pv 3)) (nomark _)) (pw_or1 (pt_cmpR (op_neD hr.units) (pe_tup (pa_cons (pe_ix ix_list (pv 7) pe_int (fun _ _ => rfl)) (pa_cons pe_int pa_nil))) (pe_call (ok__law_value T) (hr.mono (by decide)) rfl T.m__law_value T.F__law_value.kp T.b__law_value .nil pass0 (pa_cons (pv 4) (pa_cons (pv 6) pa_nil))) (nomark _)))))
        (pss_one (ps_ret pe_bl))
        pss_nil)
      (Evl.pss_cut (ps_if (pt_cmpR op_ne (pe_op op_mul (pe_call (ok_corner_face T) (hr.mono (by decide)) rfl T.m_corner_face T.F_corner_face.kp T.b_corner_face .nil pass0 (pa_cons (pv 1) (pa_cons (pv 2) (pa_cons (pv 3) (pa_cons (pv 6) pa_nil))))) pe_int) (pe_op op_mulW (pe_op op_add (pv 6) pe_int) (pe_op op_add (pv 6) pe_int)) (nomark _))
        (pss_one (ps_ret pe_bl))
        pss_nil)
      (pss_one (ps_ret (pe_call (ok__law_shuts_right T) (hr.mono (by decide)) rfl T.m__law_shuts_right T.F__law_shuts_right.kp T.b__law_shuts_right .nil pass0 (pa_cons (pv 1) (pa_cons (pv 2) (pa_cons (pv 3) (pa_cons (pe_op op_add pe_int (pe_call (ok__law_coin T) (hr.mono (by decide)) rfl T.m__law_coin T.F__law_coin.kp T.b__law_coin .nil pass0 (pa_cons (pv 0) (pa_cons pe_int pa_nil)))) pa_nil))))))))))))))), ?_⟩
    have st : L2.start n__law_right [V.ref c] = [some (.ref c), none, none, none, none, none, none, none, none] := rfl
    rw [st]
    refine ⟨fun σ H' => Stop (∃ x y z : Int, σ = [some (.ref c), some (.int x), some (.int y), some (.int z), none, none, none, none, none] ∧ Frm c H H' ∧ Bowl H' c ∧ Cop x y z ∧ x ≤ 9 ∧ y ≤ 9 ∧ z ≤ 9), ?_, ?_⟩
    · walk_at "go"
      rename_i p x y z H1 np f1 B1 gp hc x7 y7 z7
      exact ⟨⟨x, y, z, rfl, f1, B1, hc, x7, y7, z7⟩⟩
    rintro σ H1 ⟨⟨x, y, z, rfl, f1, B1, hc, x7, y7, z7⟩⟩
    obtain ⟨a, rfl⟩ : ∃ n : Nat, x = n := ⟨x.toNat, by have := hc.a1; omega⟩
    obtain ⟨b, rfl⟩ : ∃ n : Nat, y = n := ⟨y.toNat, by have := hc.b1; omega⟩
    obtain ⟨d, rfl⟩ : ∃ n : Nat, z = n := ⟨z.toNat, by have := hc.c1; omega⟩
    have a1 := hc.a1
    have b1 := hc.b1
    have d1 := hc.c1
    have hc2 : Cop (b : Int) (a : Int) (d : Int) := ⟨hc.b1, hc.a1, hc.c1, by rw [gc_comm]; exact hc.ab, by rw [gc_comm]; exact hc.ca, by rw [gc_comm]; exact hc.bc⟩
    have sa : Short (a : Int) := ⟨by omega, by omega⟩
    have sb : Short (b : Int) := ⟨by omega, by omega⟩
    have sd : Short (d : Int) := ⟨by omega, by omega⟩
    have ba : Bt 4 (a : Int) := b8 (by omega) (by omega)
    have bb : Bt 4 (b : Int) := b8 (by omega) (by omega)
    have bd : Bt 4 (d : Int) := b8 (by omega) (by omega)
    have B0 : 0 < 12 * (a : Int) * (b : Int) * (d : Int) := Int.mul_pos (Int.mul_pos (by omega) (by omega)) (by omega)
    have bB : Bt 20 (12 * (a : Int) * (b : Int) * (d : Int)) := Bt.mono (bt_mul (bt_mul (bt_mul (bt_lit (n := 4) (x := 12) (by decide)) ba) bb) bd) (by decide)
    obtain ⟨K1, _⟩ := box_facts hc (by omega) (by omega) (by omega)
    obtain ⟨u0, u1, u2, u3⟩ := tops_bd (show (1 : Int) ≤ a by omega) (show (1 : Int) ≤ b by omega) (show (1 : Int) ≤ d by omega) (show (a : Int) ≤ 9 by omega) (show (b : Int) ≤ 9 by omega) (show (d : Int) ≤ 9 by omega)
    refine ⟨fun σ H' => Stop (∃ (l : Addr) (as : List Addr), σ = [some (.ref c), some (.int a), some (.int b), some (.int d), some (.ref l), none, none, none, none] ∧ Same H1 H' ∧ H' l = some (.lst (as.map V.ref)) ∧ TpA H' as (((cRow a b d).map (cRat a b d)).map frV)), ?_, ?_⟩
    · walk_at "go"
      rename_i tq ps H2 ntq s2 gt gR D hD
      refine lc_tup (K := K) (a := tq) (xs := ps.map V.ref) (fun j H' => Stop (∃ as : List Addr, H' D = some (.lst (as.map V.ref)) ∧ TpA H' as ((((cRow a b d).map (cRat a b d)).take j).map frV) ∧ Same H2 H')) ⟨[], upd_same, .nil, same_new hD⟩ (fun j H' _ ⟨⟨_, _, _, s⟩⟩ => SqT.of (s _ _ gt)) ?_ ?_
      · rintro j x H3 hx ⟨⟨as, gD, gT, sD⟩⟩
        obtain ⟨p, hp, rfl⟩ : ∃ p, ps[j]? = some p ∧ V.ref p = x := by
          rw [List.getElem?_map, Option.map_eq_some_iff] at hx
          exact hx
        obtain ⟨q, hq, L⟩ := gR.get hp
        have Lb := (L.stay (same_sol sD)).b (crat_sz hc (by omega) (by omega) (by omega) (by exact List.mem_of_getElem? hq))
        have et : ((cRow a b d).map (cRat a b d)).take (j + 1) = ((cRow a b d).map (cRat a b d)).take j ++ [q] := by rw [List.take_add_one, hq]; rfl
        have l4 := gT.len
        have j4 : j < 4 := (List.getElem?_eq_some_iff.mp hq).1
        have hl : (as.map V.ref).length < sizeLine := lt_line (by
          rw [List.length_map] at l4 ⊢
          have := List.length_take_le j ((cRow a b d).map (cRat a b d))
          omega)
        walk_at "go"
        rename_i tn H4 ntn s4 gtn
        have gl := s4 _ _ gD
        refine ⟨⟨as ++ [tn], ?_, ?_, same_mut (sD.trans s4) hD⟩⟩
        · rw [upd_same, List.map_append]
          rfl
        · rw [et, List.map_append]
          exact TpA.snoc (tup_mutZ gl gtn) (gT.stay fun b xs e => tup_mutZ gl (s4 _ _ e))
      · rintro H3 ⟨⟨as, gD, gT, sD⟩⟩
        rw [List.take_of_length_le (by rw [List.length_map, List.length_map, gR.len, List.length_map]; exact Nat.le_refl _)] at gT
        exact ⟨⟨D, as, rfl, s2.trans sD, gD, gT⟩⟩
    rintro σ H2 ⟨⟨l, as, rfl, s2, gl, gT⟩⟩
    have las : as.length = 4 := gT.len
    have f2 : Frm c H H2 := f1.trans (same_frame s2)
    have B2 := B1.stay s2
    refine ⟨fun σ H' => Stop (σ = [some (.ref c), some (.int a), some (.int b), some (.int d), some (.ref l), none, none, none, none] ∧ Same H2 H'), ?_, ?_⟩
    · walk_at "go"
      refine ifF (c := !decide (V.int ((as.map V.ref).length : Nat) = V.int 4)) (by rw [List.length_map, las]; rfl) ?_
      walk_at "go"
      rename_i tq ps Hq ntq sq gtq gRq
      refine ⟨.ty "tuple", .base (.tup gtq), by unfold PySem.W.kitOne; rw [if_pos (by rfl)], ?_⟩
      have glq := sq _ _ gl
      have gTq := gT.stay fun b xs e => sq _ _ e
      have a9 : a ≤ 9 := by omega
      have b9 : b ≤ 9 := by omega
      have d9 : d ≤ 9 := by omega
      walk_at "go"
      exact ⟨⟨rfl, by walk_at "f"⟩⟩
    rintro σ H3 ⟨⟨rfl, s3⟩⟩
    have gl3 := s3 _ _ gl
    have gT3 := gT.stay fun b xs e => s3 _ _ e
    refine ⟨fun σ H' => Stop (σ = [some (.ref c), some (.int a), some (.int b), some (.int d), some (.ref l), none, none, none, none] ∧ Same H3 H'), ?_, ?_⟩
    · walk_at "go"
      rename_i tq ps H5 ntq s5 gt gR D hD
      refine lc_tup (K := K) (a := tq) (xs := ps.map V.ref) (fun j H' => Stop (∃ as2 : List Addr, H' D = some (.lst (as2.map V.ref)) ∧ TpA H' as2 ((((cRow b a d).map (cRat b a d)).take j).map frV) ∧ Same H5 H')) ⟨[], upd_same, .nil, same_new hD⟩ (fun j H' _ ⟨⟨_, _, _, s⟩⟩ => SqT.of (s _ _ gt)) ?_ ?_
      · rintro j x H6 hx ⟨⟨as2, gD, gT2, sD⟩⟩
        obtain ⟨p, hp, rfl⟩ : ∃ p, ps[j]? = some p ∧ V.ref p = x := by
          rw [List.getElem?_map, Option.map_eq_some_iff] at hx
          exact hx
        obtain ⟨q, hq, L⟩ := gR.get hp
        have Lb := (L.stay (same_sol sD)).b (crat_sz hc2 (by omega) (by omega) (by omega) (by exact List.mem_of_getElem? hq))
        have et : ((cRow b a d).map (cRat b a d)).take (j + 1) = ((cRow b a d).map (cRat b a d)).take j ++ [q] := by rw [List.take_add_one, hq]; rfl
        have l4 := gT2.len
        have j4 : j < 4 := (List.getElem?_eq_some_iff.mp hq).1
        have hl : (as2.map V.ref).length < sizeLine := lt_line (by
          rw [List.length_map] at l4 ⊢
          have := List.length_take_le j ((cRow b a d).map (cRat b a d))
          omega)
        walk_at "go"
        rename_i tn H7 ntn s7 gtn
        have gl := s7 _ _ gD
        refine ⟨⟨as2 ++ [tn], ?_, ?_, same_mut (sD.trans s7) hD⟩⟩
        · rw [upd_same, List.map_append]
          rfl
        · rw [et, List.map_append]
          exact TpA.snoc (tup_mutZ gl gtn) (gT2.stay fun b xs e => tup_mutZ gl (s7 _ _ e))
      · rintro H6 ⟨⟨as2, gD, gT2, sD⟩⟩
        rw [List.take_of_length_le (by rw [List.length_map, List.length_map, gR.len, List.length_map]; exact Nat.le_refl _), row_sw] at gT2
        have gl6 := sD _ _ (s5 _ _ gl3)
        have gT6 := gT3.stay fun b xs e => sD _ _ (s5 _ _ e)
        walk_at "go"
        apply And.intro
        · exact Dp.lst (SqL.of gD) gT2.dpF
        apply And.intro
        · exact Dp.lst (SqL.of gl6) gT6.dpF
        refine ⟨shp_lpairsZ _, shp_lpairsZ _, ⟨_, rfl, ?_⟩⟩
        refine ifF (c := !PyData.eqv (.list (dPairs (((cRow a b d).map (cRat a b d)).map fun q => (q.num, (q.den : Int))))) (.list (dPairs (((cRow a b d).map (cRat a b d)).map fun q => (q.num, (q.den : Int)))))) (by rw [eqv_self (shp_lpairsZ _)]; rfl) ?_
        obtain ⟨r0, rest, ea⟩ : ∃ r0 rest, as = r0 :: rest := by
          cases as with
          | nil => cases las
          | cons r0 rest => exact ⟨_, _, rfl⟩
        have g0 : H6 r0 = some (.tup (frV (cRat a b d (cTops a b d).1))) := by
          rw [ea] at gT6
          cases gT6 with
          | cons g t => exact g
        have i0 : atI (as.map V.ref) 0 = some (V.ref r0) := by rw [ea]; exact at_zeroZ _ _
        have e1 : frV (cRat a b d (cTops a b d).1) = [V.int 1, V.int 1] := by
          unfold frV cRat
          rw [top_0, show Rat.divInt (12 * (a : Int) * b * d) (12 * (a : Int) * b * d) = 1 by
            have b0 : ((12 * (a : Int) * b * d : Int) : Rat) ≠ 0 := fun z => (show (12 * (a : Int) * b * d) ≠ 0 by omega) (Rat.intCast_inj.mp z)
            rw [Rat.divInt_eq_div, Rat.div_def, Rat.mul_inv_cancel _ b0]]
          rfl
        rw [e1] at g0
        walk_at "go"
        exact ⟨⟨rfl, by walk_at "f"⟩⟩
    rintro σ H4 ⟨⟨rfl, s4⟩⟩
    have s34 := s3.trans s4
    have f4 : Frm c H H4 := f2.trans (same_frame s34)
    have B4 := B2.stay s34
    have gl4 := s34 _ _ gl
    have gT4 := gT.stay fun b xs e => s34 _ _ e
    have lc : l ≠ c := fun z => by
      obtain ⟨g, s, n, h⟩ := B4
      rw [z, h] at gl4
      injection gl4 with e
      injection e with e
      have e2 := congrArg List.length e
      rw [List.length_map, las] at e2
      cases e2
    refine ⟨fun σ H' => Stop (∃ t : Int, σ = [some (.ref c), some (.int a), some (.int b), some (.int d), some (.ref l), none, some (.int t), none, none] ∧ Frm c H4 H' ∧ Bowl H' c ∧ 0 ≤ t ∧ t < 10 ^ 30), ?_, ?_⟩
    · walk_at "go"
      rename_i r H5 r0 r1 f5 B5
      exact ⟨⟨r, rfl, f5, B5, r0, r1⟩⟩
    rintro σ H5 ⟨⟨t, rfl, f5, B5, t0, t1⟩⟩
    have gl5 : H5 l = some (.lst (as.map V.ref)) := f5 _ _ lc gl4
    have gT5 : TpA H5 as (((cRow a b d).map (cRat a b d)).map frV) := gT4.stay fun b' xs e => f5 _ _ (fun z => by
      obtain ⟨g, s, n, h⟩ := B4
      rw [z, h] at e
      cases e) e
    have hT' : TpA H5 as (([(cTops a b d).1, (cTops a b d).2.1, (cTops a b d).2.2.1, (cTops a b d).2.2.2].map fun x => Rat.divInt x (12 * (a : Int) * (b : Int) * (d : Int))).map frV) := gT5
    have vN : ∀ t : Int, hN (cTops a b d).1 (cTops a b d).2.1 (cTops a b d).2.2.1 (cTops a b d).2.2.2 t 4 = cNum a b d t := fun t => rfl
    have vP2 : ∀ t : Int, (Rat.divInt (cNum a b d t) (12 * (a : Int) * (b : Int) * (d : Int))).num = cVal a b d t ∧ ((Rat.divInt (cNum a b d t) (12 * (a : Int) * (b : Int) * (d : Int))).den : Int) = 1 := fun t => by
      obtain ⟨kk, hk⟩ := K1 t
      exact val_pair B0 hk
    have f15 : Frm c H H5 := f4.trans f5
    have btt : ∀ k : Int, 0 ≤ k → k ≤ 3 → Bt 102 (t + k) := fun k h0 h1 => Nat.lt_trans (show (t + k).natAbs < 10 ^ 30 + 10 by omega) (by decide +kernel)
    have bw : ∀ k : Int, 0 ≤ k → k ≤ 3 → Bt 400 (cVal a b d (t + k)) := fun k h0 h1 => by
      have bk := btt k h0 h1
      rw [cVal_num]
      have e1 : Bt 170 ((cTops a b d).2.2.2 * (t + k) + (cTops a b d).2.2.1) := bt_addm (n := 169) (Bt.mono (bt_mul u3 bk) (by decide)) (u2.mono (by decide))
      have e2 : Bt 280 (((cTops a b d).2.2.2 * (t + k) + (cTops a b d).2.2.1) * (t + k) + (cTops a b d).2.1) := bt_addm (n := 279) (Bt.mono (bt_mul e1 bk) (by decide)) (u1.mono (by decide))
      have e3 : Bt 390 (cNum a b d (t + k)) := bt_addm (n := 389) (Bt.mono (bt_mul e2 bk) (by decide)) (u0.mono (by decide))
      exact (bt_div e3).mono (by decide)
    refine ⟨fun σ H' => Stop (∃ (m : Addr) (v8 : Option V), σ = [some (.ref c), some (.int a), some (.int b), some (.int d), some (.ref l), none, some (.int t), some (.ref m), v8] ∧ Same H5 H' ∧ H' m = some (.lst (((List.range 4).map fun k : Nat => cVal a b d (t + (k : Int))).map V.int))), ?_, ?_⟩
    · walk_at "go"
      rename_i D hD
      refine lc_range (fun i H' => Stop (H' D = some (.lst (((List.range i).map fun k : Nat => cVal a b d (t + (k : Int))).map V.int)) ∧ Same H5 H')) ⟨upd_same, same_new hD⟩ ?_ ?_
      · rintro i H6 hi ⟨⟨gD, sD⟩⟩
        have hi : i < (4 : Int).toNat := hi
        have hi4 : i < 4 := hi
        have hl : (((List.range i).map fun k : Nat => cVal a b d (t + (k : Int))).map V.int).length < sizeLine := lt_line (by rw [List.length_map, List.length_map, List.length_range]; omega)
        have si : Short (t + (0 + (i : Int))) := ⟨by omega, by omega⟩
        walk_at "go"
        rename_i H7 s7
        exact ⟨⟨by rw [upd_same, List.range_succ, List.map_append, List.map_append, Int.zero_add]; rfl, same_mut (sD.trans s7) hD⟩⟩
      · rintro H6 ⟨⟨gD, sD⟩⟩
        exact ⟨⟨D, _, rfl, sD, gD⟩⟩
    rintro σ H6 ⟨⟨m, v8, rfl, s6, gm⟩⟩
    have gl6 := s6 _ _ gl5
    have hT6 := hT'.stay fun b xs e => s6 _ _ e
    have j0 : atI (((List.range 4).map fun k : Nat => cVal a b d (t + (k : Int))).map V.int) 0 = some (V.int (cVal a b d (t + 0))) := rfl
    have j1 : atI (((List.range 4).map fun k : Nat => cVal a b d (t + (k : Int))).map V.int) 1 = some (V.int (cVal a b d (t + 1))) := rfl
    have j2 : atI (((List.range 4).map fun k : Nat => cVal a b d (t + (k : Int))).map V.int) 2 = some (V.int (cVal a b d (t + 2))) := rfl
    have j3 : atI (((List.range 4).map fun k : Nat => cVal a b d (t + (k : Int))).map V.int) 3 = some (V.int (cVal a b d (t + 3))) := rfl
    rw [Int.add_zero] at j0
    have w0 : Bt 400 (cVal a b d t) := by have := bw 0 (by decide) (by decide); rw [Int.add_zero] at this; exact this
    have w1 := bw 1 (by decide) (by decide)
    have w2 := bw 2 (by decide) (by decide)
    have w3 := bw 3 (by decide) (by decide)
    have bt1 : Bt 100 t := Nat.lt_trans (show t.natAbs < 10 ^ 30 by omega) (by decide +kernel)
    have stt : Short t := ⟨by omega, by omega⟩
    refine ⟨fun σ H' => Stop (σ = [some (.ref c), some (.int a), some (.int b), some (.int d), some (.ref l), none, some (.int t), some (.ref m), v8] ∧ Same H6 H'), ?_, ?_⟩
    · walk_at "go"
      refine ifF (c := !decide (V.int (cVal a b d (t + 3) - 3 * cVal a b d (t + 2) + 3 * cVal a b d (t + 1) - cVal a b d t) = V.int ((a : Int) * b * d))) (by rw [third hc (by omega) (by omega) (by omega)]; simp) ?_
      walk_at "go"
      rename_i pt npt
      have sp := same_new (o := .tup [V.int (cVal a b d t), V.int 1]) npt
      have hT7 := hT6.stay fun b xs e => sp _ _ e
      refine ⟨hT7, u0, u1, u2, u3, B0, bB, bt1, fun p Hp np' sp' gp => ?_⟩
      rw [vN, (vP2 t).1, (vP2 t).2] at gp
      have gpt := sp' _ _ (upd_same (H := H6) (a := pt) (o := .tup [V.int (cVal a b d t), V.int 1]))
      walk_at "go"
      refine ifF (c := !PyData.eqv (.tuple [.int (cVal a b d t), .int 1]) (.tuple [.int (cVal a b d t), .int 1])) (by simp [PyData.eqv, PyData.eqvAll]) ?_
      exact ⟨⟨rfl, by walk_at "f"⟩⟩
    rintro σ H7 ⟨⟨rfl, s7⟩⟩
    have bf : Bt 210 ((t + 1) * (t + 2) / 2) := (bt_div (bt_mul (bt_addm (n := 100) bt1 (bt_lit (by decide))) (bt_addm (n := 100) bt1 (bt_lit (by decide))))).mono (by decide)
    refine ⟨fun σ H' => Stop (σ = [some (.ref c), some (.int a), some (.int b), some (.int d), some (.ref l), none, some (.int t), some (.ref m), v8] ∧ Same H7 H'), ?_, ?_⟩
    · walk_at "go"
      refine ifF (c := !decide (V.int ((t + 1) * (t + 2) / 2 * 2) = V.int ((t + 1) * (t + 2)))) (by rw [half_two]; simp) ?_
      walk_at "go"
      exact ⟨⟨rfl, by walk_at "f"⟩⟩
    rintro σ H8 ⟨⟨rfl, s8⟩⟩
    have s68 := s6.trans (s7.trans s8)
    have B8 := B5.stay s68
    have f8 : Frm c H H8 := f15.trans (same_frame s68)
    have n40 : (40 : Int).natAbs < 2 ^ 4000 := Nat.lt_of_lt_of_le (show _ < 2 ^ 64 by decide) (Nat.pow_le_pow_right (by decide) (by decide))
    walk_at "go"
    exact k _ (by walk_at "f") (by walk_at "f")
end
end Tk


set_option maxHeartbeats 2000000
namespace Tk
open PySem PySem.Spec PyProof.Rows L2 Tc
section
variable {P : Program} {w : World} {K : PySem.W.Frag} {mg : Str → Option Value} {base : Heap} {A : Ad}
open Tm
local macro_rules | `(tactic| walk_at "arr") => `(tactic| first
  | with_reducible assumption
  | ((with_reducible apply same_new); with_reducible assumption))
local macro_rules | `(tactic| walk_at "f") => `(tactic| first
  | with_reducible assumption
  | with_reducible exact upd_same
  | with_reducible exact Same.refl _
  | with_reducible exact Frm.refl
  | ((with_reducible apply sqL_K); (focus with_reducible assumption); rfl)
  | ((with_reducible apply sqT_K); (focus with_reducible assumption); rfl)
  | ((with_reducible apply SqT.of); walk_at "f")
  | ((with_reducible apply SqL.of); walk_at "f")
  | ((with_reducible apply back_raw); (focus walk_at "arr"); walk_at "f")
  | ((with_reducible apply frm_tup); (focus with_reducible assumption); (focus walk_at "f"); (focus walk_at "f"); (focus (intro _ z; cases z; done)))
  | ((with_reducible apply frm_raw); (focus with_reducible assumption); (focus walk_at "f"); walk_at "f")
  | ((with_reducible apply bowl_back); (focus walk_at "arr"); walk_at "f")
  | ((with_reducible apply bowl_ne); (focus with_reducible assumption); walk_at "f")
  | ((with_reducible apply Num.int); with_reducible assumption)
  | ((with_reducible apply same_snoc); (focus walk_at "arr"); walk_at "f")
  | ((with_reducible apply frm_back); (focus walk_at "arr"); walk_at "f")
  | ((with_reducible apply frm_backF); (focus with_reducible assumption); walk_at "f")
  | ((with_reducible apply back_sqT); (focus walk_at "arr"); walk_at "f")
  | ((with_reducible apply same_sqL); (focus walk_at "arr"); walk_at "f")
  | ((with_reducible apply free_same); (focus with_reducible assumption); walk_at "f")
  | ((with_reducible apply free_frm); (focus with_reducible assumption); (focus with_reducible assumption); walk_at "f")
  | ((with_reducible apply frm_sqL); (focus with_reducible assumption); (focus walk_at "f"); walk_at "f"))
local macro_rules | `(tactic| walk_at "bt") => `(tactic| first
  | with_reducible assumption
  | ((with_reducible apply bt_mul); (focus walk_at "bt"); walk_at "bt")
  | ((with_reducible apply bt_add); (focus walk_at "bt"); walk_at "bt")
  | ((with_reducible apply bt_sub); (focus walk_at "bt"); walk_at "bt")
  | ((with_reducible apply bt_neg); walk_at "bt")
  | ((with_reducible apply bt_div); walk_at "bt")
  | ((with_reducible apply bt_mod); (focus (first | assumption | omega)); walk_at "bt")
  | exact bt_lit (n := 64) (by decide)
  | exact bt_lit (n := 200) (by decide +kernel))
local macro_rules | `(tactic| walk_at "lin") => `(tactic| first
  | exact (by decide : 1 ≤ sizeLine) | exact (by decide : 2 ≤ sizeLine) | exact (by decide : 3 ≤ sizeLine) | exact (by decide : 4 ≤ sizeLine) | exact (by decide : 0 ≤ sizeLine) | exact (by decide : 5 ≤ sizeLine) | exact (by decide : 6 ≤ sizeLine))
local macro_rules | `(tactic| walk_at "dp") => `(tactic| first
  | exact Dp.int _
  | exact DpAll.nil
  | ((with_reducible apply Dp.lst); (focus walk_at "f"); walk_at "dp")
  | ((with_reducible apply Dp.tup); (focus walk_at "f"); walk_at "dp")
  | ((with_reducible apply DpAll.cons); (focus walk_at "dp"); walk_at "dp"))
local macro_rules | `(tactic| walk_at "sv") => `(tactic| first
  | with_reducible rfl
  | walk_at "f"
  | exact rfl
  | walk_at "dp"
  | exact shp_lst [_] | exact shp_lst [_, _] | exact shp_lst [_, _, _] | exact shp_lst [_, _, _, _] | exact shp_tup [_, _] | exact shp_tup [_, _, _]
  | ((apply tyV_lst); walk_at "f")
  | ((with_reducible apply bt_mulW); (focus walk_at "bt"); (focus walk_at "bt"); (focus (first | decide | omega)))
  | ((with_reducible apply bt_divW); (focus (first | decide | assumption | omega)); (focus walk_at "bt"); (focus (first | decide | omega)))
  | ((with_reducible apply bt_divP); (focus (first | decide | assumption | omega)); (focus walk_at "bt"); (focus (first | decide | omega)))
  | exact ⟨by decide, by decide +kernel⟩
  | exact Or.inl (by decide)
  | exact Or.inr (by decide)
  | exact Or.inl ⟨by omega, by omega⟩
  | exact Or.inr ⟨by omega, by omega⟩
  | ((with_reducible apply Or.inl); walk_at "sv")
  | ((with_reducible apply Or.inr); walk_at "sv")
  | ((with_reducible apply Exists.intro); walk_at "sv")
  | ((with_reducible apply And.intro); (focus walk_at "sv"); walk_at "sv")
  | walk_at "lin"
  | decide
  | omega
  | (simp only [List.length_cons, List.length_nil, List.length_map]; first | done | omega))
local macro_rules | `(tactic| walk_at "one") => `(tactic| first
  | ((fail_if_success refine' @Exists.intro (Nat → L2.St → Hp → Prop) _ ?_ ?_); (fail_if_success refine' @Exists.intro (Nat → Nat → L2.St → Hp → Prop) _ ?_ ?_); (fail_if_success refine' @Exists.intro (L2.St → Hp → Prop) _ ?_ ?_); (fail_if_success refine' @Exists.intro (Nat → Nat → Hp → Prop) _ ?_ ?_); (fail_if_success refine' @Exists.intro (Hp → Prop) _ ?_ ?_); apply Exists.intro)
  | (apply And.intro; (focus walk_at "sv"))
  | intro _
  | (apply ifT; (focus rfl))
  | (apply ifF; (focus rfl))
  | ((apply Or.inl); (apply Exists.intro); (apply And.intro); (focus exact rfl))
  | ((apply Or.inl); (apply And.intro); (focus walk_at "f"))
  | ((apply Or.inr); (apply Exists.intro); (apply And.intro); (focus exact rfl))
  | (apply ifTd; (focus (first | assumption | omega)))
  | (apply ifFd; (focus (first | assumption | omega))))
local macro_rules | `(tactic| walk_at "go") => `(tactic| repeat walk_at "one")
local macro_rules | `(tactic| walk_at "nm") => `(tactic| try simp only [List.set_cons_zero, List.set_cons_succ])
local macro_rules | `(tactic| walk_at "gon") => `(tactic| repeat (walk_at "one"; walk_at "nm"))

def s4 (a b c d : String) : List V := [V.str (Str.ofString a), V.str (Str.ofString b), V.str (Str.ofString c), V.str (Str.ofString d)]
theorem v_111 : ((cRow 1 1 1).map (cRat 1 1 1)).map (fun q => V.str (ratText q)) = s4 "1" "11/6" "1" "1/6" := by
  have h : ((cRow 1 1 1).map (cRat 1 1 1)).map ratText = [Str.ofString "1", Str.ofString "11/6", Str.ofString "1", Str.ofString "1/6"] := by decide +kernel
  have := congrArg (List.map V.str) h
  rw [List.map_map] at this
  exact this
theorem v_235 : ((cRow 2 3 5).map (cRat 2 3 5)).map (fun q => V.str (ratText q)) = s4 "1" "4" "8" "5" := by
  have h : ((cRow 2 3 5).map (cRat 2 3 5)).map ratText = [Str.ofString "1", Str.ofString "4", Str.ofString "8", Str.ofString "5"] := by decide +kernel
  have := congrArg (List.map V.str) h
  rw [List.map_map] at this
  exact this
theorem copA : Cop 1 1 1 := ⟨by decide, by decide, by decide, by decide +kernel, by decide +kernel, by decide +kernel⟩
theorem copB : Cop 2 3 5 := ⟨by decide, by decide, by decide, by decide +kernel, by decide +kernel, by decide +kernel⟩
theorem tri_c : Tri 2 3 (12 - 2 - 3 - 1) = 7 := by decide +kernel
def d4 (a b c d : String) : PyData := .list [.str (Str.ofString a), .str (Str.ofString b), .str (Str.ofString c), .str (Str.ofString d)]
theorem dp4 {H : Hp} {p : Addr} {a b c d : String} (h : H p = some (.lst (s4 a b c d))) : Dp K H (.ref p) (d4 a b c d) := Dp.lst (SqL.of h) (.cons (.str _) (.cons (.str _) (.cons (.str _) (.cons (.str _) .nil))))
def D2 : PyData := .list [d4 "1" "11/6" "1" "1/6", d4 "1" "4" "8" "5"]
theorem shp_D2 : SeqAt.shaped D2 = true := by decide +kernel
theorem eq_D2 : PyData.eqv D2 D2 = true := by decide +kernel
local macro_rules | `(tactic| walk_at "arr") => `(tactic| first
  | ((with_reducible apply made2); (focus with_reducible assumption); (focus with_reducible assumption); with_reducible assumption)
  | ((with_reducible apply same_up); (focus with_reducible assumption); with_reducible assumption))
local macro_rules | `(tactic| walk_at "f") => `(tactic| first
  | ((with_reducible apply Num.long); walk_at "f")
  | ((with_reducible apply ratu_back); (focus walk_at "arr"); walk_at "f")
  | ((with_reducible apply ratu_frm); (focus with_reducible assumption); (focus walk_at "f"); walk_at "f")
  | ((with_reducible apply rat_back); (focus walk_at "arr"); walk_at "f")
  | ((with_reducible apply rat_frm); (focus with_reducible assumption); (focus walk_at "f"); walk_at "f")
  | ((with_reducible apply ratb_u); (focus with_reducible assumption); with_reducible assumption)
  | ((with_reducible apply ratb_at); (focus with_reducible assumption); with_reducible assumption)
  | ((with_reducible apply ratb_back); (focus walk_at "arr"); walk_at "f")
  | ((with_reducible apply ratb_frm); (focus with_reducible assumption); (focus walk_at "f"); walk_at "f")
  | ((with_reducible apply Rn.rat); walk_at "f")
  | ((with_reducible apply Rn.int); with_reducible assumption)
  | ((with_reducible apply rat_raw); walk_at "f")
  | ((with_reducible apply ratb_raw); walk_at "f"))
local macro_rules | `(tactic| walk_at "f") => `(tactic| first
  | ((apply ty_rat); (focus assumption); walk_at "f")
  | ((apply ty_ratb); (focus assumption); walk_at "f")
  | exact nf_self
  | exact TyX.base (.int _)
  | ((with_reducible apply Pay.two); (focus with_reducible assumption); (focus with_reducible assumption); (focus (first | with_reducible assumption | decide)); (first | with_reducible assumption | rfl))
  | ((with_reducible apply nf_K); (focus with_reducible assumption); rfl)
  | exact bt_lit (by decide +kernel))
local macro_rules | `(tactic| walk_at "one") => `(tactic| ((apply Or.inl); (apply Exists.intro); (apply Exists.intro); (apply And.intro); (focus exact rfl)))
local macro_rules | `(tactic| walk_at "f") => `(tactic| first
  | ((with_reducible apply frT_K); (focus with_reducible assumption); rfl)
  | ((with_reducible apply frt); (focus with_reducible assumption))
  | ((with_reducible apply frt_back); (focus walk_at "arr"); walk_at "f")
  | ((with_reducible apply frt_frm); (focus with_reducible assumption); (focus walk_at "f"); walk_at "f"))
local macro_rules | `(tactic| walk_at "sv") => `(tactic| first
  | ((with_reducible refine lt_line ?_); simp only [List.length_append, List.length_cons, List.length_nil, List.length_map, List.length_replicate, List.length_range]; omega)
  | ((with_reducible refine Nat.le_of_lt (lt_line ?_)); simp only [List.length_append, List.length_cons, List.length_nil, List.length_map, List.length_replicate, List.length_range]; omega))
def sp_law (K : PySem.W.Frag) : Sp := fun vs H Q _ => ∃ (sc : Addr) (ns : List Int), vs = [.ref sc] ∧ SqL K H sc (ns.map V.int) ∧ ns.length ≤ 63 ∧ ∀ H', Q (.bl true) H'
theorem ok_law (T : Txt K mg A) : FnOk P w K mg base CX0 15 A.f_law A.d_law ["_law_script"] (sp_law K) := by
  refine T.F_law.ok sc_law (fun vs H Q E h => ?_) (fun cdv Ar outer s H vs Q E hr h => ?_)
  · obtain ⟨sc, ns, rfl, _⟩ := h
    rfl
  · obtain ⟨sc, ns, rfl, hS, hlen, k⟩ := h
    have hu := hu_of hr
    refine ⟨_, (Evl.pss_cut (ps_for PassesOwn.never rfl (pi_range1 rfl T.b_range (pa_cons (pe_callB (call_max2 rfl) (by rfl) T.b_max (by decide +kernel) (pa_cons pe_int (pa_cons (pe_callB (call_min2 rfl) (by rfl) T.b_min (by decide +kernel) (pa_cons pe_int (pa_cons (pe_callB call_len_seq (by rfl) T.b_len (by decide +kernel) (pa_cons (pv 0) pa_nil)) pa_nil))) pa_nil))) pa_nil)) (pg_name (i := 1) sc_law.nd rfl (Or.inl rfl))
        (pss_cons (ps_set (i := 2) sc_law.nd rfl (Or.inl rfl) (pe_call (ok__law_purse_of T) (hr.mono (by decide)) rfl T.m__law_purse_of T.F__law_purse_of.kp T.b__law_purse_of .nil pass0 (pa_cons (pv 0) (pa_cons (pv 1) pa_nil))))
          (pss_one (ps_for PassesOwn.never rfl (pi_range1 rfl T.b_range (pa_cons pe_int pa_nil)) (pg_name (i := 3) sc_law.nd rfl (Or.inl rfl))
            (pss_one (ps_if (pt_not (pt_val (pe_call (ok__law_right T) (hr.mono (by decide)) rfl T.m__law_right T.F__law_right.kp T.b__law_right .nil pass0 (pa_cons (pv 2) pa_nil))))
                (pss_one (ps_ret pe_bl))
                pss_nil))))))
      (Evl.pss_cut (ps_set (i := 4) sc_law.nd rfl (Or.inl rfl) (pe_lst (pa_cons (pe_lc (own := [("_law_one", 5)]) (g := gName 5) rfl sc_law.nd (pi_tup (pe_call (ok_corner_polynomial T) (hr.mono (by decide)) rfl T.m_corner_polynomial T.F_corner_polynomial.kp T.b_corner_polynomial .nil pass0 (pa_cons pe_int (pa_cons pe_int (pa_cons pe_int pa_nil))))) (blkOk_by (own := [("_law_one", 5)]) (N := n_law) (sc := defScope s_law) (by decide +kernel)) (fun _ _ _ _ _ => pg_name (i := 5) sc_law.nd rfl (Or.inl rfl)) (fun _ _ _ _ _ => pts_nil) (fun _ _ _ _ _ => (pe_callTy (call_strOwn T.ou_str (ok_Ratio___str__ T) T.b_Ratio___str__ pass0 (hr.mono (by decide))) (by rfl) T.b_str (by decide +kernel) (pa_cons (pv 5) pa_nil)))) (pa_cons (pe_lc (own := [("_law_one", 5)]) (g := gName 5) rfl sc_law.nd (pi_tup (pe_call (ok_corner_polynomial T) (hr.mono (by decide)) rfl T.m_corner_polynomial T.F_corner_polynomial.kp T.b_corner_polynomial .nil pass0 (pa_cons pe_int (pa_cons pe_int (pa_cons pe_int pa_nil))))) (blkOk_by (own := [("_law_one", 5)]) (N := n_law) (sc := defScope s_law) (by decide +kernel)) (fun _ _ _ _ _ => pg_name (i := 5) sc_law.nd rfl (Or.inl rfl)) (fun _ _ _ _ _ => pts_nil) (fun _ _ _ _ _ => (pe_callTy (call_strOwn T.ou_str (ok_Ratio___str__ T) T.b_Ratio___str__ pass0 (hr.mono (by decide))) (by rfl) T.b_str (by decide +kernel) (pa_cons (pv 5) pa_nil)))) pa_nil))))
      (pss_one (ps_ret (pe_and (pe_cmpR (op_eqD hr.units) (pv 4) (pe_lst (pa_cons (pe_lst (pa_cons pe_str (pa_cons pe_str (pa_cons pe_str (pa_cons pe_str pa_nil))))) (pa_cons (pe_lst (pa_cons pe_str (pa_cons pe_str (pa_cons pe_str (pa_cons pe_str pa_nil))))) pa_nil))) (nomark _)) (pe_one (pe_cmpR op_eq (pe_call (ok_triangle_inner T) (hr.mono (by decide)) rfl T.m_triangle_inner T.F_triangle_inner.kp T.b_triangle_inner .nil pass0 (pa_cons pe_int (pa_cons pe_int (pa_cons pe_int pa_nil)))) pe_int (nomark _)))))))), ?_⟩
    have st : L2.start n_law [V.ref sc] = [some (.ref sc), none, none, none, none, none] := rfl
    rw [st]
    refine ⟨fun σ H' => Stop (∃ (v1 v2 v3 : Option V), σ = [some (.ref sc), v1, v2, v3, none, none]), ?_, ?_⟩
    · walk_at "go"
      refine for_range (fun i σ H' => Stop (∃ (v1 v2 v3 : Option V), σ = [some (.ref sc), v1, v2, v3, none, none] ∧ Same H H')) ⟨_, _, _, rfl, Same.refl _⟩ ?_ ?_
      · rintro i σ H1 hi ⟨⟨v1, v2, v3, rfl, s1⟩⟩
        walk_at "go"
        rename_i b Hb hb sb Bb
        refine for_range (fun i' σ H' => Stop (∃ (v1 v3 : Option V), σ = [some (.ref sc), v1, some (.ref b), v3, none, none] ∧ Frm b Hb H' ∧ Bowl H' b)) ⟨_, _, rfl, Frm.refl, Bb⟩ ?_ ?_
        · rintro i' σ H2 hi' ⟨⟨w1, w3, rfl, f2, B2⟩⟩
          walk_at "go"
          exact ⟨⟨_, _, rfl, by walk_at "f", by walk_at "f"⟩⟩
        · rintro σ H2 ⟨⟨w1, w3, rfl, f2, B2⟩⟩
          exact ⟨⟨_, _, _, rfl, s1.trans (same_frm_back hb sb f2)⟩⟩
      · rintro σ H1 ⟨⟨v1, v2, v3, rfl, s1⟩⟩
        exact ⟨⟨_, _, _, rfl⟩⟩
    rintro σ H1 ⟨⟨v1, v2, v3, rfl⟩⟩
    have hA := copA
    have hB := copB
    have sh : ∀ x : Int, x.natAbs < 2 ^ 20 → Short x := fun x h => ⟨by omega, by omega⟩
    have c1 := sh 1 (by decide)
    have c2 := sh 2 (by decide)
    have c3 := sh 3 (by decide)
    have c5 := sh 5 (by decide)
    have c12 := sh 12 (by decide)
    have bs : ∀ x : Int, x.natAbs < 2 ^ 20 → Bt 395 x := fun x h => Bt.mono (n := 20) h (by decide)
    have b2 := bs 2 (by decide)
    have b3 := bs 3 (by decide)
    have b12 := bs 12 (by decide)
    refine ⟨fun σ H' => Stop (∃ l p1 p2 : Addr, σ = [some (.ref sc), v1, v2, v3, some (.ref l), none] ∧ H' l = some (.lst [.ref p1, .ref p2]) ∧ H' p1 = some (.lst (s4 "1" "11/6" "1" "1/6")) ∧ H' p2 = some (.lst (s4 "1" "4" "8" "5"))), ?_, ?_⟩
    · walk_at "go"
      rename_i tq ps H2 ntq s2 gt gR D hD
      refine lc_tup (K := K) (a := tq) (xs := ps.map V.ref) (fun j H' => Stop (H' D = some (.lst ((((cRow 1 1 1).map (cRat 1 1 1)).take j).map fun q => V.str (ratText q))) ∧ Same H2 H')) ⟨upd_same, same_new hD⟩ (fun j H' _ ⟨⟨_, s⟩⟩ => SqT.of (s _ _ gt)) ?_ ?_
      · rintro j x H3 hx ⟨⟨gD, sD⟩⟩
        obtain ⟨p, hp, rfl⟩ : ∃ p, ps[j]? = some p ∧ V.ref p = x := by
          rw [List.getElem?_map, Option.map_eq_some_iff] at hx
          exact hx
        obtain ⟨q, hq, L⟩ := gR.get hp
        have z : Rsz 4000 q := crat_sz (a := 1) (b := 1) (c := 1) hA (by decide) (by decide) (by decide) (List.mem_of_getElem? hq)
        have Lb := (L.stay (same_sol sD)).b z
        have z1 : Bt 8000 q.num := z.bt.1.mono (by decide)
        have z2 : Bt 8000 (q.den : Int) := z.bt.2.mono (by decide)
        have et : ((cRow 1 1 1).map (cRat 1 1 1)).take (j + 1) = ((cRow 1 1 1).map (cRat 1 1 1)).take j ++ [q] := by rw [List.take_add_one, hq]; rfl
        have hl : ((((cRow 1 1 1).map (cRat 1 1 1)).take j).map fun q => V.str (ratText q)).length < sizeLine := lt_line (by
          rw [List.length_map]
          have := List.length_take_le' j ((cRow 1 1 1).map (cRat 1 1 1))
          have l4 : ((cRow 1 1 1).map (cRat 1 1 1)).length = 4 := rfl
          omega)
        walk_at "go"
        rename_i H4 s4
        refine ⟨⟨?_, same_mut (sD.trans s4) hD⟩⟩
        rw [upd_same, et, List.map_append]
        rfl
      · rintro H3 ⟨⟨gD, sD⟩⟩
        rw [List.take_of_length_le (by rw [List.length_map, List.length_map, gR.len, List.length_map]; exact Nat.le_refl _), v_111] at gD
        walk_at "go"
        rename_i tq5 ps5 H5 ntq5 s5 gt5 gR5 D5 hD5
        refine lc_tup (K := K) (a := tq5) (xs := ps5.map V.ref) (fun j H' => Stop (H' D5 = some (.lst ((((cRow 2 3 5).map (cRat 2 3 5)).take j).map fun q => V.str (ratText q))) ∧ Same H5 H')) ⟨upd_same, same_new hD5⟩ (fun j H' _ ⟨⟨_, s⟩⟩ => SqT.of (s _ _ gt5)) ?_ ?_
        · rintro j x H6 hx ⟨⟨gD, sD⟩⟩
          obtain ⟨p, hp, rfl⟩ : ∃ p, ps5[j]? = some p ∧ V.ref p = x := by
            rw [List.getElem?_map, Option.map_eq_some_iff] at hx
            exact hx
          obtain ⟨q, hq, L⟩ := gR5.get hp
          have z : Rsz 4000 q := crat_sz (a := 2) (b := 3) (c := 5) hB (by decide) (by decide) (by decide) (List.mem_of_getElem? hq)
          have Lb := (L.stay (same_sol sD)).b z
          have z1 : Bt 8000 q.num := z.bt.1.mono (by decide)
          have z2 : Bt 8000 (q.den : Int) := z.bt.2.mono (by decide)
          have et : ((cRow 2 3 5).map (cRat 2 3 5)).take (j + 1) = ((cRow 2 3 5).map (cRat 2 3 5)).take j ++ [q] := by rw [List.take_add_one, hq]; rfl
          have hl : ((((cRow 2 3 5).map (cRat 2 3 5)).take j).map fun q => V.str (ratText q)).length < sizeLine := lt_line (by
            rw [List.length_map]
            have := List.length_take_le' j ((cRow 2 3 5).map (cRat 2 3 5))
            have l4 : ((cRow 2 3 5).map (cRat 2 3 5)).length = 4 := rfl
            omega)
          walk_at "go"
          rename_i H7 s7
          refine ⟨⟨?_, same_mut (sD.trans s7) hD5⟩⟩
          rw [upd_same, et, List.map_append]
          rfl
        · rintro H6 ⟨⟨gD5, sD5⟩⟩
          rw [List.take_of_length_le (by rw [List.length_map, List.length_map, gR5.len, List.length_map]; exact Nat.le_refl _), v_235] at gD5
          have gDx := sD5 _ _ (s5 _ _ gD)
          walk_at "go"
          rename_i l nl
          exact ⟨⟨l, D, D5, rfl, upd_same, same_new nl _ _ gDx, same_new nl _ _ gD5⟩⟩
    rintro σ H3 ⟨⟨l, p1, p2, rfl, gl, g1, g2⟩⟩
    walk_at "go"
    rename_i m1 k1 m2 k2 m3 k3
    have q1 := same_new (o := .lst (s4 "1" "11/6" "1" "1/6")) k1
    have q2 := same_new (o := .lst (s4 "1" "4" "8" "5")) k2
    have q3 := same_new (o := .lst [V.ref m1, V.ref m2]) k3
    have qq := q1.trans (q2.trans q3)
    refine ⟨Dp.lst (SqL.of (qq _ _ gl)) (.cons (dp4 (qq _ _ g1)) (.cons (dp4 (qq _ _ g2)) .nil)), Dp.lst (SqL.of upd_same) (.cons (dp4 (q2.trans q3 _ _ upd_same)) (.cons (dp4 (q3 _ _ upd_same)) .nil)), shp_D2, shp_D2, ?_⟩
    refine ⟨_, rfl, ?_⟩
    refine ifT (show PyData.eqv (.list [d4 "1" "11/6" "1" "1/6", d4 "1" "4" "8" "5"]) (.list [d4 "1" "11/6" "1" "1/6", d4 "1" "4" "8" "5"]) = true from eq_D2) ?_
    walk_at "go"
    have kk : ∀ (x y : Int) (H' : Hp), x = y → Q (.bl (decide (V.int x = V.int y))) H' := fun x y H' e => by
      subst e
      rw [decide_eq_true rfl]
      exact k H'
    exact kk _ _ _ tri_c
end
end Tk

set_option maxHeartbeats 4000000
namespace Tk
open PySem PySem.Spec PyProof.Rows L2 Tc
theorem all_mk {P : Program} {w : World} {K : PySem.W.Frag} {h : Heap} {mg : Str → Option Value} {fa : Addr} (X : K.In h) (G : h.Ns mainGlobals mg) (hfa : mg "law" = some (.ref fa))
    {C_Long C_Terms C_Ratio f0 f1 f2 f3 f4 f5 f6 f7 f8 f9 f10 f11 f12 f13 f14 f15 f16 f17 f18 f19 f20 f21 f22 f23 f24 f25 f26 f27 f28 f29 f30 f31 f32 f33 f34 f35 f36 f37 f38 f39 f40 f41 f42 f43 f44 f45 f46 f47 p8 p9 : Addr} {od0 an0 od1 an1 od2 an2 od3 an3 od4 an4 od5 an5 od6 an6 od7 an7 od8 an8 od9 an9 od10 an10 od11 an11 od12 an12 od13 an13 od14 an14 od15 an15 od16 an16 od17 an17 od18 an18 od19 an19 od20 an20 od21 an21 od22 an22 od23 an23 od24 an24 od25 an25 od26 an26 od27 an27 od28 an28 od29 an29 od30 an30 od31 an31 od32 an32 od33 an33 od34 an34 od35 an35 od36 an36 od37 an37 od38 an38 od39 an39 od40 an40 od41 an41 od42 an42 od43 an43 od44 an44 od45 an45 od46 an46 od47 an47 : Option Addr} {sl0 sl1 sl2 sl3 sl4 sl5 sl6 sl7 sl8 sl9 sl10 sl11 sl12 sl13 sl14 sl15 sl16 sl17 sl18 sl19 sl20 sl21 sl22 sl23 sl24 sl25 sl26 sl27 sl28 sl29 sl30 sl31 sl32 sl33 sl34 sl35 sl36 sl37 sl38 sl39 sl40 sl41 sl42 sl43 sl44 sl45 sl46 sl47 : Array (Option Value)} {oc0 kV0 dc0 pm0 cd0 ct0 oc1 kV1 dc1 pm1 cd1 ct1 oc2 kV2 dc2 pm2 cd2 ct2 oc3 kV3 dc3 pm3 cd3 ct3 oc4 kV4 dc4 pm4 cd4 ct4 oc5 kV5 dc5 pm5 cd5 ct5 oc6 kV6 dc6 pm6 cd6 ct6 oc7 kV7 dc7 pm7 cd7 ct7 oc8 kV8 dc8 pm8 cd8 ct8 oc9 kV9 dc9 pm9 cd9 ct9 oc10 kV10 dc10 pm10 cd10 ct10 oc11 kV11 dc11 pm11 cd11 ct11 oc12 kV12 dc12 pm12 cd12 ct12 oc13 kV13 dc13 pm13 cd13 ct13 oc14 kV14 dc14 pm14 cd14 ct14 oc15 kV15 dc15 pm15 cd15 ct15 oc16 kV16 dc16 pm16 cd16 ct16 oc17 kV17 dc17 pm17 cd17 ct17 oc18 kV18 dc18 pm18 cd18 ct18 oc19 kV19 dc19 pm19 cd19 ct19 oc20 kV20 dc20 pm20 cd20 ct20 oc21 kV21 dc21 pm21 cd21 ct21 oc22 kV22 dc22 pm22 cd22 ct22 oc23 kV23 dc23 pm23 cd23 ct23 oc24 kV24 dc24 pm24 cd24 ct24 oc25 kV25 dc25 pm25 cd25 ct25 oc26 kV26 dc26 pm26 cd26 ct26 oc27 kV27 dc27 pm27 cd27 ct27 oc28 kV28 dc28 pm28 cd28 ct28 oc29 kV29 dc29 pm29 cd29 ct29 oc30 kV30 dc30 pm30 cd30 ct30 oc31 kV31 dc31 pm31 cd31 ct31 oc32 kV32 dc32 pm32 cd32 ct32 oc33 kV33 dc33 pm33 cd33 ct33 oc34 kV34 dc34 pm34 cd34 ct34 oc35 kV35 dc35 pm35 cd35 ct35 oc36 kV36 dc36 pm36 cd36 ct36 oc37 kV37 dc37 pm37 cd37 ct37 oc38 kV38 dc38 pm38 cd38 ct38 oc39 kV39 dc39 pm39 cd39 ct39 oc40 kV40 dc40 pm40 cd40 ct40 oc41 kV41 dc41 pm41 cd41 ct41 oc42 kV42 dc42 pm42 cd42 ct42 oc43 kV43 dc43 pm43 cd43 ct43 oc44 kV44 dc44 pm44 cd44 ct44 oc45 kV45 dc45 pm45 cd45 ct45 oc46 kV46 dc46 pm46 cd46 ct46 oc47 kV47 dc47 pm47 cd47 ct47 : Value} {rs8 rs9 : List Value} {tk__TOO_LONG tk__PIECE_DIGITS tk__SHORT tt5_0 tt7_0 : Tok} {dT5 dT7 : Addr} {tC5 tC7 : Value} {tD5 tD7 : Option Addr} {tn5 tn7 : Nat} {tS5 tS7 : Array (Option Value)}
    (aC_Long : PySem.W.nsIn K mainGlobals "Long" = some (some (.ref C_Long)))
    (aC_Terms : PySem.W.nsIn K mainGlobals "Terms" = some (some (.ref C_Terms)))
    (aC_Ratio : PySem.W.nsIn K mainGlobals "Ratio" = some (some (.ref C_Ratio)))
    (a0 : PySem.W.findIn K (.ref C_Long) "__init__" = some (some (.ref f0)))
    (i0 : PySem.W.isFn K (.ref f0) = true)
    (l0 : K.lookup f0 = some ⟨oc0, od0, .func (PySem.W.fnOf "__init__" "Long.__init__" (defArgs s_Long___init__) (defBody s_Long___init__) (defScope s_Long___init__) .none kV0 dc0 pm0 an0 cd0 ct0), sl0⟩)
    (c0 : PySem.W.codeIn K cd0 "Long.__init__" = true)
    (k0 : PySem.W.keepIn K (.ref f0) = true)
    (a1 : PySem.W.nsIn K mainGlobals "is_short_integer" = some (some (.ref f1)))
    (l1 : K.lookup f1 = some ⟨oc1, od1, .func (PySem.W.fnOf "is_short_integer" "is_short_integer" (defArgs s_is_short_integer) (defBody s_is_short_integer) (defScope s_is_short_integer) .none kV1 dc1 pm1 an1 cd1 ct1), sl1⟩)
    (c1 : PySem.W.codeIn K cd1 "is_short_integer" = true)
    (k1 : PySem.W.keepIn K (.ref f1) = true)
    (a2 : PySem.W.nsIn K mainGlobals "checked_integer" = some (some (.ref f2)))
    (l2 : K.lookup f2 = some ⟨oc2, od2, .func (PySem.W.fnOf "checked_integer" "checked_integer" (defArgs s_checked_integer) (defBody s_checked_integer) (defScope s_checked_integer) .none kV2 dc2 pm2 an2 cd2 ct2), sl2⟩)
    (c2 : PySem.W.codeIn K cd2 "checked_integer" = true)
    (k2 : PySem.W.keepIn K (.ref f2) = true)
    (a3 : PySem.W.nsIn K mainGlobals "checked_from" = some (some (.ref f3)))
    (l3 : K.lookup f3 = some ⟨oc3, od3, .func (PySem.W.fnOf "checked_from" "checked_from" (defArgs s_checked_from) (defBody s_checked_from) (defScope s_checked_from) .none kV3 dc3 pm3 an3 cd3 ct3), sl3⟩)
    (c3 : PySem.W.codeIn K cd3 "checked_from" = true)
    (k3 : PySem.W.keepIn K (.ref f3) = true)
    (a4 : PySem.W.nsIn K mainGlobals "integer_text" = some (some (.ref f4)))
    (l4 : K.lookup f4 = some ⟨oc4, od4, .func (PySem.W.fnOf "integer_text" "integer_text" (defArgs s_integer_text) (defBody s_integer_text) (defScope s_integer_text) .none kV4 dc4 pm4 an4 cd4 ct4), sl4⟩)
    (c4 : PySem.W.codeIn K cd4 "integer_text" = true)
    (k4 : PySem.W.keepIn K (.ref f4) = true)
    (a5 : PySem.W.nsIn K mainGlobals "check_coprime" = some (some (.ref f5)))
    (l5 : K.lookup f5 = some ⟨oc5, od5, .func (PySem.W.fnOf "check_coprime" "check_coprime" (defArgs s_check_coprime) (defBody s_check_coprime) (defScope s_check_coprime) (.ref dT5) kV5 dc5 pm5 an5 cd5 ct5), sl5⟩)
    (d5 : K.lookup dT5 = some ⟨tC5, tD5, .seq #[.int (1) tt5_0] tn5, tS5⟩)
    (c5 : PySem.W.codeIn K cd5 "check_coprime" = true)
    (k5 : PySem.W.keepIn K (.ref f5) = true)
    (a6 : PySem.W.findIn K (.ref C_Terms) "__init__" = some (some (.ref f6)))
    (i6 : PySem.W.isFn K (.ref f6) = true)
    (l6 : K.lookup f6 = some ⟨oc6, od6, .func (PySem.W.fnOf "__init__" "Terms.__init__" (defArgs s_Terms___init__) (defBody s_Terms___init__) (defScope s_Terms___init__) .none kV6 dc6 pm6 an6 cd6 ct6), sl6⟩)
    (c6 : PySem.W.codeIn K cd6 "Terms.__init__" = true)
    (k6 : PySem.W.keepIn K (.ref f6) = true)
    (a7 : PySem.W.findIn K (.ref C_Ratio) "__init__" = some (some (.ref f7)))
    (i7 : PySem.W.isFn K (.ref f7) = true)
    (l7 : K.lookup f7 = some ⟨oc7, od7, .func (PySem.W.fnOf "__init__" "Ratio.__init__" (defArgs s_Ratio___init__) (defBody s_Ratio___init__) (defScope s_Ratio___init__) (.ref dT7) kV7 dc7 pm7 an7 cd7 ct7), sl7⟩)
    (d7 : K.lookup dT7 = some ⟨tC7, tD7, .seq #[.int (1) tt7_0] tn7, tS7⟩)
    (c7 : PySem.W.codeIn K cd7 "Ratio.__init__" = true)
    (k7 : PySem.W.keepIn K (.ref f7) = true)
    (a8 : PySem.W.findIn K (.ref C_Ratio) "top" = some (some (.ref p8)))
    (pg8 : PySem.W.specialIn K (.ref p8) "__get__" = some (some (.builtin "property.__get__")))
    (pt8 : PySem.W.takesIn K (.ref p8) = some true)
    (pr8 : PySem.W.recIn K p8 "property" = some (.ref f8 :: rs8))
    (l8 : K.lookup f8 = some ⟨oc8, od8, .func (PySem.W.fnOf "top" "Ratio.top" (defArgs s_Ratio_top) (defBody s_Ratio_top) (defScope s_Ratio_top) .none kV8 dc8 pm8 an8 cd8 ct8), sl8⟩)
    (c8 : PySem.W.codeIn K cd8 "Ratio.top" = true)
    (k8 : PySem.W.keepIn K (.ref f8) = true)
    (a9 : PySem.W.findIn K (.ref C_Ratio) "bottom" = some (some (.ref p9)))
    (pg9 : PySem.W.specialIn K (.ref p9) "__get__" = some (some (.builtin "property.__get__")))
    (pt9 : PySem.W.takesIn K (.ref p9) = some true)
    (pr9 : PySem.W.recIn K p9 "property" = some (.ref f9 :: rs9))
    (l9 : K.lookup f9 = some ⟨oc9, od9, .func (PySem.W.fnOf "bottom" "Ratio.bottom" (defArgs s_Ratio_bottom) (defBody s_Ratio_bottom) (defScope s_Ratio_bottom) .none kV9 dc9 pm9 an9 cd9 ct9), sl9⟩)
    (c9 : PySem.W.codeIn K cd9 "Ratio.bottom" = true)
    (k9 : PySem.W.keepIn K (.ref f9) = true)
    (a10 : PySem.W.findIn K (.ref C_Ratio) "__str__" = some (some (.ref f10)))
    (i10 : PySem.W.isFn K (.ref f10) = true)
    (l10 : K.lookup f10 = some ⟨oc10, od10, .func (PySem.W.fnOf "__str__" "Ratio.__str__" (defArgs s_Ratio___str__) (defBody s_Ratio___str__) (defScope s_Ratio___str__) .none kV10 dc10 pm10 an10 cd10 ct10), sl10⟩)
    (c10 : PySem.W.codeIn K cd10 "Ratio.__str__" = true)
    (k10 : PySem.W.keepIn K (.ref f10) = true)
    (a11 : PySem.W.nsIn K mainGlobals "ratio_of" = some (some (.ref f11)))
    (l11 : K.lookup f11 = some ⟨oc11, od11, .func (PySem.W.fnOf "ratio_of" "ratio_of" (defArgs s_ratio_of) (defBody s_ratio_of) (defScope s_ratio_of) .none kV11 dc11 pm11 an11 cd11 ct11), sl11⟩)
    (c11 : PySem.W.codeIn K cd11 "ratio_of" = true)
    (k11 : PySem.W.keepIn K (.ref f11) = true)
    (a12 : PySem.W.nsIn K mainGlobals "fraction_text" = some (some (.ref f12)))
    (l12 : K.lookup f12 = some ⟨oc12, od12, .func (PySem.W.fnOf "fraction_text" "fraction_text" (defArgs s_fraction_text) (defBody s_fraction_text) (defScope s_fraction_text) .none kV12 dc12 pm12 an12 cd12 ct12), sl12⟩)
    (c12 : PySem.W.codeIn K cd12 "fraction_text" = true)
    (k12 : PySem.W.keepIn K (.ref f12) = true)
    (a13 : PySem.W.nsIn K mainGlobals "_checked_terms" = some (some (.ref f13)))
    (l13 : K.lookup f13 = some ⟨oc13, od13, .func (PySem.W.fnOf "_checked_terms" "_checked_terms" (defArgs s__checked_terms) (defBody s__checked_terms) (defScope s__checked_terms) .none kV13 dc13 pm13 an13 cd13 ct13), sl13⟩)
    (c13 : PySem.W.codeIn K cd13 "_checked_terms" = true)
    (k13 : PySem.W.keepIn K (.ref f13) = true)
    (a14 : PySem.W.nsIn K mainGlobals "_lowest_terms" = some (some (.ref f14)))
    (l14 : K.lookup f14 = some ⟨oc14, od14, .func (PySem.W.fnOf "_lowest_terms" "_lowest_terms" (defArgs s__lowest_terms) (defBody s__lowest_terms) (defScope s__lowest_terms) .none kV14 dc14 pm14 an14 cd14 ct14), sl14⟩)
    (c14 : PySem.W.codeIn K cd14 "_lowest_terms" = true)
    (k14 : PySem.W.keepIn K (.ref f14) = true)
    (a15 : PySem.W.nsIn K mainGlobals "floor_total" = some (some (.ref f15)))
    (l15 : K.lookup f15 = some ⟨oc15, od15, .func (PySem.W.fnOf "floor_total" "floor_total" (defArgs s_floor_total) (defBody s_floor_total) (defScope s_floor_total) .none kV15 dc15 pm15 an15 cd15 ct15), sl15⟩)
    (c15 : PySem.W.codeIn K cd15 "floor_total" = true)
    (k15 : PySem.W.keepIn K (.ref f15) = true)
    (a16 : PySem.W.nsIn K mainGlobals "sum_top" = some (some (.ref f16)))
    (l16 : K.lookup f16 = some ⟨oc16, od16, .func (PySem.W.fnOf "sum_top" "sum_top" (defArgs s_sum_top) (defBody s_sum_top) (defScope s_sum_top) .none kV16 dc16 pm16 an16 cd16 ct16), sl16⟩)
    (c16 : PySem.W.codeIn K cd16 "sum_top" = true)
    (k16 : PySem.W.keepIn K (.ref f16) = true)
    (a17 : PySem.W.nsIn K mainGlobals "_steps" = some (some (.ref f17)))
    (l17 : K.lookup f17 = some ⟨oc17, od17, .func (PySem.W.fnOf "_steps" "_steps" (defArgs s__steps) (defBody s__steps) (defScope s__steps) .none kV17 dc17 pm17 an17 cd17 ct17), sl17⟩)
    (c17 : PySem.W.codeIn K cd17 "_steps" = true)
    (k17 : PySem.W.keepIn K (.ref f17) = true)
    (a18 : PySem.W.nsIn K mainGlobals "_long_sum_top" = some (some (.ref f18)))
    (l18 : K.lookup f18 = some ⟨oc18, od18, .func (PySem.W.fnOf "_long_sum_top" "_long_sum_top" (defArgs s__long_sum_top) (defBody s__long_sum_top) (defScope s__long_sum_top) .none kV18 dc18 pm18 an18 cd18 ct18), sl18⟩)
    (c18 : PySem.W.codeIn K cd18 "_long_sum_top" = true)
    (k18 : PySem.W.keepIn K (.ref f18) = true)
    (a19 : PySem.W.nsIn K mainGlobals "triangle_points" = some (some (.ref f19)))
    (l19 : K.lookup f19 = some ⟨oc19, od19, .func (PySem.W.fnOf "triangle_points" "triangle_points" (defArgs s_triangle_points) (defBody s_triangle_points) (defScope s_triangle_points) .none kV19 dc19 pm19 an19 cd19 ct19), sl19⟩)
    (c19 : PySem.W.codeIn K cd19 "triangle_points" = true)
    (k19 : PySem.W.keepIn K (.ref f19) = true)
    (a20 : PySem.W.nsIn K mainGlobals "triangle_inner" = some (some (.ref f20)))
    (l20 : K.lookup f20 = some ⟨oc20, od20, .func (PySem.W.fnOf "triangle_inner" "triangle_inner" (defArgs s_triangle_inner) (defBody s_triangle_inner) (defScope s_triangle_inner) .none kV20 dc20 pm20 an20 cd20 ct20), sl20⟩)
    (c20 : PySem.W.codeIn K cd20 "triangle_inner" = true)
    (k20 : PySem.W.keepIn K (.ref f20) = true)
    (a21 : PySem.W.nsIn K mainGlobals "corner_points" = some (some (.ref f21)))
    (l21 : K.lookup f21 = some ⟨oc21, od21, .func (PySem.W.fnOf "corner_points" "corner_points" (defArgs s_corner_points) (defBody s_corner_points) (defScope s_corner_points) .none kV21 dc21 pm21 an21 cd21 ct21), sl21⟩)
    (c21 : PySem.W.codeIn K cd21 "corner_points" = true)
    (k21 : PySem.W.keepIn K (.ref f21) = true)
    (a22 : PySem.W.nsIn K mainGlobals "corner_inner" = some (some (.ref f22)))
    (l22 : K.lookup f22 = some ⟨oc22, od22, .func (PySem.W.fnOf "corner_inner" "corner_inner" (defArgs s_corner_inner) (defBody s_corner_inner) (defScope s_corner_inner) .none kV22 dc22 pm22 an22 cd22 ct22), sl22⟩)
    (c22 : PySem.W.codeIn K cd22 "corner_inner" = true)
    (k22 : PySem.W.keepIn K (.ref f22) = true)
    (a23 : PySem.W.nsIn K mainGlobals "corner_face" = some (some (.ref f23)))
    (l23 : K.lookup f23 = some ⟨oc23, od23, .func (PySem.W.fnOf "corner_face" "corner_face" (defArgs s_corner_face) (defBody s_corner_face) (defScope s_corner_face) .none kV23 dc23 pm23 an23 cd23 ct23), sl23⟩)
    (c23 : PySem.W.codeIn K cd23 "corner_face" = true)
    (k23 : PySem.W.keepIn K (.ref f23) = true)
    (a24 : PySem.W.nsIn K mainGlobals "corner_polynomial" = some (some (.ref f24)))
    (l24 : K.lookup f24 = some ⟨oc24, od24, .func (PySem.W.fnOf "corner_polynomial" "corner_polynomial" (defArgs s_corner_polynomial) (defBody s_corner_polynomial) (defScope s_corner_polynomial) .none kV24 dc24 pm24 an24 cd24 ct24), sl24⟩)
    (c24 : PySem.W.codeIn K cd24 "corner_polynomial" = true)
    (k24 : PySem.W.keepIn K (.ref f24) = true)
    (a25 : PySem.W.nsIn K mainGlobals "points_up_to" = some (some (.ref f25)))
    (l25 : K.lookup f25 = some ⟨oc25, od25, .func (PySem.W.fnOf "points_up_to" "points_up_to" (defArgs s_points_up_to) (defBody s_points_up_to) (defScope s_points_up_to) .none kV25 dc25 pm25 an25 cd25 ct25), sl25⟩)
    (c25 : PySem.W.codeIn K cd25 "points_up_to" = true)
    (k25 : PySem.W.keepIn K (.ref f25) = true)
    (a26 : PySem.W.nsIn K mainGlobals "_checked_triangle" = some (some (.ref f26)))
    (l26 : K.lookup f26 = some ⟨oc26, od26, .func (PySem.W.fnOf "_checked_triangle" "_checked_triangle" (defArgs s__checked_triangle) (defBody s__checked_triangle) (defScope s__checked_triangle) .none kV26 dc26 pm26 an26 cd26 ct26), sl26⟩)
    (c26 : PySem.W.codeIn K cd26 "_checked_triangle" = true)
    (k26 : PySem.W.keepIn K (.ref f26) = true)
    (a27 : PySem.W.nsIn K mainGlobals "_checked_box" = some (some (.ref f27)))
    (l27 : K.lookup f27 = some ⟨oc27, od27, .func (PySem.W.fnOf "_checked_box" "_checked_box" (defArgs s__checked_box) (defBody s__checked_box) (defScope s__checked_box) .none kV27 dc27 pm27 an27 cd27 ct27), sl27⟩)
    (c27 : PySem.W.codeIn K cd27 "_checked_box" = true)
    (k27 : PySem.W.keepIn K (.ref f27) = true)
    (a28 : PySem.W.nsIn K mainGlobals "_checked_corner" = some (some (.ref f28)))
    (l28 : K.lookup f28 = some ⟨oc28, od28, .func (PySem.W.fnOf "_checked_corner" "_checked_corner" (defArgs s__checked_corner) (defBody s__checked_corner) (defScope s__checked_corner) .none kV28 dc28 pm28 an28 cd28 ct28), sl28⟩)
    (c28 : PySem.W.codeIn K cd28 "_checked_corner" = true)
    (k28 : PySem.W.keepIn K (.ref f28) = true)
    (a29 : PySem.W.nsIn K mainGlobals "_corner_bottom" = some (some (.ref f29)))
    (l29 : K.lookup f29 = some ⟨oc29, od29, .func (PySem.W.fnOf "_corner_bottom" "_corner_bottom" (defArgs s__corner_bottom) (defBody s__corner_bottom) (defScope s__corner_bottom) .none kV29 dc29 pm29 an29 cd29 ct29), sl29⟩)
    (c29 : PySem.W.codeIn K cd29 "_corner_bottom" = true)
    (k29 : PySem.W.keepIn K (.ref f29) = true)
    (a30 : PySem.W.nsIn K mainGlobals "_corner_tops" = some (some (.ref f30)))
    (l30 : K.lookup f30 = some ⟨oc30, od30, .func (PySem.W.fnOf "_corner_tops" "_corner_tops" (defArgs s__corner_tops) (defBody s__corner_tops) (defScope s__corner_tops) .none kV30 dc30 pm30 an30 cd30 ct30), sl30⟩)
    (c30 : PySem.W.codeIn K cd30 "_corner_tops" = true)
    (k30 : PySem.W.keepIn K (.ref f30) = true)
    (a31 : PySem.W.nsIn K mainGlobals "_corner_value" = some (some (.ref f31)))
    (l31 : K.lookup f31 = some ⟨oc31, od31, .func (PySem.W.fnOf "_corner_value" "_corner_value" (defArgs s__corner_value) (defBody s__corner_value) (defScope s__corner_value) .none kV31 dc31 pm31 an31 cd31 ct31), sl31⟩)
    (c31 : PySem.W.codeIn K cd31 "_corner_value" = true)
    (k31 : PySem.W.keepIn K (.ref f31) = true)
    (a32 : PySem.W.nsIn K mainGlobals "_law_purse_of" = some (some (.ref f32)))
    (l32 : K.lookup f32 = some ⟨oc32, od32, .func (PySem.W.fnOf "_law_purse_of" "_law_purse_of" (defArgs s__law_purse_of) (defBody s__law_purse_of) (defScope s__law_purse_of) .none kV32 dc32 pm32 an32 cd32 ct32), sl32⟩)
    (c32 : PySem.W.codeIn K cd32 "_law_purse_of" = true)
    (k32 : PySem.W.keepIn K (.ref f32) = true)
    (a33 : PySem.W.nsIn K mainGlobals "_law_coin" = some (some (.ref f33)))
    (l33 : K.lookup f33 = some ⟨oc33, od33, .func (PySem.W.fnOf "_law_coin" "_law_coin" (defArgs s__law_coin) (defBody s__law_coin) (defScope s__law_coin) .none kV33 dc33 pm33 an33 cd33 ct33), sl33⟩)
    (c33 : PySem.W.codeIn K cd33 "_law_coin" = true)
    (k33 : PySem.W.keepIn K (.ref f33) = true)
    (a34 : PySem.W.nsIn K mainGlobals "_law_common" = some (some (.ref f34)))
    (l34 : K.lookup f34 = some ⟨oc34, od34, .func (PySem.W.fnOf "_law_common" "_law_common" (defArgs s__law_common) (defBody s__law_common) (defScope s__law_common) .none kV34 dc34 pm34 an34 cd34 ct34), sl34⟩)
    (c34 : PySem.W.codeIn K cd34 "_law_common" = true)
    (k34 : PySem.W.keepIn K (.ref f34) = true)
    (a35 : PySem.W.nsIn K mainGlobals "_law_low" = some (some (.ref f35)))
    (l35 : K.lookup f35 = some ⟨oc35, od35, .func (PySem.W.fnOf "_law_low" "_law_low" (defArgs s__law_low) (defBody s__law_low) (defScope s__law_low) .none kV35 dc35 pm35 an35 cd35 ct35), sl35⟩)
    (c35 : PySem.W.codeIn K cd35 "_law_low" = true)
    (k35 : PySem.W.keepIn K (.ref f35) = true)
    (a36 : PySem.W.nsIn K mainGlobals "_law_plus" = some (some (.ref f36)))
    (l36 : K.lookup f36 = some ⟨oc36, od36, .func (PySem.W.fnOf "_law_plus" "_law_plus" (defArgs s__law_plus) (defBody s__law_plus) (defScope s__law_plus) .none kV36 dc36 pm36 an36 cd36 ct36), sl36⟩)
    (c36 : PySem.W.codeIn K cd36 "_law_plus" = true)
    (k36 : PySem.W.keepIn K (.ref f36) = true)
    (a37 : PySem.W.nsIn K mainGlobals "_law_times" = some (some (.ref f37)))
    (l37 : K.lookup f37 = some ⟨oc37, od37, .func (PySem.W.fnOf "_law_times" "_law_times" (defArgs s__law_times) (defBody s__law_times) (defScope s__law_times) .none kV37 dc37 pm37 an37 cd37 ct37), sl37⟩)
    (c37 : PySem.W.codeIn K cd37 "_law_times" = true)
    (k37 : PySem.W.keepIn K (.ref f37) = true)
    (a38 : PySem.W.nsIn K mainGlobals "_law_pair_of" = some (some (.ref f38)))
    (l38 : K.lookup f38 = some ⟨oc38, od38, .func (PySem.W.fnOf "_law_pair_of" "_law_pair_of" (defArgs s__law_pair_of) (defBody s__law_pair_of) (defScope s__law_pair_of) .none kV38 dc38 pm38 an38 cd38 ct38), sl38⟩)
    (c38 : PySem.W.codeIn K cd38 "_law_pair_of" = true)
    (k38 : PySem.W.keepIn K (.ref f38) = true)
    (a39 : PySem.W.nsIn K mainGlobals "_law_great" = some (some (.ref f39)))
    (l39 : K.lookup f39 = some ⟨oc39, od39, .func (PySem.W.fnOf "_law_great" "_law_great" (defArgs s__law_great) (defBody s__law_great) (defScope s__law_great) .none kV39 dc39 pm39 an39 cd39 ct39), sl39⟩)
    (c39 : PySem.W.codeIn K cd39 "_law_great" = true)
    (k39 : PySem.W.keepIn K (.ref f39) = true)
    (a40 : PySem.W.nsIn K mainGlobals "_law_box_drawn" = some (some (.ref f40)))
    (l40 : K.lookup f40 = some ⟨oc40, od40, .func (PySem.W.fnOf "_law_box_drawn" "_law_box_drawn" (defArgs s__law_box_drawn) (defBody s__law_box_drawn) (defScope s__law_box_drawn) .none kV40 dc40 pm40 an40 cd40 ct40), sl40⟩)
    (c40 : PySem.W.codeIn K cd40 "_law_box_drawn" = true)
    (k40 : PySem.W.keepIn K (.ref f40) = true)
    (a41 : PySem.W.nsIn K mainGlobals "_law_corner" = some (some (.ref f41)))
    (l41 : K.lookup f41 = some ⟨oc41, od41, .func (PySem.W.fnOf "_law_corner" "_law_corner" (defArgs s__law_corner) (defBody s__law_corner) (defScope s__law_corner) .none kV41 dc41 pm41 an41 cd41 ct41), sl41⟩)
    (c41 : PySem.W.codeIn K cd41 "_law_corner" = true)
    (k41 : PySem.W.keepIn K (.ref f41) = true)
    (a42 : PySem.W.nsIn K mainGlobals "_law_value" = some (some (.ref f42)))
    (l42 : K.lookup f42 = some ⟨oc42, od42, .func (PySem.W.fnOf "_law_value" "_law_value" (defArgs s__law_value) (defBody s__law_value) (defScope s__law_value) .none kV42 dc42 pm42 an42 cd42 ct42), sl42⟩)
    (c42 : PySem.W.codeIn K cd42 "_law_value" = true)
    (k42 : PySem.W.keepIn K (.ref f42) = true)
    (a43 : PySem.W.nsIn K mainGlobals "_law_height" = some (some (.ref f43)))
    (l43 : K.lookup f43 = some ⟨oc43, od43, .func (PySem.W.fnOf "_law_height" "_law_height" (defArgs s__law_height) (defBody s__law_height) (defScope s__law_height) .none kV43 dc43 pm43 an43 cd43 ct43), sl43⟩)
    (c43 : PySem.W.codeIn K cd43 "_law_height" = true)
    (k43 : PySem.W.keepIn K (.ref f43) = true)
    (a44 : PySem.W.nsIn K mainGlobals "_law_force_right" = some (some (.ref f44)))
    (l44 : K.lookup f44 = some ⟨oc44, od44, .func (PySem.W.fnOf "_law_force_right" "_law_force_right" (defArgs s__law_force_right) (defBody s__law_force_right) (defScope s__law_force_right) .none kV44 dc44 pm44 an44 cd44 ct44), sl44⟩)
    (c44 : PySem.W.codeIn K cd44 "_law_force_right" = true)
    (k44 : PySem.W.keepIn K (.ref f44) = true)
    (a45 : PySem.W.nsIn K mainGlobals "_law_shuts_right" = some (some (.ref f45)))
    (l45 : K.lookup f45 = some ⟨oc45, od45, .func (PySem.W.fnOf "_law_shuts_right" "_law_shuts_right" (defArgs s__law_shuts_right) (defBody s__law_shuts_right) (defScope s__law_shuts_right) .none kV45 dc45 pm45 an45 cd45 ct45), sl45⟩)
    (c45 : PySem.W.codeIn K cd45 "_law_shuts_right" = true)
    (k45 : PySem.W.keepIn K (.ref f45) = true)
    (a46 : PySem.W.nsIn K mainGlobals "_law_right" = some (some (.ref f46)))
    (l46 : K.lookup f46 = some ⟨oc46, od46, .func (PySem.W.fnOf "_law_right" "_law_right" (defArgs s__law_right) (defBody s__law_right) (defScope s__law_right) .none kV46 dc46 pm46 an46 cd46 ct46), sl46⟩)
    (c46 : PySem.W.codeIn K cd46 "_law_right" = true)
    (k46 : PySem.W.keepIn K (.ref f46) = true)
    (a47 : PySem.W.nsIn K mainGlobals "law" = some (some (.ref f47)))
    (l47 : K.lookup f47 = some ⟨oc47, od47, .func (PySem.W.fnOf "law" "law" (defArgs s_law) (defBody s_law) (defScope s_law) .none kV47 dc47 pm47 an47 cd47 ct47), sl47⟩)
    (c47 : PySem.W.codeIn K cd47 "law" = true)
    (k47 : PySem.W.keepIn K (.ref f47) = true)
    (pgC_Long : PySem.W.plainGet K C_Long Str.empty = true)
    (hdC_Long : PySem.W.hasDictIn K C_Long = true)
    (poC_Long : PySem.W.plainOver K C_Long = true)
    (saC_Long : PySem.W.findIn K (.ref C_Long) "__setattr__" = some (some (.builtin "object.__setattr__")))
    (kC_Long : PySem.W.keepIn K (.ref C_Long) = true)
    (mkC_Long : PySem.W.makesIn K C_Long = true)
    (ic_Long : PySem.W.isClsIn K C_Long = true)
    (ty_Long : PySem.W.typeIn K (.ref C_Long) = some (.type "type"))
    (cl_Long : PySem.W.findIn K (.ref C_Long) "__class__" = some (some (.builtin "object.__class__")))
    (ob_Long : PySem.W.mroIn K C_Long (.type "object") = some true)
    (oi_Long : PySem.W.mroIn K C_Long (.type "int") = some false)
    (na_Long_number : PySem.W.findIn K (.ref C_Long) "number" = some none)
    (pgC_Terms : PySem.W.plainGet K C_Terms Str.empty = true)
    (hdC_Terms : PySem.W.hasDictIn K C_Terms = true)
    (poC_Terms : PySem.W.plainOver K C_Terms = true)
    (saC_Terms : PySem.W.findIn K (.ref C_Terms) "__setattr__" = some (some (.builtin "object.__setattr__")))
    (kC_Terms : PySem.W.keepIn K (.ref C_Terms) = true)
    (mkC_Terms : PySem.W.makesIn K C_Terms = true)
    (ic_Terms : PySem.W.isClsIn K C_Terms = true)
    (ty_Terms : PySem.W.typeIn K (.ref C_Terms) = some (.type "type"))
    (cl_Terms : PySem.W.findIn K (.ref C_Terms) "__class__" = some (some (.builtin "object.__class__")))
    (ob_Terms : PySem.W.mroIn K C_Terms (.type "object") = some true)
    (oi_Terms : PySem.W.mroIn K C_Terms (.type "int") = some false)
    (na_Terms_above : PySem.W.findIn K (.ref C_Terms) "above" = some none)
    (na_Terms_below : PySem.W.findIn K (.ref C_Terms) "below" = some none)
    (na_Terms_lowest : PySem.W.findIn K (.ref C_Terms) "lowest" = some none)
    (pgC_Ratio : PySem.W.plainGet K C_Ratio Str.empty = true)
    (hdC_Ratio : PySem.W.hasDictIn K C_Ratio = true)
    (poC_Ratio : PySem.W.plainOver K C_Ratio = true)
    (saC_Ratio : PySem.W.findIn K (.ref C_Ratio) "__setattr__" = some (some (.builtin "object.__setattr__")))
    (kC_Ratio : PySem.W.keepIn K (.ref C_Ratio) = true)
    (mkC_Ratio : PySem.W.makesIn K C_Ratio = true)
    (ic_Ratio : PySem.W.isClsIn K C_Ratio = true)
    (ty_Ratio : PySem.W.typeIn K (.ref C_Ratio) = some (.type "type"))
    (cl_Ratio : PySem.W.findIn K (.ref C_Ratio) "__class__" = some (some (.builtin "object.__class__")))
    (ob_Ratio : PySem.W.mroIn K C_Ratio (.type "object") = some true)
    (oi_Ratio : PySem.W.mroIn K C_Ratio (.type "int") = some false)
    (na_Ratio__top : PySem.W.findIn K (.ref C_Ratio) "_top" = some none)
    (na_Ratio__bottom : PySem.W.findIn K (.ref C_Ratio) "_bottom" = some none)
    (na_Ratio__is_lowest : PySem.W.findIn K (.ref C_Ratio) "_is_lowest" = some none)
    (sg : PySem.W.specialIn K (.builtin "object.__class__") "__get__" = some (some (.builtin "getset_descriptor.__get__")))
    (tk : PySem.W.takesIn K (.builtin "object.__class__") = some true)
    (z_len : PySem.W.nsIn K mainGlobals "len" = some none)
    (z_abs : PySem.W.nsIn K mainGlobals "abs" = some none)
    (z_max : PySem.W.nsIn K mainGlobals "max" = some none)
    (z_min : PySem.W.nsIn K mainGlobals "min" = some none)
    (z_isinstance : PySem.W.nsIn K mainGlobals "isinstance" = some none)
    (z_range : PySem.W.nsIn K mainGlobals "range" = some none)
    (z_int : PySem.W.nsIn K mainGlobals "int" = some none)
    (z_tuple : PySem.W.nsIn K mainGlobals "tuple" = some none)
    (z_divmod : PySem.W.nsIn K mainGlobals "divmod" = some none)
    (z_sum : PySem.W.nsIn K mainGlobals "sum" = some none)
    (z_str : PySem.W.nsIn K mainGlobals "str" = some none)
    (v__TOO_LONG : PySem.W.nsIn K mainGlobals "_TOO_LONG" = some (some (.int (10 ^ 60) tk__TOO_LONG)))
    (v__PIECE_DIGITS : PySem.W.nsIn K mainGlobals "_PIECE_DIGITS" = some (some (.int (60) tk__PIECE_DIGITS)))
    (v__SHORT : PySem.W.nsIn K mainGlobals "_SHORT" = some (some (.int (2 ^ 30) tk__SHORT)))
    (w_gcd : PySem.W.nsIn K mainGlobals "gcd" = some (some (.builtin "math.gcd")))
    : ∃ fd : FuncData, (∀ (s : Shared) (u : Value), BindsTo s fd ⟨[u], []⟩ [("_law_script", u)]) ∧ ∀ base : Heap, K.In base → base.Ns mainGlobals mg → FnOk P w K mg base CX0 15 fa fd ["_law_script"] (sp_law K) := by
  have e := hfa.symm.trans (PySem.W.mg_of X G a47)
  cases e
  have F0 := fun_mk (st := s_Long___init__) l0 c0 k0
  have b0 := F0.binds (ps := ["self", "number"]) fun _ _ _ _ _ _ us hl => match us, hl with | [_, _], _ => rfl
  have F1 := fun_mk (st := s_is_short_integer) l1 c1 k1
  have b1 := F1.binds (ps := ["value"]) fun _ _ _ _ _ _ us hl => match us, hl with | [_], _ => rfl
  have F2 := fun_mk (st := s_checked_integer) l2 c2 k2
  have b2 := F2.binds (ps := ["value"]) fun _ _ _ _ _ _ us hl => match us, hl with | [_], _ => rfl
  have F3 := fun_mk (st := s_checked_from) l3 c3 k3
  have b3 := F3.binds (ps := ["least", "value"]) fun _ _ _ _ _ _ us hl => match us, hl with | [_, _], _ => rfl
  have F4 := fun_mk (st := s_integer_text) l4 c4 k4
  have b4 := F4.binds (ps := ["number"]) fun _ _ _ _ _ _ us hl => match us, hl with | [_], _ => rfl
  have F5 : FunD K "check_coprime" "check_coprime" (defArgs s_check_coprime) (defBody s_check_coprime) (defScope s_check_coprime) [V.int (1)] [] f5 (PySem.W.fnOf "check_coprime" "check_coprime" (defArgs s_check_coprime) (defBody s_check_coprime) (defScope s_check_coprime) (.ref dT5) kV5 dc5 pm5 an5 cd5 ct5) := ⟨⟨_, _, _, _, _, _, _, _, _, _, rfl, l5, c5, .inr ⟨List.cons_ne_nil _ _, _, _, [.int (1) tt5_0], _, rfl, d5, rfl, (.cons ⟨_, rfl⟩ .nil)⟩, .inl rfl⟩, k5⟩
  have b5_1 := F5.binds1 (ps := ["a", "b", "c"]) 2 0 (List.cons_ne_nil _ _) rfl fun _ _ _ _ _ _ _ us its hu hi => match us, its, hu, hi with | [_, _], [_], _, _ => ⟨_, rfl, rfl⟩
  have b5 := binds_nil (F5.binds1 (ps := ["a", "b", "c"]) 3 1 (List.cons_ne_nil _ _) rfl fun _ _ _ _ _ _ _ us its hu hi => match us, its, hu, hi with | [_, _, _], [_], _, _ => ⟨_, rfl, rfl⟩)
  have F6 := fun_mk (st := s_Terms___init__) l6 c6 k6
  have b6 := F6.binds (ps := ["self", "above", "below", "lowest"]) fun _ _ _ _ _ _ us hl => match us, hl with | [_, _, _, _], _ => rfl
  have F7 : FunD K "__init__" "Ratio.__init__" (defArgs s_Ratio___init__) (defBody s_Ratio___init__) (defScope s_Ratio___init__) [V.int (1)] [] f7 (PySem.W.fnOf "__init__" "Ratio.__init__" (defArgs s_Ratio___init__) (defBody s_Ratio___init__) (defScope s_Ratio___init__) (.ref dT7) kV7 dc7 pm7 an7 cd7 ct7) := ⟨⟨_, _, _, _, _, _, _, _, _, _, rfl, l7, c7, .inr ⟨List.cons_ne_nil _ _, _, _, [.int (1) tt7_0], _, rfl, d7, rfl, (.cons ⟨_, rfl⟩ .nil)⟩, .inl rfl⟩, k7⟩
  have b7_1 := F7.binds1 (ps := ["self", "top", "bottom"]) 2 0 (List.cons_ne_nil _ _) rfl fun _ _ _ _ _ _ _ us its hu hi => match us, its, hu, hi with | [_, _], [_], _, _ => ⟨_, rfl, rfl⟩
  have b7 := binds_nil (F7.binds1 (ps := ["self", "top", "bottom"]) 3 1 (List.cons_ne_nil _ _) rfl fun _ _ _ _ _ _ _ us its hu hi => match us, its, hu, hi with | [_, _, _], [_], _, _ => ⟨_, rfl, rfl⟩)
  have F8 := fun_mk (st := s_Ratio_top) l8 c8 k8
  have b8 := F8.binds (ps := ["self"]) fun _ _ _ _ _ _ us hl => match us, hl with | [_], _ => rfl
  have F9 := fun_mk (st := s_Ratio_bottom) l9 c9 k9
  have b9 := F9.binds (ps := ["self"]) fun _ _ _ _ _ _ us hl => match us, hl with | [_], _ => rfl
  have F10 := fun_mk (st := s_Ratio___str__) l10 c10 k10
  have b10 := F10.binds (ps := ["self"]) fun _ _ _ _ _ _ us hl => match us, hl with | [_], _ => rfl
  have F11 := fun_mk (st := s_ratio_of) l11 c11 k11
  have b11 := F11.binds (ps := ["top", "bottom"]) fun _ _ _ _ _ _ us hl => match us, hl with | [_, _], _ => rfl
  have F12 := fun_mk (st := s_fraction_text) l12 c12 k12
  have b12 := F12.binds (ps := ["top", "bottom"]) fun _ _ _ _ _ _ us hl => match us, hl with | [_, _], _ => rfl
  have F13 := fun_mk (st := s__checked_terms) l13 c13 k13
  have b13 := F13.binds (ps := ["top", "bottom"]) fun _ _ _ _ _ _ us hl => match us, hl with | [_, _], _ => rfl
  have F14 := fun_mk (st := s__lowest_terms) l14 c14 k14
  have b14 := F14.binds (ps := ["top", "bottom"]) fun _ _ _ _ _ _ us hl => match us, hl with | [_, _], _ => rfl
  have F15 := fun_mk (st := s_floor_total) l15 c15 k15
  have b15 := F15.binds (ps := ["n", "a", "c", "m"]) fun _ _ _ _ _ _ us hl => match us, hl with | [_, _, _, _], _ => rfl
  have F16 := fun_mk (st := s_sum_top) l16 c16 k16
  have b16 := F16.binds (ps := ["a", "b"]) fun _ _ _ _ _ _ us hl => match us, hl with | [_, _], _ => rfl
  have F17 := fun_mk (st := s__steps) l17 c17 k17
  have b17 := F17.binds (ps := ["upper", "lower"]) fun _ _ _ _ _ _ us hl => match us, hl with | [_, _], _ => rfl
  have F18 := fun_mk (st := s__long_sum_top) l18 c18 k18
  have b18 := F18.binds (ps := ["b", "rest"]) fun _ _ _ _ _ _ us hl => match us, hl with | [_, _], _ => rfl
  have F19 := fun_mk (st := s_triangle_points) l19 c19 k19
  have b19 := F19.binds (ps := ["a", "b", "limit"]) fun _ _ _ _ _ _ us hl => match us, hl with | [_, _, _], _ => rfl
  have F20 := fun_mk (st := s_triangle_inner) l20 c20 k20
  have b20 := F20.binds (ps := ["a", "b", "limit"]) fun _ _ _ _ _ _ us hl => match us, hl with | [_, _, _], _ => rfl
  have F21 := fun_mk (st := s_corner_points) l21 c21 k21
  have b21 := F21.binds (ps := ["a", "b", "c", "t"]) fun _ _ _ _ _ _ us hl => match us, hl with | [_, _, _, _], _ => rfl
  have F22 := fun_mk (st := s_corner_inner) l22 c22 k22
  have b22 := F22.binds (ps := ["a", "b", "c", "t"]) fun _ _ _ _ _ _ us hl => match us, hl with | [_, _, _, _], _ => rfl
  have F23 := fun_mk (st := s_corner_face) l23 c23 k23
  have b23 := F23.binds (ps := ["a", "b", "c", "t"]) fun _ _ _ _ _ _ us hl => match us, hl with | [_, _, _, _], _ => rfl
  have F24 := fun_mk (st := s_corner_polynomial) l24 c24 k24
  have b24 := F24.binds (ps := ["a", "b", "c"]) fun _ _ _ _ _ _ us hl => match us, hl with | [_, _, _], _ => rfl
  have F25 := fun_mk (st := s_points_up_to) l25 c25 k25
  have b25 := F25.binds (ps := ["a", "b", "limit"]) fun _ _ _ _ _ _ us hl => match us, hl with | [_, _, _], _ => rfl
  have F26 := fun_mk (st := s__checked_triangle) l26 c26 k26
  have b26 := F26.binds (ps := ["a", "b", "limit"]) fun _ _ _ _ _ _ us hl => match us, hl with | [_, _, _], _ => rfl
  have F27 := fun_mk (st := s__checked_box) l27 c27 k27
  have b27 := F27.binds (ps := ["a", "b", "c"]) fun _ _ _ _ _ _ us hl => match us, hl with | [_, _, _], _ => rfl
  have F28 := fun_mk (st := s__checked_corner) l28 c28 k28
  have b28 := F28.binds (ps := ["a", "b", "c", "t"]) fun _ _ _ _ _ _ us hl => match us, hl with | [_, _, _, _], _ => rfl
  have F29 := fun_mk (st := s__corner_bottom) l29 c29 k29
  have b29 := F29.binds (ps := ["a", "b", "c"]) fun _ _ _ _ _ _ us hl => match us, hl with | [_, _, _], _ => rfl
  have F30 := fun_mk (st := s__corner_tops) l30 c30 k30
  have b30 := F30.binds (ps := ["a", "b", "c"]) fun _ _ _ _ _ _ us hl => match us, hl with | [_, _, _], _ => rfl
  have F31 := fun_mk (st := s__corner_value) l31 c31 k31
  have b31 := F31.binds (ps := ["a", "b", "c", "t"]) fun _ _ _ _ _ _ us hl => match us, hl with | [_, _, _, _], _ => rfl
  have F32 := fun_mk (st := s__law_purse_of) l32 c32 k32
  have b32 := F32.binds (ps := ["_law_script", "_law_at"]) fun _ _ _ _ _ _ us hl => match us, hl with | [_, _], _ => rfl
  have F33 := fun_mk (st := s__law_coin) l33 c33 k33
  have b33 := F33.binds (ps := ["_law_purse", "_law_total"]) fun _ _ _ _ _ _ us hl => match us, hl with | [_, _], _ => rfl
  have F34 := fun_mk (st := s__law_common) l34 c34 k34
  have b34 := F34.binds (ps := ["_law_one", "_law_other"]) fun _ _ _ _ _ _ us hl => match us, hl with | [_, _], _ => rfl
  have F35 := fun_mk (st := s__law_low) l35 c35 k35
  have b35 := F35.binds (ps := ["_law_top", "_law_bottom"]) fun _ _ _ _ _ _ us hl => match us, hl with | [_, _], _ => rfl
  have F36 := fun_mk (st := s__law_plus) l36 c36 k36
  have b36 := F36.binds (ps := ["_law_one", "_law_other"]) fun _ _ _ _ _ _ us hl => match us, hl with | [_, _], _ => rfl
  have F37 := fun_mk (st := s__law_times) l37 c37 k37
  have b37 := F37.binds (ps := ["_law_one", "_law_other"]) fun _ _ _ _ _ _ us hl => match us, hl with | [_, _], _ => rfl
  have F38 := fun_mk (st := s__law_pair_of) l38 c38 k38
  have b38 := F38.binds (ps := ["_law_ratio"]) fun _ _ _ _ _ _ us hl => match us, hl with | [_], _ => rfl
  have F39 := fun_mk (st := s__law_great) l39 c39 k39
  have b39 := F39.binds (ps := ["_law_purse", "_law_digits"]) fun _ _ _ _ _ _ us hl => match us, hl with | [_, _], _ => rfl
  have F40 := fun_mk (st := s__law_box_drawn) l40 c40 k40
  have b40 := F40.binds (ps := ["_law_purse", "_law_top"]) fun _ _ _ _ _ _ us hl => match us, hl with | [_, _], _ => rfl
  have F41 := fun_mk (st := s__law_corner) l41 c41 k41
  have b41 := F41.binds (ps := ["_law_a", "_law_b", "_law_c", "_law_t"]) fun _ _ _ _ _ _ us hl => match us, hl with | [_, _, _, _], _ => rfl
  have F42 := fun_mk (st := s__law_value) l42 c42 k42
  have b42 := F42.binds (ps := ["_law_rows", "_law_t"]) fun _ _ _ _ _ _ us hl => match us, hl with | [_, _], _ => rfl
  have F43 := fun_mk (st := s__law_height) l43 c43 k43
  have b43 := F43.binds (ps := ["_law_one", "_law_a", "_law_b", "_law_c"]) fun _ _ _ _ _ _ us hl => match us, hl with | [_, _, _, _], _ => rfl
  have F44 := fun_mk (st := s__law_force_right) l44 c44 k44
  have b44 := F44.binds (ps := ["_law_a", "_law_b", "_law_c", "_law_rows"]) fun _ _ _ _ _ _ us hl => match us, hl with | [_, _, _, _], _ => rfl
  have F45 := fun_mk (st := s__law_shuts_right) l45 c45 k45
  have b45 := F45.binds (ps := ["_law_a", "_law_b", "_law_c", "_law_t"]) fun _ _ _ _ _ _ us hl => match us, hl with | [_, _, _, _], _ => rfl
  have F46 := fun_mk (st := s__law_right) l46 c46 k46
  have b46 := F46.binds (ps := ["_law_purse"]) fun _ _ _ _ _ _ us hl => match us, hl with | [_], _ => rfl
  have F47 := fun_mk (st := s_law) l47 c47 k47
  have b47 := F47.binds (ps := ["_law_script"]) fun _ _ _ _ _ _ us hl => match us, hl with | [_], _ => rfl
  have T : Txt K mg ⟨f0, _, f1, _, f2, _, f3, _, f4, _, f5, _, f6, _, f7, _, f8, _, f9, _, f10, _, f11, _, f12, _, f13, _, f14, _, f15, _, f16, _, f17, _, f18, _, f19, _, f20, _, f21, _, f22, _, f23, _, f24, _, f25, _, f26, _, f27, _, f28, _, f29, _, f30, _, f31, _, f32, _, f33, _, f34, _, f35, _, f36, _, f37, _, f38, _, f39, _, f40, _, f41, _, f42, _, f43, _, f44, _, f45, _, f46, _, fa, _, p8, p9, C_Long, C_Terms, C_Ratio⟩ := ⟨F0,
    b0,
    ⟨mkC_Long, a0, i0, kC_Long⟩,
    F1,
    b1,
    PySem.W.mg_of X G a1,
    F2,
    b2,
    PySem.W.mg_of X G a2,
    F3,
    b3,
    PySem.W.mg_of X G a3,
    F4,
    b4,
    PySem.W.mg_of X G a4,
    F5,
    b5_1,
    b5,
    PySem.W.mg_of X G a5,
    F6,
    b6,
    ⟨mkC_Terms, a6, i6, kC_Terms⟩,
    F7,
    b7_1,
    b7,
    ⟨mkC_Ratio, a7, i7, kC_Ratio⟩,
    F8,
    b8,
    ⟨a8, pg8, pt8, _, pr8⟩,
    F9,
    b9,
    ⟨a9, pg9, pt9, _, pr9⟩,
    F10,
    b10,
    ⟨a10, i10, k10⟩,
    F11,
    b11,
    PySem.W.mg_of X G a11,
    F12,
    b12,
    PySem.W.mg_of X G a12,
    F13,
    b13,
    PySem.W.mg_of X G a13,
    F14,
    b14,
    PySem.W.mg_of X G a14,
    F15,
    b15,
    PySem.W.mg_of X G a15,
    F16,
    b16,
    PySem.W.mg_of X G a16,
    F17,
    b17,
    PySem.W.mg_of X G a17,
    F18,
    b18,
    PySem.W.mg_of X G a18,
    F19,
    b19,
    PySem.W.mg_of X G a19,
    F20,
    b20,
    PySem.W.mg_of X G a20,
    F21,
    b21,
    PySem.W.mg_of X G a21,
    F22,
    b22,
    PySem.W.mg_of X G a22,
    F23,
    b23,
    PySem.W.mg_of X G a23,
    F24,
    b24,
    PySem.W.mg_of X G a24,
    F25,
    b25,
    PySem.W.mg_of X G a25,
    F26,
    b26,
    PySem.W.mg_of X G a26,
    F27,
    b27,
    PySem.W.mg_of X G a27,
    F28,
    b28,
    PySem.W.mg_of X G a28,
    F29,
    b29,
    PySem.W.mg_of X G a29,
    F30,
    b30,
    PySem.W.mg_of X G a30,
    F31,
    b31,
    PySem.W.mg_of X G a31,
    F32,
    b32,
    PySem.W.mg_of X G a32,
    F33,
    b33,
    PySem.W.mg_of X G a33,
    F34,
    b34,
    PySem.W.mg_of X G a34,
    F35,
    b35,
    PySem.W.mg_of X G a35,
    F36,
    b36,
    PySem.W.mg_of X G a36,
    F37,
    b37,
    PySem.W.mg_of X G a37,
    F38,
    b38,
    PySem.W.mg_of X G a38,
    F39,
    b39,
    PySem.W.mg_of X G a39,
    F40,
    b40,
    PySem.W.mg_of X G a40,
    F41,
    b41,
    PySem.W.mg_of X G a41,
    F42,
    b42,
    PySem.W.mg_of X G a42,
    F43,
    b43,
    PySem.W.mg_of X G a43,
    F44,
    b44,
    PySem.W.mg_of X G a44,
    F45,
    b45,
    PySem.W.mg_of X G a45,
    F46,
    b46,
    PySem.W.mg_of X G a46,
    F47,
    b47,
    PySem.W.mg_of X G a47,
    ⟨pgC_Long, hdC_Long, poC_Long, saC_Long⟩,
    PySem.W.mg_of X G aC_Long,
    na_Long_number,
    ic_Long,
    ty_Long,
    cl_Long,
    ob_Long,
    oi_Long,
    ⟨pgC_Terms, hdC_Terms, poC_Terms, saC_Terms⟩,
    PySem.W.mg_of X G aC_Terms,
    na_Terms_above,
    na_Terms_below,
    na_Terms_lowest,
    ic_Terms,
    ty_Terms,
    cl_Terms,
    ob_Terms,
    oi_Terms,
    ⟨pgC_Ratio, hdC_Ratio, poC_Ratio, saC_Ratio⟩,
    PySem.W.mg_of X G aC_Ratio,
    na_Ratio__top,
    na_Ratio__bottom,
    na_Ratio__is_lowest,
    ic_Ratio,
    ty_Ratio,
    cl_Ratio,
    ob_Ratio,
    oi_Ratio,
    sg,
    tk,
    PySem.W.mg_none_of X G z_len,
    PySem.W.mg_none_of X G z_abs,
    PySem.W.mg_none_of X G z_max,
    PySem.W.mg_none_of X G z_min,
    PySem.W.mg_none_of X G z_isinstance,
    PySem.W.mg_none_of X G z_range,
    PySem.W.mg_none_of X G z_int,
    PySem.W.mg_none_of X G z_tuple,
    PySem.W.mg_none_of X G z_divmod,
    PySem.W.mg_none_of X G z_sum,
    PySem.W.mg_none_of X G z_str,
    ⟨_, PySem.W.mg_of X G v__TOO_LONG⟩,
    ⟨_, PySem.W.mg_of X G v__PIECE_DIGITS⟩,
    ⟨_, PySem.W.mg_of X G v__SHORT⟩,
    PySem.W.mg_of X G w_gcd,
    ⟨a10, i10⟩⟩
  refine ⟨_, ?_, fun base _ _ => ok_law T⟩
  exact fun s v => .of_eq rfl
end Tk
open PySem PySem.W PyProof.Rows
set_option maxRecDepth 100000 in
set_option maxHeartbeats 0 in
theorem PySem.Challenge.cw_toothchain_k47_whole_corner_polynomials_holds : PySem.Challenge.rw_toothchain_k47_whole_corner_polynomials.Holds := by
  w_on; o_law; k_head; (case hw => w_witness2)
  k_fill
  refine L2.walk_of (l := PySem.Challenge.rw_toothchain_k47_whole_corner_polynomials) (n := 63) (k := 15) (x := "_law_script") (CX := fun _ => L2.CX0) (sp := fun w => Tk.sp_law _) rfl (by decide) rfl ⟨rfl, by decide, by decide⟩ (fun w h Y => PySem.W.kIn_of Y) ?F (fun _ _ a ns hl _ hS => ⟨a, ns, rfl, hS, hl, fun _ => rfl⟩) fun _ _ _ _ _ z => z
  case F =>
    intro w mg fa h KX G hmg
    refine' Tk.all_mk KX G hmg ?aC_Long ?aC_Terms ?aC_Ratio ?a0 ?i0 ?l0 ?c0 ?k0 ?a1 ?l1 ?c1 ?k1 ?a2 ?l2 ?c2 ?k2 ?a3 ?l3 ?c3 ?k3 ?a4 ?l4 ?c4 ?k4 ?a5 ?l5 ?d5 ?c5 ?k5 ?a6 ?i6 ?l6 ?c6 ?k6 ?a7 ?i7 ?l7 ?d7 ?c7 ?k7 ?a8 ?pg8 ?pt8 ?pr8 ?l8 ?c8 ?k8 ?a9 ?pg9 ?pt9 ?pr9 ?l9 ?c9 ?k9 ?a10 ?i10 ?l10 ?c10 ?k10 ?a11 ?l11 ?c11 ?k11 ?a12 ?l12 ?c12 ?k12 ?a13 ?l13 ?c13 ?k13 ?a14 ?l14 ?c14 ?k14 ?a15 ?l15 ?c15 ?k15 ?a16 ?l16 ?c16 ?k16 ?a17 ?l17 ?c17 ?k17 ?a18 ?l18 ?c18 ?k18 ?a19 ?l19 ?c19 ?k19 ?a20 ?l20 ?c20 ?k20 ?a21 ?l21 ?c21 ?k21 ?a22 ?l22 ?c22 ?k22 ?a23 ?l23 ?c23 ?k23 ?a24 ?l24 ?c24 ?k24 ?a25 ?l25 ?c25 ?k25 ?a26 ?l26 ?c26 ?k26 ?a27 ?l27 ?c27 ?k27 ?a28 ?l28 ?c28 ?k28 ?a29 ?l29 ?c29 ?k29 ?a30 ?l30 ?c30 ?k30 ?a31 ?l31 ?c31 ?k31 ?a32 ?l32 ?c32 ?k32 ?a33 ?l33 ?c33 ?k33 ?a34 ?l34 ?c34 ?k34 ?a35 ?l35 ?c35 ?k35 ?a36 ?l36 ?c36 ?k36 ?a37 ?l37 ?c37 ?k37 ?a38 ?l38 ?c38 ?k38 ?a39 ?l39 ?c39 ?k39 ?a40 ?l40 ?c40 ?k40 ?a41 ?l41 ?c41 ?k41 ?a42 ?l42 ?c42 ?k42 ?a43 ?l43 ?c43 ?k43 ?a44 ?l44 ?c44 ?k44 ?a45 ?l45 ?c45 ?k45 ?a46 ?l46 ?c46 ?k46 ?a47 ?l47 ?c47 ?k47 ?pgC_Long ?hdC_Long ?poC_Long ?saC_Long ?kC_Long ?mkC_Long ?ic_Long ?ty_Long ?cl_Long ?ob_Long ?oi_Long ?na_Long_number ?pgC_Terms ?hdC_Terms ?poC_Terms ?saC_Terms ?kC_Terms ?mkC_Terms ?ic_Terms ?ty_Terms ?cl_Terms ?ob_Terms ?oi_Terms ?na_Terms_above ?na_Terms_below ?na_Terms_lowest ?pgC_Ratio ?hdC_Ratio ?poC_Ratio ?saC_Ratio ?kC_Ratio ?mkC_Ratio ?ic_Ratio ?ty_Ratio ?cl_Ratio ?ob_Ratio ?oi_Ratio ?na_Ratio__top ?na_Ratio__bottom ?na_Ratio__is_lowest ?sg ?tk ?z_len ?z_abs ?z_max ?z_min ?z_isinstance ?z_range ?z_int ?z_tuple ?z_divmod ?z_sum ?z_str ?v__TOO_LONG ?v__PIECE_DIGITS ?v__SHORT ?w_gcd
    (case aC_Long => k_is)
    (case aC_Terms => k_is)
    (case aC_Ratio => k_is)
    (case a0 => k_is)
    (case i0 => k_is)
    (case l0 => k_is)
    (case c0 => k_is)
    (case k0 => k_is)
    (case a1 => k_is)
    (case l1 => k_is)
    (case c1 => k_is)
    (case k1 => k_is)
    (case a2 => k_is)
    (case l2 => k_is)
    (case c2 => k_is)
    (case k2 => k_is)
    (case a3 => k_is)
    (case l3 => k_is)
    (case c3 => k_is)
    (case k3 => k_is)
    (case a4 => k_is)
    (case l4 => k_is)
    (case c4 => k_is)
    (case k4 => k_is)
    (case a5 => k_is)
    (case l5 => k_is)
    (case d5 => k_is)
    (case c5 => k_is)
    (case k5 => k_is)
    (case a6 => k_is)
    (case i6 => k_is)
    (case l6 => k_is)
    (case c6 => k_is)
    (case k6 => k_is)
    (case a7 => k_is)
    (case i7 => k_is)
    (case l7 => k_is)
    (case d7 => k_is)
    (case c7 => k_is)
    (case k7 => k_is)
    (case a8 => k_is)
    (case pg8 => k_is)
    (case pt8 => k_is)
    (case pr8 => k_is)
    (case l8 => k_is)
    (case c8 => k_is)
    (case k8 => k_is)
    (case a9 => k_is)
    (case pg9 => k_is)
    (case pt9 => k_is)
    (case pr9 => k_is)
    (case l9 => k_is)
    (case c9 => k_is)
    (case k9 => k_is)
    (case a10 => k_is)
    (case i10 => k_is)
    (case l10 => k_is)
    (case c10 => k_is)
    (case k10 => k_is)
    (case a11 => k_is)
    (case l11 => k_is)
    (case c11 => k_is)
    (case k11 => k_is)
    (case a12 => k_is)
    (case l12 => k_is)
    (case c12 => k_is)
    (case k12 => k_is)
    (case a13 => k_is)
    (case l13 => k_is)
    (case c13 => k_is)
    (case k13 => k_is)
    (case a14 => k_is)
    (case l14 => k_is)
    (case c14 => k_is)
    (case k14 => k_is)
    (case a15 => k_is)
    (case l15 => k_is)
    (case c15 => k_is)
    (case k15 => k_is)
    (case a16 => k_is)
    (case l16 => k_is)
    (case c16 => k_is)
    (case k16 => k_is)
    (case a17 => k_is)
    (case l17 => k_is)
    (case c17 => k_is)
    (case k17 => k_is)
    (case a18 => k_is)
    (case l18 => k_is)
    (case c18 => k_is)
    (case k18 => k_is)
    (case a19 => k_is)
    (case l19 => k_is)
    (case c19 => k_is)
    (case k19 => k_is)
    (case a20 => k_is)
    (case l20 => k_is)
    (case c20 => k_is)
    (case k20 => k_is)
    (case a21 => k_is)
    (case l21 => k_is)
    (case c21 => k_is)
    (case k21 => k_is)
    (case a22 => k_is)
    (case l22 => k_is)
    (case c22 => k_is)
    (case k22 => k_is)
    (case a23 => k_is)
    (case l23 => k_is)
    (case c23 => k_is)
    (case k23 => k_is)
    (case a24 => k_is)
    (case l24 => k_is)
    (case c24 => k_is)
    (case k24 => k_is)
    (case a25 => k_is)
    (case l25 => k_is)
    (case c25 => k_is)
    (case k25 => k_is)
    (case a26 => k_is)
    (case l26 => k_is)
    (case c26 => k_is)
    (case k26 => k_is)
    (case a27 => k_is)
    (case l27 => k_is)
    (case c27 => k_is)
    (case k27 => k_is)
    (case a28 => k_is)
    (case l28 => k_is)
    (case c28 => k_is)
    (case k28 => k_is)
    (case a29 => k_is)
    (case l29 => k_is)
    (case c29 => k_is)
    (case k29 => k_is)
    (case a30 => k_is)
    (case l30 => k_is)
    (case c30 => k_is)
    (case k30 => k_is)
    (case a31 => k_is)
    (case l31 => k_is)
    (case c31 => k_is)
    (case k31 => k_is)
    (case a32 => k_is)
    (case l32 => k_is)
    (case c32 => k_is)
    (case k32 => k_is)
    (case a33 => k_is)
    (case l33 => k_is)
    (case c33 => k_is)
    (case k33 => k_is)
    (case a34 => k_is)
    (case l34 => k_is)
    (case c34 => k_is)
    (case k34 => k_is)
    (case a35 => k_is)
    (case l35 => k_is)
    (case c35 => k_is)
    (case k35 => k_is)
    (case a36 => k_is)
    (case l36 => k_is)
    (case c36 => k_is)
    (case k36 => k_is)
    (case a37 => k_is)
    (case l37 => k_is)
    (case c37 => k_is)
    (case k37 => k_is)
    (case a38 => k_is)
    (case l38 => k_is)
    (case c38 => k_is)
    (case k38 => k_is)
    (case a39 => k_is)
    (case l39 => k_is)
    (case c39 => k_is)
    (case k39 => k_is)
    (case a40 => k_is)
    (case l40 => k_is)
    (case c40 => k_is)
    (case k40 => k_is)
    (case a41 => k_is)
    (case l41 => k_is)
    (case c41 => k_is)
    (case k41 => k_is)
    (case a42 => k_is)
    (case l42 => k_is)
    (case c42 => k_is)
    (case k42 => k_is)
    (case a43 => k_is)
    (case l43 => k_is)
    (case c43 => k_is)
    (case k43 => k_is)
    (case a44 => k_is)
    (case l44 => k_is)
    (case c44 => k_is)
    (case k44 => k_is)
    (case a45 => k_is)
    (case l45 => k_is)
    (case c45 => k_is)
    (case k45 => k_is)
    (case a46 => k_is)
    (case l46 => k_is)
    (case c46 => k_is)
    (case k46 => k_is)
    (case a47 => k_is)
    (case l47 => k_is)
    (case c47 => k_is)
    (case k47 => k_is)
    (case pgC_Long => k_is)
    (case hdC_Long => k_is)
    (case poC_Long => k_is)
    (case saC_Long => k_is)
    (case kC_Long => k_is)
    (case mkC_Long => k_is)
    (case ic_Long => k_is)
    (case ty_Long => k_is)
    (case cl_Long => k_is)
    (case ob_Long => k_is)
    (case oi_Long => k_is)
    (case na_Long_number => k_is)
    (case pgC_Terms => k_is)
    (case hdC_Terms => k_is)
    (case poC_Terms => k_is)
    (case saC_Terms => k_is)
    (case kC_Terms => k_is)
    (case mkC_Terms => k_is)
    (case ic_Terms => k_is)
    (case ty_Terms => k_is)
    (case cl_Terms => k_is)
    (case ob_Terms => k_is)
    (case oi_Terms => k_is)
    (case na_Terms_above => k_is)
    (case na_Terms_below => k_is)
    (case na_Terms_lowest => k_is)
    (case pgC_Ratio => k_is)
    (case hdC_Ratio => k_is)
    (case poC_Ratio => k_is)
    (case saC_Ratio => k_is)
    (case kC_Ratio => k_is)
    (case mkC_Ratio => k_is)
    (case ic_Ratio => k_is)
    (case ty_Ratio => k_is)
    (case cl_Ratio => k_is)
    (case ob_Ratio => k_is)
    (case oi_Ratio => k_is)
    (case na_Ratio__top => k_is)
    (case na_Ratio__bottom => k_is)
    (case na_Ratio__is_lowest => k_is)
    (case sg => k_is)
    (case tk => k_is)
    (case z_len => k_is)
    (case z_abs => k_is)
    (case z_max => k_is)
    (case z_min => k_is)
    (case z_isinstance => k_is)
    (case z_range => k_is)
    (case z_int => k_is)
    (case z_tuple => k_is)
    (case z_divmod => k_is)
    (case z_sum => k_is)
    (case z_str => k_is)
    (case v__TOO_LONG => k_is)
    (case v__PIECE_DIGITS => k_is)
    (case v__SHORT => k_is)
    (case w_gcd => k_is)
#print axioms PySem.Challenge.cw_toothchain_k47_whole_corner_polynomials_holds
