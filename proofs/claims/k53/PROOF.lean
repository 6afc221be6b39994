import PyProof.Rows.All
import Wide.All
import OpenK.AllK
import Wide.FinOn
import HandS.ForMost
import HandS.Flow
import HandS.Style
import HandS.Wide
import HandS.WideMore
import HandS.WideBits
import HandS.Gcd
import HandS.IsInst
import HandS.Property
import HandS.TupAny
import HandS.TupMul
import HandS.OwnEq
import HandS.TryOnly
import HandS.Evl
import KE.KTupSum
import KE.KAssignIn
import KE.KOpsOwn
import KE.KCallOwn
import HandS.Defaults
import HandS.RaiseMore
import HandS.FStr
import HandS.Text
import HandS.StrMore
import HandS.Zip
import HandS.Iter
import HandS.Walk
import KE.KRevSl
import PyProof.CallFns
import PyProof.ReprRoads
import HandS.EndBits
import PyProof.Rows.Range3
import PyProof.Conv_bool
import PyProof.Rows.StrRev
import PyProof.StrOps2
import PySem.Challenge.RW_toothchain_k53_whole_steps_and_sums
set_option Elab.async false
set_option linter.all false
set_option maxRecDepth 100000
set_option maxHeartbeats 2000000
/-! Rules that the layer lacks: powers of great bases, attributes as targets, slices of tuples with a step, sums of tuples. -/
namespace Tc
open PySem PySem.Spec PyProof.Rows L2
/-- i ** j, the result within the model's line of bits -/
def CPowX (i j : Int) : Prop := 0 ≤ j ∧ (Builtin.Int.intBits i : Int) * j ≤ 2 ^ 27
section
variable {X : Cx}
theorem op_powX : OpR X (binaryOp .Pow) (rI CPowX fun i j => .int (i ^ j.toNat)) := opI fun _ _ _ _ _ _ _ hc q => pow_int hc.1 hc.2 q
/-- e.f as a target -/
def gFld (K : PySem.W.Frag) (ta : TE) (f : Str) : TG := fun v σ H Q => ta σ H fun x H1 => ∃ a C dx fs, x = .ref a ∧ H1 a = some (.ins C dx fs) ∧ Cls K C ∧ NoAttr K C f ∧ fs.length < 1000 ∧ Q σ (upd H1 a (.ins C dx (putF f v fs)))
/-- sum(t) of a tuple of ints -/
def rSumT (K : PySem.W.Frag) : List V → Hp → VK → Prop := fun vs H Q => ∃ (a : Addr) (ns : List Int), vs = [V.ref a] ∧ SqT K H a (ns.map V.int) ∧ Q (.int ns.sum) H
end
end Tc

set_option maxHeartbeats 4000000
namespace Tc
open PySem PySem.Spec PyProof.Rows L2
section
variable {X : Cx}
/-! ### len(o) by the class's own __len__ -/
def rLenOwn (C : Addr) (sp : Sp) (E : XK) : List V → Hp → VK → Prop := fun xs H Q => ∃ a dx fs, xs = [.ref a] ∧ H a = some (.ins C dx fs) ∧ sp [.ref a] H (fun z H' => ∃ i : Int, z = .int i ∧ (0 ≤ i ∧ i < 2 ^ 63) ∧ Q z H') E
end
/-! ### t[i::2] -/
/-- every second item, the first one too -/
def ev2 {α : Type} : List α → List α
  | [] => []
  | [a] => [a]
  | a :: _ :: r => a :: ev2 r
section
variable {prog : Program} {w : World} {A : Around} {E : Value → Shared → Prop} {s : Shared}
end
section
variable {X : Cx}
def tEv2 (K : PySem.W.Frag) (te tl : TE) : TE := fun σ H Q => te σ H fun x H1 => tPart tl σ H1 fun y H2 => ∃ a xs i, x = .ref a ∧ y = some ((i : Nat) : Int) ∧ SqT K H2 a xs ∧ ∀ p, H2 p = none → Q (.ref p) (upd H2 p (.tup (ev2 (xs.drop i))))
end
end Tc

set_option maxHeartbeats 4000000
namespace Tc
open PySem PySem.Spec PyProof.Rows L2
open MeetsSeq MeetsSeq2 MeetsSeq3 SeqRoads2
open AutoSeq1 (wpAny_loadPart')
def rRepG (K : PySem.W.Frag) : R2 := fun x y H Q => ∃ l k xs, x = .ref l ∧ y = .int k ∧ SqT K H l xs ∧ xs ≠ [] ∧ -1000 ≤ k ∧ k ≤ 1000 ∧ xs.length ≤ 1000 ∧ (k = 1 → Q (.ref l) H) ∧
  (k ≤ 0 → ∀ p, H p = none → Q (.ref p) (upd H p (.tup []))) ∧ (2 ≤ k → ∀ p, H p = none → Q (.ref p) (upd H p (.tup (List.replicate k.toNat xs).flatten)))
section
variable {X : Cx}
end
end Tc

/-! Data: rows of ints, rows of pairs, their == . -/
namespace Tc
open PySem PySem.Spec PyProof.Rows L2
def dInts (ns : List Int) : List PyData := ns.map PyData.int
def dPair (c : Int × Int) : PyData := .tuple [.int c.1, .int c.2]
theorem canLay_ints : ∀ ns : List Int, PyData.canLayAll0 (dInts ns) = true
  | [] => by simp [dInts, PyData.canLayAll0]
  | n :: ns => by
    have := canLay_ints ns
    show PyData.canLayAll0 (PyData.int n :: dInts ns) = true
    rw [PyData.canLayAll0, PyData.canLay0, this]
    rfl
theorem depth_ints : ∀ ns : List Int, PyData.depthAll (dInts ns) = 0
  | [] => by simp [dInts, PyData.depthAll]
  | n :: ns => by
    have := depth_ints ns
    show PyData.depthAll (PyData.int n :: dInts ns) = 0
    rw [PyData.depthAll, PyData.depth, this]
    rfl
theorem shp_tup (ns : List Int) : SeqAt.shaped (.tuple (dInts ns)) = true := by
  unfold SeqAt.shaped
  rw [PyData.canLay0, PyData.depth, canLay_ints, depth_ints]
  rfl
theorem shp_lst (ns : List Int) : SeqAt.shaped (.list (dInts ns)) = true := by
  unfold SeqAt.shaped
  rw [PyData.canLay0, PyData.depth, canLay_ints, depth_ints]
  rfl
def dPairs (cs : List (Int × Int)) : List PyData := cs.map dPair
theorem dec_int' (x y : Int) : decide (V.int x = V.int y) = decide (x = y) := by
  by_cases h : x = y
  · rw [decide_eq_true h, decide_eq_true (congrArg V.int h)]
  · rw [decide_eq_false h, decide_eq_false (fun z => h (by injection z))]
end Tc

/-! Tuples put together, repeated, cut: one word for the ways in which the object may be an old one. -/
namespace Tc
open PySem PySem.Spec PyProof.Rows L2
def rRepS (K : PySem.W.Frag) : R2 := fun x y H Q => ∃ l k xs, x = .ref l ∧ y = .int k ∧ SqT K H l xs ∧ xs ≠ [] ∧ -1000 ≤ k ∧ k ≤ 1000 ∧ xs.length ≤ 1000 ∧
  ∀ r H', Same H H' → SqT K H' r (List.replicate k.toNat xs).flatten → Q (.ref r) H'
def rCatS (K : PySem.W.Frag) : R2 := fun x y H Q => ∃ a b xs ys, x = .ref a ∧ y = .ref b ∧ SqT K H a xs ∧ SqT K H b ys ∧ xs.length + ys.length ≤ sizeLine ∧ ∀ r H', Same H H' → SqT K H' r (xs ++ ys) → Q (.ref r) H'
def rSlS (K : PySem.W.Frag) : V → Option Int → Option Int → Hp → VK → Prop := fun x lo hi H Q => ∃ a xs, x = .ref a ∧ SqT K H a xs ∧ ∀ r H', Same H H' → SqT K H' r (cutV xs lo hi) → Q (.ref r) H'
section
variable {X : Cx}
end
end Tc

set_option maxHeartbeats 4000000
/-! == and != by a class's own __eq__, whatever the other side is. -/
namespace Tc
open PySem PySem.Spec PySem.Calls PyProof.Rows L2
section
open PySem.W
variable {prog : Program} {w : World} {A : Around} {E : Value → Shared → Prop} {s : Shared} {K : Frag} {x C L f : Addr} {h₀ : Heap} {m : Str → Option Value} {ox : Obj} {od : Option Obj}
theorem isObject_K {M : Model} (X : K.In s.heap) (I : InstAt s.heap x ox C od) (hob : mroIn K C (.type "object") = some true) : Looks M s.heap (isInstance (.ref x) (.type "object")) true := by
  unfold isInstance
  exact I.type.andThen (looks_mroIn X hob)
theorem check_ne_K {M : Model} {b : Value} {Q : Unit → Shared → Prop} (X : K.In s.heap) (I : InstAt s.heap x ox C od) (hob : mroIn K C (.type "object") = some true) (hq : Q () s) :
    wpAny M A (checkBuiltinCall "object.__ne__" ⟨[.ref x, b], []⟩) Q E s := by
  simp only [checkBuiltinCall, PySem.F.cmpKind_ne, PySem.F.cmpSplit_ne]
  refine wpAny_bind ((isObject_K X I hob).here ?_)
  cases hsig : Manifest.signature? "object.__ne__" with
  | none => exact wpAny_pure hq
  | some sig =>
    have ha := PySem.F.cmpArgs_ne (.ref x) b
    simp only [argsOk, hsig] at ha
    first
      | exact wpAny_of_eq ha (wpAny_pure hq)
      | exact wpAny_of_eq ha hq
      | (simp only [ha]; exact wpAny_pure hq)
      | skip
theorem ne_bind (self : Value) : bindSpecial (.builtin "object.__ne__") self = pure (.builtin "object.__ne__", [self]) :=
  (Slot.of (T := "object") (name := "__ne__") (id := "object.__ne__") (owner := "object") (n := "__ne__") (by rw [typeLookup_type, builtinLookup_eq_fast]; kernel_rfl) (by decide +kernel) (by decide +kernel) (by decide +kernel)
    (by first | exact .inl (by decide +kernel) | exact .inr (by decide +kernel)) (by rw [isSubtype_type]; kernel_rfl)).bind self
theorem ne_plain : plainId "object.__ne__" = true := by decide +kernel
/-- object.__ne__ turns the own __eq__ round -/
theorem objNe_K {b : Value} {Q : Fin → Shared → Prop} (hu : A.units < cLine) (X : K.In s.heap) (I : InstAt s.heap x ox C od) (hs : findIn K (.ref C) "__eq__" = some (some (.ref f))) (hf : isFn K (.ref f) = true)
    (h : wpAny (model prog w) A (call (.ref f) [.ref x, b]) (fun v s' => ∃ r, v = .bool r ∧ Q (.done (.ret (.bool (!r)))) s') E s) : wpAny (model prog w) A (Builtin.«object.__ne__» ⟨[.ref x, b], []⟩) Q E s := by
  unfold Builtin.«object.__ne__»
  repeat (first
    | with_reducible refine wpAny_cRoomFor hu ?_
    | (refine wpAny_bind (m := callSpecialIfBound? (.ref x) (Str.ofString "__eq__") [b]) (ifBound_K X I hs hf (wpAny_mono h (fun r s' hr => by
          obtain ⟨q, rfl, hq⟩ := hr
          repeat (first | exact hq | exact wpAny_pure hq | exact wpAny_truthy_bool hq | (refine wpAny_bind (m := truthy (.bool _)) (wpAny_truthy_bool ?_)) | wp_step)) fun _ _ e => e)))
    | wp_step)
theorem ifNe_K {b : Value} {Q : Option Value → Shared → Prop} (hu : A.units + 1 < cLine) (X : K.In s.heap) (I : InstAt s.heap x ox C od) (hne : findIn K (.ref C) "__ne__" = some (some (.builtin "object.__ne__"))) (hob : mroIn K C (.type "object") = some true)
    (hs : findIn K (.ref C) "__eq__" = some (some (.ref f))) (hf : isFn K (.ref f) = true) (h : wpAny (model prog w) A.in1 (call (.ref f) [.ref x, b]) (fun v s' => ∃ r, v = .bool r ∧ Q (some (.bool (!r))) s') E s) :
    wpAny (model prog w) A (callSpecialIfBound? (.ref x) "__ne__" [b]) Q E s := by
  simp only [callSpecialIfBound?, bindSpecialIfBound?]
  refine wpAny_holding (wpAny_bind (wpAny_bind (wpAny_bind (I.type.here ((looks_findIn X hne).here ?_)))))
  simp only [ne_bind]
  refine wpAny_bind (wpAny_askSetting (wpAny_ite ?_))
  have fin : wpAny (model prog w) A (call (.builtin "object.__ne__") ([.ref x] ++ [b]) >>= fun v => pure (some v)) Q E s := by
    refine wpAny_bind (wpAny_call (codeAny_call_builtin ne_plain PySem.F.cmpEntry_ne (check_ne_K X I hob (objNe_K (A := A.in1) hu X I hs hf (wpAny_mono h (fun v s' hv => ?_) fun _ _ e => e)))))
    obtain ⟨r, rfl, hq⟩ := hv
    first | exact ⟨r, rfl, wpAny_pure hq⟩ | exact ⟨r, rfl, hq⟩
  split
  · exact wpAny_bind (wpAny_pure (wpAny_pure fin))
  · exact wpAny_tryCatch (wpAny_bind (wpAny_pure (wpAny_pure fin)))
theorem ne_K {b tb : Value} {Q : Value → Shared → Prop} (hu : A.units + 1 < cLine) (F : Fr h₀ L s.heap m) (X₀ : K.In h₀) (I : InstAt s.heap x ox C od) (hb : Looks (model prog w) s.heap (typeOf b) tb) (hn : notFirst K C tb = true)
    (hne : findIn K (.ref C) "__ne__" = some (some (.builtin "object.__ne__"))) (hob : mroIn K C (.type "object") = some true) (hs : findIn K (.ref C) "__eq__" = some (some (.ref f))) (hf : isFn K (.ref f) = true)
    (h : wpAny (model prog w) A.in1 (call (.ref f) [.ref x, b]) (fun v s' => ∃ r, v = .bool r ∧ Q (.bool (!r)) s') E s) : wpAny (model prog w) A (richCompare .NotEq (.ref x) b) Q E s := by
  have X := X₀.keeps F.keep
  have one : wpAny (model prog w) A (tryCompare (.ref x) "__ne__" b) (fun r s' => ∃ v, r = some v ∧ Q v s') E s := by
    unfold tryCompare
    refine wpAny_bind (ifNe_K hu X I hne hob hs hf (wpAny_mono h (fun v s' hv => ?_) fun _ _ e => e))
    obtain ⟨r, rfl, hq⟩ := hv
    exact ⟨r, rfl, wpAny_pure ⟨_, rfl, hq⟩⟩
  unfold richCompare
  simp only [oneThing_ref]
  refine wpAny_holding (wpAny_bind (wpAny_cRoomFor (Nat.lt_of_succ_lt hu) ?_))
  rw [cmpInfo_NotEq]
  dsimp only
  refine wpAny_bind (I.type.here (wpAny_bind (hb.here ?_)))
  split
  · rename_i q
    have e : subIn K tb (.ref C) = some false := by
      rcases Bool.or_eq_true_iff.mp hn with e | e
      · rw [beq_iff_eq.mp e] at q; simp at q
      · exact beq_iff_eq.mp e
    refine wpAny_bind ((looks_subIn X e).here ?_)
    simp only [Bool.false_eq_true, if_false]
    refine wpAny_bind (wpAny_mono one (fun r s' z => ?_) fun _ _ e => e)
    obtain ⟨v, rfl, hq⟩ := z
    exact wpAny_pure hq
  · refine wpAny_bind (wpAny_pure ?_)
    simp only [Bool.false_eq_true, if_false]
    refine wpAny_bind (wpAny_mono one (fun r s' z => ?_) fun _ _ e => e)
    obtain ⟨v, rfl, hq⟩ := z
    exact wpAny_pure hq
end
section
variable {X : Cx}
/-- what the top says of a class with an own __eq__ -/
structure EqC (K : PySem.W.Frag) (C f : Addr) : Prop where
  eq : PySem.W.findIn K (.ref C) "__eq__" = some (some (.ref f))
  ne : PySem.W.findIn K (.ref C) "__ne__" = some (some (.builtin "object.__ne__"))
  fn : PySem.W.isFn K (.ref f) = true
  ob : PySem.W.mroIn K C (.type "object") = some true
/-- x == y, x of the class: what the own __eq__ promises of both -/
def rEqO (K : PySem.W.Frag) (C : Addr) (sp : Sp) (E : XK) : R2 := fun x y H Q => ∃ a dx fs t, x = .ref a ∧ H a = some (.ins C dx fs) ∧ TyX K H y t ∧ PySem.W.notFirst K C t = true ∧ sp [x, y] H (fun z H' => ∃ b, z = .bl b ∧ Q (.bl b) H') E
def rNeO (K : PySem.W.Frag) (C : Addr) (sp : Sp) (E : XK) : R2 := fun x y H Q => ∃ a dx fs t, x = .ref a ∧ H a = some (.ins C dx fs) ∧ TyX K H y t ∧ PySem.W.notFirst K C t = true ∧ sp [x, y] H (fun z H' => ∃ b, z = .bl b ∧ Q (.bl (!b)) H') E
theorem op_eqO {CX : CXT} {k : Nat} {f C : Addr} {fd : FuncData} {ps : List Str} {sp : Sp} {E : XK} (c : EqC X.K C f) (F : FnOk X.prog X.w X.K X.mg X.base CX k f fd ps sp) (hb : Binds X.K fd ps []) (hx : Passes CX X E) (hr : Room k X.A) : OpR X (compareOp .Eq) (rEqO X.K C sp E) := by
  intro pins s σ H x y v u Q I rx ry h
  obtain ⟨a, dx, fs, t, rfl, ha, ty, hn, q⟩ := h
  cases rx
  obtain ⟨mA, J, _⟩ := ins_get I.hok ha
  obtain ⟨od, J, _⟩ := J.look
  obtain ⟨m, hF⟩ := I.fr
  obtain ⟨P, Z, p, _⟩ := kit_of I ry ty
  have hl : ([Value.ref a, u]).length = ps.length := by
    rw [← F.len _ _ _ _ q]
    rfl
  show wpAny (model X.prog X.w) X.A (richCompare .Eq (.ref a) u) (EP X pins σ Q) X.xe s
  refine PySem.W.cmp_K (op := .Eq) hr.units0 hF I.ok.mod.kin J (Z.ty _ _ I.kIn p) hn c.eq c.fn ?_
  refine wpAny_call (codeAny_mono (F.run X.A X.stack s H ⟨[.ref a, u], []⟩ [.ref a, u] [.ref a, y] _ E hr I.env0 (by simpa using hb s [.ref a, u] I.kIn hl) (.cons rfl (.cons ry .nil)) q) fun r' s' hq => ?_)
  cases r' with
  | error e => exact hx pins σ H s e s' I hq
  | ok fl =>
    cases fl with
    | ret w' =>
      obtain ⟨z, H', I', rz, b, ez, q'⟩ := I.after hq
      subst ez
      cases rz
      exact ⟨.bl b, H', I', rfl, q'⟩
    | next => exact False.elim hq
    | brk => exact False.elim hq
    | cont => exact False.elim hq
theorem op_neO {CX : CXT} {k : Nat} {f C : Addr} {fd : FuncData} {ps : List Str} {sp : Sp} {E : XK} (c : EqC X.K C f) (F : FnOk X.prog X.w X.K X.mg X.base CX k f fd ps sp) (hb : Binds X.K fd ps []) (hx : Passes CX X E) (hr : Room (k + 1) X.A) : OpR X (compareOp .NotEq) (rNeO X.K C sp E) := by
  intro pins s σ H x y v u Q I rx ry h
  obtain ⟨a, dx, fs, t, rfl, ha, ty, hn, q⟩ := h
  cases rx
  obtain ⟨mA, J, _⟩ := ins_get I.hok ha
  obtain ⟨od, J, _⟩ := J.look
  obtain ⟨m, hF⟩ := I.fr
  obtain ⟨P, Z, p, _⟩ := kit_of I ry ty
  have hl : ([Value.ref a, u]).length = ps.length := by
    rw [← F.len _ _ _ _ q]
    rfl
  show wpAny (model X.prog X.w) X.A (richCompare .NotEq (.ref a) u) (EP X pins σ Q) X.xe s
  refine ne_K (by have := hr.units; omega) hF I.ok.mod.kin J (Z.ty _ _ I.kIn p) hn c.ne c.ob c.eq c.fn ?_
  refine wpAny_call (codeAny_mono (F.run X.A.in1 X.stack s H ⟨[.ref a, u], []⟩ [.ref a, u] [.ref a, y] _ E hr.in1 I.env0.in1 (by simpa using hb s [.ref a, u] I.kIn hl) (.cons rfl (.cons ry .nil)) q) fun r' s' hq => ?_)
  cases r' with
  | error e => exact hx pins σ H s e s' I hq
  | ok fl =>
    cases fl with
    | ret w' =>
      obtain ⟨z, H', I', rz, b, ez, q'⟩ := I.after hq
      subst ez
      cases rz
      exact ⟨b, rfl, .bl (!b), H', I', rfl, q'⟩
    | next => exact False.elim hq
    | brk => exact False.elim hq
    | cont => exact False.elim hq
end
end Tc

set_option maxHeartbeats 4000000
/-! Own operators: +, -, * of a class with its own instances and with ints on either side; - in front; str; an index. -/
namespace Tc
open PySem PySem.Spec PySem.Calls PyProof.Rows L2
section
open PySem.W
def PlainAt (x : Addr) (s : Shared) : Prop := ∃ C dx, s.heap.get? x = some (PySem.W.instObj C dx)
/-- what is known of an int's own operator -/
structure IntOp (op : Operator) (id : String) (B : Builtin) : Prop where
  fills : fillsNumberSlot (.type "int") op.info.2 = pure true
  slot : Slot "int" (dunder op.info.2) id
  entry : entryFor table id = some B
  args : ∀ a b, argsOk id ⟨[a, b], []⟩
  no : ∀ i t x, GivesAt (PlainAt x) (B ⟨[.int i t, .ref x], []⟩) (.val (Value.notImplemented))
variable {prog : Program} {w : World} {A : Around} {E : Value → Shared → Prop} {s : Shared} {K : Frag} {x C L f g : Addr} {h₀ : Heap} {m : Str → Option Value} {ox : Obj} {od : Option Obj} {id : String} {B : Builtin}
end
section
variable {X : Cx}
/-- what comes back is a value of ours, never NotImplemented -/
theorem cmp_back {pins : List (Addr × Obj)} {σ : L2.St} {Q : VK} {z : V} {w : Value} {s : Shared} {H : Hp} (I : Inv X pins σ H s) (r : RelV z w) (q : Q z H) : PySem.W.CmpBack (EP X pins σ Q) w s := by
  cases z with
  | non => cases r; exact ⟨.non, H, I, rfl, q⟩
  | bl b => cases r; exact ⟨.bl b, H, I, rfl, q⟩
  | int i => obtain ⟨t, rfl⟩ := r; exact ⟨.int i, H, I, ⟨_, rfl⟩, q⟩
  | str i => obtain ⟨t, rfl⟩ := r; exact ⟨.str i, H, I, ⟨_, rfl⟩, q⟩
  | byt i => obtain ⟨t, rfl⟩ := r; exact ⟨.byt i, H, I, ⟨_, rfl⟩, q⟩
  | flt i => obtain ⟨t, rfl⟩ := r; exact ⟨.flt i, H, I, ⟨_, rfl⟩, q⟩
  | ref a => cases r; exact ⟨.ref a, H, I, rfl, q⟩
  | ty n => cases r; exact ⟨.ty n, H, I, rfl, q⟩
/-- what the top says of a class's own operator: d its name, r the reflected one's -/
structure OpC (K : PySem.W.Frag) (C f : Addr) (d r : Str) : Prop where
  slot : PySem.W.findIn K (.ref C) d = some (some (.ref f))
  fn : PySem.W.isFn K (.ref f) = true
  first : PySem.W.selfFirst K C = true
  rc : ∃ rc, PySem.W.findIn K (.ref C) r = some rc ∧ (rc = none ∨ ∃ g : Addr, rc = some (.ref g))
  it : ∃ fo, PySem.W.findIn K (.type "int") d = some fo
  ir : ∃ ro, PySem.W.findIn K (.type "int") r = some ro
  sub : PySem.W.subIn K (.type "int") (.ref C) = some false
/-- and of the reflected one -/
structure RopC (K : PySem.W.Frag) (C f g : Addr) (d r : Str) : Prop where
  slot : PySem.W.findIn K (.ref C) d = some (some (.ref f))
  rslot : PySem.W.findIn K (.ref C) r = some (some (.ref g))
  fn : PySem.W.isFn K (.ref g) = true
  first : PySem.W.selfFirst K C = true
  sub : PySem.W.subIn K (.ref C) (.type "int") = some false
/-- x op y, x of the class, y of it or an int -/
def rOp (C : Addr) (sp : Sp) (E : XK) : R2 := fun x y H Q => ∃ a dx fs, x = .ref a ∧ H a = some (.ins C dx fs) ∧ ((∃ b dy gs, y = .ref b ∧ H b = some (.ins C dy gs)) ∨ ∃ i : Int, y = .int i) ∧ sp [x, y] H Q E
/-- an int op y, y of the class -/
def rRop (C : Addr) (sp : Sp) (E : XK) : R2 := fun x y H Q => ∃ (i : Int) (b dy : Addr) (gs : List (Str × V)), x = .int i ∧ y = .ref b ∧ H b = some (.ins C dy gs) ∧ sp [y, x] H Q E
theorem op_own {op : Operator} {CX : CXT} {k : Nat} {f C : Addr} {fd : FuncData} {ps : List Str} {sp : Sp} {E : XK} (c : OpC X.K C f (dunder op.info.2) (dunderR op.info.2)) (F : FnOk X.prog X.w X.K X.mg X.base CX k f fd ps sp) (hb : Binds X.K fd ps []) (hx : Passes CX X E) (hr : Room k X.A) : OpR X (binaryOp op) (rOp C sp E) := by
  intro pins s σ H x y v u Q I rx ry h
  obtain ⟨a, dx, fs, rfl, ha, hy, q⟩ := h
  cases rx
  obtain ⟨mA, J, _⟩ := ins_get I.hok ha
  obtain ⟨od, J, _⟩ := J.look
  obtain ⟨m, hF⟩ := I.fr
  have hl : ([Value.ref a, u]).length = ps.length := by
    rw [← F.len _ _ _ _ q]
    rfl
  have run : wpAny (model X.prog X.w) X.A (call (.ref f) [.ref a, u]) (PySem.W.CmpBack (EP X pins σ Q)) X.xe s := by
    refine wpAny_call (codeAny_mono (F.run X.A X.stack s H ⟨[.ref a, u], []⟩ [.ref a, u] [.ref a, y] _ E hr I.env0 (by simpa using hb s [.ref a, u] I.kIn hl) (.cons rfl (.cons ry .nil)) q) fun r' s' hq => ?_)
    cases r' with
    | error e => exact hx pins σ H s e s' I hq
    | ok fl =>
      cases fl with
      | ret w' =>
        obtain ⟨z, H', I', rz, q'⟩ := I.after hq
        exact cmp_back I' rz q'
      | next => exact False.elim hq
      | brk => exact False.elim hq
      | cont => exact False.elim hq
  rcases hy with ⟨b, dy, gs, rfl, hb'⟩ | ⟨i, rfl⟩
  · cases ry
    obtain ⟨mB, J', _⟩ := ins_get I.hok hb'
    obtain ⟨od', J', _⟩ := J'.look
    exact PySem.W.binop_K hF I.ok.mod.kin J J'.type c.first c.slot c.fn run
  · obtain ⟨t, rfl⟩ := ry
    obtain ⟨rc, h1, h2⟩ := c.rc
    obtain ⟨fo, h3⟩ := c.it
    obtain ⟨ro, h4⟩ := c.ir
    exact PySem.W.ksp_binT hF I.ok.mod.kin J rfl c.first c.slot c.fn h1 h2 h3 h4 c.sub run
/-- a method of no more arguments than the object itself, as a builtin asks for it -/
structure UnC (K : PySem.W.Frag) (C f : Addr) (d : Str) : Prop where
  slot : PySem.W.findIn K (.ref C) d = some (some (.ref f))
  fn : PySem.W.isFn K (.ref f) = true
def rUnO (C : Addr) (sp : Sp) (E : XK) : V → Hp → VK → Prop := fun x H Q => ∃ a dx fs, x = .ref a ∧ H a = some (.ins C dx fs) ∧ sp [x] H Q E
def rStrO (C : Addr) (sp : Sp) (E : XK) : List V → Hp → VK → Prop := fun xs H Q => ∃ a dx fs, xs = [.ref a] ∧ H a = some (.ins C dx fs) ∧ sp [.ref a] H (fun z H' => ∃ y : Str, z = .str y ∧ Q z H') E
def rIxO (C : Addr) (sp : Sp) (E : XK) : R2 := fun x y H Q => ∃ a dx fs, x = .ref a ∧ H a = some (.ins C dx fs) ∧ sp [x, y] H Q E
def CDivZ (_ j : Int) : Prop := j ≠ 0 ∧ j.natAbs.log2 < 9000
end
end Tc

/-! Small words for every law. -/
namespace Tc
open PySem PySem.Spec PyProof.Rows L2
theorem ifF {c : Bool} {A B : Prop} (hc : c = false) (h : B) : if c = true then A else B := by
  rw [hc, if_neg Bool.false_ne_true]
  exact h
theorem ifT {c : Bool} {A B : Prop} (hc : c = true) (h : A) : if c = true then A else B := by
  rw [if_pos hc]
  exact h
theorem same_new {H : Hp} {p : Addr} {o : HO} (h : H p = none) : Same H (upd H p o) := fun b u e => by
  rw [upd_ne (ne_of_none e h)]
  exact e
theorem same_mut {H H' : Hp} {p : Addr} {o : HO} (e : Same H H') (h : H p = none) : Same H (upd H' p o) := fun b u q => by
  rw [upd_ne (ne_of_none q h)]
  exact e b u q
theorem lt_line {n : Nat} (h : n < 100000) : n < sizeLine := Nat.lt_of_lt_of_le h (by decide)
theorem made {H H1 : Hp} {x dx C : Addr} (nx : H x = none) (nd : H dx = none) (k : ∀ b o, (upd (upd H dx (.own x)) x (.ins C dx [])) b = some o → b ≠ x → H1 b = some o) : Same H H1 := fun b o e =>
  k b o (by rw [upd_ne (ne_of_none e nx), upd_ne (ne_of_none e nd)]; exact e) (ne_of_none e nx)
theorem same_up {H : Hp} {x dx C : Addr} (nx : H x = none) (nd : H dx = none) : Same H (upd (upd H dx (.own x)) x (.ins C dx [])) := fun b o e => by
  rw [upd_ne (ne_of_none e nx), upd_ne (ne_of_none e nd)]
  exact e
/-- what is not a list stands -/
def Sol (H H' : Hp) : Prop := ∀ b o, H b = some o → (∀ xs, o ≠ .lst xs) → H' b = some o
theorem same_sol {H H' : Hp} (e : Same H H') : Sol H H' := fun b o h _ => e b o h
theorem same_sqT {K : PySem.W.Frag} {H H' : Hp} {a : Addr} {xs : List V} (e : Same H H') (h : SqT K H a xs) : SqT K H' a xs := by
  rcases h with (h | ⟨o, h⟩) | h
  · exact .inl (.inl (e _ _ h))
  · exact .inl (.inr ⟨o, e _ _ h⟩)
  · exact .inr h
/-! texts -/
end Tc

set_option maxHeartbeats 4000000
/-! abs by the own __abs__, truth by the own __bool__, repr of a truth. -/
namespace Tc
open PySem PySem.Spec PySem.Calls PyProof.Rows L2
section
open PySem.W
variable {prog : Program} {w : World} {A : Around} {E : Value → Shared → Prop} {s : Shared} {K : Frag} {x C L f g : Addr} {h₀ : Heap} {m : Str → Option Value} {ox : Obj} {od : Option Obj}
end
section
variable {X : Cx}
def rAbsO (C : Addr) (sp : Sp) (E : XK) : List V → Hp → VK → Prop := fun xs H Q => ∃ a dx fs, xs = [.ref a] ∧ H a = some (.ins C dx fs) ∧ sp [.ref a] H Q E
end
/-! a list that a law draws from; all else stands -/
def Frm (a : Addr) (H H' : Hp) : Prop := ∀ b o, b ≠ a → H b = some o → H' b = some o
theorem Frm.refl {a : Addr} {H : Hp} : Frm a H H := fun _ _ _ h => h
theorem Frm.trans {a : Addr} {H H1 H2 : Hp} (x : Frm a H H1) (y : Frm a H1 H2) : Frm a H H2 := fun b o n h => y b o n (x b o n h)
theorem same_frame {a : Addr} {H H' : Hp} (x : Same H H') : Frm a H H' := fun b o _ h => x b o h
theorem Frm.write {a : Addr} {H : Hp} {o : HO} : Frm a H (upd H a o) := fun b _ n h => by rw [upd_ne n]; exact h
theorem Frm.sol {a : Addr} {H H' : Hp} {l : List V} (x : Frm a H H') (h : H a = some (.lst l)) : Sol H H' := fun b o q n => by
  refine x b o ?_ q
  rintro rfl
  rw [h] at q
  cases q
  exact n _ rfl
def Bowl (H : Hp) (a : Addr) : Prop := ∃ g s n : Int, H a = some (.lst [.int g, .int s, .int n])
theorem Bowl.stay {a : Addr} {H H' : Hp} (B : Bowl H a) (x : Same H H') : Bowl H' a := by
  obtain ⟨g, s, n, h⟩ := B
  exact ⟨g, s, n, x _ _ h⟩
end Tc

/-! Small words for comprehensions over walks; divmod of great numbers. -/
namespace Tc
open PySem PySem.Spec PyProof.Rows L2
theorem binds_nil {K : PySem.W.Frag} {fd : FuncData} {ps : List Str} (h : ∃ ds, Vals [] ds ∧ Binds K fd ps ds) : Binds K fd ps [] := by
  obtain ⟨ds, v, b⟩ := h
  cases v
  exact b
theorem divp_wide {i j : Int} (h : CDivW i j) : CDivP i j := ⟨h.1, PyProof.noPylong_of_log2 h.2⟩
section
variable {prog : Program} {w : World} {A : Around} {E : Value → Shared → Prop} {s : Shared}
end
section
variable {X : Cx}
def tRevT (K : PySem.W.Frag) (te : TE) : TE := fun σ H Q => te σ H fun x H1 => ∃ a xs, x = .ref a ∧ SqT K H1 a xs ∧ ∀ p, H1 p = none → Q (.ref p) (upd H1 p (.tup xs.reverse))
end
end Tc

/-! Facts carried back to the heap in which they are known. -/
namespace Tc
open PySem PySem.Spec PyProof.Rows L2
theorem back_raw {H H' : Hp} {a : Addr} {o : HO} (e : Same H H') (h : H a = some o) : H' a = some o := e _ _ h
theorem back_sqT {K : PySem.W.Frag} {H H' : Hp} {a : Addr} {xs : List V} (e : Same H H') (h : SqT K H a xs) : SqT K H' a xs := same_sqT e h
theorem same_sqL {K : PySem.W.Frag} {H H' : Hp} {a : Addr} {xs : List V} (e : Same H H') (h : SqL K H a xs) : SqL K H' a xs := Same.seq e h
theorem made2 {H H1 : Hp} {x dx C : Addr} (k : ∀ b o, (upd (upd H dx (.own x)) x (.ins C dx [])) b = some o → b ≠ x → H1 b = some o) (nx : H x = none) (nd : H dx = none) : Same H H1 := made nx nd k
theorem bowl_back {H H' : Hp} {a : Addr} (x : Same H H') (B : Bowl H a) : Bowl H' a := B.stay x
theorem frm_back {a : Addr} {H H1 H' : Hp} (y : Same H1 H') (x : Frm a H H1) : Frm a H H' := x.trans (same_frame y)
theorem frm_backF {a : Addr} {H H1 H' : Hp} (y : Frm a H1 H') (x : Frm a H H1) : Frm a H H' := x.trans y
theorem sol_frm {a : Addr} {H H' : Hp} (x : Frm a H H') (B : Bowl H a) : Sol H H' := by
  obtain ⟨g, s, n, h⟩ := B
  exact x.sol h
theorem ifTd {p : Prop} [Decidable p] {A B : Prop} (hp : p) (h : A) : if decide p = true then A else B := ifT (decide_eq_true hp) h
theorem ifFd {p : Prop} [Decidable p] {A B : Prop} (hp : ¬ p) (h : B) : if decide p = true then A else B := ifF (decide_eq_false hp) h
end Tc

/-! Numbers' bits; what draws leave. -/
namespace Tc
open PySem PySem.Spec PyProof.Rows L2
theorem Frm.free {a p : Addr} {H H' : Hp} {o : HO} (x : Frm a H H') (h : H' a = some o) (n : H' p = none) : H p = none := by
  cases e : H p with
  | none => rfl
  | some u =>
    have hp : p ≠ a := by
      rintro rfl
      rw [h] at n
      cases n
    rw [x p u hp e] at n
    cases n
theorem Frm.seq {K : PySem.W.Frag} {a b : Addr} {H H' : Hp} {xs : List V} (x : Frm a H H') (n : b ≠ a) (h : SqL K H b xs) : SqL K H' b xs := by
  rcases h with (h | ⟨o, h⟩) | h
  · exact .inl (.inl (x _ _ n h))
  · exact .inl (.inr ⟨o, x _ _ n h⟩)
  · exact .inr h
theorem Bowl.ne {a p : Addr} {H : Hp} (B : Bowl H a) (n : H p = none) : p ≠ a := by
  rintro rfl
  obtain ⟨g, s, k, h⟩ := B
  rw [h] at n
  cases n
theorem Bowl.free {a p : Addr} {H H' : Hp} (B : Bowl H' a) (x : Frm a H H') (n : H' p = none) : H p = none := by
  obtain ⟨g, s, k, h⟩ := B
  exact x.free h n
theorem frm_raw {a b : Addr} {H H' : Hp} {o : HO} (y : Frm a H H') (n : b ≠ a) (h : H b = some o) : H' b = some o := y _ _ n h
theorem frm_tup {a b : Addr} {H H' : Hp} {o : HO} (y : Frm a H H') (B : Bowl H a) (h : H b = some o) (n : ∀ xs, o ≠ .lst xs) : H' b = some o := by
  obtain ⟨g, s, k, e⟩ := B
  exact y.sol e b o h n
/-! bits -/
def Bt (n : Nat) (x : Int) : Prop := x.natAbs < 2 ^ n
theorem Bt.mono {n m : Nat} {x : Int} (h : Bt n x) (l : n ≤ m) : Bt m x := Nat.lt_of_lt_of_le h (Nat.pow_le_pow_right (by decide) l)
theorem bt_lit {n : Nat} {x : Int} (h : x.natAbs < 2 ^ n) : Bt n x := h
theorem bt_neg {n : Nat} {x : Int} (h : Bt n x) : Bt n (-x) := by
  unfold Bt at *
  rwa [Int.natAbs_neg]
theorem bt_add {n m : Nat} {x y : Int} (h : Bt n x) (k : Bt m y) : Bt (n + m + 1) (x + y) := by
  have h1 := h.mono (Nat.le_add_right n m)
  have h2 := k.mono (Nat.le_add_left m n)
  unfold Bt at *
  have := Int.natAbs_add_le x y
  rw [Nat.pow_succ]
  omega
theorem bt_sub {n m : Nat} {x y : Int} (h : Bt n x) (k : Bt m y) : Bt (n + m + 1) (x - y) := by
  rw [Int.sub_eq_add_neg]
  exact bt_add h (bt_neg k)
theorem bt_addm {n : Nat} {x y : Int} (h : Bt n x) (k : Bt n y) : Bt (n + 1) (x + y) := by
  unfold Bt at *
  have := Int.natAbs_add_le x y
  rw [Nat.pow_succ]
  omega
theorem bt_subm {n : Nat} {x y : Int} (h : Bt n x) (k : Bt n y) : Bt (n + 1) (x - y) := by
  rw [Int.sub_eq_add_neg]
  exact bt_addm h (bt_neg k)
theorem bt_mul {n m : Nat} {x y : Int} (h : Bt n x) (k : Bt m y) : Bt (n + m) (x * y) := by
  unfold Bt at *
  rw [Int.natAbs_mul, Nat.pow_add]
  exact Nat.mul_lt_mul'' h k
theorem bt_div {n : Nat} {x y : Int} (h : Bt n x) : Bt (n + 1) (x / y) := by
  unfold Bt at *
  have e : (2 : Nat) ^ (n + 1) = 2 ^ n * 2 := Nat.pow_succ ..
  have hp : 0 < 2 ^ n := Nat.pow_pos (by decide)
  rcases Int.lt_trichotomy y 0 with q | q | q
  · have e2 : x / y = -(x / -y) := by rw [Int.ediv_neg, Int.neg_neg]
    rw [e2, Int.natAbs_neg]
    rcases Int.le_total 0 x with p | p
    · have := Int.ediv_le_self (-y) p
      have := Int.ediv_nonneg p (show 0 ≤ -y by omega)
      omega
    · have h1 : x ≤ x / -y := Int.le_ediv_of_mul_le (by omega) (by
        have := Int.mul_le_mul_of_nonpos_left p (show 1 ≤ -y by omega)
        omega)
      have h2 : x / -y ≤ 0 := Int.ediv_nonpos_of_nonpos_of_neg p (by omega)
      omega
  · subst q
    rw [Int.ediv_zero]
    show 0 < _
    exact Nat.pow_pos (by decide)
  · rcases Int.le_total 0 x with p | p
    · have := Int.ediv_le_self y p
      have := Int.ediv_nonneg p (show 0 ≤ y by omega)
      omega
    · have h1 : x ≤ x / y := Int.le_ediv_of_mul_le q (by
        have := Int.mul_le_mul_of_nonpos_left p (show 1 ≤ y by omega)
        omega)
      have h2 : x / y ≤ 0 := Int.ediv_nonpos_of_nonpos_of_neg p (by omega)
      omega
theorem bt_mod {n : Nat} {x y : Int} (h : 0 < y) (k : Bt n y) : Bt n (x % y) := by
  unfold Bt at *
  have := Int.emod_lt_of_pos x h
  have := Int.emod_nonneg x (show y ≠ 0 by omega)
  omega
theorem bt_le {n : Nat} {x y : Int} (h : 0 ≤ x) (l : x ≤ y) (k : Bt n y) : Bt n x := by
  unfold Bt at *
  omega
theorem bt_mulW {n m : Nat} {x y : Int} (h : Bt n x) (k : Bt m y) (l : n + m ≤ 900000) : CMulW x y :=
  wide_mul (h.mono (Nat.le_succ n)) (k.mono (Nat.le_succ m)) (Nat.succ_pos _) (Nat.succ_pos _) (by omega)
theorem bt_divW {n : Nat} {x y : Int} (p : 0 < y) (k : Bt n y) (l : n ≤ 8000) : CDivW x y := wide_div p (k.mono (Nat.le_succ n)) (Nat.succ_pos _) (by omega)
theorem bt_divP {n : Nat} {x y : Int} (p : 0 < y) (k : Bt n y) (l : n ≤ 8000) : CDivP x y := divp_wide (bt_divW p k l)
theorem bt10 {n : Nat} {x : Int} (h : -(10 ^ 60) < x) (k : x < 10 ^ 60) (l : 200 ≤ n) : Bt n x := by
  refine Bt.mono (n := 200) ?_ l
  unfold Bt
  have : (10 : Nat) ^ 60 < 2 ^ 200 := by decide +kernel
  omega
end Tc
namespace Tc
open PySem PySem.Spec PyProof.Rows L2
theorem same_snoc {H H1 H2 : Hp} (b : Same H1 H2) (a : Same H H1) : Same H H2 := Same.trans a b
theorem bowl_ne {a p : Addr} {H : Hp} (n : H p = none) (B : Bowl H a) : p ≠ a := B.ne n
end Tc
namespace Tc
open PySem PySem.Spec PyProof.Rows L2
/-- a word's end: what stands in it is not opened by itself -/
structure Stop (p : Prop) : Prop where
  h : p
theorem pass_body {W : Nat → L2.St → Hp → Prop} {m : Nat} {B : (L2.St → Hp → Prop) → Prop} (h : B (fun σ' H' => Stop (∃ m', m' < m ∧ W m' σ' H'))) : ∃ N : L2.St → Hp → Prop, (∀ σ' H', N σ' H' → ∃ m', m' < m ∧ W m' σ' H') ∧ B N :=
  ⟨fun σ' H' => Stop (∃ m', m' < m ∧ W m' σ' H'), fun _ _ z => z.h, h⟩
end Tc
namespace Tc
open PySem PySem.Spec PyProof.Rows L2
theorem tyV_lst {K : PySem.W.Frag} {H : Hp} {p : Addr} {xs : List V} (h : H p = some (.lst xs)) : tyV K "list" (.ref p) H := .inl ⟨rfl, xs, SqL.of h⟩
end Tc
namespace Tc
open PySem PySem.Spec PyProof.Rows L2
theorem sqL_K {K K' : PySem.W.Frag} {H : Hp} {a : Addr} {xs : List V} (h : SqL K H a xs) (e : K = K') : SqL K' H a xs := e ▸ h
theorem sqT_K {K K' : PySem.W.Frag} {H : Hp} {a : Addr} {xs : List V} (h : SqT K H a xs) (e : K = K') : SqT K' H a xs := e ▸ h
theorem frm_sqL {K : PySem.W.Frag} {a b : Addr} {H H' : Hp} {xs : List V} (y : Frm a H H') (n : b ≠ a) (h : SqL K H b xs) : SqL K H' b xs := y.seq n h
end Tc
namespace Tc
open PySem PySem.Spec PyProof.Rows L2
theorem free_frm {a p : Addr} {H H' : Hp} (n : H' p = none) (B : Bowl H' a) (x : Frm a H H') : H p = none := B.free x n
theorem free_same {p : Addr} {H H' : Hp} (n : H' p = none) (x : Same H H') : H p = none := x.free n
end Tc
namespace Tc
open PySem PySem.Spec PyProof.Rows L2
end Tc
namespace Tc
open PySem PySem.Spec PyProof.Rows L2
theorem ne_ii {x y : Int} (h : x = y) : (!decide (V.int x = V.int y)) = false := by
  subst h
  rw [decide_eq_true rfl]
  rfl
end Tc
namespace Tc
open PySem PySem.Spec PyProof.Rows L2
/-- what the bowl's holder did not know is all that changed -/
theorem same_frm_back {a : Addr} {H H1 H' : Hp} (h : H a = none) (s : Same H H1) (f : Frm a H1 H') : Same H H' := fun b o e => f b o (by
  rintro rfl
  rw [h] at e
  cases e) (s b o e)
end Tc
namespace Tc
open PySem PySem.Spec PyProof.Rows L2
def dxOf (H : Hp) (p : Addr) : Addr := match H p with
  | some (.ins _ d _) => d
  | _ => p
def fsOf (H : Hp) (p : Addr) : List (Str × V) := match H p with
  | some (.ins _ _ f) => f
  | _ => []
theorem ins_raw {C : Addr} {H : Hp} {p : Addr} (h : ∃ dx fs, H p = some (.ins C dx fs)) : H p = some (.ins C (dxOf H p) (fsOf H p)) := by
  obtain ⟨dx, fs, h⟩ := h
  unfold dxOf fsOf
  rw [h]
end Tc

/-! The mathematics of Euclid's ladders, in plain Lean. -/
namespace Tm
/-- Euclid's steps, with fuel: quotients and divisors -/
def euc : Nat → Int → Int → List (Int × Int)
  | 0, _, _ => []
  | n + 1, a, b => if 0 < b then (a / b, b) :: euc n b (a % b) else []
def eucl (a b : Int) : List (Int × Int) := euc (b.toNat + 1) a b
theorem euc_enough : ∀ (n m : Nat) (a b : Int), b.toNat < n → b.toNat < m → euc n a b = euc m a b
  | 0, _, _, _, h, _ => absurd h (Nat.not_lt_zero _)
  | _ + 1, 0, _, _, _, h => absurd h (Nat.not_lt_zero _)
  | n + 1, m + 1, a, b, h1, h2 => by
    unfold euc
    by_cases hb : 0 < b
    · rw [if_pos hb, if_pos hb]
      have h3 := Int.emod_lt_of_pos a hb
      have h4 := Int.emod_nonneg a (show b ≠ 0 by omega)
      rw [euc_enough n m b (a % b) (by omega) (by omega)]
    · rw [if_neg hb, if_neg hb]
theorem eucl_pos {a b : Int} (h : 0 < b) : eucl a b = (a / b, b) :: eucl b (a % b) := by
  have h3 := Int.emod_lt_of_pos a h
  have h4 := Int.emod_nonneg a (show b ≠ 0 by omega)
  have e : eucl a b = if 0 < b then (a / b, b) :: euc b.toNat b (a % b) else [] := rfl
  rw [e, if_pos h]
  unfold eucl
  rw [euc_enough b.toNat ((a % b).toNat + 1) b (a % b) (by omega) (by omega)]
theorem eucl_nil {a b : Int} (h : ¬ 0 < b) : eucl a b = [] := by
  have e : eucl a b = if 0 < b then (a / b, b) :: euc b.toNat b (a % b) else [] := rfl
  rw [e, if_neg h]
def quos (a b : Int) : List Int := (eucl a b).map (·.1)
def rems (a b : Int) : List Int := (eucl a b).map (·.2)
theorem quos_pos {a b : Int} (h : 0 < b) : quos a b = (a / b) :: quos b (a % b) := by unfold quos; rw [eucl_pos h]; rfl
theorem rems_pos {a b : Int} (h : 0 < b) : rems a b = b :: rems b (a % b) := by unfold rems; rw [eucl_pos h]; rfl
theorem quos_nil {a b : Int} (h : ¬ 0 < b) : quos a b = [] := by unfold quos; rw [eucl_nil h]; rfl
theorem rems_nil {a b : Int} (h : ¬ 0 < b) : rems a b = [] := by unfold rems; rw [eucl_nil h]; rfl
theorem quos_ne {a b : Int} (h : 0 < b) : quos a b ≠ [] := by rw [quos_pos h]; exact List.cons_ne_nil _ _
/-- convergents behind the two in front -/
def conv : (Int × Int) → (Int × Int) → List Int → List (Int × Int)
  | _, _, [] => []
  | p, l, q :: qs => (q * l.1 + p.1, q * l.2 + p.2) :: conv l (q * l.1 + p.1, q * l.2 + p.2) qs
def convs (qs : List Int) : List (Int × Int) := conv (0, 1) (1, 0) qs
theorem conv_len : ∀ (qs : List Int) (p l : Int × Int), (conv p l qs).length = qs.length
  | [], _, _ => rfl
  | q :: qs, p, l => by
    show (conv l _ qs).length + 1 = qs.length + 1
    rw [conv_len qs]
theorem convs_len (qs : List Int) : (convs qs).length = qs.length := conv_len qs _ _
/-- the last two, with those in front -/
def last2 : (Int × Int) → (Int × Int) → List Int → (Int × Int) × (Int × Int)
  | p, l, [] => (p, l)
  | _, l, _ :: [] => (l, l)
  | _, l, _ :: _ :: _ => (l, l)
/-- the pair (the one in front of the last, the last) behind all quotients -/
def fin : (Int × Int) → (Int × Int) → List Int → (Int × Int) × (Int × Int)
  | p, l, [] => (p, l)
  | p, l, q :: qs => fin l (q * l.1 + p.1, q * l.2 + p.2) qs
theorem conv_fin : ∀ (qs : List Int) (p l : Int × Int), (p :: l :: conv p l qs)[qs.length]? = some (fin p l qs).1 ∧ (p :: l :: conv p l qs)[qs.length + 1]? = some (fin p l qs).2
  | [], _, _ => ⟨rfl, rfl⟩
  | q :: qs, p, l => by
    have ih := conv_fin qs l (q * l.1 + p.1, q * l.2 + p.2)
    exact ih
/-- what Euclid keeps -/
theorem fin_keeps : ∀ (n : Nat) (a b : Int) (p l : Int × Int), b.toNat ≤ n → 0 < b → ∃ g : Int, (rems a b).getLast? = some g ∧ 0 < g ∧
    (fin p l (quos a b)).2.1 * g = l.1 * a + p.1 * b ∧ (fin p l (quos a b)).2.2 * g = l.2 * a + p.2 * b
  | 0, a, b, p, l, h, hb => by omega
  | n + 1, a, b, p, l, h, hb => by
    rw [quos_pos hb, rems_pos hb]
    have h3 := Int.emod_lt_of_pos a hb
    have h4 := Int.emod_nonneg a (show b ≠ 0 by omega)
    have h5 : b * (a / b) + a % b = a := Int.mul_ediv_add_emod a b
    by_cases hr : 0 < a % b
    · obtain ⟨g, e1, e2, e3, e4⟩ := fin_keeps n b (a % b) l (a / b * l.1 + p.1, a / b * l.2 + p.2) (by omega) hr
      refine ⟨g, ?_, e2, ?_, ?_⟩
      · rw [List.getLast?_cons, e1]
        rfl
      · show (fin l (a / b * l.1 + p.1, a / b * l.2 + p.2) (quos b (a % b))).2.1 * g = _
        rw [e3]
        show (a / b * l.1 + p.1) * b + l.1 * (a % b) = l.1 * a + p.1 * b
        conv => rhs; rw [← h5]
        rw [Int.add_mul, Int.mul_add, Int.mul_comm (a / b) l.1, Int.mul_assoc, Int.mul_comm (a / b) b]
        omega
      · show (fin l (a / b * l.1 + p.1, a / b * l.2 + p.2) (quos b (a % b))).2.2 * g = _
        rw [e4]
        show (a / b * l.2 + p.2) * b + l.2 * (a % b) = l.2 * a + p.2 * b
        conv => rhs; rw [← h5]
        rw [Int.add_mul, Int.mul_add, Int.mul_comm (a / b) l.2, Int.mul_assoc, Int.mul_comm (a / b) b]
        omega
    · have h0 : a % b = 0 := by omega
      rw [quos_nil hr, rems_nil hr]
      refine ⟨b, rfl, hb, ?_, ?_⟩
      · show (a / b * l.1 + p.1) * b = l.1 * a + p.1 * b
        conv => rhs; rw [← h5, h0]
        rw [Int.add_mul, Int.mul_add, Int.mul_comm (a / b) l.1, Int.mul_assoc, Int.mul_comm (a / b) b]
        omega
      · show (a / b * l.2 + p.2) * b = l.2 * a + p.2 * b
        conv => rhs; rw [← h5, h0]
        rw [Int.add_mul, Int.mul_add, Int.mul_comm (a / b) l.2, Int.mul_assoc, Int.mul_comm (a / b) b]
        omega
/-- neighbors' determinant -/
theorem fin_det : ∀ (qs : List Int) (p l : Int × Int), (fin p l qs).2.1 * (fin p l qs).1.2 - (fin p l qs).2.2 * (fin p l qs).1.1 = if qs.length % 2 = 0 then l.1 * p.2 - l.2 * p.1 else -(l.1 * p.2 - l.2 * p.1)
  | [], p, l => by simp [fin]
  | q :: qs, p, l => by
    have ih := fin_det qs l (q * l.1 + p.1, q * l.2 + p.2)
    show (fin l (q * l.1 + p.1, q * l.2 + p.2) qs).2.1 * (fin l (q * l.1 + p.1, q * l.2 + p.2) qs).1.2 - (fin l (q * l.1 + p.1, q * l.2 + p.2) qs).2.2 * (fin l (q * l.1 + p.1, q * l.2 + p.2) qs).1.1 = _
    rw [ih]
    have e : (q * l.1 + p.1) * l.2 - (q * l.2 + p.2) * l.1 = -(l.1 * p.2 - l.2 * p.1) := by
      have x1 : q * l.1 * l.2 = q * l.2 * l.1 := by rw [Int.mul_assoc, Int.mul_assoc, Int.mul_comm l.1 l.2]
      have x2 : p.1 * l.2 = l.2 * p.1 := Int.mul_comm _ _
      have x3 : p.2 * l.1 = l.1 * p.2 := Int.mul_comm _ _
      rw [Int.add_mul, Int.add_mul]
      omega
    show (if qs.length % 2 = 0 then (q * l.1 + p.1) * l.2 - (q * l.2 + p.2) * l.1 else -((q * l.1 + p.1) * l.2 - (q * l.2 + p.2) * l.1)) = _
    rw [e]
    have hl : (q :: qs).length = qs.length + 1 := rfl
    rw [hl]
    by_cases hp : qs.length % 2 = 0
    · rw [if_pos hp, if_neg (by omega)]
    · rw [if_neg hp, if_pos (by omega)]
      omega
end Tm

namespace Tm
/-- the last divisor: a = p g, b = q g, with p and q without a common factor -/
theorem last_rem {a b : Int} (hb : 0 < b) : ∃ g : Int, (rems a b).getLast? = some g ∧ 0 < g ∧ (fin (0, 1) (1, 0) (quos a b)).2.1 * g = a ∧ (fin (0, 1) (1, 0) (quos a b)).2.2 * g = b := by
  obtain ⟨g, h1, h2, h3, h4⟩ := fin_keeps b.toNat a b (0, 1) (1, 0) (Nat.le_refl _) hb
  refine ⟨g, h1, h2, ?_, ?_⟩
  · rw [h3]
    omega
  · rw [h4]
    omega
theorem det_ladder (a b : Int) : (fin (0, 1) (1, 0) (quos a b)).2.1 * (fin (0, 1) (1, 0) (quos a b)).1.2 - (fin (0, 1) (1, 0) (quos a b)).2.2 * (fin (0, 1) (1, 0) (quos a b)).1.1 = if (quos a b).length % 2 = 0 then 1 else -1 := by
  have h := fin_det (quos a b) (0, 1) (1, 0)
  rw [h]
  rfl
theorem last_is_gcd {a b g : Int} (hb : 0 < b) (h : (rems a b).getLast? = some g) : g = ((Nat.gcd a.natAbs b.natAbs : Nat) : Int) := by
  obtain ⟨g', h1, h2, h3, h4⟩ := last_rem (a := a) hb
  rw [h] at h1
  have e : g = g' := Option.some.inj h1
  subst e
  have d := det_ladder a b
  generalize (fin (0, 1) (1, 0) (quos a b)).2.1 = p at *
  generalize (fin (0, 1) (1, 0) (quos a b)).2.2 = q at *
  generalize (fin (0, 1) (1, 0) (quos a b)).1.1 = u at *
  generalize (fin (0, 1) (1, 0) (quos a b)).1.2 = v at *
  have ga : g.natAbs ∣ a.natAbs := Int.natAbs_dvd_natAbs.mpr ⟨p, by rw [← h3, Int.mul_comm]⟩
  have gb : g.natAbs ∣ b.natAbs := Int.natAbs_dvd_natAbs.mpr ⟨q, by rw [← h4, Int.mul_comm]⟩
  have g1 : g.natAbs ∣ Nat.gcd a.natAbs b.natAbs := Nat.dvd_gcd ga gb
  have k1 : ((Nat.gcd a.natAbs b.natAbs : Nat) : Int) ∣ a := Int.natAbs_dvd_natAbs.mp (Nat.gcd_dvd_left _ _)
  have k2 : ((Nat.gcd a.natAbs b.natAbs : Nat) : Int) ∣ b := Int.natAbs_dvd_natAbs.mp (Nat.gcd_dvd_right _ _)
  have k3 : ((Nat.gcd a.natAbs b.natAbs : Nat) : Int) ∣ a * v - b * u := Int.dvd_sub (Int.dvd_mul_of_dvd_left k1) (Int.dvd_mul_of_dvd_left k2)
  have e2 : a * v - b * u = g * (p * v - q * u) := by
    rw [← h3, ← h4, Int.mul_sub]
    have x1 : p * g * v = g * (p * v) := by rw [Int.mul_comm p g, Int.mul_assoc]
    have x2 : q * g * u = g * (q * u) := by rw [Int.mul_comm q g, Int.mul_assoc]
    rw [x1, x2]
  have k4 : ((Nat.gcd a.natAbs b.natAbs : Nat) : Int) ∣ g := by
    rw [e2, d] at k3
    split at k3
    · rwa [Int.mul_one] at k3
    · rw [Int.mul_neg, Int.mul_one] at k3
      exact (Int.dvd_neg).mp k3
  have k5 : Nat.gcd a.natAbs b.natAbs ∣ g.natAbs := Int.natAbs_dvd_natAbs.mpr k4
  have k6 := Nat.dvd_antisymm g1 k5
  omega
/-- sizes of the last two lower numbers -/
theorem fin_low : ∀ (n : Nat) (a b : Int) (p l : Int × Int), b.toNat ≤ n → 0 < b → b ≤ a → 0 ≤ p.2 → 1 ≤ l.2 → 1 ≤ (fin p l (quos a b)).1.2 ∧ (fin p l (quos a b)).1.2 ≤ (fin p l (quos a b)).2.2
  | 0, a, b, p, l, h, hb, _, _, _ => by omega
  | n + 1, a, b, p, l, h, hb, hab, hp, hl => by
    rw [quos_pos hb]
    have h3 := Int.emod_lt_of_pos a hb
    have h4 := Int.emod_nonneg a (show b ≠ 0 by omega)
    have h7 : 1 ≤ a / b := Int.le_ediv_of_mul_le hb (by omega)
    have h8 : 1 * l.2 ≤ a / b * l.2 := Int.mul_le_mul_of_nonneg_right h7 (by omega)
    by_cases hr : 0 < a % b
    · exact fin_low n b (a % b) l (a / b * l.1 + p.1, a / b * l.2 + p.2) (by omega) hr (by omega) (by omega) (by show 1 ≤ a / b * l.2 + p.2; omega)
    · rw [quos_nil hr]
      show 1 ≤ l.2 ∧ l.2 ≤ a / b * l.2 + p.2
      omega
/-- the two behind all quotients as places among the convergents -/
theorem convs_last2 {qs : List Int} {n : Nat} (h : qs.length = n + 2) : (convs qs)[n]? = some (fin (0, 1) (1, 0) qs).1 ∧ (convs qs)[n + 1]? = some (fin (0, 1) (1, 0) qs).2 := by
  have e := conv_fin qs (0, 1) (1, 0)
  rw [h] at e
  exact e
theorem quos_one {a b : Int} (hb : 0 < b) (h : (quos a b).length = 1) : ¬ 0 < a % b := by
  intro hr
  rw [quos_pos hb, quos_pos hr] at h
  simp at h
/-- the inverse is right -/
theorem inverse_right {a b : Int} (hb : 0 < b) (hg : (rems a b).getLast? = some 1) (inv : Int)
    (hi : inv = if (convs (quos a b)).length = 1 then 0 else if (convs (quos a b)).length % 2 = 0 then ((convs (quos a b))[(convs (quos a b)).length - 2]?.getD (0, 0)).2 else b - ((convs (quos a b))[(convs (quos a b)).length - 2]?.getD (0, 0)).2) :
    0 ≤ inv ∧ inv < b ∧ b ∣ a * inv - 1 := by
  rw [convs_len] at hi
  obtain ⟨g, h1, h2, h3, h4⟩ := last_rem (a := a) hb
  rw [hg] at h1
  have e : g = 1 := (Option.some.inj h1).symm
  subst e
  rw [Int.mul_one] at h3 h4
  by_cases hl : (quos a b).length = 1
  · rw [if_pos hl] at hi
    have hr := quos_one hb hl
    rw [rems_pos hb, rems_nil hr] at hg
    have e : b = 1 := Option.some.inj hg
    subst e
    subst hi
    exact ⟨Int.le_refl _, by decide, Int.one_dvd _⟩
  · have hne := quos_ne (a := a) hb
    obtain ⟨n, hn⟩ : ∃ n, (quos a b).length = n + 2 := by
      cases e : (quos a b).length with
      | zero => exact absurd (List.eq_nil_of_length_eq_zero e) hne
      | succ k =>
        cases k with
        | zero => exact absurd e hl
        | succ j => exact ⟨j, rfl⟩
    obtain ⟨l1, l2⟩ := convs_last2 hn
    have hr : 0 < a % b := by
      rcases Int.lt_or_le 0 (a % b) with h | h
      · exact h
      · exfalso
        apply hl
        rw [quos_pos hb, quos_nil (by omega)]
        rfl
    have h5 := Int.emod_lt_of_pos a hb
    have low := fin_low (a % b).toNat b (a % b) (1, 0) (a / b * 1 + 0, a / b * 0 + 1) (Nat.le_refl _) hr (by omega) (Int.le_refl _) (by show 1 ≤ a / b * 0 + 1; omega)
    have ef : fin (0, 1) (1, 0) (quos a b) = fin (1, 0) (a / b * 1 + 0, a / b * 0 + 1) (quos b (a % b)) := by
      rw [quos_pos hb]
      rfl
    rw [← ef, h4] at low
    have d := det_ladder a b
    rw [h3, h4] at d
    rw [if_neg hl, hn, show n + 2 - 2 = n by omega, l1] at hi
    rw [hn] at d
    have hi' : inv = if (n + 2) % 2 = 0 then (fin (0, 1) (1, 0) (quos a b)).1.2 else b - (fin (0, 1) (1, 0) (quos a b)).1.2 := hi
    generalize (fin (0, 1) (1, 0) (quos a b)).1.1 = u at *
    generalize (fin (0, 1) (1, 0) (quos a b)).1.2 = v at *
    by_cases hp : (n + 2) % 2 = 0
    · rw [if_pos hp] at hi' d
      subst hi'
      refine ⟨by omega, ?_, ⟨u, by omega⟩⟩
      rcases Int.lt_or_le inv b with h | h
      · exact h
      · exfalso
        have e : inv = b := by omega
        subst e
        have h6 : inv * (a - u) = 1 := by
          rw [Int.mul_sub, Int.mul_comm inv a]
          exact d
        have h7 : inv ∣ 1 := ⟨a - u, h6.symm⟩
        have h8 : inv = 1 := Int.eq_one_of_dvd_one (by omega) h7
        rw [h8] at hr
        have := Int.emod_one a
        omega
    · rw [if_neg hp] at hi' d
      subst hi'
      refine ⟨by omega, by omega, ⟨a - u, ?_⟩⟩
      rw [Int.mul_sub, Int.mul_sub, Int.mul_comm a b]
      omega
end Tm

/-! Totals of floors along lines, in plain Lean. -/
namespace Tm
/-- the total of f i for i below n -/
def sm (f : Nat → Int) : Nat → Int
  | 0 => 0
  | n + 1 => sm f n + f n
theorem sm_congr {f g : Nat → Int} : ∀ n : Nat, (∀ i, i < n → f i = g i) → sm f n = sm g n
  | 0, _ => rfl
  | n + 1, h => by
    show sm f n + f n = sm g n + g n
    rw [sm_congr n fun i hi => h i (by omega), h n (by omega)]
theorem sm_add (f g : Nat → Int) : ∀ n : Nat, sm (fun i => f i + g i) n = sm f n + sm g n
  | 0 => rfl
  | n + 1 => by
    show sm (fun i => f i + g i) n + (f n + g n) = (sm f n + f n) + (sm g n + g n)
    rw [sm_add f g n]
    omega
theorem sm_mul (c : Int) (f : Nat → Int) : ∀ n : Nat, sm (fun i => c * f i) n = c * sm f n
  | 0 => (Int.mul_zero c).symm
  | n + 1 => by
    show sm (fun i => c * f i) n + c * f n = c * (sm f n + f n)
    rw [sm_mul c f n, Int.mul_add]
theorem sm_neg (f : Nat → Int) (n : Nat) : sm (fun i => - f i) n = - sm f n := by
  have h := sm_mul (-1) f n
  have e : sm (fun i => - f i) n = sm (fun i => -1 * f i) n := sm_congr n fun i _ => by omega
  rw [e, h]
  omega
theorem sm_sub (f g : Nat → Int) (n : Nat) : sm (fun i => f i - g i) n = sm f n - sm g n := by
  have e : sm (fun i => f i - g i) n = sm (fun i => f i + - g i) n := sm_congr n fun i _ => by omega
  rw [e, sm_add, sm_neg]
  omega
theorem sm_const (c : Int) : ∀ n : Nat, sm (fun _ => c) n = c * n
  | 0 => by simp [sm]
  | n + 1 => by
    show sm (fun _ => c) n + c = c * ((n + 1 : Nat) : Int)
    rw [sm_const c n, Int.natCast_add, Int.mul_add]
    simp
theorem sm_app (f : Nat → Int) (m : Nat) : ∀ n : Nat, sm f (m + n) = sm f m + sm (fun i => f (m + i)) n
  | 0 => by simp [sm]
  | n + 1 => by
    show sm f (m + n) + f (m + n) = sm f m + (sm (fun i => f (m + i)) n + f (m + n))
    rw [sm_app f m n]
    omega
theorem sm_rev (f : Nat → Int) : ∀ n : Nat, sm (fun i => f (n - 1 - i)) n = sm f n
  | 0 => rfl
  | n + 1 => by
    have h := sm_app (fun i => f (n + 1 - 1 - i)) 1 n
    have e1 : n + 1 = 1 + n := by omega
    conv => lhs; rw [e1]
    show sm (fun i => f (1 + n - 1 - i)) (1 + n) = sm f n + f n
    have e2 : sm (fun i => f (1 + n - 1 - i)) (1 + n) = sm (fun i => f (n + 1 - 1 - i)) (1 + n) := sm_congr _ fun i _ => by rw [show 1 + n - 1 - i = n + 1 - 1 - i by omega]
    rw [e2, h]
    have e3 : sm (fun i => f (n + 1 - 1 - (1 + i))) n = sm (fun i => f (n - 1 - i)) n := sm_congr _ fun i _ => by rw [show n + 1 - 1 - (1 + i) = n - 1 - i by omega]
    rw [e3, sm_rev f n]
    show 0 + f (n + 1 - 1 - 0) + sm f n = sm f n + f n
    rw [show n + 1 - 1 - 0 = n by omega]
    omega
theorem sm_swap (f : Nat → Nat → Int) (m : Nat) : ∀ n : Nat, sm (fun i => sm (fun j => f i j) m) n = sm (fun j => sm (fun i => f i j) n) m
  | 0 => by
    have e : sm (fun j => sm (fun i => f i j) 0) m = sm (fun _ => 0) m := rfl
    rw [e, sm_const, Int.zero_mul]
    rfl
  | n + 1 => by
    show sm (fun i => sm (fun j => f i j) m) n + sm (fun j => f n j) m = sm (fun j => sm (fun i => f i j) n + f n j) m
    rw [sm_add, sm_swap f m n]
theorem sm_bound {f : Nat → Int} {B : Int} : ∀ n : Nat, (∀ i, i < n → -B ≤ f i ∧ f i ≤ B) → -(B * n) ≤ sm f n ∧ sm f n ≤ B * n
  | 0, _ => by simp [sm]
  | n + 1, h => by
    have h1 := sm_bound n fun i hi => h i (by omega)
    have h2 := h n (by omega)
    have e : B * ((n + 1 : Nat) : Int) = B * n + B := by rw [Int.natCast_add, Int.mul_add]; simp
    rw [e]
    show -(B * n + B) ≤ sm f n + f n ∧ sm f n + f n ≤ B * n + B
    omega
/-! ### ones, indices, squares -/
theorem sm_id (n : Nat) : 2 * sm (fun i => (i : Int)) n = (n : Int) * ((n : Int) - 1) := by
  induction n with
  | zero => rfl
  | succ n ih =>
    show 2 * (sm (fun i => (i : Int)) n + (n : Int)) = ((n + 1 : Nat) : Int) * (((n + 1 : Nat) : Int) - 1)
    rw [Int.mul_add, ih, Int.natCast_add]
    generalize (n : Int) = x
    simp only [Int.mul_sub, Int.mul_add, Int.add_mul]
    simp
    omega
theorem sm_sq (n : Nat) : 6 * sm (fun i => (i : Int) * i) n = (n : Int) * ((n : Int) - 1) * (2 * (n : Int) - 1) := by
  induction n with
  | zero => rfl
  | succ n ih =>
    show 6 * (sm (fun i => (i : Int) * i) n + (n : Int) * n) = ((n + 1 : Nat) : Int) * (((n + 1 : Nat) : Int) - 1) * (2 * ((n + 1 : Nat) : Int) - 1)
    rw [Int.mul_add, ih, Int.natCast_add]
    generalize (n : Int) = x
    have e1 : ((x + ((1 : Nat) : Int)) - 1) = x := by simp
    rw [e1]
    simp only [Int.mul_sub, Int.mul_add, Int.add_mul, Int.sub_mul, Int.mul_one, Int.one_mul]
    have : x * x * (2 * x) = 2 * (x * x * x) := by rw [Int.mul_comm 2 x, ← Int.mul_assoc, Int.mul_comm _ 2]
    have : x * (2 * x) = 2 * (x * x) := by rw [← Int.mul_assoc, Int.mul_comm x 2, Int.mul_assoc]
    have : x * ((1 : Nat) : Int) = x := by simp
    simp only [Int.natCast_one, Int.mul_one, Int.one_mul] at *
    omega
def half (n : Int) : Int := n * (n - 1) / 2
def sixth (n : Int) : Int := n * (n - 1) * (2 * n - 1) / 6
theorem half_sm (n : Nat) : sm (fun i => (i : Int)) n = half n := by
  have h := sm_id n
  unfold half
  omega
theorem sixth_sm (n : Nat) : sm (fun i => (i : Int) * i) n = sixth n := by
  have h := sm_sq n
  unfold sixth
  omega
/-! ### floors -/
def fl (a c m : Int) (i : Nat) : Int := (a * i + c) / m
def S0 (n : Nat) (a c m : Int) : Int := sm (fl a c m) n
def S1 (n : Nat) (a c m : Int) : Int := sm (fun i => (i : Int) * fl a c m i) n
def S2 (n : Nat) (a c m : Int) : Int := sm (fun i => fl a c m i * fl a c m i) n
theorem fl_lift {a c m u v : Int} (hm : m ≠ 0) (i : Nat) : fl (a + u * m) (c + v * m) m i = fl a c m i + (u * i + v) := by
  unfold fl
  have e : (a + u * m) * i + (c + v * m) = (a * i + c) + (u * i + v) * m := by
    rw [Int.add_mul, Int.add_mul, Int.mul_assoc u m i, Int.mul_comm m i, ← Int.mul_assoc u i m]
    omega
  rw [e, Int.add_mul_ediv_right _ _ hm]
theorem S0_lift {n : Nat} {a c m u v : Int} (hm : m ≠ 0) : S0 n (a + u * m) (c + v * m) m = S0 n a c m + u * half n + v * n := by
  unfold S0
  have e : sm (fun i => fl (a + u * m) (c + v * m) m i) n = sm (fun i => (fl a c m i + u * (i : Int)) + v) n := sm_congr n fun i _ => by rw [fl_lift hm]; omega
  rw [e, sm_add, sm_add, sm_mul, sm_const, half_sm]
theorem S1_lift {n : Nat} {a c m u v : Int} (hm : m ≠ 0) : S1 n (a + u * m) (c + v * m) m = S1 n a c m + u * sixth n + v * half n := by
  unfold S1
  have e : sm (fun i => (i : Int) * fl (a + u * m) (c + v * m) m i) n = sm (fun i => ((i : Int) * fl a c m i + u * ((i : Int) * i)) + v * (i : Int)) n := sm_congr n fun i _ => by
    rw [fl_lift hm, Int.mul_add, Int.mul_add, Int.mul_comm (i : Int) v, ← Int.mul_assoc (i : Int) u, Int.mul_comm (i : Int) u, Int.mul_assoc u]
    omega
  rw [e, sm_add, sm_add, sm_mul, sm_mul, half_sm, sixth_sm]
theorem S2_lift {n : Nat} {a c m u v : Int} (hm : m ≠ 0) :
    S2 n (a + u * m) (c + v * m) m = S2 n a c m + 2 * u * S1 n a c m + 2 * v * S0 n a c m + (u * u * sixth n + 2 * u * v * half n + v * v * n) := by
  unfold S2 S1 S0
  have e : sm (fun i => fl (a + u * m) (c + v * m) m i * fl (a + u * m) (c + v * m) m i) n =
      sm (fun i => ((((fl a c m i * fl a c m i + 2 * u * ((i : Int) * fl a c m i)) + 2 * v * fl a c m i) + u * u * ((i : Int) * i)) + 2 * u * v * (i : Int)) + v * v) n := sm_congr n fun i _ => by
    rw [fl_lift hm]
    generalize fl a c m i = f
    generalize (i : Int) = x
    have e1 : (f + (u * x + v)) * (f + (u * x + v)) = f * f + 2 * (f * (u * x)) + 2 * (f * v) + (u * x) * (u * x) + 2 * (u * x * v) + v * v := by
      simp only [Int.mul_add, Int.add_mul]
      rw [Int.mul_comm (u * x) f, Int.mul_comm v f, Int.mul_comm v (u * x)]
      omega
    rw [e1]
    have e2 : f * (u * x) = u * (x * f) := by rw [Int.mul_comm f, Int.mul_assoc]
    have e3 : (u * x) * (u * x) = u * u * (x * x) := by rw [Int.mul_assoc, ← Int.mul_assoc x u x, Int.mul_comm x u, Int.mul_assoc u x x, ← Int.mul_assoc]
    have e4 : u * x * v = u * v * x := by rw [Int.mul_assoc, Int.mul_comm x v, ← Int.mul_assoc]
    have e5 : f * v = v * f := Int.mul_comm _ _
    rw [e2, e3, e4, e5, Int.mul_assoc 2 u, Int.mul_assoc 2 v, Int.mul_assoc 2 u v, Int.mul_assoc 2 (u * v) x]
  rw [e, sm_add, sm_add, sm_add, sm_add, sm_add, sm_mul, sm_mul, sm_mul, sm_mul, sm_const, half_sm, sixth_sm]
  omega
/-! ### the mirror image -/
/-- how many j below h have g j < i, weighed -/
def ind (p : Bool) : Int := if p then 1 else 0
theorem sm_ind_lt : ∀ (h k : Nat), sm (fun j => ind (decide (j < k))) h = (min h k : Nat)
  | 0, k => by simp [sm]
  | h + 1, k => by
    show sm (fun j => ind (decide (j < k))) h + ind (decide (h < k)) = _
    rw [sm_ind_lt h k]
    unfold ind
    by_cases q : h < k
    · rw [decide_eq_true q, if_pos rfl]
      omega
    · rw [decide_eq_false q, if_neg (by decide)]
      omega

theorem sm_odd_lt : ∀ (h k : Nat), sm (fun j => (2 * (j : Int) + 1) * ind (decide (j < k))) h = ((min h k : Nat) : Int) * ((min h k : Nat) : Int)
  | 0, k => by simp [sm]
  | h + 1, k => by
    show sm (fun j => (2 * (j : Int) + 1) * ind (decide (j < k))) h + (2 * (h : Int) + 1) * ind (decide (h < k)) = _
    rw [sm_odd_lt h k]
    unfold ind
    by_cases q : h < k
    · rw [decide_eq_true q, if_pos rfl, show min h k = h by omega, show min (h + 1) k = h + 1 by omega, Int.natCast_add]
      simp only [Int.mul_add, Int.add_mul, Int.mul_one, Int.natCast_one, Int.one_mul]
      omega
    · rw [decide_eq_false q, if_neg (by decide), show min h k = min (h + 1) k by omega]
      omega
theorem sm_above : ∀ (n : Nat) (g : Int), -1 ≤ g → g ≤ (n : Int) → sm (fun i => ind (decide (g < (i : Int)))) (n + 1) = (n : Int) - g
  | 0, g, h0, h1 => by
    show 0 + ind (decide (g < ((0 : Nat) : Int))) = _
    unfold ind
    by_cases q : g < 0
    · rw [decide_eq_true (show g < ((0 : Nat) : Int) from q), if_pos rfl]
      omega
    · rw [decide_eq_false (show ¬ g < ((0 : Nat) : Int) from q), if_neg (by decide)]
      omega
  | n + 1, g, h0, h1 => by
    show sm (fun i => ind (decide (g < (i : Int)))) (n + 1) + ind (decide (g < ((n + 1 : Nat) : Int))) = _
    unfold ind
    by_cases q : g ≤ n
    · have := sm_above n g h0 q
      unfold ind at this
      rw [this, decide_eq_true (by omega), if_pos rfl]
      omega
    · have e : g = ((n + 1 : Nat) : Int) := by omega
      have z : sm (fun i => if decide (g < (i : Int)) = true then 1 else 0) (n + 1) = sm (fun _ => 0) (n + 1) := sm_congr _ fun i hi => by rw [decide_eq_false (by omega), if_neg (by decide)]
      rw [z, sm_const, decide_eq_false (by omega), if_neg (by decide)]
      omega
theorem sm_above_id : ∀ (n : Nat) (g : Int), -1 ≤ g → g ≤ (n : Int) → 2 * sm (fun i => (i : Int) * ind (decide (g < (i : Int)))) (n + 1) = ((n : Int) + 1) * n - g * (g + 1)
  | 0, g, h0, h1 => by
    have : g = -1 ∨ g = 0 := by omega
    rcases this with rfl | rfl <;> rfl
  | n + 1, g, h0, h1 => by
    show 2 * (sm (fun i => (i : Int) * ind (decide (g < (i : Int)))) (n + 1) + ((n + 1 : Nat) : Int) * ind (decide (g < ((n + 1 : Nat) : Int)))) = _
    by_cases q : g ≤ n
    · rw [Int.mul_add, sm_above_id n g h0 q]
      unfold ind
      rw [decide_eq_true (by omega), if_pos rfl, Int.natCast_add]
      generalize g * (g + 1) = z
      generalize (n : Int) = x
      simp only [Int.mul_add, Int.add_mul, Int.mul_one, Int.natCast_one, Int.one_mul]
      omega
    · have e : g = ((n + 1 : Nat) : Int) := by omega
      have z : sm (fun i => (i : Int) * ind (decide (g < (i : Int)))) (n + 1) = sm (fun _ => 0) (n + 1) := sm_congr _ fun i hi => by
        unfold ind
        rw [decide_eq_false (by omega), if_neg (by decide), Int.mul_zero]
      rw [z, sm_const]
      unfold ind
      rw [decide_eq_false (by omega), if_neg (by decide), e, Int.mul_comm (((n + 1 : Nat) : Int) + 1)]
      omega
theorem fl_lt {a c m : Int} (ha : 0 < a) (hm : 0 < m) (i j : Nat) : (j : Int) < fl a c m i ↔ fl m (m - c - 1) a j < (i : Int) := by
  unfold fl
  have h1 : (j : Int) < (a * i + c) / m ↔ ((j : Int) + 1) * m ≤ a * i + c := by
    rw [← Int.le_ediv_iff_mul_le hm]
    omega
  have h2 : (m * (j : Int) + (m - c - 1)) / a < (i : Int) ↔ m * (j : Int) + (m - c - 1) < i * a := Int.ediv_lt_iff_lt_mul ha
  rw [h1, h2, Int.add_mul, Int.one_mul, Int.mul_comm (j : Int) m, Int.mul_comm (i : Int) a]
  omega
theorem fl_nn {a c m : Int} (ha : 0 ≤ a) (hc : 0 ≤ c) (hm : 0 < m) (i : Nat) : 0 ≤ fl a c m i :=
  Int.ediv_nonneg (by have := Int.mul_nonneg ha (Int.natCast_nonneg i); omega) (by omega)
theorem fl_mono {a c m : Int} (ha : 0 ≤ a) (hm : 0 < m) {i j : Nat} (h : i ≤ j) : fl a c m i ≤ fl a c m j := by
  unfold fl
  refine Int.ediv_le_ediv hm ?_
  have : a * (i : Int) ≤ a * (j : Int) := Int.mul_le_mul_of_nonneg_left (by omega) ha
  omega
/-- each floor counts the mirror image's below it -/
theorem fl_count {a c m : Int} (ha : 0 < a) (hc : 0 ≤ c) (hm : 0 < m) {h : Nat} {i : Nat} (hf : fl a c m i ≤ h) :
    fl a c m i = sm (fun j => ind (decide (fl m (m - c - 1) a j < (i : Int)))) h ∧ fl a c m i * fl a c m i = sm (fun j => (2 * (j : Int) + 1) * ind (decide (fl m (m - c - 1) a j < (i : Int)))) h := by
  have h0 := fl_nn (Int.le_of_lt ha) hc hm i
  obtain ⟨k, hk⟩ : ∃ k : Nat, fl a c m i = k := ⟨(fl a c m i).toNat, by omega⟩
  have e : ∀ j : Nat, decide (fl m (m - c - 1) a j < (i : Int)) = decide (j < k) := fun j => by
    have := fl_lt (c := c) ha hm i j
    rw [hk] at this
    by_cases q : j < k
    · rw [decide_eq_true q, decide_eq_true (this.mp (by omega))]
    · rw [decide_eq_false q, decide_eq_false (fun z => q (by have := this.mpr z; omega))]
  simp only [e]
  rw [sm_ind_lt, sm_odd_lt, hk, show min h k = k by omega]
  exact ⟨rfl, rfl⟩
theorem mirror {a c m : Int} {n h : Nat} (ha : 0 < a) (hc : 0 ≤ c) (hm : 0 < m) (hf : ∀ i, i < n + 1 → fl a c m i ≤ h) (hg : ∀ j, j < h → -1 ≤ fl m (m - c - 1) a j ∧ fl m (m - c - 1) a j ≤ n) :
    S0 (n + 1) a c m = (h : Int) * n - S0 h m (m - c - 1) a ∧
    2 * S1 (n + 1) a c m = (h : Int) * (((n : Int) + 1) * n) - S2 h m (m - c - 1) a - S0 h m (m - c - 1) a ∧
    S2 (n + 1) a c m = (h : Int) * h * n - 2 * S1 h m (m - c - 1) a - S0 h m (m - c - 1) a := by
  have g0 := fun j hj => (hg j hj).1
  have g1 := fun j hj => (hg j hj).2
  generalize hG : fl m (m - c - 1) a = g at *
  refine ⟨?_, ?_, ?_⟩
  · unfold S0
    have e1 : sm (fl a c m) (n + 1) = sm (fun i => sm (fun j => ind (decide (g j < (i : Int)))) h) (n + 1) := sm_congr _ fun i hi => by
      have := (fl_count ha hc hm (hf i hi)).1
      rw [hG] at this
      exact this
    rw [e1, sm_swap]
    have e2 : sm (fun j => sm (fun i => ind (decide (g j < (i : Int)))) (n + 1)) h = sm (fun j => (n : Int) - g j) h := sm_congr _ fun j hj => sm_above n (g j) (g0 j hj) (g1 j hj)
    rw [e2, sm_sub, sm_const, Int.mul_comm, hG]
  · unfold S1 S2 S0
    have e1 : sm (fun i => (i : Int) * fl a c m i) (n + 1) = sm (fun i => sm (fun j => (i : Int) * ind (decide (g j < (i : Int)))) h) (n + 1) := sm_congr _ fun i hi => by
      have := (fl_count ha hc hm (hf i hi)).1
      rw [hG] at this
      rw [this, sm_mul]
    rw [e1, sm_swap, ← sm_mul]
    have e2 : sm (fun j => 2 * sm (fun i => (i : Int) * ind (decide (g j < (i : Int)))) (n + 1)) h = sm (fun j => ((n : Int) + 1) * n - (g j * g j + g j)) h := sm_congr _ fun j hj => by
      rw [sm_above_id n (g j) (g0 j hj) (g1 j hj), Int.mul_add, Int.mul_one]
    rw [e2, sm_sub, sm_const, sm_add, Int.mul_comm, hG]
    omega
  · unfold S1 S2 S0
    have e1 : sm (fun i => fl a c m i * fl a c m i) (n + 1) = sm (fun i => sm (fun j => (2 * (j : Int) + 1) * ind (decide (g j < (i : Int)))) h) (n + 1) := sm_congr _ fun i hi => by
      have := (fl_count ha hc hm (hf i hi)).2
      rw [hG] at this
      exact this
    rw [e1, sm_swap]
    have e2 : sm (fun j => sm (fun i => (2 * (j : Int) + 1) * ind (decide (g j < (i : Int)))) (n + 1)) h = sm (fun j => ((n : Int) * (2 * (j : Int)) + n) - (2 * ((j : Int) * g j) + g j)) h := sm_congr _ fun j hj => by
      rw [sm_mul, sm_above n (g j) (g0 j hj) (g1 j hj), Int.mul_sub, Int.add_mul, Int.add_mul, Int.one_mul, Int.one_mul, Int.mul_comm (2 * (j : Int)) n, Int.mul_assoc]
    rw [e2, sm_sub, sm_add, sm_add, sm_mul, sm_mul, sm_mul, sm_const, hG, sm_id, Int.mul_sub]
    have e3 : (n : Int) * ((h : Int) * h) = (h : Int) * h * n := Int.mul_comm _ _
    rw [← e3, Int.mul_sub, Int.mul_one]
    omega
/-! ### lines put together -/
theorem S0_rev (a c m : Int) (n : Nat) (h : 0 < n) : S0 n (0 - a) (c + a * ((n : Int) - 1)) m = S0 n a c m := by
  unfold S0
  rw [← sm_rev (fl a c m) n]
  refine sm_congr n fun i hi => ?_
  unfold fl
  congr 1
  rw [show ((n - 1 - i : Nat) : Int) = (n : Int) - 1 - i by omega, Int.mul_sub a ((n : Int) - 1) i]
  have : (0 - a) * (i : Int) = - (a * i) := by rw [Int.zero_sub, Int.neg_mul]
  omega
end Tm

/-! The layers of a line: what the loops keep. -/
namespace Tm
structure Ly where
  n : Int
  u : Int
  s : Int
  h : Int
/-- the high end of the flat line -/
def hi (n a c m : Int) : Int := ((a % m) * (n - 1) + c % m) / m
/-- layers, with fuel -/
def lays : Nat → Int → Int → Int → Int → List Ly
  | 0, _, _, _, _ => []
  | k + 1, n, a, c, m => if 0 < n then ⟨n, a / m, c / m, hi n a c m⟩ :: lays k (hi n a c m) m (m - c % m - 1) (a % m) else []
def mir (n h : Int) (t : Int × Int × Int) : Int × Int × Int := (h * (n - 1) - t.1, (h * (n - 1) * n - t.2.2 - t.1) / 2, h * (n - 1) * h - 2 * t.2.1 - t.1)
def lif (n u s : Int) (t : Int × Int × Int) : Int × Int × Int :=
  (t.1 + u * half n + s * n, t.2.1 + u * sixth n + s * half n, t.2.2 + 2 * u * t.2.1 + 2 * s * t.1 + (u * u * sixth n + 2 * u * s * half n + s * s * n))
def tot : List Ly → Int × Int × Int
  | [] => (0, 0, 0)
  | l :: r => lif l.n l.u l.s (mir l.n l.h (tot r))
def SS (n a c m : Int) : Int × Int × Int := (S0 n.toNat a c m, S1 n.toNat a c m, S2 n.toNat a c m)
theorem hi_nn {n a c m : Int} (hm : 0 < m) (hn : 0 < n) : 0 ≤ hi n a c m := by
  unfold hi
  have h1 := Int.emod_nonneg a (show m ≠ 0 by omega)
  have h2 := Int.emod_nonneg c (show m ≠ 0 by omega)
  exact Int.ediv_nonneg (by have := Int.mul_nonneg h1 (show 0 ≤ n - 1 by omega); omega) (by omega)
theorem hi_le {n a c m : Int} (hm : 0 < m) (hn : 0 < n) : hi n a c m < n := by
  unfold hi
  have h1 := Int.emod_lt_of_pos a hm
  have h2 := Int.emod_lt_of_pos c hm
  refine (Int.ediv_lt_iff_lt_mul hm).mpr ?_
  have : (a % m) * (n - 1) ≤ (m - 1) * (n - 1) := Int.mul_le_mul_of_nonneg_right (by omega) (by omega)
  have e : (m - 1) * (n - 1) = n * m - m - (n - 1) := by
    rw [Int.sub_mul, Int.mul_sub, Int.mul_comm n m]
    omega
  omega
theorem hi_pos {n a c m : Int} (hm : 0 < m) (hn : 0 < n) (h : 0 < hi n a c m) : 0 < a % m := by
  have h1 := Int.emod_nonneg a (show m ≠ 0 by omega)
  have h2 := Int.emod_lt_of_pos c hm
  have h3 := Int.emod_nonneg c (show m ≠ 0 by omega)
  rcases Int.lt_or_eq_of_le h1 with q | q
  · exact q
  · exfalso
    unfold hi at h
    rw [← q, Int.zero_mul, Int.zero_add, Int.ediv_eq_zero_of_lt h3 h2] at h
    omega
theorem lift_SS {n a c m : Int} (hm : 0 < m) (hn : 0 ≤ n) : SS n a c m = lif n (a / m) (c / m) (SS n (a % m) (c % m) m) := by
  have e1 : a = a % m + a / m * m := by
    have := Int.emod_add_mul_ediv a m
    rw [Int.mul_comm] at this
    omega
  have e2 : c = c % m + c / m * m := by
    have := Int.emod_add_mul_ediv c m
    rw [Int.mul_comm] at this
    omega
  have en : ((n.toNat : Nat) : Int) = n := by omega
  have x0 := S0_lift (n := n.toNat) (a := a % m) (c := c % m) (u := a / m) (v := c / m) (show m ≠ 0 by omega)
  have x1 := S1_lift (n := n.toNat) (a := a % m) (c := c % m) (u := a / m) (v := c / m) (show m ≠ 0 by omega)
  have x2 := S2_lift (n := n.toNat) (a := a % m) (c := c % m) (u := a / m) (v := c / m) (show m ≠ 0 by omega)
  rw [← e1, ← e2, en] at x0 x1 x2
  unfold SS lif
  rw [x0, x1, x2]
theorem mir_SS {n a c m : Int} (hm : 0 < m) (hn : 0 < n) : SS n (a % m) (c % m) m = mir n (hi n a c m) (SS (hi n a c m) m (m - c % m - 1) (a % m)) := by
  have h1 := Int.emod_nonneg a (show m ≠ 0 by omega)
  have h2 := Int.emod_lt_of_pos c hm
  have h3 := Int.emod_nonneg c (show m ≠ 0 by omega)
  have h4 := Int.emod_lt_of_pos a hm
  obtain ⟨k, rfl⟩ : ∃ k : Nat, n = (k : Int) + 1 := ⟨(n - 1).toNat, by omega⟩
  have n0 := hi_nn (n := (k : Int) + 1) (a := a) (c := c) hm hn
  obtain ⟨h, hh⟩ : ∃ h : Nat, hi ((k : Int) + 1) a c m = (h : Int) := ⟨(hi ((k : Int) + 1) a c m).toNat, by omega⟩
  have et : ((k : Int) + 1).toNat = k + 1 := by omega
  have ek : ((k : Int) + 1 - 1) = (k : Int) := by omega
  have hk : fl (a % m) (c % m) m k = (h : Int) := by
    rw [← hh]
    unfold hi fl
    rw [ek]
  have hf : ∀ i, i < k + 1 → fl (a % m) (c % m) m i ≤ h := fun i hi => by
    rw [← hk]
    exact fl_mono h1 hm (by omega)
  rw [hh]
  unfold SS mir
  rw [et, ek, Int.toNat_natCast]
  rcases Int.lt_or_eq_of_le h1 with q | q
  · have hg : ∀ j, j < h → -1 ≤ fl m (m - c % m - 1) (a % m) j ∧ fl m (m - c % m - 1) (a % m) j ≤ k := fun j hj => by
      have g0 := fl_nn (Int.le_of_lt hm) (show 0 ≤ m - c % m - 1 by omega) q j
      have := (fl_lt (c := c % m) q hm k j).mp (by omega)
      omega
    obtain ⟨y0, y1, y2⟩ := mirror q h3 hm hf hg
    rw [y0, y2]
    refine Prod.ext rfl (Prod.ext ?_ ?_)
    · show S1 (k + 1) (a % m) (c % m) m = ((h : Int) * k * ((k : Int) + 1) - S2 h m (m - c % m - 1) (a % m) - S0 h m (m - c % m - 1) (a % m)) / 2
      have e : (h : Int) * k * ((k : Int) + 1) = (h : Int) * (((k : Int) + 1) * k) := by rw [Int.mul_assoc, Int.mul_comm (k : Int)]
      rw [e]
      omega
    · show (h : Int) * h * k - 2 * S1 h m (m - c % m - 1) (a % m) - S0 h m (m - c % m - 1) (a % m) = (h : Int) * k * h - 2 * S1 h m (m - c % m - 1) (a % m) - S0 h m (m - c % m - 1) (a % m)
      have e : (h : Int) * h * k = (h : Int) * k * h := Int.mul_right_comm _ _ _
      rw [e]
  · have z : h = 0 := by
      have : ¬ 0 < hi ((k : Int) + 1) a c m := fun z => by
        have := hi_pos hm hn z
        omega
      omega
    subst z
    have fz : ∀ i, i < k + 1 → fl (a % m) (c % m) m i = 0 := fun i hi => by
      have := hf i hi
      have := fl_nn h1 h3 hm i
      omega
    have s0 : S0 (k + 1) (a % m) (c % m) m = 0 := by
      unfold S0
      rw [sm_congr (g := fun _ => 0) _ fz, sm_const, Int.zero_mul]
    have s1 : S1 (k + 1) (a % m) (c % m) m = 0 := by
      unfold S1
      rw [sm_congr (g := fun _ => 0) _ fun i hi => by rw [fz i hi, Int.mul_zero], sm_const, Int.zero_mul]
    have s2 : S2 (k + 1) (a % m) (c % m) m = 0 := by
      unfold S2
      rw [sm_congr (g := fun _ => 0) _ fun i hi => by rw [fz i hi, Int.mul_zero], sm_const, Int.zero_mul]
    rw [s0, s1, s2]
    simp [S0, S1, S2, sm]
/-- the layers lead to the totals -/
theorem tot_lays : ∀ (k : Nat) (n a c m : Int), 0 ≤ n → (0 < n → 0 < m) → (0 < n → m.toNat < k) → tot (lays k n a c m) = SS n a c m
  | 0, n, a, c, m, h0, h1, h2 => by
    have : n = 0 := by
      rcases Int.lt_or_eq_of_le h0 with q | q
      · exact absurd (h2 q) (Nat.not_lt_zero _)
      · exact q.symm
    subst this
    rfl
  | k + 1, n, a, c, m, h0, h1, h2 => by
    unfold lays
    by_cases q : 0 < n
    · rw [if_pos q]
      have hm := h1 q
      have h4 := Int.emod_lt_of_pos a hm
      show lif n (a / m) (c / m) (mir n (hi n a c m) (tot (lays k (hi n a c m) m (m - c % m - 1) (a % m)))) = _
      rw [tot_lays k _ _ _ _ (hi_nn hm q) (fun z => hi_pos hm q z) (fun z => by have := h2 q; omega), ← mir_SS hm q, ← lift_SS hm h0]
    · rw [if_neg q]
      have : n = 0 := by omega
      subst this
      rfl
/-- how many layers there are -/
theorem lays_len : ∀ (j k : Nat) (n a c m : Int), (0 < n → 0 < m) → (0 < n → m < 2 ^ j) → (lays k n a c m).length ≤ 2 * j + 1
  | j, 0, n, a, c, m, _, _ => Nat.zero_le _
  | 0, k + 1, n, a, c, m, h1, h2 => by
    unfold lays
    by_cases q : 0 < n
    · have := h1 q
      have := h2 q
      have e : (2 : Int) ^ 0 = 1 := rfl
      omega
    · rw [if_neg q]
      exact Nat.zero_le _
  | j + 1, k + 1, n, a, c, m, h1, h2 => by
    unfold lays
    by_cases q : 0 < n
    · rw [if_pos q, List.length_cons]
      have hm := h1 q
      have h4 := Int.emod_lt_of_pos a hm
      have hn := hi_nn (a := a) (c := c) hm q
      have hp := hi_pos (a := a) (c := c) hm q
      generalize hi n a c m = n1 at *
      generalize m - c % m - 1 = c1
      cases k with
      | zero => exact Nat.succ_le_succ (Nat.zero_le _)
      | succ k =>
        unfold lays
        by_cases q1 : 0 < n1
        · rw [if_pos q1, List.length_cons]
          have ha := hp q1
          have h5 := Int.emod_lt_of_pos m ha
          have e2 : (2 : Int) ^ (j + 1) = 2 ^ j * 2 := Int.pow_succ 2 j
          have h6 := Int.mul_ediv_add_emod m (a % m)
          have h7 : 1 ≤ m / (a % m) := Int.le_ediv_of_mul_le ha (by omega)
          have h8 : (a % m) * 1 ≤ (a % m) * (m / (a % m)) := Int.mul_le_mul_of_nonneg_left h7 (by omega)
          have := lays_len j k (hi n1 m c1 (a % m)) (a % m) (a % m - c1 % (a % m) - 1) (m % (a % m)) (fun z => hi_pos ha q1 z) (fun z => by have := h2 q; omega)
          omega
        · rw [if_neg q1]
          simp only [List.length_cons, List.length_nil]
          omega
    · rw [if_neg q]
      exact Nat.zero_le _

/-! the law's own exchange of both directions -/
theorem area_step {n a c m : Int} (hm : 0 < m) (hn : 0 ≤ n) (ha : 0 < a % m) : S0 n.toNat a c m = (a / m) * half n + (c / m) * n +
    (n * (((a % m) * n + c % m) / m) - S0 (((a % m) * n + c % m) / m).toNat m (m - c % m - 1 + a % m) (a % m)) := by
  have h1 := Int.emod_nonneg a (show m ≠ 0 by omega)
  have h2 := Int.emod_lt_of_pos c hm
  have h3 := Int.emod_nonneg c (show m ≠ 0 by omega)
  have h4 := Int.emod_lt_of_pos a hm
  have x := congrArg Prod.fst (lift_SS (a := a) (c := c) hm hn)
  have x' : S0 n.toNat a c m = S0 n.toNat (a % m) (c % m) m + a / m * half n + c / m * n := x
  rw [x']
  have nn : 0 ≤ ((a % m) * n + c % m) / m := Int.ediv_nonneg (by have := Int.mul_nonneg h1 hn; omega) (by omega)
  obtain ⟨h, hh⟩ : ∃ h : Nat, ((a % m) * n + c % m) / m = (h : Int) := ⟨(((a % m) * n + c % m) / m).toNat, by omega⟩
  obtain ⟨k, rfl⟩ : ∃ k : Nat, n = k := ⟨n.toNat, by omega⟩
  rw [hh, Int.toNat_natCast, Int.toNat_natCast]
  have sh : ∀ j : Nat, fl m (m - c % m - 1 + a % m) (a % m) j = fl m (m - c % m - 1) (a % m) j + 1 := fun j => by
    unfold fl
    have z := Int.add_mul_ediv_right (m * (j : Int) + (m - c % m - 1)) 1 (show a % m ≠ 0 by omega)
    rw [Int.one_mul] at z
    rw [← Int.add_assoc, z]
  have e1 : S0 h m (m - c % m - 1 + a % m) (a % m) = S0 h m (m - c % m - 1) (a % m) + h := by
    unfold S0
    rw [sm_congr h fun j _ => sh j, sm_add, sm_const, Int.one_mul]
  rw [e1]
  cases k with
  | zero =>
    have z : h = 0 := by
      have : ((a % m) * ((0 : Nat) : Int) + c % m) / m = 0 := by
        rw [show ((0 : Nat) : Int) = 0 from rfl, Int.mul_zero, Int.zero_add]
        exact Int.ediv_eq_zero_of_lt h3 h2
      omega
    subst z
    simp [S0, sm, half]
  | succ k =>
    have hk : fl (a % m) (c % m) m (k + 1) = (h : Int) := hh
    have hf : ∀ i, i < k + 1 → fl (a % m) (c % m) m i ≤ h := fun i hi => by
      rw [← hk]
      exact fl_mono h1 hm (by omega)
    have hg : ∀ j, j < h → -1 ≤ fl m (m - c % m - 1) (a % m) j ∧ fl m (m - c % m - 1) (a % m) j ≤ k := fun j hj => by
      have g0 := fl_nn (Int.le_of_lt hm) (show 0 ≤ m - c % m - 1 by omega) ha j
      have := (fl_lt (c := c % m) ha hm (k + 1) j).mp (by omega)
      omega
    have y := (mirror ha h3 hm hf hg).1
    rw [y, Int.natCast_add, Int.add_mul, Int.mul_comm (k : Int) h]
    simp only [Int.natCast_one, Int.one_mul]
    omega
theorem area_end {n a c m : Int} (hm : 0 < m) (hn : 0 ≤ n) (h : a % m = 0 ∨ ((a % m) * n + c % m) / m = 0) : S0 n.toNat a c m = (a / m) * half n + (c / m) * n := by
  have h1 := Int.emod_nonneg a (show m ≠ 0 by omega)
  have h2 := Int.emod_lt_of_pos c hm
  have h3 := Int.emod_nonneg c (show m ≠ 0 by omega)
  have x := congrArg Prod.fst (lift_SS (a := a) (c := c) hm hn)
  have x' : S0 n.toNat a c m = S0 n.toNat (a % m) (c % m) m + a / m * half n + c / m * n := x
  obtain ⟨k, rfl⟩ : ∃ k : Nat, n = k := ⟨n.toNat, by omega⟩
  have fz : ∀ i, i < k → fl (a % m) (c % m) m i = 0 := fun i hi => by
    have u0 := fl_nn h1 h3 hm i
    rcases h with h | h
    · unfold fl
      rw [h, Int.zero_mul, Int.zero_add]
      exact Int.ediv_eq_zero_of_lt h3 h2
    · have := fl_mono (a := a % m) (c := c % m) h1 hm (show i ≤ k by omega)
      have e : fl (a % m) (c % m) m k = 0 := h
      omega
  rw [x', Int.toNat_natCast]
  have : S0 k (a % m) (c % m) m = 0 := by
    unfold S0
    rw [sm_congr (g := fun _ => 0) _ fz, sm_const, Int.zero_mul]
  rw [this]
  omega
end Tm

namespace Tm
theorem tot_foldl (ls : List Ly) : tot ls = ls.reverse.foldl (fun t l => lif l.n l.u l.s (mir l.n l.h t)) (0, 0, 0) := by
  rw [List.foldl_reverse]
  induction ls with
  | nil => rfl
  | cons l r ih =>
    show lif l.n l.u l.s (mir l.n l.h (tot r)) = _
    rw [ih]
    rfl
def tsum (r : List Ly) (i : Nat) : Int × Int × Int := (r.take i).foldl (fun t l => lif l.n l.u l.s (mir l.n l.h t)) (0, 0, 0)
theorem tsum_succ {r : List Ly} {i : Nat} {l : Ly} (h : r[i]? = some l) : tsum r (i + 1) = lif l.n l.u l.s (mir l.n l.h (tsum r i)) := by
  unfold tsum
  rw [List.take_add_one, h, List.foldl_append]
  rfl
theorem tsum_end (ls : List Ly) : tsum ls.reverse ls.reverse.length = tot ls := by
  unfold tsum
  rw [List.take_length, tot_foldl]
end Tm

namespace Tm
/-- the law's own turns end in time: i turns done -/
def Turn (i : Nat) (a m : Int) : Prop := ∀ k : Nat, (i = 2 * k → m * 2 ^ k < 2 ^ 180) ∧ (i = 2 * k + 1 → a * 2 ^ k < 2 ^ 180 ∧ m < a)
theorem turn_zero {a m : Int} (h : m < 2 ^ 180) : Turn 0 a m := fun k => ⟨fun e => by
  have : k = 0 := by omega
  subst this
  rw [Int.pow_zero, Int.mul_one]
  exact h, fun e => by omega⟩
theorem turn_succ {i : Nat} {a m : Int} (hm : 0 < m) (hr : 0 < a % m) (t : Turn i a m) : Turn (i + 1) m (a % m) := fun k => ⟨fun e => by
  obtain ⟨j, rfl⟩ : ∃ j, k = j + 1 := ⟨k - 1, by omega⟩
  obtain ⟨h1, h2⟩ := (t j).2 (by omega)
  have h3 := Int.mul_ediv_add_emod a m
  have h4 := Int.emod_lt_of_pos a hm
  have h5 : 1 ≤ a / m := Int.le_ediv_of_mul_le hm (by omega)
  have h6 : m * 1 ≤ m * (a / m) := Int.mul_le_mul_of_nonneg_left h5 (by omega)
  have h7 : (a % m) * 2 ≤ a := by omega
  have h8 : (0 : Int) ≤ 2 ^ j := Int.le_of_lt (Int.pow_pos (by decide))
  have h9 := Int.mul_le_mul_of_nonneg_right h7 h8
  have e2 : (2 : Int) ^ (j + 1) = 2 * 2 ^ j := by rw [Int.pow_succ, Int.mul_comm]
  rw [e2, ← Int.mul_assoc]
  omega, fun e => ⟨(t k).1 (by omega), Int.emod_lt_of_pos a hm⟩⟩
theorem high_le {n a c m : Int} (hm : 0 < m) (hn : 0 ≤ n) : 0 ≤ ((a % m) * n + c % m) / m ∧ ((a % m) * n + c % m) / m ≤ n := by
  have h1 := Int.emod_nonneg a (show m ≠ 0 by omega)
  have h2 := Int.emod_lt_of_pos a hm
  have h3 := Int.emod_nonneg c (show m ≠ 0 by omega)
  have h4 := Int.emod_lt_of_pos c hm
  refine ⟨Int.ediv_nonneg (by have := Int.mul_nonneg h1 hn; omega) (by omega), ?_⟩
  have : ((a % m) * n + c % m) / m < n + 1 := by
    refine (Int.ediv_lt_iff_lt_mul hm).mpr ?_
    have : (a % m) * n ≤ m * n := Int.mul_le_mul_of_nonneg_right (by omega) hn
    rw [Int.add_mul, Int.one_mul, Int.mul_comm n m]
    omega
  omega
end Tm
namespace Tm
theorem div_abs {x m B : Int} (hm : 0 < m) (h0 : 0 ≤ B) (h : -B ≤ x ∧ x ≤ B) : -B ≤ x / m ∧ x / m ≤ B := by
  have h1 : -B ≤ x / m := Int.le_ediv_of_mul_le hm (by
    have := Int.mul_le_mul_of_nonneg_left (show 1 ≤ m by omega) h0
    have e : -B * m = -(B * m) := Int.neg_mul _ _
    omega)
  have h2 : x / m < B + 1 := by
    refine (Int.ediv_lt_iff_lt_mul hm).mpr ?_
    have := Int.mul_le_mul_of_nonneg_left (show 1 ≤ m by omega) (show 0 ≤ B + 1 by omega)
    omega
  omega
end Tm

/-! Rests along lines: how many are 0, and periods. -/
namespace Tm
/-- how many i below n are hit -/
def cnt (a c m : Int) (n : Nat) : Int := sm (fun i => ind (decide ((a * (i : Int) + c) % m = 0))) n
def rs (a c m : Int) (i : Nat) : Int := (a * (i : Int) + c) % m
theorem rs_fl (a c m : Int) (i : Nat) : rs a c m i = a * (i : Int) + c - m * fl a c m i := by
  unfold rs fl
  exact Int.emod_def _ _
theorem rs_sum (a c m : Int) (n : Nat) : sm (rs a c m) n = a * half n + c * n - m * S0 n a c m := by
  rw [sm_congr n fun i _ => rs_fl a c m i, sm_sub, sm_mul]
  have e : sm (fun i => a * (i : Int) + c) n = a * half n + c * n := by rw [sm_add, sm_mul, sm_const, half_sm]
  rw [e]
  rfl
theorem neg_div {x m : Int} (hm : 0 < m) : (-x) / m = -(x / m) - 1 + ind (decide (x % m = 0)) := by
  have h1 := Int.emod_nonneg x (show m ≠ 0 by omega)
  have h2 := Int.emod_lt_of_pos x hm
  have h3 := Int.mul_ediv_add_emod x m
  unfold ind
  by_cases h : x % m = 0
  · rw [decide_eq_true h, if_pos rfl]
    have e : -x = -(x / m) * m := by rw [Int.neg_mul, Int.mul_comm (x / m)]; omega
    rw [e, Int.mul_ediv_cancel _ (by omega)]
    omega
  · rw [decide_eq_false h, if_neg (by decide)]
    have e : -x = (m - x % m) + (-(x / m) - 1) * m := by
      rw [Int.sub_mul, Int.neg_mul, Int.mul_comm (x / m)]
      omega
    rw [e, Int.add_mul_ediv_right _ _ (by omega), Int.ediv_eq_zero_of_lt (by omega) (by omega)]
    omega
theorem fl_neg {a c m : Int} (hm : 0 < m) (i : Nat) : fl (0 - a) (0 - c) m i = - fl a c m i - 1 + ind (decide ((a * (i : Int) + c) % m = 0)) := by
  unfold fl
  have e : (0 - a) * (i : Int) + (0 - c) = -(a * (i : Int) + c) := by
    have : (0 - a) * (i : Int) = -(a * i) := by rw [Int.zero_sub, Int.neg_mul]
    omega
  rw [e, neg_div hm]
theorem S0_neg {a c m : Int} (hm : 0 < m) (n : Nat) : S0 n (0 - a) (0 - c) m = - S0 n a c m - n + cnt a c m n := by
  unfold S0 cnt
  rw [sm_congr n fun i _ => fl_neg hm i, sm_add, sm_sub, sm_neg, sm_const]
  omega
theorem pred_div {x k : Int} (hk : 0 < k) : (x - 1) / k = x / k - ind (decide (x % k = 0)) := by
  have h1 := Int.emod_nonneg x (show k ≠ 0 by omega)
  have h2 := Int.emod_lt_of_pos x hk
  have h3 := Int.mul_ediv_add_emod x k
  unfold ind
  by_cases h : x % k = 0
  · rw [decide_eq_true h, if_pos rfl]
    have e : x - 1 = (k - 1) + (x / k - 1) * k := by rw [Int.sub_mul, Int.mul_comm (x / k)]; omega
    rw [e, Int.add_mul_ediv_right _ _ (by omega), Int.ediv_eq_zero_of_lt (by omega) (by omega)]
    omega
  · rw [decide_eq_false h, if_neg (by decide)]
    have e : x - 1 = (x % k - 1) + (x / k) * k := by rw [Int.mul_comm (x / k)]; omega
    rw [e, Int.add_mul_ediv_right _ _ (by omega), Int.ediv_eq_zero_of_lt (by omega) (by omega)]
    omega
/-- one in each period -/
theorem cnt_per {f k : Int} (hk : 0 < k) (hf : 0 ≤ f) (hfk : f < k) : ∀ n : Nat, sm (fun i => ind (decide (((i : Int) - f) % k = 0))) n = ((n : Int) - 1 - f) / k + 1
  | 0 => by
    show (0 : Int) = _
    have e : ((0 : Nat) : Int) - 1 - f = (k - 1 - f) + (-1) * k := by omega
    rw [e, Int.add_mul_ediv_right _ _ (by omega), Int.ediv_eq_zero_of_lt (by omega) (by omega)]
    omega
  | n + 1 => by
    show sm (fun i => ind (decide (((i : Int) - f) % k = 0))) n + ind (decide (((n : Int) - f) % k = 0)) = _
    rw [cnt_per hk hf hfk n]
    have e : ((n + 1 : Nat) : Int) - 1 - f = (n : Int) - f := by omega
    rw [e]
    have e2 : (n : Int) - 1 - f = (n : Int) - f - 1 := by omega
    rw [e2, pred_div hk]
    omega
theorem cnt_some {a c g k v : Int} (hg : 0 < g) (hk : 0 < k) (hv : (a * v) % k = 1 % k) (n : Nat) : cnt (g * a) (g * c) (g * k) n = ((n : Int) - 1 - (-c * v) % k) / k + 1 := by
  have f0 := Int.emod_nonneg (-c * v) (show k ≠ 0 by omega)
  have f1 := Int.emod_lt_of_pos (-c * v) hk
  rw [← cnt_per hk f0 f1]
  unfold cnt
  refine sm_congr n fun i _ => ?_
  congr 1
  refine decide_eq_decide.mpr ?_
  have e1 : g * a * (i : Int) + g * c = g * (a * i + c) := by rw [Int.mul_add, Int.mul_assoc]
  rw [e1, Int.mul_emod_mul_of_pos _ _ hg]
  have hd : k ∣ a * v - 1 := Int.dvd_of_emod_eq_zero (Int.emod_eq_emod_iff_emod_sub_eq_zero.mp hv)
  have s1 : g * ((a * i + c) % k) = 0 ↔ k ∣ a * i + c := by
    constructor
    · intro z
      rcases Int.mul_eq_zero.mp z with q | q
      · omega
      · exact Int.dvd_of_emod_eq_zero q
    · intro z
      rw [Int.emod_eq_zero_of_dvd z, Int.mul_zero]
  rw [s1]
  have s2 : ((i : Int) - (-c * v) % k) % k = 0 ↔ k ∣ (i : Int) + c * v := by
    have e : (i : Int) - (-c * v) % k = ((i : Int) + c * v) + ((-c * v) / k) * k := by
      have := Int.emod_def (-c * v) k
      rw [this, Int.mul_comm k, Int.neg_mul]
      omega
    rw [e, Int.add_mul_emod_self_right]
    exact ⟨Int.dvd_of_emod_eq_zero, Int.emod_eq_zero_of_dvd⟩
  rw [s2]
  constructor
  · intro z
    have z2 : k ∣ v * (a * i + c) := Int.dvd_mul_of_dvd_right z
    have e : v * (a * i + c) = ((i : Int) + c * v) + (a * v - 1) * i := by
      rw [Int.mul_add, Int.sub_mul, Int.one_mul, ← Int.mul_assoc, Int.mul_comm v a, Int.mul_comm v c]
      omega
    rw [e] at z2
    exact (Int.dvd_add_left (Int.dvd_mul_of_dvd_left hd)).mp z2
  · intro z
    have z2 : k ∣ a * ((i : Int) + c * v) := Int.dvd_mul_of_dvd_right z
    have e : a * ((i : Int) + c * v) = (a * i + c) + (a * v - 1) * c := by
      rw [Int.mul_add, Int.sub_mul, Int.one_mul, ← Int.mul_assoc a c v, Int.mul_comm a c, Int.mul_assoc c a v, Int.mul_comm c (a * v)]
      omega
    rw [e] at z2
    exact (Int.dvd_add_left (Int.dvd_mul_of_dvd_left hd)).mp z2
theorem rs_square (a c m : Int) (n : Nat) : sm (fun i => rs a c m i * rs a c m i) n =
    (a * a * sixth n + 2 * a * c * half n + c * c * n) - 2 * m * (a * S1 n a c m + c * S0 n a c m) + m * m * S2 n a c m := by
  have e : ∀ i, i < n → rs a c m i * rs a c m i = (((a * a * ((i : Int) * i) + 2 * a * c * (i : Int)) + c * c) - 2 * m * (a * ((i : Int) * fl a c m i) + c * fl a c m i)) + m * m * (fl a c m i * fl a c m i) := fun i _ => by
    rw [rs_fl]
    generalize fl a c m i = f
    generalize (i : Int) = x
    simp only [Int.mul_add, Int.add_mul, Int.mul_sub, Int.sub_mul]
    have r1 : a * x * (a * x) = a * a * (x * x) := by rw [Int.mul_assoc, ← Int.mul_assoc x a x, Int.mul_comm x a, Int.mul_assoc a x x, ← Int.mul_assoc]
    have r2 : c * (a * x) = a * c * x := by rw [← Int.mul_assoc, Int.mul_comm c a]
    have r3 : a * x * c = a * c * x := by rw [Int.mul_assoc, Int.mul_comm x c, ← Int.mul_assoc]
    have r4 : m * f * (a * x) = m * (a * (x * f)) := by rw [Int.mul_assoc, ← Int.mul_assoc f a x, Int.mul_comm f a, Int.mul_assoc a f x, Int.mul_comm f x]
    have r5 : a * x * (m * f) = m * (a * (x * f)) := by rw [Int.mul_comm, r4]
    have r6 : m * f * c = m * (c * f) := by rw [Int.mul_assoc, Int.mul_comm f c]
    have r7 : c * (m * f) = m * (c * f) := by rw [Int.mul_comm, r6]
    have r8 : m * f * (m * f) = m * m * (f * f) := by rw [Int.mul_assoc, ← Int.mul_assoc f m f, Int.mul_comm f m, Int.mul_assoc m f f, ← Int.mul_assoc]
    have r9 : 2 * a * c * x = 2 * (a * c * x) := by rw [Int.mul_assoc 2 a c, Int.mul_assoc 2 (a * c) x]
    have r10 : 2 * m * (a * (x * f)) = 2 * (m * (a * (x * f))) := Int.mul_assoc ..
    have r11 : 2 * m * (c * f) = 2 * (m * (c * f)) := Int.mul_assoc ..
    rw [r1, r2, r3, r4, r5, r6, r7, r8, r9, r10, r11]
    omega
  rw [sm_congr n e, sm_add, sm_sub, sm_add, sm_add, sm_mul, sm_mul, sm_const, sm_mul, sm_add, sm_mul, sm_mul, sm_mul, half_sm, sixth_sm]
  rfl
theorem fl_abs {n : Nat} {a c m B : Int} (hm : 0 < m) (hB : 0 ≤ B) (h : ∀ i : Nat, i < n → -B ≤ a * i + c ∧ a * i + c ≤ B) : ∀ i, i < n → (fl a c m i).natAbs ≤ B.natAbs := fun i hi => by
  have := div_abs hm hB (h i hi)
  unfold fl
  omega
theorem line_abs {n a c : Int} {k : Nat} (ka : a.natAbs < 2 ^ k) (kc : c.natAbs < 2 ^ k) (kn : n.natAbs < 2 ^ k) : ∀ i : Nat, i < n.toNat → -(2 ^ (2 * k + 1) : Int) ≤ a * i + c ∧ a * i + c ≤ 2 ^ (2 * k + 1) := fun i hi => by
  have h1 : (a * i).natAbs ≤ 2 ^ k * 2 ^ k := by
    rw [Int.natAbs_mul]
    exact Nat.mul_le_mul (by omega) (by omega)
  have h2 : (2 : Nat) ^ (2 * k + 1) = 2 ^ k * 2 ^ k * 2 := by rw [Nat.pow_succ, Nat.two_mul, Nat.pow_add]
  have h3 : (((2 : Nat) ^ (2 * k + 1) : Nat) : Int) = 2 ^ (2 * k + 1) := by norm_cast
  have h4 : 2 ^ k ≤ 2 ^ k * 2 ^ k := Nat.le_mul_of_pos_left _ (Nat.pow_pos (by decide))
  omega
theorem sm_nat {f : Nat → Int} {B : Nat} (n : Nat) (h : ∀ i, i < n → (f i).natAbs ≤ B) : (sm f n).natAbs ≤ B * n := by
  have := sm_bound (B := (B : Int)) n (f := f) fun i hi => by
    have := h i hi
    omega
  have e : (B : Int) * (n : Int) = ((B * n : Nat) : Int) := by norm_cast
  rw [e] at this
  omega
theorem pow_bits {k : Nat} : (2 : Nat) ^ (2 * k + 1) * 2 ^ k * 2 ^ k ≤ 2 ^ (4 * k + 1) ∧ (2 : Nat) ^ (2 * k + 1) * 2 ^ (2 * k + 1) * 2 ^ k ≤ 2 ^ (5 * k + 2) := by
  rw [← Nat.pow_add, ← Nat.pow_add, ← Nat.pow_add, ← Nat.pow_add]
  exact ⟨Nat.pow_le_pow_right (by decide) (by omega), Nat.pow_le_pow_right (by decide) (by omega)⟩
theorem S1_lt {n a c m : Int} {k : Nat} (hm : 0 < m) (hn : 0 ≤ n) (ka : a.natAbs < 2 ^ k) (kc : c.natAbs < 2 ^ k) (kn : n.natAbs < 2 ^ k) : (S1 n.toNat a c m).natAbs < 2 ^ (4 * k + 2) := by
  have hf := fl_abs (n := n.toNat) (a := a) (c := c) (m := m) hm (Int.le_of_lt (Int.pow_pos (by decide))) (line_abs ka kc kn)
  have e : ((2 : Int) ^ (2 * k + 1)).natAbs = 2 ^ (2 * k + 1) := by rw [Int.natAbs_pow]; rfl
  rw [e] at hf
  have h := sm_nat (f := fun i => (i : Int) * fl a c m i) (B := 2 ^ (2 * k + 1) * 2 ^ k) n.toNat fun i hi => by
    rw [Int.natAbs_mul, Nat.mul_comm]
    exact Nat.mul_le_mul (hf i hi) (by rw [Int.natAbs_natCast]; omega)
  have h2 : 2 ^ (2 * k + 1) * 2 ^ k * n.toNat ≤ 2 ^ (2 * k + 1) * 2 ^ k * 2 ^ k := Nat.mul_le_mul_left _ (by omega)
  have h3 := (pow_bits (k := k)).1
  have h4 : (2 : Nat) ^ (4 * k + 1) < 2 ^ (4 * k + 2) := Nat.pow_lt_pow_right (by decide) (by omega)
  unfold S1
  omega
end Tm

/-! Rests over whole periods. -/
namespace Tm
theorem sm_pick (f : Nat → Int) (r : Nat) : ∀ k : Nat, r < k → sm (fun j => f j * ind (decide (r = j))) k = f r
  | 0, h => absurd h (Nat.not_lt_zero _)
  | k + 1, h => by
    show sm (fun j => f j * ind (decide (r = j))) k + f k * ind (decide (r = k)) = f r
    by_cases e : r = k
    · subst e
      have z : sm (fun j => f j * ind (decide (r = j))) r = sm (fun _ => 0) r := sm_congr _ fun j hj => by
        unfold ind
        rw [decide_eq_false (by omega), if_neg (by decide), Int.mul_zero]
      rw [z, sm_const]
      unfold ind
      rw [decide_eq_true rfl, if_pos rfl]
      omega
    · rw [sm_pick f r k (by omega)]
      unfold ind
      rw [decide_eq_false e, if_neg (by decide)]
      omega
theorem one_div {k f : Int} (hk : 0 < k) (f0 : 0 ≤ f) (f1 : f < k) (t : Int) : (k * t - 1 - f) / k + 1 = t := by
  have e : k * t - 1 - f = (k - 1 - f) + (t - 1) * k := by rw [Int.sub_mul, Int.mul_comm t]; omega
  rw [e, Int.add_mul_ediv_right _ _ (by omega), Int.ediv_eq_zero_of_lt (by omega) (by omega)]
  omega
/-- each rest once in a period -/
theorem perm_sum {a c v : Int} {k : Nat} (hk : 0 < k) (hv : (a * v) % k = 1 % k) (f : Nat → Int) : sm (fun i => f ((a * (i : Int) + c) % k).toNat) k = sm f k := by
  have e1 : ∀ i, i < k → f ((a * (i : Int) + c) % k).toNat = sm (fun j => f j * ind (decide (((a * (i : Int) + c) % k).toNat = j))) k := fun i _ => by
    have h1 := Int.emod_nonneg (a * (i : Int) + c) (show (k : Int) ≠ 0 by omega)
    have h2 := Int.emod_lt_of_pos (a * (i : Int) + c) (show 0 < (k : Int) by omega)
    rw [sm_pick f _ k (by omega)]
  rw [sm_congr k e1, sm_swap]
  refine sm_congr k fun j hj => ?_
  rw [sm_mul]
  have e2 : sm (fun i => ind (decide (((a * (i : Int) + c) % k).toNat = j))) k = cnt (1 * a) (1 * (c - j)) (1 * (k : Int)) k := by
    unfold cnt
    refine sm_congr k fun i _ => ?_
    have h1 := Int.emod_nonneg (a * (i : Int) + c) (show (k : Int) ≠ 0 by omega)
    have h2 := Int.emod_lt_of_pos (a * (i : Int) + c) (show 0 < (k : Int) by omega)
    congr 1
    refine decide_eq_decide.mpr ?_
    rw [Int.one_mul, Int.one_mul, Int.one_mul]
    have e3 : a * (i : Int) + (c - j) = (a * (i : Int) + c) - j := by omega
    rw [e3]
    constructor
    · intro z
      have z2 : (a * (i : Int) + c) % k = (j : Int) := by omega
      have z3 : (a * (i : Int) + c) % k = (j : Int) % k := by rw [z2, Int.emod_eq_of_lt (by omega) (by omega)]
      exact Int.emod_eq_emod_iff_emod_sub_eq_zero.mp z3
    · intro z
      have z3 : (a * (i : Int) + c) % k = (j : Int) % k := Int.emod_eq_emod_iff_emod_sub_eq_zero.mpr z
      rw [Int.emod_eq_of_lt (show (0 : Int) ≤ j by omega) (by omega)] at z3
      omega
  rw [e2, cnt_some (v := v) (by decide) (by omega) hv]
  have h3 := Int.emod_nonneg (-(c - j) * v) (show (k : Int) ≠ 0 by omega)
  have h4 := Int.emod_lt_of_pos (-(c - j) * v) (show 0 < (k : Int) by omega)
  have := one_div (k := (k : Int)) (by omega) h3 h4 1
  rw [Int.mul_one] at this
  rw [this, Int.mul_one]
section
variable {a c l g v : Int} {k : Nat} (hg : 0 < g) (hk : 0 < k) (l0 : 0 ≤ l) (l1 : l < g) (hv : (a * v) % k = 1 % k) (t : Nat)
include hg hk l0 l1 hv
end
end Tm
namespace Tm
end Tm
namespace Tm
end Tm

/-! Digits of great numbers, put together. -/
namespace Tm
def dg (n : Nat) : List Char := Nat.toDigits 10 n
/-- with zeros in front, at least k signs -/
def pad (k n : Nat) : List Char := List.replicate (k - (dg n).length) '0' ++ dg n
end Tm

namespace Tm
theorem opp_div {x k : Int} (hk : 0 < k) : (-x - 1) / k = -(x / k) - 1 := by
  have h0 := Int.mul_ediv_add_emod x k
  have h1 := Int.emod_nonneg x (show k ≠ 0 by omega)
  have h2 := Int.emod_lt_of_pos x hk
  have e : -x - 1 = (k - 1 - x % k) + (-(x / k) - 1) * k := by
    rw [Int.sub_mul, Int.neg_mul, Int.one_mul, Int.mul_comm (x / k) k]
    omega
  rw [e, Int.add_mul_ediv_right _ _ (by omega), Int.ediv_eq_zero_of_lt (by omega) (by omega)]
  omega
theorem S0_turned {n h a c m : Int} (ha : 0 < a) (h0 : 0 ≤ h) (eh : h = (a * n + c) / m) : S0 h.toNat m (m - c - 1 + a) a = n * h - S0 h.toNat m ((a * n + c) % m) a := by
  have e0 : m * h + (a * n + c) % m = a * n + c := by
    rw [eh]
    exact Int.mul_ediv_add_emod _ _
  generalize (a * n + c) % m = r at *
  unfold S0
  rw [← sm_rev (fl m (m - c - 1 + a) a) h.toNat]
  have e1 : sm (fun i => fl m (m - c - 1 + a) a (h.toNat - 1 - i)) h.toNat = sm (fun i => n - fl m r a i) h.toNat := sm_congr _ fun i hi => by
    unfold fl
    have e2 : ((h.toNat - 1 - i : Nat) : Int) = h - 1 - i := by omega
    have e3 : m * (h - 1 - (i : Int)) + (m - c - 1 + a) = (-(m * (i : Int) + r) - 1) + (n + 1) * a := by
      simp only [Int.mul_sub, Int.add_mul, Int.mul_one, Int.one_mul]
      rw [Int.mul_comm n a]
      omega
    rw [e2, e3, Int.add_mul_ediv_right _ _ (by omega), opp_div ha]
    omega
  rw [e1, sm_sub, sm_const, show ((h.toNat : Nat) : Int) = h by omega]
/-- one turn of a total of floors: the line's other axis -/
theorem floor_go {n a c m : Int} (hm : 0 < m) (hn : 0 ≤ n) (ha : 0 < a % m) : S0 n.toNat a c m = ((a / m) * half n + (c / m) * n) + S0 (((a % m) * n + c % m) / m).toNat m (((a % m) * n + c % m) % m) (a % m) := by
  obtain ⟨q0, _⟩ := high_le (a := a) (c := c) hm hn
  rw [area_step hm hn ha, S0_turned ha q0 rfl]
  omega
theorem floor_pos {n a c m : Int} (hm : 0 < m) (hn : 0 ≤ n) (h : ((a % m) * n + c % m) / m ≠ 0) : 0 < a % m := by
  have h1 := Int.emod_nonneg a (show m ≠ 0 by omega)
  have h3 := Int.emod_nonneg c (show m ≠ 0 by omega)
  have h4 := Int.emod_lt_of_pos c hm
  by_cases z : a % m = 0
  · rw [z, Int.zero_mul, Int.zero_add, Int.ediv_eq_zero_of_lt h3 h4] at h
    exact absurd rfl h
  · omega
end Tm

namespace Tm
/-! An inverse by remainders whose lower digits hold what the first number was multiplied by. -/
def IvN (a b B U L : Int) : Prop := ∃ r0 r1 s0 s1 : Int, U = r0 * B - s0 ∧ L = r1 * B + s1 ∧ 0 ≤ s0 ∧ 0 < s1 ∧ 0 ≤ r1 ∧ r1 < r0 ∧ r0 * s1 + r1 * s0 = b ∧ b ∣ (r0 + a * s0) ∧ b ∣ (r1 - a * s1) ∧ Int.gcd r0 r1 = Int.gcd a b
def IvE (a b B U L : Int) : Prop := ∃ g s t : Int, U = g * B + s - t ∧ L = t ∧ g * t = b ∧ 0 < t ∧ 0 < g ∧ b ∣ (g - a * s) ∧ (Int.gcd a b : Int) = g
theorem gcd_mod (x y : Int) : Int.gcd (x % y) y = Int.gcd x y := by
  have h := Int.mul_ediv_add_emod x y
  refine Nat.dvd_antisymm ?_ ?_
  · refine Int.dvd_gcd ?_ (Int.gcd_dvd_right ..)
    have h1 : ((Int.gcd (x % y) y : Nat) : Int) ∣ y * (x / y) := Int.dvd_trans (Int.gcd_dvd_right ..) (Int.dvd_mul_right ..)
    have h2 : ((Int.gcd (x % y) y : Nat) : Int) ∣ x % y := Int.gcd_dvd_left ..
    have h3 := Int.dvd_add h1 h2
    rwa [h] at h3
  · refine Int.dvd_gcd ?_ (Int.gcd_dvd_right ..)
    have h1 : ((Int.gcd x y : Nat) : Int) ∣ y * (x / y) := Int.dvd_trans (Int.gcd_dvd_right ..) (Int.dvd_mul_right ..)
    have h2 : ((Int.gcd x y : Nat) : Int) ∣ x := Int.gcd_dvd_left ..
    have h3 := Int.dvd_sub h2 h1
    have e : x - y * (x / y) = x % y := by omega
    rwa [e] at h3
theorem mul_ge {x y : Int} (hx : 1 ≤ x) (hy : 0 ≤ y) : y ≤ x * y := by
  have := Int.mul_le_mul_of_nonneg_right hx hy
  omega
theorem ivN_start {a b B : Int} (hb : 0 < b) : IvN a b B (b * B) (a % b * B + 1) := by
  have h1 := Int.emod_nonneg a (show b ≠ 0 by omega)
  have h2 := Int.emod_lt_of_pos a hb
  refine ⟨b, a % b, 0, 1, by omega, rfl, by omega, by omega, h1, h2, by omega, ⟨1, by omega⟩, ⟨-(a / b), ?_⟩, ?_⟩
  · have := Int.mul_ediv_add_emod a b
    rw [Int.mul_neg]
    omega
  · rw [Int.gcd_comm, gcd_mod]
theorem ivN_go {a b B U L : Int} (hb : 0 < b) (hB : 4 * b < B) (h : IvN a b B U L) (hl : b < L) : 0 < U % L ∧ 0 ≤ L % (U % L) ∧ L % (U % L) < L ∧ (IvN a b B (U % L) (L % (U % L)) ∨ IvE a b B (U % L) (L % (U % L))) := by
  obtain ⟨r0, r1, s0, s1, rfl, rfl, p1, p2, p3, p4, d, c0, c1, g⟩ := h
  have s1b : s1 ≤ b := by
    have h1 := mul_ge (x := r0) (y := s1) (by omega) (by omega)
    have h2 := Int.mul_nonneg p3 p1
    omega
  have q1 : 1 ≤ r1 := by
    rcases Int.lt_or_le r1 1 with z | z
    · have : r1 = 0 := by omega
      subst this
      omega
    · exact z
  have s0b : s0 ≤ b := by
    have h1 := mul_ge (x := r1) (y := s0) q1 p1
    have h2 := Int.mul_nonneg (show 0 ≤ r0 by omega) (show 0 ≤ s1 by omega)
    omega
  have LB : B ≤ r1 * B := mul_ge q1 (by omega)
  have e0 := Int.mul_ediv_add_emod r0 r1
  have m0 := Int.emod_nonneg r0 (show r1 ≠ 0 by omega)
  have m1 := Int.emod_lt_of_pos r0 (show 0 < r1 by omega)
  have k0 : 1 ≤ r0 / r1 := Int.le_ediv_of_mul_le (by omega) (by omega)
  generalize hk : r0 / r1 = k at *
  generalize hr : r0 % r1 = r2 at *
  have gg : Int.gcd r1 r2 = Int.gcd a b := by
    rw [← g, ← hr, Int.gcd_comm r1, gcd_mod]
  -- what is taken away
  have t0 : 0 < s0 + k * s1 := by
    have := mul_ge k0 (show 0 ≤ s1 by omega)
    omega
  have d2 : r1 * (s0 + k * s1) + r2 * s1 = b := by
    have e : r0 * s1 = r1 * (k * s1) + r2 * s1 := by
      rw [← e0, Int.add_mul, Int.mul_assoc]
    rw [Int.mul_add]
    omega
  have c2 : b ∣ (r2 + a * (s0 + k * s1)) := by
    obtain ⟨x, hx⟩ := c0
    obtain ⟨y, hy⟩ := c1
    refine ⟨x - k * y, ?_⟩
    have e1 : b * (x - k * y) = b * x - k * (b * y) := by
      rw [Int.mul_sub, ← Int.mul_assoc, ← Int.mul_assoc, Int.mul_comm b k]
    rw [e1, ← hx, ← hy, Int.mul_sub, Int.mul_add]
    have e2 : a * (k * s1) = k * (a * s1) := by rw [← Int.mul_assoc, Int.mul_comm a k, Int.mul_assoc]
    have e3 : k * r1 = r1 * k := Int.mul_comm _ _
    omega
  have t1 : s0 + k * s1 ≤ b := by
    have h1 := mul_ge (x := r1) (y := s0 + k * s1) q1 (by omega)
    have h2 := Int.mul_nonneg m0 (show 0 ≤ s1 by omega)
    omega
  generalize ht : s0 + k * s1 = s2 at *
  have eU : r0 * B - s0 = (r2 * B - s2) + k * (r1 * B + s1) := by
    rw [← e0, ← ht, Int.add_mul, Int.mul_add, ← Int.mul_assoc k, Int.mul_comm k r1]
    omega
  rcases Int.lt_or_le 0 r2 with z | z
  · have h1 := mul_ge (x := r2) (y := B) (by omega) (by omega)
    have h2 : r2 * B + B ≤ r1 * B := by
      have := Int.mul_le_mul_of_nonneg_right (show r2 + 1 ≤ r1 by omega) (show 0 ≤ B by omega)
      rw [Int.add_mul, Int.one_mul] at this
      exact this
    have u1 : (r0 * B - s0) % (r1 * B + s1) = r2 * B - s2 := by
      rw [eU, Int.add_mul_emod_self_right, Int.emod_eq_of_lt (by omega) (by omega)]
    rw [u1]
    have f0 := Int.mul_ediv_add_emod r1 r2
    have n0 := Int.emod_nonneg r1 (show r2 ≠ 0 by omega)
    have n1 := Int.emod_lt_of_pos r1 z
    have j0 : 1 ≤ r1 / r2 := Int.le_ediv_of_mul_le (by omega) (by omega)
    generalize hj : r1 / r2 = j at *
    generalize hr3 : r1 % r2 = r3 at *
    have g3 : Int.gcd r2 r3 = Int.gcd a b := by
      rw [← gg, ← hr3, Int.gcd_comm r2, gcd_mod]
    have d3 : r2 * (s1 + j * s2) + r3 * s2 = b := by
      have e : r1 * s2 = r2 * (j * s2) + r3 * s2 := by
        rw [← f0, Int.add_mul, Int.mul_assoc]
      rw [Int.mul_add]
      omega
    have c3 : b ∣ (r3 - a * (s1 + j * s2)) := by
      obtain ⟨x, hx⟩ := c1
      obtain ⟨y, hy⟩ := c2
      refine ⟨x - j * y, ?_⟩
      have e1 : b * (x - j * y) = b * x - j * (b * y) := by
        rw [Int.mul_sub, ← Int.mul_assoc, ← Int.mul_assoc, Int.mul_comm b j]
      rw [e1, ← hx, ← hy, Int.mul_add, Int.mul_add]
      have e2 : a * (j * s2) = j * (a * s2) := by rw [← Int.mul_assoc, Int.mul_comm a j, Int.mul_assoc]
      have e3 : j * r2 = r2 * j := Int.mul_comm _ _
      omega
    have w0 : 0 < s1 + j * s2 := by
      have := mul_ge j0 (show 0 ≤ s2 by omega)
      omega
    have w1 : s1 + j * s2 ≤ b := by
      have h1 := mul_ge (x := r2) (y := s1 + j * s2) (by omega) (by omega)
      have h2 := Int.mul_nonneg n0 (show 0 ≤ s2 by omega)
      omega
    generalize hw : s1 + j * s2 = s3 at *
    have eL : r1 * B + s1 = (r3 * B + s3) + j * (r2 * B - s2) := by
      rw [← f0, ← hw, Int.add_mul, Int.mul_sub, ← Int.mul_assoc j, Int.mul_comm j r2]
      omega
    have h3 := Int.mul_nonneg n0 (show 0 ≤ B by omega)
    have h4 : r3 * B + B ≤ r2 * B := by
      have := Int.mul_le_mul_of_nonneg_right (show r3 + 1 ≤ r2 by omega) (show 0 ≤ B by omega)
      rw [Int.add_mul, Int.one_mul] at this
      exact this
    have u2 : (r1 * B + s1) % (r2 * B - s2) = r3 * B + s3 := by
      rw [eL, Int.add_mul_emod_self_right, Int.emod_eq_of_lt (by omega) (by omega)]
    rw [u2]
    exact ⟨by omega, by omega, by omega, .inl ⟨r2, r3, s2, s3, rfl, rfl, by omega, w0, n0, n1, d3, c2, c3, g3⟩⟩
  · have z : r2 = 0 := by omega
    have u1 : (r0 * B - s0) % (r1 * B + s1) = r1 * B + s1 - s2 := by
      have e : r0 * B - s0 = (r1 * B + s1 - s2) + (k - 1) * (r1 * B + s1) := by
        rw [eU, z, Int.zero_mul, Int.sub_mul, Int.one_mul]
        omega
      rw [e, Int.add_mul_emod_self_right, Int.emod_eq_of_lt (by omega) (by omega)]
    have u2 : (r1 * B + s1) % (r1 * B + s1 - s2) = s2 := by
      have yB : B ≤ r1 * B + s1 := by omega
      generalize r1 * B + s1 = y at *
      have e : y = s2 + 1 * (y - s2) := by omega
      conv => lhs; lhs; rw [e]
      rw [Int.add_mul_emod_self_right, Int.emod_eq_of_lt (by omega) (by omega)]
    rw [u1, u2]
    refine ⟨by omega, by omega, by omega, .inr ⟨r1, s1, s2, by omega, rfl, ?_, t0, by omega, c1, ?_⟩⟩
    · rw [z, Int.zero_mul] at d2
      omega
    · rw [← gg, z, Int.gcd_zero_right]
      omega
theorem ivE_end {a b B U L : Int} (h : IvE a b B U L) : L ≤ b := by
  obtain ⟨g, s, t, _, rfl, e, h1, h2, _⟩ := h
  have := mul_ge (x := g) (y := L) (by omega) (by omega)
  omega
theorem mul_one_eq {g t : Int} (ht : 0 < t) (h : g * t = t) : g = 1 := by
  have : (g - 1) * t = 0 := by
    rw [Int.sub_mul, Int.one_mul]
    omega
  rcases Int.mul_eq_zero.mp this with z | z <;> omega
theorem iv_fin {a b B U L : Int} (hb : 0 < b) (hB : 4 * b < B) (h : IvN a b B U L ∨ IvE a b B U L) (hl : ¬ b < L) :
    (L = b → Int.gcd a b = 1 ∧ b ∣ (a * ((U - B) % b) - 1)) ∧ (Int.gcd a b = 1 → L = b) := by
  have key : ∀ v x : Int, b ∣ (1 - a * v) → x % b = v % b → b ∣ (a * (x % b) - 1) := fun v x h e => by
    rw [e]
    obtain ⟨y, hy⟩ := h
    refine ⟨-y - a * (v / b), ?_⟩
    have h1 := Int.mul_ediv_add_emod v b
    have h2 : a * v = a * (b * (v / b)) + a * (v % b) := by rw [← Int.mul_add, h1]
    have h3 : b * (a * (v / b)) = a * (b * (v / b)) := by rw [← Int.mul_assoc, Int.mul_comm b a, Int.mul_assoc]
    rw [Int.mul_sub, Int.mul_neg, h3]
    omega
  rcases h with ⟨r0, r1, s0, s1, rfl, rfl, p1, p2, p3, p4, d, c0, c1, g⟩ | ⟨g, s, t, rfl, rfl, e, h1, h2, c, eg⟩
  · have z : r1 = 0 := by
      rcases Int.lt_or_le 0 r1 with z | z
      · have := mul_ge (x := r1) (y := B) (by omega) (by omega)
        omega
      · omega
    subst z
    rw [Int.zero_mul, Int.add_zero] at d
    rw [Int.gcd_zero_right] at g
    refine ⟨fun el => ?_, fun eg => ?_⟩
    · have e1 : r0 = 1 := mul_one_eq p2 (by omega)
      subst e1
      refine ⟨by omega, key (-s0) _ ?_ ?_⟩
      · rw [Int.mul_neg]
        have : (1 : Int) - -(a * s0) = 1 + a * s0 := by omega
        rw [this]
        exact c0
      · congr 1
        omega
    · have : r0 = 1 := by omega
      subst this
      omega
  · refine ⟨fun el => ?_, fun z => ?_⟩
    · have e1 : g = 1 := mul_one_eq h1 (by omega)
      subst e1
      refine ⟨by omega, key s _ c ?_⟩
      have e2 : 1 * B + s - L - B = s + (-1) * b := by omega
      rw [e2, Int.add_mul_emod_self_right]
    · have : g = 1 := by omega
      subst this
      omega
theorem inv_ex {a b : Int} (hb : 0 < b) (h : a.natAbs.gcd b.natAbs = 1) : ∃ v, 0 ≤ v ∧ v < b ∧ b ∣ a * v - 1 := by
  obtain ⟨g, h1, _⟩ := last_rem (a := a) hb
  have e := last_is_gcd hb h1
  have : g = 1 := by
    rw [e, h]
    rfl
  subst this
  exact ⟨_, inverse_right hb h1 _ rfl⟩
end Tm

namespace Tm
/-! Sums of teeth: what Euclid's steps tell of them. -/
theorem six_sixth (n : Nat) : 6 * sixth n = (n : Int) * ((n : Int) - 1) * (2 * (n : Int) - 1) := by
  rw [← sixth_sm, sm_sq]
theorem two_half (n : Nat) : 2 * half n = (n : Int) * ((n : Int) - 1) := by
  rw [← half_sm, sm_id]
/-- 12 b s(a, b) of a coprime pair -/
def T1 (a b : Int) : Int := 2 * a * (b - 1) * (2 * b - 1) - 3 * b * (b - 1) - 12 * S1 b.toNat a 0 b
theorem T1_lift {a b u : Int} (hb : 0 < b) : T1 (a + u * b) b = T1 a b := by
  obtain ⟨n, rfl⟩ : ∃ n : Nat, b = n := ⟨b.toNat, by omega⟩
  have h := S1_lift (n := n) (a := a) (c := 0) (m := n) (u := u) (v := 0) (by omega)
  rw [Int.zero_mul, Int.zero_add] at h
  have s := six_sixth n
  unfold T1
  rw [Int.toNat_natCast, h]
  grind
theorem T1_mod {a b : Int} (hb : 0 < b) : T1 (a % b) b = T1 a b := by
  have e : a = a % b + a / b * b := by have := Int.emod_add_mul_ediv a b; rw [Int.mul_comm b] at this; omega
  conv => rhs; rw [e]
  rw [T1_lift hb]
theorem T1_zero : T1 0 1 = 0 := by decide +kernel
theorem cop_ndvd {p q j : Nat} (hg : Nat.gcd p q = 1) (j0 : 0 < j) (j1 : j < p) : ((q : Int) * (j : Int)) % (p : Int) ≠ 0 := by
  intro z
  have h : (p : Int) ∣ (q : Int) * (j : Int) := Int.dvd_of_emod_eq_zero z
  rw [← Int.natCast_mul, Int.natCast_dvd_natCast] at h
  have := Nat.le_of_dvd j0 (Nat.Coprime.dvd_of_dvd_mul_left hg h)
  omega
theorem inv_of_gcd {p q : Nat} (hp : 0 < p) (hg : Nat.gcd p q = 1) : ∃ v : Int, ((q : Int) * v) % (p : Int) = 1 % (p : Int) := by
  obtain ⟨v, _, _, h⟩ := inv_ex (a := q) (b := p) (by omega) (by rw [Int.natAbs_natCast, Int.natAbs_natCast, Nat.gcd_comm]; exact hg)
  exact ⟨v, (Int.emod_eq_emod_iff_emod_sub_eq_zero.mpr (Int.emod_eq_zero_of_dvd h))⟩
theorem rs_zero_sq {p q : Nat} (hp : 0 < p) (hg : Nat.gcd p q = 1) : sm (fun i => rs q 0 p i * rs q 0 p i) p = sixth p ∧ sm (rs q 0 p) p = half p := by
  obtain ⟨v, hv⟩ := inv_of_gcd hp hg
  have cast : ∀ i : Nat, ((((q : Int) * (i : Int) + 0) % (p : Int)).toNat : Int) = rs q 0 p i := fun i => by
    have := Int.emod_nonneg ((q : Int) * (i : Int) + 0) (show (p : Int) ≠ 0 by omega)
    unfold rs
    omega
  have h1 := perm_sum (a := q) (c := 0) (v := v) (k := p) hp hv (fun j => (j : Int) * j)
  have h2 := perm_sum (a := q) (c := 0) (v := v) (k := p) hp hv (fun j => (j : Int))
  simp only [cast] at h1 h2
  exact ⟨h1.trans (sixth_sm p), h2.trans (half_sm p)⟩
/-- the sums of a coprime pair and of the exchanged one -/
theorem T1_recip {p q : Nat} (hp : 0 < p) (hpq : p < q) (hg : Nat.gcd p q = 1) : (p : Int) * T1 p q + q * T1 q p = p * p + q * q + 1 - 3 * (p * q) := by
  obtain ⟨n, rfl⟩ : ∃ n, q = n + 1 := ⟨q - 1, by omega⟩
  obtain ⟨h, rfl⟩ : ∃ h, p = h + 1 := ⟨p - 1, by omega⟩
  have hm := mirror (a := ((h + 1 : Nat) : Int)) (c := 0) (m := ((n + 1 : Nat) : Int)) (n := n) (h := h) (by omega) (by omega) (by omega)
    (fun i hi => by
      unfold fl
      have : (((h + 1 : Nat) : Int) * i + 0) / ((n + 1 : Nat) : Int) < ((h + 1 : Nat) : Int) := by
        refine Int.ediv_lt_of_lt_mul (by omega) ?_
        have := Int.mul_lt_mul_of_pos_left (show (i : Int) < ((n + 1 : Nat) : Int) by omega) (show 0 < ((h + 1 : Nat) : Int) by omega)
        omega
      omega)
    (fun j hj => by
      unfold fl
      have h0 : 0 ≤ (((n + 1 : Nat) : Int) * j + (((n + 1 : Nat) : Int) - 0 - 1)) / ((h + 1 : Nat) : Int) := Int.ediv_nonneg (by have := Int.mul_nonneg (show 0 ≤ ((n + 1 : Nat) : Int) by omega) (show 0 ≤ (j : Int) by omega); omega) (by omega)
      have h1 : (((n + 1 : Nat) : Int) * j + (((n + 1 : Nat) : Int) - 0 - 1)) / ((h + 1 : Nat) : Int) < ((n + 1 : Nat) : Int) := by
        refine Int.ediv_lt_of_lt_mul (by omega) ?_
        have := Int.mul_le_mul_of_nonneg_left (show (j : Int) + 1 ≤ ((h + 1 : Nat) : Int) by omega) (show 0 ≤ ((n + 1 : Nat) : Int) by omega)
        rw [Int.mul_add] at this
        omega
      omega)
  obtain ⟨m0, m1, _⟩ := hm
  -- the mirror's floors are those of the exchanged line, one further
  have sh : ∀ j, j < h → fl ((n + 1 : Nat) : Int) (((n + 1 : Nat) : Int) - 0 - 1) ((h + 1 : Nat) : Int) j = fl ((n + 1 : Nat) : Int) 0 ((h + 1 : Nat) : Int) (1 + j) := fun j hj => by
    unfold fl
    have nd := cop_ndvd (q := n + 1) hg (j := 1 + j) (by omega) (by omega)
    have e : ((n + 1 : Nat) : Int) * (j : Int) + (((n + 1 : Nat) : Int) - 0 - 1) = ((n + 1 : Nat) : Int) * ((1 + j : Nat) : Int) - 1 := by
      rw [Int.natCast_add 1 j, Int.mul_add]
      omega
    rw [e, pred_div (by omega), Int.add_zero]
    rw [show ind (decide (((n + 1 : Nat) : Int) * ((1 + j : Nat) : Int) % ((h + 1 : Nat) : Int) = 0)) = 0 by rw [decide_eq_false nd]; rfl]
    omega
  have z0 : fl ((n + 1 : Nat) : Int) 0 ((h + 1 : Nat) : Int) 0 = 0 := by
    unfold fl
    rw [Int.natCast_zero, Int.mul_zero, Int.zero_add]
    exact Int.zero_ediv _
  have a0 : S0 (h + 1) ((n + 1 : Nat) : Int) 0 ((h + 1 : Nat) : Int) = S0 h ((n + 1 : Nat) : Int) (((n + 1 : Nat) : Int) - 0 - 1) ((h + 1 : Nat) : Int) := by
    unfold S0
    rw [show h + 1 = 1 + h by omega, sm_app]
    rw [show 1 + h = h + 1 by omega]
    rw [sm_congr (f := fl ((n + 1 : Nat) : Int) (((n + 1 : Nat) : Int) - 0 - 1) ((h + 1 : Nat) : Int)) h sh]
    show 0 + fl _ 0 _ 0 + _ = _
    rw [z0]
    omega
  have a1 : S1 (h + 1) ((n + 1 : Nat) : Int) 0 ((h + 1 : Nat) : Int) = S1 h ((n + 1 : Nat) : Int) (((n + 1 : Nat) : Int) - 0 - 1) ((h + 1 : Nat) : Int) + S0 h ((n + 1 : Nat) : Int) (((n + 1 : Nat) : Int) - 0 - 1) ((h + 1 : Nat) : Int) := by
    unfold S1 S0
    rw [show h + 1 = 1 + h by omega, sm_app]
    rw [show 1 + h = h + 1 by omega, ← sm_add]
    rw [sm_congr (f := fun i => (i : Int) * fl ((n + 1 : Nat) : Int) (((n + 1 : Nat) : Int) - 0 - 1) ((h + 1 : Nat) : Int) i + fl ((n + 1 : Nat) : Int) (((n + 1 : Nat) : Int) - 0 - 1) ((h + 1 : Nat) : Int) i) (g := fun i => ((1 + i : Nat) : Int) * fl ((n + 1 : Nat) : Int) 0 ((h + 1 : Nat) : Int) (1 + i)) h (fun j hj => by
      rw [sh j hj, Int.natCast_add 1 j, Int.add_mul]
      omega)]
    show 0 + ((0 : Nat) : Int) * fl _ 0 _ 0 + _ = _
    rw [z0]
    omega
  have a2 : S2 (h + 1) ((n + 1 : Nat) : Int) 0 ((h + 1 : Nat) : Int) = S2 h ((n + 1 : Nat) : Int) (((n + 1 : Nat) : Int) - 0 - 1) ((h + 1 : Nat) : Int) := by
    unfold S2
    rw [show h + 1 = 1 + h by omega, sm_app]
    rw [show 1 + h = h + 1 by omega]
    rw [sm_congr (f := fun i => fl ((n + 1 : Nat) : Int) (((n + 1 : Nat) : Int) - 0 - 1) ((h + 1 : Nat) : Int) i * fl ((n + 1 : Nat) : Int) (((n + 1 : Nat) : Int) - 0 - 1) ((h + 1 : Nat) : Int) i) (g := fun i => fl ((n + 1 : Nat) : Int) 0 ((h + 1 : Nat) : Int) (1 + i) * fl ((n + 1 : Nat) : Int) 0 ((h + 1 : Nat) : Int) (1 + i)) h (fun j hj => by rw [sh j hj])]
    show 0 + fl _ 0 _ 0 * fl _ 0 _ 0 + _ = _
    rw [z0]
    omega
  -- all remainders
  obtain ⟨r2, r1⟩ := rs_zero_sq (p := h + 1) (q := n + 1) (by omega) hg
  rw [rs_sum] at r1
  rw [rs_square] at r2
  have s6 := six_sixth (h + 1)
  have s2 := two_half (h + 1)
  unfold T1
  rw [Int.toNat_natCast, Int.toNat_natCast]
  generalize S1 (n + 1) ((h + 1 : Nat) : Int) 0 ((n + 1 : Nat) : Int) = X at *
  rw [← a0] at m0 a1 m1
  rw [← a2] at m1
  clear a2 a0 sh z0 hg m0
  have m2 : 2 * X = (h : Int) * (((n : Int) + 1) * n) - S2 (h + 1) ((n + 1 : Nat) : Int) 0 ((h + 1 : Nat) : Int) - S0 (h + 1) ((n + 1 : Nat) : Int) 0 ((h + 1 : Nat) : Int) := m1
  generalize S0 (h + 1) ((n + 1 : Nat) : Int) 0 ((h + 1 : Nat) : Int) = B0 at *
  generalize S1 (h + 1) ((n + 1 : Nat) : Int) 0 ((h + 1 : Nat) : Int) = B1 at *
  generalize S2 (h + 1) ((n + 1 : Nat) : Int) 0 ((h + 1 : Nat) : Int) = B2 at *
  clear m1 a1
  generalize half ((h + 1 : Nat) : Int) = hh at *
  generalize sixth ((h + 1 : Nat) : Int) = ss at *
  rw [show ((n + 1 : Nat) : Int) = (n : Int) + 1 by omega, show ((h + 1 : Nat) : Int) = (h : Int) + 1 by omega] at *
  have hp0 : (h : Int) + 1 ≠ 0 := by omega
  generalize (n : Int) = n at *
  generalize (h : Int) = h at *
  -- multiplied by p
  simp only [Int.zero_mul, Int.mul_zero, Int.add_zero] at r1 r2
  clear hp hpq
  rename_i right
  clear right
  have k0 : 2 * B0 = n * h := by
    have : (h + 1) * (2 * B0) = (h + 1) * (n * h) := by
      have e := congrArg (n * ·) s2
      clear s6 r2 m2 s2
      grind
    exact Int.eq_of_mul_eq_mul_left hp0 this
  have k2 : 6 * (h + 1) * B2 = 12 * (n + 1) * B1 + h * (2 * h + 1) * (1 - (n + 1) * (n + 1)) := by
    have : (h + 1) * (6 * (h + 1) * B2) = (h + 1) * (12 * (n + 1) * B1 + h * (2 * h + 1) * (1 - (n + 1) * (n + 1))) := by
      have e := congrArg ((1 - (n + 1) * (n + 1)) * ·) s6
      clear s2 r1 m2 k0 s6
      grind
    exact Int.eq_of_mul_eq_mul_left hp0 this
  clear r1 r2 s2 s6 hp0
  grind
end Tm

namespace Tm
/-! Sums of teeth by Euclid's steps. -/
def gc (a b : Int) : Int := (Int.gcd a b : Nat)
/-- 12 b s(a, b) of a pair -/
def TT (a b : Int) : Int := gc a b * T1 (a / gc a b) (b / gc a b)
theorem gc_pos {a b : Int} (hb : 0 < b) : 0 < gc a b := by
  have : 0 < Int.gcd a b := Int.gcd_pos_of_ne_zero_right _ (by omega)
  unfold gc
  omega
theorem gc_mod {a b : Int} : gc (a % b) b = gc a b := by
  unfold gc
  rw [gcd_mod]
theorem gc_comm {a b : Int} : gc a b = gc b a := by
  unfold gc
  rw [Int.gcd_comm]
theorem gc_l (a b : Int) : gc a b ∣ a := Int.gcd_dvd_left ..
theorem gc_r (a b : Int) : gc a b ∣ b := Int.gcd_dvd_right ..
/-- a pair over its common factor -/
theorem gc_parts {a b : Int} (hb : 0 < b) : ∃ x y : Int, a = gc a b * x ∧ b = gc a b * y ∧ 0 < y ∧ a / gc a b = x ∧ b / gc a b = y ∧ gc x y = 1 := by
  have g0 := gc_pos (a := a) hb
  obtain ⟨x, hx⟩ := gc_l a b
  obtain ⟨y, hy⟩ := gc_r a b
  have ex : a / gc a b = x := by conv => lhs; lhs; rw [hx]
                                 exact Int.mul_ediv_cancel_left _ (by omega)
  have ey : b / gc a b = y := by conv => lhs; lhs; rw [hy]
                                 exact Int.mul_ediv_cancel_left _ (by omega)
  have y0 : 0 < y := by
    rcases Int.lt_or_le 0 y with z | z
    · exact z
    · have := Int.mul_le_mul_of_nonneg_left z (show 0 ≤ gc a b by omega)
      omega
  refine ⟨x, y, hx, hy, y0, ex, ey, ?_⟩
  have e : Int.gcd (gc a b * x) (gc a b * y) = (gc a b).natAbs * Int.gcd x y := Int.gcd_mul_left ..
  rw [← hx, ← hy] at e
  have e2 : (gc a b).natAbs = Int.gcd a b := by unfold gc; exact Int.natAbs_natCast _
  rw [e2] at e
  have g1 : 0 < Int.gcd a b := by unfold gc at g0; omega
  have : Int.gcd x y = 1 := by
    have h : Int.gcd a b * 1 = Int.gcd a b * Int.gcd x y := by omega
    exact (Nat.eq_of_mul_eq_mul_left g1 h).symm
  unfold gc
  rw [this]
  rfl
theorem TT_mod {a b : Int} (hb : 0 < b) : TT (a % b) b = TT a b := by
  unfold TT
  rw [gc_mod]
  obtain ⟨x, y, hx, hy, y0, ex, ey, _⟩ := gc_parts (a := a) hb
  have g0 := gc_pos (a := a) hb
  rw [ex, ey]
  have e : a % b / gc a b = x % y := by
    have : a % b = gc a b * (x % y) := by
      have t := Int.mul_emod_mul_of_pos x y g0
      rw [← hx, ← hy] at t
      exact t
    rw [this, Int.mul_ediv_cancel_left _ (by omega)]
  rw [e, T1_mod y0]
theorem TT_zero {b : Int} (hb : 0 < b) : TT 0 b = 0 := by
  have e : gc 0 b = b := by
    unfold gc
    rw [Int.gcd_zero_left]
    omega
  unfold TT
  rw [e, Int.zero_ediv, Int.ediv_self (by omega), T1_zero, Int.mul_zero]
theorem T1_rec {p q : Int} (hp : 0 < p) (hpq : p < q) (hg : gc p q = 1) : p * T1 p q + q * T1 q p = p * p + q * q + 1 - 3 * (p * q) := by
  obtain ⟨m, rfl⟩ : ∃ m : Nat, p = m := ⟨p.toNat, by omega⟩
  obtain ⟨n, rfl⟩ : ∃ n : Nat, q = n := ⟨q.toNat, by omega⟩
  exact T1_recip (by omega) (by omega) (by unfold gc at hg; have : Int.gcd (m : Int) (n : Int) = 1 := by omega
                                           exact this)
theorem TT_rec {l u : Int} (hl : 0 < l) (hlu : l < u) : l * TT l u + u * TT u l = l * l + u * u + gc l u * gc l u - 3 * (l * u) := by
  obtain ⟨x, y, hx, hy, y0, ex, ey, h1⟩ := gc_parts (a := l) (b := u) (by omega)
  have g0 := gc_pos (a := l) (b := u) (by omega)
  have e1 : TT l u = gc l u * T1 x y := by
    unfold TT
    rw [ex, ey]
  have e2 : TT u l = gc l u * T1 y x := by
    unfold TT
    rw [gc_comm, ex, ey]
  rw [e1, e2]
  generalize hg : gc l u = g at *
  subst hx
  subst hy
  have x0 : 0 < x := by
    rcases Int.lt_or_le 0 x with z | z
    · exact z
    · have := Int.mul_le_mul_of_nonneg_left z (show 0 ≤ g by omega)
      omega
  have xy : x < y := by
    rcases Int.lt_or_le x y with z | z
    · exact z
    · have := Int.mul_le_mul_of_nonneg_left z (show 0 ≤ g by omega)
      omega
  have r := T1_rec x0 xy h1
  clear hlu hl y0 x0 xy h1 ex ey e1 e2 hg
  grind
def Fd (l u : Int) : Int := TT l u - l
/-- two of Euclid's steps -/
theorem F_two {u l : Int} (hl : 0 < l) (hlu : l < u) (hu : 0 < u % l) : Fd l u * (u % l) = (u / l - l / (u % l)) * u * (u % l) + u * Fd (l % (u % l)) (u % l) - (u / l) * (gc l u * gc l u) := by
  have r1 := TT_rec hl hlu
  have r2 := TT_rec hu (Int.emod_lt_of_pos u hl)
  have g2 : gc (u % l) l = gc l u := by rw [gc_mod, gc_comm]
  rw [g2, TT_mod hl] at r2
  have m1 : TT l (u % l) = TT (l % (u % l)) (u % l) := (TT_mod hu).symm
  rw [m1] at r2
  have d1 := Int.mul_ediv_add_emod u l
  have d2 := Int.mul_ediv_add_emod l (u % l)
  unfold Fd
  generalize TT l u = X at *
  generalize TT u l = Y at *
  generalize TT (l % (u % l)) (u % l) = Z at *
  generalize gc l u = g at *
  generalize l % (u % l) = l' at *
  generalize l / (u % l) = j at *
  generalize u % l = u' at *
  generalize u / l = k at *
  clear g2 m1 hlu hu
  have : l * ((X - l) * u') = l * ((k - j) * u * u' + u * (Z - l') - k * (g * g)) := by grind
  exact Int.eq_of_mul_eq_mul_left (by omega) this
def fo : List Int → Int × Int → Int × Int
  | [], s => s
  | q :: qs, s => fo qs (s.2, q * s.2 + s.1)
def alts : List Int → Int
  | [] => 0
  | q :: qs => q - alts qs
/-- what the steps keep -/
structure StI (A B g alt bef las u l : Int) : Prop where
  hF : Fd A B * u = alt * B * u + B * Fd l u - bef * (g * g)
  hB : B = las * u + bef * l
  hg : gc l u = g
  l0 : 0 ≤ l
  lu : l < u
  b0 : 0 ≤ bef
  s0 : 0 < las
  bs : bef ≤ las
  a0 : -las ≤ alt
  a1 : alt ≤ bef
  d1 : B ∣ (l - las * A)
  d2 : B ∣ (u + bef * A)
  xr : alts (quos B A) = alt + alts (quos u l) ∧ fo (quos B A) (0, 1) = fo (quos u l) (bef, las) ∧ (quos B A).length % 2 = (quos u l).length % 2
theorem StI.start {A B : Int} (h0 : 0 ≤ A) (h1 : A < B) : StI A B (gc A B) 0 0 1 B A :=
  ⟨by simp [Int.zero_mul]; grind, by omega, rfl, h0, h1, by omega, by omega, by omega, by omega, by omega, ⟨0, by omega⟩, ⟨1, by omega⟩, (Int.zero_add _).symm, rfl, rfl⟩
theorem StI.las_le {A B g alt bef las u l : Int} (h : StI A B g alt bef las u l) : las ≤ B ∧ u ≤ B := by
  have := h.hB
  have h1 := Int.mul_nonneg h.b0 h.l0
  have h2 := mul_ge (x := u) (y := las) (by have := h.l0; have := h.lu; omega) (by have := h.s0; omega)
  have h3 := mul_ge (x := las) (y := u) (by have := h.s0; omega) (by have := h.l0; have := h.lu; omega)
  rw [Int.mul_comm] at h2
  omega
theorem go_F {X Y Z B alt bef las u l g k j u' : Int} (hF : X * u = alt * B * u + B * Y - bef * (g * g)) (hB : B = las * u + bef * l) (e1 : l * k + u' = u) (F : Y * u' = (k - j) * u * u' + u * Z - k * (g * g)) :
    u * (X * u') = u * ((alt + k - j) * B * u' + B * Z - (bef + k * las) * (g * g)) := by
  have a3 : B * k + bef * u' = (bef + k * las) * u := by
    clear hF F
    subst hB
    subst e1
    grind
  calc u * (X * u') = u' * (X * u) := by clear hF hB e1 F a3; grind
    _ = u' * (alt * B * u + B * Y - bef * (g * g)) := by rw [hF]
    _ = alt * B * u * u' + B * (Y * u') - bef * (g * g) * u' := by clear hF hB e1 F a3; grind
    _ = alt * B * u * u' + B * ((k - j) * u * u' + u * Z - k * (g * g)) - bef * (g * g) * u' := by rw [F]
    _ = u * ((alt + k - j) * B * u') + u * (B * Z) - (g * g) * (B * k + bef * u') := by clear hF hB e1 F a3; grind
    _ = u * ((alt + k - j) * B * u') + u * (B * Z) - (g * g) * ((bef + k * las) * u) := by rw [a3]
    _ = u * ((alt + k - j) * B * u' + B * Z - (bef + k * las) * (g * g)) := by clear hF hB e1 F a3; grind
theorem go_B {B bef las u l k j u' l' : Int} (hB : B = las * u + bef * l) (e1 : l * k + u' = u) (e2 : u' * j + l' = l) : B = (las + j * (bef + k * las)) * u' + (bef + k * las) * l' := by
  subst e1
  subst e2
  rw [hB]
  clear hB
  grind
theorem go_l {A B bef las u l k j u' l' x y : Int} (hx : l - las * A = B * x) (hy : u + bef * A = B * y) (e1 : l * k + u' = u) (e2 : u' * j + l' = l) : l' - (las + j * (bef + k * las)) * A = B * (x - j * (y - k * x)) := by
  have : B * (x - j * (y - k * x)) = B * x - j * (B * y - k * (B * x)) := by grind
  rw [this, ← hx, ← hy]
  clear this hx hy
  subst e1
  have : l' = l - u' * j := by omega
  rw [this]
  clear this e2
  grind
theorem go_u {A B bef las u l k u' x y : Int} (hx : l - las * A = B * x) (hy : u + bef * A = B * y) (e1 : l * k + u' = u) : u' + (bef + k * las) * A = B * (y - k * x) := by
  have : B * (y - k * x) = B * y - k * (B * x) := by grind
  rw [this, ← hx, ← hy]
  clear this hx hy
  subst e1
  grind
theorem StI.go {A B g alt bef las u l : Int} (h : StI A B g alt bef las u l) (hl : 0 < l) (hu : 0 < u % l) :
    StI A B g (alt + u / l - l / (u % l)) (bef + u / l * las) (las + l / (u % l) * (bef + u / l * las)) (u % l) (l % (u % l)) := by
  obtain ⟨hF, hB, hg, l0, lu, b0, s0, bs, a0, a1, d1, d2, x1, x2, x3⟩ := h
  have y1 : alts (quos u l) = u / l - (l / (u % l) - alts (quos (u % l) (l % (u % l)))) := by rw [quos_pos hl, quos_pos hu]; rfl
  have y2 : fo (quos u l) (bef, las) = fo (quos (u % l) (l % (u % l))) (bef + u / l * las, las + l / (u % l) * (bef + u / l * las)) := by
    rw [quos_pos hl, quos_pos hu]
    show fo _ (u / l * las + bef, l / (u % l) * (u / l * las + bef) + las) = _
    rw [Int.add_comm (u / l * las) bef, Int.add_comm _ las]
  have y3 : (quos u l).length = (quos (u % l) (l % (u % l))).length + 1 + 1 := by rw [quos_pos hl, quos_pos hu]; rfl
  have xr : alts (quos B A) = (alt + u / l - l / (u % l)) + alts (quos (u % l) (l % (u % l))) ∧ fo (quos B A) (0, 1) = fo (quos (u % l) (l % (u % l))) (bef + u / l * las, las + l / (u % l) * (bef + u / l * las)) ∧ (quos B A).length % 2 = (quos (u % l) (l % (u % l))).length % 2 := ⟨by omega, x2.trans y2, by omega⟩
  clear x1 x2 x3 y1 y2 y3
  have F := F_two hl lu hu
  rw [hg] at F
  have g3 : gc (l % (u % l)) (u % l) = g := by rw [gc_mod, gc_comm, gc_mod, gc_comm, hg]
  have e1 := Int.mul_ediv_add_emod u l
  have e2 := Int.mul_ediv_add_emod l (u % l)
  have n0 := Int.emod_nonneg l (show u % l ≠ 0 by omega)
  have n1 := Int.emod_lt_of_pos l hu
  have k0 : 1 ≤ u / l := Int.le_ediv_of_mul_le (by omega) (by omega)
  have ml := Int.emod_lt_of_pos u hl
  have j0 : 1 ≤ l / (u % l) := Int.le_ediv_of_mul_le (by omega) (by omega)
  generalize l % (u % l) = l' at *
  generalize l / (u % l) = j at *
  generalize u % l = u' at *
  generalize u / l = k at *
  have p1 := mul_ge k0 (show 0 ≤ las by omega)
  have q1 : 0 ≤ bef + k * las := by omega
  have p2 := mul_ge j0 q1
  have p3 : k ≤ k * las := by
    have := mul_ge (x := las) (y := k) (by omega) (by omega)
    rw [Int.mul_comm] at this
    exact this
  have p4 : j ≤ j * (bef + k * las) := by
    have := mul_ge (x := bef + k * las) (y := j) (by omega) (by omega)
    rw [Int.mul_comm] at this
    exact this
  have hu0 : u ≠ 0 := by omega
  refine ⟨?_, ?_, g3, n0, n1, q1, by omega, by omega, by omega, by omega, ?_, ?_, xr⟩
  · exact Int.eq_of_mul_eq_mul_left hu0 (go_F hF hB e1 F)
  · exact go_B hB e1 e2
  · obtain ⟨x, hx⟩ := d1
    obtain ⟨y, hy⟩ := d2
    exact ⟨x - j * (y - k * x), go_l hx hy e1 e2⟩
  · obtain ⟨x, hx⟩ := d1
    obtain ⟨y, hy⟩ := d2
    exact ⟨y - k * x, go_u hx hy e1⟩
/-- what the steps tell -/
structure StO (A B m f c t : Int) : Prop where
  hT : (m + t) * B + A + f * c = TT A B
  hc : gc A B = c
  hd : B ∣ (c - f * A)
  f0 : -B ≤ f
  f1 : f ≤ B
  m0 : -B ≤ m
  m1 : m ≤ 2 * B
  t0 : t = -3 ∨ t = 0
  xo : m = alts (quos B A) ∧ (((quos B A).length % 2 = 0 ∧ f = -(fo (quos B A) (0, 1)).1 ∧ t = 0) ∨ ((quos B A).length % 2 = 1 ∧ f = (fo (quos B A) (0, 1)).1 ∧ t = -3))
theorem TT_unit {l k : Int} (hl : 0 < l) (hk : 1 < k) : TT l (l * k) = l * (k * k - 3 * k + 2) := by
  have r := TT_rec (l := l) (u := l * k) hl (by have := Int.mul_lt_mul_of_pos_left hk hl; omega)
  have g : gc l (l * k) = l := by
    unfold gc
    have : Int.gcd (l * 1) (l * k) = l.natAbs * Int.gcd 1 k := Int.gcd_mul_left ..
    rw [Int.mul_one, Int.gcd_one_left] at this
    rw [this]
    omega
  have z : TT (l * k) l = 0 := by
    rw [← TT_mod hl, Int.mul_emod_right, TT_zero hl]
  rw [g, z] at r
  have : l * TT l (l * k) = l * (l * (k * k - 3 * k + 2)) := by grind
  exact Int.eq_of_mul_eq_mul_left (by omega) this
theorem StI.endA {A B g alt bef las u l : Int} (h : StI A B g alt bef las u l) (hc : gc A B = g) (hl : 0 < l) (hu : u % l = 0) : StO A B (alt + u / l) las l (-3) := by
  have lb := h.las_le
  obtain ⟨hF, hB, hg, l0, lu, b0, s0, bs, a0, a1, d1, d2, x1, x2, x3⟩ := h
  have xo : alt + u / l = alts (quos B A) ∧ (((quos B A).length % 2 = 0 ∧ las = -(fo (quos B A) (0, 1)).1 ∧ (-3 : Int) = 0) ∨ ((quos B A).length % 2 = 1 ∧ las = (fo (quos B A) (0, 1)).1 ∧ (-3 : Int) = -3)) := by
    rw [quos_pos hl, hu, quos_nil (a := l) (b := 0) (by decide)] at x1 x2 x3
    rw [x1, x2, x3]
    exact ⟨by simp only [alts]; omega, .inr ⟨rfl, rfl, rfl⟩⟩
  clear x1 x2 x3
  have e1 := Int.mul_ediv_add_emod u l
  rw [hu, Int.add_zero] at e1
  have k1 : 1 < u / l := by
    rcases Int.lt_or_le 1 (u / l) with z | z
    · exact z
    · have := Int.mul_le_mul_of_nonneg_left z (show 0 ≤ l by omega)
      omega
  have gl : g = l := by
    rw [← hg]
    have := gc_mod (a := u) (b := l)
    rw [hu] at this
    rw [gc_comm, ← this]
    unfold gc
    rw [Int.gcd_zero_left]
    omega
  have ku : u / l ≤ u := by
    have := mul_ge (x := l) (y := u / l) (by omega) (by omega)
    omega
  have tu : Fd l u = l * (u / l * (u / l) - 3 * (u / l) + 2) - l := by
    unfold Fd
    rw [← TT_unit hl k1, e1]
  rw [tu] at hF
  subst gl
  generalize u / g = k at *
  have hTd : TT A B = Fd A B + A := by unfold Fd; omega
  refine ⟨?_, hc, d1, by omega, by omega, by omega, by omega, .inl rfl, xo⟩
  rw [hTd]
  generalize Fd A B = X at *
  have hu0 : u ≠ 0 := by omega
  have : u * X = u * ((alt + k - 3) * B + las * g) := by
    clear lb b0 s0 bs a0 a1 d1 d2 k1 ku hu0 hTd tu hg hc l0 lu hl hu
    grind
  have := Int.eq_of_mul_eq_mul_left hu0 this
  rw [this]
  grind
theorem StI.endB {A B g alt bef las u : Int} (h : StI A B g alt bef las u 0) (hc : gc A B = g) : StO A B alt (-bef) u 0 := by
  have lb := h.las_le
  obtain ⟨hF, hB, hg, l0, lu, b0, s0, bs, a0, a1, d1, d2, x1, x2, x3⟩ := h
  have xo : alt = alts (quos B A) ∧ (((quos B A).length % 2 = 0 ∧ -bef = -(fo (quos B A) (0, 1)).1 ∧ (0 : Int) = 0) ∨ ((quos B A).length % 2 = 1 ∧ -bef = (fo (quos B A) (0, 1)).1 ∧ (0 : Int) = -3)) := by
    rw [quos_nil (a := u) (b := 0) (by decide)] at x1 x2 x3
    rw [x1, x2, x3]
    exact ⟨by simp only [alts]; omega, .inl ⟨rfl, rfl, rfl⟩⟩
  clear x1 x2 x3
  have gu : g = u := by
    rw [← hg]
    unfold gc
    rw [Int.gcd_zero_left]
    omega
  have fz : Fd 0 u = 0 := by
    unfold Fd
    rw [TT_zero lu]
    rfl
  rw [fz] at hF
  subst gu
  have hTd : TT A B = Fd A B + A := by unfold Fd; omega
  refine ⟨?_, hc, ?_, by omega, by omega, by omega, by omega, .inr rfl, xo⟩
  · rw [hTd]
    generalize Fd A B = X at *
    have : g * X = g * (alt * B - bef * g) := by grind
    have := Int.eq_of_mul_eq_mul_left (by omega) this
    rw [this]
    grind
  · obtain ⟨y, hy⟩ := d2
    exact ⟨y, by rw [← hy]; grind⟩
end Tm

namespace Tm
/-! Euclid's steps with packed remainders. -/
theorem sti_ex {A B g : Int} (hc : gc A B = g) : ∀ (n : Nat) {alt bef las u l : Int}, l.toNat ≤ n → StI A B g alt bef las u l → ∃ m f c t, StO A B m f c t := by
  intro n
  induction n with
  | zero =>
    intro alt bef las u l hn S
    have l0 := S.l0
    have z : l = 0 := by omega
    subst z
    exact ⟨_, _, _, _, S.endB hc⟩
  | succ n ih =>
    intro alt bef las u l hn S
    have l0 := S.l0
    rcases Int.lt_or_eq_of_le l0 with hl | z
    · have hu0 := Int.emod_nonneg u (show l ≠ 0 by omega)
      rcases Int.lt_or_eq_of_le hu0 with hu | hu
      · have lt := Int.emod_lt_of_pos l hu
        have lt2 := Int.emod_lt_of_pos u hl
        exact ih (by omega) (S.go hl hu)
      · exact ⟨_, _, _, _, S.endA hc hl hu.symm⟩
    · subst z
      exact ⟨_, _, _, _, S.endB hc⟩
theorem sto_ex {A B : Int} (h0 : 0 ≤ A) (h1 : A < B) : ∃ m f c t, StO A B m f c t := sti_ex rfl A.toNat (Nat.le_refl _) (StI.start h0 h1)
def Pk (A B Bt g alt U L : Int) : Prop := ∃ u l s0 s1 : Int, U = u * Bt - s0 ∧ L = l * Bt + s1 ∧ StI A B g alt s0 s1 u l
structure PkE (A B Bt g alt U L : Int) : Prop where
  w0 : U ≤ g * Bt
  w1 : g * Bt ≤ U + B
  L0 : 0 < L
  LB : L ≤ B
  g0 : 0 < g
  gB : g ≤ B
  LG : L * g = B
  hT : alt * B + A + (U - g * Bt) * g = TT A B
  a0 : -B ≤ alt
  a1 : alt ≤ B
theorem dm {x y q r : Int} (h : x = r + q * y) (h0 : 0 ≤ r) (h1 : r < y) : x / y = q ∧ x % y = r := by
  subst h
  refine ⟨?_, ?_⟩
  · rw [Int.add_mul_ediv_right _ _ (by omega), Int.ediv_eq_zero_of_lt h0 h1, Int.zero_add]
  · rw [Int.add_mul_emod_self_right, Int.emod_eq_of_lt h0 h1]
theorem pk_start {A B Bt : Int} (h0 : 0 ≤ A) (h1 : A < B) : Pk A B Bt (gc A B) 0 (B * Bt) (A * Bt + 1) := ⟨B, A, 0, 1, by omega, rfl, StI.start h0 h1⟩
theorem pk_e {TA alt k s0 s1 g A B Y : Int} (hF : (TA - A) * (k * g) = alt * B * (k * g) + B * Y - s0 * (g * g)) (hB : B = s1 * (k * g) + s0 * g) (hY : Y = g * (k * k - 3 * k + 2) - g) (n0 : k * g ≠ 0) :
    (alt + (k - 1) - 1) * B + A + (s1 - (s0 + k * s1)) * g = TA := by
  have : (k * g) * ((alt + (k - 1) - 1) * B + A + (s1 - (s0 + k * s1)) * g) = (k * g) * TA := by
    have e : (k * g) * TA = (alt * B * (k * g) + B * Y - s0 * (g * g)) + (k * g) * A := by
      rw [← hF]
      clear hF hB hY n0
      grind
    rw [e, hY]
    clear e hF hY n0
    subst hB
    grind
  exact Int.eq_of_mul_eq_mul_left n0 this
theorem pk_go {A B Bt g alt U L : Int} (hB : 4 * B < Bt) (h : Pk A B Bt g alt U L) (hl : 2 * Bt ≤ L) (hg : gc A B = g) :
    0 < U % L ∧ 0 ≤ L % (U % L) ∧ L % (U % L) < L ∧ (Pk A B Bt g (alt + U / L - L / (U % L)) (U % L) (L % (U % L)) ∨ PkE A B Bt g (alt + U / L - L / (U % L)) (U % L) (L % (U % L))) := by
  obtain ⟨u, l, s0, s1, rfl, rfl, S⟩ := h
  have sl := S.las_le
  have sb := S.bs
  have sp := S.s0
  have sn := S.b0
  have l1 : 1 ≤ l := by
    rcases Int.lt_or_le l 1 with z | z
    · have := Int.mul_le_mul_of_nonneg_right (show l ≤ 0 by omega) (show 0 ≤ Bt by omega)
      omega
    · exact z
  have lu := S.lu
  have e0 := Int.mul_ediv_add_emod u l
  have m0 := Int.emod_nonneg u (show l ≠ 0 by omega)
  have m1 := Int.emod_lt_of_pos u (show 0 < l by omega)
  have k0 : 1 ≤ u / l := Int.le_ediv_of_mul_le (by omega) (by omega)
  have LB : Bt ≤ l * Bt := mul_ge l1 (by omega)
  rcases Int.lt_or_le 0 (u % l) with z | z
  · have S2 := S.go (by omega) z
    have sl2 := S2.las_le
    have sb2 := S2.bs
    have sp2 := S2.s0
    have sn2 := S2.b0
    have f0 := Int.mul_ediv_add_emod l (u % l)
    have n0 := Int.emod_nonneg l (show u % l ≠ 0 by omega)
    have n1 := Int.emod_lt_of_pos l z
    generalize hk : u / l = k at *
    generalize hj : l / (u % l) = j at *
    generalize hl3 : l % (u % l) = l' at *
    generalize hu3 : u % l = u' at *
    have h1 := mul_ge (x := u') (y := Bt) (by omega) (by omega)
    have h2 : u' * Bt + Bt ≤ l * Bt := by
      have := Int.mul_le_mul_of_nonneg_right (show u' + 1 ≤ l by omega) (show 0 ≤ Bt by omega)
      rw [Int.add_mul, Int.one_mul] at this
      exact this
    have eU : u * Bt - s0 = (u' * Bt - (s0 + k * s1)) + k * (l * Bt + s1) := by
      rw [← e0]
      clear S S2 hk hj hl3 hu3 h1 h2 f0
      grind
    have dU := dm eU (by omega) (by omega)
    rw [dU.1, dU.2]
    have h3 := Int.mul_nonneg n0 (show 0 ≤ Bt by omega)
    have h4 : l' * Bt + Bt ≤ u' * Bt := by
      have := Int.mul_le_mul_of_nonneg_right (show l' + 1 ≤ u' by omega) (show 0 ≤ Bt by omega)
      rw [Int.add_mul, Int.one_mul] at this
      exact this
    have eL : l * Bt + s1 = (l' * Bt + (s1 + j * (s0 + k * s1))) + j * (u' * Bt - (s0 + k * s1)) := by
      conv => lhs; rw [← f0]
      clear S S2 hk hj hl3 hu3 h1 h2 f0 eU dU
      grind
    have dL := dm eL (by omega) (by omega)
    rw [dL.1, dL.2]
    exact ⟨by omega, by omega, by omega, .inl ⟨u', l', _, _, rfl, rfl, S2⟩⟩
  · have z : u % l = 0 := by omega
    rw [z, Int.add_zero] at e0
    have gl : g = l := by
      have h1 := S.hg
      have := gc_mod (a := u) (b := l)
      rw [z] at this
      rw [← h1, gc_comm, ← this]
      unfold gc
      rw [Int.gcd_zero_left]
      omega
    have k1 : 1 < u / l := by
      rcases Int.lt_or_le 1 (u / l) with z | z
      · exact z
      · have := Int.mul_le_mul_of_nonneg_left z (show 0 ≤ l by omega)
        omega
    have tu : Fd l u = l * (u / l * (u / l) - 3 * (u / l) + 2) - l := by
      unfold Fd
      rw [← TT_unit (by omega) k1, e0]
    have hF := S.hF
    have hBB := S.hB
    have aa0 := S.a0
    have aa1 := S.a1
    generalize Fd l u = Y at *
    generalize hk : u / l = k at *
    subst gl
    have tB : (s0 + k * s1) * g = B := by
      rw [hBB, ← e0]
      clear hF hBB tu S hk
      grind
    have t0 : 0 < s0 + k * s1 := by
      have := mul_ge k0 (show 0 ≤ s1 by omega)
      omega
    have t1 : s0 + k * s1 ≤ B := by
      have := mul_ge (x := g) (y := s0 + k * s1) (by omega) (by omega)
      rw [Int.mul_comm g] at this
      omega
    have k2 : s1 ≤ (k - 1) * s1 := mul_ge (by omega) (by omega)
    have k3 : (k - 1) * s1 = k * s1 - s1 := by rw [Int.sub_mul, Int.one_mul]
    have eU : u * Bt - s0 = (g * Bt + s1 - (s0 + k * s1)) + (k - 1) * (g * Bt + s1) := by
      rw [← e0]
      clear hF hBB tu S hk tB
      grind
    have dU := dm eU (by omega) (by omega)
    rw [dU.1, dU.2]
    have eL : g * Bt + s1 = (s0 + k * s1) + 1 * (g * Bt + s1 - (s0 + k * s1)) := by omega
    have dL := dm eL (by omega) (by omega)
    rw [dL.1, dL.2]
    have hT : (alt + (k - 1) - 1) * B + A + (s1 - (s0 + k * s1)) * g = TT A B := by
      refine pk_e (Y := Y) ?_ ?_ tu (by rw [Int.mul_comm, e0]; omega)
      · rw [Int.mul_comm k g, e0]
        exact hF
      · rw [Int.mul_comm k g, e0]
        exact hBB
    have kB : k * s1 ≤ B := by omega
    have kk : k ≤ k * s1 := by
      have := mul_ge (x := s1) (y := k) (by omega) (by omega)
      rw [Int.mul_comm] at this
      exact this
    have gB : g ≤ B := by
      have := mul_ge (x := s0 + k * s1) (y := g) (by omega) (by omega)
      omega
    refine ⟨by omega, by omega, by omega, .inr ⟨by omega, by omega, t0, t1, by omega, gB, tB, ?_, by omega, by omega⟩⟩
    have : g * Bt + s1 - (s0 + k * s1) - g * Bt = s1 - (s0 + k * s1) := by omega
    rw [this]
    exact hT
theorem pk_final {TA TL alt m t f x c s0 s1 u l A B Bt : Int} (hF : (TA - A) * u = alt * B * u + B * (TL - l) - s0 * (c * c)) (hB : B = s1 * u + s0 * l) (hT : (m + t) * u + l + f * c = TL) (hx : c - f * l = u * x) (n0 : u ≠ 0) :
    (alt + m + t) * B + A + (x * (u * Bt - s0) + f * (l * Bt + s1) - c * Bt) * c = TA := by
  have e1 : x * (u * Bt - s0) + f * (l * Bt + s1) - c * Bt = f * s1 - x * s0 := by
    have : c = u * x + f * l := by omega
    rw [this]
    clear this hF hB hT hx n0
    grind
  rw [e1]
  have : u * ((alt + m + t) * B + A + (f * s1 - x * s0) * c) = u * TA := by
    have e : u * TA = (alt * B * u + B * (TL - l) - s0 * (c * c)) + u * A := by
      rw [← hF]
      clear hF hB hT hx n0 e1
      grind
    rw [e, ← hT]
    have e3 : u * (x * s0) = s0 * (c - f * l) := by
      rw [hx]
      clear hF hB hT hx n0 e1 e
      grind
    have e4 : u * ((alt + m + t) * B + A + (f * s1 - x * s0) * c) = (alt + m + t) * B * u + u * A + (f * (s1 * u) - u * (x * s0)) * c := by
      clear hF hB hT hx n0 e1 e e3
      grind
    rw [e4, e3]
    have e5 : s1 * u = B - s0 * l := by omega
    rw [e5]
    clear hF hB hT hx n0 e1 e e3 e4 e5
    grind
  exact Int.eq_of_mul_eq_mul_left n0 this
theorem pk_fin {A B Bt g alt U L : Int} (hB : 4 * B < Bt) (hg : gc A B = g) (h : Pk A B Bt g alt U L ∨ PkE A B Bt g alt U L) :
    ∃ u l : Int, -((-U) / Bt) = u ∧ L / Bt = l ∧ 0 ≤ l ∧ l < u ∧ u ≤ B ∧ -B ≤ alt ∧ alt ≤ B ∧ 0 ≤ L ∧ 0 ≤ U ∧ U ≤ B * Bt ∧ L ≤ B * Bt ∧ ∀ m f c t, StO l u m f c t → (alt + m + t) * B + A + ((c - f * l) / u * U + f * L - c * Bt) * c = TT A B := by
  rcases h with ⟨u, l, s0, s1, rfl, rfl, S⟩ | ⟨w0, w1, L0, LB, g0, gB, LG, hT, a0, a1⟩
  · have sl := S.las_le
    have sb := S.bs
    have sp := S.s0
    have sn := S.b0
    have l0 := S.l0
    have lu := S.lu
    have aa0 := S.a0
    have aa1 := S.a1
    have d1 := dm (x := -(u * Bt - s0)) (y := Bt) (q := -u) (r := s0) (by rw [Int.neg_mul]; omega) (by omega) (by omega)
    have d2 := dm (x := l * Bt + s1) (y := Bt) (q := l) (r := s1) (by omega) (by omega) (by omega)
    have h1 := Int.mul_nonneg l0 (show 0 ≤ Bt by omega)
    have h2 := mul_ge (x := u) (y := Bt) (by omega) (by omega)
    have h3 : u * Bt ≤ B * Bt := Int.mul_le_mul_of_nonneg_right sl.2 (by omega)
    have h4 : l * Bt + Bt ≤ u * Bt := by
      have := Int.mul_le_mul_of_nonneg_right (show l + 1 ≤ u by omega) (show 0 ≤ Bt by omega)
      rw [Int.add_mul, Int.one_mul] at this
      exact this
    refine ⟨u, l, by omega, d2.1, l0, lu, sl.2, by omega, by omega, by omega, by omega, by omega, by omega, ?_⟩
    intro m f c t O
    have cg : c = g := by rw [← O.hc, S.hg]
    subst cg
    obtain ⟨x, hx⟩ := O.hd
    have ex : (c - f * l) / u = x := by rw [hx, Int.mul_ediv_cancel_left _ (by omega)]
    rw [ex]
    have hF := S.hF
    unfold Fd at hF
    exact pk_final hF S.hB O.hT hx (by omega)
  · have d1 := dm (x := -U) (y := Bt) (q := -g) (r := g * Bt - U) (by rw [Int.neg_mul]; omega) (by omega) (by omega)
    have d2 := dm (x := L) (y := Bt) (q := 0) (r := L) (by omega) (by omega) (by omega)
    have h2 := mul_ge (x := g) (y := Bt) (by omega) (by omega)
    have h3 : g * Bt ≤ B * Bt := Int.mul_le_mul_of_nonneg_right gB (by omega)
    refine ⟨g, 0, by omega, d2.1, by omega, g0, gB, a0, a1, by omega, by omega, by omega, by omega, ?_⟩
    intro m f c t O
    have cg : c = g := by
      rw [← O.hc]
      unfold gc
      rw [Int.gcd_zero_left]
      omega
    subst cg
    have o := O.hT
    rw [TT_zero g0, Int.add_zero] at o
    have mt : m + t = -f := by
      have : c * (m + t) = c * (-f) := by
        rw [Int.mul_neg, Int.mul_comm c, Int.mul_comm c]
        omega
      exact Int.eq_of_mul_eq_mul_left (by omega) this
    rw [Int.mul_zero, Int.sub_zero, Int.ediv_self (by omega), Int.one_mul]
    have e : alt + m + t = alt + -f := by omega
    rw [e, ← hT]
    have e2 : f * B = f * L * c := by rw [← LG, Int.mul_assoc]
    rw [Int.add_mul, Int.neg_mul, e2]
    clear hT o mt e e2 O
    grind
end Tm

namespace Tm
/-! The sum of a coprime pair by its teeth. -/
theorem inv_int {a : Int} {n : Nat} (hn : 0 < n) (hg : gc a n = 1) : ∃ v : Int, (a * v) % (n : Int) = 1 % (n : Int) := by
  obtain ⟨v, _, _, h⟩ := inv_ex (a := a) (b := n) (by omega) (by unfold gc at hg; have : Int.gcd a (n : Int) = 1 := by omega
                                                                 exact this)
  exact ⟨v, (Int.emod_eq_emod_iff_emod_sub_eq_zero.mpr (Int.emod_eq_zero_of_dvd h))⟩
theorem cop_rest {a b k : Int} (hb : 0 < b) (hg : gc a b = 1) (k0 : 0 < k) (k1 : k < b) : (a * k) % b ≠ 0 := by
  intro z
  obtain ⟨v, _, _, x, hx⟩ := inv_ex (a := a) (b := b) hb (by unfold gc at hg; have : Int.gcd a b = 1 := by omega
                                                             exact this)
  obtain ⟨y, hy⟩ := Int.dvd_of_emod_eq_zero z
  have : k = b * (y * v - x * k) := by
    have e1 : b * (y * v - x * k) = (b * y) * v - (b * x) * k := by grind
    rw [e1, ← hy, ← hx]
    grind
  have d : b ∣ k := ⟨_, this⟩
  have := Int.le_of_dvd k0 d
  omega
theorem rs_half {a : Int} {n : Nat} (hn : 0 < n) (hg : gc a n = 1) : sm (rs a 0 n) n = half n := by
  obtain ⟨v, hv⟩ := inv_int hn hg
  have cast : ∀ i : Nat, (((a * (i : Int) + 0) % (n : Int)).toNat : Int) = rs a 0 n i := fun i => by
    have := Int.emod_nonneg (a * (i : Int) + 0) (show (n : Int) ≠ 0 by omega)
    unfold rs
    omega
  have h2 := perm_sum (a := a) (c := 0) (v := v) (k := n) hn hv (fun j => (j : Int))
  simp only [cast] at h2
  exact h2.trans (half_sm n)
theorem S0_cop {a : Int} {n : Nat} (hn : 0 < n) (hg : gc a n = 1) : 2 * S0 n a 0 n = (a - 1) * ((n : Int) - 1) := by
  have h := rs_half hn hg
  rw [rs_sum] at h
  have t := two_half n
  have n0 : (n : Int) ≠ 0 := by omega
  have : (n : Int) * (2 * S0 n a 0 n) = n * ((a - 1) * ((n : Int) - 1)) := by
    have e : (n : Int) * ((a - 1) * ((n : Int) - 1)) = (a - 1) * ((n : Int) * ((n : Int) - 1)) := by grind
    rw [e, ← t]
    rw [Int.zero_mul, Int.add_zero] at h
    grind
  exact Int.eq_of_mul_eq_mul_left n0 this
theorem sm_krs (a : Int) (m : Int) (n : Nat) : sm (fun i => (i : Int) * rs a 0 m i) n = a * sixth n - m * S1 n a 0 m := by
  have e : ∀ i, i < n → (i : Int) * rs a 0 m i = a * ((i : Int) * i) - m * ((i : Int) * fl a 0 m i) := fun i _ => by
    rw [rs_fl]
    grind
  rw [sm_congr n e, sm_sub, sm_mul, sm_mul, sixth_sm]
  rfl
end Tm

namespace Tm
/-! Points of triangles. -/
/-- points with a x + b y at most n -/
def Tri (a b n : Int) : Int := if n < 0 then 0 else (n / b + 1) + S0 (n / b + 1).toNat b (n % b) a
theorem PT_neg {a b n : Int} (h : n < 0) : Tri a b n = 0 := if_pos h
/-- row by row -/
theorem PT_rows {a b n : Int} (ha : 0 < a) (hb : 0 < b) (hn : 0 ≤ n) : Tri a b n = sm (fun y => (n - b * (y : Int)) / a + 1) (n / b + 1).toNat := by
  unfold Tri
  rw [if_neg (by omega)]
  have q0 : 0 ≤ n / b := Int.ediv_nonneg hn (by omega)
  obtain ⟨k, hk⟩ : ∃ k : Nat, n / b = k := ⟨(n / b).toNat, by omega⟩
  have e := Int.mul_ediv_add_emod n b
  rw [hk] at e ⊢
  have ek : ((k : Int) + 1).toNat = k + 1 := by omega
  rw [ek, sm_add, sm_const]
  unfold S0
  rw [← sm_rev]
  have c : ∀ i, i < k + 1 → fl b (n % b) a (k + 1 - 1 - i) = (n - b * (i : Int)) / a := fun i hi => by
    unfold fl
    congr 1
    have : ((k + 1 - 1 - i : Nat) : Int) = (k : Int) - i := by omega
    rw [this, Int.mul_sub]
    omega
  rw [sm_congr _ c]
  omega
/-- the count over a box -/
def CT (a b n : Int) (N : Nat) : Int := sm (fun y => sm (fun x => ind (decide (a * (x : Int) + b * (y : Int) ≤ n))) N) N
theorem CT_swap (a b n : Int) (N : Nat) : CT a b n N = CT b a n N := by
  unfold CT
  rw [sm_swap]
  refine sm_congr _ fun y _ => sm_congr _ fun x _ => ?_
  rw [Int.add_comm]
theorem sm_ind_le {a m : Int} (ha : 0 < a) (hm : 0 ≤ m) : ∀ N : Nat, m / a + 1 ≤ N → sm (fun x => ind (decide (a * (x : Int) ≤ m))) N = m / a + 1 := by
  intro N hN
  have q0 : 0 ≤ m / a := Int.ediv_nonneg hm (by omega)
  obtain ⟨k, hk⟩ : ∃ k : Nat, m / a + 1 = k := ⟨(m / a + 1).toNat, by omega⟩
  have e : ∀ x : Nat, decide (a * (x : Int) ≤ m) = decide (x < k) := fun x => by
    have h : a * (x : Int) ≤ m ↔ (x : Int) ≤ m / a := by rw [Int.mul_comm]; exact (Int.le_ediv_iff_mul_le ha).symm
    by_cases z : x < k
    · rw [decide_eq_true z, decide_eq_true (h.mpr (by omega))]
    · rw [decide_eq_false z, decide_eq_false (fun w => z (by have := h.mp w; omega))]
  simp only [e]
  rw [sm_ind_lt, hk, show min N k = k by omega]
theorem sm_zero {f : Nat → Int} : ∀ n : Nat, (∀ i, i < n → f i = 0) → sm f n = 0 := by
  intro n h
  rw [sm_congr n h, sm_const, Int.zero_mul]
theorem PT_CT {a b n : Int} (ha : 0 < a) (hb : 0 < b) (hn : 0 ≤ n) {N : Nat} (hN : n + 1 ≤ N) : Tri a b n = CT a b n N := by
  rw [PT_rows ha hb hn]
  unfold CT
  have q0 : 0 ≤ n / b := Int.ediv_nonneg hn (by omega)
  have qn : n / b ≤ n := Int.ediv_le_self _ hn
  obtain ⟨k, hk⟩ : ∃ k : Nat, n / b + 1 = k := ⟨(n / b + 1).toNat, by omega⟩
  obtain ⟨r, rfl⟩ : ∃ r : Nat, N = k + r := ⟨N - k, by omega⟩
  rw [hk, sm_app]
  have z : sm (fun i => sm (fun x => ind (decide (a * (x : Int) + b * ((k + i : Nat) : Int) ≤ n))) (k + r)) r = 0 := sm_zero _ fun i _ => sm_zero _ fun x _ => by
    have e := Int.mul_ediv_add_emod n b
    have e2 := Int.emod_lt_of_pos n hb
    have h1 : b * (n / b + 1) ≤ b * ((k + i : Nat) : Int) := Int.mul_le_mul_of_nonneg_left (by omega) (by omega)
    have h2 := Int.mul_nonneg (show 0 ≤ a by omega) (show 0 ≤ (x : Int) by omega)
    rw [Int.mul_add, Int.mul_one] at h1
    rw [decide_eq_false (by omega)]
    rfl
  rw [z, Int.add_zero, show (k : Int).toNat = k by omega]
  refine sm_congr _ fun y hy => ?_
  have hb2 : b * (y : Int) ≤ n := by
    have := (Int.le_ediv_iff_mul_le hb (a := (y : Int)) (b := n)).mp (by omega)
    rw [Int.mul_comm]
    exact this
  have hby := Int.mul_nonneg (show 0 ≤ b by omega) (show 0 ≤ (y : Int) by omega)
  have e : ∀ x : Nat, decide (a * (x : Int) + b * (y : Int) ≤ n) = decide (a * (x : Int) ≤ n - b * (y : Int)) := fun x => by
    congr 1
    exact propext ⟨fun h => by omega, fun h => by omega⟩
  simp only [e]
  rw [sm_ind_le ha (by omega)]
  have : (n - b * (y : Int)) / a ≤ n - b * (y : Int) := Int.ediv_le_self _ (by omega)
  omega
theorem PT_swap {a b n : Int} (ha : 0 < a) (hb : 0 < b) : Tri a b n = Tri b a n := by
  rcases Int.lt_or_le n 0 with h | h
  · rw [PT_neg h, PT_neg h]
  · rw [PT_CT ha hb h (N := (n + 1).toNat) (by omega), PT_CT hb ha h (N := (n + 1).toNat) (by omega), CT_swap]
/-- without its lowest row -/
theorem PT_row {a b n : Int} (ha : 0 < a) (hb : 0 < b) (hn : 0 ≤ n) : Tri a b n = n / a + 1 + Tri a b (n - b) := by
  rw [PT_rows ha hb hn]
  have q0 : 0 ≤ n / b := Int.ediv_nonneg hn (by omega)
  have e1 : (n - b) / b = n / b - 1 := by
    have := Int.add_mul_ediv_right n (-1) (show b ≠ 0 by omega)
    rw [show n + -1 * b = n - b by omega] at this
    omega
  obtain ⟨k, hk⟩ : ∃ k : Nat, n / b = k := ⟨(n / b).toNat, by omega⟩
  rw [hk, show ((k : Int) + 1).toNat = 1 + k by omega, sm_app]
  have z : sm (fun y => (n - b * (y : Int)) / a + 1) 1 = n / a + 1 := by
    show 0 + ((n - b * ((0 : Nat) : Int)) / a + 1) = _
    rw [Int.natCast_zero, Int.mul_zero, Int.sub_zero, Int.zero_add]
  rw [z]
  congr 1
  rcases Int.lt_or_le n b with h | h
  · have : n / b = 0 := Int.ediv_eq_zero_of_lt hn h
    have k0 : k = 0 := by omega
    subst k0
    rw [PT_neg (by omega)]
    rfl
  · rw [PT_rows ha hb (by omega), e1, hk, show ((k : Int) - 1 + 1).toNat = k by omega]
    refine sm_congr _ fun y _ => ?_
    congr 2
    rw [Int.natCast_add, Int.mul_add]
    omega
/-- what one more in the limit adds -/
theorem PT_step {a b n : Int} (ha : 0 < a) (hb : 0 < b) (hn : 0 ≤ n) : Tri a b n - Tri a b (n - 1) = cnt (0 - a) n b (n / a + 1).toNat := by
  rw [PT_swap ha hb, PT_swap ha hb]
  have q0 : 0 ≤ n / a := Int.ediv_nonneg hn (by omega)
  obtain ⟨k, hk⟩ : ∃ k : Nat, n / a + 1 = k := ⟨(n / a + 1).toNat, by omega⟩
  have row : ∀ y : Nat, (n - a * (y : Int)) / b + 1 - ((n - 1 - a * (y : Int)) / b + 1) = ind (decide (((0 - a) * (y : Int) + n) % b = 0)) := fun y => by
    have e : n - 1 - a * (y : Int) = n - a * (y : Int) - 1 := by omega
    rw [e, pred_div hb]
    have e2 : (0 - a) * (y : Int) + n = n - a * (y : Int) := by
      rw [Int.sub_mul, Int.zero_mul]
      omega
    rw [e2]
    omega
  have h1 : Tri b a n = sm (fun y => (n - a * (y : Int)) / b + 1) k := by
    rw [PT_rows hb ha hn, hk]
    rfl
  have h2 : Tri b a (n - 1) = sm (fun y => (n - 1 - a * (y : Int)) / b + 1) k := by
    rcases Int.lt_or_le (n - 1) 0 with h | h
    · have n0 : n = 0 := by omega
      subst n0
      have k1 : k = 1 := by
        rw [Int.zero_ediv] at hk
        omega
      subst k1
      rw [PT_neg (by omega)]
      show 0 = 0 + ((0 - 1 - a * ((0 : Nat) : Int)) / b + 1)
      have : ((0 : Int) - 1 - a * ((0 : Nat) : Int)) / b = -1 := by
        rw [Int.natCast_zero, Int.mul_zero]
        exact (dm (q := -1) (r := b - 1) (by omega) (by omega) (by omega)).1
      rw [this]
      rfl
    · rw [PT_rows hb ha h]
      have e := Int.mul_ediv_add_emod n a
      have e0 := Int.emod_nonneg n (show a ≠ 0 by omega)
      have e1 := Int.emod_lt_of_pos n ha
      rw [pred_div ha]
      by_cases z : n % a = 0
      · rw [decide_eq_true z]
        have t : (n / a - ind true + 1).toNat = k - 1 := by
          show (n / a - 1 + 1).toNat = _
          omega
        rw [t]
        obtain ⟨j, rfl⟩ : ∃ j, k = j + 1 := ⟨k - 1, by omega⟩
        show sm _ j = sm _ j + ((n - 1 - a * (j : Int)) / b + 1)
        have aj : a * (j : Int) = n := by
          rw [z, Int.add_zero] at e
          rw [← e]
          congr 1
          omega
        have : (n - 1 - a * (j : Int)) / b = -1 := by
          rw [aj]
          exact (dm (q := -1) (r := b - 1) (by omega) (by omega) (by omega)).1
        rw [this]
        omega
      · rw [decide_eq_false z]
        have t : (n / a - ind false + 1).toNat = k := by
          show (n / a - 0 + 1).toNat = _
          omega
        rw [t]
  rw [h1, h2, ← sm_sub]
  unfold cnt
  rw [show (n / a + 1).toNat = k by omega]
  exact sm_congr _ fun y _ => row y
end Tm

namespace Tm
/-! Boxes and ways. -/
theorem inv_gen {a b : Int} (hb : 0 < b) (hg : gc a b = 1) : ∃ v : Int, (a * v) % b = 1 % b := by
  obtain ⟨n, rfl⟩ : ∃ n : Nat, b = n := ⟨b.toNat, by omega⟩
  exact inv_int (by omega) hg
theorem PT_box {a b t : Int} (ha : 0 < a) (hb : 0 < b) (ht : 0 ≤ t) : 2 * Tri a b (a * b * t) = (b * t + 1) * (a * t + 1) + (t * gc a b + 1) := by
  have at0 := Int.mul_nonneg (show 0 ≤ a by omega) ht
  have n0 : 0 ≤ a * b * t := Int.mul_nonneg (Int.mul_nonneg (by omega) (by omega)) ht
  have e1 : a * b * t = b * (a * t) := by grind
  have q : a * b * t / b = a * t := by rw [e1, Int.mul_ediv_cancel_left _ (by omega)]
  have r : a * b * t % b = 0 := by rw [e1, Int.mul_emod_right]
  unfold Tri
  rw [if_neg (by omega), q, r]
  obtain ⟨N, hN⟩ : ∃ N : Nat, a * t = N := ⟨(a * t).toNat, by omega⟩
  rw [hN, show ((N : Int) + 1).toNat = N + 1 by omega]
  have rv := S0_rev b 0 a (N + 1) (by omega)
  have ne := S0_neg (a := b) (c := 0) ha (N + 1)
  have li := S0_lift (n := N + 1) (a := 0 - b) (c := 0) (m := a) (u := 0) (v := b * t) (by omega)
  have e2 : (0 : Int) + b * (((N + 1 : Nat) : Int) - 1) = 0 + b * t * a := by
    have : ((N + 1 : Nat) : Int) - 1 = a * t := by omega
    rw [this]
    grind
  rw [e2] at rv
  rw [show (0 : Int) - b + 0 * a = 0 - b by omega] at li
  rw [li] at rv
  rw [show (0 : Int) - 0 = 0 by omega] at ne
  rw [ne] at rv
  -- how many are hit
  have hc : cnt b 0 a (N + 1) = t * gc a b + 1 := by
    obtain ⟨x, y, hx, hy, y0, ex, ey, h1⟩ := gc_parts (a := b) (b := a) ha
    have g0 := gc_pos (a := b) ha
    obtain ⟨v, hv⟩ := inv_gen y0 h1
    have c := cnt_some (a := x) (c := 0) (g := gc b a) (k := y) (v := v) g0 y0 hv (N + 1)
    rw [← hx, ← hy, Int.mul_zero] at c
    rw [c, gc_comm (a := a)]
    have z : (-0 * v) % y = 0 := by
      rw [show (-0 : Int) = 0 by rfl, Int.zero_mul, Int.zero_emod]
    rw [z]
    have : ((N + 1 : Nat) : Int) - 1 - 0 = y * (t * gc b a) := by
      have : ((N + 1 : Nat) : Int) - 1 - 0 = a * t := by omega
      rw [this]
      conv => lhs; lhs; rw [hy]
      grind
    rw [this, Int.mul_ediv_cancel_left _ (by omega)]
  rw [hc] at rv
  have hN2 : ((N + 1 : Nat) : Int) = a * t + 1 := by omega
  rw [hN2] at rv
  rw [← hN]
  generalize S0 (N + 1) b 0 a = S at *
  generalize gc a b = g at *
  clear li ne e2 hc hN hN2 q r e1 n0 at0
  rw [Int.zero_mul, Int.add_zero] at rv
  grind
/-- the ways to reach a number -/
theorem cnt_ways {a b n v : Int} (ha : 0 < a) (hb : 0 < b) (hn : 0 ≤ n) {g A B m : Int} (g0 : 0 < g) (hA : a = g * A) (hB : b = g * B) (hm : n = g * m) (hv : (A * v) % B = 1 % B) (A0 : 0 < A) (B0 : 0 < B) :
    cnt (0 - a) n b (n / a + 1).toNat = if 0 ≤ m - m * v % B * A then (m - m * v % B * A) / (A * B) + 1 else 0 := by
  have m0 : 0 ≤ m := by
    rcases Int.lt_or_le m 0 with z | z
    · have := Int.mul_le_mul_of_nonneg_left (show m ≤ -1 by omega) (show 0 ≤ g by omega)
      omega
    · exact z
  have hv2 : ((0 - A) * (-v)) % B = 1 % B := by
    rw [show (0 - A) * (-v) = A * v by grind]
    exact hv
  have q0 : 0 ≤ n / a := Int.ediv_nonneg hn (by omega)
  have qe : n / a = m / A := by rw [hm, hA, Int.mul_ediv_mul_of_pos _ _ g0]
  have c := cnt_some (a := 0 - A) (c := m) (g := g) (k := B) (v := -v) g0 B0 hv2 (n / a + 1).toNat
  rw [← hm, ← hB, show g * (0 - A) = 0 - a by rw [hA]; grind] at c
  rw [c, show (((n / a + 1).toNat : Nat) : Int) - 1 = m / A by rw [← qe]; omega, show -m * -v = m * v by grind]
  have l0 := Int.emod_nonneg (m * v) (show B ≠ 0 by omega)
  have l1 := Int.emod_lt_of_pos (m * v) B0
  generalize m * v % B = w at *
  have mA0 : 0 ≤ m / A := Int.ediv_nonneg m0 (by omega)
  have e := Int.mul_ediv_add_emod m A
  have e0 := Int.emod_nonneg m (show A ≠ 0 by omega)
  have e1 := Int.emod_lt_of_pos m A0
  have sub : (m - w * A) / A = m / A - w := by
    refine (dm (r := m % A) ?_ e0 e1).1
    conv => lhs; lhs; rw [← e]
    clear c hv hv2 e
    grind
  split
  · rename_i h
    rw [← Int.ediv_ediv_of_nonneg (by omega), sub]
  · rename_i h
    have : m / A < w := by
      rcases Int.lt_or_le (m / A) w with z | z
      · exact z
      · have := Int.mul_le_mul_of_nonneg_right z (show 0 ≤ A by omega)
        rw [Int.mul_comm (m / A)] at this
        omega
    have := (dm (x := m / A - w) (y := B) (q := -1) (r := m / A - w + B) (by omega) (by omega) (by omega)).1
    omega
theorem PT_inner {a b : Int} (ha : 0 < a) (hb : 0 < b) : Tri a b (a * b - a - b - 1) * 2 = (a - 1) * (b - 1) - (gc a b - 1) := by
  have bx := PT_box (t := 1) ha hb (by omega)
  rw [Int.mul_one, Int.mul_one, Int.mul_one, Int.one_mul] at bx
  have ab0 : 0 < a * b := Int.mul_pos ha hb
  have r1 := PT_row (n := a * b) ha hb (by omega)
  rw [Int.mul_ediv_cancel_left _ (show a ≠ 0 by omega)] at r1
  have h2 : 0 ≤ a * b - b := by
    have := mul_ge (x := a) (y := b) (by omega) (by omega)
    omega
  have r2 := PT_row (n := a * b - b) hb ha h2
  have d2 : (a * b - b) / b = a - 1 := by
    rw [show a * b - b = b * (a - 1) by grind, Int.mul_ediv_cancel_left _ (by omega)]
  rw [d2, PT_swap hb ha, PT_swap hb ha] at r2
  rw [show a * b - b - a = a * b - a - b by omega] at r2
  rcases Int.lt_or_le (a * b - a - b) 0 with h | h
  · rw [PT_neg (by omega), Int.zero_mul]
    rw [PT_neg h] at r2
    rw [show (a * b - b) = a * b - b by rfl] at r1
    rw [r2] at r1
    rw [r1] at bx
    generalize gc a b = g at *
    clear r1 r2 d2 h2
    have nn := Int.mul_nonneg (show 0 ≤ a - 1 by omega) (show 0 ≤ b - 1 by omega)
    have ex : (a - 1) * (b - 1) = a * b - a - b + 1 := by grind
    have ex2 : (b + 1) * (a + 1) = a * b + a + b + 1 := by grind
    rw [ex] at nn ⊢
    rw [ex2] at bx
    omega
  · have st := PT_step ha hb h
    obtain ⟨x, y, hx, hy, y0, ex, ey, h1⟩ := gc_parts (a := a) (b := b) hb
    have g0 := gc_pos (a := a) hb
    have x0 : 0 < x := by
      rcases Int.lt_or_le 0 x with z | z
      · exact z
      · have := Int.mul_le_mul_of_nonneg_left z (show 0 ≤ gc a b by omega)
        omega
    obtain ⟨v, hv⟩ := inv_gen y0 h1
    generalize hG : gc a b = g at *
    have hm : a * b - a - b = g * (g * x * y - x - y) := by
      conv => lhs; rw [hx, hy]
      grind
    have w := cnt_ways ha hb h g0 hx hy hm hv x0 y0
    have lw : (g * x * y - x - y) * v % y = y - 1 := by
      obtain ⟨k, hk⟩ := Int.dvd_of_emod_eq_zero (Int.emod_eq_emod_iff_emod_sub_eq_zero.mp hv)
      have : (g * x * y - x - y) * v = (y - 1) + (g * x * v - v - k - 1) * y := by
        have e : x * v = 1 + y * k := by omega
        have e2 : (g * x * y - x - y) * v = g * (x * v) * y - x * v - y * v := by grind
        rw [e2, e]
        have e3 : g * x * v = g * (1 + y * k) := by rw [← e]; grind
        rw [e3]
        clear hv hk e e2 e3 st w hm r1 r2 bx
        grind
      rw [this, Int.add_mul_emod_self_right, Int.emod_eq_of_lt (by omega) (by omega)]
    rw [lw] at w
    have cs : g * x * y - x - y - (y - 1) * x = (g - 1) * (x * y) - y := by grind
    rw [cs] at w
    have xy0 : 0 < x * y := Int.mul_pos x0 y0
    have xy1 : y ≤ x * y := mul_ge (by omega) (by omega)
    have cv : cnt (0 - a) (a * b - a - b) b ((a * b - a - b) / a + 1).toNat = g - 1 := by
      rw [w]
      rcases Int.lt_or_le 1 g with z | z
      · have := Int.mul_le_mul_of_nonneg_right (show 1 ≤ g - 1 by omega) (show 0 ≤ x * y by omega)
        rw [if_pos (by omega)]
        have := (dm (x := (g - 1) * (x * y) - y) (y := x * y) (q := g - 2) (r := x * y - y) (by grind) (by omega) (by omega)).1
        omega
      · have : g = 1 := by omega
        subst this
        rw [if_neg (by omega)]
        rfl
    rw [cv] at st
    rw [r2] at r1
    clear w cv lw cs hv h1 hm ex ey hx hy
    grind
end Tm

namespace Tm
/-! Rules of the sums. -/
theorem T1_rests {a : Int} {n : Nat} (hn : 0 < n) : (n : Int) * T1 a n = 12 * sm (fun i => (i : Int) * rs a 0 n i) n - 3 * n * n * (n - 1) := by
  have e := sm_krs a n n
  have s := six_sixth n
  unfold T1
  rw [e, show ((n : Int)).toNat = n by omega]
  generalize S1 n a 0 n = z at *
  generalize sixth (n : Int) = y at *
  clear e
  grind
theorem T1_neg {a : Int} {n : Nat} (hn : 0 < n) (hg : gc a n = 1) : T1 (-a) n = - T1 a n := by
  have e : S1 n (-a) 0 n = - S1 n a 0 n - half n := by
    unfold S1
    rw [← half_sm, ← sm_neg, ← sm_sub]
    refine sm_congr n fun i hi => ?_
    have f := fl_neg (a := a) (c := 0) (m := n) (by omega) i
    rw [show (0 : Int) - a = -a by omega, show (0 : Int) - 0 = 0 by omega] at f
    rw [f]
    by_cases z : i = 0
    · subst z
      rw [Int.natCast_zero, Int.zero_mul, Int.zero_mul]
      rfl
    · have nz := cop_rest (a := a) (b := n) (k := i) (by omega) hg (by omega) (by omega)
      rw [decide_eq_false (by rw [Int.add_zero]; exact nz)]
      show (i : Int) * (- fl a 0 n i - 1 + 0) = _
      rw [Int.add_zero, Int.mul_sub, Int.mul_neg, Int.mul_one]
  have h := two_half n
  unfold T1
  rw [show ((n : Int)).toNat = n by omega, e]
  generalize S1 n a 0 n = z at *
  generalize half (n : Int) = y at *
  clear e hg
  grind
theorem gc_neg {a b : Int} : gc (-a) b = gc a b := by
  unfold gc
  rw [Int.neg_gcd]
theorem T1_one : T1 1 1 = 0 := by decide +kernel
theorem T1_any {p q : Int} (hp : 0 < p) (hq : 0 < q) (hg : gc p q = 1) : p * T1 p q + q * T1 q p = p * p + q * q + 1 - 3 * (p * q) := by
  rcases Int.lt_trichotomy p q with h | h | h
  · exact T1_rec hp h hg
  · subst h
    have : p = 1 := by
      unfold gc at hg
      rw [Int.gcd_self] at hg
      omega
    subst this
    rw [T1_one]
    rfl
  · have := T1_rec hq h (by rw [gc_comm]; exact hg)
    rw [Int.mul_comm q p] at this
    omega
end Tm

namespace Tm
/-! Three numbers at once: whose share of a side is the greatest. -/
/-- products of floors of two lines -/
def Gf (a b c : Nat) : Int := sm (fun i => fl b 0 a i * fl c 0 a i) a
end Tm

namespace Tm
/-! The greatest sums. -/
theorem sm_nonneg {f : Nat → Int} : ∀ n : Nat, (∀ i, i < n → 0 ≤ f i) → 0 ≤ sm f n
  | 0, _ => Int.le_refl 0
  | n + 1, h => Int.add_nonneg (sm_nonneg n fun i hi => h i (by omega)) (h n (by omega))
theorem sq_nonneg (x : Int) : 0 ≤ x * x := by
  rcases Int.le_total 0 x with h | h
  · exact Int.mul_nonneg h h
  · exact Int.mul_nonneg_of_nonpos_of_nonpos h h
/-- how far a sum is from the greatest one -/
theorem T1_far {a : Int} {n : Nat} (hn : 0 < n) (hg : gc a n = 1) : (n : Int) * (((n : Int) - 1) * ((n : Int) - 2) - T1 a n) = 6 * sm (fun i => ((i : Int) - rs a 0 n i) * ((i : Int) - rs a 0 n i)) n := by
  obtain ⟨v, hv⟩ := inv_int hn hg
  have p := perm_sum (a := a) (c := 0) hn hv (fun j => (j : Int) * j)
  have c : sm (fun i => (fun j : Nat => (j : Int) * j) ((a * (i : Int) + 0) % (n : Int)).toNat) n = sm (fun i => rs a 0 n i * rs a 0 n i) n := sm_congr n fun i _ => by
    have r0 := Int.emod_nonneg (a * (i : Int) + 0) (show (n : Int) ≠ 0 by omega)
    show ((((a * (i : Int) + 0) % (n : Int)).toNat : Nat) : Int) * ((((a * (i : Int) + 0) % (n : Int)).toNat : Nat) : Int) = _
    rw [show ((((a * (i : Int) + 0) % (n : Int)).toNat : Nat) : Int) = (a * (i : Int) + 0) % (n : Int) by omega]
    rfl
  rw [c, sixth_sm] at p
  have e : sm (fun i => ((i : Int) - rs a 0 n i) * ((i : Int) - rs a 0 n i)) n = sixth n - 2 * sm (fun i => (i : Int) * rs a 0 n i) n + sixth n := by
    rw [← sixth_sm, ← sm_mul, ← sm_sub]
    conv => rhs; rhs; rw [sixth_sm, ← p]
    rw [← sm_add]
    refine sm_congr n fun i _ => ?_
    grind
  have h1 := T1_rests (a := a) hn
  have s := six_sixth n
  rw [e, Int.mul_sub, h1]
  generalize sm (fun i => (i : Int) * rs a 0 n i) n = Q at *
  generalize sixth (n : Int) = S at *
  clear e p c hv h1
  have : 6 * (S - 2 * Q + S) = 2 * (6 * S) - 12 * Q := by grind
  rw [this, s]
  clear this s
  grind
theorem T1_le {a : Int} {n : Nat} (hn : 0 < n) (hg : gc a n = 1) : T1 a n ≤ ((n : Int) - 1) * ((n : Int) - 2) := by
  have f := T1_far hn hg
  have p := sm_nonneg n fun i (_ : i < n) => sq_nonneg ((i : Int) - rs a 0 n i)
  rcases Int.lt_or_le (((n : Int) - 1) * ((n : Int) - 2) - T1 a n) 0 with h | h
  · have := Int.mul_lt_mul_of_pos_left h (show 0 < (n : Int) by omega)
    omega
  · omega
theorem T1_ge {a : Int} {n : Nat} (hn : 0 < n) (hg : gc a n = 1) : -(((n : Int) - 1) * ((n : Int) - 2)) ≤ T1 a n := by
  have h := T1_le (a := -a) hn (by rw [gc_neg]; exact hg)
  rw [T1_neg hn hg] at h
  omega
end Tm

namespace Tm
/-! The definition, for pairs with a common factor too. -/
/-- one product of the definition, times four squares -/
def Pd (a b : Int) (k : Nat) : Int := if 0 < rs a 0 b k then (2 * (k : Int) - b) * (2 * rs a 0 b k - b) else 0
end Tm

namespace Tm
/-! Ways of two steps. -/
theorem inv_same {a b n v w : Int} (hv : (a * v) % b = 1 % b) (hw : (a * w) % b = 1 % b) : (n * v) % b = (n * w) % b := by
  have h1 := Int.dvd_of_emod_eq_zero (Int.emod_eq_emod_iff_emod_sub_eq_zero.mp hv)
  have h2 := Int.dvd_of_emod_eq_zero (Int.emod_eq_emod_iff_emod_sub_eq_zero.mp hw)
  obtain ⟨x, hx⟩ := h1
  obtain ⟨y, hy⟩ := h2
  refine Int.emod_eq_emod_iff_emod_sub_eq_zero.mpr (Int.emod_eq_zero_of_dvd ⟨n * (w * x - v * y), ?_⟩)
  have e1 : b * (n * (w * x - v * y)) = n * (w * (b * x) - v * (b * y)) := by grind
  rw [e1, ← hx, ← hy]
  clear hv hw hx hy e1
  grind
def Wy (a b n x : Int) : Int := if 0 ≤ n - x * a then (n - x * a) / (a * b) + 1 else 0
theorem wy_dvd {a b n v : Int} (hv : (a * v) % b = 1 % b) : b ∣ n - n * v % b * a := by
  obtain ⟨x, hx⟩ := Int.dvd_of_emod_eq_zero (Int.emod_eq_emod_iff_emod_sub_eq_zero.mp hv)
  have e := Int.emod_add_mul_ediv (n * v) b
  obtain ⟨q, hq⟩ : ∃ q, q = n * v / b := ⟨_, rfl⟩
  have er : n * v % b = n * v - b * q := by rw [hq]; omega
  refine ⟨q * a - n * x, ?_⟩
  rw [er]
  have e1 : b * (q * a - n * x) = b * q * a - n * (b * x) := by grind
  rw [e1, ← hx]
  clear hv hx e er hq e1
  grind
/-- the ways, from both rests -/
theorem wy_key {a b n u v : Int} (ha : 0 < a) (hb : 0 < b) (hn : 0 ≤ n) (hv : (a * v) % b = 1 % b) (hu : (b * u) % a = 1 % a) :
    Wy a b n (n * v % b) * (a * b) = n - n * u % a * b - n * v % b * a + a * b := by
  have u0 := Int.emod_nonneg (n * u) (show a ≠ 0 by omega)
  have u1 := Int.emod_lt_of_pos (n * u) ha
  have v0 := Int.emod_nonneg (n * v) (show b ≠ 0 by omega)
  have v1 := Int.emod_lt_of_pos (n * v) hb
  obtain ⟨y, hy⟩ := wy_dvd (n := n) hv
  -- y goes with the other rest
  have yu : y % a = n * u % a := by
    obtain ⟨z, hz⟩ := wy_dvd (n := n) hu
    have e : b * (y - n * u % a) = a * (z - n * v % b) := by
      rw [Int.mul_sub, Int.mul_sub, ← hy, ← hz, Int.mul_comm b, Int.mul_comm a]
      omega
    obtain ⟨x, hx⟩ := Int.dvd_of_emod_eq_zero (Int.emod_eq_emod_iff_emod_sub_eq_zero.mp hu)
    have d : a ∣ y - n * u % a := ⟨u * (z - n * v % b) - x * (y - n * u % a), by
      have e1 : a * (u * (z - n * v % b) - x * (y - n * u % a)) = u * (a * (z - n * v % b)) - (a * x) * (y - n * u % a) := by grind
      rw [e1, ← e, ← hx]
      clear e e1 hx hz hy hu hv
      grind⟩
    have := Int.emod_eq_emod_iff_emod_sub_eq_zero.mpr (Int.emod_eq_zero_of_dvd d)
    rw [this, Int.emod_emod_of_dvd _ (Int.dvd_refl _)]
  generalize n * u % a = U at *
  generalize n * v % b = V at *
  unfold Wy
  rw [hy]
  have q := Int.emod_add_mul_ediv y a
  rw [yu] at q
  have dv : b * y / (a * b) = y / a := by rw [Int.mul_comm a b, Int.mul_ediv_mul_of_pos _ _ hb]
  split
  · rename_i h
    rw [dv]
    generalize y / a = t at *
    have : n = b * y + V * a := by omega
    rw [this, ← q]
    clear hv hu hy yu dv q this h
    grind
  · rename_i h
    have h : b * y < 0 := by omega
    have y0 : y < 0 := by
      rcases Int.lt_or_le y 0 with z | z
      · exact z
      · have := Int.mul_nonneg (show 0 ≤ b by omega) z
        omega
    have y1 : -a < y := by
      rcases Int.lt_or_le (-a) y with z | z
      · exact z
      · have h1 := Int.mul_le_mul_of_nonneg_left z (show 0 ≤ b by omega)
        have h2 := Int.mul_le_mul_of_nonneg_right (show V ≤ b - 1 by omega) (show 0 ≤ a by omega)
        rw [Int.mul_neg] at h1
        rw [Int.sub_mul, Int.one_mul] at h2
        omega
    have t : y / a = -1 := (dm (q := -1) (r := y + a) (by omega) (by omega) (by omega)).1
    rw [t] at q
    have e : n = b * y + V * a := by omega
    rw [e, Int.zero_mul]
    have e2 : U = y + a := by omega
    rw [e2]
    clear hv hu hy yu dv q h e e2 t
    grind
theorem wy_neg {a b n x : Int} (ha : 0 < a) (hx : 0 ≤ x) (hn : n < 0) : Wy a b n x = 0 := by
  unfold Wy
  have := Int.mul_nonneg hx (show 0 ≤ a by omega)
  rw [if_neg (by omega)]
theorem wy_sym {a b n u v : Int} (ha : 0 < a) (hb : 0 < b) (hv : (a * v) % b = 1 % b) (hu : (b * u) % a = 1 % a) : Wy b a n (n * u % a) = Wy a b n (n * v % b) := by
  have ab0 : 0 < a * b := Int.mul_pos ha hb
  rcases Int.lt_or_le n 0 with h | h
  · rw [wy_neg hb (Int.emod_nonneg _ (by omega)) h, wy_neg ha (Int.emod_nonneg _ (by omega)) h]
  · have k1 := wy_key ha hb h hv hu
    have k2 := wy_key hb ha h hu hv
    rw [Int.mul_comm b a] at k2
    exact Int.eq_of_mul_eq_mul_right (show a * b ≠ 0 by omega) (by omega)
theorem wy_pos {a b n x : Int} (ha : 0 < a) (hb : 0 < b) : 0 < Wy a b n x ↔ x * a ≤ n := by
  unfold Wy
  split
  · rename_i h
    have := Int.ediv_nonneg h (show 0 ≤ a * b by have := Int.mul_pos ha hb; omega)
    exact ⟨fun _ => by omega, fun _ => by omega⟩
  · exact ⟨fun h => absurd h (by omega), fun h => by omega⟩
theorem wy_opp {a b n v : Int} (ha : 0 < a) (hb : 0 < b) (hv : (a * v) % b = 1 % b) : ((a * b - a - b - n) * v % b) * a ≤ a * b - a - b - n ↔ ¬ (n * v % b) * a ≤ n := by
  have v0 := Int.emod_nonneg (n * v) (show b ≠ 0 by omega)
  have v1 := Int.emod_lt_of_pos (n * v) hb
  have e : (a * b - a - b - n) * v % b = b - 1 - n * v % b := by
    obtain ⟨x, hx⟩ := Int.dvd_of_emod_eq_zero (Int.emod_eq_emod_iff_emod_sub_eq_zero.mp hv)
    have q := Int.emod_add_mul_ediv (n * v) b
    obtain ⟨t, ht⟩ : ∃ t, t = n * v / b := ⟨_, rfl⟩
    rw [← ht] at q
    refine (dm (q := a * v - v - x - t - 1) ?_ (by omega) (by omega)).2
    have e1 : (a * b - a - b - n) * v = b * (a * v) - (a * v - 1) - 1 - b * v - n * v := by grind
    rw [e1, hx]
    generalize n * v % b = V at *
    have q' : n * v = V + b * t := by omega
    rw [q']
    clear hv hx q q' ht e1 v0 v1
    grind
  rw [e]
  obtain ⟨y, hy⟩ := wy_dvd (n := n) hv
  generalize n * v % b = V at *
  have e2 : (b - 1 - V) * a = a * b - a - V * a := by grind
  rw [e2]
  constructor
  · intro h z
    have : 0 ≤ b * y := by omega
    omega
  · intro h
    have h1 : b * y < 0 := by omega
    have y0 : y ≤ -1 := by
      rcases Int.lt_or_le y 0 with z | z
      · omega
      · have := Int.mul_nonneg (show 0 ≤ b by omega) z
        omega
    have := Int.mul_le_mul_of_nonneg_left y0 (show 0 ≤ b by omega)
    rw [Int.mul_neg, Int.mul_one] at this
    omega
theorem wy_two {a b n u v : Int} (ha : 0 < a) (hb : 0 < b) (hn : 0 ≤ n) (hv : (a * v) % b = 1 % b) (hu : (b * u) % a = 1 % a) : Wy a b n (n * v % b) = n / (a * b) ∨ Wy a b n (n * v % b) = n / (a * b) + 1 := by
  have k1 := wy_key ha hb hn hv hu
  have u0 := Int.emod_nonneg (n * u) (show a ≠ 0 by omega)
  have u1 := Int.emod_lt_of_pos (n * u) ha
  have v0 := Int.emod_nonneg (n * v) (show b ≠ 0 by omega)
  have v1 := Int.emod_lt_of_pos (n * v) hb
  have ab0 : 0 < a * b := Int.mul_pos ha hb
  have q := Int.mul_ediv_add_emod n (a * b)
  have r0 := Int.emod_nonneg n (show a * b ≠ 0 by omega)
  have r1 := Int.emod_lt_of_pos n ab0
  have m1 := Int.mul_nonneg u0 (show 0 ≤ b by omega)
  have m2 := Int.mul_nonneg v0 (show 0 ≤ a by omega)
  have m3 := Int.mul_le_mul_of_nonneg_right (show n * u % a ≤ a - 1 by omega) (show 0 ≤ b by omega)
  have m4 := Int.mul_le_mul_of_nonneg_right (show n * v % b ≤ b - 1 by omega) (show 0 ≤ a by omega)
  rw [Int.sub_mul, Int.one_mul] at m3 m4
  rw [Int.mul_comm b a] at m4
  generalize n * u % a * b = x at *
  generalize n * v % b * a = y at *
  generalize n / (a * b) = t at *
  generalize n % (a * b) = r at *
  generalize Wy a b n (n * v % b) = W at *
  have b1 : W * (a * b) < (t + 2) * (a * b) := by
    rw [k1, Int.add_mul, Int.mul_comm t]
    omega
  have b2 : (t - 1) * (a * b) < W * (a * b) := by
    rw [k1, Int.sub_mul, Int.mul_comm t, Int.one_mul]
    omega
  have c1 := Int.lt_of_mul_lt_mul_right b1 (by omega)
  have c2 := Int.lt_of_mul_lt_mul_right b2 (by omega)
  omega
end Tm

namespace Tm
/-! Totals of rows. -/
@[irreducible] def Rr (b : Nat) (s : Int) : Int := sm (fun a => TT a b * TT (a + s) b) b
end Tm

namespace Tm
/-! Teeth and bends in equal steps. -/
def tth (n d : Int) : Int := if n % d = 0 then 0 else 2 * (n % d) - d
def bnd (n d : Int) : Int := 6 * (n % d) * (n % d - d) + d * d
end Tm

namespace Tm
/-! Teeth and bends of fractions. -/
theorem mod_cross {n d n2 d2 : Int} (h1 : 0 < d) (h2 : 0 < d2) (e : n * d2 = n2 * d) : (n % d) * d2 = (n2 % d2) * d := by
  have a1 : (n * d2) % (d * d2) = (n % d) * d2 := by rw [Int.mul_comm n, Int.mul_comm d, Int.mul_emod_mul_of_pos _ _ h2, Int.mul_comm]
  have a2 : (n2 * d) % (d2 * d) = (n2 % d2) * d := by rw [Int.mul_comm n2, Int.mul_comm d2, Int.mul_emod_mul_of_pos _ _ h1, Int.mul_comm]
  rw [← a1, ← a2, e, Int.mul_comm d d2]
theorem tth_cross {n d n2 d2 : Int} (h1 : 0 < d) (h2 : 0 < d2) (e : n * d2 = n2 * d) : tth n d * d2 = tth n2 d2 * d := by
  have c := mod_cross h1 h2 e
  unfold tth
  by_cases z : n % d = 0
  · have : n2 % d2 = 0 := by
      rw [z, Int.zero_mul] at c
      rcases Int.mul_eq_zero.mp c.symm with h | h
      · exact h
      · omega
    rw [if_pos z, if_pos this]
    omega
  · have : n2 % d2 ≠ 0 := fun h => by
      rw [h, Int.zero_mul] at c
      rcases Int.mul_eq_zero.mp c with h | h
      · exact z h
      · omega
    rw [if_neg z, if_neg this]
    generalize n % d = x at *
    generalize n2 % d2 = y at *
    grind
def Th (q : Rat) : Rat := Rat.divInt (tth q.num q.den) (2 * q.den)
def Bd (q : Rat) : Rat := Rat.divInt (bnd q.num q.den) (6 * q.den * q.den)
theorem den0 (q : Rat) : 0 < (q.den : Int) := by have := q.den_nz; omega
theorem crossD {n d : Int} (h : 0 < d) : n * ((Rat.divInt n d).den : Int) = (Rat.divInt n d).num * d := by
  obtain ⟨q, hq⟩ : ∃ q, q = Rat.divInt n d := ⟨_, rfl⟩
  have q0 := den0 q
  rw [← hq]
  exact (Rat.divInt_eq_divInt_iff (by omega) (by omega)).mp (by rw [← hq, Rat.num_divInt_den])
theorem Th_mk {n d : Int} (h : 0 < d) : Th (Rat.divInt n d) = Rat.divInt (tth n d) (2 * d) := by
  have q0 := den0 (Rat.divInt n d)
  have c := tth_cross h q0 (crossD h)
  unfold Th
  refine (Rat.divInt_eq_divInt_iff (by omega) (by omega)).mpr ?_
  generalize tth n d = x at *
  generalize tth (Rat.divInt n d).num (Rat.divInt n d).den = y at *
  generalize ((Rat.divInt n d).den : Int) = z at *
  grind
theorem q_eq (q : Rat) : q = Rat.divInt q.num q.den := (Rat.num_divInt_den q).symm
theorem sub_D {n d i : Int} (h : 0 < d) : Rat.divInt n d - (i : Rat) = Rat.divInt (n - i * d) d := by
  have : (i : Rat) = Rat.divInt i 1 := (Rat.num_divInt_den (i : Rat)).symm
  rw [this, Rat.divInt_sub_divInt _ _ (by omega) (by decide), Int.mul_one, Int.mul_one]
/-- (q + j) / m -/
def plc (q : Rat) (m : Nat) (j : Nat) : Rat := (q + ((j : Int) : Rat)) / ((m : Int) : Rat)
/-- the products of a row -/
def Rw (a : Int) (b : Nat) (k : Nat) : Rat := Rat.divInt (tth k b * tth (k * a) b) (4 * b * b)
/-- the tooth of a row of rests -/
def Tr (a : Int) (b : Nat) (k : Nat) : Rat := Th (Rat.divInt (a % b * k) b)
end Tm

namespace Tm
/-! Ways of all numbers up to one, numbers that are not reached. -/
theorem tri_step {a b n u v : Int} (ha : 0 < a) (hb : 0 < b) (hn : 0 ≤ n) (hv : (a * v) % b = 1 % b) (hu : (b * u) % a = 1 % a) : Tri a b n = Tri a b (n - 1) + Wy a b n (n * v % b) := by
  have hw : cnt (0 - b) n a (n / b + 1).toNat = Wy a b n (n * v % b) := by
    rw [cnt_ways (a := b) (b := a) hb ha hn (g := 1) (A := b) (B := a) (m := n) (by decide) (by omega) (by omega) (by omega) hu hb ha]
    exact wy_sym ha hb hv hu
  rw [← hw]
  have q0 : 0 ≤ n / b := Int.ediv_nonneg hn (by omega)
  rw [PT_rows ha hb hn]
  have key : ∀ y : Nat, (n - b * (y : Int)) / a + 1 = ((n - 1 - b * (y : Int)) / a + 1) + ind (decide (((0 - b) * (y : Int) + n) % a = 0)) := fun y => by
    have e : n - 1 - b * (y : Int) = (n - b * (y : Int)) - 1 := by omega
    have e2 : (0 - b) * (y : Int) + n = n - b * (y : Int) := by rw [Int.zero_sub, Int.neg_mul]; omega
    rw [e, e2, pred_div ha]
    omega
  have e3 : sm (fun y => (n - b * (y : Int)) / a + 1) (n / b + 1).toNat = sm (fun y : Nat => (n - 1 - b * (y : Int)) / a + 1) (n / b + 1).toNat + cnt (0 - b) n a (n / b + 1).toNat := by
    unfold cnt
    rw [← sm_add]
    exact sm_congr _ fun y _ => key y
  rw [e3]
  congr 1
  rcases Int.lt_or_le (n - 1) 0 with z | z
  · have z0 : n = 0 := by omega
    subst z0
    rw [PT_neg (by omega), Int.zero_ediv]
    show 0 + ((0 - 1 - b * ((0 : Nat) : Int)) / a + 1) = 0
    have : (0 - 1 - b * ((0 : Nat) : Int)) / a = -1 := by
      have e : (0 - 1 - b * ((0 : Nat) : Int)) = -1 := by simp
      rw [e]
      exact Int.ediv_eq_neg_one_of_neg_of_le (by omega) (by omega)
    omega
  · rw [PT_rows ha hb z]
    have e4 := pred_div (x := n) hb
    by_cases r : n % b = 0
    · rw [decide_eq_true r] at e4
      have e5 : (n - 1) / b = n / b - 1 := e4
      obtain ⟨k, hk⟩ : ∃ k : Nat, n / b = k := ⟨(n / b).toNat, by omega⟩
      rw [e5, hk]
      have : ((k : Int) + 1).toNat = k + 1 := by omega
      rw [this, show ((k : Int) - 1 + 1).toNat = k by omega]
      show sm _ k + ((n - 1 - b * (k : Int)) / a + 1) = _
      have e6 : n - 1 - b * (k : Int) = -1 := by
        have := Int.mul_ediv_add_emod n b
        rw [hk, r] at this
        omega
      rw [e6]
      have : (-1 : Int) / a = -1 := Int.ediv_eq_neg_one_of_neg_of_le (by omega) (by omega)
      omega
    · rw [decide_eq_false r] at e4
      have e5 : (n - 1) / b = n / b := by rw [e4]; show n / b - 0 = _; omega
      rw [e5]
theorem tri_sum {a b v u : Int} (ha : 0 < a) (hb : 0 < b) (hv : (a * v) % b = 1 % b) (hu : (b * u) % a = 1 % a) : ∀ L : Nat, sm (fun n => Wy a b n ((n : Int) * v % b)) L = Tri a b ((L : Int) - 1)
  | 0 => (PT_neg (by decide)).symm
  | L + 1 => by
    show sm _ L + Wy a b L ((L : Int) * v % b) = _
    rw [tri_sum ha hb hv hu L]
    have := tri_step ha hb (n := (L : Int)) (by omega) hv hu
    have e : ((L + 1 : Nat) : Int) - 1 = L := by omega
    rw [e, this]
/-- numbers below one that are not reached -/
def gp (a b v : Int) (L : Nat) : Int := sm (fun n => ind (decide (¬ ((n : Int) * v % b) * a ≤ n))) L
theorem gp_low {a b v u : Int} (ha : 0 < a) (hb : 0 < b) (hv : (a * v) % b = 1 % b) (hu : (b * u) % a = 1 % a) {L : Nat} (hL : (L : Int) ≤ a * b) : gp a b v L = (L : Int) - Tri a b ((L : Int) - 1) := by
  rw [← tri_sum ha hb hv hu L]
  unfold gp
  have e : ∀ n, n < L → ind (decide (¬ ((n : Int) * v % b) * a ≤ n)) = 1 - Wy a b n ((n : Int) * v % b) := fun n hn => by
    have p : 0 < a * b := Int.mul_pos ha hb
    have n0 : (n : Int) / (a * b) = 0 := Int.ediv_eq_zero_of_lt (by omega) (by omega)
    have w := wy_two ha hb (n := (n : Int)) (by omega) hv hu
    have wp := wy_pos (n := (n : Int)) (x := (n : Int) * v % b) ha hb
    rw [n0] at w
    by_cases z : ((n : Int) * v % b) * a ≤ n
    · have := wp.mpr z
      rw [decide_eq_false (by simpa using z)]
      show 0 = _
      omega
    · have : ¬ 0 < Wy a b n ((n : Int) * v % b) := fun q => z (wp.mp q)
      rw [decide_eq_true z]
      show 1 = _
      omega
  rw [sm_congr L e, sm_sub, sm_const]
  omega
theorem gp_all {a b v u : Int} (ha : 0 < a) (hb : 0 < b) (hg : gc a b = 1) (hv : (a * v) % b = 1 % b) (hu : (b * u) % a = 1 % a) {L : Nat} (hL : a * b - a - b < (L : Int)) : gp a b v L = (a - 1) * (b - 1) / 2 := by
  have z : a * b - a - b + 1 = (a - 1) * (b - 1) := by grind
  have p0 : 0 ≤ (a - 1) * (b - 1) := Int.mul_nonneg (by omega) (by omega)
  obtain ⟨k, hk⟩ : ∃ k : Nat, a * b - a - b + 1 = k := ⟨(a * b - a - b + 1).toNat, by omega⟩
  obtain ⟨r, rfl⟩ : ∃ r, L = k + r := ⟨L - k, by omega⟩
  have hi := PT_inner ha hb
  rw [hg] at hi
  have h1 : gp a b v k = (a - 1) * (b - 1) / 2 := by
    rw [gp_low ha hb hv hu (by omega)]
    have e1 : (k : Int) - 1 = a * b - a - b := by omega
    rw [e1]
    rcases Int.lt_or_le (a * b - a - b) 0 with w | w
    · rw [PT_neg w]
      have : (a - 1) * (b - 1) = 0 := by omega
      rw [this]
      omega
    · rw [tri_step ha hb w hv hu]
      have o := wy_opp (n := 0) ha hb hv
      have w0 : Wy a b (a * b - a - b) ((a * b - a - b) * v % b) = 0 := by
        have q := wy_pos (n := a * b - a - b) (x := (a * b - a - b) * v % b) ha hb
        have nn : ¬ 0 < Wy a b (a * b - a - b) ((a * b - a - b) * v % b) := fun hh => by
          have h2 := q.mp hh
          have h3 := o.mp (by rw [Int.sub_zero]; exact h2)
          simp at h3
        have n2 : 0 ≤ Wy a b (a * b - a - b) ((a * b - a - b) * v % b) := by
          unfold Wy
          split
          · have : 0 ≤ (a * b - a - b - (a * b - a - b) * v % b * a) / (a * b) := Int.ediv_nonneg (by assumption) (Int.le_of_lt (Int.mul_pos ha hb))
            omega
          · omega
        omega
      rw [w0]
      omega
  rw [← h1]
  unfold gp
  rw [sm_app]
  have : sm (fun i => ind (decide (¬ (((k + i : Nat) : Int) * v % b) * a ≤ ((k + i : Nat) : Int)))) r = 0 := by
    refine sm_zero r fun i _ => ?_
    have o := wy_opp (n := ((k + i : Nat) : Int)) ha hb hv
    have neg : a * b - a - b - ((k + i : Nat) : Int) < 0 := by push_cast; omega
    have nr : ¬ ((a * b - a - b - ((k + i : Nat) : Int)) * v % b) * a ≤ a * b - a - b - ((k + i : Nat) : Int) := fun hh => by
      have := Int.emod_nonneg ((a * b - a - b - ((k + i : Nat) : Int)) * v) (show b ≠ 0 by omega)
      have := Int.mul_nonneg this (show 0 ≤ a by omega)
      omega
    have : (((k + i : Nat) : Int) * v % b) * a ≤ ((k + i : Nat) : Int) := Classical.byContradiction fun hh => nr (o.mpr hh)
    rw [decide_eq_false (by simpa using this)]
    rfl
  rw [this]
  omega
/-- what the program tells of numbers below one that are not reached -/
def gB (a b L : Int) : Int := if a * b - a - b < L then (a - 1) * (b - 1) / 2 else if 0 < L then L - Tri a b (L - 1) else 0
theorem gB_gp {a b v u : Int} (ha : 0 < a) (hb : 0 < b) (hg : gc a b = 1) (hv : (a * v) % b = 1 % b) (hu : (b * u) % a = 1 % a) (L : Nat) : gB a b L = gp a b v L := by
  unfold gB
  by_cases z : a * b - a - b < (L : Int)
  · rw [if_pos z, gp_all ha hb hg hv hu z]
  · rw [if_neg z]
    by_cases l : (0 : Int) < L
    · rw [if_pos l, gp_low ha hb hv hu (by omega)]
    · rw [if_neg l]
      have : L = 0 := by omega
      subst this
      rfl
end Tm

namespace Tm
/-! Ways and teeth; lines and gaps. -/
theorem rest_zero {a b n v : Int} (hb : 0 < b) (hv : (a * v) % b = 1 % b) : n * v % b = 0 ↔ n % b = 0 := by
  constructor
  · intro h
    have e := wy_dvd (n := n) hv
    rw [h, Int.zero_mul, Int.sub_zero] at e
    exact Int.emod_eq_zero_of_dvd e
  · intro h
    exact Int.emod_eq_zero_of_dvd (Int.dvd_trans (Int.dvd_of_emod_eq_zero h) ⟨v, rfl⟩)
theorem tth_rest {x b : Int} (h0 : 0 ≤ x) (h1 : x < b) : tth x b = 2 * x - b + b * (if x = 0 then 1 else 0) := by
  unfold tth
  rw [Int.emod_eq_of_lt h0 h1]
  split
  · rename_i h; subst h; simp; omega
  · simp
theorem ways_teeth {a b n u v : Int} (ha : 0 < a) (hb : 0 < b) (hn : 0 ≤ n) (hv : (a * v) % b = 1 % b) (hu : (b * u) % a = 1 % a) :
    Rat.divInt n (a * b) - Th (Rat.divInt (n * v % b) b) - Th (Rat.divInt (n * u % a) a) + Rat.divInt ((if n % a = 0 then 1 else 0) + (if n % b = 0 then 1 else 0)) 2 = ((Wy a b n (n * v % b) : Int) : Rat) := by
  have k := wy_key ha hb hn hv hu
  have v0 := Int.emod_nonneg (n * v) (show b ≠ 0 by omega)
  have v1 := Int.emod_lt_of_pos (n * v) hb
  have u0 := Int.emod_nonneg (n * u) (show a ≠ 0 by omega)
  have u1 := Int.emod_lt_of_pos (n * u) ha
  have zb := rest_zero (n := n) hb hv
  have za := rest_zero (n := n) ha hu
  rw [Th_mk hb, Th_mk ha, tth_rest v0 v1, tth_rest u0 u1]
  have eb : (if n * v % b = 0 then (1 : Int) else 0) = if n % b = 0 then 1 else 0 := by simp only [zb]
  have ea : (if n * u % a = 0 then (1 : Int) else 0) = if n % a = 0 then 1 else 0 := by simp only [za]
  rw [eb, ea]
  generalize (if n % b = 0 then (1 : Int) else 0) = p at *
  generalize (if n % a = 0 then (1 : Int) else 0) = q at *
  generalize Wy a b n (n * v % b) = W at *
  generalize n * v % b = X at *
  generalize n * u % a = Y at *
  simp only [Rat.divInt_eq_div]
  have a0 : (a : Rat) ≠ 0 := fun z => (show a ≠ 0 by omega) (Rat.intCast_inj.mp z)
  have b0 : (b : Rat) ≠ 0 := fun z => (show b ≠ 0 by omega) (Rat.intCast_inj.mp z)
  have k2 : ((W * (a * b) : Int) : Rat) = ((n - Y * b - X * a + a * b : Int) : Rat) := by rw [k]
  simp only [Rat.intCast_mul, Rat.intCast_add, Rat.intCast_sub] at *
  have t2 : ((2 : Int) : Rat) = 2 := rfl
  rw [t2]
  generalize (W : Rat) = w at *
  generalize (a : Rat) = a' at *
  generalize (b : Rat) = b' at *
  generalize (n : Rat) = n' at *
  generalize (X : Rat) = x' at *
  generalize (Y : Rat) = y' at *
  generalize (p : Rat) = p' at *
  generalize (q : Rat) = q' at *
  have i1 : a' * a'⁻¹ = 1 := Rat.mul_inv_cancel _ a0
  have i2 : b' * b'⁻¹ = 1 := Rat.mul_inv_cancel _ b0
  have i3 : (2 : Rat) * 2⁻¹ = 1 := by decide +kernel
  simp only [Rat.div_def, Rat.inv_mul_rev]
  have hw : w = (n' - y' * b' - x' * a' + a' * b') * (a'⁻¹ * b'⁻¹) := by
    rw [← k2]; grind
  rw [hw]
  grind
end Tm

/-! Texts of great integers. -/
namespace Tc
open PySem PySem.Spec PyProof.Rows L2 Tm
def tx (l : List Char) : Str := ⟨(l.map Char.toNat).toArray⟩
end Tc
namespace Tc
open PySem PySem.Spec PyProof.Rows L2 Tm
end Tc
namespace Tc
open PySem PySem.Spec PyProof.Rows L2 Tm
end Tc

/-! An integer is neither True nor False. -/
namespace Tc
open PySem PySem.Spec PyProof.Rows L2
variable {X : Cx}
def rNotIB : R2 := fun x y H Q => ∃ (i : Int) (b : Bool), x = .int i ∧ y = .bl b ∧ Q (.bl true) H
theorem op_notIB : OpR X (compareOp .IsNot) rNotIB := by
  intro pins s σ H x y v u Q I rx ry h
  obtain ⟨i, b, rfl, rfl, q⟩ := h
  obtain ⟨t, rfl⟩ := rx
  cases (show u = Value.bool b from ry)
  exact wpAny_isNot_other rfl (fun z => by cases z) ⟨.bl true, H, I, rfl, q⟩
end Tc

/-! A power whose value has a name. -/
namespace Tc
open PySem PySem.Spec PyProof.Rows L2
section
variable {X : Cx}
def rPowG : R2 := fun x y H Q => ∃ i j : Int, x = .int i ∧ y = .int j ∧ CPowX i j ∧ ∀ z : Int, z = i ^ j.toNat → Q (.int z) H
end
end Tc

/-! repr of a truth. -/
namespace Tc
open PySem PySem.Spec PyProof.Rows L2
section
variable {X : Cx}
def truthText (b : Bool) : Str := if b then "True" else "False"
end
end Tc

/-! A call whose keywords name positional parameters with defaults. -/
namespace Tc
open PySem PySem.Spec PyProof.Rows L2
section
variable {K : PySem.W.Frag} {x qual : Str} {params : Arguments} {body : List Stmt} {scope : Scope} {dvs : List V} {f : Addr} {fd : FuncData} {ps : List Str}
theorem kb1 (F : FunD K x qual params body scope dvs [] f fd) (n : Nat) (ks : List Str) (hd : dvs ≠ [])
    (h : ∀ (T : Addr) (kV doc pm : Value) (an : Option Addr) (cdv ct : Value) (us its ws : List Value), us.length = n → its.length = dvs.length → ws.length = ks.length →
      ∃ k, bindArgs (PySem.W.fnOf x qual params body scope (.ref T) kV doc pm an cdv ct) ⟨us, ks.zip ws⟩ = seqItems? (.ref T) >>= k ∧ k (some its.toArray) = pure (ps.zip (us ++ ws))) :
    KBn K fd ps n ks (fun us ws => us ++ ws) (fun vs zs => vs ++ zs) := by
  obtain ⟨oc, od, dV, kV, doc, pm, an, cdv, ct, osl, rfl, lk, hcd, hD, hK⟩ := F.ex
  rcases hD with ⟨e, _⟩ | ⟨_, T, o, its, m, rfl, lT, oT, rT⟩
  · exact absurd e hd
  · refine ⟨fun s us ws X l1 l2 => ?_, fun r1 r2 => r1.append r2⟩
    obtain ⟨k, e1, e2⟩ := h T kV doc pm an cdv ct us its ws l1 rT.length.symm l2
    refine BindsTo.of_looks fun M => ?_
    rw [e1]
    exact looks_items X lT oT (.of_pure e2)
end
end Tc

set_option maxHeartbeats 2000000
/-! Defs that write lists as texts: promises where no writing of a list is under way. -/
namespace Tc
open PySem PySem.Spec PyProof.Rows L2
section
variable {P : Program} {w : World} {K : PySem.W.Frag} {mg : Str → Option Value} {base : Heap}
/-- a promise where no list is being written -/
structure FnG (P : Program) (w : World) (K : PySem.W.Frag) (mg : Str → Option Value) (base : Heap) (CX : CXT) (k : Nat) (f : Addr) (fd : FuncData) (ps : List Str) (sp : Sp) : Prop where
  lens : ∀ vs H Q E, sp vs H Q E → vs.length = ps.length
  goes : ∀ (B : Around), B.guards = some [] → ∀ (os : List Env) (s : Shared) (H : Hp) (as : Args) (us : List Value) (vs : List V) (Q : VK) (E : XK), Room k B → Env0 P w K mg base B os s H → BindsTo s fd as (ps.zip us) → Vals vs us → sp vs H Q E →
    codeAny (model P w) B (.call (.ref f) as) (CR CX os P w H s Q E) s
theorem okG {x qual : Str} {st : Stmt} {f : Addr} {fd : FuncData} {N ps : List Str} {k : Nat} {sp : Sp} (F : Fun K x qual st f fd) (S : FnScope N ps (defScope st)) (ln : ∀ vs H Q E, sp vs H Q E → vs.length = ps.length)
    (hb0 : ∀ (cdv : Value) (B : Around) (os : List Env) (s : Shared) (H : Hp) (vs : List V) (Q : VK) (E : XK), Room k (B.deeper (envOfC qual (defScope st) s.heap.objs.size f cdv)) → (B.deeper (envOfC qual (defScope st) s.heap.objs.size f cdv)).guards = some [] → sp vs H Q E →
      ∃ t, PSs (cxOf CX0 P w K mg base N qual (defScope st) f cdv B os s H E).nox (defBody st) t ∧ t { nx := fun _ H' => Q .non H', rt := Q } (start N vs) H) : FnG P w K mg base CX0 (k + 1) f fd ps sp := by
  obtain ⟨oc, od, kV, doc, pm, an, cdv, ct, osl, rfl, lk, hcd⟩ := F.ex
  constructor
  · exact ln
  intro B hg os s H as us vs Q E hr e0 hb r hs
  have hl : vs.length = ps.length := ln _ _ _ _ hs
  have bk : ∀ b o, base.get? b = some o → s.heap.get? b = some o := fun b o e => (e0.bs b o e).1
  have KX : K.In s.heap := e0.mod.kin.keeps bk
  have kinds : ∀ y ∈ ps.zip us, (defScope st).names.lookup y.1 = some .local ∨ ((defScope st).names.lookup y.1 = some .cell ∧ ((cellsFrom (s.heap.objs.size + 1) (defScope st).names []).lookup y.1).isSome = true) := by
    rintro ⟨n, v⟩ hy
    have hn := (List.of_mem_zip hy).1
    rcases S.par n hn with q | q
    · left; exact q
    · right; exact ⟨q, PySem.W.cellsFrom_some _ _ _ (.inl q)⟩
  refine codeAny_call_function hr.depth (KX _ _ lk) rfl S.co S.gen rfl (PySem.W.codeRec_of KX hcd) (hb _ _ _ _ (wpAny_newFunctionEnv_cells S.kind kinds fun env he s1 x => ?_))
  cases he
  refine ⟨(e0.mod.nolimit.keeps bk).keeps x.toInCall.keep, codeAny_func ?_⟩
  obtain ⟨t, ht, hq⟩ := hb0 cdv B os s H vs Q E (hr.deeper _) hg hs
  have I0 := inv_start S hr.hd e0 hl r x (CX := CX0) (E := E)
  refine wpAny_mono (ht.nox.run [] s1 (start N vs) H _ I0 hq) ?_ fun _ _ z => z
  intro fl s2 hz
  have done : ∀ {σ2 : L2.St} {H2 : Hp} {v : V} {u : Value}, Inv (cxOf CX0 P w K mg base N qual (defScope st) f cdv B os s H E) [] σ2 H2 s2 → RelV v u → Q v H2 → CE os P w H s Q u s2 := by
    intro σ2 H2 v u J rv q
    exact ⟨v, H2, J.os, J.bare, J.base, J.hok, rv, q⟩
  rcases fl with _ | _ | _ | u
  · obtain ⟨σ2, H2, J, q⟩ := hz
    exact done (v := V.non) (u := Value.none) J rfl q
  · obtain ⟨_, _, _, q⟩ := hz
    exact q.elim
  · obtain ⟨_, _, _, q⟩ := hz
    exact q.elim
  · obtain ⟨v, σ2, H2, J, rv, q⟩ := hz
    exact done J rv q
end
section
variable {X : Cx} {x : Str} {p pos : Pos} {e : Expr} {es : List Expr} {t : TA} {CX : CXT} {k : Nat} {f : Addr} {fd : FuncData} {ps : List Str} {sp : Sp} {ds : List Value} {dvs : List V} {E : XK}
/-- f(e, ..) of a def with such a promise -/
theorem pe_callG (F : FnG X.prog X.w X.K X.mg X.base CX k f fd ps sp) (h0 : X.A.guards = some []) (hr : Room k X.A) (gl : Gl X x) (at_ : X.mg x = some (.ref f)) (kp : PySem.W.keepIn X.K (.ref f) = true) (bi : Binds X.K fd ps ds) (dv : Vals dvs ds) (pa : Passes CX X E)
    (as : PA X (e :: es) t) (nd : (x == ("__debug__" : Str)) = false := by decide) (st : starEach (e :: es) X.env = (false, eval e X.env) :: starEach es X.env := by rfl) (np : (backTo pos (starEach es X.env)).any (·.1) = false := by rfl) :
    PE X (.Call (.Name x p) (e :: es) [] pos) (tCall sp dvs E t) := by
  constructor
  intro pins s σ H Q I h
  refine wpAny_Call_Name_kw (ld_glob I gl at_ ?_ nd)
  refine PySem.W.callWith_K (h₀ := X.base) I.ok.mod.kin kp (thn (as.run pos pins s σ H _ I h) ?_) st np
  rintro us s1 ⟨vs, H1, I1, r, q⟩
  refine ⟨I1.kIn, ?_⟩
  have rr : Vals (vs ++ dvs) (us ++ ds) := r.append dv
  have ll : (us ++ ds).length = ps.length := rr.length.symm.trans (F.lens _ _ _ _ q)
  refine wpAny_call (codeAny_mono (F.goes X.A h0 X.stack s1 H1 ⟨us, []⟩ _ _ Q E hr I1.env0 (bi s1 us I1.kIn ll) rr q) ?_)
  intro res s2 hq
  rcases res with er | fl
  · exact pa pins σ H1 s1 er s2 I1 hq
  · rcases fl with _ | _ | _ | u
    · exact hq.elim
    · exact hq.elim
    · exact hq.elim
    · exact I1.after hq
/-- repr of a display of plain data -/
def rShow (K : PySem.W.Frag) : List V → Hp → VK → Prop := fun xs H Q => ∃ v d, xs = [v] ∧ Dp K H v d ∧ d.showable = true ∧ d.hasDict = false ∧ isDisplay d = true ∧ d.depth ≤ 20 ∧ d.shown.length ≤ sizeLine ∧ Q (.str d.shown) H
theorem call_reprG (h0 : X.A.guards = some []) (hu : X.A.units + 64 < cLine) : CallR X (.builtin "repr") (rShow X.K) := by
  intro pins s σ H xs us Q I r h
  obtain ⟨v, d, rfl, hd, h1, h2, h3, h4, h5, q⟩ := h
  cases r with
  | @cons _ u _ _ rv t =>
    cases t
    obtain ⟨as, rd⟩ := Dp.reads I d v u hd rv
    obtain ⟨a, rfl⟩ := isRef_of_reads rd h3
    refine repr_of_reads' rd h1 (PyData.noDict_hsm h2) h0 (by omega) (fun _ _ e => e) (fun h' u tk hk => ?_) h5
    exact ⟨.str _, H, I.kept hk, ⟨_, rfl⟩, q⟩
end
/-- the law's own call, by such a promise -/
theorem law_goesG {P : Program} {w : World} {K : PySem.W.Frag} {mg mb : Str → Option Value} {k : Nat} {fa a : Addr} {fd : FuncData} {x : Str} {sp : Sp} {s0 : Shared} {us : List Value} {ns : List Int}
    (KX : K.In s0.heap) (hn : s0.heap.Ns mainGlobals mg) (hb : s0.heap.Ns builtinsNs mb) (hm : ∀ y : Str, y ≠ "__name__" → mb y = bootBuiltins y) (nl : s0.heap.NoLimit) (gn : s0.gens = #[])
    (ha : s0.heap.get? a = some { cls := .type "list", data := .seq us.toArray }) (hi : IntsAre us ns) (hl : ns.length ≤ sizeLine) (hr : Room k callerA)
    (F : ∀ b : Heap, K.In b → b.Ns mainGlobals mg → FnG P w K mg b CX0 k fa fd [x] sp) (bi : ∀ (s : Shared) (u : Value), BindsTo s fd ⟨[u], []⟩ [(x, u)])
    (hs : ∀ H : Hp, Only H → SqL K H a (ns.map V.int) → sp [.ref a] H (fun v _ => v = .bl true) fun _ _ _ => False) :
    codeAny (model P w) callerA (.call (.ref fa) ⟨[.ref a], []⟩) (fun r s' => r = .ok (.ret (.bool true)) ∧ OldK s0.heap s'.heap ∧ s'.os = s0.os ∧ AllBare s'.gens) s0 := by
  have rv := vals_ints hi
  have lv := hi.length
  have main : ∀ H : Hp, Only H → SqL K H a (ns.map V.int) → HOk P w H s0.heap → (∀ b, H b ≠ none → b = a) → (H a ≠ none → K.lookup a = none) →
      codeAny (model P w) callerA (.call (.ref fa) ⟨[.ref a], []⟩) (fun r s' => r = .ok (.ret (.bool true)) ∧ OldK s0.heap s'.heap ∧ s'.os = s0.os ∧ AllBare s'.gens) s0 := by
    intro H only sq ok one nk
    have free : ∀ {b : Addr} {o : Obj}, s0.heap.get? b = some o → (b = a → False) → H b = none := by
      intro b o _ ne
      rcases hh : H b with _ | u
      · rfl
      · exact (ne (one b (by rw [hh]; simp))).elim
    have stay : ∀ {b : Addr} {m : Str → Option Value}, s0.heap.Ns b m → (hidT s0.heap H).Ns b m := by
      rintro b m ⟨o, es, ep, e, d, r⟩
      refine ⟨o, es, ep, hidT_get e (free e fun z => ?_), d, r⟩
      subst z
      rw [ha] at e
      cases e
      exact absurd (show Data.seq us.toArray _ = Data.dict es ep from d) (by simp)
    have inK : K.In (hidT s0.heap H) := by
      intro b o e
      refine hidT_get (KX b o e) ?_
      rcases hh : H b with _ | u
      · rfl
      · have z := one b (by rw [hh]; simp)
        subst z
        rw [nk (by rw [hh]; simp)] at e
        cases e
    obtain ⟨mc, l1, l2⟩ := nl
    have md : Mod K mg (hidT s0.heap H) := ⟨inK, stay hn, ⟨mb, stay hb, hm⟩, mc, stay l1, l2⟩
    have en : Env0 P w K mg (hidT s0.heap H) callerA [] s0 H := ⟨rfl, md, fun b o e => of_hidT e, Nat.le_of_eq (hidT_size _ _), trivial, fun b z => (List.not_mem_nil z).elim, ok, .of_eq gn⟩
    refine codeAny_mono ((F _ inK (stay hn)).goes callerA rfl [] s0 H ⟨[.ref a], []⟩ [.ref a] [.ref a] _ _ hr en (bi s0 (.ref a)) (.cons rfl .nil) (hs H only sq)) ?_
    intro res s' h
    rcases res with er | fl
    · exact h.elim
    rcases fl with _ | _ | _ | u
    · exact h.elim
    · exact h.elim
    · exact h.elim
    obtain ⟨v, H', os, bare, un, ok', r', q⟩ := h
    obtain rfl : v = .bl true := q
    obtain rfl : u = Value.bool true := r'
    refine ⟨rfl, OldK.of_keep fun b o e => ?_, os, bare⟩
    rcases hh : H b with _ | u
    · exact un.keep b o e hh (fun z => (List.not_mem_nil z).elim) (by simp)
    · rcases only b with z | ⟨ob, xs, z⟩
      · rw [hh] at z
        cases z
      · obtain ⟨e1, _⟩ := ok b _ z
        obtain ⟨e2, _⟩ := ok' b _ (un.frzs b ob _ z)
        rw [e] at e1
        cases e1
        exact e2
  rcases hk : K.lookup a with _ | o
  · have at' : ∀ b, b ≠ a → (fun b => if b = a then some (HO.frz { cls := .type "list", data := .seq us.toArray } (.lst (ns.map V.int))) else none) b = none := fun b ne => if_neg ne
    refine main (fun b => if b = a then some (.frz { cls := .type "list", data := .seq us.toArray } (.lst (ns.map V.int))) else none) ?_ (.inl (.inr ⟨{ cls := .type "list", data := .seq us.toArray }, if_pos rfl⟩)) ?_ ?_ fun _ => hk
    · intro b
      rcases Classical.em (b = a) with z | z
      · exact .inr ⟨_, _, if_pos z⟩
      · exact .inl (at' b z)
    · intro b u z
      rcases Classical.em (b = a) with y | y
      · subst y
        cases (if_pos rfl).symm.trans z
        exact ⟨ha, by rw [List.length_map]; exact hl, us, _, rv, ha⟩
      · cases (at' b y).symm.trans z
    · intro b z
      exact Classical.byContradiction fun y => z (at' b y)
  · have e := KX a o hk
    rw [ha] at e
    cases e
    refine main (fun _ => none) (fun _ => .inl rfl) (.inr ⟨_, us.toArray, _, hk, rfl, rfl, rfl, by rw [List.size_toArray, lv]; exact hl, by simpa using rv⟩) ?_ (fun b z => (z rfl).elim) fun z => (z rfl).elim
    intro b u z
    cases (show (none : Option HO) = some u from z)
theorem walk_ofG {l : PySem.W.OpenLaw} {n k : Nat} {q : Program} {loose : List Str} {XP : (Str → Option Value) → Heap → Prop} {YP : World → Heap → Prop} {d : DefRec} {K : Params → PySem.W.Frag} {sp : World → Sp} {x : Str}
    (hn : l.most = some n) (n2 : n ≤ sizeLine) (nd : d.params.defaults = []) (hr : Room k callerA) (hY : ∀ (w : World) (h : Heap), YP w h → (K w.params).In h)
    (F : ∀ (w : World) (mg : Str → Option Value) (fa : Addr) (h : Heap), (K w.params).In h → h.Ns mainGlobals mg → mg d.name = some (.ref fa) →
      ∃ fd : FuncData, (∀ (s : Shared) (u : Value), BindsTo s fd ⟨[u], []⟩ [(x, u)]) ∧ ∀ b : Heap, (K w.params).In b → b.Ns mainGlobals mg → FnG l.prog w (K w.params) mg b CX0 k fa fd [x] (sp w))
    (hs : ∀ (w : World) (H : Hp) (a : Addr) (ns : List Int), ns.length ≤ n → Only H → SqL (K w.params) H a (ns.map V.int) → sp w [.ref a] H (fun v _ => v = .bl true) fun _ _ _ => False) :
    PySem.W.WalkO q loose XP YP l.row.toRowW d [] (fun f vs => PySem.call f vs) := by
  refine Att.attach_call hn nd ?_
  intro w s₀ s1 mg mb fa o pm cd doc a us ns G Y ho hd hcd hmg hobj hints hlen hg
  have KX := hY w _ Y
  obtain ⟨fd, hb, hF⟩ := F w mg fa _ KX G.T.g hmg
  exact law_goesG KX G.T.g G.T.b G.T.builtins G.T.nolimit hg hobj hints (Nat.le_trans hlen n2) hr hF hb (fun H hO hS => hs w H a ns hlen hO hS)
end Tc

set_option maxHeartbeats 4000000
/-! bool() of an own object with its __bool__. -/
namespace Tc
open PySem PySem.Spec PySem.Calls PyProof.Rows L2
section
open PySem.W
variable {prog : Program} {w : World} {A : Around} {E : Value → Shared → Prop} {s : Shared} {K : Frag} {x C L f g : Addr} {h₀ : Heap} {m : Str → Option Value} {ox : Obj} {od : Option Obj}
theorem truthy_K {Q : Bool → Shared → Prop} (F : Fr h₀ L s.heap m) (X₀ : K.In h₀) (I : InstAt s.heap x ox C od) (hs : findIn K (.ref C) "__bool__" = some (some (.ref f))) (hf : isFn K (.ref f) = true)
    (h : wpAny (model prog w) A (call (.ref f) [.ref x]) (fun v s' => ∃ b, v = .bool b ∧ Q b s') E s) : wpAny (model prog w) A (truthy (.ref x)) Q E s := by
  unfold truthy
  refine wpAny_bind (m := callSpecial? (.ref x) (Str.ofString "__bool__")) (special_fn (X₀.keeps F.keep) I hs (beq_iff_eq.mp hf) (wpAny_mono h (fun r s' hr => ?_) fun _ _ y => y))
  obtain ⟨b, rfl, hq⟩ := hr
  exact wpAny_pure hq
theorem bool_new_own : MeetsIn prog w (Builtin.«bool.__new__» ⟨[.type "bool", .ref x], []⟩) (fun B R s => wpAny (model prog w) B.in1 (truthy (.ref x)) (fun b s' => R (.ok (.ret (.bool b))) s') (fun e s' => R (.error e) s') s) :=
  MeetsIn.of_wp fun A R s hs => by
    obtain ⟨hp, g, d, tk, os⟩ := s
    have f1 := F.conv_sub_bool
    have tr : ∀ {Q' : Bool → Shared → Prop}, (∀ b s', R (.ok (.ret (.bool b))) s' → Q' b s') → wpAny (model prog w) A.in1 (truthy (.ref x)) Q' (fun e s' => R (.error e) s') { heap := hp, gens := g, drawn := d, toks := tk, os := os } := fun h => wpAny_mono hs (fun b s' z => h b s' z) (fun _ _ z => z)
    unfold Builtin.«bool.__new__»
    repeat (any_goals (first | assumption | with_reducible apply tr | wp_step))
    intro b s' z
    repeat (any_goals (first | assumption | wp_step))
    exact ⟨_, rfl, z⟩
theorem bool_K {Q : Value → Shared → Prop} (FR : Fr h₀ L s.heap m) (X₀ : K.In h₀) (I : InstAt s.heap x ox C od) (hs : findIn K (.ref C) "__bool__" = some (some (.ref f))) (hf : isFn K (.ref f) = true)
    (h : wpAny (model prog w) A.in1.in1 (call (.ref f) [.ref x]) (fun v s' => ∃ b, v = .bool b ∧ Q (.bool b) s') E s) : wpAny (model prog w) A (call (.type "bool") [.ref x]) Q E s := by
  refine callType_newIn F.called_bool F.newNe_bool (F.typeCall_bool_1 (.ref x)) (F.newCall_bool_1 (.ref x)) (fun obj => F.args_object_init_2 obj (.ref x)) F.entry_bool_new bool_new_own ?_
  exact truthy_K FR X₀ I hs hf (wpAny_mono h (fun v s' ⟨b, e, q⟩ => ⟨b, e, rfl, q⟩) fun _ _ z => z)
end
section
variable {X : Cx}
def rBoolO (C : Addr) (sp : Sp) (E : XK) : List V → Hp → VK → Prop := fun xs H Q => ∃ a dx fs, xs = [.ref a] ∧ H a = some (.ins C dx fs) ∧ sp [.ref a] H (fun v H' => ∃ b, v = .bl b ∧ Q (.bl b) H') E
theorem call_boolOwn {CX : CXT} {k : Nat} {f C : Addr} {fd : FuncData} {ps : List Str} {sp : Sp} {E : XK} (c : UnC X.K C f "__bool__") (F : FnOk X.prog X.w X.K X.mg X.base CX k f fd ps sp) (hb : Binds X.K fd ps []) (hx : Passes CX X E) (hr : Room (k + 1) X.A) : CallR X (.type "bool") (rBoolO C sp E) := by
  intro pins s σ H vs us Q I r h
  obtain ⟨a, dx, fs, rfl, ha, q⟩ := h
  rw [Vals.ref1 r]
  obtain ⟨mA, J, _⟩ := ins_get I.hok ha
  obtain ⟨od, J, _⟩ := J.look
  obtain ⟨m, hF⟩ := I.fr
  have hl : ([Value.ref a]).length = ps.length := (F.len _ _ _ _ q).symm ▸ rfl
  refine bool_K hF I.ok.mod.kin J c.slot c.fn ?_
  have hr2 : Room k X.A.in1.in1 := ⟨hr.hd, by have := hr.dp; show X.A.depth + 3 * k + 5 < _; omega, by have := hr.un; show X.A.units + 1 + 1 + 16 * k + 200 < _; omega⟩
  refine wpAny_call (codeAny_mono (F.run X.A.in1.in1 X.stack s H ⟨[.ref a], []⟩ [.ref a] [.ref a] _ E hr2 I.env0.in1.in1 (by simpa using hb s [.ref a] I.kIn hl) (.cons rfl .nil) q) ?_)
  intro res s' hq
  rcases res with e | fl
  · exact hx pins σ H s e s' I hq
  · rcases fl with _ | _ | _ | u
    · exact hq.elim
    · exact hq.elim
    · exact hq.elim
    · obtain ⟨v, H', J, rv, b, rfl, qq⟩ := I.after hq
      exact ⟨b, rv, ⟨.bl b, H', J, rfl, qq⟩⟩
end
end Tc

set_option maxHeartbeats 4000000
/-! != of two tuples whose things are equal one by one, by their own ==. -/
namespace Tc
open PySem PySem.Spec PyProof.Rows L2
open AutoSeq1 (wpAny_loadPart')
open MeetsSeq MeetsSeq2 MeetsSeq3 SeqRoads2
section
variable {prog : Program} {w : World} {A : Around} {R : Result → Shared → Prop}
theorem tup_neG (l b : Addr) (us vs : Array Value) (n n2 : Nat) (dd dd2 : Option Addr) (sl sl2 : Array (Option Value)) (hsz : us.size = vs.size) (I : Nat → Shared → Prop)
    (turn : ∀ i (h1 : i < us.size) (h2 : i < vs.size) s, I i s → wpAny (model prog w) A.in1 (eqBool us[i] vs[i]) (fun r s' => r = true ∧ I (i + 1) s') (fun e s' => R (.error e) s') s)
    (fin : ∀ s, I us.size s → R (.ok (.ret (.bool false))) s) {s : Shared} (hl1 : s.heap.get? l = some { cls := .type "tuple", dict := dd, data := .seq us n, slots := sl }) (hb1 : s.heap.get? b = some { cls := .type "tuple", dict := dd2, data := .seq vs n2, slots := sl2 }) (h : I 0 s) :
    wpAny (model prog w) A.in1 (Builtin.«tuple.__ne__» ⟨[.ref l, .ref b], []⟩) (GQ.FinOf prog w A R) (fun e s' => R (.error e) s') s := by
  have f2 := AutoSeq1.sub_tuple_tuple
  have zl : (us.toList.zip vs.toList).length = us.size := by simp [hsz]
  have h0 := h
  obtain ⟨hp, g, d, tk, os⟩ := s
  wp_walk using wpAny_loadPart' hl1, wpAny_loadPart' hb1, wpAny_forIn_list _ (fun rest b s' => b.1 = none ∧ ∃ i, rest = (us.toList.zip vs.toList).drop i ∧ i ≤ us.size ∧ I i s') _
  case turn =>
    rintro ⟨y, x⟩ rest b s' ⟨hb', i, hz, hi, hI⟩
    have h1 : i < us.size := by
      rcases Nat.lt_or_ge i (us.toList.zip vs.toList).length with z | z
      · omega
      · rw [List.drop_of_length_le z] at hz
        cases hz
    have h2 : i < vs.size := by omega
    rw [List.drop_eq_getElem_cons (by omega)] at hz
    injection hz with hyx hrest
    have hy : y = us[i] := by simpa using congrArg Prod.fst hyx
    have hx : x = vs[i] := by simpa using congrArg Prod.snd hyx
    subst hy hx
    refine wpAny_bind (wpAny_mono (turn i h1 h2 s' hI) (fun r s2 q2 => ?_) fun _ _ x => x)
    obtain ⟨rfl, q2⟩ := q2
    wp_walk
    exact ⟨rfl, i + 1, hrest, h1, q2⟩
  case fin =>
    rintro ⟨b1, b2⟩ s' ⟨hb', i, hz, hi, hI⟩
    simp only at hb'
    subst hb'
    have ei : i = us.size := by
      rcases Nat.lt_or_ge i (us.toList.zip vs.toList).length with z | z
      · rw [List.drop_eq_getElem_cons z] at hz
        cases hz
      · omega
    have hR : R (.ok (.ret (.bool false))) s' := fin s' (ei ▸ hI)
    wp_walk
    simpa [Builtin.Tuple.tupleCompareSizes, hsz] using hR
  case h =>
    exact ⟨rfl, 0, rfl, Nat.zero_le _, h0⟩
end
section
variable {X : Cx} {n : Nat} {D : Eqv}
def rNeG (D : Eqv) : R2 := fun x y H Q => D x y H ∧ ∀ H', Ext H H' → Q (.bl false) H'
theorem op_neG (hD : Mon D) (h : EqG X n D) (hr : Room (n + 1) X.A) : OpR X (compareOp .NotEq) (rNeG (DTup X.K D)) := by
  intro pins s σ H x y v u Q I rx ry hq
  obtain ⟨d, q⟩ := hq
  obtain ⟨a, b, xs, ys, rfl, rfl, ha, hb, p⟩ := d
  cases rx
  cases ry
  obtain ⟨its, r, e, z⟩ := I.tuple ha
  obtain ⟨its2, r2, e2, z2⟩ := I.tuple hb
  have hsz : its.toArray.size = its2.toArray.size := by rw [List.size_toArray, List.size_toArray, ← r.length, ← r2.length]; exact p.1
  have sb : Sub X (n + 1) X.A := ⟨hr, rfl⟩
  show wpAny (model X.prog X.w) X.A (richCompare .NotEq (.ref a) (.ref b)) (EP X pins σ Q) X.xe s
  obtain ⟨⟨cls, dd, data, sl⟩, ho, hc, n1, hd⟩ := id e
  obtain ⟨⟨cls2, dd2, data2, sl2⟩, ho2, hc2, n2, hd2⟩ := id e2
  simp only at hc hd hc2 hd2
  subst hc hd hc2 hd2
  refine wpAny_richCompare_same_room (op := .NotEq) ⟨_, ho, rfl⟩ ⟨_, ho2, rfl⟩ F.slot_tuple_ne (GQ.call_here F.slot_tuple_ne ⟨_, ho, rfl⟩ F.entry_tuple_ne (F.args_tuple_ne_2 _ _) ?_) sb.room.units0
  refine tup_neG (R := wants (fun v s' => v ≠ .notImplemented ∧ EP X pins σ Q v s') X.xe) a b its.toArray its2.toArray n1 n2 dd dd2 sl sl2 hsz (fun _ s' => LoopI X pins σ H s') (fun i h1 h2 s' q => turnG hD h sb p r r2 i h1 h2 s' q) (fun s' q2 => ⟨(fun x => nomatch x), ?_⟩) ho ho2 ⟨H, I, Ext.rfl'⟩
  obtain ⟨H', I', e⟩ := q2
  exact ⟨.bl false, H', I', rfl, q H' e⟩
theorem op_neTO {CX : CXT} {k : Nat} {f C : Addr} {fd : FuncData} {ps : List Str} {sp : Sp} {E : XK} {R : Addr → Addr → Hp → Prop} (c : EqC X.K C f) (F : FnOk X.prog X.w X.K X.mg X.base CX k f fd ps sp)
    (hi : ∀ vs H Q E, spEq R vs H Q E → sp vs H Q E) (hm : ∀ a b H H', Ext H H' → R a b H → R a b H') (hb : Binds X.K fd ps []) (hx : Passes CX X E) (hr : Room (k + 1) X.A) : OpR X (compareOp .NotEq) (rNeG (DTup X.K (DIns C R))) :=
  op_neG (mon_ins hm) (eqG_ins (F.imp hi) c.eq c.fn hb hx) hr
end
end Tc

/-! A comprehension's loop over any walk, its body left open: serves the outer and the inner loop of two. -/
namespace Tc
open PySem PySem.Spec PyProof.Rows L2
theorem lc_any {J : It} {n : Nat} {G : Hp → Prop} {Y : Nat → Hp → V → Hp → Prop} (w : Walk J n G Y) {g : TG} {B : L2.St → Hp → (Hp → Prop) → Prop} {σ : L2.St} {H1 : Hp} {Qd : Hp → Prop} (Pv : Nat → Hp → Prop) (h0 : Pv 0 H1) (hG : ∀ i H, i ≤ n → Pv i H → G H)
    (hs : ∀ i x H H', i < n → Pv i H → Y i H x H' → g x σ H' fun σ2 H2 => B σ2 H2 (Pv (i + 1))) (hd : ∀ H, Pv n H → Qd H) :
    ∃ W : Nat → Nat → Hp → Prop, (∃ m, W 0 m H1) ∧ ∀ i m H, W i m H →
      (J.stop i H ∧ Qd H) ∨ (J.go i H ∧ ∃ Nx : Hp → Prop, (∀ H', Nx H' → ∃ m', m' < m ∧ W (i + 1) m' H') ∧ ∀ x H', J.yld i H x H' → g x σ H' fun σ2 H2 => B σ2 H2 Nx) := by
  refine ⟨fun i m H => m = n - i ∧ i ≤ n ∧ Pv i H, ⟨n, by simp, Nat.zero_le _, h0⟩, ?_⟩
  rintro i m H ⟨rfl, hi, p⟩
  have q := hG i H hi p
  by_cases hlt : i < n
  · refine .inr ⟨w.goes i H hlt q, Pv (i + 1), fun H' p' => ⟨n - (i + 1), by omega, rfl, hlt, p'⟩, fun x H' y => hs i x H H' hlt p (w.yields i H x H' hlt q y)⟩
  · have e : i = n := by omega
    subst e
    exact .inl ⟨w.stops H q, hd H p⟩
end Tc

set_option maxHeartbeats 4000000
/-! An int != one of a class with an own __eq__: the int declines, the class answers. -/
namespace Tc
open PySem PySem.Spec PySem.Calls PyProof.Rows L2
section
open PySem.W
theorem not_int_ne (i : Int) (t : Tok) (x : Addr) : GivesAt (PlainAt x) (Builtin.«int.__ne__» ⟨[.int i t, .ref x], []⟩) (.val (Value.notImplemented)) := by
  intro prog w A R s hP h
  obtain ⟨C, dx, e⟩ := hP
  obtain ⟨hp, g, d, tk, os⟩ := s
  wp_walk
  exact h
variable {prog : Program} {w : World} {A : Around} {E : Value → Shared → Prop} {s : Shared} {K : Frag} {x C L f g : Addr} {h₀ : Heap} {m : Str → Option Value} {ox : Obj} {od : Option Obj}
theorem nerev_K {i : Int} {t : Tok} {Q : Value → Shared → Prop} (hu : A.units + 1 < cLine) (F : Fr h₀ L s.heap m) (X₀ : K.In h₀) (I : InstAt s.heap x ox C od) (hP : PlainAt x s) (hsub : subIn K (.ref C) (.type "int") = some false)
    (hne : findIn K (.ref C) "__ne__" = some (some (.builtin "object.__ne__"))) (hob : mroIn K C (.type "object") = some true) (hs : findIn K (.ref C) "__eq__" = some (some (.ref f))) (hf : isFn K (.ref f) = true)
    (h : wpAny (model prog w) A.in1 (call (.ref f) [.ref x, .int i t]) (fun v s' => ∃ r, v = .bool r ∧ Q (.bool (!r)) s') E s) : wpAny (model prog w) A (richCompare .NotEq (.int i t) (.ref x)) Q E s := by
  have X := X₀.keeps F.keep
  have one : wpAny (model prog w) A (tryCompare (.ref x) "__ne__" (.int i t)) (fun r s' => ∃ v, r = some v ∧ Q v s') E s := by
    unfold tryCompare
    refine wpAny_bind (ifNe_K hu X I hne hob hs hf (wpAny_mono h (fun v s' hv => ?_) fun _ _ e => e))
    obtain ⟨r, rfl, hq⟩ := hv
    exact ⟨r, rfl, wpAny_pure ⟨_, rfl, hq⟩⟩
  have L1 : Looks (model prog w) s.heap (typeOf (.int i t)) (.type "int") := Looks.of_pure rfl
  have L5 : Looks (model prog w) s.heap (isSubtype (.ref C) (.type "int")) false := looks_subIn X hsub
  have hnt : (Value.type "int" != Value.ref C) = true := by
    show (!(Value.type "int" == Value.ref C)) = true
    rw [Bool.eq_false_iff.mpr (fun q => by cases beq_iff_eq.mp q : ¬ (Value.type "int" == Value.ref C) = true)]
    rfl
  have dec : ∀ {Q' : Option Value → Shared → Prop}, Q' none s → wpAny (model prog w) A (tryCompare (.int i t) "__ne__" (.ref x)) Q' E s := fun q =>
    wpAny_tryCompare_declines (typeIs_int _ _ _) PySem.F.slot_int_ne (call_givesAt PySem.F.slot_int_ne (typeIs_int _ _ _) PySem.F.entry_int_ne (PySem.F.args_int_ne_2 _ _) (not_int_ne i t x) hP ⟨rfl, q⟩)
  unfold richCompare
  simp only [(typeIs_int s i t).oneThing_none]
  refine wpAny_holding (wpAny_bind (wpAny_cRoomFor (Nat.lt_of_succ_lt hu) ?_))
  rw [cmpInfo_NotEq]
  dsimp only
  refine wpAny_bind (L1.here (wpAny_bind (I.type.here ?_)))
  simp only [hnt, if_true]
  refine wpAny_bind (L5.here ?_)
  simp only [Bool.false_eq_true, if_false, Bool.not_false, if_true]
  refine wpAny_bind (dec ?_)
  refine wpAny_bind (wpAny_mono one (fun r s' z => ?_) fun _ _ e => e)
  obtain ⟨v, rfl, hq⟩ := z
  exact wpAny_pure hq
end
section
variable {X : Cx}
/-- i != y, y of the class: what the own __eq__ promises of both -/
def rNeRev (C : Addr) (sp : Sp) (E : XK) : R2 := fun x y H Q => ∃ (i : Int) (b dy : Addr) (gs : List (Str × V)), x = .int i ∧ y = .ref b ∧ H b = some (.ins C dy gs) ∧ sp [y, x] H (fun z H' => ∃ r, z = .bl r ∧ Q (.bl (!r)) H') E
theorem op_neRev {CX : CXT} {k : Nat} {f C : Addr} {fd : FuncData} {ps : List Str} {sp : Sp} {E : XK} (hsub : PySem.W.subIn X.K (.ref C) (.type "int") = some false) (c : EqC X.K C f) (F : FnOk X.prog X.w X.K X.mg X.base CX k f fd ps sp) (hb : Binds X.K fd ps []) (hx : Passes CX X E) (hr : Room (k + 1) X.A) : OpR X (compareOp .NotEq) (rNeRev C sp E) := by
  intro pins s σ H x y v u Q I rx ry h
  obtain ⟨i, b, dy, gs, rfl, rfl, hb', q⟩ := h
  obtain ⟨t, rfl⟩ := rx
  cases ry
  obtain ⟨mA, J0, _⟩ := ins_get I.hok hb'
  obtain ⟨od, J, _⟩ := J0.look
  obtain ⟨m, hF⟩ := I.fr
  have hl : ([Value.ref b, Value.int i t]).length = ps.length := by
    rw [← F.len _ _ _ _ q]
    rfl
  show wpAny (model X.prog X.w) X.A (richCompare .NotEq (.int i t) (.ref b)) (EP X pins σ Q) X.xe s
  refine nerev_K (by have := hr.units; omega) hF I.ok.mod.kin J ⟨C, dy, J0.obj⟩ hsub c.ne c.ob c.eq c.fn ?_
  refine wpAny_call (codeAny_mono (F.run X.A.in1 X.stack s H ⟨[.ref b, .int i t], []⟩ [.ref b, .int i t] [.ref b, .int i] _ E hr.in1 I.env0.in1 (by simpa using hb s [.ref b, .int i t] I.kIn hl) (.cons rfl (.cons ⟨_, rfl⟩ .nil)) q) fun r' s' hq => ?_)
  cases r' with
  | error e => exact hx pins σ H s e s' I hq
  | ok fl =>
    cases fl with
    | ret w' =>
      obtain ⟨z, H', I', rz, b', ez, q'⟩ := I.after hq
      subst ez
      cases rz
      exact ⟨b', rfl, .bl (!b'), H', I', rfl, q'⟩
    | next => exact False.elim hq
    | brk => exact False.elim hq
    | cont => exact False.elim hq
end
end Tc

/-! What stands within a comprehension names the fragment, not the block's own. -/
namespace Tc
open PySem PySem.Spec PyProof.Rows L2
def rTupK (K : PySem.W.Frag) : List V → Hp → VK → Prop := fun xs H Q => ∃ p ys, xs = [.ref p] ∧ ((SqL K H p ys ∧ ∀ l, H l = none → Q (.ref l) (upd H l (.tup ys))) ∨ (SqT K H p ys ∧ Q (.ref p) H))
end Tc

set_option maxHeartbeats 2000000
/-! Texts: read from the end, repeated. -/
namespace Tc
open PySem PySem.Spec PyProof.Rows L2
section
variable {X : Cx}
def revS (z : Str) : Str := ⟨z.cps.toList.reverse.toArray⟩
def repS (z : Str) (k : Nat) : Str := ⟨(List.replicate k z.cps.toList).flatten.toArray⟩
def tRevS (te : TE) : TE := fun σ H Q => te σ H fun x H1 => ∃ z, x = .str z ∧ z.length ≤ sizeLine ∧ Q (.str (revS z)) H1
theorem rev_cps (z : Str) : ((Builtin.Str.strSliceIndices none none (-1) z.length).filterMap (z.cps[·]?)).toArray = (revS z).cps := by
  rw [picked_rev, filterMap_get]
  · rw [List.map_map]
    unfold revS
    congr 1
    apply List.ext_getElem
    · simp [Str.length]
    · intro i h1 h2
      have hi : i < z.cps.size := by simpa [Str.length] using h1
      simp only [List.getElem_map, List.getElem_range, Function.comp, List.getElem_reverse, Array.getElem_toList, Array.length_toList]
      have : z.length - 1 - i < z.cps.size := by show z.cps.size - 1 - i < z.cps.size; omega
      show z.cps.getD (z.length - 1 - i) 0 = z.cps[z.cps.size - 1 - i]
      have e1 : z.length = z.cps.size := rfl
      simp only [e1]
      rw [Array.getD, dif_pos (by omega)]
      rfl
  · intro i hi
    obtain ⟨k, hk, rfl⟩ := List.mem_map.mp hi
    have hk' : k < z.length := List.mem_range.mp hk
    show z.length - 1 - k < z.cps.size
    show z.length - 1 - k < z.length
    omega
theorem pe_revS {e : Expr} {te : TE} {k : Nat} {p1 p2 p3 pos : Pos} (he : PE X e te) : PE X (.Subscript e (.Slice none none (some (.UnaryOp .USub (.Constant (.int 1) k p1) p2)) p3) pos) (tRevS te) := by
  refine ⟨fun pins s σ H Q I h => ?_⟩
  refine Subscript_ (thn (he.run pins s σ H _ I h) fun v s1 ⟨x, H1, I1, r1, q1⟩ => ?_)
  obtain ⟨z, ex, hz, q⟩ := q1
  subst ex
  obtain ⟨t, rfl⟩ := r1
  have hst : PO X (some (.UnaryOp .USub (.Constant (.int 1) k p1) p2)) (tPart (tUn (rU fun i => .int (-i)) (tC (.int 1)))) := po_some (pe_un un_neg pe_int)
  refine wpAny_Slice (thn (po_none.run pins s1 σ H1 (fun o H2 => o = none ∧ H2 = H1) I1 ⟨rfl, rfl⟩) fun vl s2 ⟨l, H2, I2, pl, el, e2⟩ => ?_)
  subst el e2
  refine thn (po_none.run pins s2 σ H2 (fun o H3 => o = none ∧ H3 = H2) I2 ⟨rfl, rfl⟩) fun vu s3 ⟨u, H3, I3, pu, eu, e3⟩ => ?_
  subst eu e3
  refine thn (hst.run pins s3 σ H3 (fun o H4 => o = some (-1) ∧ H4 = H3) I3 ⟨1, rfl, -1, rfl, rfl, rfl⟩) fun vs s4 ⟨o, H4, I4, ps, eo, e4⟩ => ?_
  subst eo e4
  have I5 : Inv X pins σ H4 { s4 with heap := s4.heap.push { cls := .type "slice", data := .fields #[vl, vu, vs] } } := I4.kept (t' := s4.toks) fun b ob q => Heap.get?_push_of_some _ q
  show wpAny (model X.prog X.w) X.A (subscriptTail e (.Slice none none (some (.UnaryOp .USub (.Constant (.int 1) k p1) p2)) p3) (.str z t) (.ref s4.heap.objs.size)) (EP X pins σ Q) X.xe { s4 with heap := s4.heap.push { cls := .type "slice", data := .fields #[vl, vu, vs] } }
  have pl' : IsPart vl none := pl
  have pu' : IsPart vu none := pu
  have ps' : IsPart vs (some (-1)) := ps
  obtain ⟨l, hl1, hl2⟩ := IsPart.raw pl'
  obtain ⟨u, hu1, hu2⟩ := IsPart.raw pu'
  obtain ⟨st, hs1, hs2⟩ := IsPart.raw ps'
  subst hl1 hu1 hs1
  refine tail_any (ops := [.ref s4.heap.objs.size, .str z t]) (typeIs_str _ _ _) F.slot_str_getitem.lookup ?_ (by with_unfolding_all rfl)
  refine wpAny_getItem_str_slice (l := l) (u := u) (st := st) (Heap.IsSliceOf.new s4.heap (partValue l) (partValue u) (partValue st)) (by rw [hs2]; rfl) ?_
  have e1 : (sliceMade z t l u st) = Made.str (revS z) := by
    unfold sliceMade slicePicked
    rw [hl2, hu2, hs2]
    rw [if_neg (by
      have : ((some (-1 : Int)).getD 1 == 1) = false := rfl
      rw [this]; simp)]
    exact congrArg Made.str (congrArg Str.mk (rev_cps z))
  rw [e1]
  refine ⟨?_, .str _, H4, I5.tok _, ⟨_, rfl⟩, q⟩
  show (revS z).length ≤ sizeLine
  have : (revS z).length = z.length := by unfold revS Str.length; simp
  omega
theorem op_rep_str : OpR X (binaryOp .Mult) (fun x y H Q => ∃ z k, x = .str z ∧ y = .int k ∧ 2 ≤ k ∧ k ≤ 1000 ∧ z.length ≤ 1000 ∧ Q (.str (repS z k.toNat)) H) := by
  intro pins s σ H x y v u Q I rx ry h
  obtain ⟨z, k, rfl, rfl, h2, h9, hz, q⟩ := h
  obtain ⟨t, rfl⟩ := rx
  obtain ⟨tk, rfl⟩ := ry
  have hl : z.length * k.toNat ≤ 1000000 := Nat.mul_le_mul hz (show k.toNat ≤ 1000 by omega)
  have sl : 1000000 ≤ sizeLine := by decide
  refine P.mul_str ?_ ?_ ?_ ?_
  · rw [decide_eq_false (by omega), decide_eq_false (by omega)]; rfl
  · intro _ _
    have : (1000 : Int) ≤ (2 ^ 63 - 1) / k := Int.le_ediv_of_mul_le (by omega) (by omega)
    omega
  · intro _ _
    show PySem.Builtin.Str.tooLong (z.length * k.toNat) = false
    unfold PySem.Builtin.Str.tooLong
    exact decide_eq_false (by omega)
  · rw [if_neg (by omega)]
    by_cases c : (k == 1 || z.length == 0) = true
    · rw [if_pos c]
      have z0 : z.length = 0 := by
        have : (k == 1) = false := by simp; omega
        rw [this] at c
        simpa using c
      have e : repS z k.toNat = z := by
        obtain ⟨cs⟩ := z
        have : cs.toList = [] := by
          have : cs.size = 0 := z0
          exact List.length_eq_zero_iff.mp (by simpa using this)
        unfold repS
        rw [this]
        have e2 : (List.replicate k.toNat ([] : List Nat)).flatten = [] := by simp
        rw [e2]
        congr 1
        exact Array.toList_inj.mp this.symm
      rw [e] at q
      exact ⟨.str z, H, I, ⟨t, rfl⟩, q⟩
    · rw [if_neg c]
      have e : (⟨(List.replicate k.toNat z.cps).foldl (· ++ ·) #[]⟩ : Str) = repS z k.toNat := by
        unfold repS
        congr 1
        have : ∀ (n : Nat) (a : Array Nat), ((List.replicate n z.cps).foldl (· ++ ·) a) = (a.toList ++ (List.replicate n z.cps.toList).flatten).toArray := by
          intro n
          induction n with
          | zero => intro a; simp
          | succ n ih => intro a; rw [List.replicate_succ, List.foldl_cons, ih, List.replicate_succ, List.flatten_cons]; simp
        rw [this]
        simp
      rw [e]
      refine ⟨?_, .str _, H, I.tok _, ⟨_, rfl⟩, q⟩
      have : (repS z k.toNat).length = k.toNat * z.length := by unfold repS Str.length; simp
      show (repS z k.toNat).length ≤ sizeLine
      rw [this, Nat.mul_comm]
      omega
end
end Tc

set_option maxHeartbeats 2000000
namespace Tk
open PySem PySem.Spec PyProof.Rows L2 Tc
def top (i : Nat) : Stmt := PySem.Challenge.pw_toothchain_k53_whole_steps_and_sums.main.body.getD i (.Pass ⟨0, 0, 0, 0⟩)
abbrev s_Long___init__ : Stmt := inClass (top 11) 0
abbrev n_Long___init__ : List Str := ["self", "number"]
abbrev s_is_short_integer : Stmt := top 12
abbrev n_is_short_integer : List Str := ["value"]
theorem sc_is_short_integer : FnScope n_is_short_integer ["value"] (defScope s_is_short_integer) := ⟨rfl, rfl, rfl, by decide +kernel, rfl, by decide +kernel, by decide +kernel⟩
abbrev s_is_any_integer : Stmt := top 13
abbrev n_is_any_integer : List Str := ["value"]
theorem sc_is_any_integer : FnScope n_is_any_integer ["value"] (defScope s_is_any_integer) := ⟨rfl, rfl, rfl, by decide +kernel, rfl, by decide +kernel, by decide +kernel⟩
abbrev s_checked_integer : Stmt := top 14
abbrev n_checked_integer : List Str := ["value"]
theorem sc_checked_integer : FnScope n_checked_integer ["value"] (defScope s_checked_integer) := ⟨rfl, rfl, rfl, by decide +kernel, rfl, by decide +kernel, by decide +kernel⟩
abbrev s_checked_from : Stmt := top 15
abbrev n_checked_from : List Str := ["least", "value", "number"]
theorem sc_checked_from : FnScope n_checked_from ["least", "value"] (defScope s_checked_from) := ⟨rfl, rfl, rfl, by decide +kernel, rfl, by decide +kernel, by decide +kernel⟩
abbrev s_checked_pair : Stmt := top 16
abbrev n_checked_pair : List Str := ["a", "b"]
theorem sc_checked_pair : FnScope n_checked_pair ["a", "b"] (defScope s_checked_pair) := ⟨rfl, rfl, rfl, by decide +kernel, rfl, by decide +kernel, by decide +kernel⟩
abbrev s_inverse_or_none : Stmt := top 19
abbrev n_inverse_or_none : List Str := ["a", "b", "bits", "upper", "lower"]
theorem sc_inverse_or_none : FnScope n_inverse_or_none ["a", "b"] (defScope s_inverse_or_none) := ⟨rfl, rfl, rfl, by decide +kernel, rfl, by decide +kernel, by decide +kernel⟩
abbrev s_check_coprime : Stmt := top 20
abbrev n_check_coprime : List Str := ["a", "b", "c"]
theorem sc_check_coprime : FnScope n_check_coprime ["a", "b", "c"] (defScope s_check_coprime) := ⟨rfl, rfl, rfl, by decide +kernel, rfl, by decide +kernel, by decide +kernel⟩
abbrev s_Terms___init__ : Stmt := inClass (top 22) 0
abbrev n_Terms___init__ : List Str := ["self", "above", "below", "lowest"]
theorem sc_Terms___init__ : FnScope n_Terms___init__ ["self", "above", "below", "lowest"] (defScope s_Terms___init__) := ⟨rfl, rfl, rfl, by decide +kernel, rfl, by decide +kernel, by decide +kernel⟩
abbrev s_Ratio___init__ : Stmt := inClass (top 23) 0
abbrev n_Ratio___init__ : List Str := ["self", "top", "bottom", "terms"]
theorem sc_Ratio___init__ : FnScope n_Ratio___init__ ["self", "top", "bottom"] (defScope s_Ratio___init__) := ⟨rfl, rfl, rfl, by decide +kernel, rfl, by decide +kernel, by decide +kernel⟩
abbrev s_Ratio_top : Stmt := inClass (top 23) 1
abbrev n_Ratio_top : List Str := ["self"]
theorem sc_Ratio_top : FnScope n_Ratio_top ["self"] (defScope s_Ratio_top) := ⟨rfl, rfl, rfl, by decide +kernel, rfl, by decide +kernel, by decide +kernel⟩
abbrev s_Ratio_bottom : Stmt := inClass (top 23) 2
abbrev n_Ratio_bottom : List Str := ["self"]
theorem sc_Ratio_bottom : FnScope n_Ratio_bottom ["self"] (defScope s_Ratio_bottom) := ⟨rfl, rfl, rfl, by decide +kernel, rfl, by decide +kernel, by decide +kernel⟩
abbrev s_Ratio___add__ : Stmt := inClass (top 23) 6
abbrev n_Ratio___add__ : List Str := ["self", "other", "top", "bottom"]
theorem sc_Ratio___add__ : FnScope n_Ratio___add__ ["self", "other"] (defScope s_Ratio___add__) := ⟨rfl, rfl, rfl, by decide +kernel, rfl, by decide +kernel, by decide +kernel⟩
abbrev s_Ratio___sub__ : Stmt := inClass (top 23) 8
abbrev n_Ratio___sub__ : List Str := ["self", "other", "top", "bottom"]
theorem sc_Ratio___sub__ : FnScope n_Ratio___sub__ ["self", "other"] (defScope s_Ratio___sub__) := ⟨rfl, rfl, rfl, by decide +kernel, rfl, by decide +kernel, by decide +kernel⟩
abbrev s_Ratio___mul__ : Stmt := inClass (top 23) 10
abbrev n_Ratio___mul__ : List Str := ["self", "other", "top", "bottom"]
theorem sc_Ratio___mul__ : FnScope n_Ratio___mul__ ["self", "other"] (defScope s_Ratio___mul__) := ⟨rfl, rfl, rfl, by decide +kernel, rfl, by decide +kernel, by decide +kernel⟩
abbrev s_Ratio___eq__ : Stmt := inClass (top 23) 15
abbrev n_Ratio___eq__ : List Str := ["self", "other"]
theorem sc_Ratio___eq__ : FnScope n_Ratio___eq__ ["self", "other"] (defScope s_Ratio___eq__) := ⟨rfl, rfl, rfl, by decide +kernel, rfl, by decide +kernel, by decide +kernel⟩
abbrev s_ratio_of : Stmt := top 24
abbrev n_ratio_of : List Str := ["top", "bottom"]
theorem sc_ratio_of : FnScope n_ratio_of ["top", "bottom"] (defScope s_ratio_of) := ⟨rfl, rfl, rfl, by decide +kernel, rfl, by decide +kernel, by decide +kernel⟩
abbrev s_unreduced_ratio : Stmt := top 25
abbrev n_unreduced_ratio : List Str := ["top", "bottom"]
theorem sc_unreduced_ratio : FnScope n_unreduced_ratio ["top", "bottom"] (defScope s_unreduced_ratio) := ⟨rfl, rfl, rfl, by decide +kernel, rfl, by decide +kernel, by decide +kernel⟩
abbrev s_terms_of : Stmt := top 26
abbrev n_terms_of : List Str := ["number"]
theorem sc_terms_of : FnScope n_terms_of ["number"] (defScope s_terms_of) := ⟨rfl, rfl, rfl, by decide +kernel, rfl, by decide +kernel, by decide +kernel⟩
abbrev s__plain_terms_of : Stmt := top 28
abbrev n__plain_terms_of : List Str := ["number"]
theorem sc__plain_terms_of : FnScope n__plain_terms_of ["number"] (defScope s__plain_terms_of) := ⟨rfl, rfl, rfl, by decide +kernel, rfl, by decide +kernel, by decide +kernel⟩
abbrev s__checked_terms : Stmt := top 29
abbrev n__checked_terms : List Str := ["top", "bottom"]
theorem sc__checked_terms : FnScope n__checked_terms ["top", "bottom"] (defScope s__checked_terms) := ⟨rfl, rfl, rfl, by decide +kernel, rfl, by decide +kernel, by decide +kernel⟩
abbrev s__lowest_terms : Stmt := top 30
abbrev n__lowest_terms : List Str := ["top", "bottom", "common"]
theorem sc__lowest_terms : FnScope n__lowest_terms ["top", "bottom"] (defScope s__lowest_terms) := ⟨rfl, rfl, rfl, by decide +kernel, rfl, by decide +kernel, by decide +kernel⟩
abbrev s_line_sum : Stmt := top 32
abbrev n_line_sum : List Str := ["n", "a", "c", "m", "many", "slope", "start", "bottom"]
theorem sc_line_sum : FnScope n_line_sum ["n", "a", "c", "m"] (defScope s_line_sum) := ⟨rfl, rfl, rfl, by decide +kernel, rfl, by decide +kernel, by decide +kernel⟩
abbrev s_line_moment : Stmt := top 33
abbrev n_line_moment : List Str := ["n", "a", "c", "m", "many", "slope", "start", "bottom"]
theorem sc_line_moment : FnScope n_line_moment ["n", "a", "c", "m"] (defScope s_line_moment) := ⟨rfl, rfl, rfl, by decide +kernel, rfl, by decide +kernel, by decide +kernel⟩
abbrev s_floor_total : Stmt := top 34
abbrev n_floor_total : List Str := ["n", "a", "c", "m", "result", "up", "start"]
theorem sc_floor_total : FnScope n_floor_total ["n", "a", "c", "m"] (defScope s_floor_total) := ⟨rfl, rfl, rfl, by decide +kernel, rfl, by decide +kernel, by decide +kernel⟩
abbrev s__checked_line : Stmt := top 35
abbrev n__checked_line : List Str := ["n", "a", "c", "m"]
theorem sc__checked_line : FnScope n__checked_line ["n", "a", "c", "m"] (defScope s__checked_line) := ⟨rfl, rfl, rfl, by decide +kernel, rfl, by decide +kernel, by decide +kernel⟩
abbrev s__powers : Stmt := top 36
abbrev n__powers : List Str := ["n"]
theorem sc__powers : FnScope n__powers ["n"] (defScope s__powers) := ⟨rfl, rfl, rfl, by decide +kernel, rfl, by decide +kernel, by decide +kernel⟩
abbrev s__floor_totals : Stmt := top 37
abbrev n__floor_totals : List Str := ["n", "a", "c", "m", "layers", "high", "up", "start", "totals", "many", "top"]
theorem sc__floor_totals : FnScope n__floor_totals ["n", "a", "c", "m"] (defScope s__floor_totals) := ⟨rfl, rfl, rfl, by decide +kernel, rfl, by decide +kernel, by decide +kernel⟩
abbrev s__mirrored : Stmt := top 38
abbrev n__mirrored : List Str := ["n", "high", "totals", "plain", "moment", "square", "ones"]
theorem sc__mirrored : FnScope n__mirrored ["n", "high", "totals"] (defScope s__mirrored) := ⟨rfl, rfl, rfl, by decide +kernel, rfl, by decide +kernel, by decide +kernel⟩
abbrev s__lifted : Stmt := top 39
abbrev n__lifted : List Str := ["n", "up", "start", "totals", "plain", "moment", "square", "ones", "indices", "squares", "added"]
theorem sc__lifted : FnScope n__lifted ["n", "up", "start", "totals"] (defScope s__lifted) := ⟨rfl, rfl, rfl, by decide +kernel, rfl, by decide +kernel, by decide +kernel⟩
abbrev s_tooth : Stmt := top 42
abbrev n_tooth : List Str := ["number", "top", "bottom"]
theorem sc_tooth : FnScope n_tooth ["number"] (defScope s_tooth) := ⟨rfl, rfl, rfl, by decide +kernel, rfl, by decide +kernel, by decide +kernel⟩
abbrev s_tooth_sum : Stmt := top 43
abbrev n_tooth_sum : List Str := ["a", "b", "first", "second"]
theorem sc_tooth_sum : FnScope n_tooth_sum ["a", "b"] (defScope s_tooth_sum) := ⟨rfl, rfl, rfl, by decide +kernel, rfl, by decide +kernel, by decide +kernel⟩
abbrev s_sum_of : Stmt := top 44
abbrev n_sum_of : List Str := ["a", "b"]
theorem sc_sum_of : FnScope n_sum_of ["a", "b"] (defScope s_sum_of) := ⟨rfl, rfl, rfl, by decide +kernel, rfl, by decide +kernel, by decide +kernel⟩
abbrev s_sum_top : Stmt := top 45
abbrev n_sum_top : List Str := ["a", "b", "rest", "alternating", "factor", "common", "turn"]
theorem sc_sum_top : FnScope n_sum_top ["a", "b"] (defScope s_sum_top) := ⟨rfl, rfl, rfl, by decide +kernel, rfl, by decide +kernel, by decide +kernel⟩
abbrev s_tooth_top : Stmt := top 46
abbrev n_tooth_top : List Str := ["top", "bottom", "rest"]
theorem sc_tooth_top : FnScope n_tooth_top ["top", "bottom"] (defScope s_tooth_top) := ⟨rfl, rfl, rfl, by decide +kernel, rfl, by decide +kernel, by decide +kernel⟩
abbrev s__steps : Stmt := top 47
abbrev n__steps : List Str := ["upper", "lower", "alternating", "before", "last", "up", "down"]
theorem sc__steps : FnScope n__steps ["upper", "lower"] (defScope s__steps) := ⟨rfl, rfl, rfl, by decide +kernel, rfl, by decide +kernel, by decide +kernel⟩
abbrev s__long_sum_top : Stmt := top 48
abbrev n__long_sum_top : List Str := ["b", "rest", "bits", "upper", "lower", "alternating", "end", "up", "down", "one", "other", "more", "factor", "common", "turn", "last"]
theorem sc__long_sum_top : FnScope n__long_sum_top ["b", "rest"] (defScope s__long_sum_top) := ⟨rfl, rfl, rfl, by decide +kernel, rfl, by decide +kernel, by decide +kernel⟩
abbrev s_triangle_points : Stmt := top 50
abbrev n_triangle_points : List Str := ["a", "b", "limit", "first", "second", "most"]
theorem sc_triangle_points : FnScope n_triangle_points ["a", "b", "limit"] (defScope s_triangle_points) := ⟨rfl, rfl, rfl, by decide +kernel, rfl, by decide +kernel, by decide +kernel⟩
abbrev s_triangle_inner : Stmt := top 51
abbrev n_triangle_inner : List Str := ["a", "b", "limit", "first", "second", "most"]
theorem sc_triangle_inner : FnScope n_triangle_inner ["a", "b", "limit"] (defScope s_triangle_inner) := ⟨rfl, rfl, rfl, by decide +kernel, rfl, by decide +kernel, by decide +kernel⟩
abbrev s_points_up_to : Stmt := top 52
abbrev n_points_up_to : List Str := ["a", "b", "limit", "rows", "rest"]
theorem sc_points_up_to : FnScope n_points_up_to ["a", "b", "limit"] (defScope s_points_up_to) := ⟨rfl, rfl, rfl, by decide +kernel, rfl, by decide +kernel, by decide +kernel⟩
abbrev s__checked_triangle : Stmt := top 53
abbrev n__checked_triangle : List Str := ["a", "b", "limit"]
theorem sc__checked_triangle : FnScope n__checked_triangle ["a", "b", "limit"] (defScope s__checked_triangle) := ⟨rfl, rfl, rfl, by decide +kernel, rfl, by decide +kernel, by decide +kernel⟩
abbrev s_reaches : Stmt := top 55
abbrev n_reaches : List Str := ["a", "b", "number", "first", "second", "wanted"]
theorem sc_reaches : FnScope n_reaches ["a", "b", "number"] (defScope s_reaches) := ⟨rfl, rfl, rfl, by decide +kernel, rfl, by decide +kernel, by decide +kernel⟩
abbrev s_ways : Stmt := top 56
abbrev n_ways : List Str := ["a", "b", "number", "first", "second", "wanted"]
theorem sc_ways : FnScope n_ways ["a", "b", "number"] (defScope s_ways) := ⟨rfl, rfl, rfl, by decide +kernel, rfl, by decide +kernel, by decide +kernel⟩
abbrev s_gap_count : Stmt := top 57
abbrev n_gap_count : List Str := ["a", "b", "first", "second"]
theorem sc_gap_count : FnScope n_gap_count ["a", "b"] (defScope s_gap_count) := ⟨rfl, rfl, rfl, by decide +kernel, rfl, by decide +kernel, by decide +kernel⟩
abbrev s_gap_total : Stmt := top 58
abbrev n_gap_total : List Str := ["a", "b", "first", "second"]
theorem sc_gap_total : FnScope n_gap_total ["a", "b"] (defScope s_gap_total) := ⟨rfl, rfl, rfl, by decide +kernel, rfl, by decide +kernel, by decide +kernel⟩
abbrev s_gaps_below : Stmt := top 59
abbrev n_gaps_below : List Str := ["a", "b", "limit", "first", "second", "end"]
theorem sc_gaps_below : FnScope n_gaps_below ["a", "b", "limit"] (defScope s_gaps_below) := ⟨rfl, rfl, rfl, by decide +kernel, rfl, by decide +kernel, by decide +kernel⟩
abbrev s__checked_steps : Stmt := top 60
abbrev n__checked_steps : List Str := ["a", "b", "first", "second"]
theorem sc__checked_steps : FnScope n__checked_steps ["a", "b"] (defScope s__checked_steps) := ⟨rfl, rfl, rfl, by decide +kernel, rfl, by decide +kernel, by decide +kernel⟩
abbrev s__checked_steps_to : Stmt := top 61
abbrev n__checked_steps_to : List Str := ["a", "b", "number", "first", "second", "wanted"]
theorem sc__checked_steps_to : FnScope n__checked_steps_to ["a", "b", "number"] (defScope s__checked_steps_to) := ⟨rfl, rfl, rfl, by decide +kernel, rfl, by decide +kernel, by decide +kernel⟩
abbrev s__least_steps : Stmt := top 62
abbrev n__least_steps : List Str := ["a", "b", "number"]
theorem sc__least_steps : FnScope n__least_steps ["a", "b", "number"] (defScope s__least_steps) := ⟨rfl, rfl, rfl, by decide +kernel, rfl, by decide +kernel, by decide +kernel⟩
abbrev s__many_ways : Stmt := top 63
abbrev n__many_ways : List Str := ["a", "b", "number", "least", "rest"]
theorem sc__many_ways : FnScope n__many_ways ["a", "b", "number", "least"] (defScope s__many_ways) := ⟨rfl, rfl, rfl, by decide +kernel, rfl, by decide +kernel, by decide +kernel⟩
abbrev s__gap_count : Stmt := top 64
abbrev n__gap_count : List Str := ["a", "b"]
theorem sc__gap_count : FnScope n__gap_count ["a", "b"] (defScope s__gap_count) := ⟨rfl, rfl, rfl, by decide +kernel, rfl, by decide +kernel, by decide +kernel⟩
abbrev s__last_gap : Stmt := top 65
abbrev n__last_gap : List Str := ["a", "b"]
theorem sc__last_gap : FnScope n__last_gap ["a", "b"] (defScope s__last_gap) := ⟨rfl, rfl, rfl, by decide +kernel, rfl, by decide +kernel, by decide +kernel⟩
abbrev s__gaps_below : Stmt := top 66
abbrev n__gaps_below : List Str := ["a", "b", "limit"]
theorem sc__gaps_below : FnScope n__gaps_below ["a", "b", "limit"] (defScope s__gaps_below) := ⟨rfl, rfl, rfl, by decide +kernel, rfl, by decide +kernel, by decide +kernel⟩
abbrev s__law_purse_of : Stmt := top 68
abbrev n__law_purse_of : List Str := ["_law_script", "_law_at", "_law_cell", "_law_great_here"]
theorem sc__law_purse_of : FnScope n__law_purse_of ["_law_script", "_law_at"] (defScope s__law_purse_of) := ⟨rfl, rfl, rfl, by decide +kernel, rfl, by decide +kernel, by decide +kernel⟩
abbrev s__law_coin : Stmt := top 69
abbrev n__law_coin : List Str := ["_law_purse", "_law_total", "_law_found", "_law_one", "_law_two", "_law_three"]
theorem sc__law_coin : FnScope n__law_coin ["_law_purse", "_law_total"] (defScope s__law_coin) := ⟨rfl, rfl, rfl, by decide +kernel, rfl, by decide +kernel, by decide +kernel⟩
abbrev s__law_pick : Stmt := top 70
abbrev n__law_pick : List Str := ["_law_purse", "_law_items"]
theorem sc__law_pick : FnScope n__law_pick ["_law_purse", "_law_items"] (defScope s__law_pick) := ⟨rfl, rfl, rfl, by decide +kernel, rfl, by decide +kernel, by decide +kernel⟩
abbrev s__law_common : Stmt := top 71
abbrev n__law_common : List Str := ["_law_one", "_law_other", "_law_turn"]
theorem sc__law_common : FnScope n__law_common ["_law_one", "_law_other"] (defScope s__law_common) := ⟨rfl, rfl, rfl, by decide +kernel, rfl, by decide +kernel, by decide +kernel⟩
abbrev s__law_low : Stmt := top 72
abbrev n__law_low : List Str := ["_law_top", "_law_bottom", "_law_common_here"]
theorem sc__law_low : FnScope n__law_low ["_law_top", "_law_bottom"] (defScope s__law_low) := ⟨rfl, rfl, rfl, by decide +kernel, rfl, by decide +kernel, by decide +kernel⟩
abbrev s__law_pair_of : Stmt := top 76
abbrev n__law_pair_of : List Str := ["_law_ratio"]
theorem sc__law_pair_of : FnScope n__law_pair_of ["_law_ratio"] (defScope s__law_pair_of) := ⟨rfl, rfl, rfl, by decide +kernel, rfl, by decide +kernel, by decide +kernel⟩
abbrev s__law_sum : Stmt := top 78
abbrev n__law_sum : List Str := ["_law_a", "_law_b", "_law_common_here", "_law_q", "_law_p", "_law_rows", "_law_turn", "_law_found"]
theorem sc__law_sum : FnScope n__law_sum ["_law_a", "_law_b"] (defScope s__law_sum) := ⟨rfl, rfl, rfl, by decide +kernel, rfl, by decide +kernel, by decide +kernel⟩
abbrev s__law_great : Stmt := top 79
abbrev n__law_great : List Str := ["_law_purse", "_law_digits", "_law_found", "_law_turn"]
theorem sc__law_great : FnScope n__law_great ["_law_purse", "_law_digits"] (defScope s__law_great) := ⟨rfl, rfl, rfl, by decide +kernel, rfl, by decide +kernel, by decide +kernel⟩
abbrev s__law_two_drawn : Stmt := top 81
abbrev n__law_two_drawn : List Str := ["_law_purse", "_law_top", "_law_a", "_law_b", "_law_common_here"]
theorem sc__law_two_drawn : FnScope n__law_two_drawn ["_law_purse", "_law_top"] (defScope s__law_two_drawn) := ⟨rfl, rfl, rfl, by decide +kernel, rfl, by decide +kernel, by decide +kernel⟩
abbrev s__law_inverse : Stmt := top 83
abbrev n__law_inverse : List Str := ["_law_p", "_law_q", "_law_before", "_law_now", "_law_one", "_law_other", "_law_turn", "_law_times_here"]
theorem sc__law_inverse : FnScope n__law_inverse ["_law_p", "_law_q"] (defScope s__law_inverse) := ⟨rfl, rfl, rfl, by decide +kernel, rfl, by decide +kernel, by decide +kernel⟩
abbrev s__law_ways_right : Stmt := top 84
abbrev n__law_ways_right : List Str := ["_law_purse", "_law_a", "_law_b", "_law_limit", "_law_number", "_law_held", "_law_one", "_law_two"]
theorem sc__law_ways_right : FnScope n__law_ways_right ["_law_purse"] (defScope s__law_ways_right) := ⟨rfl, rfl, rfl, by decide +kernel, rfl, by decide +kernel, by decide +kernel⟩
abbrev s__law_teeth_right : Stmt := top 85
abbrev n__law_teeth_right : List Str := ["_law_a", "_law_b", "_law_number", "_law_one", "_law_two", "_law_ends", "_law_due"]
theorem sc__law_teeth_right : FnScope n__law_teeth_right ["_law_a", "_law_b", "_law_number"] (defScope s__law_teeth_right) := ⟨rfl, rfl, rfl, by decide +kernel, rfl, by decide +kernel, by decide +kernel⟩
abbrev s__law_gaps_right : Stmt := top 86
abbrev n__law_gaps_right : List Str := ["_law_purse", "_law_a", "_law_b", "_law_moment", "_law_other", "_law_total", "_law_due"]
theorem sc__law_gaps_right : FnScope n__law_gaps_right ["_law_purse"] (defScope s__law_gaps_right) := ⟨rfl, rfl, rfl, by decide +kernel, rfl, by decide +kernel, by decide +kernel⟩
abbrev s_law : Stmt := top 87
abbrev n_law : List Str := ["_law_script", "_law_spot", "_law_purse", "_law_turn"]
theorem sc_law : FnScope n_law ["_law_script"] (defScope s_law) := ⟨rfl, rfl, rfl, by decide +kernel, rfl, by decide +kernel, by decide +kernel⟩
/-- where things stand -/
structure Ad where
  f_Long___init__ : Addr
  d_Long___init__ : FuncData
  f_is_short_integer : Addr
  d_is_short_integer : FuncData
  f_is_any_integer : Addr
  d_is_any_integer : FuncData
  f_checked_integer : Addr
  d_checked_integer : FuncData
  f_checked_from : Addr
  d_checked_from : FuncData
  f_checked_pair : Addr
  d_checked_pair : FuncData
  f_inverse_or_none : Addr
  d_inverse_or_none : FuncData
  f_check_coprime : Addr
  d_check_coprime : FuncData
  f_Terms___init__ : Addr
  d_Terms___init__ : FuncData
  f_Ratio___init__ : Addr
  d_Ratio___init__ : FuncData
  f_Ratio_top : Addr
  d_Ratio_top : FuncData
  f_Ratio_bottom : Addr
  d_Ratio_bottom : FuncData
  f_Ratio___add__ : Addr
  d_Ratio___add__ : FuncData
  f_Ratio___sub__ : Addr
  d_Ratio___sub__ : FuncData
  f_Ratio___mul__ : Addr
  d_Ratio___mul__ : FuncData
  f_Ratio___eq__ : Addr
  d_Ratio___eq__ : FuncData
  f_ratio_of : Addr
  d_ratio_of : FuncData
  f_unreduced_ratio : Addr
  d_unreduced_ratio : FuncData
  f_terms_of : Addr
  d_terms_of : FuncData
  f__plain_terms_of : Addr
  d__plain_terms_of : FuncData
  f__checked_terms : Addr
  d__checked_terms : FuncData
  f__lowest_terms : Addr
  d__lowest_terms : FuncData
  f_line_sum : Addr
  d_line_sum : FuncData
  f_line_moment : Addr
  d_line_moment : FuncData
  f_floor_total : Addr
  d_floor_total : FuncData
  f__checked_line : Addr
  d__checked_line : FuncData
  f__powers : Addr
  d__powers : FuncData
  f__floor_totals : Addr
  d__floor_totals : FuncData
  f__mirrored : Addr
  d__mirrored : FuncData
  f__lifted : Addr
  d__lifted : FuncData
  f_tooth : Addr
  d_tooth : FuncData
  f_tooth_sum : Addr
  d_tooth_sum : FuncData
  f_sum_of : Addr
  d_sum_of : FuncData
  f_sum_top : Addr
  d_sum_top : FuncData
  f_tooth_top : Addr
  d_tooth_top : FuncData
  f__steps : Addr
  d__steps : FuncData
  f__long_sum_top : Addr
  d__long_sum_top : FuncData
  f_triangle_points : Addr
  d_triangle_points : FuncData
  f_triangle_inner : Addr
  d_triangle_inner : FuncData
  f_points_up_to : Addr
  d_points_up_to : FuncData
  f__checked_triangle : Addr
  d__checked_triangle : FuncData
  f_reaches : Addr
  d_reaches : FuncData
  f_ways : Addr
  d_ways : FuncData
  f_gap_count : Addr
  d_gap_count : FuncData
  f_gap_total : Addr
  d_gap_total : FuncData
  f_gaps_below : Addr
  d_gaps_below : FuncData
  f__checked_steps : Addr
  d__checked_steps : FuncData
  f__checked_steps_to : Addr
  d__checked_steps_to : FuncData
  f__least_steps : Addr
  d__least_steps : FuncData
  f__many_ways : Addr
  d__many_ways : FuncData
  f__gap_count : Addr
  d__gap_count : FuncData
  f__last_gap : Addr
  d__last_gap : FuncData
  f__gaps_below : Addr
  d__gaps_below : FuncData
  f__law_purse_of : Addr
  d__law_purse_of : FuncData
  f__law_coin : Addr
  d__law_coin : FuncData
  f__law_pick : Addr
  d__law_pick : FuncData
  f__law_common : Addr
  d__law_common : FuncData
  f__law_low : Addr
  d__law_low : FuncData
  f__law_pair_of : Addr
  d__law_pair_of : FuncData
  f__law_sum : Addr
  d__law_sum : FuncData
  f__law_great : Addr
  d__law_great : FuncData
  f__law_two_drawn : Addr
  d__law_two_drawn : FuncData
  f__law_inverse : Addr
  d__law_inverse : FuncData
  f__law_ways_right : Addr
  d__law_ways_right : FuncData
  f__law_teeth_right : Addr
  d__law_teeth_right : FuncData
  f__law_gaps_right : Addr
  d__law_gaps_right : FuncData
  f_law : Addr
  d_law : FuncData
  pp_Ratio_top : Addr
  pp_Ratio_bottom : Addr
  a_Long : Addr
  a_Terms : Addr
  a_Ratio : Addr
/-- what the top has written -/
structure Txt (K : PySem.W.Frag) (mg : Str → Option Value) (A : Ad) : Prop where
  F_Long___init__ : Fun K "__init__" "Long.__init__" s_Long___init__ A.f_Long___init__ A.d_Long___init__
  b_Long___init__ : Binds K A.d_Long___init__ ["self", "number"] []
  mk_Long : Mk K A.a_Long A.f_Long___init__
  F_is_short_integer : Fun K "is_short_integer" "is_short_integer" s_is_short_integer A.f_is_short_integer A.d_is_short_integer
  b_is_short_integer : Binds K A.d_is_short_integer ["value"] []
  m_is_short_integer : mg "is_short_integer" = some (.ref A.f_is_short_integer)
  F_is_any_integer : Fun K "is_any_integer" "is_any_integer" s_is_any_integer A.f_is_any_integer A.d_is_any_integer
  b_is_any_integer : Binds K A.d_is_any_integer ["value"] []
  m_is_any_integer : mg "is_any_integer" = some (.ref A.f_is_any_integer)
  F_checked_integer : Fun K "checked_integer" "checked_integer" s_checked_integer A.f_checked_integer A.d_checked_integer
  b_checked_integer : Binds K A.d_checked_integer ["value"] []
  m_checked_integer : mg "checked_integer" = some (.ref A.f_checked_integer)
  F_checked_from : Fun K "checked_from" "checked_from" s_checked_from A.f_checked_from A.d_checked_from
  b_checked_from : Binds K A.d_checked_from ["least", "value"] []
  m_checked_from : mg "checked_from" = some (.ref A.f_checked_from)
  F_checked_pair : Fun K "checked_pair" "checked_pair" s_checked_pair A.f_checked_pair A.d_checked_pair
  b_checked_pair : Binds K A.d_checked_pair ["a", "b"] []
  m_checked_pair : mg "checked_pair" = some (.ref A.f_checked_pair)
  F_inverse_or_none : Fun K "inverse_or_none" "inverse_or_none" s_inverse_or_none A.f_inverse_or_none A.d_inverse_or_none
  b_inverse_or_none : Binds K A.d_inverse_or_none ["a", "b"] []
  m_inverse_or_none : mg "inverse_or_none" = some (.ref A.f_inverse_or_none)
  F_check_coprime : FunD K "check_coprime" "check_coprime" (defArgs s_check_coprime) (defBody s_check_coprime) (defScope s_check_coprime) [V.int (1)] [] A.f_check_coprime A.d_check_coprime
  b1_check_coprime : ∃ ds, Vals [V.int (1)] ds ∧ Binds K A.d_check_coprime ["a", "b", "c"] ds
  b_check_coprime : Binds K A.d_check_coprime ["a", "b", "c"] []
  m_check_coprime : mg "check_coprime" = some (.ref A.f_check_coprime)
  F_Terms___init__ : Fun K "__init__" "Terms.__init__" s_Terms___init__ A.f_Terms___init__ A.d_Terms___init__
  b_Terms___init__ : Binds K A.d_Terms___init__ ["self", "above", "below", "lowest"] []
  mk_Terms : Mk K A.a_Terms A.f_Terms___init__
  F_Ratio___init__ : FunD K "__init__" "Ratio.__init__" (defArgs s_Ratio___init__) (defBody s_Ratio___init__) (defScope s_Ratio___init__) [V.int (1)] [] A.f_Ratio___init__ A.d_Ratio___init__
  b1_Ratio___init__ : ∃ ds, Vals [V.int (1)] ds ∧ Binds K A.d_Ratio___init__ ["self", "top", "bottom"] ds
  b_Ratio___init__ : Binds K A.d_Ratio___init__ ["self", "top", "bottom"] []
  mk_Ratio : Mk K A.a_Ratio A.f_Ratio___init__
  F_Ratio_top : Fun K "top" "Ratio.top" s_Ratio_top A.f_Ratio_top A.d_Ratio_top
  b_Ratio_top : Binds K A.d_Ratio_top ["self"] []
  p_Ratio_top : PropOf K A.a_Ratio "top" A.pp_Ratio_top A.f_Ratio_top
  F_Ratio_bottom : Fun K "bottom" "Ratio.bottom" s_Ratio_bottom A.f_Ratio_bottom A.d_Ratio_bottom
  b_Ratio_bottom : Binds K A.d_Ratio_bottom ["self"] []
  p_Ratio_bottom : PropOf K A.a_Ratio "bottom" A.pp_Ratio_bottom A.f_Ratio_bottom
  F_Ratio___add__ : Fun K "__add__" "Ratio.__add__" s_Ratio___add__ A.f_Ratio___add__ A.d_Ratio___add__
  b_Ratio___add__ : Binds K A.d_Ratio___add__ ["self", "other"] []
  me_Ratio___add__ : Meth K A.a_Ratio "__add__" A.f_Ratio___add__
  F_Ratio___sub__ : Fun K "__sub__" "Ratio.__sub__" s_Ratio___sub__ A.f_Ratio___sub__ A.d_Ratio___sub__
  b_Ratio___sub__ : Binds K A.d_Ratio___sub__ ["self", "other"] []
  me_Ratio___sub__ : Meth K A.a_Ratio "__sub__" A.f_Ratio___sub__
  F_Ratio___mul__ : Fun K "__mul__" "Ratio.__mul__" s_Ratio___mul__ A.f_Ratio___mul__ A.d_Ratio___mul__
  b_Ratio___mul__ : Binds K A.d_Ratio___mul__ ["self", "other"] []
  me_Ratio___mul__ : Meth K A.a_Ratio "__mul__" A.f_Ratio___mul__
  F_Ratio___eq__ : Fun K "__eq__" "Ratio.__eq__" s_Ratio___eq__ A.f_Ratio___eq__ A.d_Ratio___eq__
  b_Ratio___eq__ : Binds K A.d_Ratio___eq__ ["self", "other"] []
  me_Ratio___eq__ : Meth K A.a_Ratio "__eq__" A.f_Ratio___eq__
  F_ratio_of : Fun K "ratio_of" "ratio_of" s_ratio_of A.f_ratio_of A.d_ratio_of
  b_ratio_of : Binds K A.d_ratio_of ["top", "bottom"] []
  m_ratio_of : mg "ratio_of" = some (.ref A.f_ratio_of)
  F_unreduced_ratio : Fun K "unreduced_ratio" "unreduced_ratio" s_unreduced_ratio A.f_unreduced_ratio A.d_unreduced_ratio
  b_unreduced_ratio : Binds K A.d_unreduced_ratio ["top", "bottom"] []
  m_unreduced_ratio : mg "unreduced_ratio" = some (.ref A.f_unreduced_ratio)
  F_terms_of : Fun K "terms_of" "terms_of" s_terms_of A.f_terms_of A.d_terms_of
  b_terms_of : Binds K A.d_terms_of ["number"] []
  m_terms_of : mg "terms_of" = some (.ref A.f_terms_of)
  F__plain_terms_of : Fun K "_plain_terms_of" "_plain_terms_of" s__plain_terms_of A.f__plain_terms_of A.d__plain_terms_of
  b__plain_terms_of : Binds K A.d__plain_terms_of ["number"] []
  m__plain_terms_of : mg "_plain_terms_of" = some (.ref A.f__plain_terms_of)
  F__checked_terms : Fun K "_checked_terms" "_checked_terms" s__checked_terms A.f__checked_terms A.d__checked_terms
  b__checked_terms : Binds K A.d__checked_terms ["top", "bottom"] []
  m__checked_terms : mg "_checked_terms" = some (.ref A.f__checked_terms)
  F__lowest_terms : Fun K "_lowest_terms" "_lowest_terms" s__lowest_terms A.f__lowest_terms A.d__lowest_terms
  b__lowest_terms : Binds K A.d__lowest_terms ["top", "bottom"] []
  m__lowest_terms : mg "_lowest_terms" = some (.ref A.f__lowest_terms)
  F_line_sum : Fun K "line_sum" "line_sum" s_line_sum A.f_line_sum A.d_line_sum
  b_line_sum : Binds K A.d_line_sum ["n", "a", "c", "m"] []
  m_line_sum : mg "line_sum" = some (.ref A.f_line_sum)
  F_line_moment : Fun K "line_moment" "line_moment" s_line_moment A.f_line_moment A.d_line_moment
  b_line_moment : Binds K A.d_line_moment ["n", "a", "c", "m"] []
  m_line_moment : mg "line_moment" = some (.ref A.f_line_moment)
  F_floor_total : Fun K "floor_total" "floor_total" s_floor_total A.f_floor_total A.d_floor_total
  b_floor_total : Binds K A.d_floor_total ["n", "a", "c", "m"] []
  m_floor_total : mg "floor_total" = some (.ref A.f_floor_total)
  F__checked_line : Fun K "_checked_line" "_checked_line" s__checked_line A.f__checked_line A.d__checked_line
  b__checked_line : Binds K A.d__checked_line ["n", "a", "c", "m"] []
  m__checked_line : mg "_checked_line" = some (.ref A.f__checked_line)
  F__powers : Fun K "_powers" "_powers" s__powers A.f__powers A.d__powers
  b__powers : Binds K A.d__powers ["n"] []
  m__powers : mg "_powers" = some (.ref A.f__powers)
  F__floor_totals : Fun K "_floor_totals" "_floor_totals" s__floor_totals A.f__floor_totals A.d__floor_totals
  b__floor_totals : Binds K A.d__floor_totals ["n", "a", "c", "m"] []
  m__floor_totals : mg "_floor_totals" = some (.ref A.f__floor_totals)
  F__mirrored : Fun K "_mirrored" "_mirrored" s__mirrored A.f__mirrored A.d__mirrored
  b__mirrored : Binds K A.d__mirrored ["n", "high", "totals"] []
  m__mirrored : mg "_mirrored" = some (.ref A.f__mirrored)
  F__lifted : Fun K "_lifted" "_lifted" s__lifted A.f__lifted A.d__lifted
  b__lifted : Binds K A.d__lifted ["n", "up", "start", "totals"] []
  m__lifted : mg "_lifted" = some (.ref A.f__lifted)
  F_tooth : Fun K "tooth" "tooth" s_tooth A.f_tooth A.d_tooth
  b_tooth : Binds K A.d_tooth ["number"] []
  m_tooth : mg "tooth" = some (.ref A.f_tooth)
  F_tooth_sum : Fun K "tooth_sum" "tooth_sum" s_tooth_sum A.f_tooth_sum A.d_tooth_sum
  b_tooth_sum : Binds K A.d_tooth_sum ["a", "b"] []
  m_tooth_sum : mg "tooth_sum" = some (.ref A.f_tooth_sum)
  F_sum_of : Fun K "sum_of" "sum_of" s_sum_of A.f_sum_of A.d_sum_of
  b_sum_of : Binds K A.d_sum_of ["a", "b"] []
  m_sum_of : mg "sum_of" = some (.ref A.f_sum_of)
  F_sum_top : Fun K "sum_top" "sum_top" s_sum_top A.f_sum_top A.d_sum_top
  b_sum_top : Binds K A.d_sum_top ["a", "b"] []
  m_sum_top : mg "sum_top" = some (.ref A.f_sum_top)
  F_tooth_top : Fun K "tooth_top" "tooth_top" s_tooth_top A.f_tooth_top A.d_tooth_top
  b_tooth_top : Binds K A.d_tooth_top ["top", "bottom"] []
  m_tooth_top : mg "tooth_top" = some (.ref A.f_tooth_top)
  F__steps : Fun K "_steps" "_steps" s__steps A.f__steps A.d__steps
  b__steps : Binds K A.d__steps ["upper", "lower"] []
  m__steps : mg "_steps" = some (.ref A.f__steps)
  F__long_sum_top : Fun K "_long_sum_top" "_long_sum_top" s__long_sum_top A.f__long_sum_top A.d__long_sum_top
  b__long_sum_top : Binds K A.d__long_sum_top ["b", "rest"] []
  m__long_sum_top : mg "_long_sum_top" = some (.ref A.f__long_sum_top)
  F_triangle_points : Fun K "triangle_points" "triangle_points" s_triangle_points A.f_triangle_points A.d_triangle_points
  b_triangle_points : Binds K A.d_triangle_points ["a", "b", "limit"] []
  m_triangle_points : mg "triangle_points" = some (.ref A.f_triangle_points)
  F_triangle_inner : Fun K "triangle_inner" "triangle_inner" s_triangle_inner A.f_triangle_inner A.d_triangle_inner
  b_triangle_inner : Binds K A.d_triangle_inner ["a", "b", "limit"] []
  m_triangle_inner : mg "triangle_inner" = some (.ref A.f_triangle_inner)
  F_points_up_to : Fun K "points_up_to" "points_up_to" s_points_up_to A.f_points_up_to A.d_points_up_to
  b_points_up_to : Binds K A.d_points_up_to ["a", "b", "limit"] []
  m_points_up_to : mg "points_up_to" = some (.ref A.f_points_up_to)
  F__checked_triangle : Fun K "_checked_triangle" "_checked_triangle" s__checked_triangle A.f__checked_triangle A.d__checked_triangle
  b__checked_triangle : Binds K A.d__checked_triangle ["a", "b", "limit"] []
  m__checked_triangle : mg "_checked_triangle" = some (.ref A.f__checked_triangle)
  F_reaches : Fun K "reaches" "reaches" s_reaches A.f_reaches A.d_reaches
  b_reaches : Binds K A.d_reaches ["a", "b", "number"] []
  m_reaches : mg "reaches" = some (.ref A.f_reaches)
  F_ways : Fun K "ways" "ways" s_ways A.f_ways A.d_ways
  b_ways : Binds K A.d_ways ["a", "b", "number"] []
  m_ways : mg "ways" = some (.ref A.f_ways)
  F_gap_count : Fun K "gap_count" "gap_count" s_gap_count A.f_gap_count A.d_gap_count
  b_gap_count : Binds K A.d_gap_count ["a", "b"] []
  m_gap_count : mg "gap_count" = some (.ref A.f_gap_count)
  F_gap_total : Fun K "gap_total" "gap_total" s_gap_total A.f_gap_total A.d_gap_total
  b_gap_total : Binds K A.d_gap_total ["a", "b"] []
  m_gap_total : mg "gap_total" = some (.ref A.f_gap_total)
  F_gaps_below : Fun K "gaps_below" "gaps_below" s_gaps_below A.f_gaps_below A.d_gaps_below
  b_gaps_below : Binds K A.d_gaps_below ["a", "b", "limit"] []
  m_gaps_below : mg "gaps_below" = some (.ref A.f_gaps_below)
  F__checked_steps : Fun K "_checked_steps" "_checked_steps" s__checked_steps A.f__checked_steps A.d__checked_steps
  b__checked_steps : Binds K A.d__checked_steps ["a", "b"] []
  m__checked_steps : mg "_checked_steps" = some (.ref A.f__checked_steps)
  F__checked_steps_to : Fun K "_checked_steps_to" "_checked_steps_to" s__checked_steps_to A.f__checked_steps_to A.d__checked_steps_to
  b__checked_steps_to : Binds K A.d__checked_steps_to ["a", "b", "number"] []
  m__checked_steps_to : mg "_checked_steps_to" = some (.ref A.f__checked_steps_to)
  F__least_steps : Fun K "_least_steps" "_least_steps" s__least_steps A.f__least_steps A.d__least_steps
  b__least_steps : Binds K A.d__least_steps ["a", "b", "number"] []
  m__least_steps : mg "_least_steps" = some (.ref A.f__least_steps)
  F__many_ways : Fun K "_many_ways" "_many_ways" s__many_ways A.f__many_ways A.d__many_ways
  b__many_ways : Binds K A.d__many_ways ["a", "b", "number", "least"] []
  m__many_ways : mg "_many_ways" = some (.ref A.f__many_ways)
  F__gap_count : Fun K "_gap_count" "_gap_count" s__gap_count A.f__gap_count A.d__gap_count
  b__gap_count : Binds K A.d__gap_count ["a", "b"] []
  m__gap_count : mg "_gap_count" = some (.ref A.f__gap_count)
  F__last_gap : Fun K "_last_gap" "_last_gap" s__last_gap A.f__last_gap A.d__last_gap
  b__last_gap : Binds K A.d__last_gap ["a", "b"] []
  m__last_gap : mg "_last_gap" = some (.ref A.f__last_gap)
  F__gaps_below : Fun K "_gaps_below" "_gaps_below" s__gaps_below A.f__gaps_below A.d__gaps_below
  b__gaps_below : Binds K A.d__gaps_below ["a", "b", "limit"] []
  m__gaps_below : mg "_gaps_below" = some (.ref A.f__gaps_below)
  F__law_purse_of : Fun K "_law_purse_of" "_law_purse_of" s__law_purse_of A.f__law_purse_of A.d__law_purse_of
  b__law_purse_of : Binds K A.d__law_purse_of ["_law_script", "_law_at"] []
  m__law_purse_of : mg "_law_purse_of" = some (.ref A.f__law_purse_of)
  F__law_coin : Fun K "_law_coin" "_law_coin" s__law_coin A.f__law_coin A.d__law_coin
  b__law_coin : Binds K A.d__law_coin ["_law_purse", "_law_total"] []
  m__law_coin : mg "_law_coin" = some (.ref A.f__law_coin)
  F__law_pick : Fun K "_law_pick" "_law_pick" s__law_pick A.f__law_pick A.d__law_pick
  b__law_pick : Binds K A.d__law_pick ["_law_purse", "_law_items"] []
  m__law_pick : mg "_law_pick" = some (.ref A.f__law_pick)
  F__law_common : Fun K "_law_common" "_law_common" s__law_common A.f__law_common A.d__law_common
  b__law_common : Binds K A.d__law_common ["_law_one", "_law_other"] []
  m__law_common : mg "_law_common" = some (.ref A.f__law_common)
  F__law_low : Fun K "_law_low" "_law_low" s__law_low A.f__law_low A.d__law_low
  b__law_low : Binds K A.d__law_low ["_law_top", "_law_bottom"] []
  m__law_low : mg "_law_low" = some (.ref A.f__law_low)
  F__law_pair_of : Fun K "_law_pair_of" "_law_pair_of" s__law_pair_of A.f__law_pair_of A.d__law_pair_of
  b__law_pair_of : Binds K A.d__law_pair_of ["_law_ratio"] []
  m__law_pair_of : mg "_law_pair_of" = some (.ref A.f__law_pair_of)
  F__law_sum : Fun K "_law_sum" "_law_sum" s__law_sum A.f__law_sum A.d__law_sum
  b__law_sum : Binds K A.d__law_sum ["_law_a", "_law_b"] []
  m__law_sum : mg "_law_sum" = some (.ref A.f__law_sum)
  F__law_great : Fun K "_law_great" "_law_great" s__law_great A.f__law_great A.d__law_great
  b__law_great : Binds K A.d__law_great ["_law_purse", "_law_digits"] []
  m__law_great : mg "_law_great" = some (.ref A.f__law_great)
  F__law_two_drawn : Fun K "_law_two_drawn" "_law_two_drawn" s__law_two_drawn A.f__law_two_drawn A.d__law_two_drawn
  b__law_two_drawn : Binds K A.d__law_two_drawn ["_law_purse", "_law_top"] []
  m__law_two_drawn : mg "_law_two_drawn" = some (.ref A.f__law_two_drawn)
  F__law_inverse : Fun K "_law_inverse" "_law_inverse" s__law_inverse A.f__law_inverse A.d__law_inverse
  b__law_inverse : Binds K A.d__law_inverse ["_law_p", "_law_q"] []
  m__law_inverse : mg "_law_inverse" = some (.ref A.f__law_inverse)
  F__law_ways_right : Fun K "_law_ways_right" "_law_ways_right" s__law_ways_right A.f__law_ways_right A.d__law_ways_right
  b__law_ways_right : Binds K A.d__law_ways_right ["_law_purse"] []
  m__law_ways_right : mg "_law_ways_right" = some (.ref A.f__law_ways_right)
  F__law_teeth_right : Fun K "_law_teeth_right" "_law_teeth_right" s__law_teeth_right A.f__law_teeth_right A.d__law_teeth_right
  b__law_teeth_right : Binds K A.d__law_teeth_right ["_law_a", "_law_b", "_law_number"] []
  m__law_teeth_right : mg "_law_teeth_right" = some (.ref A.f__law_teeth_right)
  F__law_gaps_right : Fun K "_law_gaps_right" "_law_gaps_right" s__law_gaps_right A.f__law_gaps_right A.d__law_gaps_right
  b__law_gaps_right : Binds K A.d__law_gaps_right ["_law_purse"] []
  m__law_gaps_right : mg "_law_gaps_right" = some (.ref A.f__law_gaps_right)
  F_law : Fun K "law" "law" s_law A.f_law A.d_law
  b_law : Binds K A.d_law ["_law_script"] []
  m_law : mg "law" = some (.ref A.f_law)
  c_Long : Cls K A.a_Long
  m_Long : mg "Long" = some (.ref A.a_Long)
  na_Long_number : NoAttr K A.a_Long "number"
  ic_Long : PySem.W.isClsIn K A.a_Long = true
  ty_Long : PySem.W.typeIn K (.ref A.a_Long) = some (.type "type")
  cl_Long : PySem.W.findIn K (.ref A.a_Long) "__class__" = some (some (.builtin "object.__class__"))
  ob_Long : PySem.W.mroIn K A.a_Long (.type "object") = some true
  oi_Long : PySem.W.mroIn K A.a_Long (.type "int") = some false
  c_Terms : Cls K A.a_Terms
  m_Terms : mg "Terms" = some (.ref A.a_Terms)
  na_Terms_above : NoAttr K A.a_Terms "above"
  na_Terms_below : NoAttr K A.a_Terms "below"
  na_Terms_lowest : NoAttr K A.a_Terms "lowest"
  ic_Terms : PySem.W.isClsIn K A.a_Terms = true
  ty_Terms : PySem.W.typeIn K (.ref A.a_Terms) = some (.type "type")
  cl_Terms : PySem.W.findIn K (.ref A.a_Terms) "__class__" = some (some (.builtin "object.__class__"))
  ob_Terms : PySem.W.mroIn K A.a_Terms (.type "object") = some true
  oi_Terms : PySem.W.mroIn K A.a_Terms (.type "int") = some false
  c_Ratio : Cls K A.a_Ratio
  m_Ratio : mg "Ratio" = some (.ref A.a_Ratio)
  na_Ratio__top : NoAttr K A.a_Ratio "_top"
  na_Ratio__bottom : NoAttr K A.a_Ratio "_bottom"
  na_Ratio__is_lowest : NoAttr K A.a_Ratio "_is_lowest"
  ic_Ratio : PySem.W.isClsIn K A.a_Ratio = true
  ty_Ratio : PySem.W.typeIn K (.ref A.a_Ratio) = some (.type "type")
  cl_Ratio : PySem.W.findIn K (.ref A.a_Ratio) "__class__" = some (some (.builtin "object.__class__"))
  ob_Ratio : PySem.W.mroIn K A.a_Ratio (.type "object") = some true
  oi_Ratio : PySem.W.mroIn K A.a_Ratio (.type "int") = some false
  sg : PySem.W.specialIn K (.builtin "object.__class__") "__get__" = some (some (.builtin "getset_descriptor.__get__"))
  tk : PySem.W.takesIn K (.builtin "object.__class__") = some true
  eq_Ratio : EqC K A.a_Ratio A.f_Ratio___eq__
  b_len : mg "len" = none
  b_abs : mg "abs" = none
  b_max : mg "max" = none
  b_min : mg "min" = none
  b_isinstance : mg "isinstance" = none
  b_range : mg "range" = none
  b_int : mg "int" = none
  b_tuple : mg "tuple" = none
  b_divmod : mg "divmod" = none
  b_sum : mg "sum" = none
  m__TOO_LONG : ∃ t, mg "_TOO_LONG" = some (.int (10 ^ 60) t)
  m__SHORT : ∃ t, mg "_SHORT" = some (.int (2 ^ 30) t)
  m_gcd : mg "gcd" = some (.builtin "math.gcd")
  oc_add : OpC K A.a_Ratio A.f_Ratio___add__ "__add__" "__radd__"
  oc_sub : OpC K A.a_Ratio A.f_Ratio___sub__ "__sub__" "__rsub__"
  oc_mul : OpC K A.a_Ratio A.f_Ratio___mul__ "__mul__" "__rmul__"
end Tk

set_option maxHeartbeats 2000000
namespace Tk
open PySem PySem.Spec PyProof.Rows L2 Tc
section
variable {P : Program} {w : World} {K : PySem.W.Frag} {mg : Str → Option Value} {base : Heap} {A : Ad}
theorem rel_int (i : Int) (t : Tok) : RelV (.int i) (Value.int i t) := ⟨t, rfl⟩
theorem rel_ref (a : Addr) : RelV (.ref a) (Value.ref a) := rfl
theorem kit_own {C : Addr} {T : String} (ic : PySem.W.isClsIn K C = true) (ty : PySem.W.typeIn K (.ref C) = some (.type "type")) (h : (PySem.fastBuiltinMro T).map (fun l => l.all fun v => match v with | .type _ => true | _ => false) = some true) : PySem.W.kitOne K (.type T) (.ref C) = some false := by
  have e1 : ((PySem.W.clsIn K C).isSome && PySem.W.typeIn K (.ref C) == some (.type "type")) = true := by
    have h2 : (PySem.W.clsIn K C).isSome = true := ic
    rw [h2, ty]
    rfl
  show (if (Value.type T == Value.ref C) = true then some true else (if ((PySem.W.clsIn K C).isSome && PySem.W.typeIn K (.ref C) == some (.type "type")) = true then PySem.W.subIn K (.type T) (.ref C) else none)) = some false
  rw [if_neg (by intro z; cases eq_of_beq z), if_pos e1]
  show (PySem.fastBuiltinMro T).map (·.contains (Value.ref C)) = some false
  cases e : PySem.fastBuiltinMro T with
  | none => rw [e] at h; cases h
  | some l =>
    rw [e] at h
    have h' : (l.all fun v => match v with | .type _ => true | _ => false) = true := Option.some.inj h
    show some (l.contains (Value.ref C)) = some false
    congr 1
    cases q : l.contains (Value.ref C) with
    | false => rfl
    | true =>
      have m := List.contains_iff_mem.mp q
      have := List.all_eq_true.mp h' _ m
      cases this
theorem ty_ins {C p dx : Addr} {fs : List (Str × V)} {H : Hp} (h : H p = some (.ins C dx fs)) (c : Cls K C) (cl : PySem.W.findIn K (.ref C) "__class__" = some (some (.builtin "object.__class__"))) (ob : PySem.W.mroIn K C (.type "object") = some true) (T : Txt K mg A) : TyX K H (.ref p) (.ref C) :=
  .base (.ins h c cl T.sg T.tk ob)
theorem kit_self {C : Addr} : PySem.W.kitOne K (.ref C) (.ref C) = some true := by
  unfold PySem.W.kitOne
  rw [if_pos (beq_self_eq_true _)]
theorem lk_here {k : Str} {v : V} {r : List (Str × V)} : List.lookup k ((k, v) :: r) = some v := by
  have e : (k == k) = true := beq_self_eq_true k
  simp only [List.lookup, e]
theorem lk_past {k g : Str} {v : V} {r : List (Str × V)} (h : (k == g) = false) : List.lookup k ((g, v) :: r) = List.lookup k r := by
  simp only [List.lookup, h]
theorem put_past {f g : Str} {v x : V} {r : List (Str × V)} (h : ¬ g = f) : putF f v ((g, x) :: r) = (g, x) :: putF f v r := if_neg h
theorem kit_int {C : Addr} (h : PySem.W.mroIn K C (.type "int") = some false) : PySem.W.kitOne K (.ref C) (.type "int") = some false := by
  show (if (Value.ref C == Value.type "int") = true then some true else PySem.W.kitCls K (.ref C) (.type "int")) = some false
  rw [if_neg (by intro z; cases eq_of_beq z)]
  show (if PySem.W.kitMeta "int" = true then PySem.W.subIn K (.ref C) (.type "int") else none) = some false
  rw [if_pos (by decide +kernel)]
  exact h
/- ints alone -/
def sp_is_any_integer : Sp := fun vs H Q _ => ∃ i : Int, vs = [.int i] ∧ Q (.bl true) H
theorem ok_is_any_integer (T : Txt K mg A) : FnOk P w K mg base CX0 1 A.f_is_any_integer A.d_is_any_integer ["value"] sp_is_any_integer := by
  refine T.F_is_any_integer.ok sc_is_any_integer (fun vs H Q E h => ?_) (fun cdv Ar outer s H vs Q E hr h => ?_)
  · obtain ⟨i, rfl, _⟩ := h
    rfl
  · obtain ⟨i, rfl, k⟩ := h
    have hu := hu_of hr
    refine ⟨_, (pss_one (ps_ret (pe_and (pe_callB call_isi (by rfl) T.b_isinstance (by decide +kernel) (pa_cons (pv 0) (pa_cons (pe_bltn (v := .ty "int") (by rfl) T.b_int (by decide +kernel) rfl) pa_nil))) (pe_and (pe_cmpR op_notIB (pv 0) pe_bl (nomark _)) (pe_one (pe_cmpR op_notIB (pv 0) pe_bl (nomark _))))))), ?_⟩
    refine ⟨_, rfl, _, _, _, _, true, rfl, .ty "int", .base (.int i), kit_ty (by decide +kernel), _, rfl, ?_⟩
    refine iteT ?_
    refine ⟨_, rfl, _, _, rfl, rfl, _, rfl, ?_⟩
    refine iteT ?_
    exact ⟨_, rfl, _, _, rfl, rfl, k⟩
def Short (i : Int) : Prop := -(10 ^ 60) < i ∧ i < 10 ^ 60
def NotInt (K : PySem.W.Frag) (H : Hp) (v : V) : Prop := ∃ t, TyX K H v t ∧ PySem.W.kitOne K t (.type "int") = some false
def sp_is_short_integer (K : PySem.W.Frag) : Sp := fun vs H Q _ => ∃ v, vs = [v] ∧ ((∃ i : Int, v = .int i ∧ Short i ∧ Q (.bl true) H) ∨ (NotInt K H v ∧ Q (.bl false) H))
theorem ok_is_short_integer (T : Txt K mg A) : FnOk P w K mg base CX0 2 A.f_is_short_integer A.d_is_short_integer ["value"] (sp_is_short_integer K) := by
  refine T.F_is_short_integer.ok sc_is_short_integer (fun vs H Q E h => ?_) (fun cdv Ar outer s H vs Q E hr h => ?_)
  · obtain ⟨v, rfl, _⟩ := h
    rfl
  · obtain ⟨v, rfl, k⟩ := h
    have hu := hu_of hr
    refine ⟨_, (pss_one (ps_ret (pe_and (pe_callB call_isi (by rfl) T.b_isinstance (by decide +kernel) (pa_cons (pv 0) (pa_cons (pe_bltn (v := .ty "int") (by rfl) T.b_int (by decide +kernel) rfl) pa_nil))) (pe_and (pe_cmpR op_notIB (pv 0) pe_bl (nomark _)) (pe_and (pe_cmpR op_notIB (pv 0) pe_bl (nomark _)) (pe_one (pe_chain op_lt op_lt (pe_un un_neg (pe_glob rfl T.m__TOO_LONG.choose_spec (rel_int _ _))) (pv 0) (pe_glob rfl T.m__TOO_LONG.choose_spec (rel_int _ _))))))))), ?_⟩
    rcases k with ⟨i, rfl, hi, k⟩ | ⟨⟨t, h1, h2⟩, k⟩
    · refine ⟨_, rfl, _, _, _, _, true, rfl, .ty "int", .base (.int i), kit_ty (by decide +kernel), _, rfl, ?_⟩
      refine iteT ?_
      refine ⟨_, rfl, _, _, rfl, rfl, _, rfl, ?_⟩
      refine iteT ?_
      refine ⟨_, rfl, _, _, rfl, rfl, _, rfl, ?_⟩
      refine iteT ?_
      refine ⟨_, rfl, _, rfl, _, _, rfl, rfl, _, rfl, ?_⟩
      rw [decide_eq_true hi.1]
      refine iteT ?_
      refine ⟨_, _, rfl, rfl, ?_⟩
      show Q (V.bl (decide (i < 10 ^ 60))) H
      rw [decide_eq_true hi.2]
      exact k
    · refine ⟨_, rfl, _, _, _, _, false, rfl, .ty "int", h1, h2, _, rfl, ?_⟩
      refine iteF ?_
      exact k
end
end Tk

set_option maxHeartbeats 2000000
namespace Tk
open PySem PySem.Spec PyProof.Rows L2 Tc
section
variable {P : Program} {w : World} {K : PySem.W.Frag} {mg : Str → Option Value} {base : Heap} {A : Ad}
/- an int that may be passed, or one of any length within a Long -/
inductive Num (A : Ad) (H : Hp) : V → Int → Prop where
  | int {i : Int} (h : Short i) : Num A H (.int i) i
  | long {p dx : Addr} {i : Int} (h : H p = some (.ins A.a_Long dx [("number", .int i)])) : Num A H (.ref p) i
def sp_checked_integer (A : Ad) : Sp := fun vs H Q _ => ∃ (v : V) (i : Int), vs = [v] ∧ Num A H v i ∧ Q (.int i) H
theorem ok_checked_integer (T : Txt K mg A) : FnOk P w K mg base CX0 4 A.f_checked_integer A.d_checked_integer ["value"] (sp_checked_integer A) := by
  refine T.F_checked_integer.ok sc_checked_integer (fun vs H Q E h => ?_) (fun cdv Ar outer s H vs Q E hr h => ?_)
  · obtain ⟨v, i, rfl, _⟩ := h
    rfl
  · obtain ⟨v, i, rfl, hv, k⟩ := h
    have hu := hu_of hr
    refine ⟨_, (pss_cons (ps_if (pt_val (pe_call (ok_is_short_integer T) (hr.mono (by decide)) rfl T.m_is_short_integer T.F_is_short_integer.kp T.b_is_short_integer .nil pass0 (pa_cons (pv 0) pa_nil)))
        (pss_one (ps_ret (pv 0)))
        pss_nil)
      (pss_cons (ps_if (pt_val (pe_callB call_isi (by rfl) T.b_isinstance (by decide +kernel) (pa_cons (pv 0) (pa_cons (pe_glob rfl T.m_Long (rel_ref _)) pa_nil))))
        (pss_one (ps_ret (pe_fld (pv 0) rfl)))
        pss_nil)
      (pss_one ps_never))), ?_⟩
    cases hv with
    | int hi =>
      refine ⟨_, rfl, _, rfl, .inl ⟨i, rfl, hi, _, rfl, ?_⟩⟩
      refine iteT ?_
      exact ⟨_, rfl, k⟩
    | @long p dx i hp =>
      refine ⟨_, rfl, _, rfl, .inr ⟨⟨_, ty_ins hp T.c_Long T.cl_Long T.ob_Long T, kit_int T.oi_Long⟩, _, rfl, ?_⟩⟩
      refine iteF ?_
      refine ⟨_, rfl, _, _, _, _, true, rfl, .own A.a_Long, ty_ins hp T.c_Long T.cl_Long T.ob_Long T, kit_self, _, rfl, ?_⟩
      refine iteT ?_
      exact ⟨_, rfl, p, A.a_Long, dx, _, _, rfl, hp, T.c_Long, T.na_Long_number, lk_here, k⟩
def sp_checked_from (A : Ad) : Sp := fun vs H Q _ => ∃ (l : Int) (v : V) (i : Int), vs = [.int l, v] ∧ Num A H v i ∧ l ≤ i ∧ Q (.int i) H
theorem ok_checked_from (T : Txt K mg A) : FnOk P w K mg base CX0 5 A.f_checked_from A.d_checked_from ["least", "value"] (sp_checked_from A) := by
  refine T.F_checked_from.ok sc_checked_from (fun vs H Q E h => ?_) (fun cdv Ar outer s H vs Q E hr h => ?_)
  · obtain ⟨l, v, i, rfl, _⟩ := h
    rfl
  · obtain ⟨l, v, i, rfl, hv, hl, k⟩ := h
    have hu := hu_of hr
    refine ⟨_, (pss_cons (ps_set (i := 2) sc_checked_from.nd rfl (Or.inl rfl) (pe_call (ok_checked_integer T) (hr.mono (by decide)) rfl T.m_checked_integer T.F_checked_integer.kp T.b_checked_integer .nil pass0 (pa_cons (pv 1) pa_nil)))
      (pss_cons (ps_if (pt_cmpR op_lt (pv 2) (pv 0) (nomark _))
        (pss_one ps_never)
        pss_nil)
      (pss_one (ps_ret (pv 2))))), ?_⟩
    refine ⟨_, rfl, v, i, rfl, hv, ?_⟩
    refine ⟨_, rfl, _, rfl, _, _, rfl, rfl, _, rfl, ?_⟩
    rw [decide_eq_false (by omega)]
    refine iteF ?_
    exact ⟨_, rfl, k⟩
def sp_checked_pair (A : Ad) : Sp := fun vs H Q _ => ∃ (u v : V) (a b : Int), vs = [u, v] ∧ Num A H u a ∧ Num A H v b ∧ 1 ≤ b ∧ ∀ p H', H p = none → Same H H' → H' p = some (.tup [.int a, .int b]) → Q (.ref p) H'
theorem ok_checked_pair (T : Txt K mg A) : FnOk P w K mg base CX0 6 A.f_checked_pair A.d_checked_pair ["a", "b"] (sp_checked_pair A) := by
  refine T.F_checked_pair.ok sc_checked_pair (fun vs H Q E h => ?_) (fun cdv Ar outer s H vs Q E hr h => ?_)
  · obtain ⟨u, v, a, b, rfl, _⟩ := h
    rfl
  · obtain ⟨u, v, a, b, rfl, ha, hb, h1, k⟩ := h
    have hu := hu_of hr
    refine ⟨_, (pss_cons (ps_if (PW.pt (pw_and (pt_val (pe_callB call_isi (by rfl) T.b_isinstance (by decide +kernel) (pa_cons (pv 0) (pa_cons (pe_bltn (v := .ty "int") (by rfl) T.b_int (by decide +kernel) rfl) pa_nil)))) (pw_and (pt_val (pe_callB call_isi (by rfl) T.b_isinstance (by decide +kernel) (pa_cons (pv 1) (pa_cons (pe_bltn (v := .ty "int") (by rfl) T.b_int (by decide +kernel) rfl) pa_nil)))) (pw_and (pt_cmpR op_notIB (pv 0) pe_bl (nomark _)) (pw_and (pt_cmpR op_notIB (pv 0) pe_bl (nomark _)) (pw_and1 (pt_cmpR op_notIB (pv 1) pe_bl (nomark _))))))))
        (pss_one (ps_if (PW.pt (pw_and (pt_chain op_lt op_lt (pe_un un_neg (pe_glob rfl T.m__TOO_LONG.choose_spec (rel_int _ _))) (pv 0) (pe_glob rfl T.m__TOO_LONG.choose_spec (rel_int _ _))) (pw_and1 (pt_chain op_lt op_lt pe_int (pv 1) (pe_glob rfl T.m__TOO_LONG.choose_spec (rel_int _ _))))))
            (pss_one (ps_ret (pe_tup (pa_cons (pv 0) (pa_cons (pv 1) pa_nil)))))
            pss_nil))
        pss_nil)
      (pss_one (ps_ret (pe_tup (pa_cons (pe_call (ok_checked_integer T) (hr.mono (by decide)) rfl T.m_checked_integer T.F_checked_integer.kp T.b_checked_integer .nil pass0 (pa_cons (pv 0) pa_nil)) (pa_cons (pe_call (ok_checked_from T) (hr.mono (by decide)) rfl T.m_checked_from T.F_checked_from.kp T.b_checked_from .nil pass0 (pa_cons pe_int (pa_cons (pv 1) pa_nil))) pa_nil)))))), ?_⟩
    have fin : ∀ p, H p = none → Q (.ref p) (upd H p (.tup [.int a, .int b])) := fun p hp => k p _ hp (fun b o e => by rw [upd_ne (ne_of_none e hp)]; exact e) upd_same
    cases ha with
    | int hi =>
      refine ⟨_, rfl, _, _, _, _, true, rfl, .ty "int", .base (.int a), kit_ty (by decide +kernel), _, rfl, ?_⟩
      refine iteT ?_
      cases hb with
      | int hj =>
        refine ⟨_, rfl, _, _, _, _, true, rfl, .ty "int", .base (.int b), kit_ty (by decide +kernel), _, rfl, ?_⟩
        refine iteT ?_
        refine ⟨_, rfl, _, _, rfl, rfl, _, rfl, ?_⟩
        refine iteT ?_
        refine ⟨_, rfl, _, _, rfl, rfl, _, rfl, ?_⟩
        refine iteT ?_
        refine ⟨_, rfl, _, _, rfl, rfl, _, rfl, ?_⟩
        refine iteT ?_
        refine ⟨_, rfl, _, rfl, _, _, rfl, rfl, _, rfl, ?_⟩
        rw [decide_eq_true hi.1]
        refine iteT ?_
        refine ⟨_, _, rfl, rfl, _, rfl, ?_⟩
        rw [decide_eq_true hi.2]
        refine iteT ?_
        refine ⟨_, rfl, _, _, rfl, rfl, _, rfl, ?_⟩
        rw [decide_eq_true (show 0 < b by omega)]
        refine iteT ?_
        refine ⟨_, _, rfl, rfl, _, rfl, ?_⟩
        rw [decide_eq_true hj.2]
        refine iteT ?_
        exact ⟨_, rfl, _, rfl, by show 2 ≤ sizeLine; decide, fin⟩
      | @long p dx j hp =>
        refine ⟨_, rfl, _, _, _, _, false, rfl, .ty "int", ty_ins hp T.c_Long T.cl_Long T.ob_Long T, kit_int T.oi_Long, _, rfl, ?_⟩
        refine iteF ?_
        refine iteF ?_
        exact ⟨_, rfl, _, a, rfl, .int hi, _, rfl, 1, _, b, rfl, .long hp, h1, by show 2 ≤ sizeLine; decide, fin⟩
    | @long p dx i hp =>
      refine ⟨_, rfl, _, _, _, _, false, rfl, .ty "int", ty_ins hp T.c_Long T.cl_Long T.ob_Long T, kit_int T.oi_Long, _, rfl, ?_⟩
      refine iteF ?_
      refine iteF ?_
      exact ⟨_, rfl, _, a, rfl, .long hp, _, rfl, 1, _, b, rfl, hb, h1, by show 2 ≤ sizeLine; decide, fin⟩
def sp_Long___init__ (A : Ad) : Sp := fun vs H Q _ => ∃ (p dx : Addr) (v : V), vs = [.ref p, v] ∧ H p = some (.ins A.a_Long dx []) ∧ ∀ H', H' p = some (.ins A.a_Long dx [("number", v)]) → (∀ x o, H x = some o → x ≠ p → H' x = some o) → Q .non H'
end
end Tk

set_option maxHeartbeats 2000000
namespace Tk
open PySem PySem.Spec PyProof.Rows L2 Tc
section
variable {P : Program} {w : World} {K : PySem.W.Frag} {mg : Str → Option Value} {base : Heap} {A : Ad}
open Tm
local macro_rules | `(tactic| walk_at "arr") => `(tactic| first
  | with_reducible assumption
  | ((with_reducible apply same_new); with_reducible assumption))
local macro_rules | `(tactic| walk_at "f") => `(tactic| first
  | with_reducible assumption
  | with_reducible exact upd_same
  | with_reducible exact Same.refl _
  | with_reducible exact Frm.refl
  | ((with_reducible apply sqL_K); (focus with_reducible assumption); rfl)
  | ((with_reducible apply sqT_K); (focus with_reducible assumption); rfl)
  | ((with_reducible apply SqT.of); walk_at "f")
  | ((with_reducible apply SqL.of); walk_at "f")
  | ((with_reducible apply back_raw); (focus walk_at "arr"); walk_at "f")
  | ((with_reducible apply frm_tup); (focus with_reducible assumption); (focus walk_at "f"); (focus walk_at "f"); (focus (intro _ z; cases z; done)))
  | ((with_reducible apply frm_raw); (focus with_reducible assumption); (focus walk_at "f"); walk_at "f")
  | ((with_reducible apply bowl_back); (focus walk_at "arr"); walk_at "f")
  | ((with_reducible apply bowl_ne); (focus with_reducible assumption); walk_at "f")
  | ((with_reducible apply Num.int); with_reducible assumption)
  | ((with_reducible apply same_snoc); (focus walk_at "arr"); walk_at "f")
  | ((with_reducible apply frm_back); (focus walk_at "arr"); walk_at "f")
  | ((with_reducible apply frm_backF); (focus with_reducible assumption); walk_at "f")
  | ((with_reducible apply back_sqT); (focus walk_at "arr"); walk_at "f")
  | ((with_reducible apply same_sqL); (focus walk_at "arr"); walk_at "f")
  | ((with_reducible apply free_same); (focus with_reducible assumption); walk_at "f")
  | ((with_reducible apply free_frm); (focus with_reducible assumption); (focus with_reducible assumption); walk_at "f")
  | ((with_reducible apply frm_sqL); (focus with_reducible assumption); (focus walk_at "f"); walk_at "f"))
local macro_rules | `(tactic| walk_at "bt") => `(tactic| first
  | with_reducible assumption
  | ((with_reducible apply bt_mul); (focus walk_at "bt"); walk_at "bt")
  | ((with_reducible apply bt_add); (focus walk_at "bt"); walk_at "bt")
  | ((with_reducible apply bt_sub); (focus walk_at "bt"); walk_at "bt")
  | ((with_reducible apply bt_neg); walk_at "bt")
  | ((with_reducible apply bt_div); walk_at "bt")
  | ((with_reducible apply bt_mod); (focus (first | assumption | omega)); walk_at "bt")
  | exact bt_lit (n := 64) (by decide)
  | exact bt_lit (n := 200) (by decide +kernel))
local macro_rules | `(tactic| walk_at "lin") => `(tactic| first
  | exact (by decide : 1 ≤ sizeLine) | exact (by decide : 2 ≤ sizeLine) | exact (by decide : 3 ≤ sizeLine) | exact (by decide : 4 ≤ sizeLine) | exact (by decide : 0 ≤ sizeLine) | exact (by decide : 5 ≤ sizeLine) | exact (by decide : 6 ≤ sizeLine))
local macro_rules | `(tactic| walk_at "dp") => `(tactic| first
  | exact Dp.int _
  | exact DpAll.nil
  | ((with_reducible apply Dp.lst); (focus walk_at "f"); walk_at "dp")
  | ((with_reducible apply Dp.tup); (focus walk_at "f"); walk_at "dp")
  | ((with_reducible apply DpAll.cons); (focus walk_at "dp"); walk_at "dp"))
local macro_rules | `(tactic| walk_at "sv") => `(tactic| first
  | with_reducible rfl
  | walk_at "f"
  | exact rfl
  | walk_at "dp"
  | exact shp_lst [_] | exact shp_lst [_, _] | exact shp_lst [_, _, _] | exact shp_lst [_, _, _, _] | exact shp_tup [_, _] | exact shp_tup [_, _, _]
  | ((apply tyV_lst); walk_at "f")
  | ((with_reducible apply bt_mulW); (focus walk_at "bt"); (focus walk_at "bt"); (focus (first | decide | omega)))
  | ((with_reducible apply bt_divW); (focus (first | decide | assumption | omega)); (focus walk_at "bt"); (focus (first | decide | omega)))
  | ((with_reducible apply bt_divP); (focus (first | decide | assumption | omega)); (focus walk_at "bt"); (focus (first | decide | omega)))
  | exact ⟨by decide, by decide +kernel⟩
  | exact Or.inl (by decide)
  | exact Or.inr (by decide)
  | exact Or.inl ⟨by omega, by omega⟩
  | exact Or.inr ⟨by omega, by omega⟩
  | ((with_reducible apply Or.inl); walk_at "sv")
  | ((with_reducible apply Or.inr); walk_at "sv")
  | ((with_reducible apply Exists.intro); walk_at "sv")
  | ((with_reducible apply And.intro); (focus walk_at "sv"); walk_at "sv")
  | walk_at "lin"
  | decide
  | omega
  | (simp only [List.length_cons, List.length_nil, List.length_map]; first | done | omega))
local macro_rules | `(tactic| walk_at "one") => `(tactic| first
  | ((fail_if_success refine' @Exists.intro (Nat → L2.St → Hp → Prop) _ ?_ ?_); (fail_if_success refine' @Exists.intro (Nat → Nat → L2.St → Hp → Prop) _ ?_ ?_); (fail_if_success refine' @Exists.intro (L2.St → Hp → Prop) _ ?_ ?_); (fail_if_success refine' @Exists.intro (Nat → Nat → Hp → Prop) _ ?_ ?_); (fail_if_success refine' @Exists.intro (Hp → Prop) _ ?_ ?_); apply Exists.intro)
  | (apply And.intro; (focus walk_at "sv"))
  | intro _
  | (apply ifT; (focus rfl))
  | (apply ifF; (focus rfl))
  | ((apply Or.inl); (apply Exists.intro); (apply And.intro); (focus exact rfl))
  | ((apply Or.inl); (apply And.intro); (focus walk_at "f"))
  | ((apply Or.inr); (apply Exists.intro); (apply And.intro); (focus exact rfl))
  | (apply ifTd; (focus (first | assumption | omega)))
  | (apply ifFd; (focus (first | assumption | omega))))
local macro_rules | `(tactic| walk_at "go") => `(tactic| repeat walk_at "one")
local macro_rules | `(tactic| walk_at "nm") => `(tactic| try simp only [List.set_cons_zero, List.set_cons_succ])
local macro_rules | `(tactic| walk_at "gon") => `(tactic| repeat (walk_at "one"; walk_at "nm"))
theorem bits_gt {b : Int} (h : 0 < b) : 4 * b < 2 ^ (((Builtin.Int.intBits b : Nat) : Int) + 2).toNat := by
  have e : (((Builtin.Int.intBits b : Nat) : Int) + 2).toNat = Builtin.Int.intBits b + 2 := by omega
  rw [e]
  have e2 : Builtin.Int.intBits b = b.natAbs.log2 + 1 := by
    unfold Builtin.Int.intBits
    rw [if_neg (by intro z; have := eq_of_beq z; omega)]
  have l : b.natAbs < 2 ^ (b.natAbs.log2 + 1) := Nat.lt_log2_self
  rw [← e2] at l
  have e3 : (((2 : Nat) ^ (Builtin.Int.intBits b) : Nat) : Int) = 2 ^ (Builtin.Int.intBits b) := by norm_cast
  have e4 : (2 : Int) ^ (Builtin.Int.intBits b + 2) = 2 ^ (Builtin.Int.intBits b) * 4 := by
    rw [Int.pow_add]
    rfl
  omega
theorem bits_shl {x b : Int} (hx : x.natAbs < 2 ^ 500) (hb : b.natAbs < 2 ^ 500) : CShl x (((Builtin.Int.intBits b : Nat) : Int) + 2) := by
  have h := PyProof.Rows.intBits_le hb
  have c := shl_ok (i := x) (j := Builtin.Int.intBits b + 2) hx (by omega)
  exact c
def sp_inverse_or_none : Sp := fun vs H Q _ => ∃ a b : Int, vs = [.int a, .int b] ∧ 1 ≤ b ∧ b.natAbs < 2 ^ 500 ∧
  (Int.gcd a b = 1 → ∀ v, 0 ≤ v → v < b → b ∣ (a * v - 1) → Q (.int v) H) ∧ (Int.gcd a b ≠ 1 → Q .non H)
theorem ok_inverse_or_none (T : Txt K mg A) : FnOk P w K mg base CX0 1 A.f_inverse_or_none A.d_inverse_or_none ["a", "b"] sp_inverse_or_none := by
  refine T.F_inverse_or_none.ok sc_inverse_or_none (fun vs H Q E h => ?_) (fun cdv Ar outer s H vs Q E hr h => ?_)
  · obtain ⟨_, _, rfl, _⟩ := h
    rfl
  · obtain ⟨a, b, rfl, h1, hb, k1, k2⟩ := h
    have hu := hu_of hr
    refine ⟨_, (pss_cons (ps_set (i := 2) sc_inverse_or_none.nd rfl (Or.inl rfl) (pe_op op_add (pe_bits (pv 1)) pe_int))
      (pss_cons (ps_par (i := 3) (j := 4) (by rfl) sc_inverse_or_none.nd rfl rfl (by decide) rfl rfl (pa_cons (pe_op op_shlW (pv 1) (pv 2)) (pa_cons (pe_op op_add (pe_op op_shlW (pe_op op_mod (pv 0) (pv 1)) (pv 2)) pe_int) pa_nil)) (by rfl))
      (pss_cons (ps_while PassesOwn.never (pt_cmpR op_gt (pv 4) (pv 1) (nomark _))
        (pss_cons (ps_set (i := 3) sc_inverse_or_none.nd rfl (Or.inl rfl) (pe_op op_mod (pv 3) (pv 4)))
          (pss_one (ps_set (i := 4) sc_inverse_or_none.nd rfl (Or.inl rfl) (pe_op op_mod (pv 4) (pv 3))))))
      (pss_one (ps_ret (pe_ifExp (pt_cmpR op_eq (pv 4) (pv 1) (nomark _)) (pe_op op_mod (pe_op op_sub (pv 3) (pe_op op_shlW pe_int (pv 2))) (pv 1)) pe_non)))))), ?_⟩
    have m0 := Int.emod_nonneg a (show b ≠ 0 by omega)
    have m1 := Int.emod_lt_of_pos a (show 0 < b by omega)
    have c1 := bits_shl hb hb
    have c2 := bits_shl (x := a % b) (by omega) hb
    have c3 := bits_shl (x := 1) (Nat.lt_of_lt_of_le (show (1 : Int).natAbs < 2 ^ 1 by decide) (Nat.pow_le_pow_right (by decide) (by decide))) hb
    have hB := bits_gt (b := b) (by omega)
    walk_at "go"
    refine ⟨fun m' σ H' => Stop (∃ (U L : Int), m' = L.toNat ∧ σ = [some (.int a), some (.int b), some (.int (((Builtin.Int.intBits b : Nat) : Int) + 2)), some (.int U), some (.int L)] ∧ H' = H ∧
      (IvN a b (2 ^ (((Builtin.Int.intBits b : Nat) : Int) + 2).toNat) U L ∨ IvE a b (2 ^ (((Builtin.Int.intBits b : Nat) : Int) + 2).toNat) U L)), ⟨_, ⟨_, _, rfl, rfl, rfl, .inl (ivN_start (by omega))⟩⟩, ?_⟩
    rintro m' σ H1 ⟨⟨U, L, rfl, rfl, rfl, inv⟩⟩
    walk_at "go"
    refine ite2 (fun hy => ?_) (fun hy => ?_)
    · have hy : b < L := of_decide_eq_true hy
      have hN : IvN a b (2 ^ (((Builtin.Int.intBits b : Nat) : Int) + 2).toNat) U L := by
        rcases inv with z | z
        · exact z
        · have := ivE_end z
          omega
      obtain ⟨g1, g2, g3, g4⟩ := ivN_go (by omega) hB hN hy
      refine pass_body ?_
      walk_at "go"
      exact ⟨_, (show (L % (U % L)).toNat < L.toNat by omega), ⟨_, _, rfl, rfl, rfl, g4⟩⟩
    · have hy : ¬ b < L := fun z => hy (decide_eq_true z)
      obtain ⟨f1, f2⟩ := iv_fin (by omega) hB inv hy
      walk_at "go"
      refine ite2 (fun he => ?_) (fun he => ?_)
      · have he : L = b := of_decide_eq_true ((dec_int' L b).symm.trans he)
        obtain ⟨g, d⟩ := f1 he
        have w0 := Int.emod_nonneg (U - 2 ^ (((Builtin.Int.intBits b : Nat) : Int) + 2).toNat) (show b ≠ 0 by omega)
        have w1 := Int.emod_lt_of_pos (U - 2 ^ (((Builtin.Int.intBits b : Nat) : Int) + 2).toNat) (show 0 < b by omega)
        have e := k1 g _ w0 w1 d
        have e1 : (1 : Int) * 2 ^ (((Builtin.Int.intBits b : Nat) : Int) + 2).toNat = 2 ^ (((Builtin.Int.intBits b : Nat) : Int) + 2).toNat := Int.one_mul _
        rw [← e1] at e
        walk_at "go"
        exact e
      · have he : L ≠ b := fun z => he ((dec_int' L b).trans (decide_eq_true z))
        have e := k2 (fun z => he (f2 z))
        walk_at "go"
        exact e
end
end Tk

set_option maxHeartbeats 2000000
namespace Tk
open PySem PySem.Spec PyProof.Rows L2 Tc
section
variable {P : Program} {w : World} {K : PySem.W.Frag} {mg : Str → Option Value} {base : Heap} {A : Ad}
open Tm
theorem gcd_div_num {x y : Int} (h : 0 < y) : x / ((Nat.gcd x.natAbs y.natAbs : Nat) : Int) = (Rat.divInt x y).num := by
  rw [Rat.num_divInt, Int.sign_eq_one_of_pos h, Int.one_mul, Int.gcd_comm]
  rfl
theorem gcd_div_den {x y : Int} (h : 0 < y) : y / ((Nat.gcd x.natAbs y.natAbs : Nat) : Int) = ((Rat.divInt x y).den : Int) := by
  rw [Rat.den_divInt, if_neg (by omega), Int.gcd_comm, Int.natCast_ediv, Int.natAbs_of_nonneg (by omega)]
  rfl
theorem gcd_div_num' {x y : Int} (h : y < 0) : (-x) / ((Nat.gcd x.natAbs y.natAbs : Nat) : Int) = (Rat.divInt x y).num := by
  have e := gcd_div_num (x := -x) (y := -y) (by omega)
  rw [Int.natAbs_neg, Int.natAbs_neg] at e
  rw [e, Rat.divInt_neg', Int.neg_neg]
theorem gcd_div_den' {x y : Int} (h : y < 0) : (-y) / ((Nat.gcd x.natAbs y.natAbs : Nat) : Int) = ((Rat.divInt x y).den : Int) := by
  have e := gcd_div_den (x := -x) (y := -y) (by omega)
  rw [Int.natAbs_neg, Int.natAbs_neg] at e
  rw [e, Rat.divInt_neg', Int.neg_neg]
/- what is handed to a ratio: two terms, and whether they are lowest -/
def trmL (n d : Int) (lo : Bool) : List (Str × V) := [("above", .int n), ("below", .int d), ("lowest", .bl lo)]
theorem trm_a {n d : Int} {lo : Bool} : (trmL n d lo).lookup ("above" : Str) = some (.int n) := lk_here
theorem trm_b {n d : Int} {lo : Bool} : (trmL n d lo).lookup ("below" : Str) = some (.int d) := (lk_past (by decide +kernel)).trans lk_here
theorem trm_l {n d : Int} {lo : Bool} : (trmL n d lo).lookup ("lowest" : Str) = some (.bl lo) := (lk_past (by decide +kernel)).trans ((lk_past (by decide +kernel)).trans lk_here)
def sp_Terms___init__ (A : Ad) : Sp := fun vs H Q _ => ∃ (p dx : Addr) (n d : Int) (lo : Bool), vs = [.ref p, .int n, .int d, .bl lo] ∧ H p = some (.ins A.a_Terms dx []) ∧ ∀ H', H' p = some (.ins A.a_Terms dx (trmL n d lo)) → (∀ x o, H x = some o → x ≠ p → H' x = some o) → Q .non H'
theorem ok_Terms___init__ (T : Txt K mg A) : FnOk P w K mg base CX0 1 A.f_Terms___init__ A.d_Terms___init__ ["self", "above", "below", "lowest"] (sp_Terms___init__ A) := by
  refine T.F_Terms___init__.ok sc_Terms___init__ (fun vs H Q E h => ?_) (fun cdv Ar outer s H vs Q E hr h => ?_)
  · obtain ⟨p, dx, n, d, lo, rfl, _⟩ := h
    rfl
  · obtain ⟨p, dx, n, d, lo, rfl, hp, k⟩ := h
    have hu := hu_of hr
    refine ⟨_, (pss_cons (ps_fld (pv 0) (pv 1) rfl)
      (pss_cons (ps_fld (pv 0) (pv 2) rfl)
      (pss_one (ps_fld (pv 0) (pv 3) rfl)))), ?_⟩
    refine ⟨_, rfl, _, rfl, p, A.a_Terms, dx, [], rfl, hp, T.c_Terms, T.na_Terms_above, by show 0 < 1000; decide, ?_⟩
    refine ⟨_, rfl, _, rfl, p, A.a_Terms, dx, _, rfl, upd_same, T.c_Terms, T.na_Terms_below, by show 1 < 1000; decide, ?_⟩
    rw [upd_upd]
    have e1 : putF "below" (.int d) (putF "above" (.int n) []) = ([("above", .int n), ("below", .int d)] : List (Str × V)) := (put_past (by decide +kernel)).trans rfl
    rw [e1]
    refine ⟨_, rfl, _, rfl, p, A.a_Terms, dx, _, rfl, upd_same, T.c_Terms, T.na_Terms_lowest, by show 2 < 1000; decide, ?_⟩
    rw [upd_upd]
    have e2 : putF "lowest" (.bl lo) [("above", .int n), ("below", .int d)] = trmL n d lo := (put_past (by decide +kernel)).trans (congrArg _ ((put_past (by decide +kernel)).trans rfl))
    rw [e2]
    exact k _ upd_same fun x o e ne => by rw [upd_ne ne]; exact e
def sp__lowest_terms (A : Ad) : Sp := fun vs H Q _ => ∃ x y : Int, vs = [.int x, .int y] ∧ y ≠ 0 ∧ y.natAbs < 2 ^ 8000 ∧ ∀ p dx H', H p = none → Same H H' → H' p = some (.ins A.a_Terms dx (trmL (Rat.divInt x y).num ((Rat.divInt x y).den : Int) true)) → Q (.ref p) H'
theorem ok__lowest_terms (T : Txt K mg A) : FnOk P w K mg base CX0 3 A.f__lowest_terms A.d__lowest_terms ["top", "bottom"] (sp__lowest_terms A) := by
  refine T.F__lowest_terms.ok sc__lowest_terms (fun vs H Q E h => ?_) (fun cdv Ar outer s H vs Q E hr h => ?_)
  · obtain ⟨x, y, rfl, _⟩ := h
    rfl
  · obtain ⟨x, y, rfl, h0, hy, k⟩ := h
    have hu := hu_of hr
    refine ⟨_, (pss_cons (ps_set (i := 2) sc__lowest_terms.nd rfl (Or.inl rfl) (pe_callBfun cr_gcd rfl T.m_gcd (pa_cons (pv 0) (pa_cons (pv 1) pa_nil))))
      (pss_cons (ps_if (pt_cmpR op_gt (pv 1) pe_int (nomark _))
        (pss_one (ps_ret (pe_make T.mk_Terms (ok_Terms___init__ T) (hr.mono (by decide)) rfl T.m_Terms T.b_Terms___init__ .nil pass0 (pa_cons (pe_op op_fdivW (pv 0) (pv 2)) (pa_cons (pe_op op_fdivW (pv 1) (pv 2)) (pa_cons pe_bl pa_nil))))))
        pss_nil)
      (pss_cons (ps_if (pt_cmpR op_eq (pv 1) pe_int (nomark _))
        (pss_one ps_never)
        pss_nil)
      (pss_one (ps_ret (pe_make T.mk_Terms (ok_Terms___init__ T) (hr.mono (by decide)) rfl T.m_Terms T.b_Terms___init__ .nil pass0 (pa_cons (pe_op op_fdivW (pe_un un_neg (pv 0)) (pv 2)) (pa_cons (pe_op op_fdivW (pe_un un_neg (pv 1)) (pv 2)) (pa_cons pe_bl pa_nil))))))))), ?_⟩
    have hg0 : 0 < Nat.gcd x.natAbs y.natAbs := Nat.gcd_pos_of_pos_right _ (by omega)
    have hgy : Nat.gcd x.natAbs y.natAbs ≤ y.natAbs := Nat.le_of_dvd (by omega) (Nat.gcd_dvd_right _ _)
    have hgb : Nat.gcd x.natAbs y.natAbs < 2 ^ 8000 := Nat.lt_of_le_of_lt hgy hy
    refine ⟨_, rfl, _, rfl, x, y, rfl, ?_⟩
    refine ⟨_, rfl, _, _, rfl, rfl, _, rfl, ?_⟩
    refine ite2 (fun h => ?_) (fun h => ?_)
    · have h : 0 < y := of_decide_eq_true h
      rw [← gcd_div_num h, ← gcd_div_den h] at k
      refine ⟨_, rfl, _, rfl, _, _, rfl, rfl, wide_div (b := 8000) (by omega) (by rw [Int.natAbs_natCast]; exact hgb) (by decide) (by decide), _, rfl, _, rfl, _, _, rfl, rfl, wide_div (b := 8000) (by omega) (by rw [Int.natAbs_natCast]; exact hgb) (by decide) (by decide), ?_⟩
      intro M dM nM ndM neM
      exact ⟨M, dM, _, _, _, rfl, upd_same, fun H1 m1 kp1 => ⟨rfl, k M dM H1 nM (made nM ndM kp1) m1⟩⟩
    · have h : y < 0 := by
        have : ¬ 0 < y := fun z => h (decide_eq_true z)
        omega
      rw [← gcd_div_num' h, ← gcd_div_den' h] at k
      refine ⟨_, rfl, rfl, _, rfl, ?_⟩
      refine ifF (decide_eq_false fun z => h0 (by injection z)) ?_
      refine ⟨_, rfl, _, rfl, _, rfl, _, _, rfl, rfl, wide_div (b := 8000) (by omega) (by rw [Int.natAbs_natCast]; exact hgb) (by decide) (by decide), _, rfl, _, rfl, _, rfl, _, _, rfl, rfl, wide_div (b := 8000) (by omega) (by rw [Int.natAbs_natCast]; exact hgb) (by decide) (by decide), ?_⟩
      intro M dM nM ndM neM
      exact ⟨M, dM, _, _, _, rfl, upd_same, fun H1 m1 kp1 => ⟨rfl, k M dM H1 nM (made nM ndM kp1) m1⟩⟩
def sp__checked_terms (A : Ad) : Sp := fun vs H Q _ => ∃ x y : Int, vs = [.int x, .int y] ∧ Short x ∧ Short y ∧ y ≠ 0 ∧ ∀ p dx H', H p = none → Same H H' → H' p = some (.ins A.a_Terms dx (trmL (Rat.divInt x y).num ((Rat.divInt x y).den : Int) true)) → Q (.ref p) H'
theorem short_8000 {y : Int} (h : Short y) : y.natAbs < 2 ^ 8000 := by
  obtain ⟨h1, h2⟩ := h
  have : y.natAbs < 10 ^ 60 := by omega
  exact Nat.lt_trans this (Nat.lt_of_lt_of_le (show 10 ^ 60 < 2 ^ 200 by decide +kernel) (Nat.pow_le_pow_right (by decide) (by decide)))
theorem ok__checked_terms (T : Txt K mg A) : FnOk P w K mg base CX0 4 A.f__checked_terms A.d__checked_terms ["top", "bottom"] (sp__checked_terms A) := by
  refine T.F__checked_terms.ok sc__checked_terms (fun vs H Q E h => ?_) (fun cdv Ar outer s H vs Q E hr h => ?_)
  · obtain ⟨x, y, rfl, _⟩ := h
    rfl
  · obtain ⟨x, y, rfl, hx, hy, h0, k⟩ := h
    have hu := hu_of hr
    refine ⟨_, (pss_cons (ps_if (PW.pt (pw_or (pt_not (pt_val (pe_call (ok_is_short_integer T) (hr.mono (by decide)) rfl T.m_is_short_integer T.F_is_short_integer.kp T.b_is_short_integer .nil pass0 (pa_cons (pv 0) pa_nil)))) (pw_or1 (pt_not (pt_val (pe_call (ok_is_short_integer T) (hr.mono (by decide)) rfl T.m_is_short_integer T.F_is_short_integer.kp T.b_is_short_integer .nil pass0 (pa_cons (pv 1) pa_nil)))))))
        (pss_one ps_never)
        pss_nil)
      (pss_one (ps_ret (pe_call (ok__lowest_terms T) (hr.mono (by decide)) rfl T.m__lowest_terms T.F__lowest_terms.kp T.b__lowest_terms .nil pass0 (pa_cons (pv 0) (pa_cons (pv 1) pa_nil)))))), ?_⟩
    refine ⟨_, rfl, _, rfl, .inl ⟨x, rfl, hx, _, rfl, ?_⟩⟩
    refine iteF ?_
    refine ⟨_, rfl, _, rfl, .inl ⟨y, rfl, hy, _, rfl, ?_⟩⟩
    refine iteF ?_
    exact ⟨_, rfl, _, rfl, x, y, rfl, h0, short_8000 hy, k⟩
/- a ratio at p, its terms as they lie -/
def ratL (n d : Int) (lo : Bool) : List (Str × V) := [("_top", .int n), ("_bottom", .int d), ("_is_lowest", .bl lo)]
def RatU (C : Addr) (H : Hp) (p : Addr) (n d : Int) (lo : Bool) : Prop := ∃ dx, H p = some (.ins C dx (ratL n d lo))
theorem RatU.stay {C : Addr} {H H' : Hp} {p : Addr} {n d : Int} {lo : Bool} (e : Sol H H') (L : RatU C H p n d lo) : RatU C H' p n d lo := by
  obtain ⟨dx, h⟩ := L
  exact ⟨dx, e _ _ h (fun _ z => by cases z)⟩
theorem rat_top {n d : Int} {lo : Bool} : (ratL n d lo).lookup ("_top" : Str) = some (.int n) := lk_here
theorem rat_bottom {n d : Int} {lo : Bool} : (ratL n d lo).lookup ("_bottom" : Str) = some (.int d) := (lk_past (by decide +kernel)).trans lk_here
theorem rat_low {n d : Int} {lo : Bool} : (ratL n d lo).lookup ("_is_lowest" : Str) = some (.bl lo) := (lk_past (by decide +kernel)).trans ((lk_past (by decide +kernel)).trans lk_here)
/- bounds of a fraction's digits -/
def Rsz (n : Nat) (q : Rat) : Prop := q.num.natAbs < 2 ^ n ∧ q.den < 2 ^ n
theorem Rsz.mono {m n : Nat} {q : Rat} (h : Rsz m q) (e : m ≤ n) : Rsz n q := ⟨Nat.lt_of_lt_of_le h.1 (Nat.pow_le_pow_right (by decide) e), Nat.lt_of_lt_of_le h.2 (Nat.pow_le_pow_right (by decide) e)⟩
/- two terms of a number -/
structure Rq (k : Nat) (n d : Int) (lo : Bool) (q : Rat) : Prop where
  d0 : 0 < d
  e : Rat.divInt n d = q
  low : lo = true → n = q.num ∧ d = (q.den : Int)
  bn : n.natAbs < 2 ^ k
  bd : d.natAbs < 2 ^ k
theorem Rq.lowest {k : Nat} {q : Rat} (z : Rsz k q) : Rq k q.num (q.den : Int) true q := ⟨by have := q.den_nz; omega, Rat.num_divInt_den q, fun _ => ⟨rfl, rfl⟩, z.1, by rw [Int.natAbs_natCast]; exact z.2⟩
theorem Rq.mono {k j : Nat} {n d : Int} {lo : Bool} {q : Rat} (h : Rq k n d lo q) (l : k ≤ j) : Rq j n d lo q := ⟨h.d0, h.e, h.low, Nat.lt_of_lt_of_le h.bn (Nat.pow_le_pow_right (by decide) l), Nat.lt_of_lt_of_le h.bd (Nat.pow_le_pow_right (by decide) l)⟩
def RatB (k : Nat) (C : Addr) (H : Hp) (p : Addr) (q : Rat) : Prop := ∃ n d lo, RatU C H p n d lo ∧ Rq k n d lo q
theorem RatB.stay {k : Nat} {C : Addr} {H H' : Hp} {p : Addr} {q : Rat} (e : Sol H H') (L : RatB k C H p q) : RatB k C H' p q := by
  obtain ⟨n, d, lo, u, r⟩ := L
  exact ⟨n, d, lo, u.stay e, r⟩
theorem RatB.mono {k j : Nat} {C : Addr} {H : Hp} {p : Addr} {q : Rat} (L : RatB k C H p q) (l : k ≤ j) : RatB j C H p q := by
  obtain ⟨n, d, lo, u, r⟩ := L
  exact ⟨n, d, lo, u, r.mono l⟩
theorem RatB.ins {k : Nat} {C : Addr} {H : Hp} {p : Addr} {q : Rat} (h : RatB k C H p q) : ∃ dx fs, H p = some (.ins C dx fs) := by
  obtain ⟨n, d, lo, ⟨dx, h⟩, _⟩ := h
  exact ⟨dx, _, h⟩
/- a ratio at p in lowest terms -/
def RatAt (C : Addr) (H : Hp) (p : Addr) (q : Rat) : Prop := RatU C H p q.num (q.den : Int) true
theorem RatAt.stay {C : Addr} {H H' : Hp} {p : Addr} {q : Rat} (e : Sol H H') (L : RatAt C H p q) : RatAt C H' p q := RatU.stay e L
theorem RatAt.b {k : Nat} {C : Addr} {H : Hp} {p : Addr} {q : Rat} (L : RatAt C H p q) (z : Rsz k q) : RatB k C H p q := ⟨_, _, _, L, Rq.lowest z⟩
theorem RatAt.ins {C : Addr} {H : Hp} {p : Addr} {q : Rat} (h : RatAt C H p q) : ∃ dx fs, H p = some (.ins C dx fs) := by
  obtain ⟨dx, h⟩ := h
  exact ⟨dx, _, h⟩
/- what a ratio is made of -/
inductive Pay (A : Ad) (H : Hp) : V → V → Int → Int → Bool → Prop where
  | two {x y : Int} {q : Rat} (hx : Short x) (hy : Short y) (h0 : y ≠ 0) (hq : Rat.divInt x y = q) : Pay A H (.int x) (.int y) q.num (q.den : Int) true
  | trm {t dx : Addr} {v : V} {n d : Int} {lo : Bool} (h : H t = some (.ins A.a_Terms dx (trmL n d lo))) : Pay A H (.ref t) v n d lo
def sp_Ratio___init__ (A : Ad) : Sp := fun vs H Q _ => ∃ (p dx : Addr) (u v : V) (n d : Int) (lo : Bool), vs = [.ref p, u, v] ∧ H p = some (.ins A.a_Ratio dx []) ∧ Pay A H u v n d lo ∧
  ∀ H', RatU A.a_Ratio H' p n d lo → (∀ x o, H x = some o → x ≠ p → H' x = some o) → Q .non H'
theorem ok_Ratio___init__ (T : Txt K mg A) : FnOk P w K mg base CX0 6 A.f_Ratio___init__ A.d_Ratio___init__ ["self", "top", "bottom"] (sp_Ratio___init__ A) := by
  refine T.F_Ratio___init__.ok sc_Ratio___init__ (fun vs H Q E h => ?_) (fun cdv Ar outer s H vs Q E hr h => ?_)
  · obtain ⟨p, dx, u, v, n, d, lo, rfl, _⟩ := h
    rfl
  · obtain ⟨p, dx, vu, vv, n, d, lo, rfl, hp, ha, k⟩ := h
    have hu := hu_of hr
    refine ⟨_, (pss_cons (ps_set (i := 3) sc_Ratio___init__.nd rfl (Or.inl rfl) (pe_ifExp (pt_val (pe_callB call_isi (by rfl) T.b_isinstance (by decide +kernel) (pa_cons (pv 1) (pa_cons (pe_glob rfl T.m_Terms (rel_ref _)) pa_nil)))) (pv 1) (pe_call (ok__checked_terms T) (hr.mono (by decide)) rfl T.m__checked_terms T.F__checked_terms.kp T.b__checked_terms .nil pass0 (pa_cons (pv 1) (pa_cons (pv 2) pa_nil)))))
      (pss_cons (ps_fld (pv 0) (pe_fld (pv 3) rfl) rfl)
      (pss_cons (ps_fld (pv 0) (pe_fld (pv 3) rfl) rfl)
      (pss_one (ps_fld (pv 0) (pe_fld (pv 3) rfl) rfl))))), ?_⟩
    have fin : ∀ (t dt : Addr) (H1 : Hp), Same H H1 → Q .non (upd H1 p (.ins A.a_Ratio dx (ratL n d lo))) := fun t dt H1 s1 =>
      k _ ⟨dx, upd_same⟩ fun z o e ne => by rw [upd_ne ne]; exact s1 z o e
    have e1 : ∀ {x y : V}, putF "_bottom" x (putF "_top" y []) = ([("_top", y), ("_bottom", x)] : List (Str × V)) := (put_past (by decide +kernel)).trans rfl
    have e2 : ∀ {x y z : V}, putF "_is_lowest" z [("_top", y), ("_bottom", x)] = ([("_top", y), ("_bottom", x), ("_is_lowest", z)] : List (Str × V)) := (put_past (by decide +kernel)).trans (congrArg _ ((put_past (by decide +kernel)).trans rfl))
    cases ha with
    | @two x y q hx hy h0 hq =>
      subst hq
      refine ⟨_, rfl, _, _, _, _, false, rfl, .own A.a_Terms, .base (.int x), kit_own T.ic_Terms T.ty_Terms (by decide +kernel), _, rfl, ?_⟩
      refine iteF ?_
      refine ⟨_, rfl, _, rfl, x, y, rfl, hx, hy, h0, fun t dt H1 nt s1 g1 => ?_⟩
      have hp1 := s1 _ _ hp
      have npt : t ≠ p := by
        rintro rfl
        rw [nt] at hp
        cases hp
      refine ⟨_, rfl, t, A.a_Terms, dt, _, _, rfl, g1, T.c_Terms, T.na_Terms_above, trm_a, _, rfl, p, A.a_Ratio, dx, [], rfl, hp1, T.c_Ratio, T.na_Ratio__top, by show 0 < 1000; decide, ?_⟩
      have g2 : ∀ o, (upd H1 p o) t = some (.ins A.a_Terms dt (trmL (Rat.divInt x y).num ((Rat.divInt x y).den : Int) true)) := fun o => by rw [upd_ne npt]; exact g1
      refine ⟨_, rfl, t, A.a_Terms, dt, _, _, rfl, g2 _, T.c_Terms, T.na_Terms_below, trm_b, _, rfl, p, A.a_Ratio, dx, _, rfl, upd_same, T.c_Ratio, T.na_Ratio__bottom, by show 1 < 1000; decide, ?_⟩
      rw [upd_upd, e1]
      refine ⟨_, rfl, t, A.a_Terms, dt, _, _, rfl, g2 _, T.c_Terms, T.na_Terms_lowest, trm_l, _, rfl, p, A.a_Ratio, dx, _, rfl, upd_same, T.c_Ratio, T.na_Ratio__is_lowest, by show 2 < 1000; decide, ?_⟩
      rw [upd_upd, e2]
      exact fin t dt H1 s1
    | @trm t dt v n d lo g1 =>
      have npt : t ≠ p := by
        rintro rfl
        rw [g1] at hp
        have z := Option.some.inj hp
        injection z with z1 z2 z3
        cases z3
      refine ⟨_, rfl, _, _, _, _, true, rfl, .own A.a_Terms, ty_ins g1 T.c_Terms T.cl_Terms T.ob_Terms T, kit_self, _, rfl, ?_⟩
      refine iteT ?_
      refine ⟨_, rfl, ?_⟩
      refine ⟨_, rfl, t, A.a_Terms, dt, _, _, rfl, g1, T.c_Terms, T.na_Terms_above, trm_a, _, rfl, p, A.a_Ratio, dx, [], rfl, hp, T.c_Ratio, T.na_Ratio__top, by show 0 < 1000; decide, ?_⟩
      have g2 : ∀ o, (upd H p o) t = some (.ins A.a_Terms dt (trmL n d lo)) := fun o => by rw [upd_ne npt]; exact g1
      refine ⟨_, rfl, t, A.a_Terms, dt, _, _, rfl, g2 _, T.c_Terms, T.na_Terms_below, trm_b, _, rfl, p, A.a_Ratio, dx, _, rfl, upd_same, T.c_Ratio, T.na_Ratio__bottom, by show 1 < 1000; decide, ?_⟩
      rw [upd_upd, e1]
      refine ⟨_, rfl, t, A.a_Terms, dt, _, _, rfl, g2 _, T.c_Terms, T.na_Terms_lowest, trm_l, _, rfl, p, A.a_Ratio, dx, _, rfl, upd_same, T.c_Ratio, T.na_Ratio__is_lowest, by show 2 < 1000; decide, ?_⟩
      rw [upd_upd, e2]
      exact fin t dt H (Same.refl H)
/- a number: a ratio, or an int of at most sixty digits -/
inductive Rn (A : Ad) (k : Nat) (H : Hp) : V → Rat → Prop where
  | rat {p : Addr} {q : Rat} (h : RatB k A.a_Ratio H p q) : Rn A k H (.ref p) q
  | int {i : Int} (h : Short i) : Rn A k H (.int i) (i : Rat)
theorem Rn.stay {k : Nat} {H H' : Hp} {v : V} {q : Rat} (e : Sol H H') (n : Rn A k H v q) : Rn A k H' v q := by
  cases n with
  | rat h => exact .rat (h.stay e)
  | int h => exact .int h
theorem short_bits {k : Nat} (hk : 200 ≤ k) {y : Int} (h : Short y) : y.natAbs < 2 ^ k := by
  obtain ⟨h1, h2⟩ := h
  have : y.natAbs < 10 ^ 60 := by omega
  exact Nat.lt_of_lt_of_le (Nat.lt_trans this (show 10 ^ 60 < 2 ^ 200 by decide +kernel)) (Nat.pow_le_pow_right (by decide) hk)
def sp__plain_terms_of (A : Ad) : Sp := fun vs H Q _ => ∃ (v : V) (k : Nat) (q : Rat), vs = [v] ∧ Rn A k H v q ∧ 200 ≤ k ∧ ∀ p n d lo H', H p = none → Same H H' → H' p = some (.tup [.int n, .int d]) → Rq k n d lo q → Q (.ref p) H'
theorem ok__plain_terms_of (T : Txt K mg A) : FnOk P w K mg base CX0 4 A.f__plain_terms_of A.d__plain_terms_of ["number"] (sp__plain_terms_of A) := by
  refine T.F__plain_terms_of.ok sc__plain_terms_of (fun vs H Q E h => ?_) (fun cdv Ar outer s H vs Q E hr h => ?_)
  · obtain ⟨v, k, q, rfl, _⟩ := h
    rfl
  · obtain ⟨v, kb, q, rfl, hv, hk, k⟩ := h
    have hu := hu_of hr
    refine ⟨_, (pss_cons (ps_if (pt_val (pe_callB call_isi (by rfl) T.b_isinstance (by decide +kernel) (pa_cons (pv 0) (pa_cons (pe_glob rfl T.m_Ratio (rel_ref _)) pa_nil))))
        (pss_one (ps_ret (pe_tup (pa_cons (pe_fld (pv 0) rfl) (pa_cons (pe_fld (pv 0) rfl) pa_nil)))))
        pss_nil)
      (pss_cons (ps_if (pt_val (pe_call (ok_is_short_integer T) (hr.mono (by decide)) rfl T.m_is_short_integer T.F_is_short_integer.kp T.b_is_short_integer .nil pass0 (pa_cons (pv 0) pa_nil)))
        (pss_one (ps_ret (pe_tup (pa_cons (pv 0) (pa_cons pe_int pa_nil)))))
        pss_nil)
      (pss_one ps_never))), ?_⟩
    cases hv with
    | @rat p q h =>
      obtain ⟨n, d, lo, ⟨dx, L⟩, r⟩ := id h
      refine ⟨_, rfl, _, _, _, _, true, rfl, .own A.a_Ratio, ty_ins L T.c_Ratio T.cl_Ratio T.ob_Ratio T, kit_self, _, rfl, ?_⟩
      refine iteT ?_
      refine ⟨_, rfl, p, A.a_Ratio, dx, _, _, rfl, L, T.c_Ratio, T.na_Ratio__top, rat_top, _, rfl, p, A.a_Ratio, dx, _, _, rfl, L, T.c_Ratio, T.na_Ratio__bottom, rat_bottom, by show 2 ≤ sizeLine; decide, fun t ht => ?_⟩
      exact k t n d lo _ ht (same_new ht) upd_same r
    | @int i h =>
      refine ⟨_, rfl, _, _, _, _, false, rfl, .own A.a_Ratio, .base (.int i), kit_own T.ic_Ratio T.ty_Ratio (by decide +kernel), _, rfl, ?_⟩
      refine iteF ?_
      refine ⟨_, rfl, _, rfl, .inl ⟨i, rfl, h, _, rfl, ?_⟩⟩
      refine iteT ?_
      refine ⟨_, rfl, by show 2 ≤ sizeLine; decide, fun t ht => ?_⟩
      refine k t i 1 true _ ht (same_new ht) upd_same ⟨by decide, ?_, fun _ => ⟨rfl, rfl⟩, short_bits hk h, ?_⟩
      · exact Rat.num_divInt_den (i : Rat)
      · exact Nat.one_lt_two_pow (by omega)
def sp_ratio_of (A : Ad) : Sp := fun vs H Q _ => ∃ x y : Int, vs = [.int x, .int y] ∧ y ≠ 0 ∧ y.natAbs < 2 ^ 8000 ∧ ∀ p H', Same H H' → RatAt A.a_Ratio H' p (Rat.divInt x y) → Q (.ref p) H'
theorem ok_ratio_of (T : Txt K mg A) : FnOk P w K mg base CX0 8 A.f_ratio_of A.d_ratio_of ["top", "bottom"] (sp_ratio_of A) := by
  refine T.F_ratio_of.ok sc_ratio_of (fun vs H Q E h => ?_) (fun cdv Ar outer s H vs Q E hr h => ?_)
  · obtain ⟨x, y, rfl, _⟩ := h
    rfl
  · obtain ⟨x, y, rfl, h0, hy, k⟩ := h
    have hu := hu_of hr
    refine ⟨_, (pss_one (ps_ret (pe_make T.mk_Ratio (ok_Ratio___init__ T) (hr.mono (by decide)) rfl T.m_Ratio T.b1_Ratio___init__.choose_spec.2 T.b1_Ratio___init__.choose_spec.1 pass0 (pa_cons (pe_call (ok__lowest_terms T) (hr.mono (by decide)) rfl T.m__lowest_terms T.F__lowest_terms.kp T.b__lowest_terms .nil pass0 (pa_cons (pv 0) (pa_cons (pv 1) pa_nil))) pa_nil)))), ?_⟩
    refine ⟨_, rfl, _, rfl, x, y, rfl, h0, hy, fun t dt H1 nt s1 g1 => ?_⟩
    intro L dL nL ndL neL
    have up := same_up (C := A.a_Ratio) nL ndL
    exact ⟨L, dL, _, _, _, _, _, rfl, upd_same, .trm (up _ _ g1), fun H3 L3 kp3 => ⟨rfl, k L H3 (s1.trans (made nL ndL kp3)) L3⟩⟩
def sp_unreduced_ratio (A : Ad) : Sp := fun vs H Q _ => ∃ (x y : Int) (k : Nat), vs = [.int x, .int y] ∧ 0 < y ∧ x.natAbs < 2 ^ k ∧ y.natAbs < 2 ^ k ∧ ∀ p H', Same H H' → RatB k A.a_Ratio H' p (Rat.divInt x y) → Q (.ref p) H'
theorem ok_unreduced_ratio (T : Txt K mg A) : FnOk P w K mg base CX0 8 A.f_unreduced_ratio A.d_unreduced_ratio ["top", "bottom"] (sp_unreduced_ratio A) := by
  refine T.F_unreduced_ratio.ok sc_unreduced_ratio (fun vs H Q E h => ?_) (fun cdv Ar outer s H vs Q E hr h => ?_)
  · obtain ⟨x, y, _, rfl, _⟩ := h
    rfl
  · obtain ⟨x, y, kb, rfl, h0, hx, hy, k⟩ := h
    have hu := hu_of hr
    refine ⟨_, (pss_one (ps_ret (pe_make T.mk_Ratio (ok_Ratio___init__ T) (hr.mono (by decide)) rfl T.m_Ratio T.b1_Ratio___init__.choose_spec.2 T.b1_Ratio___init__.choose_spec.1 pass0 (pa_cons (pe_make T.mk_Terms (ok_Terms___init__ T) (hr.mono (by decide)) rfl T.m_Terms T.b_Terms___init__ .nil pass0 (pa_cons (pv 0) (pa_cons (pv 1) (pa_cons pe_bl pa_nil)))) pa_nil)))), ?_⟩
    refine ⟨_, rfl, _, rfl, ?_⟩
    intro M dM nM ndM neM
    refine ⟨M, dM, _, _, _, rfl, upd_same, fun H1 m1 kp1 => ⟨rfl, ?_⟩⟩
    intro L dL nL ndL neL
    have up := same_up (C := A.a_Ratio) nL ndL
    exact ⟨L, dL, _, _, _, _, _, rfl, upd_same, .trm (up _ _ m1), fun H3 L3 kp3 => ⟨rfl, k L H3 ((made nM ndM kp1).trans (made nL ndL kp3)) ⟨_, _, _, L3, h0, rfl, (fun z => by cases z), hx, hy⟩⟩⟩
theorem divInt_small {x y : Int} {k : Nat} (h : y ≠ 0) (hx : x.natAbs < 2 ^ k) (hy : y.natAbs < 2 ^ k) : Rsz k (Rat.divInt x y) := by
  rcases Int.lt_or_lt_of_ne h with z | z
  · have e1 := gcd_div_num' (x := x) z
    have e2 := gcd_div_den' (x := x) z
    have g0 : 0 < Nat.gcd x.natAbs y.natAbs := Nat.gcd_pos_of_pos_right _ (by omega)
    refine ⟨?_, ?_⟩
    · rw [← e1]
      have := Int.natAbs_ediv_le_natAbs (-x) ((Nat.gcd x.natAbs y.natAbs : Nat) : Int)
      omega
    · have := Int.natAbs_ediv_le_natAbs (-y) ((Nat.gcd x.natAbs y.natAbs : Nat) : Int)
      rw [e2] at this
      omega
  · have e1 := gcd_div_num (x := x) z
    have e2 := gcd_div_den (x := x) z
    refine ⟨?_, ?_⟩
    · rw [← e1]
      have := Int.natAbs_ediv_le_natAbs x ((Nat.gcd x.natAbs y.natAbs : Nat) : Int)
      omega
    · have := Int.natAbs_ediv_le_natAbs y ((Nat.gcd x.natAbs y.natAbs : Nat) : Int)
      rw [e2] at this
      omega
theorem Rq.sz {k : Nat} {n d : Int} {lo : Bool} {q : Rat} (h : Rq k n d lo q) : Rsz k q := by
  rw [← h.e]
  have := h.d0
  exact divInt_small (by omega) h.bn h.bd
theorem den_mul {a b : Int} (h1 : 0 < a) (h2 : 0 < b) : a * b ≠ 0 := Int.mul_ne_zero (by omega) (by omega)
theorem den_bits {a b : Int} (h1 : a.natAbs < 2 ^ 4000) (h2 : b.natAbs < 2 ^ 4000) : (a * b).natAbs < 2 ^ 8000 := wide_lt h1 h2
def sp_Ratio_top (A : Ad) : Sp := fun vs H Q _ => ∃ (p : Addr) (q : Rat), vs = [.ref p] ∧ RatB 4000 A.a_Ratio H p q ∧ Q (.int q.num) H
theorem ok_Ratio_top (T : Txt K mg A) : FnOk P w K mg base CX0 2 A.f_Ratio_top A.d_Ratio_top ["self"] (sp_Ratio_top A) := by
  refine T.F_Ratio_top.ok sc_Ratio_top (fun vs H Q E h => ?_) (fun cdv Ar outer s H vs Q E hr h => ?_)
  · obtain ⟨p, q, rfl, _⟩ := h
    rfl
  · obtain ⟨p, q, rfl, ⟨n, d, lo, ⟨dx, L⟩, r⟩, k⟩ := h
    have hu := hu_of hr
    refine ⟨_, (pss_one (ps_ret (pe_ifExp (pt_val (pe_fld (pv 0) rfl)) (pe_fld (pv 0) rfl) (pe_op op_fdivW (pe_fld (pv 0) rfl) (pe_callBfun cr_gcd rfl T.m_gcd (pa_cons (pe_fld (pv 0) rfl) (pa_cons (pe_fld (pv 0) rfl) pa_nil))))))), ?_⟩
    refine ⟨_, rfl, p, A.a_Ratio, dx, _, _, rfl, L, T.c_Ratio, T.na_Ratio__is_lowest, rat_low, _, rfl, ?_⟩
    cases lo with
    | true =>
      refine iteT ?_
      rw [← (r.low rfl).1] at k
      exact ⟨_, rfl, p, A.a_Ratio, dx, _, _, rfl, L, T.c_Ratio, T.na_Ratio__top, rat_top, k⟩
    | false =>
      refine iteF ?_
      have d0 := r.d0
      have e := gcd_div_num (x := n) d0
      rw [r.e] at e
      rw [← e] at k
      have g0 : 0 < Nat.gcd n.natAbs d.natAbs := Nat.gcd_pos_of_pos_right _ (by omega)
      have gb : Nat.gcd n.natAbs d.natAbs < 2 ^ 4000 := Nat.lt_of_le_of_lt (Nat.le_of_dvd (by omega) (Nat.gcd_dvd_right _ _)) r.bd
      refine ⟨_, rfl, p, A.a_Ratio, dx, _, _, rfl, L, T.c_Ratio, T.na_Ratio__top, rat_top, _, rfl, p, A.a_Ratio, dx, _, _, rfl, L, T.c_Ratio, T.na_Ratio__top, rat_top, _, rfl, p, A.a_Ratio, dx, _, _, rfl, L, T.c_Ratio, T.na_Ratio__bottom, rat_bottom, n, d, rfl, _, _, rfl, rfl, wide_div (b := 4000) (by omega) (by rw [Int.natAbs_natCast]; exact gb) (by decide) (by decide), k⟩
def sp_Ratio_bottom (A : Ad) : Sp := fun vs H Q _ => ∃ (p : Addr) (q : Rat), vs = [.ref p] ∧ RatB 4000 A.a_Ratio H p q ∧ Q (.int (q.den : Int)) H
theorem ok_Ratio_bottom (T : Txt K mg A) : FnOk P w K mg base CX0 2 A.f_Ratio_bottom A.d_Ratio_bottom ["self"] (sp_Ratio_bottom A) := by
  refine T.F_Ratio_bottom.ok sc_Ratio_bottom (fun vs H Q E h => ?_) (fun cdv Ar outer s H vs Q E hr h => ?_)
  · obtain ⟨p, q, rfl, _⟩ := h
    rfl
  · obtain ⟨p, q, rfl, ⟨n, d, lo, ⟨dx, L⟩, r⟩, k⟩ := h
    have hu := hu_of hr
    refine ⟨_, (pss_one (ps_ret (pe_ifExp (pt_val (pe_fld (pv 0) rfl)) (pe_fld (pv 0) rfl) (pe_op op_fdivW (pe_fld (pv 0) rfl) (pe_callBfun cr_gcd rfl T.m_gcd (pa_cons (pe_fld (pv 0) rfl) (pa_cons (pe_fld (pv 0) rfl) pa_nil))))))), ?_⟩
    refine ⟨_, rfl, p, A.a_Ratio, dx, _, _, rfl, L, T.c_Ratio, T.na_Ratio__is_lowest, rat_low, _, rfl, ?_⟩
    cases lo with
    | true =>
      refine iteT ?_
      rw [← (r.low rfl).2] at k
      exact ⟨_, rfl, p, A.a_Ratio, dx, _, _, rfl, L, T.c_Ratio, T.na_Ratio__bottom, rat_bottom, k⟩
    | false =>
      refine iteF ?_
      have d0 := r.d0
      have e := gcd_div_den (x := n) d0
      rw [r.e] at e
      rw [← e] at k
      have g0 : 0 < Nat.gcd n.natAbs d.natAbs := Nat.gcd_pos_of_pos_right _ (by omega)
      have gb : Nat.gcd n.natAbs d.natAbs < 2 ^ 4000 := Nat.lt_of_le_of_lt (Nat.le_of_dvd (by omega) (Nat.gcd_dvd_right _ _)) r.bd
      refine ⟨_, rfl, p, A.a_Ratio, dx, _, _, rfl, L, T.c_Ratio, T.na_Ratio__bottom, rat_bottom, _, rfl, p, A.a_Ratio, dx, _, _, rfl, L, T.c_Ratio, T.na_Ratio__top, rat_top, _, rfl, p, A.a_Ratio, dx, _, _, rfl, L, T.c_Ratio, T.na_Ratio__bottom, rat_bottom, n, d, rfl, _, _, rfl, rfl, wide_div (b := 4000) (by omega) (by rw [Int.natAbs_natCast]; exact gb) (by decide) (by decide), k⟩
def sp_Ratio___add__ (A : Ad) : Sp := fun vs H Q _ => ∃ (p : Addr) (v : V) (q r : Rat), vs = [.ref p, v] ∧ RatB 4000 A.a_Ratio H p q ∧ Rn A 4000 H v r ∧ ∀ p H', Same H H' → RatAt A.a_Ratio H' p (q + r) → Q (.ref p) H'
theorem ok_Ratio___add__ (T : Txt K mg A) : FnOk P w K mg base CX0 9 A.f_Ratio___add__ A.d_Ratio___add__ ["self", "other"] (sp_Ratio___add__ A) := by
  refine T.F_Ratio___add__.ok sc_Ratio___add__ (fun vs H Q E h => ?_) (fun cdv Ar outer s H vs Q E hr h => ?_)
  · obtain ⟨p, v, q, r, rfl, _⟩ := h
    rfl
  · obtain ⟨p, v, q, r, rfl, ⟨n, d, lo, ⟨dx, g⟩, z1⟩, hv, k⟩ := h
    have hu := hu_of hr
    refine ⟨_, (pss_cons (ps_asg (pe_call (ok__plain_terms_of T) (hr.mono (by decide)) rfl T.m__plain_terms_of T.F__plain_terms_of.kp T.b__plain_terms_of .nil pass0 (pa_cons (pv 1) pa_nil)) (pg_tup rfl (pgs_cons (pg_name (i := 2) sc_Ratio___add__.nd rfl (Or.inl rfl)) (pgs_cons (pg_name (i := 3) sc_Ratio___add__.nd rfl (Or.inl rfl)) pgs_nil))))
      (pss_one (ps_ret (pe_call (ok_ratio_of T) (hr.mono (by decide)) rfl T.m_ratio_of T.F_ratio_of.kp T.b_ratio_of .nil pass0 (pa_cons (pe_op op_add (pe_op op_mulW (pe_fld (pv 0) rfl) (pv 3)) (pe_op op_mulW (pv 2) (pe_fld (pv 0) rfl))) (pa_cons (pe_op op_mulW (pe_fld (pv 0) rfl) (pv 3)) pa_nil)))))), ?_⟩
    refine ⟨_, rfl, v, 4000, r, rfl, hv, by decide, fun t n2 d2 lo2 H1 ht s1 g1 z2 => ⟨t, _, rfl, SqT.of g1, rfl, _, _, rfl, _, _, rfl, rfl, ?_⟩⟩
    have g2 := s1 _ _ g
    refine ⟨_, rfl, p, A.a_Ratio, dx, _, _, rfl, g2, T.c_Ratio, T.na_Ratio__top, rat_top, _, rfl, _, _, rfl, rfl, wide_mul z1.bn z2.bd (by decide) (by decide) (by decide), ?_⟩
    refine ⟨_, rfl, _, rfl, p, A.a_Ratio, dx, _, _, rfl, g2, T.c_Ratio, T.na_Ratio__bottom, rat_bottom, _, _, rfl, rfl, wide_mul z2.bn z1.bd (by decide) (by decide) (by decide), _, _, rfl, rfl, ?_⟩
    refine ⟨_, rfl, p, A.a_Ratio, dx, _, _, rfl, g2, T.c_Ratio, T.na_Ratio__bottom, rat_bottom, _, rfl, _, _, rfl, rfl, wide_mul z1.bd z2.bd (by decide) (by decide) (by decide), ?_⟩
    refine ⟨_, _, rfl, den_mul z1.d0 z2.d0, den_bits z1.bd z2.bd, fun p' H2 s2 L2' => ?_⟩
    have d1 := z1.d0
    have d3 := z2.d0
    rw [← Rat.divInt_add_divInt n n2 (by omega) (by omega), z1.e, z2.e] at L2'
    exact k p' H2 (s1.trans s2) L2'
def sp_Ratio___sub__ (A : Ad) : Sp := fun vs H Q _ => ∃ (p : Addr) (v : V) (q r : Rat), vs = [.ref p, v] ∧ RatB 4000 A.a_Ratio H p q ∧ Rn A 4000 H v r ∧ ∀ p H', Same H H' → RatAt A.a_Ratio H' p (q - r) → Q (.ref p) H'
theorem ok_Ratio___sub__ (T : Txt K mg A) : FnOk P w K mg base CX0 9 A.f_Ratio___sub__ A.d_Ratio___sub__ ["self", "other"] (sp_Ratio___sub__ A) := by
  refine T.F_Ratio___sub__.ok sc_Ratio___sub__ (fun vs H Q E h => ?_) (fun cdv Ar outer s H vs Q E hr h => ?_)
  · obtain ⟨p, v, q, r, rfl, _⟩ := h
    rfl
  · obtain ⟨p, v, q, r, rfl, ⟨n, d, lo, ⟨dx, g⟩, z1⟩, hv, k⟩ := h
    have hu := hu_of hr
    refine ⟨_, (pss_cons (ps_asg (pe_call (ok__plain_terms_of T) (hr.mono (by decide)) rfl T.m__plain_terms_of T.F__plain_terms_of.kp T.b__plain_terms_of .nil pass0 (pa_cons (pv 1) pa_nil)) (pg_tup rfl (pgs_cons (pg_name (i := 2) sc_Ratio___sub__.nd rfl (Or.inl rfl)) (pgs_cons (pg_name (i := 3) sc_Ratio___sub__.nd rfl (Or.inl rfl)) pgs_nil))))
      (pss_one (ps_ret (pe_call (ok_ratio_of T) (hr.mono (by decide)) rfl T.m_ratio_of T.F_ratio_of.kp T.b_ratio_of .nil pass0 (pa_cons (pe_op op_sub (pe_op op_mulW (pe_fld (pv 0) rfl) (pv 3)) (pe_op op_mulW (pv 2) (pe_fld (pv 0) rfl))) (pa_cons (pe_op op_mulW (pe_fld (pv 0) rfl) (pv 3)) pa_nil)))))), ?_⟩
    refine ⟨_, rfl, v, 4000, r, rfl, hv, by decide, fun t n2 d2 lo2 H1 ht s1 g1 z2 => ⟨t, _, rfl, SqT.of g1, rfl, _, _, rfl, _, _, rfl, rfl, ?_⟩⟩
    have g2 := s1 _ _ g
    refine ⟨_, rfl, p, A.a_Ratio, dx, _, _, rfl, g2, T.c_Ratio, T.na_Ratio__top, rat_top, _, rfl, _, _, rfl, rfl, wide_mul z1.bn z2.bd (by decide) (by decide) (by decide), ?_⟩
    refine ⟨_, rfl, _, rfl, p, A.a_Ratio, dx, _, _, rfl, g2, T.c_Ratio, T.na_Ratio__bottom, rat_bottom, _, _, rfl, rfl, wide_mul z2.bn z1.bd (by decide) (by decide) (by decide), _, _, rfl, rfl, ?_⟩
    refine ⟨_, rfl, p, A.a_Ratio, dx, _, _, rfl, g2, T.c_Ratio, T.na_Ratio__bottom, rat_bottom, _, rfl, _, _, rfl, rfl, wide_mul z1.bd z2.bd (by decide) (by decide) (by decide), ?_⟩
    refine ⟨_, _, rfl, den_mul z1.d0 z2.d0, den_bits z1.bd z2.bd, fun p' H2 s2 L2' => ?_⟩
    have d1 := z1.d0
    have d3 := z2.d0
    rw [← Rat.divInt_sub_divInt n n2 (by omega) (by omega), z1.e, z2.e] at L2'
    exact k p' H2 (s1.trans s2) L2'
def sp_Ratio___mul__ (A : Ad) : Sp := fun vs H Q _ => ∃ (p : Addr) (v : V) (q r : Rat), vs = [.ref p, v] ∧ RatB 4000 A.a_Ratio H p q ∧ Rn A 4000 H v r ∧ ∀ p H', Same H H' → RatAt A.a_Ratio H' p (q * r) → Q (.ref p) H'
theorem ok_Ratio___mul__ (T : Txt K mg A) : FnOk P w K mg base CX0 9 A.f_Ratio___mul__ A.d_Ratio___mul__ ["self", "other"] (sp_Ratio___mul__ A) := by
  refine T.F_Ratio___mul__.ok sc_Ratio___mul__ (fun vs H Q E h => ?_) (fun cdv Ar outer s H vs Q E hr h => ?_)
  · obtain ⟨p, v, q, r, rfl, _⟩ := h
    rfl
  · obtain ⟨p, v, q, r, rfl, ⟨n, d, lo, ⟨dx, g⟩, z1⟩, hv, k⟩ := h
    have hu := hu_of hr
    refine ⟨_, (pss_cons (ps_asg (pe_call (ok__plain_terms_of T) (hr.mono (by decide)) rfl T.m__plain_terms_of T.F__plain_terms_of.kp T.b__plain_terms_of .nil pass0 (pa_cons (pv 1) pa_nil)) (pg_tup rfl (pgs_cons (pg_name (i := 2) sc_Ratio___mul__.nd rfl (Or.inl rfl)) (pgs_cons (pg_name (i := 3) sc_Ratio___mul__.nd rfl (Or.inl rfl)) pgs_nil))))
      (pss_one (ps_ret (pe_call (ok_ratio_of T) (hr.mono (by decide)) rfl T.m_ratio_of T.F_ratio_of.kp T.b_ratio_of .nil pass0 (pa_cons (pe_op op_mulW (pe_fld (pv 0) rfl) (pv 2)) (pa_cons (pe_op op_mulW (pe_fld (pv 0) rfl) (pv 3)) pa_nil)))))), ?_⟩
    refine ⟨_, rfl, v, 4000, r, rfl, hv, by decide, fun t n2 d2 lo2 H1 ht s1 g1 z2 => ⟨t, _, rfl, SqT.of g1, rfl, _, _, rfl, _, _, rfl, rfl, ?_⟩⟩
    have g2 := s1 _ _ g
    refine ⟨_, rfl, p, A.a_Ratio, dx, _, _, rfl, g2, T.c_Ratio, T.na_Ratio__top, rat_top, _, rfl, _, _, rfl, rfl, wide_mul z1.bn z2.bn (by decide) (by decide) (by decide), ?_⟩
    refine ⟨_, rfl, p, A.a_Ratio, dx, _, _, rfl, g2, T.c_Ratio, T.na_Ratio__bottom, rat_bottom, _, rfl, _, _, rfl, rfl, wide_mul z1.bd z2.bd (by decide) (by decide) (by decide), ?_⟩
    refine ⟨_, _, rfl, den_mul z1.d0 z2.d0, den_bits z1.bd z2.bd, fun p' H2 s2 L2' => ?_⟩
    rw [← Rat.divInt_mul_divInt, z1.e, z2.e] at L2'
    exact k p' H2 (s1.trans s2) L2'
def sp_Ratio_over (A : Ad) : Sp := fun vs H Q _ => ∃ (p : Addr) (v : V) (q r : Rat), vs = [.ref p, v] ∧ RatB 4000 A.a_Ratio H p q ∧ Rn A 4000 H v r ∧ r ≠ 0 ∧ ∀ p H', Same H H' → RatAt A.a_Ratio H' p (q / r) → Q (.ref p) H'
def sp_Ratio___neg__ (A : Ad) : Sp := fun vs H Q _ => ∃ (p : Addr) (q : Rat), vs = [.ref p] ∧ RatB 4000 A.a_Ratio H p q ∧ ∀ p H', Same H H' → RatB 4000 A.a_Ratio H' p (-q) → Q (.ref p) H'
theorem Rn.side {k : Nat} {H : Hp} {v : V} {q : Rat} (n : Rn A k H v q) : (∃ b dy gs, v = .ref b ∧ H b = some (.ins A.a_Ratio dy gs)) ∨ ∃ i : Int, v = .int i := by
  cases n with
  | @rat p q h =>
    obtain ⟨dx, fs, e⟩ := h.ins
    exact .inl ⟨p, dx, fs, rfl, e⟩
  | @int i h => exact .inr ⟨i, rfl⟩
def sp_Ratio___radd__ (A : Ad) : Sp := sp_Ratio___add__ A
def sp_Ratio___rmul__ (A : Ad) : Sp := sp_Ratio___mul__ A
def sp_Ratio___rsub__ (A : Ad) : Sp := fun vs H Q _ => ∃ (p : Addr) (v : V) (q r : Rat), vs = [.ref p, v] ∧ RatB 4000 A.a_Ratio H p q ∧ Rn A 4000 H v r ∧ ∀ p H', Same H H' → RatAt A.a_Ratio H' p (r - q) → Q (.ref p) H'
theorem rq_eq {k : Nat} {n d n2 d2 : Int} {lo lo2 : Bool} {q r : Rat} (z1 : Rq k n d lo q) (z2 : Rq k n2 d2 lo2 r) : decide (n * d2 = n2 * d) = decide (q = r) := by
  have h := Rat.divInt_eq_divInt_iff (n₁ := n) (n₂ := n2) (d₁ := d) (d₂ := d2) (by have := z1.d0; omega) (by have := z2.d0; omega)
  rw [z1.e, z2.e] at h
  by_cases e : q = r
  · rw [decide_eq_true e, decide_eq_true (h.mp e)]
  · rw [decide_eq_false e, decide_eq_false (fun z => e (h.mpr z))]
theorem rq_int {i : Int} (h : i.natAbs < 2 ^ 4000) : Rq 4000 i 1 true (i : Rat) := ⟨by decide, Rat.num_divInt_den (i : Rat), fun _ => ⟨rfl, rfl⟩, h, Nat.one_lt_two_pow (by decide)⟩
def sp_Ratio___eq__ (A : Ad) : Sp := fun vs H Q _ => ∃ (p : Addr) (y : V) (q : Rat), vs = [.ref p, y] ∧ RatB 4000 A.a_Ratio H p q ∧
  ((∃ m r, y = .ref m ∧ RatB 4000 A.a_Ratio H m r ∧ Q (.bl (decide (q = r))) H) ∨ (∃ i : Int, y = .int i ∧ i.natAbs < 2 ^ 4000 ∧ Q (.bl (decide (q = (i : Rat)))) H))
theorem ok_Ratio___eq__ (T : Txt K mg A) : FnOk P w K mg base CX0 9 A.f_Ratio___eq__ A.d_Ratio___eq__ ["self", "other"] (sp_Ratio___eq__ A) := by
  refine T.F_Ratio___eq__.ok sc_Ratio___eq__ (fun vs H Q E h => ?_) (fun cdv Ar outer s H vs Q E hr h => ?_)
  · obtain ⟨p, y, q, rfl, _⟩ := h
    rfl
  · obtain ⟨p, y, q, rfl, ⟨n, d, lo, ⟨dx, g⟩, z1⟩, k⟩ := h
    have hu := hu_of hr
    refine ⟨_, (pss_cons (ps_if (pt_val (pe_callB call_isi (by rfl) T.b_isinstance (by decide +kernel) (pa_cons (pv 1) (pa_cons (pe_glob rfl T.m_Ratio (rel_ref _)) pa_nil))))
        (pss_one (ps_ret (pe_cmpR op_eq (pe_op op_mulW (pe_fld (pv 0) rfl) (pe_fld (pv 1) rfl)) (pe_op op_mulW (pe_fld (pv 1) rfl) (pe_fld (pv 0) rfl)) (nomark _))))
        pss_nil)
      (pss_one (ps_ret (pe_and (pe_call (ok_is_any_integer T) (hr.mono (by decide)) rfl T.m_is_any_integer T.F_is_any_integer.kp T.b_is_any_integer .nil pass0 (pa_cons (pv 1) pa_nil)) (pe_one (pe_cmpR op_eq (pe_fld (pv 0) rfl) (pe_op op_mulW (pv 1) (pe_fld (pv 0) rfl)) (nomark _))))))), ?_⟩
    rcases k with ⟨m, r, rfl, ⟨n2, d2, lo2, ⟨dm, gm⟩, z2⟩, k⟩ | ⟨i, rfl, hi, k⟩
    · refine ⟨_, rfl, _, _, _, _, true, rfl, .own A.a_Ratio, ty_ins gm T.c_Ratio T.cl_Ratio T.ob_Ratio T, kit_self, _, rfl, ?_⟩
      refine iteT ?_
      refine ⟨_, rfl, p, A.a_Ratio, dx, _, _, rfl, g, T.c_Ratio, T.na_Ratio__top, rat_top, _, rfl, m, A.a_Ratio, dm, _, _, rfl, gm, T.c_Ratio, T.na_Ratio__bottom, rat_bottom, _, _, rfl, rfl, wide_mul z1.bn z2.bd (by decide) (by decide) (by decide), ?_⟩
      refine ⟨_, rfl, m, A.a_Ratio, dm, _, _, rfl, gm, T.c_Ratio, T.na_Ratio__top, rat_top, _, rfl, p, A.a_Ratio, dx, _, _, rfl, g, T.c_Ratio, T.na_Ratio__bottom, rat_bottom, _, _, rfl, rfl, wide_mul z2.bn z1.bd (by decide) (by decide) (by decide), rfl, ?_⟩
      rw [dec_int', rq_eq z1 z2]
      exact k
    · refine ⟨_, rfl, _, _, _, _, false, rfl, .own A.a_Ratio, .base (.int i), kit_own T.ic_Ratio T.ty_Ratio (by decide +kernel), _, rfl, ?_⟩
      refine iteF ?_
      refine ⟨_, rfl, i, rfl, _, rfl, ?_⟩
      refine iteT ?_
      refine ⟨_, rfl, p, A.a_Ratio, dx, _, _, rfl, g, T.c_Ratio, T.na_Ratio__top, rat_top, _, rfl, _, rfl, p, A.a_Ratio, dx, _, _, rfl, g, T.c_Ratio, T.na_Ratio__bottom, rat_bottom, _, _, rfl, rfl, wide_mul hi z1.bd (by decide) (by decide) (by decide), rfl, ?_⟩
      have e := rq_eq z1 (rq_int hi)
      rw [Int.mul_one] at e
      rw [dec_int', e]
      exact k
end
end Tk

set_option maxHeartbeats 2000000
namespace Tk
open PySem PySem.Spec PyProof.Rows L2 Tc
section
variable {P : Program} {w : World} {K : PySem.W.Frag} {mg : Str → Option Value} {base : Heap} {A : Ad}
open Tm
local macro_rules | `(tactic| walk_at "arr") => `(tactic| first
  | with_reducible assumption
  | ((with_reducible apply same_new); with_reducible assumption))
local macro_rules | `(tactic| walk_at "f") => `(tactic| first
  | with_reducible assumption
  | with_reducible exact upd_same
  | with_reducible exact Same.refl _
  | with_reducible exact Frm.refl
  | ((with_reducible apply sqL_K); (focus with_reducible assumption); rfl)
  | ((with_reducible apply sqT_K); (focus with_reducible assumption); rfl)
  | ((with_reducible apply SqT.of); walk_at "f")
  | ((with_reducible apply SqL.of); walk_at "f")
  | ((with_reducible apply back_raw); (focus walk_at "arr"); walk_at "f")
  | ((with_reducible apply frm_tup); (focus with_reducible assumption); (focus walk_at "f"); (focus walk_at "f"); (focus (intro _ z; cases z; done)))
  | ((with_reducible apply frm_raw); (focus with_reducible assumption); (focus walk_at "f"); walk_at "f")
  | ((with_reducible apply bowl_back); (focus walk_at "arr"); walk_at "f")
  | ((with_reducible apply bowl_ne); (focus with_reducible assumption); walk_at "f")
  | ((with_reducible apply Num.int); with_reducible assumption)
  | ((with_reducible apply same_snoc); (focus walk_at "arr"); walk_at "f")
  | ((with_reducible apply frm_back); (focus walk_at "arr"); walk_at "f")
  | ((with_reducible apply frm_backF); (focus with_reducible assumption); walk_at "f")
  | ((with_reducible apply back_sqT); (focus walk_at "arr"); walk_at "f")
  | ((with_reducible apply same_sqL); (focus walk_at "arr"); walk_at "f")
  | ((with_reducible apply free_same); (focus with_reducible assumption); walk_at "f")
  | ((with_reducible apply free_frm); (focus with_reducible assumption); (focus with_reducible assumption); walk_at "f")
  | ((with_reducible apply frm_sqL); (focus with_reducible assumption); (focus walk_at "f"); walk_at "f"))
local macro_rules | `(tactic| walk_at "bt") => `(tactic| first
  | with_reducible assumption
  | ((with_reducible apply bt_mul); (focus walk_at "bt"); walk_at "bt")
  | ((with_reducible apply bt_add); (focus walk_at "bt"); walk_at "bt")
  | ((with_reducible apply bt_sub); (focus walk_at "bt"); walk_at "bt")
  | ((with_reducible apply bt_neg); walk_at "bt")
  | ((with_reducible apply bt_div); walk_at "bt")
  | ((with_reducible apply bt_mod); (focus (first | assumption | omega)); walk_at "bt")
  | exact bt_lit (n := 64) (by decide)
  | exact bt_lit (n := 200) (by decide +kernel))
local macro_rules | `(tactic| walk_at "lin") => `(tactic| first
  | exact (by decide : 1 ≤ sizeLine) | exact (by decide : 2 ≤ sizeLine) | exact (by decide : 3 ≤ sizeLine) | exact (by decide : 4 ≤ sizeLine) | exact (by decide : 0 ≤ sizeLine) | exact (by decide : 5 ≤ sizeLine) | exact (by decide : 6 ≤ sizeLine))
local macro_rules | `(tactic| walk_at "dp") => `(tactic| first
  | exact Dp.int _
  | exact DpAll.nil
  | ((with_reducible apply Dp.lst); (focus walk_at "f"); walk_at "dp")
  | ((with_reducible apply Dp.tup); (focus walk_at "f"); walk_at "dp")
  | ((with_reducible apply DpAll.cons); (focus walk_at "dp"); walk_at "dp"))
local macro_rules | `(tactic| walk_at "sv") => `(tactic| first
  | with_reducible rfl
  | walk_at "f"
  | exact rfl
  | walk_at "dp"
  | exact shp_lst [_] | exact shp_lst [_, _] | exact shp_lst [_, _, _] | exact shp_lst [_, _, _, _] | exact shp_tup [_, _] | exact shp_tup [_, _, _]
  | ((apply tyV_lst); walk_at "f")
  | ((with_reducible apply bt_mulW); (focus walk_at "bt"); (focus walk_at "bt"); (focus (first | decide | omega)))
  | ((with_reducible apply bt_divW); (focus (first | decide | assumption | omega)); (focus walk_at "bt"); (focus (first | decide | omega)))
  | ((with_reducible apply bt_divP); (focus (first | decide | assumption | omega)); (focus walk_at "bt"); (focus (first | decide | omega)))
  | exact ⟨by decide, by decide +kernel⟩
  | exact Or.inl (by decide)
  | exact Or.inr (by decide)
  | exact Or.inl ⟨by omega, by omega⟩
  | exact Or.inr ⟨by omega, by omega⟩
  | ((with_reducible apply Or.inl); walk_at "sv")
  | ((with_reducible apply Or.inr); walk_at "sv")
  | ((with_reducible apply Exists.intro); walk_at "sv")
  | ((with_reducible apply And.intro); (focus walk_at "sv"); walk_at "sv")
  | walk_at "lin"
  | decide
  | omega
  | (simp only [List.length_cons, List.length_nil, List.length_map]; first | done | omega))
local macro_rules | `(tactic| walk_at "one") => `(tactic| first
  | ((fail_if_success refine' @Exists.intro (Nat → L2.St → Hp → Prop) _ ?_ ?_); (fail_if_success refine' @Exists.intro (Nat → Nat → L2.St → Hp → Prop) _ ?_ ?_); (fail_if_success refine' @Exists.intro (L2.St → Hp → Prop) _ ?_ ?_); (fail_if_success refine' @Exists.intro (Nat → Nat → Hp → Prop) _ ?_ ?_); (fail_if_success refine' @Exists.intro (Hp → Prop) _ ?_ ?_); apply Exists.intro)
  | (apply And.intro; (focus walk_at "sv"))
  | intro _
  | (apply ifT; (focus rfl))
  | (apply ifF; (focus rfl))
  | ((apply Or.inl); (apply Exists.intro); (apply And.intro); (focus exact rfl))
  | ((apply Or.inl); (apply And.intro); (focus walk_at "f"))
  | ((apply Or.inr); (apply Exists.intro); (apply And.intro); (focus exact rfl))
  | (apply ifTd; (focus (first | assumption | omega)))
  | (apply ifFd; (focus (first | assumption | omega))))
local macro_rules | `(tactic| walk_at "go") => `(tactic| repeat walk_at "one")
local macro_rules | `(tactic| walk_at "nm") => `(tactic| try simp only [List.set_cons_zero, List.set_cons_succ])
local macro_rules | `(tactic| walk_at "gon") => `(tactic| repeat (walk_at "one"; walk_at "nm"))
def sp__checked_line (A : Ad) : Sp := fun vs H Q _ => ∃ (u v x y : V) (n a c m : Int), vs = [u, v, x, y] ∧ Num A H u n ∧ Num A H v a ∧ Num A H x c ∧ Num A H y m ∧ 0 ≤ n ∧ 1 ≤ m ∧
  ∀ p H', Same H H' → H' p = some (.tup [.int n, .int a, .int c, .int m]) → Q (.ref p) H'
theorem ok__checked_line (T : Txt K mg A) : FnOk P w K mg base CX0 6 A.f__checked_line A.d__checked_line ["n", "a", "c", "m"] (sp__checked_line A) := by
  refine T.F__checked_line.ok sc__checked_line (fun vs H Q E h => ?_) (fun cdv Ar outer s H vs Q E hr h => ?_)
  · obtain ⟨_, _, _, _, _, _, _, _, rfl, _⟩ := h
    rfl
  · obtain ⟨_, _, _, _, n, a, c, m, rfl, h1, h2, h3, h4, h5, h6, k⟩ := h
    have hu := hu_of hr
    refine ⟨_, (pss_one (ps_ret (pe_tup (pa_cons (pe_call (ok_checked_from T) (hr.mono (by decide)) rfl T.m_checked_from T.F_checked_from.kp T.b_checked_from .nil pass0 (pa_cons pe_int (pa_cons (pv 0) pa_nil))) (pa_cons (pe_call (ok_checked_integer T) (hr.mono (by decide)) rfl T.m_checked_integer T.F_checked_integer.kp T.b_checked_integer .nil pass0 (pa_cons (pv 1) pa_nil)) (pa_cons (pe_call (ok_checked_integer T) (hr.mono (by decide)) rfl T.m_checked_integer T.F_checked_integer.kp T.b_checked_integer .nil pass0 (pa_cons (pv 2) pa_nil)) (pa_cons (pe_call (ok_checked_from T) (hr.mono (by decide)) rfl T.m_checked_from T.F_checked_from.kp T.b_checked_from .nil pass0 (pa_cons pe_int (pa_cons (pv 3) pa_nil))) pa_nil))))))), ?_⟩
    walk_at "go"
    exact k _ _ (by walk_at "f") (by walk_at "f")
def sp__powers : Sp := fun vs H Q _ => ∃ (n : Int), vs = [.int n] ∧ Bt 400 n ∧
  ∀ p H', Same H H' → H' p = some (.tup [.int n, .int (half n), .int (sixth n)]) → Q (.ref p) H'
theorem ok__powers (T : Txt K mg A) : FnOk P w K mg base CX0 1 A.f__powers A.d__powers ["n"] sp__powers := by
  refine T.F__powers.ok sc__powers (fun vs H Q E h => ?_) (fun cdv Ar outer s H vs Q E hr h => ?_)
  · obtain ⟨_, rfl, _⟩ := h
    rfl
  · obtain ⟨n, rfl, h1, k⟩ := h
    have hu := hu_of hr
    refine ⟨_, (pss_one (ps_ret (pe_tup (pa_cons (pv 0) (pa_cons (pe_op op_fdivW (pe_op op_mulW (pv 0) (pe_op op_sub (pv 0) pe_int)) pe_int) (pa_cons (pe_op op_fdivW (pe_op op_mulW (pe_op op_mulW (pv 0) (pe_op op_sub (pv 0) pe_int)) (pe_op op_sub (pe_op op_mul pe_int (pv 0)) pe_int)) pe_int) pa_nil)))))), ?_⟩
    walk_at "go"
    exact k _ _ (by walk_at "f") upd_same
def sp__mirrored : Sp := fun vs H Q _ => ∃ (n h : Int) (q : Addr) (x y z : Int), vs = [.int n, .int h, .ref q] ∧ H q = some (.tup [.int x, .int y, .int z]) ∧ Bt 401 n ∧ Bt 401 h ∧ Bt 800000 x ∧ Bt 800000 y ∧ Bt 800000 z ∧
  ∀ p H', Same H H' → H' p = some (.tup [.int (mir n h (x, y, z)).1, .int (mir n h (x, y, z)).2.1, .int (mir n h (x, y, z)).2.2]) → Q (.ref p) H'
theorem ok__mirrored (T : Txt K mg A) : FnOk P w K mg base CX0 1 A.f__mirrored A.d__mirrored ["n", "high", "totals"] sp__mirrored := by
  refine T.F__mirrored.ok sc__mirrored (fun vs H Q E h => ?_) (fun cdv Ar outer s H vs Q E hr h => ?_)
  · obtain ⟨_, _, _, _, _, _, rfl, _⟩ := h
    rfl
  · obtain ⟨n, h, q, x, y, z, rfl, hq, hn, hh, hx, hy, hz, k⟩ := h
    have hu := hu_of hr
    refine ⟨_, (pss_cons (ps_asg (pv 2) (pg_tup rfl (pgs_cons (pg_name (i := 3) sc__mirrored.nd rfl (Or.inl rfl)) (pgs_cons (pg_name (i := 4) sc__mirrored.nd rfl (Or.inl rfl)) (pgs_cons (pg_name (i := 5) sc__mirrored.nd rfl (Or.inl rfl)) pgs_nil)))))
      (pss_cons (ps_set (i := 6) sc__mirrored.nd rfl (Or.inl rfl) (pe_op op_mulW (pv 1) (pe_op op_sub (pv 0) pe_int)))
      (pss_one (ps_ret (pe_tup (pa_cons (pe_op op_sub (pv 6) (pv 3)) (pa_cons (pe_op op_fdivW (pe_op op_sub (pe_op op_sub (pe_op op_mulW (pv 6) (pv 0)) (pv 5)) (pv 3)) pe_int) (pa_cons (pe_op op_sub (pe_op op_sub (pe_op op_mulW (pv 6) (pv 1)) (pe_op op_mul pe_int (pv 4))) (pv 3)) pa_nil)))))))), ?_⟩
    walk_at "go"
    exact k _ _ (by walk_at "f") upd_same
theorem bt_half {n : Int} (h : Bt 400 n) : Bt 1000 (half n) := by
  have : Bt 1000 (n * (n - 1) / 2) := Bt.mono (bt_div (bt_mul h (bt_sub h (bt_lit (n := 64) (by decide))))) (by decide)
  exact this
theorem bt_sixth {n : Int} (h : Bt 400 n) : Bt 1500 (sixth n) := by
  have : Bt 1500 (n * (n - 1) * (2 * n - 1) / 6) := Bt.mono (bt_div (bt_mul (bt_mul h (bt_sub h (bt_lit (n := 1) (by decide)))) (bt_sub (bt_mul (bt_lit (n := 2) (by decide)) h) (bt_lit (n := 1) (by decide))))) (by decide)
  exact this
def sp__lifted : Sp := fun vs H Q _ => ∃ (n u s : Int) (q : Addr) (x y z : Int), vs = [.int n, .int u, .int s, .ref q] ∧ H q = some (.tup [.int x, .int y, .int z]) ∧ Bt 400 n ∧ Bt 401 u ∧ Bt 401 s ∧ Bt 800000 x ∧ Bt 800000 y ∧ Bt 800000 z ∧
  ∀ p H', Same H H' → H' p = some (.tup [.int (lif n u s (x, y, z)).1, .int (lif n u s (x, y, z)).2.1, .int (lif n u s (x, y, z)).2.2]) → Q (.ref p) H'
theorem ok__lifted (T : Txt K mg A) : FnOk P w K mg base CX0 2 A.f__lifted A.d__lifted ["n", "up", "start", "totals"] sp__lifted := by
  refine T.F__lifted.ok sc__lifted (fun vs H Q E h => ?_) (fun cdv Ar outer s H vs Q E hr h => ?_)
  · obtain ⟨_, _, _, _, _, _, _, rfl, _⟩ := h
    rfl
  · obtain ⟨n, u, s, q, x, y, z, rfl, hq, hn, hu1, hs, hx, hy, hz, k⟩ := h
    have hu := hu_of hr
    refine ⟨_, (pss_cons (ps_asg (pv 3) (pg_tup rfl (pgs_cons (pg_name (i := 4) sc__lifted.nd rfl (Or.inl rfl)) (pgs_cons (pg_name (i := 5) sc__lifted.nd rfl (Or.inl rfl)) (pgs_cons (pg_name (i := 6) sc__lifted.nd rfl (Or.inl rfl)) pgs_nil)))))
      (pss_cons (ps_asg (pe_call (ok__powers T) (hr.mono (by decide)) rfl T.m__powers T.F__powers.kp T.b__powers .nil pass0 (pa_cons (pv 0) pa_nil)) (pg_tup rfl (pgs_cons (pg_name (i := 7) sc__lifted.nd rfl (Or.inl rfl)) (pgs_cons (pg_name (i := 8) sc__lifted.nd rfl (Or.inl rfl)) (pgs_cons (pg_name (i := 9) sc__lifted.nd rfl (Or.inl rfl)) pgs_nil)))))
      (pss_cons (ps_set (i := 10) sc__lifted.nd rfl (Or.inl rfl) (pe_op op_add (pe_op op_add (pe_op op_mulW (pe_op op_mulW (pv 1) (pv 1)) (pv 9)) (pe_op op_mulW (pe_op op_mulW (pe_op op_mul pe_int (pv 1)) (pv 2)) (pv 8))) (pe_op op_mulW (pe_op op_mulW (pv 2) (pv 2)) (pv 7))))
      (pss_one (ps_ret (pe_tup (pa_cons (pe_op op_add (pe_op op_add (pv 4) (pe_op op_mulW (pv 1) (pv 8))) (pe_op op_mulW (pv 2) (pv 7))) (pa_cons (pe_op op_add (pe_op op_add (pv 5) (pe_op op_mulW (pv 1) (pv 9))) (pe_op op_mulW (pv 2) (pv 8))) (pa_cons (pe_op op_add (pe_op op_add (pe_op op_add (pv 6) (pe_op op_mulW (pe_op op_mul pe_int (pv 1)) (pv 5))) (pe_op op_mulW (pe_op op_mul pe_int (pv 2)) (pv 4))) (pv 10)) pa_nil))))))))), ?_⟩
    have b1 := bt_half hn
    have b2 := bt_sixth hn
    walk_at "go"
    exact k _ _ (by walk_at "f") upd_same
end
end Tk

set_option maxHeartbeats 2000000
namespace Tk
open PySem PySem.Spec PyProof.Rows L2 Tc
section
variable {P : Program} {w : World} {K : PySem.W.Frag} {mg : Str → Option Value} {base : Heap} {A : Ad}
open Tm
local macro_rules | `(tactic| walk_at "arr") => `(tactic| first
  | with_reducible assumption
  | ((with_reducible apply same_new); with_reducible assumption))
local macro_rules | `(tactic| walk_at "f") => `(tactic| first
  | with_reducible assumption
  | with_reducible exact upd_same
  | with_reducible exact Same.refl _
  | with_reducible exact Frm.refl
  | ((with_reducible apply sqL_K); (focus with_reducible assumption); rfl)
  | ((with_reducible apply sqT_K); (focus with_reducible assumption); rfl)
  | ((with_reducible apply SqT.of); walk_at "f")
  | ((with_reducible apply SqL.of); walk_at "f")
  | ((with_reducible apply back_raw); (focus walk_at "arr"); walk_at "f")
  | ((with_reducible apply frm_tup); (focus with_reducible assumption); (focus walk_at "f"); (focus walk_at "f"); (focus (intro _ z; cases z; done)))
  | ((with_reducible apply frm_raw); (focus with_reducible assumption); (focus walk_at "f"); walk_at "f")
  | ((with_reducible apply bowl_back); (focus walk_at "arr"); walk_at "f")
  | ((with_reducible apply bowl_ne); (focus with_reducible assumption); walk_at "f")
  | ((with_reducible apply Num.int); with_reducible assumption)
  | ((with_reducible apply same_snoc); (focus walk_at "arr"); walk_at "f")
  | ((with_reducible apply frm_back); (focus walk_at "arr"); walk_at "f")
  | ((with_reducible apply frm_backF); (focus with_reducible assumption); walk_at "f")
  | ((with_reducible apply back_sqT); (focus walk_at "arr"); walk_at "f")
  | ((with_reducible apply same_sqL); (focus walk_at "arr"); walk_at "f")
  | ((with_reducible apply free_same); (focus with_reducible assumption); walk_at "f")
  | ((with_reducible apply free_frm); (focus with_reducible assumption); (focus with_reducible assumption); walk_at "f")
  | ((with_reducible apply frm_sqL); (focus with_reducible assumption); (focus walk_at "f"); walk_at "f"))
local macro_rules | `(tactic| walk_at "bt") => `(tactic| first
  | with_reducible assumption
  | ((with_reducible apply bt_mul); (focus walk_at "bt"); walk_at "bt")
  | ((with_reducible apply bt_add); (focus walk_at "bt"); walk_at "bt")
  | ((with_reducible apply bt_sub); (focus walk_at "bt"); walk_at "bt")
  | ((with_reducible apply bt_neg); walk_at "bt")
  | ((with_reducible apply bt_div); walk_at "bt")
  | ((with_reducible apply bt_mod); (focus (first | assumption | omega)); walk_at "bt")
  | exact bt_lit (n := 64) (by decide)
  | exact bt_lit (n := 200) (by decide +kernel))
local macro_rules | `(tactic| walk_at "lin") => `(tactic| first
  | exact (by decide : 1 ≤ sizeLine) | exact (by decide : 2 ≤ sizeLine) | exact (by decide : 3 ≤ sizeLine) | exact (by decide : 4 ≤ sizeLine) | exact (by decide : 0 ≤ sizeLine) | exact (by decide : 5 ≤ sizeLine) | exact (by decide : 6 ≤ sizeLine))
local macro_rules | `(tactic| walk_at "dp") => `(tactic| first
  | exact Dp.int _
  | exact DpAll.nil
  | ((with_reducible apply Dp.lst); (focus walk_at "f"); walk_at "dp")
  | ((with_reducible apply Dp.tup); (focus walk_at "f"); walk_at "dp")
  | ((with_reducible apply DpAll.cons); (focus walk_at "dp"); walk_at "dp"))
local macro_rules | `(tactic| walk_at "sv") => `(tactic| first
  | with_reducible rfl
  | walk_at "f"
  | exact rfl
  | walk_at "dp"
  | exact shp_lst [_] | exact shp_lst [_, _] | exact shp_lst [_, _, _] | exact shp_lst [_, _, _, _] | exact shp_tup [_, _] | exact shp_tup [_, _, _]
  | ((apply tyV_lst); walk_at "f")
  | ((with_reducible apply bt_mulW); (focus walk_at "bt"); (focus walk_at "bt"); (focus (first | decide | omega)))
  | ((with_reducible apply bt_divW); (focus (first | decide | assumption | omega)); (focus walk_at "bt"); (focus (first | decide | omega)))
  | ((with_reducible apply bt_divP); (focus (first | decide | assumption | omega)); (focus walk_at "bt"); (focus (first | decide | omega)))
  | exact ⟨by decide, by decide +kernel⟩
  | exact Or.inl (by decide)
  | exact Or.inr (by decide)
  | exact Or.inl ⟨by omega, by omega⟩
  | exact Or.inr ⟨by omega, by omega⟩
  | ((with_reducible apply Or.inl); walk_at "sv")
  | ((with_reducible apply Or.inr); walk_at "sv")
  | ((with_reducible apply Exists.intro); walk_at "sv")
  | ((with_reducible apply And.intro); (focus walk_at "sv"); walk_at "sv")
  | walk_at "lin"
  | decide
  | omega
  | (simp only [List.length_cons, List.length_nil, List.length_map]; first | done | omega))
local macro_rules | `(tactic| walk_at "one") => `(tactic| first
  | ((fail_if_success refine' @Exists.intro (Nat → L2.St → Hp → Prop) _ ?_ ?_); (fail_if_success refine' @Exists.intro (Nat → Nat → L2.St → Hp → Prop) _ ?_ ?_); (fail_if_success refine' @Exists.intro (L2.St → Hp → Prop) _ ?_ ?_); (fail_if_success refine' @Exists.intro (Nat → Nat → Hp → Prop) _ ?_ ?_); (fail_if_success refine' @Exists.intro (Hp → Prop) _ ?_ ?_); apply Exists.intro)
  | (apply And.intro; (focus walk_at "sv"))
  | intro _
  | (apply ifT; (focus rfl))
  | (apply ifF; (focus rfl))
  | ((apply Or.inl); (apply Exists.intro); (apply And.intro); (focus exact rfl))
  | ((apply Or.inl); (apply And.intro); (focus walk_at "f"))
  | ((apply Or.inr); (apply Exists.intro); (apply And.intro); (focus exact rfl))
  | (apply ifTd; (focus (first | assumption | omega)))
  | (apply ifFd; (focus (first | assumption | omega))))
local macro_rules | `(tactic| walk_at "go") => `(tactic| repeat walk_at "one")
local macro_rules | `(tactic| walk_at "nm") => `(tactic| try simp only [List.set_cons_zero, List.set_cons_succ])
local macro_rules | `(tactic| walk_at "gon") => `(tactic| repeat (walk_at "one"; walk_at "nm"))
/- layers as tuples, one after another -/
inductive LyA (H : Hp) : List Addr → List Ly → Prop where
  | nil : LyA H [] []
  | cons {a : Addr} {l : Ly} {as : List Addr} {ls : List Ly} (h : H a = some (.tup [.int l.n, .int l.u, .int l.s, .int l.h])) (t : LyA H as ls) : LyA H (a :: as) (l :: ls)
theorem LyA.snoc {H : Hp} {a : Addr} {l : Ly} (h : H a = some (.tup [.int l.n, .int l.u, .int l.s, .int l.h])) : ∀ {as : List Addr} {ls : List Ly}, LyA H as ls → LyA H (as ++ [a]) (ls ++ [l])
  | _, _, .nil => .cons h .nil
  | _, _, .cons h' t => .cons h' (LyA.snoc h t)
theorem LyA.len {H : Hp} : ∀ {as : List Addr} {ls : List Ly}, LyA H as ls → as.length = ls.length
  | _, _, .nil => rfl
  | _, _, .cons _ t => congrArg (· + 1) t.len
theorem LyA.stay {H H' : Hp} (e : ∀ b xs, H b = some (.tup xs) → H' b = some (.tup xs)) : ∀ {as : List Addr} {ls : List Ly}, LyA H as ls → LyA H' as ls
  | _, _, .nil => .nil
  | _, _, .cons h t => .cons (e _ _ h) (t.stay e)
theorem LyA.rev {H : Hp} : ∀ {as : List Addr} {ls : List Ly}, LyA H as ls → LyA H as.reverse ls.reverse
  | _, _, .nil => .nil
  | _, _, .cons h t => by
    rw [List.reverse_cons, List.reverse_cons]
    exact LyA.snoc h t.rev
theorem LyA.get {H : Hp} : ∀ {as : List Addr} {ls : List Ly} {i : Nat} {a : Addr}, LyA H as ls → as[i]? = some a → ∃ l, ls[i]? = some l ∧ H a = some (.tup [.int l.n, .int l.u, .int l.s, .int l.h])
  | _, _, 0, _, .cons h _, e => ⟨_, rfl, by cases e; exact h⟩
  | _, _, i + 1, _, .cons _ t, e => LyA.get (i := i) t (by simpa using e)
theorem map_snoc {α β : Type} (f : α → β) (xs : List α) (x : α) : xs.map f ++ [f x] = (xs ++ [x]).map f := by rw [List.map_append]; rfl
theorem tup_mut {H : Hp} {l : Addr} {xs : List V} {o : HO} (g : H l = some (.lst xs)) : ∀ b ys, H b = some (.tup ys) → (upd H l o) b = some (.tup ys) := fun b ys e => by
  rw [upd_ne (ne_of e g (by intro z; cases z))]
  exact e
def LyOk (l : Ly) : Prop := Bt 400 l.n ∧ Bt 401 l.u ∧ Bt 401 l.s ∧ Bt 401 l.h
theorem mir_bt {B : Nat} {n h x y z : Int} (hB : 3000 ≤ B) (hn : Bt 400 n) (hh : Bt 401 h) (hx : Bt B x) (hy : Bt B y) (hz : Bt B z) :
    Bt (B + 4) (mir n h (x, y, z)).1 ∧ Bt (B + 4) (mir n h (x, y, z)).2.1 ∧ Bt (B + 4) (mir n h (x, y, z)).2.2 := by
  have o1 : Bt 803 (h * (n - 1)) := Bt.mono (bt_mul hh (bt_sub hn (bt_lit (n := 1) (by decide)))) (by decide)
  refine ⟨?_, ?_, ?_⟩
  · exact (bt_subm (o1.mono (by omega)) hx).mono (by omega)
  · have o2 : Bt B (h * (n - 1) * n) := (bt_mul o1 hn).mono (by omega)
    exact bt_div (n := B + 3) ((bt_subm (bt_subm o2 hz) (hx.mono (by omega))).mono (by omega))
  · have o2 : Bt (B + 2) (h * (n - 1) * h) := (bt_mul o1 hh).mono (by omega)
    have o3 : Bt (B + 2) (2 * y) := (bt_mul (bt_lit (n := 2) (by decide)) hy).mono (by omega)
    exact bt_subm (bt_subm o2 o3) (hx.mono (by omega))
theorem lif_bt {C : Nat} {n u s x y z : Int} (hC : 3000 ≤ C) (hn : Bt 400 n) (hu : Bt 401 u) (hs : Bt 401 s) (hx : Bt C x) (hy : Bt C y) (hz : Bt C z) :
    Bt (C + 408) (lif n u s (x, y, z)).1 ∧ Bt (C + 408) (lif n u s (x, y, z)).2.1 ∧ Bt (C + 408) (lif n u s (x, y, z)).2.2 := by
  have b1 := bt_half hn
  have b2 := bt_sixth hn
  refine ⟨?_, ?_, ?_⟩
  · exact (bt_addm (bt_addm hx ((bt_mul hu b1).mono (by omega))) ((bt_mul hs hn).mono (by omega))).mono (by omega)
  · exact (bt_addm (bt_addm hy ((bt_mul hu b2).mono (by omega))) ((bt_mul hs b1).mono (by omega))).mono (by omega)
  · have p1 : Bt (C + 403) (2 * u * y) := (bt_mul (bt_mul (bt_lit (n := 2) (by decide)) hu) hy).mono (by omega)
    have p2 : Bt (C + 404) (2 * s * x) := (bt_mul (bt_mul (bt_lit (n := 2) (by decide)) hs) hx).mono (by omega)
    have q1 : Bt 2403 (u * u * sixth n) := (bt_mul (bt_mul hu hu) b2).mono (by omega)
    have q2 : Bt 2403 (2 * u * s * half n) := (bt_mul (bt_mul (bt_mul (bt_lit (n := 2) (by decide)) hu) hs) b1).mono (by omega)
    have q3 : Bt 2404 (s * s * n) := (bt_mul (bt_mul hs hs) hn).mono (by omega)
    exact (bt_addm (bt_addm (bt_addm (hz.mono (by omega)) p1) p2) ((bt_addm (bt_addm q1 q2) q3).mono (by omega))).mono (by omega)
theorem tsum_bt {r : List Ly} (h : ∀ l ∈ r, LyOk l) : ∀ i, i ≤ r.length → Bt (500 * i + 3000) (tsum r i).1 ∧ Bt (500 * i + 3000) (tsum r i).2.1 ∧ Bt (500 * i + 3000) (tsum r i).2.2
  | 0, _ => ⟨bt_lit (Nat.pow_pos (by decide)), bt_lit (Nat.pow_pos (by decide)), bt_lit (Nat.pow_pos (by decide))⟩
  | i + 1, hi => by
    obtain ⟨h1, h2, h3⟩ := tsum_bt h i (by omega)
    have e : r[i]? = some r[i] := List.getElem?_eq_getElem (by omega)
    obtain ⟨k1, k2, k3, k4⟩ := h r[i] (List.getElem_mem _)
    rw [tsum_succ e]
    obtain ⟨m1, m2, m3⟩ := mir_bt (n := r[i].n) (h := r[i].h) (by omega) k1 k4 h1 h2 h3
    obtain ⟨l1, l2, l3⟩ := lif_bt (n := r[i].n) (u := r[i].u) (s := r[i].s) (by omega) k1 k2 k3 m1 m2 m3
    exact ⟨l1.mono (by omega), l2.mono (by omega), l3.mono (by omega)⟩
def sp__floor_totals : Sp := fun vs H Q _ => ∃ (n a c m : Int), vs = [.int n, .int a, .int c, .int m] ∧ 0 ≤ n ∧ 1 ≤ m ∧ Bt 400 n ∧ Bt 400 a ∧ Bt 400 c ∧ Bt 400 m ∧
  ∀ p H', Same H H' → H' p = some (.tup [.int (S0 n.toNat a c m), .int (S1 n.toNat a c m), .int (S2 n.toNat a c m)]) → Q (.ref p) H'
theorem ok__floor_totals (T : Txt K mg A) : FnOk P w K mg base CX0 3 A.f__floor_totals A.d__floor_totals ["n", "a", "c", "m"] sp__floor_totals := by
  refine T.F__floor_totals.ok sc__floor_totals (fun vs H Q E h => ?_) (fun cdv Ar outer s H vs Q E hr h => ?_)
  · obtain ⟨_, _, _, _, rfl, _⟩ := h
    rfl
  · obtain ⟨n0, a0, c0, m0, rfl, hn0, hm0, bn0, ba0, bc0, bm0, k⟩ := h
    have hu := hu_of hr
    refine ⟨_, (pss_cons (ps_set (i := 4) sc__floor_totals.nd rfl (Or.inl rfl) (pe_lst pa_nil))
      (pss_cons (ps_set (i := 5) sc__floor_totals.nd rfl (Or.inl rfl) (pv 0))
      (pss_cons (ps_while PassesOwn.never (pt_cmpR op_gt (pv 5) pe_int (nomark _))
        (pss_cons (ps_asg (pe_callB call_divmodW (by rfl) T.b_divmod (by decide +kernel) (pa_cons (pv 1) (pa_cons (pv 3) pa_nil))) (pg_tup rfl (pgs_cons (pg_name (i := 6) sc__floor_totals.nd rfl (Or.inl rfl)) (pgs_cons (pg_name (i := 1) sc__floor_totals.nd rfl (Or.inl rfl)) pgs_nil))))
          (pss_cons (ps_asg (pe_callB call_divmodW (by rfl) T.b_divmod (by decide +kernel) (pa_cons (pv 2) (pa_cons (pv 3) pa_nil))) (pg_tup rfl (pgs_cons (pg_name (i := 7) sc__floor_totals.nd rfl (Or.inl rfl)) (pgs_cons (pg_name (i := 2) sc__floor_totals.nd rfl (Or.inl rfl)) pgs_nil))))
          (pss_cons (ps_set (i := 5) sc__floor_totals.nd rfl (Or.inl rfl) (pe_op op_fdivW (pe_op op_add (pe_op op_mulW (pv 1) (pe_op op_sub (pv 0) pe_int)) (pv 2)) (pv 3)))
          (pss_cons (ps_expr (pe_bm PySem.F.plainAttrs_list PySem.F.slot_list_append PySem.F.type_list_append mt_append (pv 4) (pa_cons (pe_tup (pa_cons (pv 0) (pa_cons (pv 6) (pa_cons (pv 7) (pa_cons (pv 5) pa_nil))))) pa_nil)))
          (pss_one (ps_asg (pe_tup (pa_cons (pv 5) (pa_cons (pv 3) (pa_cons (pe_op op_sub (pe_op op_sub (pv 3) (pv 2)) pe_int) (pa_cons (pv 1) pa_nil))))) (pg_tup rfl (pgs_cons (pg_name (i := 0) sc__floor_totals.nd rfl (Or.inl rfl)) (pgs_cons (pg_name (i := 1) sc__floor_totals.nd rfl (Or.inl rfl)) (pgs_cons (pg_name (i := 2) sc__floor_totals.nd rfl (Or.inl rfl)) (pgs_cons (pg_name (i := 3) sc__floor_totals.nd rfl (Or.inl rfl)) pgs_nil))))))))))))
      (pss_cons (ps_set (i := 8) sc__floor_totals.nd rfl (Or.inl rfl) (pe_tup (pa_cons pe_int (pa_cons pe_int (pa_cons pe_int pa_nil)))))
      (pss_cons (ps_for PassesOwn.never rfl (pi_list (pe_revL (pv 4))) (pg_tup rfl (pgs_cons (pg_name (i := 9) sc__floor_totals.nd rfl (Or.inl rfl)) (pgs_cons (pg_name (i := 6) sc__floor_totals.nd rfl (Or.inl rfl)) (pgs_cons (pg_name (i := 7) sc__floor_totals.nd rfl (Or.inl rfl)) (pgs_cons (pg_name (i := 10) sc__floor_totals.nd rfl (Or.inl rfl)) pgs_nil)))))
        (pss_one (ps_set (i := 8) sc__floor_totals.nd rfl (Or.inl rfl) (pe_call (ok__lifted T) (hr.mono (by decide)) rfl T.m__lifted T.F__lifted.kp T.b__lifted .nil pass0 (pa_cons (pv 9) (pa_cons (pv 6) (pa_cons (pv 7) (pa_cons (pe_call (ok__mirrored T) (hr.mono (by decide)) rfl T.m__mirrored T.F__mirrored.kp T.b__mirrored .nil pass0 (pa_cons (pv 9) (pa_cons (pv 10) (pa_cons (pv 8) pa_nil)))) pa_nil))))))))
      (pss_one (ps_ret (pv 8)))))))), ?_⟩
    walk_at "go"
    rename_i l hl
    have hnn : ∀ (n a c m : Int), 0 < n → 0 < m → 0 ≤ hi n a c m ∧ hi n a c m < n := fun n a c m h1 h2 => ⟨hi_nn h2 h1, hi_le h2 h1⟩
    have L0 := lays_len 400 (m0.toNat + 1) n0 a0 c0 m0 (fun _ => by omega) (fun _ => by
      unfold Bt at bm0
      have e : (((2 : Nat) ^ 400 : Nat) : Int) = 2 ^ 400 := by norm_cast
      omega)
    refine ⟨fun m' σ H' => Stop (∃ (n a c m : Int) (v6 v7 : Option V) (as : List Addr) (ls : List Ly) (k : Nat), m' = n.toNat ∧ σ = [some (.int n), some (.int a), some (.int c), some (.int m), some (.ref l), some (.int n), v6, v7, none, none, none] ∧
      Same H H' ∧ H' l = some (.lst (as.map V.ref)) ∧ LyA H' as ls ∧ (∀ y ∈ ls, LyOk y) ∧ 0 ≤ n ∧ (0 < n → 0 < m) ∧ Bt 400 n ∧ Bt 400 a ∧ Bt 400 c ∧ Bt 400 m ∧ (0 < n → m.toNat < k) ∧ ls ++ lays k n a c m = lays (m0.toNat + 1) n0 a0 c0 m0),
      ⟨_, ⟨n0, a0, c0, m0, none, none, [], [], m0.toNat + 1, rfl, rfl, same_new hl, upd_same, .nil, (fun y h => by cases h), hn0, fun _ => by omega, bn0, ba0, bc0, bm0, fun _ => by omega, rfl⟩⟩, ?_⟩
    rintro m' σ H1 ⟨⟨n, a, c, m, v6, v7, as, ls, k1, rfl, rfl, s1, g1, g2, ok1, n1, m1, bn, ba, bc, bm, k2, e1⟩⟩
    have lq : (as.map V.ref).length ≤ 801 := by
      have z := congrArg List.length e1
      rw [List.length_append] at z
      rw [List.length_map, g2.len]
      omega
    have lq' : (as.map V.ref).length < sizeLine := lt_line (by omega)
    walk_at "go"
    refine ite2 (fun hy => ?_) (fun hy => ?_)
    · have hy := of_decide_eq_true hy
      have mp := m1 hy
      obtain ⟨q0, q1⟩ := hnn n a c m hy mp
      have c0' := Int.emod_nonneg c (show m ≠ 0 by omega)
      have c1' := Int.emod_lt_of_pos c mp
      refine pass_body ?_
      walk_at "go"
      rename_i p1 h1 p2 h2 p3 h3 p4 h4
      obtain ⟨j, rfl⟩ : ∃ j, k1 = j + 1 := ⟨k1 - 1, by have := k2 hy; omega⟩
      have sG := ((same_new (o := .tup [.int (a / m), .int (a % m)]) h1).trans (same_new (o := .tup [.int (c / m), .int (c % m)]) h2)).trans (same_new (o := .tup [.int n, .int (a / m), .int (c / m), .int (hi n a c m)]) h3)
      have gG := sG _ _ g1
      have sF := same_mut (o := .lst (as.map V.ref ++ [V.ref p3])) (s1.trans sG) hl
      have nl : l ≠ p4 := ne_of_none upd_same h4
      have tF : ∀ b xs, H1 b = some (.tup xs) → (upd (upd (upd (upd (upd H1 p1 (.tup [.int (a / m), .int (a % m)])) p2 (.tup [.int (c / m), .int (c % m)])) p3 (.tup [.int n, .int (a / m), .int (c / m), .int (hi n a c m)])) l (.lst (as.map V.ref ++ [V.ref p3]))) p4 (.tup [.int (hi n a c m), .int m, .int (m - c % m - 1), .int (a % m)])) b = some (.tup xs) := fun b xs e =>
        same_new h4 _ _ (tup_mut gG _ _ (sG _ _ e))
      have g3 := same_new (o := .tup [.int (hi n a c m), .int m, .int (m - c % m - 1), .int (a % m)]) h4 _ _ (tup_mut (o := .lst (as.map V.ref ++ [V.ref p3])) gG p3 _ upd_same)
      refine ⟨_, (show (hi n a c m).toNat < n.toNat by omega), ⟨hi n a c m, m, m - c % m - 1, a % m, _, _, as ++ [p3], ls ++ [⟨n, a / m, c / m, hi n a c m⟩], j, rfl, rfl, sF.trans (same_new h4), ?_, LyA.snoc g3 (g2.stay tF), ?_, q0, fun z => hi_pos mp hy z, bt_le q0 (Int.le_of_lt q1) bn, bm, bt_le (by omega) (by omega) bm, bt_mod mp bm, ?_, ?_⟩⟩
      · rw [upd_ne nl, upd_same, ← map_snoc]
      · intro y hm'
        rcases List.mem_append.mp hm' with q | q
        · exact ok1 y q
        · cases List.mem_singleton.mp q
          exact ⟨bn, bt_div ba, bt_div bc, (bt_le q0 (Int.le_of_lt q1) bn).mono (by decide)⟩
      · intro _
        have := k2 hy
        have := Int.emod_lt_of_pos a mp
        omega
      · rw [← e1, List.append_assoc]
        congr 1
        show _ = (if 0 < n then _ else _)
        rw [if_pos hy]
        rfl
    · have hy : ¬ 0 < n := fun z => hy (decide_eq_true z)
      have e2 : lays k1 n a c m = [] := by
        cases k1 with
        | zero => rfl
        | succ j =>
          show (if 0 < n then _ else _) = _
          rw [if_neg hy]
      rw [e2, List.append_nil] at e1
      have e3 : tot ls = SS n0 a0 c0 m0 := by
        rw [e1]
        exact tot_lays _ _ _ _ _ hn0 (fun _ => by omega) (fun _ => by omega)
      walk_at "go"
      rename_i p1 h1 p2 h2
      refine for_list (K := K) (a := p2) (xs := (as.map V.ref).reverse) (fun i σ H' => Stop (∃ (q : Addr) (v6 v7 v9 v10 : Option V), σ = [some (.int n), some (.int a), some (.int c), some (.int m), some (.ref l), some (.int n), v6, v7, some (.ref q), v9, v10] ∧
        Same H H' ∧ H' p2 = some (.lst (as.map V.ref).reverse) ∧ LyA H' as ls ∧ H' q = some (.tup [.int (tsum ls.reverse i).1, .int (tsum ls.reverse i).2.1, .int (tsum ls.reverse i).2.2])))
        ⟨p1, v6, v7, none, none, rfl, (s1.trans (same_new h1)).trans (same_new h2), upd_same, g2.stay (fun b xs e => same_new h2 _ _ (same_new h1 _ _ e)), same_new h2 _ _ upd_same⟩
        (fun i σ H' _ ⟨_, _, _, _, _, _, _, g, _⟩ => SqL.of g) ?_ ?_
      · rintro i x σ H2 hx ⟨⟨q, w6, w7, w9, w10, rfl, s3, g3, g4, g5⟩⟩
        rw [← List.map_reverse] at hx
        obtain ⟨b, hb, rfl⟩ : ∃ b, as.reverse[i]? = some b ∧ x = V.ref b := by
          rw [List.getElem?_map] at hx
          cases e : as.reverse[i]? with
          | none => rw [e] at hx; cases hx
          | some b =>
            rw [e] at hx
            exact ⟨b, rfl, (Option.some.inj hx).symm⟩
        obtain ⟨y, hy1, hy2⟩ := g4.rev.get hb
        obtain ⟨k1', k2', k3', k4'⟩ := ok1 y (List.mem_reverse.mp (List.mem_of_getElem? hy1))
        have hi' : i < ls.reverse.length := (List.getElem?_eq_some_iff.mp hy1).1
        have hi2 : i < 801 := by
          have := g2.len
          rw [List.length_reverse] at hi'
          rw [List.length_map] at lq
          omega
        obtain ⟨t1, t2, t3⟩ := tsum_bt (r := ls.reverse) (fun l hl => ok1 l (List.mem_reverse.mp hl)) i (by omega)
        obtain ⟨m1', m2', m3'⟩ := mir_bt (n := y.n) (h := y.h) (by omega) k1' k4' t1 t2 t3
        have t1 := t1.mono (show _ ≤ 800000 by omega)
        have t2 := t2.mono (show _ ≤ 800000 by omega)
        have t3 := t3.mono (show _ ≤ 800000 by omega)
        have m1' := m1'.mono (show _ ≤ 800000 by omega)
        have m2' := m2'.mono (show _ ≤ 800000 by omega)
        have m3' := m3'.mono (show _ ≤ 800000 by omega)
        have k1'' := k1'.mono (show _ ≤ 401 by omega)
        walk_at "go"
        rename_i p4 H4 s4 g6 p5 H5 s5 g7
        have e4 := tsum_succ hy1
        refine ⟨p5, _, _, _, _, rfl, (s3.trans s4).trans s5, s5 _ _ (s4 _ _ g3), g4.stay (fun b xs e => s5 _ _ (s4 _ _ e)), ?_⟩
        rw [e4]
        exact g7
      · rintro σ H2 ⟨⟨q, w6, w7, w9, w10, rfl, s3, g3, g4, g5⟩⟩
        have el : (as.map V.ref).reverse.length = ls.reverse.length := by rw [List.length_reverse, List.length_map, List.length_reverse, g2.len]
        rw [el, tsum_end, e3] at g5
        walk_at "go"
        exact k _ _ s3 g5
end
end Tk

set_option maxHeartbeats 2000000
namespace Tk
open PySem PySem.Spec PyProof.Rows L2 Tc
section
variable {P : Program} {w : World} {K : PySem.W.Frag} {mg : Str → Option Value} {base : Heap} {A : Ad}
open Tm
local macro_rules | `(tactic| walk_at "arr") => `(tactic| first
  | with_reducible assumption
  | ((with_reducible apply same_new); with_reducible assumption))
local macro_rules | `(tactic| walk_at "f") => `(tactic| first
  | with_reducible assumption
  | with_reducible exact upd_same
  | with_reducible exact Same.refl _
  | with_reducible exact Frm.refl
  | ((with_reducible apply sqL_K); (focus with_reducible assumption); rfl)
  | ((with_reducible apply sqT_K); (focus with_reducible assumption); rfl)
  | ((with_reducible apply SqT.of); walk_at "f")
  | ((with_reducible apply SqL.of); walk_at "f")
  | ((with_reducible apply back_raw); (focus walk_at "arr"); walk_at "f")
  | ((with_reducible apply frm_tup); (focus with_reducible assumption); (focus walk_at "f"); (focus walk_at "f"); (focus (intro _ z; cases z; done)))
  | ((with_reducible apply frm_raw); (focus with_reducible assumption); (focus walk_at "f"); walk_at "f")
  | ((with_reducible apply bowl_back); (focus walk_at "arr"); walk_at "f")
  | ((with_reducible apply bowl_ne); (focus with_reducible assumption); walk_at "f")
  | ((with_reducible apply Num.int); with_reducible assumption)
  | ((with_reducible apply same_snoc); (focus walk_at "arr"); walk_at "f")
  | ((with_reducible apply frm_back); (focus walk_at "arr"); walk_at "f")
  | ((with_reducible apply frm_backF); (focus with_reducible assumption); walk_at "f")
  | ((with_reducible apply back_sqT); (focus walk_at "arr"); walk_at "f")
  | ((with_reducible apply same_sqL); (focus walk_at "arr"); walk_at "f")
  | ((with_reducible apply free_same); (focus with_reducible assumption); walk_at "f")
  | ((with_reducible apply free_frm); (focus with_reducible assumption); (focus with_reducible assumption); walk_at "f")
  | ((with_reducible apply frm_sqL); (focus with_reducible assumption); (focus walk_at "f"); walk_at "f"))
local macro_rules | `(tactic| walk_at "bt") => `(tactic| first
  | with_reducible assumption
  | ((with_reducible apply bt_mul); (focus walk_at "bt"); walk_at "bt")
  | ((with_reducible apply bt_add); (focus walk_at "bt"); walk_at "bt")
  | ((with_reducible apply bt_sub); (focus walk_at "bt"); walk_at "bt")
  | ((with_reducible apply bt_neg); walk_at "bt")
  | ((with_reducible apply bt_div); walk_at "bt")
  | ((with_reducible apply bt_mod); (focus (first | assumption | omega)); walk_at "bt")
  | exact bt_lit (n := 64) (by decide)
  | exact bt_lit (n := 200) (by decide +kernel))
local macro_rules | `(tactic| walk_at "lin") => `(tactic| first
  | exact (by decide : 1 ≤ sizeLine) | exact (by decide : 2 ≤ sizeLine) | exact (by decide : 3 ≤ sizeLine) | exact (by decide : 4 ≤ sizeLine) | exact (by decide : 0 ≤ sizeLine) | exact (by decide : 5 ≤ sizeLine) | exact (by decide : 6 ≤ sizeLine))
local macro_rules | `(tactic| walk_at "dp") => `(tactic| first
  | exact Dp.int _
  | exact DpAll.nil
  | ((with_reducible apply Dp.lst); (focus walk_at "f"); walk_at "dp")
  | ((with_reducible apply Dp.tup); (focus walk_at "f"); walk_at "dp")
  | ((with_reducible apply DpAll.cons); (focus walk_at "dp"); walk_at "dp"))
local macro_rules | `(tactic| walk_at "sv") => `(tactic| first
  | with_reducible rfl
  | walk_at "f"
  | exact rfl
  | walk_at "dp"
  | exact shp_lst [_] | exact shp_lst [_, _] | exact shp_lst [_, _, _] | exact shp_lst [_, _, _, _] | exact shp_tup [_, _] | exact shp_tup [_, _, _]
  | ((apply tyV_lst); walk_at "f")
  | ((with_reducible apply bt_mulW); (focus walk_at "bt"); (focus walk_at "bt"); (focus (first | decide | omega)))
  | ((with_reducible apply bt_divW); (focus (first | decide | assumption | omega)); (focus walk_at "bt"); (focus (first | decide | omega)))
  | ((with_reducible apply bt_divP); (focus (first | decide | assumption | omega)); (focus walk_at "bt"); (focus (first | decide | omega)))
  | exact ⟨by decide, by decide +kernel⟩
  | exact Or.inl (by decide)
  | exact Or.inr (by decide)
  | exact Or.inl ⟨by omega, by omega⟩
  | exact Or.inr ⟨by omega, by omega⟩
  | ((with_reducible apply Or.inl); walk_at "sv")
  | ((with_reducible apply Or.inr); walk_at "sv")
  | ((with_reducible apply Exists.intro); walk_at "sv")
  | ((with_reducible apply And.intro); (focus walk_at "sv"); walk_at "sv")
  | walk_at "lin"
  | decide
  | omega
  | (simp only [List.length_cons, List.length_nil, List.length_map]; first | done | omega))
local macro_rules | `(tactic| walk_at "one") => `(tactic| first
  | ((fail_if_success refine' @Exists.intro (Nat → L2.St → Hp → Prop) _ ?_ ?_); (fail_if_success refine' @Exists.intro (Nat → Nat → L2.St → Hp → Prop) _ ?_ ?_); (fail_if_success refine' @Exists.intro (L2.St → Hp → Prop) _ ?_ ?_); (fail_if_success refine' @Exists.intro (Nat → Nat → Hp → Prop) _ ?_ ?_); (fail_if_success refine' @Exists.intro (Hp → Prop) _ ?_ ?_); apply Exists.intro)
  | (apply And.intro; (focus walk_at "sv"))
  | intro _
  | (apply ifT; (focus rfl))
  | (apply ifF; (focus rfl))
  | ((apply Or.inl); (apply Exists.intro); (apply And.intro); (focus exact rfl))
  | ((apply Or.inl); (apply And.intro); (focus walk_at "f"))
  | ((apply Or.inr); (apply Exists.intro); (apply And.intro); (focus exact rfl))
  | (apply ifTd; (focus (first | assumption | omega)))
  | (apply ifFd; (focus (first | assumption | omega))))
local macro_rules | `(tactic| walk_at "go") => `(tactic| repeat walk_at "one")
local macro_rules | `(tactic| walk_at "nm") => `(tactic| try simp only [List.set_cons_zero, List.set_cons_succ])
local macro_rules | `(tactic| walk_at "gon") => `(tactic| repeat (walk_at "one"; walk_at "nm"))
def sp_floor_total : Sp := fun vs H Q _ => ∃ (n a c m : Int), vs = [.int n, .int a, .int c, .int m] ∧ 0 ≤ n ∧ 1 ≤ m ∧ Bt 400 n ∧ Bt 400 a ∧ Bt 400 c ∧ Bt 400 m ∧
  ∀ H', Same H H' → Q (.int (S0 n.toNat a c m)) H'
theorem ok_floor_total (T : Txt K mg A) : FnOk P w K mg base CX0 1 A.f_floor_total A.d_floor_total ["n", "a", "c", "m"] sp_floor_total := by
  refine T.F_floor_total.ok sc_floor_total (fun vs H Q E h => ?_) (fun cdv Ar outer s H vs Q E hr h => ?_)
  · obtain ⟨_, _, _, _, rfl, _⟩ := h
    rfl
  · obtain ⟨n0, a0, c0, m0, rfl, hn0, hm0, bn0, ba0, bc0, bm0, k⟩ := h
    have hu := hu_of hr
    refine ⟨_, (pss_cons (ps_set (i := 4) sc_floor_total.nd rfl (Or.inl rfl) pe_int)
      (pss_one (ps_while PassesOwn.never (pt_val pe_bl)
        (pss_cons (ps_asg (pe_callB call_divmodW (by rfl) T.b_divmod (by decide +kernel) (pa_cons (pv 1) (pa_cons (pv 3) pa_nil))) (pg_tup rfl (pgs_cons (pg_name (i := 5) sc_floor_total.nd rfl (Or.inl rfl)) (pgs_cons (pg_name (i := 1) sc_floor_total.nd rfl (Or.inl rfl)) pgs_nil))))
          (pss_cons (ps_asg (pe_callB call_divmodW (by rfl) T.b_divmod (by decide +kernel) (pa_cons (pv 2) (pa_cons (pv 3) pa_nil))) (pg_tup rfl (pgs_cons (pg_name (i := 6) sc_floor_total.nd rfl (Or.inl rfl)) (pgs_cons (pg_name (i := 2) sc_floor_total.nd rfl (Or.inl rfl)) pgs_nil))))
          (pss_cons (ps_set (i := 4) sc_floor_total.nd rfl (Or.inl rfl) (pe_op op_add (pe_op op_add (pv 4) (pe_op op_mulW (pv 5) (pe_op op_fdivW (pe_op op_mulW (pv 0) (pe_op op_sub (pv 0) pe_int)) pe_int))) (pe_op op_mulW (pv 6) (pv 0))))
          (pss_cons (ps_asg (pe_callB call_divmodW (by rfl) T.b_divmod (by decide +kernel) (pa_cons (pe_op op_add (pe_op op_mulW (pv 1) (pv 0)) (pv 2)) (pa_cons (pv 3) pa_nil))) (pg_tup rfl (pgs_cons (pg_name (i := 0) sc_floor_total.nd rfl (Or.inl rfl)) (pgs_cons (pg_name (i := 2) sc_floor_total.nd rfl (Or.inl rfl)) pgs_nil))))
          (pss_cons (ps_if (pt_cmpR op_eq (pv 0) pe_int (nomark _))
            (pss_one (ps_ret (pv 4)))
            pss_nil)
          (pss_one (ps_par (i := 1) (j := 3) (by rfl) sc_floor_total.nd rfl rfl (by decide) rfl rfl (pa_cons (pv 3) (pa_cons (pv 1) pa_nil)) (by rfl))))))))))), ?_⟩
    walk_at "go"
    refine ⟨fun m' σ H' => Stop (∃ (n a c m r : Int) (v5 v6 : Option V), m' = m.toNat ∧ σ = [some (.int n), some (.int a), some (.int c), some (.int m), some (.int r), v5, v6] ∧
      Same H H' ∧ 0 ≤ n ∧ 0 < m ∧ Bt 400 n ∧ Bt 400 a ∧ Bt 400 c ∧ Bt 400 m ∧ r + S0 n.toNat a c m = S0 n0.toNat a0 c0 m0),
      ⟨_, ⟨n0, a0, c0, m0, 0, none, none, rfl, rfl, Same.refl H, hn0, by omega, bn0, ba0, bc0, bm0, by omega⟩⟩, ?_⟩
    rintro m' σ H1 ⟨⟨n, a, c, m, r, v5, v6, rfl, rfl, s1, g1, g2, bn, ba, bc, bm, e1⟩⟩
    obtain ⟨q0, q1⟩ := high_le (a := a) (c := c) g2 g1
    have r1 := Int.emod_nonneg a (show m ≠ 0 by omega)
    have r2 := Int.emod_nonneg c (show m ≠ 0 by omega)
    have r3 := Int.emod_lt_of_pos a g2
    have r4 := Int.emod_lt_of_pos c g2
    have r5 := Int.emod_nonneg (a % m * n + c % m) (show m ≠ 0 by omega)
    have r6 := Int.emod_lt_of_pos (a % m * n + c % m) g2
    have bn' : Bt 400 ((a % m * n + c % m) / m) := bt_le q0 q1 bn
    walk_at "go"
    refine pass_body ?_
    walk_at "go"
    have dI : ∀ x : Int, (decide (V.int x = V.int 0)) = decide (x = 0) := fun x => dec_int' x 0
    have done : ∀ (x : Int) H', x = S0 n0.toNat a0 c0 m0 → Same H H' → Q (V.int x) H' := fun x H' e s => by
      rw [e]
      exact k H' s
    refine ite2 (fun hy => ?_) (fun hy => ?_)
    · have hy : (a % m * n + c % m) / m = 0 := of_decide_eq_true ((dI _).symm.trans hy)
      have st := area_end (a := a) (c := c) g2 g1 (.inr hy)
      have e2 : r + a / m * (n * (n - 1) / 2) + c / m * n = S0 n0.toNat a0 c0 m0 := by
        rw [← e1, st, ← Int.add_assoc]
        rfl
      walk_at "go"
      exact done _ _ e2 (by walk_at "f")
    · have hy : (a % m * n + c % m) / m ≠ 0 := fun e => hy ((dI _).trans (decide_eq_true e))
      have ap := floor_pos g2 g1 hy
      have st := floor_go (a := a) (c := c) g2 g1 ap
      have e2 : (r + a / m * (n * (n - 1) / 2) + c / m * n) + S0 ((a % m * n + c % m) / m).toNat m ((a % m * n + c % m) % m) (a % m) = S0 n0.toNat a0 c0 m0 := by
        rw [← e1, st, ← Int.add_assoc, ← Int.add_assoc]
        rfl
      walk_at "go"
      exact ⟨_, (show (a % m).toNat < m.toNat by omega), ⟨_, m, _, a % m, _, _, _, rfl, rfl, by walk_at "f", q0, ap, bn', bm, bt_le r5 (Int.le_of_lt r6) bm, bt_le r1 (Int.le_of_lt r3) bm, e2⟩⟩
def sp_line_sum (A : Ad) : Sp := fun vs H Q _ => ∃ (u v x y : V) (n a c m : Int), vs = [u, v, x, y] ∧ Num A H u n ∧ Num A H v a ∧ Num A H x c ∧ Num A H y m ∧ 0 ≤ n ∧ 1 ≤ m ∧ Bt 400 n ∧ Bt 400 a ∧ Bt 400 c ∧ Bt 400 m ∧
  ∀ H', Same H H' → Q (.int (S0 n.toNat a c m)) H'
theorem ok_line_sum (T : Txt K mg A) : FnOk P w K mg base CX0 7 A.f_line_sum A.d_line_sum ["n", "a", "c", "m"] (sp_line_sum A) := by
  refine T.F_line_sum.ok sc_line_sum (fun vs H Q E h => ?_) (fun cdv Ar outer s H vs Q E hr h => ?_)
  · obtain ⟨_, _, _, _, _, _, _, _, rfl, _⟩ := h
    rfl
  · obtain ⟨_, _, _, _, n, a, c, m, rfl, h1, h2, h3, h4, h5, h6, b1, b2, b3, b4, k⟩ := h
    have hu := hu_of hr
    refine ⟨_, (pss_cons (ps_asg (pe_call (ok__checked_line T) (hr.mono (by decide)) rfl T.m__checked_line T.F__checked_line.kp T.b__checked_line .nil pass0 (pa_cons (pv 0) (pa_cons (pv 1) (pa_cons (pv 2) (pa_cons (pv 3) pa_nil))))) (pg_tup rfl (pgs_cons (pg_name (i := 4) sc_line_sum.nd rfl (Or.inl rfl)) (pgs_cons (pg_name (i := 5) sc_line_sum.nd rfl (Or.inl rfl)) (pgs_cons (pg_name (i := 6) sc_line_sum.nd rfl (Or.inl rfl)) (pgs_cons (pg_name (i := 7) sc_line_sum.nd rfl (Or.inl rfl)) pgs_nil))))))
      (pss_one (ps_ret (pe_call (ok_floor_total T) (hr.mono (by decide)) rfl T.m_floor_total T.F_floor_total.kp T.b_floor_total .nil pass0 (pa_cons (pv 4) (pa_cons (pv 5) (pa_cons (pv 6) (pa_cons (pv 7) pa_nil)))))))), ?_⟩
    walk_at "go"
    exact k _ (by walk_at "f")
def sp_line_moment (A : Ad) : Sp := fun vs H Q _ => ∃ (u v x y : V) (n a c m : Int), vs = [u, v, x, y] ∧ Num A H u n ∧ Num A H v a ∧ Num A H x c ∧ Num A H y m ∧ 0 ≤ n ∧ 1 ≤ m ∧ Bt 400 n ∧ Bt 400 a ∧ Bt 400 c ∧ Bt 400 m ∧
  ∀ H', Same H H' → Q (.int (S1 n.toNat a c m)) H'
theorem ok_line_moment (T : Txt K mg A) : FnOk P w K mg base CX0 7 A.f_line_moment A.d_line_moment ["n", "a", "c", "m"] (sp_line_moment A) := by
  refine T.F_line_moment.ok sc_line_moment (fun vs H Q E h => ?_) (fun cdv Ar outer s H vs Q E hr h => ?_)
  · obtain ⟨_, _, _, _, _, _, _, _, rfl, _⟩ := h
    rfl
  · obtain ⟨_, _, _, _, n, a, c, m, rfl, h1, h2, h3, h4, h5, h6, b1, b2, b3, b4, k⟩ := h
    have hu := hu_of hr
    refine ⟨_, (pss_cons (ps_asg (pe_call (ok__checked_line T) (hr.mono (by decide)) rfl T.m__checked_line T.F__checked_line.kp T.b__checked_line .nil pass0 (pa_cons (pv 0) (pa_cons (pv 1) (pa_cons (pv 2) (pa_cons (pv 3) pa_nil))))) (pg_tup rfl (pgs_cons (pg_name (i := 4) sc_line_moment.nd rfl (Or.inl rfl)) (pgs_cons (pg_name (i := 5) sc_line_moment.nd rfl (Or.inl rfl)) (pgs_cons (pg_name (i := 6) sc_line_moment.nd rfl (Or.inl rfl)) (pgs_cons (pg_name (i := 7) sc_line_moment.nd rfl (Or.inl rfl)) pgs_nil))))))
      (pss_one (ps_ret (pe_ix ix_tup (pe_call (ok__floor_totals T) (hr.mono (by decide)) rfl T.m__floor_totals T.F__floor_totals.kp T.b__floor_totals .nil pass0 (pa_cons (pv 4) (pa_cons (pv 5) (pa_cons (pv 6) (pa_cons (pv 7) pa_nil))))) pe_int (fun _ _ => rfl))))), ?_⟩
    walk_at "go"
    exact k _ (by walk_at "f")
def sp_line_square (A : Ad) : Sp := fun vs H Q _ => ∃ (u v x y : V) (n a c m : Int), vs = [u, v, x, y] ∧ Num A H u n ∧ Num A H v a ∧ Num A H x c ∧ Num A H y m ∧ 0 ≤ n ∧ 1 ≤ m ∧ Bt 400 n ∧ Bt 400 a ∧ Bt 400 c ∧ Bt 400 m ∧
  ∀ H', Same H H' → Q (.int (S2 n.toNat a c m)) H'
def sp__law_totals (A : Ad) : Sp := fun vs H Q _ => ∃ (n a c m : Int), vs = [.int n, .int a, .int c, .int m] ∧ Short n ∧ Short a ∧ Short c ∧ Short m ∧ 0 ≤ n ∧ 1 ≤ m ∧
  ∀ p H', H p = none → Same H H' → H' p = some (.lst [.int (S0 n.toNat a c m), .int (S1 n.toNat a c m), .int (S2 n.toNat a c m)]) → Q (.ref p) H'
def sp__law_area : Sp := fun vs H Q _ => ∃ (n a c m : Int), vs = [.int n, .int a, .int c, .int m] ∧ 0 ≤ n ∧ 1 ≤ m ∧ Bt 400 n ∧ Bt 400 a ∧ Bt 400 c ∧ m < 2 ^ 180 ∧
  ∀ H', Same H H' → Q (.int (S0 n.toNat a c m)) H'
end
end Tk

set_option maxHeartbeats 2000000
namespace Tk
open PySem PySem.Spec PyProof.Rows L2 Tc
section
variable {P : Program} {w : World} {K : PySem.W.Frag} {mg : Str → Option Value} {base : Heap} {A : Ad}
open Tm
local macro_rules | `(tactic| walk_at "arr") => `(tactic| first
  | with_reducible assumption
  | ((with_reducible apply same_new); with_reducible assumption))
local macro_rules | `(tactic| walk_at "f") => `(tactic| first
  | with_reducible assumption
  | with_reducible exact upd_same
  | with_reducible exact Same.refl _
  | with_reducible exact Frm.refl
  | ((with_reducible apply sqL_K); (focus with_reducible assumption); rfl)
  | ((with_reducible apply sqT_K); (focus with_reducible assumption); rfl)
  | ((with_reducible apply SqT.of); walk_at "f")
  | ((with_reducible apply SqL.of); walk_at "f")
  | ((with_reducible apply back_raw); (focus walk_at "arr"); walk_at "f")
  | ((with_reducible apply frm_tup); (focus with_reducible assumption); (focus walk_at "f"); (focus walk_at "f"); (focus (intro _ z; cases z; done)))
  | ((with_reducible apply frm_raw); (focus with_reducible assumption); (focus walk_at "f"); walk_at "f")
  | ((with_reducible apply bowl_back); (focus walk_at "arr"); walk_at "f")
  | ((with_reducible apply bowl_ne); (focus with_reducible assumption); walk_at "f")
  | ((with_reducible apply Num.int); with_reducible assumption)
  | ((with_reducible apply same_snoc); (focus walk_at "arr"); walk_at "f")
  | ((with_reducible apply frm_back); (focus walk_at "arr"); walk_at "f")
  | ((with_reducible apply frm_backF); (focus with_reducible assumption); walk_at "f")
  | ((with_reducible apply back_sqT); (focus walk_at "arr"); walk_at "f")
  | ((with_reducible apply same_sqL); (focus walk_at "arr"); walk_at "f")
  | ((with_reducible apply free_same); (focus with_reducible assumption); walk_at "f")
  | ((with_reducible apply free_frm); (focus with_reducible assumption); (focus with_reducible assumption); walk_at "f")
  | ((with_reducible apply frm_sqL); (focus with_reducible assumption); (focus walk_at "f"); walk_at "f"))
local macro_rules | `(tactic| walk_at "bt") => `(tactic| first
  | with_reducible assumption
  | ((with_reducible apply bt_mul); (focus walk_at "bt"); walk_at "bt")
  | ((with_reducible apply bt_add); (focus walk_at "bt"); walk_at "bt")
  | ((with_reducible apply bt_sub); (focus walk_at "bt"); walk_at "bt")
  | ((with_reducible apply bt_neg); walk_at "bt")
  | ((with_reducible apply bt_div); walk_at "bt")
  | ((with_reducible apply bt_mod); (focus (first | assumption | omega)); walk_at "bt")
  | exact bt_lit (n := 64) (by decide)
  | exact bt_lit (n := 200) (by decide +kernel))
local macro_rules | `(tactic| walk_at "lin") => `(tactic| first
  | exact (by decide : 1 ≤ sizeLine) | exact (by decide : 2 ≤ sizeLine) | exact (by decide : 3 ≤ sizeLine) | exact (by decide : 4 ≤ sizeLine) | exact (by decide : 0 ≤ sizeLine) | exact (by decide : 5 ≤ sizeLine) | exact (by decide : 6 ≤ sizeLine))
local macro_rules | `(tactic| walk_at "dp") => `(tactic| first
  | exact Dp.int _
  | exact DpAll.nil
  | ((with_reducible apply Dp.lst); (focus walk_at "f"); walk_at "dp")
  | ((with_reducible apply Dp.tup); (focus walk_at "f"); walk_at "dp")
  | ((with_reducible apply DpAll.cons); (focus walk_at "dp"); walk_at "dp"))
local macro_rules | `(tactic| walk_at "sv") => `(tactic| first
  | with_reducible rfl
  | walk_at "f"
  | exact rfl
  | walk_at "dp"
  | exact shp_lst [_] | exact shp_lst [_, _] | exact shp_lst [_, _, _] | exact shp_lst [_, _, _, _] | exact shp_tup [_, _] | exact shp_tup [_, _, _]
  | ((apply tyV_lst); walk_at "f")
  | ((with_reducible apply bt_mulW); (focus walk_at "bt"); (focus walk_at "bt"); (focus (first | decide | omega)))
  | ((with_reducible apply bt_divW); (focus (first | decide | assumption | omega)); (focus walk_at "bt"); (focus (first | decide | omega)))
  | ((with_reducible apply bt_divP); (focus (first | decide | assumption | omega)); (focus walk_at "bt"); (focus (first | decide | omega)))
  | exact ⟨by decide, by decide +kernel⟩
  | exact Or.inl (by decide)
  | exact Or.inr (by decide)
  | exact Or.inl ⟨by omega, by omega⟩
  | exact Or.inr ⟨by omega, by omega⟩
  | ((with_reducible apply Or.inl); walk_at "sv")
  | ((with_reducible apply Or.inr); walk_at "sv")
  | ((with_reducible apply Exists.intro); walk_at "sv")
  | ((with_reducible apply And.intro); (focus walk_at "sv"); walk_at "sv")
  | walk_at "lin"
  | decide
  | omega
  | (simp only [List.length_cons, List.length_nil, List.length_map]; first | done | omega))
local macro_rules | `(tactic| walk_at "one") => `(tactic| first
  | ((fail_if_success refine' @Exists.intro (Nat → L2.St → Hp → Prop) _ ?_ ?_); (fail_if_success refine' @Exists.intro (Nat → Nat → L2.St → Hp → Prop) _ ?_ ?_); (fail_if_success refine' @Exists.intro (L2.St → Hp → Prop) _ ?_ ?_); (fail_if_success refine' @Exists.intro (Nat → Nat → Hp → Prop) _ ?_ ?_); (fail_if_success refine' @Exists.intro (Hp → Prop) _ ?_ ?_); apply Exists.intro)
  | (apply And.intro; (focus walk_at "sv"))
  | intro _
  | (apply ifT; (focus rfl))
  | (apply ifF; (focus rfl))
  | ((apply Or.inl); (apply Exists.intro); (apply And.intro); (focus exact rfl))
  | ((apply Or.inl); (apply And.intro); (focus walk_at "f"))
  | ((apply Or.inr); (apply Exists.intro); (apply And.intro); (focus exact rfl))
  | (apply ifTd; (focus (first | assumption | omega)))
  | (apply ifFd; (focus (first | assumption | omega))))
local macro_rules | `(tactic| walk_at "go") => `(tactic| repeat walk_at "one")
local macro_rules | `(tactic| walk_at "nm") => `(tactic| try simp only [List.set_cons_zero, List.set_cons_succ])
local macro_rules | `(tactic| walk_at "gon") => `(tactic| repeat (walk_at "one"; walk_at "nm"))
theorem rat_back {C : Addr} {H H' : Hp} {p : Addr} {q : Rat} (e : Same H H') (L : RatAt C H p q) : RatAt C H' p q := L.stay (same_sol e)
theorem rat_frm {C x : Addr} {H H' : Hp} {p : Addr} {q : Rat} (e : Frm x H H') (B : Bowl H x) (L : RatAt C H p q) : RatAt C H' p q := L.stay (sol_frm e B)
theorem rat_raw {C : Addr} {H : Hp} {p : Addr} {q : Rat} (L : RatAt C H p q) : H p = some (.ins C (dxOf H p) (fsOf H p)) := ins_raw L.ins
theorem ratu_back {C : Addr} {H H' : Hp} {p : Addr} {n d : Int} {lo : Bool} (e : Same H H') (L : RatU C H p n d lo) : RatU C H' p n d lo := L.stay (same_sol e)
theorem ratu_frm {C x : Addr} {H H' : Hp} {p : Addr} {n d : Int} {lo : Bool} (e : Frm x H H') (B : Bowl H x) (L : RatU C H p n d lo) : RatU C H' p n d lo := L.stay (sol_frm e B)
theorem ratb_back {k : Nat} {C : Addr} {H H' : Hp} {p : Addr} {q : Rat} (e : Same H H') (L : RatB k C H p q) : RatB k C H' p q := L.stay (same_sol e)
theorem ratb_frm {k : Nat} {C x : Addr} {H H' : Hp} {p : Addr} {q : Rat} (e : Frm x H H') (B : Bowl H x) (L : RatB k C H p q) : RatB k C H' p q := L.stay (sol_frm e B)
theorem ratb_raw {k : Nat} {C : Addr} {H : Hp} {p : Addr} {q : Rat} (L : RatB k C H p q) : H p = some (.ins C (dxOf H p) (fsOf H p)) := ins_raw L.ins
theorem ratb_at {k : Nat} {C : Addr} {H : Hp} {p : Addr} {q : Rat} (L : RatAt C H p q) (z : Rsz k q) : RatB k C H p q := L.b z
theorem ratb_u {k : Nat} {C : Addr} {H : Hp} {p : Addr} {q : Rat} (L : RatU C H p q.num (q.den : Int) true) (z : Rsz k q) : RatB k C H p q := RatAt.b L z
theorem ty_rat (T : Txt K mg A) {H : Hp} {p : Addr} {q : Rat} (L : RatAt A.a_Ratio H p q) : TyX K H (.ref p) (.ref A.a_Ratio) := by
  obtain ⟨dx, fs, g⟩ := L.ins
  exact ty_ins g T.c_Ratio T.cl_Ratio T.ob_Ratio T
theorem ty_ratb (T : Txt K mg A) {H : Hp} {k : Nat} {p : Addr} {q : Rat} (L : RatB k A.a_Ratio H p q) : TyX K H (.ref p) (.ref A.a_Ratio) := by
  obtain ⟨dx, fs, g⟩ := L.ins
  exact ty_ins g T.c_Ratio T.cl_Ratio T.ob_Ratio T
theorem nf_K {K' : PySem.W.Frag} {C : Addr} {t : Value} (h : PySem.W.notFirst K C t = true) (e : K = K') : PySem.W.notFirst K' C t = true := e ▸ h
theorem nf_self {C : Addr} : PySem.W.notFirst K C (.ref C) = true := by simp [PySem.W.notFirst]
local macro_rules | `(tactic| walk_at "arr") => `(tactic| first
  | ((with_reducible apply made2); (focus with_reducible assumption); (focus with_reducible assumption); with_reducible assumption)
  | ((with_reducible apply same_up); (focus with_reducible assumption); with_reducible assumption))
local macro_rules | `(tactic| walk_at "f") => `(tactic| first
  | ((with_reducible apply Num.long); walk_at "f")
  | ((with_reducible apply ratu_back); (focus walk_at "arr"); walk_at "f")
  | ((with_reducible apply ratu_frm); (focus with_reducible assumption); (focus walk_at "f"); walk_at "f")
  | ((with_reducible apply rat_back); (focus walk_at "arr"); walk_at "f")
  | ((with_reducible apply rat_frm); (focus with_reducible assumption); (focus walk_at "f"); walk_at "f")
  | ((with_reducible apply ratb_u); (focus walk_at "f"); with_reducible assumption)
  | ((with_reducible apply ratb_at); (focus walk_at "f"); with_reducible assumption)
  | ((with_reducible apply ratb_back); (focus walk_at "arr"); walk_at "f")
  | ((with_reducible apply ratb_frm); (focus with_reducible assumption); (focus walk_at "f"); walk_at "f")
  | ((with_reducible apply Rn.rat); walk_at "f")
  | ((with_reducible apply Rn.int); with_reducible assumption)
  | ((with_reducible apply rat_raw); walk_at "f")
  | ((with_reducible apply ratb_raw); walk_at "f"))
local macro_rules | `(tactic| walk_at "f") => `(tactic| first
  | ((apply ty_rat); (focus assumption); walk_at "f")
  | ((apply ty_ratb); (focus assumption); walk_at "f")
  | exact nf_self
  | exact TyX.base (.int _)
  | ((with_reducible apply Pay.two); (focus with_reducible assumption); (focus with_reducible assumption); (focus (first | with_reducible assumption | decide)); (first | with_reducible assumption | rfl))
  | ((with_reducible apply nf_K); (focus with_reducible assumption); rfl)
  | exact bt_lit (by decide +kernel))
local macro_rules | `(tactic| walk_at "one") => `(tactic| ((apply Or.inl); (apply Exists.intro); (apply Exists.intro); (apply And.intro); (focus exact rfl)))
def sp__rest_total : Sp := fun vs H Q _ => ∃ (n a c m : Int), vs = [.int n, .int a, .int c, .int m] ∧ 0 ≤ n ∧ 1 ≤ m ∧ Bt 300 n ∧ Bt 300 a ∧ Bt 300 c ∧ Bt 300 m ∧
  ∀ H', Same H H' → Q (.int (sm (rs a c m) n.toNat)) H'
def sp_rest_total (A : Ad) : Sp := fun vs H Q _ => ∃ (u v x y : V) (n a c m : Int), vs = [u, v, x, y] ∧ Num A H u n ∧ Num A H v a ∧ Num A H x c ∧ Num A H y m ∧ 0 ≤ n ∧ 1 ≤ m ∧ Bt 300 n ∧ Bt 300 a ∧ Bt 300 c ∧ Bt 300 m ∧
  ∀ H', Same H H' → Q (.int (sm (rs a c m) n.toNat)) H'
def sp__steps : Sp := fun vs H Q _ => ∃ (b a : Int), vs = [.int b, .int a] ∧ 0 ≤ a ∧ a < b ∧ Bt 900 b ∧
  ∀ t m f c x H', H t = none → Same H H' → H' t = some (.tup [.int m, .int f, .int c, .int x]) → StO a b m f c x → Q (.ref t) H'
theorem ok__steps (T : Txt K mg A) : FnOk P w K mg base CX0 1 A.f__steps A.d__steps ["upper", "lower"] sp__steps := by
  refine T.F__steps.ok sc__steps (fun vs H Q E h => ?_) (fun cdv Ar outer s H vs Q E hr h => ?_)
  · obtain ⟨_, _, rfl, _⟩ := h
    rfl
  · obtain ⟨b, a, rfl, a0, a1, bb, k⟩ := h
    have hu := hu_of hr
    refine ⟨_, (pss_cons (ps_asg (pe_tup (pa_cons pe_int (pa_cons pe_int (pa_cons pe_int pa_nil)))) (pg_tup rfl (pgs_cons (pg_name (i := 2) sc__steps.nd rfl (Or.inl rfl)) (pgs_cons (pg_name (i := 3) sc__steps.nd rfl (Or.inl rfl)) (pgs_cons (pg_name (i := 4) sc__steps.nd rfl (Or.inl rfl)) pgs_nil)))))
      (pss_cons (ps_while PassesOwn.never (pt_truth (pv 1) (fun _ => rfl))
        (pss_cons (ps_set (i := 5) sc__steps.nd rfl (Or.inl rfl) (pe_op op_fdivW (pv 0) (pv 1)))
          (pss_cons (ps_set (i := 0) sc__steps.nd rfl (Or.inl rfl) (pe_op op_mod (pv 0) (pv 1)))
          (pss_cons (ps_if (pt_not (pt_truth (pv 0) (fun _ => rfl)))
            (pss_one (ps_ret (pe_tup (pa_cons (pe_op op_add (pv 2) (pv 5)) (pa_cons (pv 4) (pa_cons (pv 1) (pa_cons (pe_un un_neg pe_int) pa_nil)))))))
            pss_nil)
          (pss_cons (ps_set (i := 3) sc__steps.nd rfl (Or.inl rfl) (pe_op op_add (pv 3) (pe_op op_mulW (pv 5) (pv 4))))
          (pss_cons (ps_set (i := 6) sc__steps.nd rfl (Or.inl rfl) (pe_op op_fdivW (pv 1) (pv 0)))
          (pss_cons (ps_set (i := 1) sc__steps.nd rfl (Or.inl rfl) (pe_op op_mod (pv 1) (pv 0)))
          (pss_cons (ps_set (i := 4) sc__steps.nd rfl (Or.inl rfl) (pe_op op_add (pv 4) (pe_op op_mulW (pv 6) (pv 3))))
          (pss_one (ps_set (i := 2) sc__steps.nd rfl (Or.inl rfl) (pe_op op_sub (pe_op op_add (pv 2) (pv 5)) (pv 6))))))))))))
      (pss_one (ps_ret (pe_tup (pa_cons (pv 2) (pa_cons (pe_un un_neg (pv 3)) (pa_cons (pv 0) (pa_cons pe_int pa_nil))))))))), ?_⟩
    have S0 := StI.start a0 a1
    walk_at "go"
    rename_i tp htp
    refine ⟨fun m' σ H' => Stop (∃ (alt bef las u l : Int) (v5 v6 : Option V), m' = l.toNat ∧ σ = [some (.int u), some (.int l), some (.int alt), some (.int bef), some (.int las), v5, v6] ∧ Same H H' ∧ StI a b (gc a b) alt bef las u l), ⟨_, ⟨_, _, _, _, _, _, _, rfl, rfl, same_new htp, S0⟩⟩, ?_⟩
    rintro m' σ H1 ⟨⟨alt, bef, las, u, l, v5, v6, rfl, rfl, s1, S⟩⟩
    have l0 := S.l0
    have lu := S.lu
    have sl := S.las_le
    have b0 := S.b0
    have sp := S.s0
    have bs := S.bs
    have bl : Bt 900 l := bt_le l0 (by omega) bb
    have bu : Bt 900 u := bt_le (by omega) sl.2 bb
    have bla : Bt 900 las := bt_le (by omega) sl.1 bb
    have bbe : Bt 900 bef := bt_le b0 (by omega) bb
    walk_at "go"
    refine ite2 (fun h => ?_) (fun h => ?_)
    · have hl : 0 < l := by
        rcases Int.lt_or_eq_of_le l0 with z | z
        · exact z
        · rw [← z] at h
          cases h
      refine pass_body ?_
      walk_at "go"
      refine ite2 (fun h2 => ?_) (fun h2 => ?_)
      · have hu : u % l = 0 := by
          by_cases z : u % l = 0
          · exact z
          · exfalso
            rw [show (u % l != 0) = true from by rw [bne_iff_ne]; exact z] at h2
            cases h2
        have O := S.endA rfl hl hu
        walk_at "go"
        exact k _ _ _ _ _ _ (by walk_at "f") (by walk_at "f") upd_same O
      · have hu0 := Int.emod_nonneg u (show l ≠ 0 by omega)
        have hu : 0 < u % l := by
          rcases Int.lt_or_eq_of_le hu0 with z | z
          · exact z
          · exfalso
            rw [← z] at h2
            exact h2 rfl
        have S2 := S.go hl hu
        have bm : Bt 900 (u % l) := bt_mod hl bl
        have bd : Bt 901 (u / l) := bt_div bu
        have bd2 : Bt 901 (l / (u % l)) := bt_div bl
        have lt := Int.emod_lt_of_pos l hu
        have lt2 := Int.emod_lt_of_pos u hl
        walk_at "go"
        exact ⟨_, (show (l % (u % l)).toNat < l.toNat by omega), ⟨_, _, _, _, _, _, _, rfl, rfl, s1, S2⟩⟩
    · have hl : l = 0 := by
        by_cases z : l = 0
        · exact z
        · exact absurd (by rw [bne_iff_ne]; exact z) h
      subst hl
      have O := S.endB rfl
      walk_at "go"
      exact k _ _ _ _ _ _ (by walk_at "f") (by walk_at "f") upd_same O
end
end Tk

set_option maxHeartbeats 2000000
namespace Tk
open PySem PySem.Spec PyProof.Rows L2 Tc
section
variable {P : Program} {w : World} {K : PySem.W.Frag} {mg : Str → Option Value} {base : Heap} {A : Ad}
open Tm
local macro_rules | `(tactic| walk_at "arr") => `(tactic| first
  | with_reducible assumption
  | ((with_reducible apply same_new); with_reducible assumption))
local macro_rules | `(tactic| walk_at "f") => `(tactic| first
  | with_reducible assumption
  | with_reducible exact upd_same
  | with_reducible exact Same.refl _
  | with_reducible exact Frm.refl
  | ((with_reducible apply sqL_K); (focus with_reducible assumption); rfl)
  | ((with_reducible apply sqT_K); (focus with_reducible assumption); rfl)
  | ((with_reducible apply SqT.of); walk_at "f")
  | ((with_reducible apply SqL.of); walk_at "f")
  | ((with_reducible apply back_raw); (focus walk_at "arr"); walk_at "f")
  | ((with_reducible apply frm_tup); (focus with_reducible assumption); (focus walk_at "f"); (focus walk_at "f"); (focus (intro _ z; cases z; done)))
  | ((with_reducible apply frm_raw); (focus with_reducible assumption); (focus walk_at "f"); walk_at "f")
  | ((with_reducible apply bowl_back); (focus walk_at "arr"); walk_at "f")
  | ((with_reducible apply bowl_ne); (focus with_reducible assumption); walk_at "f")
  | ((with_reducible apply Num.int); with_reducible assumption)
  | ((with_reducible apply same_snoc); (focus walk_at "arr"); walk_at "f")
  | ((with_reducible apply frm_back); (focus walk_at "arr"); walk_at "f")
  | ((with_reducible apply frm_backF); (focus with_reducible assumption); walk_at "f")
  | ((with_reducible apply back_sqT); (focus walk_at "arr"); walk_at "f")
  | ((with_reducible apply same_sqL); (focus walk_at "arr"); walk_at "f")
  | ((with_reducible apply free_same); (focus with_reducible assumption); walk_at "f")
  | ((with_reducible apply free_frm); (focus with_reducible assumption); (focus with_reducible assumption); walk_at "f")
  | ((with_reducible apply frm_sqL); (focus with_reducible assumption); (focus walk_at "f"); walk_at "f"))
local macro_rules | `(tactic| walk_at "bt") => `(tactic| first
  | with_reducible assumption
  | ((with_reducible apply bt_mul); (focus walk_at "bt"); walk_at "bt")
  | ((with_reducible apply bt_add); (focus walk_at "bt"); walk_at "bt")
  | ((with_reducible apply bt_sub); (focus walk_at "bt"); walk_at "bt")
  | ((with_reducible apply bt_neg); walk_at "bt")
  | ((with_reducible apply bt_div); walk_at "bt")
  | ((with_reducible apply bt_mod); (focus (first | assumption | omega)); walk_at "bt")
  | exact bt_lit (n := 64) (by decide)
  | exact bt_lit (n := 200) (by decide +kernel))
local macro_rules | `(tactic| walk_at "lin") => `(tactic| first
  | exact (by decide : 1 ≤ sizeLine) | exact (by decide : 2 ≤ sizeLine) | exact (by decide : 3 ≤ sizeLine) | exact (by decide : 4 ≤ sizeLine) | exact (by decide : 0 ≤ sizeLine) | exact (by decide : 5 ≤ sizeLine) | exact (by decide : 6 ≤ sizeLine))
local macro_rules | `(tactic| walk_at "dp") => `(tactic| first
  | exact Dp.int _
  | exact DpAll.nil
  | ((with_reducible apply Dp.lst); (focus walk_at "f"); walk_at "dp")
  | ((with_reducible apply Dp.tup); (focus walk_at "f"); walk_at "dp")
  | ((with_reducible apply DpAll.cons); (focus walk_at "dp"); walk_at "dp"))
local macro_rules | `(tactic| walk_at "sv") => `(tactic| first
  | with_reducible rfl
  | walk_at "f"
  | exact rfl
  | walk_at "dp"
  | exact shp_lst [_] | exact shp_lst [_, _] | exact shp_lst [_, _, _] | exact shp_lst [_, _, _, _] | exact shp_tup [_, _] | exact shp_tup [_, _, _]
  | ((apply tyV_lst); walk_at "f")
  | ((with_reducible apply bt_mulW); (focus walk_at "bt"); (focus walk_at "bt"); (focus (first | decide | omega)))
  | ((with_reducible apply bt_divW); (focus (first | decide | assumption | omega)); (focus walk_at "bt"); (focus (first | decide | omega)))
  | ((with_reducible apply bt_divP); (focus (first | decide | assumption | omega)); (focus walk_at "bt"); (focus (first | decide | omega)))
  | exact ⟨by decide, by decide +kernel⟩
  | exact Or.inl (by decide)
  | exact Or.inr (by decide)
  | exact Or.inl ⟨by omega, by omega⟩
  | exact Or.inr ⟨by omega, by omega⟩
  | ((with_reducible apply Or.inl); walk_at "sv")
  | ((with_reducible apply Or.inr); walk_at "sv")
  | ((with_reducible apply Exists.intro); walk_at "sv")
  | ((with_reducible apply And.intro); (focus walk_at "sv"); walk_at "sv")
  | walk_at "lin"
  | decide
  | omega
  | (simp only [List.length_cons, List.length_nil, List.length_map]; first | done | omega))
local macro_rules | `(tactic| walk_at "one") => `(tactic| first
  | ((fail_if_success refine' @Exists.intro (Nat → L2.St → Hp → Prop) _ ?_ ?_); (fail_if_success refine' @Exists.intro (Nat → Nat → L2.St → Hp → Prop) _ ?_ ?_); (fail_if_success refine' @Exists.intro (L2.St → Hp → Prop) _ ?_ ?_); (fail_if_success refine' @Exists.intro (Nat → Nat → Hp → Prop) _ ?_ ?_); (fail_if_success refine' @Exists.intro (Hp → Prop) _ ?_ ?_); apply Exists.intro)
  | (apply And.intro; (focus walk_at "sv"))
  | intro _
  | (apply ifT; (focus rfl))
  | (apply ifF; (focus rfl))
  | ((apply Or.inl); (apply Exists.intro); (apply And.intro); (focus exact rfl))
  | ((apply Or.inl); (apply And.intro); (focus walk_at "f"))
  | ((apply Or.inr); (apply Exists.intro); (apply And.intro); (focus exact rfl))
  | (apply ifTd; (focus (first | assumption | omega)))
  | (apply ifFd; (focus (first | assumption | omega))))
local macro_rules | `(tactic| walk_at "go") => `(tactic| repeat walk_at "one")
local macro_rules | `(tactic| walk_at "nm") => `(tactic| try simp only [List.set_cons_zero, List.set_cons_succ])
local macro_rules | `(tactic| walk_at "gon") => `(tactic| repeat (walk_at "one"; walk_at "nm"))
theorem bits_gtT {b : Int} (h : 0 < b) : 4 * b < 2 ^ (((Builtin.Int.intBits b : Nat) : Int) + 2).toNat := by
  have e : (((Builtin.Int.intBits b : Nat) : Int) + 2).toNat = Builtin.Int.intBits b + 2 := by omega
  rw [e]
  have e2 : Builtin.Int.intBits b = b.natAbs.log2 + 1 := by
    unfold Builtin.Int.intBits
    rw [if_neg (by intro z; have := eq_of_beq z; omega)]
  have l : b.natAbs < 2 ^ (b.natAbs.log2 + 1) := Nat.lt_log2_self
  rw [← e2] at l
  have e3 : (((2 : Nat) ^ (Builtin.Int.intBits b) : Nat) : Int) = 2 ^ (Builtin.Int.intBits b) := by norm_cast
  have e4 : (2 : Int) ^ (Builtin.Int.intBits b + 2) = 2 ^ (Builtin.Int.intBits b) * 4 := by
    rw [Int.pow_add]
    rfl
  omega
theorem bits_le {b : Int} (hb : Bt 900 b) : (((Builtin.Int.intBits b : Nat) : Int) + 2).toNat ≤ 902 := by
  have h := PyProof.Rows.intBits_le hb
  omega
theorem bits_shlT {x b : Int} (hx : Bt 900 x) (hb : Bt 900 b) : CShl x (((Builtin.Int.intBits b : Nat) : Int) + 2) := by
  have h := PyProof.Rows.intBits_le hb
  have c := shl_ok (i := x) (j := Builtin.Int.intBits b + 2) hx (by omega)
  exact c
theorem sto_bits {a b m f c x : Int} (O : StO a b m f c x) (b0 : 0 < b) (bb : Bt 900 b) : Bt 900 c ∧ Bt 900 f ∧ Bt 902 m ∧ Bt 64 x := by
  have c0 : 0 < c := by rw [← O.hc]; exact gc_pos (by omega)
  have c1' : c ≤ b := by
    rw [← O.hc]
    exact Int.le_of_dvd (by omega) (gc_r ..)
  have f0 := O.f0
  have f1 := O.f1
  have m0 := O.m0
  have m1 := O.m1
  have bb2 : b.natAbs < 2 ^ 900 := bb
  refine ⟨bt_le (by omega) c1' bb, ?_, ?_, ?_⟩
  · show f.natAbs < 2 ^ 900
    omega
  · show m.natAbs < 2 ^ 902
    have e : (2 : Nat) ^ 902 = 2 ^ 900 * 4 := by rw [Nat.pow_add 2 900 2]
    rw [e]
    generalize (2 : Nat) ^ 900 = z at *
    omega
  · rcases O.t0 with z | z <;> subst z <;> exact bt_lit (by decide)
theorem tt_bits {a b : Int} (b0 : 0 < b) (bb : Bt 900 b) : (Tm.TT a b).natAbs < 2 ^ 2000 := by
  have a0 := Int.emod_nonneg a (show b ≠ 0 by omega)
  have a1 := Int.emod_lt_of_pos a b0
  obtain ⟨m, f, c, x, O⟩ := sto_ex a0 a1
  obtain ⟨bc, bf, bm, bx⟩ := sto_bits O b0 bb
  rw [← TT_mod b0, ← O.hT]
  have h : Bt 2000 ((m + x) * b + a % b + f * c) := Bt.mono (bt_addm (n := 1868) (bt_addm (n := 1867) (bt_mul (bt_add bm bx) bb) ((bt_mod b0 bb).mono (by decide))) ((bt_mul bf bc).mono (by decide))) (by decide)
  exact h
local macro_rules | `(tactic| walk_at "arr") => `(tactic| first
  | ((with_reducible apply made2); (focus with_reducible assumption); (focus with_reducible assumption); with_reducible assumption)
  | ((with_reducible apply same_up); (focus with_reducible assumption); with_reducible assumption))
local macro_rules | `(tactic| walk_at "f") => `(tactic| first
  | ((with_reducible apply Num.long); walk_at "f")
  | ((with_reducible apply ratu_back); (focus walk_at "arr"); walk_at "f")
  | ((with_reducible apply ratu_frm); (focus with_reducible assumption); (focus walk_at "f"); walk_at "f")
  | ((with_reducible apply rat_back); (focus walk_at "arr"); walk_at "f")
  | ((with_reducible apply rat_frm); (focus with_reducible assumption); (focus walk_at "f"); walk_at "f")
  | ((with_reducible apply ratb_u); (focus walk_at "f"); with_reducible assumption)
  | ((with_reducible apply ratb_at); (focus walk_at "f"); with_reducible assumption)
  | ((with_reducible apply ratb_back); (focus walk_at "arr"); walk_at "f")
  | ((with_reducible apply ratb_frm); (focus with_reducible assumption); (focus walk_at "f"); walk_at "f")
  | ((with_reducible apply Rn.rat); walk_at "f")
  | ((with_reducible apply Rn.int); with_reducible assumption)
  | ((with_reducible apply rat_raw); walk_at "f")
  | ((with_reducible apply ratb_raw); walk_at "f"))
local macro_rules | `(tactic| walk_at "f") => `(tactic| first
  | ((apply ty_rat); (focus assumption); walk_at "f")
  | ((apply ty_ratb); (focus assumption); walk_at "f")
  | exact nf_self
  | exact TyX.base (.int _)
  | ((with_reducible apply Pay.two); (focus with_reducible assumption); (focus with_reducible assumption); (focus (first | with_reducible assumption | decide)); (first | with_reducible assumption | rfl))
  | ((with_reducible apply nf_K); (focus with_reducible assumption); rfl)
  | exact bt_lit (by decide +kernel))
local macro_rules | `(tactic| walk_at "one") => `(tactic| ((apply Or.inl); (apply Exists.intro); (apply Exists.intro); (apply And.intro); (focus exact rfl)))
def sp__long_sum_top : Sp := fun vs H Q _ => ∃ (b a : Int), vs = [.int b, .int a] ∧ 0 ≤ a ∧ a < b ∧ Bt 900 b ∧ ∀ H', Same H H' → Q (.int (TT a b)) H'
theorem ok__long_sum_top (T : Txt K mg A) : FnOk P w K mg base CX0 3 A.f__long_sum_top A.d__long_sum_top ["b", "rest"] sp__long_sum_top := by
  refine T.F__long_sum_top.ok sc__long_sum_top (fun vs H Q E h => ?_) (fun cdv Ar outer s H vs Q E hr h => ?_)
  · obtain ⟨_, _, rfl, _⟩ := h
    rfl
  · obtain ⟨b, a, rfl, a0, a1, bb, k⟩ := h
    have hu := hu_of hr
    refine ⟨_, (pss_cons (ps_set (i := 2) sc__long_sum_top.nd rfl (Or.inl rfl) (pe_op op_add (pe_bits (pv 0)) pe_int))
      (pss_cons (ps_par (i := 3) (j := 4) (by rfl) sc__long_sum_top.nd rfl rfl (by decide) rfl rfl (pa_cons (pe_op op_shlW (pv 0) (pv 2)) (pa_cons (pe_op op_add (pe_op op_shlW (pv 1) (pv 2)) pe_int) pa_nil)) (by rfl))
      (pss_cons (ps_set (i := 5) sc__long_sum_top.nd rfl (Or.inl rfl) pe_int)
      (pss_cons (ps_set (i := 6) sc__long_sum_top.nd rfl (Or.inl rfl) (pe_op op_shlW (pe_glob rfl T.m__SHORT.choose_spec (rel_int _ _)) (pv 2)))
      (pss_cons (ps_while PassesOwn.never (pt_cmpR op_gt (pv 4) (pv 6) (nomark _))
        (pss_cons (ps_asg (pe_callB call_divmodW (by rfl) T.b_divmod (by decide +kernel) (pa_cons (pv 3) (pa_cons (pv 4) pa_nil))) (pg_tup rfl (pgs_cons (pg_name (i := 7) sc__long_sum_top.nd rfl (Or.inl rfl)) (pgs_cons (pg_name (i := 3) sc__long_sum_top.nd rfl (Or.inl rfl)) pgs_nil))))
          (pss_cons (ps_asg (pe_callB call_divmodW (by rfl) T.b_divmod (by decide +kernel) (pa_cons (pv 4) (pa_cons (pv 3) pa_nil))) (pg_tup rfl (pgs_cons (pg_name (i := 8) sc__long_sum_top.nd rfl (Or.inl rfl)) (pgs_cons (pg_name (i := 4) sc__long_sum_top.nd rfl (Or.inl rfl)) pgs_nil))))
          (pss_one (ps_set (i := 5) sc__long_sum_top.nd rfl (Or.inl rfl) (pe_op op_sub (pe_op op_add (pv 5) (pv 7)) (pv 8)))))))
      (pss_cons (ps_par (i := 9) (j := 10) (by rfl) sc__long_sum_top.nd rfl rfl (by decide) rfl rfl (pa_cons (pe_un un_neg (pe_op op_shr (pe_un un_neg (pv 3)) (pv 2))) (pa_cons (pe_op op_shr (pv 4) (pv 2)) pa_nil)) (by rfl))
      (pss_cons (ps_asg (pe_call (ok__steps T) (hr.mono (by decide)) rfl T.m__steps T.F__steps.kp T.b__steps .nil pass0 (pa_cons (pv 9) (pa_cons (pv 10) pa_nil))) (pg_tup rfl (pgs_cons (pg_name (i := 11) sc__long_sum_top.nd rfl (Or.inl rfl)) (pgs_cons (pg_name (i := 12) sc__long_sum_top.nd rfl (Or.inl rfl)) (pgs_cons (pg_name (i := 13) sc__long_sum_top.nd rfl (Or.inl rfl)) (pgs_cons (pg_name (i := 14) sc__long_sum_top.nd rfl (Or.inl rfl)) pgs_nil))))))
      (pss_cons (ps_set (i := 15) sc__long_sum_top.nd rfl (Or.inl rfl) (pe_op op_sub (pe_op op_add (pe_op op_mulW (pe_op op_fdivW (pe_op op_sub (pv 13) (pe_op op_mulW (pv 12) (pv 10))) (pv 9)) (pv 3)) (pe_op op_mulW (pv 12) (pv 4))) (pe_op op_shlW (pv 13) (pv 2))))
      (pss_one (ps_ret (pe_op op_add (pe_op op_add (pe_op op_mulW (pe_op op_add (pe_op op_add (pv 5) (pv 11)) (pv 14)) (pv 0)) (pv 1)) (pe_op op_mulW (pv 15) (pv 13))))))))))))), ?_⟩
    have ba : Bt 900 a := bt_le a0 (by omega) bb
    have c1 := bits_shlT bb bb
    have c2 := bits_shlT ba bb
    have c3 := bits_shlT (x := 2 ^ 30) (bt_lit (by decide +kernel)) bb
    have hB := bits_gtT (b := b) (by omega)
    have lbits := bits_le bb
    have P0 := pk_start (Bt := 2 ^ (((Builtin.Int.intBits b : Nat) : Int) + 2).toNat) a0 a1
    generalize hbits : (((Builtin.Int.intBits b : Nat) : Int) + 2) = bits at *
    have st : L2.start n__long_sum_top [V.int b, V.int a] = [some (.int b), some (.int a), none, none, none, none, none, none, none, none, none, none, none, none, none, none] := rfl
    rw [st]
    walk_at "gon"
    simp only [hbits]
    walk_at "gon"
    refine ⟨fun m' σ H' => Stop (∃ (alt U L : Int) (v7 v8 : Option V), m' = L.toNat ∧ σ = [some (.int b), some (.int a), some (.int bits), some (.int U), some (.int L), some (.int alt), some (.int (2 ^ 30 * 2 ^ bits.toNat)), v7, v8, none, none, none, none, none, none, none] ∧ Same H H' ∧ (Pk a b (2 ^ bits.toNat) (gc a b) alt U L ∨ PkE a b (2 ^ bits.toNat) (gc a b) alt U L)), ⟨_, ⟨_, _, _, _, _, rfl, rfl, Same.refl _, .inl P0⟩⟩, ?_⟩
    rintro m' σ H1 ⟨⟨alt, U, L, v7, v8, rfl, rfl, s1, S⟩⟩
    obtain ⟨u, l, hu, hl, l0, lu, ub, al0, al1, L0, U0, U1, L1, fin⟩ := pk_fin hB rfl S
    have bB : Bt 903 (2 ^ bits.toNat : Int) := by
      show ((2 ^ bits.toNat : Int)).natAbs < 2 ^ 903
      rw [Int.natAbs_pow]
      exact Nat.pow_lt_pow_right (by decide) (by omega)
    have bbB := bt_mul bb bB
    have bU : Bt 1803 U := bt_le U0 U1 bbB
    have bL : Bt 1803 L := bt_le L0 L1 bbB
    have bp : 0 < (2 ^ bits.toNat : Int) := Int.pow_pos (by decide)
    have bits0 : 0 ≤ bits := by omega
    walk_at "gon"
    refine ite2 (fun h => ?_) (fun h => ?_)
    · have h : 2 ^ 30 * 2 ^ bits.toNat < L := of_decide_eq_true h
      have h3 : 2 * (2 ^ bits.toNat : Int) ≤ 2 ^ 30 * 2 ^ bits.toNat := Int.mul_le_mul_of_nonneg_right (by decide) (by omega)
      have P1 : Pk a b (2 ^ bits.toNat) (gc a b) alt U L := by
        rcases S with z | z
        · exact z
        · have := z.LB
          omega
      obtain ⟨g1, g2, g3, g4⟩ := pk_go hB P1 (by omega) rfl
      have Lp : 0 < L := by omega
      have bm : Bt 1803 (U % L) := bt_mod Lp bL
      refine pass_body ?_
      walk_at "gon"
      exact ⟨_, (show (L % (U % L)).toNat < L.toNat by omega), ⟨_, _, _, _, _, rfl, rfl, by walk_at "f", g4⟩⟩
    · have bu : Bt 900 (-(-U / 2 ^ bits.toNat)) := by
        rw [hu]
        exact bt_le (by omega) ub bb
      walk_at "gon"
      rename_i tp m f c x H2 ntp s2 htp O
      have O' := O
      rw [hl, hu] at O'
      have c0 : 0 < c := by rw [← O'.hc]; exact gc_pos (by omega)
      have c1' : c ≤ u := by
        rw [← O'.hc]
        exact Int.le_of_dvd (by omega) (gc_r ..)
      have f0 := O'.f0
      have f1 := O'.f1
      have m0 := O'.m0
      have m1 := O'.m1
      have bb2 : b.natAbs < 2 ^ 900 := bb
      have bc : Bt 900 c := bt_le (by omega) (show c ≤ b by omega) bb
      have bf : Bt 900 f := by
        show f.natAbs < 2 ^ 900
        omega
      have bm : Bt 902 m := by
        show m.natAbs < 2 ^ 902
        have e : (2 : Nat) ^ 902 = 2 ^ 900 * 4 := by rw [Nat.pow_add 2 900 2]
        rw [e]
        generalize (2 : Nat) ^ 900 = z at *
        omega
      have bl : Bt 900 (L / 2 ^ bits.toNat) := by
        rw [hl]
        exact bt_le l0 (show l ≤ b by omega) bb
      have c4 := bits_shlT (x := c) bc bb
      rw [hbits] at c4
      have up : 0 < -(-U / 2 ^ bits.toNat) := by rw [hu]; omega
      have balt : Bt 900 alt := by
        show alt.natAbs < 2 ^ 900
        omega
      have bx : Bt 64 x := by
        rcases O'.t0 with z | z <;> subst z <;> exact bt_lit (by decide)
      have e := fin m f c x O'
      rw [← hu, ← hl] at e
      have kk := k H2 (s1.trans s2)
      rw [← e] at kk
      walk_at "gon"
      exact kk
def sp_sum_top : Sp := fun vs H Q _ => ∃ (a b : Int), vs = [.int a, .int b] ∧ 0 < b ∧ Bt 900 b ∧ ∀ H', Same H H' → Q (.int (TT a b)) H'
theorem ok_sum_top (T : Txt K mg A) : FnOk P w K mg base CX0 4 A.f_sum_top A.d_sum_top ["a", "b"] sp_sum_top := by
  refine T.F_sum_top.ok sc_sum_top (fun vs H Q E h => ?_) (fun cdv Ar outer s H vs Q E hr h => ?_)
  · obtain ⟨_, _, rfl, _⟩ := h
    rfl
  · obtain ⟨a, b, rfl, b0, bb, k⟩ := h
    have hu := hu_of hr
    refine ⟨_, (pss_cons (ps_set (i := 2) sc_sum_top.nd rfl (Or.inl rfl) (pe_op op_mod (pv 0) (pv 1)))
      (pss_cons (ps_if (pt_cmpR op_ge (pv 2) (pe_glob rfl T.m__SHORT.choose_spec (rel_int _ _)) (nomark _))
        (pss_one (ps_ret (pe_call (ok__long_sum_top T) (hr.mono (by decide)) rfl T.m__long_sum_top T.F__long_sum_top.kp T.b__long_sum_top .nil pass0 (pa_cons (pv 1) (pa_cons (pv 2) pa_nil)))))
        pss_nil)
      (pss_cons (ps_asg (pe_call (ok__steps T) (hr.mono (by decide)) rfl T.m__steps T.F__steps.kp T.b__steps .nil pass0 (pa_cons (pv 1) (pa_cons (pv 2) pa_nil))) (pg_tup rfl (pgs_cons (pg_name (i := 3) sc_sum_top.nd rfl (Or.inl rfl)) (pgs_cons (pg_name (i := 4) sc_sum_top.nd rfl (Or.inl rfl)) (pgs_cons (pg_name (i := 5) sc_sum_top.nd rfl (Or.inl rfl)) (pgs_cons (pg_name (i := 6) sc_sum_top.nd rfl (Or.inl rfl)) pgs_nil))))))
      (pss_one (ps_ret (pe_op op_add (pe_op op_add (pe_op op_mulW (pe_op op_add (pv 3) (pv 6)) (pv 1)) (pv 2)) (pe_op op_mulW (pv 4) (pv 5)))))))), ?_⟩
    have a0 := Int.emod_nonneg a (show b ≠ 0 by omega)
    have a1 := Int.emod_lt_of_pos a b0
    rw [← TT_mod b0] at k
    walk_at "go"
    refine ite2 (fun h => ?_) (fun h => ?_)
    · walk_at "go"
      exact k _ (by walk_at "f")
    · walk_at "go"
      rename_i tp m f c x H2 ntp s2 htp O
      obtain ⟨bc, bf, bm, bx⟩ := sto_bits O b0 bb
      have kk := k H2 s2
      rw [← O.hT] at kk
      walk_at "go"
      exact kk
def sp_sum_of (A : Ad) : Sp := fun vs H Q _ => ∃ (a b : Int), vs = [.int a, .int b] ∧ 0 < b ∧ Bt 900 b ∧ ∀ p H', Same H H' → RatB 4000 A.a_Ratio H' p (Rat.divInt (TT a b) (12 * b)) → Q (.ref p) H'
theorem ok_sum_of (T : Txt K mg A) : FnOk P w K mg base CX0 10 A.f_sum_of A.d_sum_of ["a", "b"] (sp_sum_of A) := by
  refine T.F_sum_of.ok sc_sum_of (fun vs H Q E h => ?_) (fun cdv Ar outer s H vs Q E hr h => ?_)
  · obtain ⟨_, _, rfl, _⟩ := h
    rfl
  · obtain ⟨a, b, rfl, b0, bb, k⟩ := h
    have hu := hu_of hr
    refine ⟨_, (pss_one (ps_ret (pe_call (ok_unreduced_ratio T) (hr.mono (by decide)) rfl T.m_unreduced_ratio T.F_unreduced_ratio.kp T.b_unreduced_ratio .nil pass0 (pa_cons (pe_call (ok_sum_top T) (hr.mono (by decide)) rfl T.m_sum_top T.F_sum_top.kp T.b_sum_top .nil pass0 (pa_cons (pv 0) (pa_cons (pv 1) pa_nil))) (pa_cons (pe_op op_mul pe_int (pv 1)) pa_nil))))), ?_⟩
    have b12 : 0 < 12 * b := by omega
    have bT : (TT a b).natAbs < 2 ^ 4000 := Bt.mono (show Bt 2000 (TT a b) from tt_bits b0 bb) (by decide)
    have bB : (12 * b).natAbs < 2 ^ 4000 := Bt.mono (bt_mul (bt_lit (n := 64) (by decide)) bb) (by decide)
    walk_at "go"
    exact k _ _ (by walk_at "f") (by walk_at "f")
def sp_tooth_sum (A : Ad) : Sp := fun vs H Q _ => ∃ (u v : V) (a b : Int), vs = [u, v] ∧ Num A H u a ∧ Num A H v b ∧ 1 ≤ b ∧ Bt 900 b ∧ ∀ p H', Same H H' → RatB 4000 A.a_Ratio H' p (Rat.divInt (TT a b) (12 * b)) → Q (.ref p) H'
theorem ok_tooth_sum (T : Txt K mg A) : FnOk P w K mg base CX0 11 A.f_tooth_sum A.d_tooth_sum ["a", "b"] (sp_tooth_sum A) := by
  refine T.F_tooth_sum.ok sc_tooth_sum (fun vs H Q E h => ?_) (fun cdv Ar outer s H vs Q E hr h => ?_)
  · obtain ⟨_, _, _, _, rfl, _⟩ := h
    rfl
  · obtain ⟨u, v, a, b, rfl, hu1, hv1, b0, bb, k⟩ := h
    have hu := hu_of hr
    refine ⟨_, (pss_cons (ps_asg (pe_call (ok_checked_pair T) (hr.mono (by decide)) rfl T.m_checked_pair T.F_checked_pair.kp T.b_checked_pair .nil pass0 (pa_cons (pv 0) (pa_cons (pv 1) pa_nil))) (pg_tup rfl (pgs_cons (pg_name (i := 2) sc_tooth_sum.nd rfl (Or.inl rfl)) (pgs_cons (pg_name (i := 3) sc_tooth_sum.nd rfl (Or.inl rfl)) pgs_nil))))
      (pss_one (ps_ret (pe_call (ok_sum_of T) (hr.mono (by decide)) rfl T.m_sum_of T.F_sum_of.kp T.b_sum_of .nil pass0 (pa_cons (pv 2) (pa_cons (pv 3) pa_nil)))))), ?_⟩
    have b1 : 0 < b := by omega
    walk_at "go"
    exact k _ _ (by walk_at "f") (by walk_at "f")
end
end Tk

set_option maxHeartbeats 2000000
namespace Tk
open PySem PySem.Spec PyProof.Rows L2 Tc
section
variable {P : Program} {w : World} {K : PySem.W.Frag} {mg : Str → Option Value} {base : Heap} {A : Ad}
open Tm
local macro_rules | `(tactic| walk_at "arr") => `(tactic| first
  | with_reducible assumption
  | ((with_reducible apply same_new); with_reducible assumption))
local macro_rules | `(tactic| walk_at "f") => `(tactic| first
  | with_reducible assumption
  | with_reducible exact upd_same
  | with_reducible exact Same.refl _
  | with_reducible exact Frm.refl
  | ((with_reducible apply sqL_K); (focus with_reducible assumption); rfl)
  | ((with_reducible apply sqT_K); (focus with_reducible assumption); rfl)
  | ((with_reducible apply SqT.of); walk_at "f")
  | ((with_reducible apply SqL.of); walk_at "f")
  | ((with_reducible apply back_raw); (focus walk_at "arr"); walk_at "f")
  | ((with_reducible apply frm_tup); (focus with_reducible assumption); (focus walk_at "f"); (focus walk_at "f"); (focus (intro _ z; cases z; done)))
  | ((with_reducible apply frm_raw); (focus with_reducible assumption); (focus walk_at "f"); walk_at "f")
  | ((with_reducible apply bowl_back); (focus walk_at "arr"); walk_at "f")
  | ((with_reducible apply bowl_ne); (focus with_reducible assumption); walk_at "f")
  | ((with_reducible apply Num.int); with_reducible assumption)
  | ((with_reducible apply same_snoc); (focus walk_at "arr"); walk_at "f")
  | ((with_reducible apply frm_back); (focus walk_at "arr"); walk_at "f")
  | ((with_reducible apply frm_backF); (focus with_reducible assumption); walk_at "f")
  | ((with_reducible apply back_sqT); (focus walk_at "arr"); walk_at "f")
  | ((with_reducible apply same_sqL); (focus walk_at "arr"); walk_at "f")
  | ((with_reducible apply free_same); (focus with_reducible assumption); walk_at "f")
  | ((with_reducible apply free_frm); (focus with_reducible assumption); (focus with_reducible assumption); walk_at "f")
  | ((with_reducible apply frm_sqL); (focus with_reducible assumption); (focus walk_at "f"); walk_at "f"))
local macro_rules | `(tactic| walk_at "bt") => `(tactic| first
  | with_reducible assumption
  | ((with_reducible apply bt_mul); (focus walk_at "bt"); walk_at "bt")
  | ((with_reducible apply bt_add); (focus walk_at "bt"); walk_at "bt")
  | ((with_reducible apply bt_sub); (focus walk_at "bt"); walk_at "bt")
  | ((with_reducible apply bt_neg); walk_at "bt")
  | ((with_reducible apply bt_div); walk_at "bt")
  | ((with_reducible apply bt_mod); (focus (first | assumption | omega)); walk_at "bt")
  | exact bt_lit (n := 64) (by decide)
  | exact bt_lit (n := 200) (by decide +kernel))
local macro_rules | `(tactic| walk_at "lin") => `(tactic| first
  | exact (by decide : 1 ≤ sizeLine) | exact (by decide : 2 ≤ sizeLine) | exact (by decide : 3 ≤ sizeLine) | exact (by decide : 4 ≤ sizeLine) | exact (by decide : 0 ≤ sizeLine) | exact (by decide : 5 ≤ sizeLine) | exact (by decide : 6 ≤ sizeLine))
local macro_rules | `(tactic| walk_at "dp") => `(tactic| first
  | exact Dp.int _
  | exact DpAll.nil
  | ((with_reducible apply Dp.lst); (focus walk_at "f"); walk_at "dp")
  | ((with_reducible apply Dp.tup); (focus walk_at "f"); walk_at "dp")
  | ((with_reducible apply DpAll.cons); (focus walk_at "dp"); walk_at "dp"))
local macro_rules | `(tactic| walk_at "sv") => `(tactic| first
  | with_reducible rfl
  | walk_at "f"
  | exact rfl
  | walk_at "dp"
  | exact shp_lst [_] | exact shp_lst [_, _] | exact shp_lst [_, _, _] | exact shp_lst [_, _, _, _] | exact shp_tup [_, _] | exact shp_tup [_, _, _]
  | ((apply tyV_lst); walk_at "f")
  | ((with_reducible apply bt_mulW); (focus walk_at "bt"); (focus walk_at "bt"); (focus (first | decide | omega)))
  | ((with_reducible apply bt_divW); (focus (first | decide | assumption | omega)); (focus walk_at "bt"); (focus (first | decide | omega)))
  | ((with_reducible apply bt_divP); (focus (first | decide | assumption | omega)); (focus walk_at "bt"); (focus (first | decide | omega)))
  | exact ⟨by decide, by decide +kernel⟩
  | exact Or.inl (by decide)
  | exact Or.inr (by decide)
  | exact Or.inl ⟨by omega, by omega⟩
  | exact Or.inr ⟨by omega, by omega⟩
  | ((with_reducible apply Or.inl); walk_at "sv")
  | ((with_reducible apply Or.inr); walk_at "sv")
  | ((with_reducible apply Exists.intro); walk_at "sv")
  | ((with_reducible apply And.intro); (focus walk_at "sv"); walk_at "sv")
  | walk_at "lin"
  | decide
  | omega
  | (simp only [List.length_cons, List.length_nil, List.length_map]; first | done | omega))
local macro_rules | `(tactic| walk_at "one") => `(tactic| first
  | ((fail_if_success refine' @Exists.intro (Nat → L2.St → Hp → Prop) _ ?_ ?_); (fail_if_success refine' @Exists.intro (Nat → Nat → L2.St → Hp → Prop) _ ?_ ?_); (fail_if_success refine' @Exists.intro (L2.St → Hp → Prop) _ ?_ ?_); (fail_if_success refine' @Exists.intro (Nat → Nat → Hp → Prop) _ ?_ ?_); (fail_if_success refine' @Exists.intro (Hp → Prop) _ ?_ ?_); apply Exists.intro)
  | (apply And.intro; (focus walk_at "sv"))
  | intro _
  | (apply ifT; (focus rfl))
  | (apply ifF; (focus rfl))
  | ((apply Or.inl); (apply Exists.intro); (apply And.intro); (focus exact rfl))
  | ((apply Or.inl); (apply And.intro); (focus walk_at "f"))
  | ((apply Or.inr); (apply Exists.intro); (apply And.intro); (focus exact rfl))
  | (apply ifTd; (focus (first | assumption | omega)))
  | (apply ifFd; (focus (first | assumption | omega))))
local macro_rules | `(tactic| walk_at "go") => `(tactic| repeat walk_at "one")
local macro_rules | `(tactic| walk_at "nm") => `(tactic| try simp only [List.set_cons_zero, List.set_cons_succ])
local macro_rules | `(tactic| walk_at "gon") => `(tactic| repeat (walk_at "one"; walk_at "nm"))
def sp__law_cup (K : PySem.W.Frag) : Sp := fun vs H Q _ => ∃ (sc : Addr) (i : Nat) (ns : List Int), vs = [.ref sc, .int (i : Int)] ∧ SqL K H sc (ns.map V.int) ∧ ∀ p H', H p = none → Same H H' → Bowl H' p → Q (.ref p) H'
def sp__law_bite : Sp := fun vs H Q _ => ∃ (a l : Addr) (xs : List V), vs = [.ref a, .ref l] ∧ Bowl H a ∧ H l = some (.lst xs) ∧ l ≠ a ∧ 0 < xs.length ∧ xs.length ≤ 1000 ∧ ∀ (i : Nat) x H', xs[i]? = some x → Frm a H H' → Bowl H' a → Q x H'
def sp__law_figure : Sp := fun vs H Q _ => ∃ a : Addr, vs = [.ref a] ∧ Bowl H a ∧ ∀ (r : Int) H', r.natAbs < 10 ^ 59 → Frm a H H' → Bowl H' a → Q (.int r) H'
theorem gc_abs {x y : Int} : gc (if x < 0 then -x else x) (if y < 0 then -y else y) = gc x y := by
  unfold gc
  unfold Int.gcd
  have e : ∀ z : Int, (if z < 0 then -z else z).natAbs = z.natAbs := fun z => by split <;> omega
  rw [e, e]
theorem gc_zero {x : Int} (h : 0 ≤ x) : gc x 0 = x := by
  unfold gc
  rw [Int.gcd_zero_right]
  omega
theorem gc_turn {x y : Int} : gc y (x % y) = gc x y := by rw [gc_comm, gc_mod]
theorem rat_add {q r : Rat} : Rat.divInt (q.num * r.den + r.num * q.den) (q.den * r.den) = q + r := by
  rw [← Rat.divInt_add_divInt q.num r.num (by have := q.den_nz; omega) (by have := r.den_nz; omega), Rat.num_divInt_den, Rat.num_divInt_den]
theorem Rsz.bt {n : Nat} {q : Rat} (h : Rsz n q) : Bt n q.num ∧ Bt n (q.den : Int) := ⟨h.1, by show ((q.den : Int)).natAbs < 2 ^ n; rw [Int.natAbs_natCast]; exact h.2⟩
theorem Rsz.neg {n : Nat} {q : Rat} (h : Rsz n q) : Rsz n (-q) := by
  unfold Rsz
  rw [Rat.neg_num, Rat.neg_den, Int.natAbs_neg]
  exact h
theorem rsz_add {m : Nat} {q r : Rat} (h1 : Rsz m q) (h2 : Rsz m r) : Rsz (m + m + 1) (q + r) := by
  rw [← rat_add]
  have d1 := q.den_nz
  have d2 := r.den_nz
  refine divInt_small (Int.mul_ne_zero (by omega) (by omega)) (bt_addm (bt_mul h1.bt.1 h2.bt.2) (bt_mul h2.bt.1 h1.bt.2)) ?_
  exact Bt.mono (bt_mul h1.bt.2 h2.bt.2) (Nat.le_succ _)
theorem TT_one {x y : Int} (h : gc x y = 1) : Tm.TT x y = T1 x y := by
  unfold Tm.TT
  rw [h, Int.ediv_one, Int.ediv_one, Int.one_mul]
local macro_rules | `(tactic| walk_at "arr") => `(tactic| first
  | ((with_reducible apply made2); (focus with_reducible assumption); (focus with_reducible assumption); with_reducible assumption)
  | ((with_reducible apply same_up); (focus with_reducible assumption); with_reducible assumption))
local macro_rules | `(tactic| walk_at "f") => `(tactic| first
  | ((with_reducible apply Num.long); walk_at "f")
  | ((with_reducible apply ratu_back); (focus walk_at "arr"); walk_at "f")
  | ((with_reducible apply ratu_frm); (focus with_reducible assumption); (focus walk_at "f"); walk_at "f")
  | ((with_reducible apply rat_back); (focus walk_at "arr"); walk_at "f")
  | ((with_reducible apply rat_frm); (focus with_reducible assumption); (focus walk_at "f"); walk_at "f")
  | ((with_reducible apply ratb_u); (focus walk_at "f"); with_reducible assumption)
  | ((with_reducible apply ratb_at); (focus walk_at "f"); with_reducible assumption)
  | ((with_reducible apply ratb_back); (focus walk_at "arr"); walk_at "f")
  | ((with_reducible apply ratb_frm); (focus with_reducible assumption); (focus walk_at "f"); walk_at "f")
  | ((with_reducible apply Rn.rat); walk_at "f")
  | ((with_reducible apply Rn.int); with_reducible assumption)
  | ((with_reducible apply rat_raw); walk_at "f")
  | ((with_reducible apply ratb_raw); walk_at "f"))
local macro_rules | `(tactic| walk_at "f") => `(tactic| first
  | ((apply ty_rat); (focus assumption); walk_at "f")
  | ((apply ty_ratb); (focus assumption); walk_at "f")
  | exact nf_self
  | exact TyX.base (.int _)
  | ((with_reducible apply Pay.two); (focus with_reducible assumption); (focus with_reducible assumption); (focus (first | with_reducible assumption | decide)); (first | with_reducible assumption | rfl))
  | ((with_reducible apply nf_K); (focus with_reducible assumption); rfl)
  | exact bt_lit (by decide +kernel))
local macro_rules | `(tactic| walk_at "one") => `(tactic| ((apply Or.inl); (apply Exists.intro); (apply Exists.intro); (apply And.intro); (focus exact rfl)))
def sp__law_gcd : Sp := fun vs H Q _ => ∃ (x y : Int), vs = [.int x, .int y] ∧ Q (.int (gc x y)) H
theorem frac_num {x y : Int} (h : y ≠ 0) : (if 0 < y then 1 else -1) * x / gc x y = (Rat.divInt x y).num := by
  rw [Rat.num_divInt, Int.gcd_comm]
  have e : y.sign = if 0 < y then 1 else -1 := by
    split
    · rename_i z
      exact Int.sign_eq_one_of_pos z
    · exact Int.sign_eq_neg_one_of_neg (by omega)
  rw [e]
  rfl
theorem frac_den {x y : Int} (h : y ≠ 0) : (if 0 < y then 1 else -1) * y / gc x y = ((Rat.divInt x y).den : Int) := by
  rw [Rat.den_divInt, if_neg h, Int.gcd_comm, Int.natCast_ediv]
  have e : (if 0 < y then 1 else -1) * y = (y.natAbs : Int) := by
    split <;> omega
  rw [e]
  rfl
/- a fraction as a tuple of two ints -/
def FrT (K : PySem.W.Frag) (H : Hp) (p : Addr) (q : Rat) : Prop := SqT K H p [.int q.num, .int (q.den : Int)]
def sp__law_frac : Sp := fun vs H Q _ => ∃ x y : Int, vs = [.int x, .int y] ∧ y ≠ 0 ∧ x.natAbs < 2 ^ 8000 ∧ y.natAbs < 2 ^ 8000 ∧ ∀ t H', H t = none → Same H H' → H' t = some (.tup [.int (Rat.divInt x y).num, .int ((Rat.divInt x y).den : Int)]) → Q (.ref t) H'
def sp__law_minus (K : PySem.W.Frag) : Sp := fun vs H Q _ => ∃ (a : Addr) (q : Rat), vs = [.ref a] ∧ FrT K H a q ∧ ∀ t H', H t = none → Same H H' → H' t = some (.tup [.int (-q).num, .int ((-q).den : Int)]) → Q (.ref t) H'
def sp__law_pair_of (A : Ad) : Sp := fun vs H Q _ => ∃ (p : Addr) (q : Rat), vs = [.ref p] ∧ RatB 4000 A.a_Ratio H p q ∧ ∀ t H', H t = none → Same H H' → H' t = some (.tup [.int q.num, .int (q.den : Int)]) → Q (.ref t) H'
theorem ok__law_pair_of (T : Txt K mg A) : FnOk P w K mg base CX0 4 A.f__law_pair_of A.d__law_pair_of ["_law_ratio"] (sp__law_pair_of A) := by
  refine T.F__law_pair_of.ok sc__law_pair_of (fun vs H Q E h => ?_) (fun cdv Ar outer s H vs Q E hr h => ?_)
  · obtain ⟨p, q, rfl, _⟩ := h
    rfl
  · obtain ⟨p, q, rfl, L, k⟩ := h
    have hu := hu_of hr
    refine ⟨_, (pss_one (ps_ret (pe_tup (pa_cons (pe_prop (pv 0) T.c_Ratio T.p_Ratio_top (ok_Ratio_top T) (hr.mono (by decide)) T.b_Ratio_top .nil pass0 rfl) (pa_cons (pe_prop (pv 0) T.c_Ratio T.p_Ratio_bottom (ok_Ratio_bottom T) (hr.mono (by decide)) T.b_Ratio_bottom .nil pass0 rfl) pa_nil))))), ?_⟩
    walk_at "go"
    exact k _ _ (by walk_at "f") (by walk_at "f") (by walk_at "f")
theorem frt {H : Hp} {p : Addr} {q : Rat} (h : H p = some (.tup [.int q.num, .int (q.den : Int)])) : FrT K H p q := SqT.of h
theorem frT_K {K' : PySem.W.Frag} {H : Hp} {p : Addr} {q : Rat} (h : FrT K H p q) (e : K = K') : FrT K' H p q := e ▸ h
theorem frt_back {H H' : Hp} {p : Addr} {q : Rat} (e : Same H H') (h : FrT K H p q) : FrT K H' p q := same_sqT e h
theorem sqT_sol {H H' : Hp} {a : Addr} {xs : List V} (e : Sol H H') (h : SqT K H a xs) : SqT K H' a xs := by
  rcases h with (h | ⟨o, h⟩) | h
  · exact .inl (.inl (e _ _ h (fun _ z => by cases z)))
  · exact .inl (.inr ⟨o, e _ _ h (fun _ z => by cases z)⟩)
  · exact .inr h
theorem frt_frm {x : Addr} {H H' : Hp} {p : Addr} {q : Rat} (e : Frm x H H') (B : Bowl H x) (h : FrT K H p q) : FrT K H' p q := sqT_sol (sol_frm e B) h
end
end Tk

set_option maxHeartbeats 2000000
namespace Tk
open PySem PySem.Spec PyProof.Rows L2 Tc
section
variable {P : Program} {w : World} {K : PySem.W.Frag} {mg : Str → Option Value} {base : Heap} {A : Ad}
open Tm
local macro_rules | `(tactic| walk_at "arr") => `(tactic| first
  | with_reducible assumption
  | ((with_reducible apply same_new); with_reducible assumption))
local macro_rules | `(tactic| walk_at "f") => `(tactic| first
  | with_reducible assumption
  | with_reducible exact upd_same
  | with_reducible exact Same.refl _
  | with_reducible exact Frm.refl
  | ((with_reducible apply sqL_K); (focus with_reducible assumption); rfl)
  | ((with_reducible apply sqT_K); (focus with_reducible assumption); rfl)
  | ((with_reducible apply SqT.of); walk_at "f")
  | ((with_reducible apply SqL.of); walk_at "f")
  | ((with_reducible apply back_raw); (focus walk_at "arr"); walk_at "f")
  | ((with_reducible apply frm_tup); (focus with_reducible assumption); (focus walk_at "f"); (focus walk_at "f"); (focus (intro _ z; cases z; done)))
  | ((with_reducible apply frm_raw); (focus with_reducible assumption); (focus walk_at "f"); walk_at "f")
  | ((with_reducible apply bowl_back); (focus walk_at "arr"); walk_at "f")
  | ((with_reducible apply bowl_ne); (focus with_reducible assumption); walk_at "f")
  | ((with_reducible apply Num.int); with_reducible assumption)
  | ((with_reducible apply same_snoc); (focus walk_at "arr"); walk_at "f")
  | ((with_reducible apply frm_back); (focus walk_at "arr"); walk_at "f")
  | ((with_reducible apply frm_backF); (focus with_reducible assumption); walk_at "f")
  | ((with_reducible apply back_sqT); (focus walk_at "arr"); walk_at "f")
  | ((with_reducible apply same_sqL); (focus walk_at "arr"); walk_at "f")
  | ((with_reducible apply free_same); (focus with_reducible assumption); walk_at "f")
  | ((with_reducible apply free_frm); (focus with_reducible assumption); (focus with_reducible assumption); walk_at "f")
  | ((with_reducible apply frm_sqL); (focus with_reducible assumption); (focus walk_at "f"); walk_at "f"))
local macro_rules | `(tactic| walk_at "bt") => `(tactic| first
  | with_reducible assumption
  | ((with_reducible apply bt_mul); (focus walk_at "bt"); walk_at "bt")
  | ((with_reducible apply bt_add); (focus walk_at "bt"); walk_at "bt")
  | ((with_reducible apply bt_sub); (focus walk_at "bt"); walk_at "bt")
  | ((with_reducible apply bt_neg); walk_at "bt")
  | ((with_reducible apply bt_div); walk_at "bt")
  | ((with_reducible apply bt_mod); (focus (first | assumption | omega)); walk_at "bt")
  | exact bt_lit (n := 64) (by decide)
  | exact bt_lit (n := 200) (by decide +kernel))
local macro_rules | `(tactic| walk_at "lin") => `(tactic| first
  | exact (by decide : 1 ≤ sizeLine) | exact (by decide : 2 ≤ sizeLine) | exact (by decide : 3 ≤ sizeLine) | exact (by decide : 4 ≤ sizeLine) | exact (by decide : 0 ≤ sizeLine) | exact (by decide : 5 ≤ sizeLine) | exact (by decide : 6 ≤ sizeLine))
local macro_rules | `(tactic| walk_at "dp") => `(tactic| first
  | exact Dp.int _
  | exact DpAll.nil
  | ((with_reducible apply Dp.lst); (focus walk_at "f"); walk_at "dp")
  | ((with_reducible apply Dp.tup); (focus walk_at "f"); walk_at "dp")
  | ((with_reducible apply DpAll.cons); (focus walk_at "dp"); walk_at "dp"))
local macro_rules | `(tactic| walk_at "sv") => `(tactic| first
  | with_reducible rfl
  | walk_at "f"
  | exact rfl
  | walk_at "dp"
  | exact shp_lst [_] | exact shp_lst [_, _] | exact shp_lst [_, _, _] | exact shp_lst [_, _, _, _] | exact shp_tup [_, _] | exact shp_tup [_, _, _]
  | ((apply tyV_lst); walk_at "f")
  | ((with_reducible apply bt_mulW); (focus walk_at "bt"); (focus walk_at "bt"); (focus (first | decide | omega)))
  | ((with_reducible apply bt_divW); (focus (first | decide | assumption | omega)); (focus walk_at "bt"); (focus (first | decide | omega)))
  | ((with_reducible apply bt_divP); (focus (first | decide | assumption | omega)); (focus walk_at "bt"); (focus (first | decide | omega)))
  | exact ⟨by decide, by decide +kernel⟩
  | exact Or.inl (by decide)
  | exact Or.inr (by decide)
  | exact Or.inl ⟨by omega, by omega⟩
  | exact Or.inr ⟨by omega, by omega⟩
  | ((with_reducible apply Or.inl); walk_at "sv")
  | ((with_reducible apply Or.inr); walk_at "sv")
  | ((with_reducible apply Exists.intro); walk_at "sv")
  | ((with_reducible apply And.intro); (focus walk_at "sv"); walk_at "sv")
  | walk_at "lin"
  | decide
  | omega
  | (simp only [List.length_cons, List.length_nil, List.length_map]; first | done | omega))
local macro_rules | `(tactic| walk_at "one") => `(tactic| first
  | ((fail_if_success refine' @Exists.intro (Nat → L2.St → Hp → Prop) _ ?_ ?_); (fail_if_success refine' @Exists.intro (Nat → Nat → L2.St → Hp → Prop) _ ?_ ?_); (fail_if_success refine' @Exists.intro (L2.St → Hp → Prop) _ ?_ ?_); (fail_if_success refine' @Exists.intro (Nat → Nat → Hp → Prop) _ ?_ ?_); (fail_if_success refine' @Exists.intro (Hp → Prop) _ ?_ ?_); apply Exists.intro)
  | (apply And.intro; (focus walk_at "sv"))
  | intro _
  | (apply ifT; (focus rfl))
  | (apply ifF; (focus rfl))
  | ((apply Or.inl); (apply Exists.intro); (apply And.intro); (focus exact rfl))
  | ((apply Or.inl); (apply And.intro); (focus walk_at "f"))
  | ((apply Or.inr); (apply Exists.intro); (apply And.intro); (focus exact rfl))
  | (apply ifTd; (focus (first | assumption | omega)))
  | (apply ifFd; (focus (first | assumption | omega))))
local macro_rules | `(tactic| walk_at "go") => `(tactic| repeat walk_at "one")
local macro_rules | `(tactic| walk_at "nm") => `(tactic| try simp only [List.set_cons_zero, List.set_cons_succ])
local macro_rules | `(tactic| walk_at "gon") => `(tactic| repeat (walk_at "one"; walk_at "nm"))
/- tuples, one after another -/
inductive TpA (H : Hp) : List Addr → List (List V) → Prop where
  | nil : TpA H [] []
  | cons {a : Addr} {l : List V} {as : List Addr} {ls : List (List V)} (h : H a = some (.tup l)) (t : TpA H as ls) : TpA H (a :: as) (l :: ls)
theorem TpA.snoc {H : Hp} {a : Addr} {l : List V} (h : H a = some (.tup l)) : ∀ {as : List Addr} {ls : List (List V)}, TpA H as ls → TpA H (as ++ [a]) (ls ++ [l])
  | _, _, .nil => .cons h .nil
  | _, _, .cons h' t => .cons h' (TpA.snoc h t)
theorem TpA.len {H : Hp} : ∀ {as : List Addr} {ls : List (List V)}, TpA H as ls → as.length = ls.length
  | _, _, .nil => rfl
  | _, _, .cons _ t => congrArg (· + 1) t.len
theorem TpA.stay {H H' : Hp} (e : ∀ b xs, H b = some (.tup xs) → H' b = some (.tup xs)) : ∀ {as : List Addr} {ls : List (List V)}, TpA H as ls → TpA H' as ls
  | _, _, .nil => .nil
  | _, _, .cons h t => .cons (e _ _ h) (t.stay e)
theorem TpA.rev {H : Hp} : ∀ {as : List Addr} {ls : List (List V)}, TpA H as ls → TpA H as.reverse ls.reverse
  | _, _, .nil => .nil
  | _, _, .cons h t => by
    rw [List.reverse_cons, List.reverse_cons]
    exact TpA.snoc h t.rev
theorem TpA.get {H : Hp} : ∀ {as : List Addr} {ls : List (List V)} {i : Nat} {a : Addr}, TpA H as ls → as[i]? = some a → ∃ l, ls[i]? = some l ∧ H a = some (.tup l)
  | _, _, 0, _, .cons h _, e => ⟨_, rfl, by cases e; exact h⟩
  | _, _, i + 1, _, .cons _ t, e => TpA.get (i := i) t (by simpa using e)
def pr2 (p : Int × Int) : List V := [.int p.1, .int p.2]
/- the pairs of Euclid's steps, the last one first -/
def Chn (x y : Int) : List (Int × Int) → Int → Int → Prop
  | [], p, q => p = x % y ∧ q = y
  | c :: rs, p, q => 0 < c.1 ∧ c.1 < c.2 ∧ gc c.1 c.2 = 1 ∧ c.2 ≤ y ∧ p = c.2 % c.1 ∧ q = c.1 ∧ Chn x y rs c.1 c.2
theorem chn_step {p q f : Int} (p0 : 0 < p) (pq : p < q) (hg : gc p q = 1) (hf : f = TT (q % p) p) : (p * p + q * q + 1 - 3 * p * q - q * f) / p = TT p q := by
  have r := TT_rec p0 pq
  rw [hg, ← TT_mod p0, ← hf] at r
  have e : p * p + q * q + 1 - 3 * p * q - q * f = p * TT p q := by
    rw [Int.mul_assoc 3 p q]
    omega
  rw [e, Int.mul_ediv_cancel_left _ (by omega)]
theorem t_low12 {a b x y : Int} (hb : b = gc a b * y) (ex : a / gc a b = x) (ey : b / gc a b = y) (h1 : gc x y = 1) (g0 : 0 < gc a b) : Rat.divInt (TT x y) (12 * y) = Rat.divInt (TT a b) (12 * b) := by
  have e : TT a b = gc a b * T1 x y := by
    unfold Tm.TT
    rw [ex, ey]
  rw [TT_one h1, e]
  conv => rhs; rhs; rw [hb]
  rw [show 12 * (gc a b * y) = gc a b * (12 * y) by grind]
  exact (Rat.divInt_mul_left (by omega)).symm
local macro_rules | `(tactic| walk_at "arr") => `(tactic| first
  | ((with_reducible apply made2); (focus with_reducible assumption); (focus with_reducible assumption); with_reducible assumption)
  | ((with_reducible apply same_up); (focus with_reducible assumption); with_reducible assumption))
local macro_rules | `(tactic| walk_at "f") => `(tactic| first
  | ((with_reducible apply Num.long); walk_at "f")
  | ((with_reducible apply ratu_back); (focus walk_at "arr"); walk_at "f")
  | ((with_reducible apply ratu_frm); (focus with_reducible assumption); (focus walk_at "f"); walk_at "f")
  | ((with_reducible apply rat_back); (focus walk_at "arr"); walk_at "f")
  | ((with_reducible apply rat_frm); (focus with_reducible assumption); (focus walk_at "f"); walk_at "f")
  | ((with_reducible apply ratb_u); (focus walk_at "f"); with_reducible assumption)
  | ((with_reducible apply ratb_at); (focus walk_at "f"); with_reducible assumption)
  | ((with_reducible apply ratb_back); (focus walk_at "arr"); walk_at "f")
  | ((with_reducible apply ratb_frm); (focus with_reducible assumption); (focus walk_at "f"); walk_at "f")
  | ((with_reducible apply Rn.rat); walk_at "f")
  | ((with_reducible apply Rn.int); with_reducible assumption)
  | ((with_reducible apply rat_raw); walk_at "f")
  | ((with_reducible apply ratb_raw); walk_at "f"))
local macro_rules | `(tactic| walk_at "f") => `(tactic| first
  | ((apply ty_rat); (focus assumption); walk_at "f")
  | ((apply ty_ratb); (focus assumption); walk_at "f")
  | exact nf_self
  | exact TyX.base (.int _)
  | ((with_reducible apply Pay.two); (focus with_reducible assumption); (focus with_reducible assumption); (focus (first | with_reducible assumption | decide)); (first | with_reducible assumption | rfl))
  | ((with_reducible apply nf_K); (focus with_reducible assumption); rfl)
  | exact bt_lit (by decide +kernel))
local macro_rules | `(tactic| walk_at "one") => `(tactic| ((apply Or.inl); (apply Exists.intro); (apply Exists.intro); (apply And.intro); (focus exact rfl)))
def sp__law_by_steps : Sp := fun vs H Q _ => ∃ (a b : Int), vs = [.int a, .int b] ∧ 0 < b ∧ Bt 900 a ∧ Bt 900 b ∧ ∀ t H', H t = none → Same H H' → H' t = some (.tup [.int (Rat.divInt (TT a b) (12 * b)).num, .int ((Rat.divInt (TT a b) (12 * b)).den : Int)]) → Q (.ref t) H'
end
end Tk

set_option maxHeartbeats 2000000
namespace Tk
open PySem PySem.Spec PyProof.Rows L2 Tc
section
variable {P : Program} {w : World} {K : PySem.W.Frag} {mg : Str → Option Value} {base : Heap} {A : Ad}
open Tm
local macro_rules | `(tactic| walk_at "arr") => `(tactic| first
  | with_reducible assumption
  | ((with_reducible apply same_new); with_reducible assumption))
local macro_rules | `(tactic| walk_at "f") => `(tactic| first
  | with_reducible assumption
  | with_reducible exact upd_same
  | with_reducible exact Same.refl _
  | with_reducible exact Frm.refl
  | ((with_reducible apply sqL_K); (focus with_reducible assumption); rfl)
  | ((with_reducible apply sqT_K); (focus with_reducible assumption); rfl)
  | ((with_reducible apply SqT.of); walk_at "f")
  | ((with_reducible apply SqL.of); walk_at "f")
  | ((with_reducible apply back_raw); (focus walk_at "arr"); walk_at "f")
  | ((with_reducible apply frm_tup); (focus with_reducible assumption); (focus walk_at "f"); (focus walk_at "f"); (focus (intro _ z; cases z; done)))
  | ((with_reducible apply frm_raw); (focus with_reducible assumption); (focus walk_at "f"); walk_at "f")
  | ((with_reducible apply bowl_back); (focus walk_at "arr"); walk_at "f")
  | ((with_reducible apply bowl_ne); (focus with_reducible assumption); walk_at "f")
  | ((with_reducible apply Num.int); with_reducible assumption)
  | ((with_reducible apply same_snoc); (focus walk_at "arr"); walk_at "f")
  | ((with_reducible apply frm_back); (focus walk_at "arr"); walk_at "f")
  | ((with_reducible apply frm_backF); (focus with_reducible assumption); walk_at "f")
  | ((with_reducible apply back_sqT); (focus walk_at "arr"); walk_at "f")
  | ((with_reducible apply same_sqL); (focus walk_at "arr"); walk_at "f")
  | ((with_reducible apply free_same); (focus with_reducible assumption); walk_at "f")
  | ((with_reducible apply free_frm); (focus with_reducible assumption); (focus with_reducible assumption); walk_at "f")
  | ((with_reducible apply frm_sqL); (focus with_reducible assumption); (focus walk_at "f"); walk_at "f"))
local macro_rules | `(tactic| walk_at "bt") => `(tactic| first
  | with_reducible assumption
  | ((with_reducible apply bt_mul); (focus walk_at "bt"); walk_at "bt")
  | ((with_reducible apply bt_add); (focus walk_at "bt"); walk_at "bt")
  | ((with_reducible apply bt_sub); (focus walk_at "bt"); walk_at "bt")
  | ((with_reducible apply bt_neg); walk_at "bt")
  | ((with_reducible apply bt_div); walk_at "bt")
  | ((with_reducible apply bt_mod); (focus (first | assumption | omega)); walk_at "bt")
  | exact bt_lit (n := 64) (by decide)
  | exact bt_lit (n := 200) (by decide +kernel))
local macro_rules | `(tactic| walk_at "lin") => `(tactic| first
  | exact (by decide : 1 ≤ sizeLine) | exact (by decide : 2 ≤ sizeLine) | exact (by decide : 3 ≤ sizeLine) | exact (by decide : 4 ≤ sizeLine) | exact (by decide : 0 ≤ sizeLine) | exact (by decide : 5 ≤ sizeLine) | exact (by decide : 6 ≤ sizeLine))
local macro_rules | `(tactic| walk_at "dp") => `(tactic| first
  | exact Dp.int _
  | exact DpAll.nil
  | ((with_reducible apply Dp.lst); (focus walk_at "f"); walk_at "dp")
  | ((with_reducible apply Dp.tup); (focus walk_at "f"); walk_at "dp")
  | ((with_reducible apply DpAll.cons); (focus walk_at "dp"); walk_at "dp"))
local macro_rules | `(tactic| walk_at "sv") => `(tactic| first
  | with_reducible rfl
  | walk_at "f"
  | exact rfl
  | walk_at "dp"
  | exact shp_lst [_] | exact shp_lst [_, _] | exact shp_lst [_, _, _] | exact shp_lst [_, _, _, _] | exact shp_tup [_, _] | exact shp_tup [_, _, _]
  | ((apply tyV_lst); walk_at "f")
  | ((with_reducible apply bt_mulW); (focus walk_at "bt"); (focus walk_at "bt"); (focus (first | decide | omega)))
  | ((with_reducible apply bt_divW); (focus (first | decide | assumption | omega)); (focus walk_at "bt"); (focus (first | decide | omega)))
  | ((with_reducible apply bt_divP); (focus (first | decide | assumption | omega)); (focus walk_at "bt"); (focus (first | decide | omega)))
  | exact ⟨by decide, by decide +kernel⟩
  | exact Or.inl (by decide)
  | exact Or.inr (by decide)
  | exact Or.inl ⟨by omega, by omega⟩
  | exact Or.inr ⟨by omega, by omega⟩
  | ((with_reducible apply Or.inl); walk_at "sv")
  | ((with_reducible apply Or.inr); walk_at "sv")
  | ((with_reducible apply Exists.intro); walk_at "sv")
  | ((with_reducible apply And.intro); (focus walk_at "sv"); walk_at "sv")
  | walk_at "lin"
  | decide
  | omega
  | (simp only [List.length_cons, List.length_nil, List.length_map]; first | done | omega))
local macro_rules | `(tactic| walk_at "one") => `(tactic| first
  | ((fail_if_success refine' @Exists.intro (Nat → L2.St → Hp → Prop) _ ?_ ?_); (fail_if_success refine' @Exists.intro (Nat → Nat → L2.St → Hp → Prop) _ ?_ ?_); (fail_if_success refine' @Exists.intro (L2.St → Hp → Prop) _ ?_ ?_); (fail_if_success refine' @Exists.intro (Nat → Nat → Hp → Prop) _ ?_ ?_); (fail_if_success refine' @Exists.intro (Hp → Prop) _ ?_ ?_); apply Exists.intro)
  | (apply And.intro; (focus walk_at "sv"))
  | intro _
  | (apply ifT; (focus rfl))
  | (apply ifF; (focus rfl))
  | ((apply Or.inl); (apply Exists.intro); (apply And.intro); (focus exact rfl))
  | ((apply Or.inl); (apply And.intro); (focus walk_at "f"))
  | ((apply Or.inr); (apply Exists.intro); (apply And.intro); (focus exact rfl))
  | (apply ifTd; (focus (first | assumption | omega)))
  | (apply ifFd; (focus (first | assumption | omega))))
local macro_rules | `(tactic| walk_at "go") => `(tactic| repeat walk_at "one")
local macro_rules | `(tactic| walk_at "nm") => `(tactic| try simp only [List.set_cons_zero, List.set_cons_succ])
local macro_rules | `(tactic| walk_at "gon") => `(tactic| repeat (walk_at "one"; walk_at "nm"))

local macro_rules | `(tactic| walk_at "arr") => `(tactic| first
  | ((with_reducible apply made2); (focus with_reducible assumption); (focus with_reducible assumption); with_reducible assumption)
  | ((with_reducible apply same_up); (focus with_reducible assumption); with_reducible assumption))
local macro_rules | `(tactic| walk_at "f") => `(tactic| first
  | ((with_reducible apply Num.long); walk_at "f")
  | ((with_reducible apply ratu_back); (focus walk_at "arr"); walk_at "f")
  | ((with_reducible apply ratu_frm); (focus with_reducible assumption); (focus walk_at "f"); walk_at "f")
  | ((with_reducible apply rat_back); (focus walk_at "arr"); walk_at "f")
  | ((with_reducible apply rat_frm); (focus with_reducible assumption); (focus walk_at "f"); walk_at "f")
  | ((with_reducible apply ratb_u); (focus walk_at "f"); with_reducible assumption)
  | ((with_reducible apply ratb_at); (focus walk_at "f"); with_reducible assumption)
  | ((with_reducible apply ratb_back); (focus walk_at "arr"); walk_at "f")
  | ((with_reducible apply ratb_frm); (focus with_reducible assumption); (focus walk_at "f"); walk_at "f")
  | ((with_reducible apply Rn.rat); walk_at "f")
  | ((with_reducible apply Rn.int); with_reducible assumption)
  | ((with_reducible apply rat_raw); walk_at "f")
  | ((with_reducible apply ratb_raw); walk_at "f"))
local macro_rules | `(tactic| walk_at "f") => `(tactic| first
  | ((apply ty_rat); (focus assumption); walk_at "f")
  | ((apply ty_ratb); (focus assumption); walk_at "f")
  | exact nf_self
  | exact TyX.base (.int _)
  | ((with_reducible apply Pay.two); (focus with_reducible assumption); (focus with_reducible assumption); (focus (first | with_reducible assumption | decide)); (first | with_reducible assumption | rfl))
  | ((with_reducible apply nf_K); (focus with_reducible assumption); rfl)
  | exact bt_lit (by decide +kernel))
local macro_rules | `(tactic| walk_at "one") => `(tactic| ((apply Or.inl); (apply Exists.intro); (apply Exists.intro); (apply And.intro); (focus exact rfl)))
def sp_common_factor (A : Ad) : Sp := fun vs H Q _ => ∃ (u v : V) (a b : Int), vs = [u, v] ∧ Num A H u a ∧ Num A H v b ∧ 1 ≤ b ∧ ∀ H', Same H H' → Q (.int (gc a b)) H'
def sp_are_coprime (A : Ad) : Sp := fun vs H Q _ => ∃ (u v : V) (a b : Int), vs = [u, v] ∧ Num A H u a ∧ Num A H v b ∧ 1 ≤ b ∧ ∀ H', Same H H' → Q (.bl (decide (V.int (gc a b) = V.int 1))) H'
def sp_inverse_of (A : Ad) : Sp := fun vs H Q _ => ∃ (u v : V) (a b : Int), vs = [u, v] ∧ Num A H u a ∧ Num A H v b ∧ 1 ≤ b ∧ Bt 400 b ∧ gc a b = 1 ∧ ∀ x H', 0 ≤ x → x < b → b ∣ (a * x - 1) → Same H H' → Q (.int x) H'
theorem inv_bd {l h one other b : Int} (e : h * one + l * other = b) (h0 : 0 ≤ h) (l0 : 0 ≤ l) (o0 : 0 < other) (p0 : 0 ≤ one) : l ≤ b := by
  have h1 := Int.mul_nonneg h0 p0
  have h2 : l * 1 ≤ l * other := Int.mul_le_mul_of_nonneg_left (by omega) l0
  omega
theorem gc_z {x : Int} (h : 0 ≤ x) : gc x 0 = x := by
  unfold gc
  rw [Int.gcd_zero_right]
  omega
/- what the law's own steps towards an inverse keep -/
structure WI (a b one other low high : Int) : Prop where
  o0 : 0 ≤ one
  p0 : 0 ≤ other
  ob : one ≤ b
  pb : other ≤ b
  g : gc one other = gc a b
  d1 : b ∣ (one - low * a)
  d2 : b ∣ (other - high * a)
  s : ∃ l h : Int, 0 ≤ l ∧ 0 ≤ h ∧ l ≤ b ∧ h ≤ b ∧ h * one + l * other = b ∧ ((low = l ∧ high = -h) ∨ (low = -l ∧ high = h))
theorem WI.start {a b : Int} (hb : 0 < b) : WI a b (a % b) b 1 0 := by
  have m0 := Int.emod_nonneg a (show b ≠ 0 by omega)
  have m1 := Int.emod_lt_of_pos a hb
  refine ⟨m0, by omega, by omega, by omega, gc_mod, ?_, ?_, 1, 0, by omega, by omega, by omega, by omega, by omega, .inl ⟨rfl, rfl⟩⟩
  · refine ⟨-(a / b), ?_⟩
    have := Int.emod_add_mul_ediv a b
    rw [Int.one_mul, Int.mul_neg]
    omega
  · refine ⟨1, ?_⟩
    omega
theorem WI.go {a b one other low high : Int} (w : WI a b one other low high) (hb : 0 < b) (h : 0 < other) : WI a b other (one - one / other * other) high (low - one / other * high) := by
  have e : one - one / other * other = one % other := by
    have := Int.emod_add_mul_ediv one other
    rw [Int.mul_comm] at this
    omega
  have t0 : 0 ≤ one / other := Int.ediv_nonneg w.o0 (by omega)
  have m0 := Int.emod_nonneg one (show other ≠ 0 by omega)
  have m1 := Int.emod_lt_of_pos one h
  obtain ⟨l, hh, l0, h0, lb, hb', e2, sg⟩ := w.s
  have e4 := Int.emod_add_mul_ediv one other
  have pb := w.pb
  have th := Int.mul_nonneg t0 h0
  have e5 : (l + one / other * hh) * other + hh * (one - one / other * other) = b := by
    rw [← e2]
    generalize one / other = t at *
    clear w e2 e4 th sg
    grind
  have hn : l + one / other * hh ≤ b := inv_bd (h := hh) (one := one - one / other * other) (by rw [← e5]; omega) h0 (by omega) h (by omega)
  refine ⟨by omega, by omega, w.pb, by omega, ?_, w.d2, ?_, hh, l + one / other * hh, h0, by omega, hb', hn, e5, ?_⟩
  · rw [e, gc_comm, gc_mod]
    exact w.g
  · obtain ⟨x, hx⟩ := w.d1
    obtain ⟨y, hy⟩ := w.d2
    refine ⟨x - one / other * y, ?_⟩
    rw [Int.mul_sub, ← hx, show b * (one / other * y) = one / other * (b * y) by grind, ← hy]
    generalize one / other = t at *
    clear w e hx hy e2 e4 e5 th sg hn
    grind
  · rcases sg with ⟨z1, z2⟩ | ⟨z1, z2⟩
    · refine .inr ⟨z2, ?_⟩
      rw [z1, z2, Int.mul_neg]
      omega
    · refine .inl ⟨z2, ?_⟩
      rw [z1, z2]
      omega
theorem WI.fin {a b one low high : Int} (w : WI a b one 0 low high) (hb : 0 < b) : one = gc a b ∧ (one = 1 → 0 ≤ low % b ∧ low % b < b ∧ b ∣ (a * (low % b) - 1)) := by
  have g := w.g
  rw [gc_z w.o0] at g
  refine ⟨g, fun h1 => ⟨Int.emod_nonneg _ (by omega), Int.emod_lt_of_pos _ hb, ?_⟩⟩
  obtain ⟨x, hx⟩ := w.d1
  refine ⟨-x - a * (low / b), ?_⟩
  have e := Int.emod_add_mul_ediv low b
  have e2 : low % b = low - b * (low / b) := by omega
  rw [e2]
  generalize low / b = t at *
  clear w e e2 g
  subst h1
  grind
def sp__law_whole_inverse : Sp := fun vs H Q _ => ∃ (a b : Int), vs = [.int a, .int b] ∧ 0 < b ∧ Bt 900 b ∧ (gc a b = 1 → ∀ x H', 0 ≤ x → x < b → b ∣ (a * x - 1) → Same H H' → Q (.int x) H') ∧ (gc a b ≠ 1 → ∀ H', Same H H' → Q .non H')
def sp__law_exchange : Sp := fun vs H Q _ => ∃ (a b : Int), vs = [.int a, .int b] ∧ 0 < a ∧ 0 < b ∧ Bt 900 a ∧ Bt 900 b ∧ ∀ t H', H t = none → Same H H' → H' t = some (.tup [.int (Rat.divInt (a * a + b * b + 1 - 3 * a * b) (12 * a * b)).num, .int ((Rat.divInt (a * a + b * b + 1 - 3 * a * b) (12 * a * b)).den : Int)]) → Q (.ref t) H'
end
end Tk

set_option maxHeartbeats 2000000
namespace Tk
open PySem PySem.Spec PyProof.Rows L2 Tc
section
variable {P : Program} {w : World} {K : PySem.W.Frag} {mg : Str → Option Value} {base : Heap} {A : Ad}
open Tm
local macro_rules | `(tactic| walk_at "arr") => `(tactic| first
  | with_reducible assumption
  | ((with_reducible apply same_new); with_reducible assumption))
local macro_rules | `(tactic| walk_at "f") => `(tactic| first
  | with_reducible assumption
  | with_reducible exact upd_same
  | with_reducible exact Same.refl _
  | with_reducible exact Frm.refl
  | ((with_reducible apply sqL_K); (focus with_reducible assumption); rfl)
  | ((with_reducible apply sqT_K); (focus with_reducible assumption); rfl)
  | ((with_reducible apply SqT.of); walk_at "f")
  | ((with_reducible apply SqL.of); walk_at "f")
  | ((with_reducible apply back_raw); (focus walk_at "arr"); walk_at "f")
  | ((with_reducible apply frm_tup); (focus with_reducible assumption); (focus walk_at "f"); (focus walk_at "f"); (focus (intro _ z; cases z; done)))
  | ((with_reducible apply frm_raw); (focus with_reducible assumption); (focus walk_at "f"); walk_at "f")
  | ((with_reducible apply bowl_back); (focus walk_at "arr"); walk_at "f")
  | ((with_reducible apply bowl_ne); (focus with_reducible assumption); walk_at "f")
  | ((with_reducible apply Num.int); with_reducible assumption)
  | ((with_reducible apply same_snoc); (focus walk_at "arr"); walk_at "f")
  | ((with_reducible apply frm_back); (focus walk_at "arr"); walk_at "f")
  | ((with_reducible apply frm_backF); (focus with_reducible assumption); walk_at "f")
  | ((with_reducible apply back_sqT); (focus walk_at "arr"); walk_at "f")
  | ((with_reducible apply same_sqL); (focus walk_at "arr"); walk_at "f")
  | ((with_reducible apply free_same); (focus with_reducible assumption); walk_at "f")
  | ((with_reducible apply free_frm); (focus with_reducible assumption); (focus with_reducible assumption); walk_at "f")
  | ((with_reducible apply frm_sqL); (focus with_reducible assumption); (focus walk_at "f"); walk_at "f"))
local macro_rules | `(tactic| walk_at "bt") => `(tactic| first
  | with_reducible assumption
  | ((with_reducible apply bt_mul); (focus walk_at "bt"); walk_at "bt")
  | ((with_reducible apply bt_add); (focus walk_at "bt"); walk_at "bt")
  | ((with_reducible apply bt_sub); (focus walk_at "bt"); walk_at "bt")
  | ((with_reducible apply bt_neg); walk_at "bt")
  | ((with_reducible apply bt_div); walk_at "bt")
  | ((with_reducible apply bt_mod); (focus (first | assumption | omega)); walk_at "bt")
  | exact bt_lit (n := 64) (by decide)
  | exact bt_lit (n := 200) (by decide +kernel))
local macro_rules | `(tactic| walk_at "lin") => `(tactic| first
  | exact (by decide : 1 ≤ sizeLine) | exact (by decide : 2 ≤ sizeLine) | exact (by decide : 3 ≤ sizeLine) | exact (by decide : 4 ≤ sizeLine) | exact (by decide : 0 ≤ sizeLine) | exact (by decide : 5 ≤ sizeLine) | exact (by decide : 6 ≤ sizeLine))
local macro_rules | `(tactic| walk_at "dp") => `(tactic| first
  | exact Dp.int _
  | exact DpAll.nil
  | ((with_reducible apply Dp.lst); (focus walk_at "f"); walk_at "dp")
  | ((with_reducible apply Dp.tup); (focus walk_at "f"); walk_at "dp")
  | ((with_reducible apply DpAll.cons); (focus walk_at "dp"); walk_at "dp"))
local macro_rules | `(tactic| walk_at "sv") => `(tactic| first
  | with_reducible rfl
  | walk_at "f"
  | exact rfl
  | walk_at "dp"
  | exact shp_lst [_] | exact shp_lst [_, _] | exact shp_lst [_, _, _] | exact shp_lst [_, _, _, _] | exact shp_tup [_, _] | exact shp_tup [_, _, _]
  | ((apply tyV_lst); walk_at "f")
  | ((with_reducible apply bt_mulW); (focus walk_at "bt"); (focus walk_at "bt"); (focus (first | decide | omega)))
  | ((with_reducible apply bt_divW); (focus (first | decide | assumption | omega)); (focus walk_at "bt"); (focus (first | decide | omega)))
  | ((with_reducible apply bt_divP); (focus (first | decide | assumption | omega)); (focus walk_at "bt"); (focus (first | decide | omega)))
  | exact ⟨by decide, by decide +kernel⟩
  | exact Or.inl (by decide)
  | exact Or.inr (by decide)
  | exact Or.inl ⟨by omega, by omega⟩
  | exact Or.inr ⟨by omega, by omega⟩
  | ((with_reducible apply Or.inl); walk_at "sv")
  | ((with_reducible apply Or.inr); walk_at "sv")
  | ((with_reducible apply Exists.intro); walk_at "sv")
  | ((with_reducible apply And.intro); (focus walk_at "sv"); walk_at "sv")
  | walk_at "lin"
  | decide
  | omega
  | (simp only [List.length_cons, List.length_nil, List.length_map]; first | done | omega))
local macro_rules | `(tactic| walk_at "one") => `(tactic| first
  | ((fail_if_success refine' @Exists.intro (Nat → L2.St → Hp → Prop) _ ?_ ?_); (fail_if_success refine' @Exists.intro (Nat → Nat → L2.St → Hp → Prop) _ ?_ ?_); (fail_if_success refine' @Exists.intro (L2.St → Hp → Prop) _ ?_ ?_); (fail_if_success refine' @Exists.intro (Nat → Nat → Hp → Prop) _ ?_ ?_); (fail_if_success refine' @Exists.intro (Hp → Prop) _ ?_ ?_); apply Exists.intro)
  | (apply And.intro; (focus walk_at "sv"))
  | intro _
  | (apply ifT; (focus rfl))
  | (apply ifF; (focus rfl))
  | ((apply Or.inl); (apply Exists.intro); (apply And.intro); (focus exact rfl))
  | ((apply Or.inl); (apply And.intro); (focus walk_at "f"))
  | ((apply Or.inr); (apply Exists.intro); (apply And.intro); (focus exact rfl))
  | (apply ifTd; (focus (first | assumption | omega)))
  | (apply ifFd; (focus (first | assumption | omega))))
local macro_rules | `(tactic| walk_at "go") => `(tactic| repeat walk_at "one")
local macro_rules | `(tactic| walk_at "nm") => `(tactic| try simp only [List.set_cons_zero, List.set_cons_succ])
local macro_rules | `(tactic| walk_at "gon") => `(tactic| repeat (walk_at "one"; walk_at "nm"))

local macro_rules | `(tactic| walk_at "arr") => `(tactic| first
  | ((with_reducible apply made2); (focus with_reducible assumption); (focus with_reducible assumption); with_reducible assumption)
  | ((with_reducible apply same_up); (focus with_reducible assumption); with_reducible assumption))
local macro_rules | `(tactic| walk_at "f") => `(tactic| first
  | ((with_reducible apply Num.long); walk_at "f")
  | ((with_reducible apply ratu_back); (focus walk_at "arr"); walk_at "f")
  | ((with_reducible apply ratu_frm); (focus with_reducible assumption); (focus walk_at "f"); walk_at "f")
  | ((with_reducible apply rat_back); (focus walk_at "arr"); walk_at "f")
  | ((with_reducible apply rat_frm); (focus with_reducible assumption); (focus walk_at "f"); walk_at "f")
  | ((with_reducible apply ratb_u); (focus with_reducible assumption); with_reducible assumption)
  | ((with_reducible apply ratb_at); (focus with_reducible assumption); with_reducible assumption)
  | ((with_reducible apply ratb_back); (focus walk_at "arr"); walk_at "f")
  | ((with_reducible apply ratb_frm); (focus with_reducible assumption); (focus walk_at "f"); walk_at "f")
  | ((with_reducible apply Rn.rat); walk_at "f")
  | ((with_reducible apply Rn.int); with_reducible assumption)
  | ((with_reducible apply rat_raw); walk_at "f")
  | ((with_reducible apply ratb_raw); walk_at "f"))
local macro_rules | `(tactic| walk_at "f") => `(tactic| first
  | ((apply ty_rat); (focus assumption); walk_at "f")
  | ((apply ty_ratb); (focus assumption); walk_at "f")
  | exact nf_self
  | exact TyX.base (.int _)
  | ((with_reducible apply Pay.two); (focus with_reducible assumption); (focus with_reducible assumption); (focus (first | with_reducible assumption | decide)); (first | with_reducible assumption | rfl))
  | ((with_reducible apply nf_K); (focus with_reducible assumption); rfl)
  | exact bt_lit (by decide +kernel))
local macro_rules | `(tactic| walk_at "one") => `(tactic| ((apply Or.inl); (apply Exists.intro); (apply Exists.intro); (apply And.intro); (focus exact rfl)))
local macro_rules | `(tactic| walk_at "f") => `(tactic| first
  | ((with_reducible apply frT_K); (focus with_reducible assumption); rfl)
  | ((with_reducible apply frt); (focus with_reducible assumption))
  | ((with_reducible apply frt_back); (focus walk_at "arr"); walk_at "f")
  | ((with_reducible apply frt_frm); (focus with_reducible assumption); (focus walk_at "f"); walk_at "f"))
local macro_rules | `(tactic| walk_at "sv") => `(tactic| first
  | ((with_reducible refine lt_line ?_); simp only [List.length_append, List.length_cons, List.length_nil, List.length_map, List.length_replicate, List.length_range]; omega)
  | ((with_reducible refine Nat.le_of_lt (lt_line ?_)); simp only [List.length_append, List.length_cons, List.length_nil, List.length_map, List.length_replicate, List.length_range]; omega))
theorem part_nd {q : Rat} : q.num % (q.den : Int) = (q - (q.floor : Rat)).num ∧ (q.den : Int) = ((q - (q.floor : Rat)).den : Int) := by
  have d0 := den0 q
  have f : q.floor = q.num / (q.den : Int) := Rat.floor_def q
  have e := Int.emod_add_mul_ediv q.num q.den
  have e1 : q - (q.floor : Rat) = Rat.divInt (q.num % q.den) q.den := by
    conv => lhs; rw [q_eq q]
    rw [sub_D d0, ← q_eq q, f]
    congr 1
    rw [Int.mul_comm]
    omega
  have g : Nat.gcd (q.num % (q.den : Int)).natAbs (q.den : Int).natAbs = 1 := by
    have r := q.reduced
    have h := gc_mod (a := q.num) (b := (q.den : Int))
    unfold gc at h
    have h2 : Int.gcd (q.num % (q.den : Int)) (q.den : Int) = Int.gcd q.num q.den := by omega
    exact h2.trans r
  have a1 := gcd_div_num (x := q.num % (q.den : Int)) d0
  have a2 := gcd_div_den (x := q.num % (q.den : Int)) d0
  rw [g] at a1 a2
  rw [e1, ← a1, ← a2]
  constructor
  · exact (Int.ediv_one _).symm
  · exact (Int.ediv_one _).symm
theorem part_rq {k : Nat} {n d : Int} {lo : Bool} {q : Rat} (z : Rq k n d lo q) : Rq k (n % d) d lo (q - (q.floor : Rat)) := by
  have d0 := z.d0
  have m0 := Int.emod_nonneg n (show d ≠ 0 by omega)
  have m1 := Int.emod_lt_of_pos n d0
  have e : Rat.divInt (n % d) d = q - (q.floor : Rat) := by
    have c : (n % d) * (q.den : Int) = (q.num % q.den) * d := mod_cross d0 (den0 q) (by have := crossD (n := n) d0; rw [z.e] at this; exact this)
    have e1 : q - (q.floor : Rat) = Rat.divInt (q.num % q.den) q.den := by
      rw [part_nd.1]
      conv => rhs; arg 2; rw [part_nd.2]
      exact q_eq _
    rw [e1]
    exact (Rat.divInt_eq_divInt_iff (by omega) (by have := den0 q; omega)).mpr c
  refine ⟨d0, e, fun l => ?_, ?_, z.bd⟩
  · obtain ⟨h1, h2⟩ := z.low l
    rw [h1, h2]
    exact ⟨part_nd.1, part_nd.2⟩
  · have := z.bd
    omega
def sp_Ratio_part (A : Ad) : Sp := fun vs H Q _ => ∃ (p : Addr) (q : Rat), vs = [.ref p] ∧ RatB 4000 A.a_Ratio H p q ∧ ∀ p H', Same H H' → RatB 4000 A.a_Ratio H' p (q - (q.floor : Rat)) → Q (.ref p) H'
def sp_terms_of (A : Ad) : Sp := fun vs H Q _ => ∃ (v : V) (kb : Nat) (q : Rat), vs = [v] ∧ Rn A kb H v q ∧ 200 ≤ kb ∧ kb ≤ 4000 ∧ ∀ p n d lo H', H p = none → Same H H' → H' p = some (.tup [.int n, .int d]) → Rq kb n d lo q → Q (.ref p) H'
theorem ok_terms_of (T : Txt K mg A) : FnOk P w K mg base CX0 5 A.f_terms_of A.d_terms_of ["number"] (sp_terms_of A) := by
  refine T.F_terms_of.ok sc_terms_of (fun vs H Q E h => ?_) (fun cdv Ar outer s H vs Q E hr h => ?_)
  · obtain ⟨_, _, _, rfl, _⟩ := h
    rfl
  · obtain ⟨v, kb, q, rfl, hv, hk1, hk2, k⟩ := h
    have hu := hu_of hr
    refine ⟨_, (pss_cons (ps_if (pt_val (pe_callB call_isi (by rfl) T.b_isinstance (by decide +kernel) (pa_cons (pv 0) (pa_cons (pe_glob rfl T.m_Ratio (rel_ref _)) pa_nil))))
        (pss_one (ps_ret (pe_tup (pa_cons (pe_prop (pv 0) T.c_Ratio T.p_Ratio_top (ok_Ratio_top T) (hr.mono (by decide)) T.b_Ratio_top .nil pass0 rfl) (pa_cons (pe_prop (pv 0) T.c_Ratio T.p_Ratio_bottom (ok_Ratio_bottom T) (hr.mono (by decide)) T.b_Ratio_bottom .nil pass0 rfl) pa_nil)))))
        pss_nil)
      (pss_one (ps_ret (pe_call (ok__plain_terms_of T) (hr.mono (by decide)) rfl T.m__plain_terms_of T.F__plain_terms_of.kp T.b__plain_terms_of .nil pass0 (pa_cons (pv 0) pa_nil))))), ?_⟩
    cases hv with
    | @rat p q h =>
      obtain ⟨n, d, lo, ⟨dx, L⟩, r⟩ := id h
      have h4 := h.mono hk2
      refine ⟨_, rfl, _, _, _, _, true, rfl, .own A.a_Ratio, ty_ins L T.c_Ratio T.cl_Ratio T.ob_Ratio T, kit_self, _, rfl, ?_⟩
      refine iteT ?_
      walk_at "go"
      exact k _ _ _ _ _ (by walk_at "f") (by walk_at "f") (by walk_at "f") (Rq.lowest r.sz)
    | @int i h =>
      refine ⟨_, rfl, _, _, _, _, false, rfl, .own A.a_Ratio, .base (.int i), kit_own T.ic_Ratio T.ty_Ratio (by decide +kernel), _, rfl, ?_⟩
      refine iteF ?_
      exact ⟨_, rfl, _, kb, _, rfl, .int h, hk1, fun p n d lo H' np s1 hp r => k p n d lo H' np s1 hp r⟩
def sp_tooth_top : Sp := fun vs H Q _ => ∃ (n d : Int), vs = [.int n, .int d] ∧ 0 < d ∧ Bt 1900 n ∧ Bt 1900 d ∧ Q (.int (tth n d)) H
theorem ok_tooth_top (T : Txt K mg A) : FnOk P w K mg base CX0 1 A.f_tooth_top A.d_tooth_top ["top", "bottom"] sp_tooth_top := by
  refine T.F_tooth_top.ok sc_tooth_top (fun vs H Q E h => ?_) (fun cdv Ar outer s H vs Q E hr h => ?_)
  · obtain ⟨_, _, rfl, _⟩ := h
    rfl
  · obtain ⟨n, d, rfl, d0, bn, bd, k⟩ := h
    have hu := hu_of hr
    refine ⟨_, (pss_cons (ps_set (i := 2) sc_tooth_top.nd rfl (Or.inl rfl) (pe_op op_mod (pv 0) (pv 1)))
      (pss_one (ps_ret (pe_ifExp (pt_truth (pv 2) (fun _ => rfl)) (pe_op op_sub (pe_op op_mul pe_int (pv 2)) (pv 1)) pe_int)))), ?_⟩
    unfold tth at k
    walk_at "go"
    refine ite2 (fun h => ?_) (fun h => ?_)
    · rw [if_neg (by simpa using h)] at k
      walk_at "go"
      exact k
    · rw [if_pos (by simpa using h)] at k
      walk_at "go"
      exact k
def sp_bend_top : Sp := fun vs H Q _ => ∃ (n d : Int), vs = [.int n, .int d] ∧ 0 < d ∧ Bt 1900 n ∧ Bt 1900 d ∧ Q (.int (bnd n d)) H
def sp_tooth (A : Ad) : Sp := fun vs H Q _ => ∃ (v : V) (q : Rat), vs = [v] ∧ Rn A 900 H v q ∧ ∀ p H', Same H H' → RatAt A.a_Ratio H' p (Th q) → Q (.ref p) H'
theorem ok_tooth (T : Txt K mg A) : FnOk P w K mg base CX0 9 A.f_tooth A.d_tooth ["number"] (sp_tooth A) := by
  refine T.F_tooth.ok sc_tooth (fun vs H Q E h => ?_) (fun cdv Ar outer s H vs Q E hr h => ?_)
  · obtain ⟨_, _, rfl, _⟩ := h
    rfl
  · obtain ⟨v, q, rfl, hv, k⟩ := h
    have hu := hu_of hr
    refine ⟨_, (pss_cons (ps_asg (pe_call (ok_terms_of T) (hr.mono (by decide)) rfl T.m_terms_of T.F_terms_of.kp T.b_terms_of .nil pass0 (pa_cons (pv 0) pa_nil)) (pg_tup rfl (pgs_cons (pg_name (i := 1) sc_tooth.nd rfl (Or.inl rfl)) (pgs_cons (pg_name (i := 2) sc_tooth.nd rfl (Or.inl rfl)) pgs_nil))))
      (pss_one (ps_ret (pe_call (ok_ratio_of T) (hr.mono (by decide)) rfl T.m_ratio_of T.F_ratio_of.kp T.b_ratio_of .nil pass0 (pa_cons (pe_call (ok_tooth_top T) (hr.mono (by decide)) rfl T.m_tooth_top T.F_tooth_top.kp T.b_tooth_top .nil pass0 (pa_cons (pv 1) (pa_cons (pv 2) pa_nil))) (pa_cons (pe_op op_mul pe_int (pv 2)) pa_nil)))))), ?_⟩
    walk_at "go"
    rename_i t n d lo H1 nt s1 ht r
    have d0 := r.d0
    have bn : Bt 1900 n := Bt.mono (show Bt 900 n from r.bn) (by decide)
    have bd : Bt 1900 d := Bt.mono (show Bt 900 d from r.bd) (by decide)
    have b2 : (2 * d).natAbs < 2 ^ 8000 := Bt.mono (bt_mul (bt_lit (n := 64) (by decide)) bd) (by decide)
    have b0 : 2 * d ≠ 0 := by omega
    have e : Rat.divInt (tth n d) (2 * d) = Th q := by rw [← Th_mk d0, r.e]
    rw [← e] at k
    walk_at "go"
    exact k _ _ (by walk_at "f") (by walk_at "f")
def sp_bend (A : Ad) : Sp := fun vs H Q _ => ∃ (v : V) (q : Rat), vs = [v] ∧ Rn A 900 H v q ∧ ∀ p H', Same H H' → RatAt A.a_Ratio H' p (Bd q) → Q (.ref p) H'
theorem bt_tth {n d : Int} {k : Nat} (d0 : 0 < d) (bd : Bt k d) : Bt (k + 2) (tth n d) := by
  have m0 := Int.emod_nonneg n (show d ≠ 0 by omega)
  have m1 := Int.emod_lt_of_pos n d0
  have h : d.natAbs < 2 ^ k := bd
  have h2 : (tth n d).natAbs ≤ d.natAbs := by
    unfold tth
    split <;> omega
  exact Nat.lt_of_le_of_lt h2 (Nat.lt_of_lt_of_le h (Nat.pow_le_pow_right (by decide) (by omega)))
def sp__product (A : Ad) : Sp := fun vs H Q _ => ∃ (x y d : Int), vs = [.int x, .int y, .int d] ∧ 0 < d ∧ Bt 1900 x ∧ Bt 1900 y ∧ Bt 900 d ∧ ∀ p H', Same H H' → RatAt A.a_Ratio H' p (Rat.divInt (tth x d * tth y d) (4 * d * d)) → Q (.ref p) H'
end
end Tk

set_option maxHeartbeats 2000000
namespace Tk
open PySem PySem.Spec PyProof.Rows L2 Tc
section
variable {P : Program} {w : World} {K : PySem.W.Frag} {mg : Str → Option Value} {base : Heap} {A : Ad}
open Tm
local macro_rules | `(tactic| walk_at "arr") => `(tactic| first
  | with_reducible assumption
  | ((with_reducible apply same_new); with_reducible assumption))
local macro_rules | `(tactic| walk_at "f") => `(tactic| first
  | with_reducible assumption
  | with_reducible exact upd_same
  | with_reducible exact Same.refl _
  | with_reducible exact Frm.refl
  | ((with_reducible apply sqL_K); (focus with_reducible assumption); rfl)
  | ((with_reducible apply sqT_K); (focus with_reducible assumption); rfl)
  | ((with_reducible apply SqT.of); walk_at "f")
  | ((with_reducible apply SqL.of); walk_at "f")
  | ((with_reducible apply back_raw); (focus walk_at "arr"); walk_at "f")
  | ((with_reducible apply frm_tup); (focus with_reducible assumption); (focus walk_at "f"); (focus walk_at "f"); (focus (intro _ z; cases z; done)))
  | ((with_reducible apply frm_raw); (focus with_reducible assumption); (focus walk_at "f"); walk_at "f")
  | ((with_reducible apply bowl_back); (focus walk_at "arr"); walk_at "f")
  | ((with_reducible apply bowl_ne); (focus with_reducible assumption); walk_at "f")
  | ((with_reducible apply Num.int); with_reducible assumption)
  | ((with_reducible apply same_snoc); (focus walk_at "arr"); walk_at "f")
  | ((with_reducible apply frm_back); (focus walk_at "arr"); walk_at "f")
  | ((with_reducible apply frm_backF); (focus with_reducible assumption); walk_at "f")
  | ((with_reducible apply back_sqT); (focus walk_at "arr"); walk_at "f")
  | ((with_reducible apply same_sqL); (focus walk_at "arr"); walk_at "f")
  | ((with_reducible apply free_same); (focus with_reducible assumption); walk_at "f")
  | ((with_reducible apply free_frm); (focus with_reducible assumption); (focus with_reducible assumption); walk_at "f")
  | ((with_reducible apply frm_sqL); (focus with_reducible assumption); (focus walk_at "f"); walk_at "f"))
local macro_rules | `(tactic| walk_at "bt") => `(tactic| first
  | with_reducible assumption
  | ((with_reducible apply bt_mul); (focus walk_at "bt"); walk_at "bt")
  | ((with_reducible apply bt_add); (focus walk_at "bt"); walk_at "bt")
  | ((with_reducible apply bt_sub); (focus walk_at "bt"); walk_at "bt")
  | ((with_reducible apply bt_neg); walk_at "bt")
  | ((with_reducible apply bt_div); walk_at "bt")
  | ((with_reducible apply bt_mod); (focus (first | assumption | omega)); walk_at "bt")
  | exact bt_lit (n := 64) (by decide)
  | exact bt_lit (n := 200) (by decide +kernel))
local macro_rules | `(tactic| walk_at "lin") => `(tactic| first
  | exact (by decide : 1 ≤ sizeLine) | exact (by decide : 2 ≤ sizeLine) | exact (by decide : 3 ≤ sizeLine) | exact (by decide : 4 ≤ sizeLine) | exact (by decide : 0 ≤ sizeLine) | exact (by decide : 5 ≤ sizeLine) | exact (by decide : 6 ≤ sizeLine))
local macro_rules | `(tactic| walk_at "dp") => `(tactic| first
  | exact Dp.int _
  | exact DpAll.nil
  | ((with_reducible apply Dp.lst); (focus walk_at "f"); walk_at "dp")
  | ((with_reducible apply Dp.tup); (focus walk_at "f"); walk_at "dp")
  | ((with_reducible apply DpAll.cons); (focus walk_at "dp"); walk_at "dp"))
local macro_rules | `(tactic| walk_at "sv") => `(tactic| first
  | with_reducible rfl
  | walk_at "f"
  | exact rfl
  | walk_at "dp"
  | exact shp_lst [_] | exact shp_lst [_, _] | exact shp_lst [_, _, _] | exact shp_lst [_, _, _, _] | exact shp_tup [_, _] | exact shp_tup [_, _, _]
  | ((apply tyV_lst); walk_at "f")
  | ((with_reducible apply bt_mulW); (focus walk_at "bt"); (focus walk_at "bt"); (focus (first | decide | omega)))
  | ((with_reducible apply bt_divW); (focus (first | decide | assumption | omega)); (focus walk_at "bt"); (focus (first | decide | omega)))
  | ((with_reducible apply bt_divP); (focus (first | decide | assumption | omega)); (focus walk_at "bt"); (focus (first | decide | omega)))
  | exact ⟨by decide, by decide +kernel⟩
  | exact Or.inl (by decide)
  | exact Or.inr (by decide)
  | exact Or.inl ⟨by omega, by omega⟩
  | exact Or.inr ⟨by omega, by omega⟩
  | ((with_reducible apply Or.inl); walk_at "sv")
  | ((with_reducible apply Or.inr); walk_at "sv")
  | ((with_reducible apply Exists.intro); walk_at "sv")
  | ((with_reducible apply And.intro); (focus walk_at "sv"); walk_at "sv")
  | walk_at "lin"
  | decide
  | omega
  | (simp only [List.length_cons, List.length_nil, List.length_map]; first | done | omega))
local macro_rules | `(tactic| walk_at "one") => `(tactic| first
  | ((fail_if_success refine' @Exists.intro (Nat → L2.St → Hp → Prop) _ ?_ ?_); (fail_if_success refine' @Exists.intro (Nat → Nat → L2.St → Hp → Prop) _ ?_ ?_); (fail_if_success refine' @Exists.intro (L2.St → Hp → Prop) _ ?_ ?_); (fail_if_success refine' @Exists.intro (Nat → Nat → Hp → Prop) _ ?_ ?_); (fail_if_success refine' @Exists.intro (Hp → Prop) _ ?_ ?_); apply Exists.intro)
  | (apply And.intro; (focus walk_at "sv"))
  | intro _
  | (apply ifT; (focus rfl))
  | (apply ifF; (focus rfl))
  | ((apply Or.inl); (apply Exists.intro); (apply And.intro); (focus exact rfl))
  | ((apply Or.inl); (apply And.intro); (focus walk_at "f"))
  | ((apply Or.inr); (apply Exists.intro); (apply And.intro); (focus exact rfl))
  | (apply ifTd; (focus (first | assumption | omega)))
  | (apply ifFd; (focus (first | assumption | omega))))
local macro_rules | `(tactic| walk_at "go") => `(tactic| repeat walk_at "one")
local macro_rules | `(tactic| walk_at "nm") => `(tactic| try simp only [List.set_cons_zero, List.set_cons_succ])
local macro_rules | `(tactic| walk_at "gon") => `(tactic| repeat (walk_at "one"; walk_at "nm"))
theorem z_Th {q : Rat} {k : Nat} (z : Rsz k q) {m : Nat} (h : k + 64 ≤ m) : Rsz m (Th q) := by
  have d0 := den0 q
  have bd := z.bt.2
  exact divInt_small (by omega) (Bt.mono (bt_tth d0 bd) (by omega)) (Bt.mono (bt_mul (bt_lit (n := 64) (by decide)) bd) (by omega))
theorem rat_nocmpE {n d : Int} {lo : Bool} : List.lookup (Str.ofString "compare") (ratL n d lo) = none := (lk_past (by decide +kernel)).trans ((lk_past (by decide +kernel)).trans (lk_past (by decide +kernel)))
theorem ratb_nocmpE {k : Nat} {C : Addr} {H : Hp} {p : Addr} {q : Rat} (L : RatB k C H p q) : List.lookup (Str.ofString "compare") (fsOf H p) = none := by
  obtain ⟨n, d, lo, ⟨dx, h⟩, _⟩ := L
  unfold fsOf
  rw [h]
  exact rat_nocmpE
theorem rat_over_no {n d : Int} {lo : Bool} : List.lookup (Str.ofString "over") (ratL n d lo) = none := (lk_past (by decide +kernel)).trans ((lk_past (by decide +kernel)).trans (lk_past (by decide +kernel)))
theorem ratb_nover {k : Nat} {C : Addr} {H : Hp} {p : Addr} {q : Rat} (L : RatB k C H p q) : List.lookup (Str.ofString "over") (fsOf H p) = none := by
  obtain ⟨n, d, lo, ⟨dx, h⟩, _⟩ := L
  unfold fsOf
  rw [h]
  exact rat_over_no
theorem sh0 : Short 0 := ⟨by decide, by decide⟩
theorem sh1 : Short 1 := ⟨by decide, by decide⟩
theorem shm1 : Short (-1) := ⟨by decide, by decide⟩
theorem sh2 : Short 2 := ⟨by decide, by decide⟩
theorem sh6 : Short 6 := ⟨by decide, by decide⟩
theorem sh12 : Short 12 := ⟨by decide, by decide⟩
local macro_rules | `(tactic| walk_at "arr") => `(tactic| first
  | ((with_reducible apply made2); (focus with_reducible assumption); (focus with_reducible assumption); with_reducible assumption)
  | ((with_reducible apply same_up); (focus with_reducible assumption); with_reducible assumption))
local macro_rules | `(tactic| walk_at "f") => `(tactic| first
  | ((with_reducible apply Num.long); walk_at "f")
  | ((with_reducible apply ratu_back); (focus walk_at "arr"); walk_at "f")
  | ((with_reducible apply ratu_frm); (focus with_reducible assumption); (focus walk_at "f"); walk_at "f")
  | ((with_reducible apply rat_back); (focus walk_at "arr"); walk_at "f")
  | ((with_reducible apply rat_frm); (focus with_reducible assumption); (focus walk_at "f"); walk_at "f")
  | ((with_reducible apply ratb_u); (focus with_reducible assumption); with_reducible assumption)
  | ((with_reducible apply ratb_at); (focus with_reducible assumption); with_reducible assumption)
  | ((with_reducible apply ratb_back); (focus walk_at "arr"); walk_at "f")
  | ((with_reducible apply ratb_frm); (focus with_reducible assumption); (focus walk_at "f"); walk_at "f")
  | ((with_reducible apply Rn.rat); walk_at "f")
  | ((with_reducible apply Rn.int); with_reducible assumption)
  | ((with_reducible apply rat_raw); walk_at "f")
  | ((with_reducible apply ratb_raw); walk_at "f"))
local macro_rules | `(tactic| walk_at "f") => `(tactic| first
  | ((apply ty_rat); (focus assumption); walk_at "f")
  | ((apply ty_ratb); (focus assumption); walk_at "f")
  | exact nf_self
  | exact TyX.base (.int _)
  | ((with_reducible apply Pay.two); (focus with_reducible assumption); (focus with_reducible assumption); (focus (first | with_reducible assumption | decide)); (first | with_reducible assumption | rfl))
  | ((with_reducible apply nf_K); (focus with_reducible assumption); rfl)
  | exact bt_lit (by decide +kernel))
local macro_rules | `(tactic| walk_at "one") => `(tactic| ((apply Or.inl); (apply Exists.intro); (apply Exists.intro); (apply And.intro); (focus exact rfl)))
local macro_rules | `(tactic| walk_at "f") => `(tactic| first
  | ((with_reducible apply frT_K); (focus with_reducible assumption); rfl)
  | ((with_reducible apply frt); (focus with_reducible assumption))
  | ((with_reducible apply frt_back); (focus walk_at "arr"); walk_at "f")
  | ((with_reducible apply frt_frm); (focus with_reducible assumption); (focus walk_at "f"); walk_at "f"))
local macro_rules | `(tactic| walk_at "sv") => `(tactic| first
  | ((with_reducible refine lt_line ?_); simp only [List.length_append, List.length_cons, List.length_nil, List.length_map, List.length_replicate, List.length_range]; omega)
  | ((with_reducible refine Nat.le_of_lt (lt_line ?_)); simp only [List.length_append, List.length_cons, List.length_nil, List.length_map, List.length_replicate, List.length_range]; omega))
local macro_rules | `(tactic| walk_at "f") => `(tactic| first
  | (with_reducible apply ratb_nocmpE (k := 4000); walk_at "f")
  | (with_reducible apply ratb_nover (k := 4000); walk_at "f")
  | with_reducible exact sh0
  | with_reducible exact sh1
  | with_reducible exact shm1
  | with_reducible exact sh2
  | with_reducible exact sh6
  | with_reducible exact sh12)
def sp__law_number_right (A : Ad) : Sp := fun vs H Q _ => ∃ (c : Addr), vs = [.ref c] ∧ Bowl H c ∧ ∀ H', Frm c H H' → Bowl H' c → Q (.bl true) H'
end
end Tk

set_option maxHeartbeats 2000000
namespace Tk
open PySem PySem.Spec PyProof.Rows L2 Tc
section
variable {P : Program} {w : World} {K : PySem.W.Frag} {mg : Str → Option Value} {base : Heap} {A : Ad}
open Tm
local macro_rules | `(tactic| walk_at "arr") => `(tactic| first
  | with_reducible assumption
  | ((with_reducible apply same_new); with_reducible assumption))
local macro_rules | `(tactic| walk_at "f") => `(tactic| first
  | with_reducible assumption
  | with_reducible exact upd_same
  | with_reducible exact Same.refl _
  | with_reducible exact Frm.refl
  | ((with_reducible apply sqL_K); (focus with_reducible assumption); rfl)
  | ((with_reducible apply sqT_K); (focus with_reducible assumption); rfl)
  | ((with_reducible apply SqT.of); walk_at "f")
  | ((with_reducible apply SqL.of); walk_at "f")
  | ((with_reducible apply back_raw); (focus walk_at "arr"); walk_at "f")
  | ((with_reducible apply frm_tup); (focus with_reducible assumption); (focus walk_at "f"); (focus walk_at "f"); (focus (intro _ z; cases z; done)))
  | ((with_reducible apply frm_raw); (focus with_reducible assumption); (focus walk_at "f"); walk_at "f")
  | ((with_reducible apply bowl_back); (focus walk_at "arr"); walk_at "f")
  | ((with_reducible apply bowl_ne); (focus with_reducible assumption); walk_at "f")
  | ((with_reducible apply Num.int); with_reducible assumption)
  | ((with_reducible apply same_snoc); (focus walk_at "arr"); walk_at "f")
  | ((with_reducible apply frm_back); (focus walk_at "arr"); walk_at "f")
  | ((with_reducible apply frm_backF); (focus with_reducible assumption); walk_at "f")
  | ((with_reducible apply back_sqT); (focus walk_at "arr"); walk_at "f")
  | ((with_reducible apply same_sqL); (focus walk_at "arr"); walk_at "f")
  | ((with_reducible apply free_same); (focus with_reducible assumption); walk_at "f")
  | ((with_reducible apply free_frm); (focus with_reducible assumption); (focus with_reducible assumption); walk_at "f")
  | ((with_reducible apply frm_sqL); (focus with_reducible assumption); (focus walk_at "f"); walk_at "f"))
local macro_rules | `(tactic| walk_at "bt") => `(tactic| first
  | with_reducible assumption
  | ((with_reducible apply bt_mul); (focus walk_at "bt"); walk_at "bt")
  | ((with_reducible apply bt_add); (focus walk_at "bt"); walk_at "bt")
  | ((with_reducible apply bt_sub); (focus walk_at "bt"); walk_at "bt")
  | ((with_reducible apply bt_neg); walk_at "bt")
  | ((with_reducible apply bt_div); walk_at "bt")
  | ((with_reducible apply bt_mod); (focus (first | assumption | omega)); walk_at "bt")
  | exact bt_lit (n := 64) (by decide)
  | exact bt_lit (n := 200) (by decide +kernel))
local macro_rules | `(tactic| walk_at "lin") => `(tactic| first
  | exact (by decide : 1 ≤ sizeLine) | exact (by decide : 2 ≤ sizeLine) | exact (by decide : 3 ≤ sizeLine) | exact (by decide : 4 ≤ sizeLine) | exact (by decide : 0 ≤ sizeLine) | exact (by decide : 5 ≤ sizeLine) | exact (by decide : 6 ≤ sizeLine))
local macro_rules | `(tactic| walk_at "dp") => `(tactic| first
  | exact Dp.int _
  | exact DpAll.nil
  | ((with_reducible apply Dp.lst); (focus walk_at "f"); walk_at "dp")
  | ((with_reducible apply Dp.tup); (focus walk_at "f"); walk_at "dp")
  | ((with_reducible apply DpAll.cons); (focus walk_at "dp"); walk_at "dp"))
local macro_rules | `(tactic| walk_at "sv") => `(tactic| first
  | with_reducible rfl
  | walk_at "f"
  | exact rfl
  | walk_at "dp"
  | exact shp_lst [_] | exact shp_lst [_, _] | exact shp_lst [_, _, _] | exact shp_lst [_, _, _, _] | exact shp_tup [_, _] | exact shp_tup [_, _, _]
  | ((apply tyV_lst); walk_at "f")
  | ((with_reducible apply bt_mulW); (focus walk_at "bt"); (focus walk_at "bt"); (focus (first | decide | omega)))
  | ((with_reducible apply bt_divW); (focus (first | decide | assumption | omega)); (focus walk_at "bt"); (focus (first | decide | omega)))
  | ((with_reducible apply bt_divP); (focus (first | decide | assumption | omega)); (focus walk_at "bt"); (focus (first | decide | omega)))
  | exact ⟨by decide, by decide +kernel⟩
  | exact Or.inl (by decide)
  | exact Or.inr (by decide)
  | exact Or.inl ⟨by omega, by omega⟩
  | exact Or.inr ⟨by omega, by omega⟩
  | ((with_reducible apply Or.inl); walk_at "sv")
  | ((with_reducible apply Or.inr); walk_at "sv")
  | ((with_reducible apply Exists.intro); walk_at "sv")
  | ((with_reducible apply And.intro); (focus walk_at "sv"); walk_at "sv")
  | walk_at "lin"
  | decide
  | omega
  | (simp only [List.length_cons, List.length_nil, List.length_map]; first | done | omega))
local macro_rules | `(tactic| walk_at "one") => `(tactic| first
  | ((fail_if_success refine' @Exists.intro (Nat → L2.St → Hp → Prop) _ ?_ ?_); (fail_if_success refine' @Exists.intro (Nat → Nat → L2.St → Hp → Prop) _ ?_ ?_); (fail_if_success refine' @Exists.intro (L2.St → Hp → Prop) _ ?_ ?_); (fail_if_success refine' @Exists.intro (Nat → Nat → Hp → Prop) _ ?_ ?_); (fail_if_success refine' @Exists.intro (Hp → Prop) _ ?_ ?_); apply Exists.intro)
  | (apply And.intro; (focus walk_at "sv"))
  | intro _
  | (apply ifT; (focus rfl))
  | (apply ifF; (focus rfl))
  | ((apply Or.inl); (apply Exists.intro); (apply And.intro); (focus exact rfl))
  | ((apply Or.inl); (apply And.intro); (focus walk_at "f"))
  | ((apply Or.inr); (apply Exists.intro); (apply And.intro); (focus exact rfl))
  | (apply ifTd; (focus (first | assumption | omega)))
  | (apply ifFd; (focus (first | assumption | omega))))
local macro_rules | `(tactic| walk_at "go") => `(tactic| repeat walk_at "one")
local macro_rules | `(tactic| walk_at "nm") => `(tactic| try simp only [List.set_cons_zero, List.set_cons_succ])
local macro_rules | `(tactic| walk_at "gon") => `(tactic| repeat (walk_at "one"; walk_at "nm"))
def sp_points_up_to : Sp := fun vs H Q _ => ∃ (a b n : Int), vs = [.int a, .int b, .int n] ∧ 0 < a ∧ 0 < b ∧ Bt 398 a ∧ Bt 398 b ∧ Bt 398 n ∧ ∀ H', Same H H' → Q (.int (Tri a b n)) H'
theorem ok_points_up_to (T : Txt K mg A) : FnOk P w K mg base CX0 2 A.f_points_up_to A.d_points_up_to ["a", "b", "limit"] sp_points_up_to := by
  refine T.F_points_up_to.ok sc_points_up_to (fun vs H Q E h => ?_) (fun cdv Ar outer s H vs Q E hr h => ?_)
  · obtain ⟨_, _, _, rfl, _⟩ := h
    rfl
  · obtain ⟨a, b, n, rfl, a0, b0, ba, bb, bn, k⟩ := h
    have hu := hu_of hr
    refine ⟨_, (pss_cons (ps_if (pt_cmpR op_lt (pv 2) pe_int (nomark _))
        (pss_one (ps_ret pe_int))
        pss_nil)
      (pss_cons (ps_par (i := 3) (j := 4) (by rfl) sc_points_up_to.nd rfl rfl (by decide) rfl rfl (pa_cons (pe_op op_add (pe_op op_fdivW (pv 2) (pv 1)) pe_int) (pa_cons (pe_op op_mod (pv 2) (pv 1)) pa_nil)) (by rfl))
      (pss_one (ps_ret (pe_op op_add (pv 3) (pe_call (ok_floor_total T) (hr.mono (by decide)) rfl T.m_floor_total T.F_floor_total.kp T.b_floor_total .nil pass0 (pa_cons (pv 3) (pa_cons (pv 1) (pa_cons (pv 4) (pa_cons (pv 0) pa_nil)))))))))), ?_⟩
    have ba4 := ba.mono (show 398 ≤ 400 by decide)
    have bb4 := bb.mono (show 398 ≤ 400 by decide)
    have m0 := Int.emod_nonneg n (show b ≠ 0 by omega)
    have bm : Bt 400 (n % b) := (bt_mod b0 bb).mono (by decide)
    have br : Bt 400 (n / b + 1) := Bt.mono (bt_addm (bt_div bn) (bt_lit (n := 399) (by decide +kernel))) (by decide)
    by_cases h : n < 0
    · rw [PT_neg h] at k
      walk_at "go"
      exact k _ (by walk_at "f")
    · have q0 : 0 ≤ n / b := Int.ediv_nonneg (by omega) (by omega)
      have r0 : 0 ≤ n / b + 1 := by omega
      unfold Tri at k
      rw [if_neg h] at k
      walk_at "go"
      exact k _ (by walk_at "f")
def sp__checked_triangle (A : Ad) : Sp := fun vs H Q _ => ∃ (u v x : V) (a b n : Int), vs = [u, v, x] ∧ Num A H u a ∧ Num A H v b ∧ Num A H x n ∧ 1 ≤ a ∧ 1 ≤ b ∧ ∀ p H', Same H H' → H' p = some (.tup [.int a, .int b, .int n]) → Q (.ref p) H'
theorem ok__checked_triangle (T : Txt K mg A) : FnOk P w K mg base CX0 6 A.f__checked_triangle A.d__checked_triangle ["a", "b", "limit"] (sp__checked_triangle A) := by
  refine T.F__checked_triangle.ok sc__checked_triangle (fun vs H Q E h => ?_) (fun cdv Ar outer s H vs Q E hr h => ?_)
  · obtain ⟨_, _, _, _, _, _, rfl, _⟩ := h
    rfl
  · obtain ⟨_, _, _, a, b, n, rfl, h1, h2, h3, h4, h5, k⟩ := h
    have hu := hu_of hr
    refine ⟨_, (pss_one (ps_ret (pe_tup (pa_cons (pe_call (ok_checked_from T) (hr.mono (by decide)) rfl T.m_checked_from T.F_checked_from.kp T.b_checked_from .nil pass0 (pa_cons pe_int (pa_cons (pv 0) pa_nil))) (pa_cons (pe_call (ok_checked_from T) (hr.mono (by decide)) rfl T.m_checked_from T.F_checked_from.kp T.b_checked_from .nil pass0 (pa_cons pe_int (pa_cons (pv 1) pa_nil))) (pa_cons (pe_call (ok_checked_integer T) (hr.mono (by decide)) rfl T.m_checked_integer T.F_checked_integer.kp T.b_checked_integer .nil pass0 (pa_cons (pv 2) pa_nil)) pa_nil)))))), ?_⟩
    walk_at "go"
    exact k _ _ (by walk_at "f") (by walk_at "f")
def sp_triangle_points (A : Ad) : Sp := fun vs H Q _ => ∃ (u v x : V) (a b n : Int), vs = [u, v, x] ∧ Num A H u a ∧ Num A H v b ∧ Num A H x n ∧ 1 ≤ a ∧ 1 ≤ b ∧ Bt 398 a ∧ Bt 398 b ∧ Bt 398 n ∧ ∀ H', Same H H' → Q (.int (Tri a b n)) H'
theorem ok_triangle_points (T : Txt K mg A) : FnOk P w K mg base CX0 7 A.f_triangle_points A.d_triangle_points ["a", "b", "limit"] (sp_triangle_points A) := by
  refine T.F_triangle_points.ok sc_triangle_points (fun vs H Q E h => ?_) (fun cdv Ar outer s H vs Q E hr h => ?_)
  · obtain ⟨_, _, _, _, _, _, rfl, _⟩ := h
    rfl
  · obtain ⟨_, _, _, a, b, n, rfl, h1, h2, h3, h4, h5, b1, b2, b3, k⟩ := h
    have hu := hu_of hr
    refine ⟨_, (pss_cons (ps_asg (pe_call (ok__checked_triangle T) (hr.mono (by decide)) rfl T.m__checked_triangle T.F__checked_triangle.kp T.b__checked_triangle .nil pass0 (pa_cons (pv 0) (pa_cons (pv 1) (pa_cons (pv 2) pa_nil)))) (pg_tup rfl (pgs_cons (pg_name (i := 3) sc_triangle_points.nd rfl (Or.inl rfl)) (pgs_cons (pg_name (i := 4) sc_triangle_points.nd rfl (Or.inl rfl)) (pgs_cons (pg_name (i := 5) sc_triangle_points.nd rfl (Or.inl rfl)) pgs_nil)))))
      (pss_one (ps_ret (pe_call (ok_points_up_to T) (hr.mono (by decide)) rfl T.m_points_up_to T.F_points_up_to.kp T.b_points_up_to .nil pass0 (pa_cons (pv 3) (pa_cons (pv 4) (pa_cons (pv 5) pa_nil))))))), ?_⟩
    have a0 : 0 < a := by omega
    have b0 : 0 < b := by omega
    walk_at "go"
    exact k _ (by walk_at "f")
def sp_triangle_inner (A : Ad) : Sp := fun vs H Q _ => ∃ (u v x : V) (a b n : Int), vs = [u, v, x] ∧ Num A H u a ∧ Num A H v b ∧ Num A H x n ∧ 1 ≤ a ∧ 1 ≤ b ∧ Bt 395 a ∧ Bt 395 b ∧ Bt 395 n ∧ ∀ H', Same H H' → Q (.int (Tri a b (n - a - b - 1))) H'
theorem ok_triangle_inner (T : Txt K mg A) : FnOk P w K mg base CX0 7 A.f_triangle_inner A.d_triangle_inner ["a", "b", "limit"] (sp_triangle_inner A) := by
  refine T.F_triangle_inner.ok sc_triangle_inner (fun vs H Q E h => ?_) (fun cdv Ar outer s H vs Q E hr h => ?_)
  · obtain ⟨_, _, _, _, _, _, rfl, _⟩ := h
    rfl
  · obtain ⟨_, _, _, a, b, n, rfl, h1, h2, h3, h4, h5, b1, b2, b3, k⟩ := h
    have hu := hu_of hr
    refine ⟨_, (pss_cons (ps_asg (pe_call (ok__checked_triangle T) (hr.mono (by decide)) rfl T.m__checked_triangle T.F__checked_triangle.kp T.b__checked_triangle .nil pass0 (pa_cons (pv 0) (pa_cons (pv 1) (pa_cons (pv 2) pa_nil)))) (pg_tup rfl (pgs_cons (pg_name (i := 3) sc_triangle_inner.nd rfl (Or.inl rfl)) (pgs_cons (pg_name (i := 4) sc_triangle_inner.nd rfl (Or.inl rfl)) (pgs_cons (pg_name (i := 5) sc_triangle_inner.nd rfl (Or.inl rfl)) pgs_nil)))))
      (pss_one (ps_ret (pe_call (ok_points_up_to T) (hr.mono (by decide)) rfl T.m_points_up_to T.F_points_up_to.kp T.b_points_up_to .nil pass0 (pa_cons (pv 3) (pa_cons (pv 4) (pa_cons (pe_op op_sub (pe_op op_sub (pe_op op_sub (pv 5) (pv 3)) (pv 4)) pe_int) pa_nil))))))), ?_⟩
    have a0 : 0 < a := by omega
    have b0 : 0 < b := by omega
    have b1' := b1.mono (show 395 ≤ 398 by decide)
    have b2' := b2.mono (show 395 ≤ 398 by decide)
    have b4 : Bt 398 (n - a - b - 1) := bt_subm (n := 397) (bt_subm (n := 396) (bt_subm b3 b1) (b2.mono (by decide))) (bt_lit (by decide +kernel))
    walk_at "go"
    exact k _ (by walk_at "f")
end
end Tk

set_option maxHeartbeats 2000000
namespace Tk
open PySem PySem.Spec PyProof.Rows L2 Tc
section
variable {P : Program} {w : World} {K : PySem.W.Frag} {mg : Str → Option Value} {base : Heap} {A : Ad}
open Tm
local macro_rules | `(tactic| walk_at "arr") => `(tactic| first
  | with_reducible assumption
  | ((with_reducible apply same_new); with_reducible assumption))
local macro_rules | `(tactic| walk_at "f") => `(tactic| first
  | with_reducible assumption
  | with_reducible exact upd_same
  | with_reducible exact Same.refl _
  | with_reducible exact Frm.refl
  | ((with_reducible apply sqL_K); (focus with_reducible assumption); rfl)
  | ((with_reducible apply sqT_K); (focus with_reducible assumption); rfl)
  | ((with_reducible apply SqT.of); walk_at "f")
  | ((with_reducible apply SqL.of); walk_at "f")
  | ((with_reducible apply back_raw); (focus walk_at "arr"); walk_at "f")
  | ((with_reducible apply frm_tup); (focus with_reducible assumption); (focus walk_at "f"); (focus walk_at "f"); (focus (intro _ z; cases z; done)))
  | ((with_reducible apply frm_raw); (focus with_reducible assumption); (focus walk_at "f"); walk_at "f")
  | ((with_reducible apply bowl_back); (focus walk_at "arr"); walk_at "f")
  | ((with_reducible apply bowl_ne); (focus with_reducible assumption); walk_at "f")
  | ((with_reducible apply Num.int); with_reducible assumption)
  | ((with_reducible apply same_snoc); (focus walk_at "arr"); walk_at "f")
  | ((with_reducible apply frm_back); (focus walk_at "arr"); walk_at "f")
  | ((with_reducible apply frm_backF); (focus with_reducible assumption); walk_at "f")
  | ((with_reducible apply back_sqT); (focus walk_at "arr"); walk_at "f")
  | ((with_reducible apply same_sqL); (focus walk_at "arr"); walk_at "f")
  | ((with_reducible apply free_same); (focus with_reducible assumption); walk_at "f")
  | ((with_reducible apply free_frm); (focus with_reducible assumption); (focus with_reducible assumption); walk_at "f")
  | ((with_reducible apply frm_sqL); (focus with_reducible assumption); (focus walk_at "f"); walk_at "f"))
local macro_rules | `(tactic| walk_at "bt") => `(tactic| first
  | with_reducible assumption
  | ((with_reducible apply bt_mul); (focus walk_at "bt"); walk_at "bt")
  | ((with_reducible apply bt_add); (focus walk_at "bt"); walk_at "bt")
  | ((with_reducible apply bt_sub); (focus walk_at "bt"); walk_at "bt")
  | ((with_reducible apply bt_neg); walk_at "bt")
  | ((with_reducible apply bt_div); walk_at "bt")
  | ((with_reducible apply bt_mod); (focus (first | assumption | omega)); walk_at "bt")
  | exact bt_lit (n := 64) (by decide)
  | exact bt_lit (n := 200) (by decide +kernel))
local macro_rules | `(tactic| walk_at "lin") => `(tactic| first
  | exact (by decide : 1 ≤ sizeLine) | exact (by decide : 2 ≤ sizeLine) | exact (by decide : 3 ≤ sizeLine) | exact (by decide : 4 ≤ sizeLine) | exact (by decide : 0 ≤ sizeLine) | exact (by decide : 5 ≤ sizeLine) | exact (by decide : 6 ≤ sizeLine))
local macro_rules | `(tactic| walk_at "dp") => `(tactic| first
  | exact Dp.int _
  | exact DpAll.nil
  | ((with_reducible apply Dp.lst); (focus walk_at "f"); walk_at "dp")
  | ((with_reducible apply Dp.tup); (focus walk_at "f"); walk_at "dp")
  | ((with_reducible apply DpAll.cons); (focus walk_at "dp"); walk_at "dp"))
local macro_rules | `(tactic| walk_at "sv") => `(tactic| first
  | with_reducible rfl
  | walk_at "f"
  | exact rfl
  | walk_at "dp"
  | exact shp_lst [_] | exact shp_lst [_, _] | exact shp_lst [_, _, _] | exact shp_lst [_, _, _, _] | exact shp_tup [_, _] | exact shp_tup [_, _, _]
  | ((apply tyV_lst); walk_at "f")
  | ((with_reducible apply bt_mulW); (focus walk_at "bt"); (focus walk_at "bt"); (focus (first | decide | omega)))
  | ((with_reducible apply bt_divW); (focus (first | decide | assumption | omega)); (focus walk_at "bt"); (focus (first | decide | omega)))
  | ((with_reducible apply bt_divP); (focus (first | decide | assumption | omega)); (focus walk_at "bt"); (focus (first | decide | omega)))
  | exact ⟨by decide, by decide +kernel⟩
  | exact Or.inl (by decide)
  | exact Or.inr (by decide)
  | exact Or.inl ⟨by omega, by omega⟩
  | exact Or.inr ⟨by omega, by omega⟩
  | ((with_reducible apply Or.inl); walk_at "sv")
  | ((with_reducible apply Or.inr); walk_at "sv")
  | ((with_reducible apply Exists.intro); walk_at "sv")
  | ((with_reducible apply And.intro); (focus walk_at "sv"); walk_at "sv")
  | walk_at "lin"
  | decide
  | omega
  | (simp only [List.length_cons, List.length_nil, List.length_map]; first | done | omega))
local macro_rules | `(tactic| walk_at "one") => `(tactic| first
  | ((fail_if_success refine' @Exists.intro (Nat → L2.St → Hp → Prop) _ ?_ ?_); (fail_if_success refine' @Exists.intro (Nat → Nat → L2.St → Hp → Prop) _ ?_ ?_); (fail_if_success refine' @Exists.intro (L2.St → Hp → Prop) _ ?_ ?_); (fail_if_success refine' @Exists.intro (Nat → Nat → Hp → Prop) _ ?_ ?_); (fail_if_success refine' @Exists.intro (Hp → Prop) _ ?_ ?_); apply Exists.intro)
  | (apply And.intro; (focus walk_at "sv"))
  | intro _
  | (apply ifT; (focus rfl))
  | (apply ifF; (focus rfl))
  | ((apply Or.inl); (apply Exists.intro); (apply And.intro); (focus exact rfl))
  | ((apply Or.inl); (apply And.intro); (focus walk_at "f"))
  | ((apply Or.inr); (apply Exists.intro); (apply And.intro); (focus exact rfl))
  | (apply ifTd; (focus (first | assumption | omega)))
  | (apply ifFd; (focus (first | assumption | omega))))
local macro_rules | `(tactic| walk_at "go") => `(tactic| repeat walk_at "one")
local macro_rules | `(tactic| walk_at "nm") => `(tactic| try simp only [List.set_cons_zero, List.set_cons_succ])
local macro_rules | `(tactic| walk_at "gon") => `(tactic| repeat (walk_at "one"; walk_at "nm"))
theorem len_range {β : Type} (f : Int → β) (g : Nat → Int) {i : Nat} (h : i < 5000) : (((List.range i).map g).map f).length < sizeLine := by
  rw [List.length_map, List.length_map, List.length_range]
  exact lt_line (by omega)
theorem bt_small {i : Int} (h0 : 0 ≤ i) (h1 : i < 5000) : Bt 20 i := by
  unfold Bt
  have : (2 : Nat) ^ 20 = 1048576 := rfl
  omega

def sp_check_coprime : Sp := fun vs H Q _ => ∃ (a b : Int), vs = [.int a, .int b, .int 1] ∧ gc a b = 1 ∧ Q .non H
theorem ok_check_coprime (T : Txt K mg A) : FnOk P w K mg base CX0 1 A.f_check_coprime A.d_check_coprime ["a", "b", "c"] sp_check_coprime := by
  refine T.F_check_coprime.ok sc_check_coprime (fun vs H Q E h => ?_) (fun cdv Ar outer s H vs Q E hr h => ?_)
  · obtain ⟨_, _, rfl, _⟩ := h
    rfl
  · obtain ⟨a, b, rfl, hg, k⟩ := h
    have hu := hu_of hr
    refine ⟨_, (pss_one (ps_if (PW.pt (pw_or (pt_cmpR op_ne (pe_callBfun cr_gcd rfl T.m_gcd (pa_cons (pv 0) (pa_cons (pv 1) pa_nil))) pe_int (nomark _)) (pw_or (pt_cmpR op_ne (pe_callBfun cr_gcd rfl T.m_gcd (pa_cons (pv 1) (pa_cons (pv 2) pa_nil))) pe_int (nomark _)) (pw_or1 (pt_cmpR op_ne (pe_callBfun cr_gcd rfl T.m_gcd (pa_cons (pv 2) (pa_cons (pv 0) pa_nil))) pe_int (nomark _))))))
        (pss_one ps_never)
        pss_nil)), ?_⟩
    have g1 : ((a.natAbs.gcd b.natAbs : Nat) : Int) = 1 := hg
    have g2 : ((b.natAbs.gcd (1 : Int).natAbs : Nat) : Int) = 1 := by
      show ((b.natAbs.gcd 1 : Nat) : Int) = 1
      rw [Nat.gcd_one_right]
      rfl
    have g3 : (((1 : Int).natAbs.gcd a.natAbs : Nat) : Int) = 1 := by
      show (((1 : Nat).gcd a.natAbs : Nat) : Int) = 1
      rw [Nat.gcd_one_left]
      rfl
    walk_at "go"
    refine ifF (ne_ii g1) ?_
    walk_at "go"
    refine ifF (ne_ii g2) ?_
    walk_at "go"
    refine ifF (ne_ii g3) ?_
    walk_at "go"
    exact k
def sp__checked_steps_to (A : Ad) : Sp := fun vs H Q _ => ∃ (u v x : V) (a b n : Int), vs = [u, v, x] ∧ Num A H u a ∧ Num A H v b ∧ Num A H x n ∧ 1 ≤ a ∧ 1 ≤ b ∧ gc a b = 1 ∧ ∀ p H', Same H H' → H' p = some (.tup [.int a, .int b, .int n]) → Q (.ref p) H'
theorem ok__checked_steps_to (T : Txt K mg A) : FnOk P w K mg base CX0 6 A.f__checked_steps_to A.d__checked_steps_to ["a", "b", "number"] (sp__checked_steps_to A) := by
  refine T.F__checked_steps_to.ok sc__checked_steps_to (fun vs H Q E h => ?_) (fun cdv Ar outer s H vs Q E hr h => ?_)
  · obtain ⟨_, _, _, _, _, _, rfl, _⟩ := h
    rfl
  · obtain ⟨_, _, _, a, b, n, rfl, h1, h2, h3, h4, h5, hg, k⟩ := h
    have hu := hu_of hr
    refine ⟨_, (pss_cons (ps_par3 (i := 3) (j := 4) (l := 5) (by rfl) sc__checked_steps_to.nd rfl rfl rfl (by decide) (by decide) (by decide) rfl rfl rfl (pa_cons (pe_call (ok_checked_from T) (hr.mono (by decide)) rfl T.m_checked_from T.F_checked_from.kp T.b_checked_from .nil pass0 (pa_cons pe_int (pa_cons (pv 0) pa_nil))) (pa_cons (pe_call (ok_checked_from T) (hr.mono (by decide)) rfl T.m_checked_from T.F_checked_from.kp T.b_checked_from .nil pass0 (pa_cons pe_int (pa_cons (pv 1) pa_nil))) (pa_cons (pe_call (ok_checked_integer T) (hr.mono (by decide)) rfl T.m_checked_integer T.F_checked_integer.kp T.b_checked_integer .nil pass0 (pa_cons (pv 2) pa_nil)) pa_nil))) (by rfl))
      (pss_cons (ps_expr (pe_call (ok_check_coprime T) (hr.mono (by decide)) rfl T.m_check_coprime T.F_check_coprime.kp T.b1_check_coprime.choose_spec.2 T.b1_check_coprime.choose_spec.1 pass0 (pa_cons (pv 3) (pa_cons (pv 4) pa_nil))))
      (pss_one (ps_ret (pe_tup (pa_cons (pv 3) (pa_cons (pv 4) (pa_cons (pv 5) pa_nil)))))))), ?_⟩
    walk_at "go"
    exact k _ _ (by walk_at "f") (by walk_at "f")
def sp__least_steps : Sp := fun vs H Q _ => ∃ (a b n : Int), vs = [.int a, .int b, .int n] ∧ 1 ≤ b ∧ Bt 400 b ∧ Bt 400 n ∧ gc a b = 1 ∧ ∀ v, (a * v) % b = 1 % b → Q (.int (n * v % b)) H
theorem ok__least_steps (T : Txt K mg A) : FnOk P w K mg base CX0 2 A.f__least_steps A.d__least_steps ["a", "b", "number"] sp__least_steps := by
  refine T.F__least_steps.ok sc__least_steps (fun vs H Q E h => ?_) (fun cdv Ar outer s H vs Q E hr h => ?_)
  · obtain ⟨_, _, _, rfl, _⟩ := h
    rfl
  · obtain ⟨a, b, n, rfl, b1, bb, bn, hg, k⟩ := h
    have hu := hu_of hr
    refine ⟨_, (pss_one (ps_ret (pe_op op_mod (pe_op op_mulW (pv 2) (pe_call (ok_inverse_or_none T) (hr.mono (by decide)) rfl T.m_inverse_or_none T.F_inverse_or_none.kp T.b_inverse_or_none .nil pass0 (pa_cons (pv 0) (pa_cons (pv 1) pa_nil)))) (pv 1)))), ?_⟩
    have bb5 : b.natAbs < 2 ^ 500 := bb.mono (show 400 ≤ 500 by decide)
    have b0 : 0 < b := by omega
    walk_at "go"
    refine ⟨fun _ v v0 v1 hv => ?_, fun h => absurd (show Int.gcd a b = 1 by unfold gc at hg; omega) h⟩
    have bv : Bt 400 v := bt_le v0 (Int.le_of_lt v1) bb
    have e := k v (Int.emod_eq_emod_iff_emod_sub_eq_zero.mpr (Int.emod_eq_zero_of_dvd hv))
    walk_at "go"
    exact e
def sp__many_ways : Sp := fun vs H Q _ => ∃ (a b n l : Int), vs = [.int a, .int b, .int n, .int l] ∧ 0 < a ∧ 0 < b ∧ Bt 400 a ∧ Bt 400 b ∧ Bt 400 n ∧ Bt 400 l ∧ Q (.int (if 0 ≤ n - l * a then (n - l * a) / (a * b) + 1 else 0)) H
theorem ok__many_ways (T : Txt K mg A) : FnOk P w K mg base CX0 1 A.f__many_ways A.d__many_ways ["a", "b", "number", "least"] sp__many_ways := by
  refine T.F__many_ways.ok sc__many_ways (fun vs H Q E h => ?_) (fun cdv Ar outer s H vs Q E hr h => ?_)
  · obtain ⟨_, _, _, _, rfl, _⟩ := h
    rfl
  · obtain ⟨a, b, n, l, rfl, a0, b0, ba, bb, bn, bl, k⟩ := h
    have hu := hu_of hr
    refine ⟨_, (pss_cons (ps_set (i := 4) sc__many_ways.nd rfl (Or.inl rfl) (pe_op op_sub (pv 2) (pe_op op_mulW (pv 3) (pv 0))))
      (pss_one (ps_ret (pe_ifExp (pt_cmpR op_ge (pv 4) pe_int (nomark _)) (pe_op op_add (pe_op op_fdivW (pv 4) (pe_op op_mulW (pv 0) (pv 1))) pe_int) pe_int)))), ?_⟩
    have ab0 : 0 < a * b := Int.mul_pos a0 b0
    by_cases h : 0 ≤ n - l * a
    · rw [if_pos h] at k
      walk_at "go"
      exact k
    · rw [if_neg h] at k
      walk_at "go"
      exact k
def sp_ways (A : Ad) : Sp := fun vs H Q _ => ∃ (u v x : V) (a b n : Int), vs = [u, v, x] ∧ Num A H u a ∧ Num A H v b ∧ Num A H x n ∧ 1 ≤ a ∧ 1 ≤ b ∧ Bt 400 a ∧ Bt 400 b ∧ Bt 400 n ∧ gc a b = 1 ∧
  ∀ v H', (a * v) % b = 1 % b → Same H H' → Q (.int (if 0 ≤ n - n * v % b * a then (n - n * v % b * a) / (a * b) + 1 else 0)) H'
theorem ok_ways (T : Txt K mg A) : FnOk P w K mg base CX0 7 A.f_ways A.d_ways ["a", "b", "number"] (sp_ways A) := by
  refine T.F_ways.ok sc_ways (fun vs H Q E h => ?_) (fun cdv Ar outer s H vs Q E hr h => ?_)
  · obtain ⟨_, _, _, _, _, _, rfl, _⟩ := h
    rfl
  · obtain ⟨_, _, _, a, b, n, rfl, h1, h2, h3, a1, b1, ba, bb, bn, hg, k⟩ := h
    have hu := hu_of hr
    refine ⟨_, (pss_cons (ps_asg (pe_call (ok__checked_steps_to T) (hr.mono (by decide)) rfl T.m__checked_steps_to T.F__checked_steps_to.kp T.b__checked_steps_to .nil pass0 (pa_cons (pv 0) (pa_cons (pv 1) (pa_cons (pv 2) pa_nil)))) (pg_tup rfl (pgs_cons (pg_name (i := 3) sc_ways.nd rfl (Or.inl rfl)) (pgs_cons (pg_name (i := 4) sc_ways.nd rfl (Or.inl rfl)) (pgs_cons (pg_name (i := 5) sc_ways.nd rfl (Or.inl rfl)) pgs_nil)))))
      (pss_one (ps_ret (pe_call (ok__many_ways T) (hr.mono (by decide)) rfl T.m__many_ways T.F__many_ways.kp T.b__many_ways .nil pass0 (pa_cons (pv 3) (pa_cons (pv 4) (pa_cons (pv 5) (pa_cons (pe_call (ok__least_steps T) (hr.mono (by decide)) rfl T.m__least_steps T.F__least_steps.kp T.b__least_steps .nil pass0 (pa_cons (pv 3) (pa_cons (pv 4) (pa_cons (pv 5) pa_nil)))) pa_nil)))))))), ?_⟩
    have a0 : 0 < a := by omega
    have b0 : 0 < b := by omega
    walk_at "go"
    rename_i tp H1 s1 htp v hv
    have bl : Bt 400 (n * v % b) := bt_mod b0 bb
    walk_at "go"
    exact k v _ hv (by walk_at "f")
def sp_triangle_row (A : Ad) (K : PySem.W.Frag) : Sp := fun vs H Q _ => ∃ (u v x : V) (a b n : Int), vs = [u, v, x] ∧ Num A H u a ∧ Num A H v b ∧ Num A H x n ∧ 1 ≤ a ∧ 1 ≤ b ∧ 0 ≤ n ∧ n / b + 1 ≤ 300 ∧ Bt 398 a ∧ Bt 398 b ∧ Bt 398 n ∧
  ∀ t H', H t = none → Same H H' → SqT K H' t (((List.range (n / b + 1).toNat).map fun y : Nat => (n - b * (y : Int)) / a + 1).map V.int) → Q (.ref t) H'
end
end Tk

set_option maxHeartbeats 2000000
namespace Tk
open PySem PySem.Spec PyProof.Rows L2 Tc
section
variable {P : Program} {w : World} {K : PySem.W.Frag} {mg : Str → Option Value} {base : Heap} {A : Ad}
open Tm
local macro_rules | `(tactic| walk_at "arr") => `(tactic| first
  | with_reducible assumption
  | ((with_reducible apply same_new); with_reducible assumption))
local macro_rules | `(tactic| walk_at "f") => `(tactic| first
  | with_reducible assumption
  | with_reducible exact upd_same
  | with_reducible exact Same.refl _
  | with_reducible exact Frm.refl
  | ((with_reducible apply sqL_K); (focus with_reducible assumption); rfl)
  | ((with_reducible apply sqT_K); (focus with_reducible assumption); rfl)
  | ((with_reducible apply SqT.of); walk_at "f")
  | ((with_reducible apply SqL.of); walk_at "f")
  | ((with_reducible apply back_raw); (focus walk_at "arr"); walk_at "f")
  | ((with_reducible apply frm_tup); (focus with_reducible assumption); (focus walk_at "f"); (focus walk_at "f"); (focus (intro _ z; cases z; done)))
  | ((with_reducible apply frm_raw); (focus with_reducible assumption); (focus walk_at "f"); walk_at "f")
  | ((with_reducible apply bowl_back); (focus walk_at "arr"); walk_at "f")
  | ((with_reducible apply bowl_ne); (focus with_reducible assumption); walk_at "f")
  | ((with_reducible apply Num.int); with_reducible assumption)
  | ((with_reducible apply same_snoc); (focus walk_at "arr"); walk_at "f")
  | ((with_reducible apply frm_back); (focus walk_at "arr"); walk_at "f")
  | ((with_reducible apply frm_backF); (focus with_reducible assumption); walk_at "f")
  | ((with_reducible apply back_sqT); (focus walk_at "arr"); walk_at "f")
  | ((with_reducible apply same_sqL); (focus walk_at "arr"); walk_at "f")
  | ((with_reducible apply free_same); (focus with_reducible assumption); walk_at "f")
  | ((with_reducible apply free_frm); (focus with_reducible assumption); (focus with_reducible assumption); walk_at "f")
  | ((with_reducible apply frm_sqL); (focus with_reducible assumption); (focus walk_at "f"); walk_at "f"))
local macro_rules | `(tactic| walk_at "bt") => `(tactic| first
  | with_reducible assumption
  | ((with_reducible apply bt_mul); (focus walk_at "bt"); walk_at "bt")
  | ((with_reducible apply bt_add); (focus walk_at "bt"); walk_at "bt")
  | ((with_reducible apply bt_sub); (focus walk_at "bt"); walk_at "bt")
  | ((with_reducible apply bt_neg); walk_at "bt")
  | ((with_reducible apply bt_div); walk_at "bt")
  | ((with_reducible apply bt_mod); (focus (first | assumption | omega)); walk_at "bt")
  | exact bt_lit (n := 64) (by decide)
  | exact bt_lit (n := 200) (by decide +kernel))
local macro_rules | `(tactic| walk_at "lin") => `(tactic| first
  | exact (by decide : 1 ≤ sizeLine) | exact (by decide : 2 ≤ sizeLine) | exact (by decide : 3 ≤ sizeLine) | exact (by decide : 4 ≤ sizeLine) | exact (by decide : 0 ≤ sizeLine) | exact (by decide : 5 ≤ sizeLine) | exact (by decide : 6 ≤ sizeLine))
local macro_rules | `(tactic| walk_at "dp") => `(tactic| first
  | exact Dp.int _
  | exact DpAll.nil
  | ((with_reducible apply Dp.lst); (focus walk_at "f"); walk_at "dp")
  | ((with_reducible apply Dp.tup); (focus walk_at "f"); walk_at "dp")
  | ((with_reducible apply DpAll.cons); (focus walk_at "dp"); walk_at "dp"))
local macro_rules | `(tactic| walk_at "sv") => `(tactic| first
  | with_reducible rfl
  | walk_at "f"
  | exact rfl
  | walk_at "dp"
  | exact shp_lst [_] | exact shp_lst [_, _] | exact shp_lst [_, _, _] | exact shp_lst [_, _, _, _] | exact shp_tup [_, _] | exact shp_tup [_, _, _]
  | ((apply tyV_lst); walk_at "f")
  | ((with_reducible apply bt_mulW); (focus walk_at "bt"); (focus walk_at "bt"); (focus (first | decide | omega)))
  | ((with_reducible apply bt_divW); (focus (first | decide | assumption | omega)); (focus walk_at "bt"); (focus (first | decide | omega)))
  | ((with_reducible apply bt_divP); (focus (first | decide | assumption | omega)); (focus walk_at "bt"); (focus (first | decide | omega)))
  | exact ⟨by decide, by decide +kernel⟩
  | exact Or.inl (by decide)
  | exact Or.inr (by decide)
  | exact Or.inl ⟨by omega, by omega⟩
  | exact Or.inr ⟨by omega, by omega⟩
  | ((with_reducible apply Or.inl); walk_at "sv")
  | ((with_reducible apply Or.inr); walk_at "sv")
  | ((with_reducible apply Exists.intro); walk_at "sv")
  | ((with_reducible apply And.intro); (focus walk_at "sv"); walk_at "sv")
  | walk_at "lin"
  | decide
  | omega
  | (simp only [List.length_cons, List.length_nil, List.length_map]; first | done | omega))
local macro_rules | `(tactic| walk_at "one") => `(tactic| first
  | ((fail_if_success refine' @Exists.intro (Nat → L2.St → Hp → Prop) _ ?_ ?_); (fail_if_success refine' @Exists.intro (Nat → Nat → L2.St → Hp → Prop) _ ?_ ?_); (fail_if_success refine' @Exists.intro (L2.St → Hp → Prop) _ ?_ ?_); (fail_if_success refine' @Exists.intro (Nat → Nat → Hp → Prop) _ ?_ ?_); (fail_if_success refine' @Exists.intro (Hp → Prop) _ ?_ ?_); apply Exists.intro)
  | (apply And.intro; (focus walk_at "sv"))
  | intro _
  | (apply ifT; (focus rfl))
  | (apply ifF; (focus rfl))
  | ((apply Or.inl); (apply Exists.intro); (apply And.intro); (focus exact rfl))
  | ((apply Or.inl); (apply And.intro); (focus walk_at "f"))
  | ((apply Or.inr); (apply Exists.intro); (apply And.intro); (focus exact rfl))
  | (apply ifTd; (focus (first | assumption | omega)))
  | (apply ifFd; (focus (first | assumption | omega))))
local macro_rules | `(tactic| walk_at "go") => `(tactic| repeat walk_at "one")
local macro_rules | `(tactic| walk_at "nm") => `(tactic| try simp only [List.set_cons_zero, List.set_cons_succ])
local macro_rules | `(tactic| walk_at "gon") => `(tactic| repeat (walk_at "one"; walk_at "nm"))
theorem pow61_10 : (0 : Int) < ((10 : Int) ^ (61 : Int).toNat) ^ (10 : Int).toNat := by decide +kernel
def sp__law_purse_of (K : PySem.W.Frag) : Sp := fun vs H Q _ => ∃ (sc : Addr) (i : Nat) (ns : List Int), vs = [.ref sc, .int (i : Int)] ∧ SqL K H sc (ns.map V.int) ∧ ∀ p H', H p = none → Same H H' → Bowl H' p → Q (.ref p) H'
theorem ok__law_purse_of (T : Txt K mg A) : FnOk P w K mg base CX0 1 A.f__law_purse_of A.d__law_purse_of ["_law_script", "_law_at"] (sp__law_purse_of K) := by
  refine T.F__law_purse_of.ok sc__law_purse_of (fun vs H Q E h => ?_) (fun cdv Ar outer s H vs Q E hr h => ?_)
  · obtain ⟨sc, i, ns, rfl, _⟩ := h
    rfl
  · obtain ⟨sc, i, ns, rfl, hS, k⟩ := h
    have hu := hu_of hr
    refine ⟨_, (pss_cons (ps_set (i := 2) sc__law_purse_of.nd rfl (Or.inl rfl) (pe_ifExp (pt_cmpR op_lt (pv 1) (pe_callB call_len_seq (by rfl) T.b_len (by decide +kernel) (pa_cons (pv 0) pa_nil)) (nomark _)) (pe_ix ix_list (pv 0) (pv 1) (fun _ _ => rfl)) (pe_op op_add (pe_op op_mul pe_int (pv 1)) pe_int)))
      (pss_cons (ps_set (i := 3) sc__law_purse_of.nd rfl (Or.inl rfl) (pe_op op_mod (pe_callTy call_int1 (by rfl) T.b_int (by decide +kernel) (pa_cons (pe_callB call_abs (by rfl) T.b_abs (by decide +kernel) (pa_cons (pv 2) pa_nil)) pa_nil)) (pe_op op_powX (pe_op op_powX pe_int pe_int) pe_int)))
      (pss_one (ps_ret (pe_lst (pa_cons (pe_callB (call_max2 rfl) (by rfl) T.b_max (by decide +kernel) (pa_cons pe_int (pa_cons (pe_op op_sub (pv 3) (pe_op op_powX pe_int pe_int)) pa_nil))) (pa_cons (pe_op op_add (pe_op op_add (pe_op op_mul (pe_callTy call_int1 (by rfl) T.b_int (by decide +kernel) (pa_cons (pe_op op_add (pe_op op_mul (pv 3) pe_int) (pe_callTy call_int1 (by rfl) T.b_int (by decide +kernel) (pa_cons (pe_cmpR op_lt (pv 2) pe_int (nomark _)) pa_nil))) pa_nil)) pe_int) (pe_op op_mul pe_int (pv 1))) pe_int) (pa_cons pe_int pa_nil)))))))), ?_⟩
    refine ⟨_, rfl, _, rfl, sc, _, rfl, .inl hS, _, _, rfl, rfl, _, rfl, ?_⟩
    refine ite2 (fun h => ?ca) (fun h => ?cb)
    case' ca =>
      have hi : i < ns.length := by
        have := of_decide_eq_true h
        rw [List.length_map] at this
        omega
      refine ⟨_, rfl, _, rfl, sc, _, _, .int ns[i], rfl, rfl, hS, atI_nat (by rw [List.getElem?_map, List.getElem?_eq_getElem hi]; rfl), ?_⟩
      generalize ns[i] = z
    case' cb =>
      refine ⟨_, rfl, _, _, rfl, rfl, .inl (by decide), _, _, rfl, rfl, ?_⟩
      generalize (97 * (i : Int) + 31) = z
    all_goals
      refine ⟨_, rfl, _, rfl, .inl ⟨_, rfl, ?_⟩⟩
      refine ⟨_, _, rfl, rfl, ⟨by decide, by decide +kernel⟩, _, _, rfl, rfl, ⟨by decide, by decide +kernel⟩, _, _, rfl, rfl, pow61_10, ?_⟩
      generalize ((if z < 0 then -z else z) % ((10 : Int) ^ (61 : Int).toNat) ^ (10 : Int).toNat) = g
      walk_at "go"
      exact k _ _ (by walk_at "f") (by walk_at "f") ⟨_, _, _, upd_same⟩
def sp__law_coin : Sp := fun vs H Q _ => ∃ (a : Addr) (m : Int), vs = [.ref a, .int m] ∧ 0 < m ∧ m.natAbs < 2 ^ 4000 ∧ Bowl H a ∧ ∀ (r : Int) H', 0 ≤ r → r < m → Frm a H H' → Bowl H' a → Q (.int r) H'
theorem mod64 {x m : Int} (h0 : 0 < m) (h : m < 2 ^ 62) : Bt 62 (x % m) := by
  have h1 := Int.emod_lt_of_pos x h0
  have h2 := Int.emod_nonneg x (show m ≠ 0 by omega)
  have e : (((2 : Nat) ^ 62 : Nat) : Int) = 2 ^ 62 := by norm_cast
  show (x % m).natAbs < 2 ^ 62
  omega
theorem ok__law_coin (T : Txt K mg A) : FnOk P w K mg base CX0 1 A.f__law_coin A.d__law_coin ["_law_purse", "_law_total"] sp__law_coin := by
  refine T.F__law_coin.ok sc__law_coin (fun vs H Q E h => ?_) (fun cdv Ar outer s H vs Q E hr h => ?_)
  · obtain ⟨a, m, rfl, _⟩ := h
    rfl
  · obtain ⟨a, m, rfl, h0, hm, ⟨g, s', n, hB⟩, k⟩ := h
    have hu := hu_of hr
    refine ⟨_, (pss_cons (ps_if (pt_cmpR op_gt (pe_ix ix_list (pv 0) pe_int (fun _ _ => rfl)) pe_int (nomark _))
        (pss_cons (ps_set (i := 2) sc__law_coin.nd rfl (Or.inl rfl) (pe_op op_mod (pe_callTy call_int1 (by rfl) T.b_int (by decide +kernel) (pa_cons (pe_ix ix_list (pv 0) pe_int (fun _ _ => rfl)) pa_nil)) (pv 1)))
          (pss_cons (ps_asg (pe_op op_fdivW (pe_ix ix_list (pv 0) pe_int (fun _ _ => rfl)) (pv 1)) (pg_sub (pv 0) pe_int set_list))
          (pss_one (ps_ret (pv 2)))))
        pss_nil)
      (pss_cons (ps_asg (pe_op op_add (pe_ix ix_list (pv 0) pe_int (fun _ _ => rfl)) pe_int) (pg_sub (pv 0) pe_int set_list))
      (pss_cons (ps_set (i := 3) sc__law_coin.nd rfl (Or.inl rfl) (pe_op op_mod (pe_callTy call_int1 (by rfl) T.b_int (by decide +kernel) (pa_cons (pe_op op_add (pe_ix ix_list (pv 0) pe_int (fun _ _ => rfl)) (pe_op op_mul (pe_ix ix_list (pv 0) pe_int (fun _ _ => rfl)) pe_int)) pa_nil)) pe_int))
      (pss_cons (ps_set (i := 4) sc__law_coin.nd rfl (Or.inl rfl) (pe_op op_mod (pe_callTy call_int1 (by rfl) T.b_int (by decide +kernel) (pa_cons (pe_op op_add (pe_op op_mulW (pv 3) (pv 3)) (pe_op op_mul (pe_ix ix_list (pv 0) pe_int (fun _ _ => rfl)) pe_int)) pa_nil)) pe_int))
      (pss_cons (ps_set (i := 5) sc__law_coin.nd rfl (Or.inl rfl) (pe_op op_mod (pe_callTy call_int1 (by rfl) T.b_int (by decide +kernel) (pa_cons (pe_op op_add (pe_op op_mulW (pv 4) (pv 4)) (pv 3)) pa_nil)) pe_int))
      (pss_one (ps_ret (pe_op op_mod (pe_callTy call_int1 (by rfl) T.b_int (by decide +kernel) (pa_cons (pe_op op_fdivW (pv 5) pe_int) pa_nil)) (pv 1))))))))), ?_⟩
    refine ⟨_, rfl, a, _, _, _, rfl, rfl, SqL.of hB, rfl, _, _, rfl, rfl, _, rfl, ?_⟩
    refine ite2 (fun h => ?_) (fun h => ?_)
    · refine ⟨_, rfl, a, _, _, _, rfl, rfl, SqL.of hB, rfl, .inl ⟨_, rfl, _, rfl, _, _, rfl, rfl, h0, ?_⟩⟩
      refine ⟨_, rfl, a, _, _, _, rfl, rfl, SqL.of hB, rfl, _, rfl, _, _, rfl, rfl, wide_div h0 hm (by decide) (by decide), ?_⟩
      refine ⟨_, rfl, a, _, _, 0, rfl, rfl, hB, rfl, ?_⟩
      exact ⟨_, rfl, k _ _ (Int.emod_nonneg _ (by omega)) (Int.emod_lt_of_pos _ h0) Frm.write ⟨_, _, _, upd_same⟩⟩
    · refine ⟨_, rfl, a, _, _, _, rfl, rfl, SqL.of hB, rfl, _, _, rfl, rfl, ?_⟩
      refine ⟨_, rfl, a, _, _, 2, rfl, rfl, hB, rfl, ?_⟩
      have hB2 : (upd H a (.lst ([V.int g, V.int s', V.int n].set 2 (V.int (n + 1))))) a = some (.lst [.int g, .int s', .int (n + 1)]) := upd_same
      refine ⟨_, rfl, a, _, _, _, rfl, rfl, SqL.of hB2, rfl, _, rfl, a, _, _, _, rfl, rfl, SqL.of hB2, rfl, ?_⟩
      have b1 := mod64 (x := s' + (n + 1) * 6364136223846793005) (m := 2305843009213693951) (by decide) (by decide)
      have b2 := mod64 (x := (s' + (n + 1) * 6364136223846793005) % 2305843009213693951 * ((s' + (n + 1) * 6364136223846793005) % 2305843009213693951) + (n + 1) * 69069) (m := 1152921504606846883) (by decide) (by decide)
      walk_at "go"
      exact k _ _ (Int.emod_nonneg _ (by omega)) (Int.emod_lt_of_pos _ h0) Frm.write ⟨_, _, _, hB2⟩
def sp__law_pick (K : PySem.W.Frag) : Sp := fun vs H Q _ => ∃ (b q : Addr) (xs : List Int), vs = [.ref b, .ref q] ∧ SqL K H q (xs.map V.int) ∧ Bowl H b ∧ q ≠ b ∧ 0 < xs.length ∧ xs.length < 100 ∧
  ∀ x H', x ∈ xs → Frm b H H' → Bowl H' b → Q (.int x) H'
theorem ok__law_pick (T : Txt K mg A) : FnOk P w K mg base CX0 2 A.f__law_pick A.d__law_pick ["_law_purse", "_law_items"] (sp__law_pick K) := by
  refine T.F__law_pick.ok sc__law_pick (fun vs H Q E h => ?_) (fun cdv Ar outer s H vs Q E hr h => ?_)
  · obtain ⟨_, _, _, rfl, _⟩ := h
    rfl
  · obtain ⟨b, q, xs, rfl, hq, hB, ne, l0, l1, k⟩ := h
    have hu := hu_of hr
    refine ⟨_, (pss_one (ps_ret (pe_ix ix_list (pv 1) (pe_call (ok__law_coin T) (hr.mono (by decide)) rfl T.m__law_coin T.F__law_coin.kp T.b__law_coin .nil pass0 (pa_cons (pv 0) (pa_cons (pe_callB call_len_seq (by rfl) T.b_len (by decide +kernel) (pa_cons (pv 1) pa_nil)) pa_nil))) (fun _ _ => rfl)))), ?_⟩
    walk_at "go"
    rename_i r H1 r0 r1 f1 B1
    have hj : r.toNat < xs.length := by
      have z := r1
      rw [List.length_map] at z
      omega
    have er : ((r.toNat : Nat) : Int) = r := by omega
    have hv : atI (xs.map V.int) r = some (V.int (xs[r.toNat]?.getD 0)) := by
      conv => lhs; rw [← er]
      exact atI_nat (by rw [List.getElem?_map, List.getElem?_eq_getElem hj]; rfl)
    have hm : (xs[r.toNat]?.getD 0) ∈ xs := by
      rw [List.getElem?_eq_getElem hj]
      exact List.getElem_mem hj
    exact ⟨hv, k _ _ hm f1 B1⟩
end
end Tk

set_option maxHeartbeats 2000000
namespace Tk
open PySem PySem.Spec PyProof.Rows L2 Tc
section
variable {P : Program} {w : World} {K : PySem.W.Frag} {mg : Str → Option Value} {base : Heap} {A : Ad}
open Tm
local macro_rules | `(tactic| walk_at "arr") => `(tactic| first
  | with_reducible assumption
  | ((with_reducible apply same_new); with_reducible assumption))
local macro_rules | `(tactic| walk_at "f") => `(tactic| first
  | with_reducible assumption
  | with_reducible exact upd_same
  | with_reducible exact Same.refl _
  | with_reducible exact Frm.refl
  | ((with_reducible apply sqL_K); (focus with_reducible assumption); rfl)
  | ((with_reducible apply sqT_K); (focus with_reducible assumption); rfl)
  | ((with_reducible apply SqT.of); walk_at "f")
  | ((with_reducible apply SqL.of); walk_at "f")
  | ((with_reducible apply back_raw); (focus walk_at "arr"); walk_at "f")
  | ((with_reducible apply frm_tup); (focus with_reducible assumption); (focus walk_at "f"); (focus walk_at "f"); (focus (intro _ z; cases z; done)))
  | ((with_reducible apply frm_raw); (focus with_reducible assumption); (focus walk_at "f"); walk_at "f")
  | ((with_reducible apply bowl_back); (focus walk_at "arr"); walk_at "f")
  | ((with_reducible apply bowl_ne); (focus with_reducible assumption); walk_at "f")
  | ((with_reducible apply Num.int); with_reducible assumption)
  | ((with_reducible apply same_snoc); (focus walk_at "arr"); walk_at "f")
  | ((with_reducible apply frm_back); (focus walk_at "arr"); walk_at "f")
  | ((with_reducible apply frm_backF); (focus with_reducible assumption); walk_at "f")
  | ((with_reducible apply back_sqT); (focus walk_at "arr"); walk_at "f")
  | ((with_reducible apply same_sqL); (focus walk_at "arr"); walk_at "f")
  | ((with_reducible apply free_same); (focus with_reducible assumption); walk_at "f")
  | ((with_reducible apply free_frm); (focus with_reducible assumption); (focus with_reducible assumption); walk_at "f")
  | ((with_reducible apply frm_sqL); (focus with_reducible assumption); (focus walk_at "f"); walk_at "f"))
local macro_rules | `(tactic| walk_at "bt") => `(tactic| first
  | with_reducible assumption
  | ((with_reducible apply bt_mul); (focus walk_at "bt"); walk_at "bt")
  | ((with_reducible apply bt_add); (focus walk_at "bt"); walk_at "bt")
  | ((with_reducible apply bt_sub); (focus walk_at "bt"); walk_at "bt")
  | ((with_reducible apply bt_neg); walk_at "bt")
  | ((with_reducible apply bt_div); walk_at "bt")
  | ((with_reducible apply bt_mod); (focus (first | assumption | omega)); walk_at "bt")
  | exact bt_lit (n := 64) (by decide)
  | exact bt_lit (n := 200) (by decide +kernel))
local macro_rules | `(tactic| walk_at "lin") => `(tactic| first
  | exact (by decide : 1 ≤ sizeLine) | exact (by decide : 2 ≤ sizeLine) | exact (by decide : 3 ≤ sizeLine) | exact (by decide : 4 ≤ sizeLine) | exact (by decide : 0 ≤ sizeLine) | exact (by decide : 5 ≤ sizeLine) | exact (by decide : 6 ≤ sizeLine))
local macro_rules | `(tactic| walk_at "dp") => `(tactic| first
  | exact Dp.int _
  | exact DpAll.nil
  | ((with_reducible apply Dp.lst); (focus walk_at "f"); walk_at "dp")
  | ((with_reducible apply Dp.tup); (focus walk_at "f"); walk_at "dp")
  | ((with_reducible apply DpAll.cons); (focus walk_at "dp"); walk_at "dp"))
local macro_rules | `(tactic| walk_at "sv") => `(tactic| first
  | with_reducible rfl
  | walk_at "f"
  | exact rfl
  | walk_at "dp"
  | exact shp_lst [_] | exact shp_lst [_, _] | exact shp_lst [_, _, _] | exact shp_lst [_, _, _, _] | exact shp_tup [_, _] | exact shp_tup [_, _, _]
  | ((apply tyV_lst); walk_at "f")
  | ((with_reducible apply bt_mulW); (focus walk_at "bt"); (focus walk_at "bt"); (focus (first | decide | omega)))
  | ((with_reducible apply bt_divW); (focus (first | decide | assumption | omega)); (focus walk_at "bt"); (focus (first | decide | omega)))
  | ((with_reducible apply bt_divP); (focus (first | decide | assumption | omega)); (focus walk_at "bt"); (focus (first | decide | omega)))
  | exact ⟨by decide, by decide +kernel⟩
  | exact Or.inl (by decide)
  | exact Or.inr (by decide)
  | exact Or.inl ⟨by omega, by omega⟩
  | exact Or.inr ⟨by omega, by omega⟩
  | ((with_reducible apply Or.inl); walk_at "sv")
  | ((with_reducible apply Or.inr); walk_at "sv")
  | ((with_reducible apply Exists.intro); walk_at "sv")
  | ((with_reducible apply And.intro); (focus walk_at "sv"); walk_at "sv")
  | walk_at "lin"
  | decide
  | omega
  | (simp only [List.length_cons, List.length_nil, List.length_map]; first | done | omega))
local macro_rules | `(tactic| walk_at "one") => `(tactic| first
  | ((fail_if_success refine' @Exists.intro (Nat → L2.St → Hp → Prop) _ ?_ ?_); (fail_if_success refine' @Exists.intro (Nat → Nat → L2.St → Hp → Prop) _ ?_ ?_); (fail_if_success refine' @Exists.intro (L2.St → Hp → Prop) _ ?_ ?_); (fail_if_success refine' @Exists.intro (Nat → Nat → Hp → Prop) _ ?_ ?_); (fail_if_success refine' @Exists.intro (Hp → Prop) _ ?_ ?_); apply Exists.intro)
  | (apply And.intro; (focus walk_at "sv"))
  | intro _
  | (apply ifT; (focus rfl))
  | (apply ifF; (focus rfl))
  | ((apply Or.inl); (apply Exists.intro); (apply And.intro); (focus exact rfl))
  | ((apply Or.inl); (apply And.intro); (focus walk_at "f"))
  | ((apply Or.inr); (apply Exists.intro); (apply And.intro); (focus exact rfl))
  | (apply ifTd; (focus (first | assumption | omega)))
  | (apply ifFd; (focus (first | assumption | omega))))
local macro_rules | `(tactic| walk_at "go") => `(tactic| repeat walk_at "one")
local macro_rules | `(tactic| walk_at "nm") => `(tactic| try simp only [List.set_cons_zero, List.set_cons_succ])
local macro_rules | `(tactic| walk_at "gon") => `(tactic| repeat (walk_at "one"; walk_at "nm"))
theorem turn_no {i : Nat} {a m : Int} (hi : 400 ≤ i) (hm : 0 < m) (t : Turn i a m) : False := by
  have big : ∀ k : Nat, 200 ≤ k → (2 : Int) ^ 180 ≤ 2 ^ k := fun k h => Int.le_of_lt (Int.pow_lt_pow_of_lt (by decide) (by omega))
  rcases Nat.mod_two_eq_zero_or_one i with e | e
  · have h := (t (i / 2)).1 (by omega)
    have h2 := big (i / 2) (by omega)
    have h3 := mul_ge (x := m) (y := 2 ^ (i / 2)) (by omega) (Int.le_of_lt (Int.pow_pos (by decide)))
    omega
  · have h := (t (i / 2)).2 (by omega)
    have h2 := big (i / 2) (by omega)
    have h3 := mul_ge (x := a) (y := 2 ^ (i / 2)) (by omega) (Int.le_of_lt (Int.pow_pos (by decide)))
    omega
def sp__law_great : Sp := fun vs H Q _ => ∃ (a : Addr) (d : Int), vs = [.ref a, .int d] ∧ 0 ≤ d ∧ d ≤ 60 ∧ Bowl H a ∧ ∀ (r : Int) H', 0 ≤ r → r < 10 ^ d.toNat → Frm a H H' → Bowl H' a → Q (.int r) H'
theorem ok__law_great (T : Txt K mg A) : FnOk P w K mg base CX0 2 A.f__law_great A.d__law_great ["_law_purse", "_law_digits"] sp__law_great := by
  refine T.F__law_great.ok sc__law_great (fun vs H Q E h => ?_) (fun cdv Ar outer s H vs Q E hr h => ?_)
  · obtain ⟨a, d, rfl, _⟩ := h
    rfl
  · obtain ⟨a, d, rfl, d0, d1, hB, k⟩ := h
    have hu := hu_of hr
    refine ⟨_, (pss_cons (ps_set (i := 2) sc__law_great.nd rfl (Or.inl rfl) pe_int)
      (pss_cons (ps_for PassesOwn.never rfl (pi_range1 rfl T.b_range (pa_cons (pe_op op_fdivW (pv 1) pe_int) pa_nil)) (pg_name (i := 3) sc__law_great.nd rfl (Or.inl rfl))
        (pss_one (ps_set (i := 2) sc__law_great.nd rfl (Or.inl rfl) (pe_op op_add (pe_op op_mulW (pv 2) (pe_op op_powX pe_int pe_int)) (pe_call (ok__law_coin T) (hr.mono (by decide)) rfl T.m__law_coin T.F__law_coin.kp T.b__law_coin .nil pass0 (pa_cons (pv 0) (pa_cons (pe_op op_powX pe_int pe_int) pa_nil)))))))
      (pss_one (ps_ret (pv 2))))), ?_⟩
    have q0 : 0 ≤ d / 6 := Int.ediv_nonneg d0 (by decide)
    walk_at "go"
    refine for_range (fun i σ H' => Stop (∃ (f : Int) (v : Option V), σ = [some (.ref a), some (.int d), some (.int f), v] ∧ Frm a H H' ∧ Bowl H' a ∧ 0 ≤ f ∧ f < 10 ^ (6 * i))) ⟨0, none, rfl, Frm.refl, hB, by decide, by decide⟩ ?_ ?_
    · rintro i σ H1 hi ⟨⟨f, v, rfl, f2, B2, f0, f3⟩⟩
      have f4 : f < 10 ^ 60 := by
        rcases Nat.lt_or_ge (6 * i) 60 with h | h
        · exact Int.lt_trans f3 (Int.pow_lt_pow_of_lt (by decide) h)
        · omega
      have bf : Bt 200 f := bt10 (by omega) f4 (by decide)
      have bp : Bt 64 ((10 : Int) ^ (6 : Int).toNat) := bt_lit (by decide +kernel)
      have c0 : (0 : Int) < (10 : Int) ^ (6 : Int).toNat := by decide +kernel
      have c1 : ((10 : Int) ^ (6 : Int).toNat).natAbs < 2 ^ 4000 := bp.mono (by decide)
      walk_at "go"
      rename_i r H2 r0 r1 f5 B5
      have r1 : r < 1000000 := r1
      refine ⟨⟨_, _, rfl, f2.trans f5, B5, ?_, ?_⟩⟩
      · show 0 ≤ f * 1000000 + r
        omega
      · show f * 1000000 + r < _
        have e : (10 : Int) ^ (6 * (i + 1)) = 10 ^ (6 * i) * 1000000 := by
          rw [show 6 * (i + 1) = 6 * i + 6 by omega, Int.pow_add]
          rfl
        rw [e]
        omega
    · rintro σ H1 ⟨⟨f, v, rfl, f2, B2, f0, f3⟩⟩
      walk_at "go"
      refine k f _ f0 (Int.lt_of_lt_of_le f3 ?_) f2 B2
      rcases Nat.lt_or_ge (6 * (d / 6).toNat) d.toNat with h | h
      · exact Int.le_of_lt (Int.pow_lt_pow_of_lt (by decide) h)
      · rw [show 6 * (d / 6).toNat = d.toNat by omega]
        exact Int.le_refl _
def sp__law_common : Sp := fun vs H Q _ => ∃ (x y : Int), vs = [.int x, .int y] ∧ y.natAbs < 2 ^ 180 ∧ Q (.int (gc x y)) H
theorem ok__law_common (T : Txt K mg A) : FnOk P w K mg base CX0 1 A.f__law_common A.d__law_common ["_law_one", "_law_other"] sp__law_common := by
  refine T.F__law_common.ok sc__law_common (fun vs H Q E h => ?_) (fun cdv Ar outer s H vs Q E hr h => ?_)
  · obtain ⟨_, _, rfl, _⟩ := h
    rfl
  · obtain ⟨x, y, rfl, hy, k⟩ := h
    have hu := hu_of hr
    refine ⟨_, (pss_cons (ps_par (i := 0) (j := 1) (by rfl) sc__law_common.nd rfl rfl (by decide) rfl rfl (pa_cons (pe_callB call_abs (by rfl) T.b_abs (by decide +kernel) (pa_cons (pv 0) pa_nil)) (pa_cons (pe_callB call_abs (by rfl) T.b_abs (by decide +kernel) (pa_cons (pv 1) pa_nil)) pa_nil)) (by rfl))
      (pss_cons (ps_for PassesOwn.never rfl (pi_range1 rfl T.b_range (pa_cons pe_int pa_nil)) (pg_name (i := 2) sc__law_common.nd rfl (Or.inl rfl))
        (pss_cons (ps_if (pt_cmpR op_eq (pv 1) pe_int (nomark _))
            (pss_one ps_break)
            pss_nil)
          (pss_one (ps_par (i := 0) (j := 1) (by rfl) sc__law_common.nd rfl rfl (by decide) rfl rfl (pa_cons (pv 1) (pa_cons (pe_op op_mod (pe_callTy call_int1 (by rfl) T.b_int (by decide +kernel) (pa_cons (pv 0) pa_nil)) (pv 1)) pa_nil)) (by rfl)))))
      (pss_one (ps_ret (pv 0))))), ?_⟩
    have e := gc_abs (x := x) (y := y)
    have p1 : 0 ≤ (if x < 0 then -x else x) := by split <;> omega
    have p2 : 0 ≤ (if y < 0 then -y else y) := by split <;> omega
    have p3 : (if y < 0 then -y else y) < 2 ^ 180 := by split <;> omega
    walk_at "go"
    generalize (if x < 0 then -x else x) = u0 at *
    generalize (if y < 0 then -y else y) = v0 at *
    refine for_range (fun i σ H' => Stop (∃ (u v : Int) (w : Option V), σ = [some (.int u), some (.int v), w] ∧ H' = H ∧ 0 ≤ u ∧ 0 ≤ v ∧ gc u v = gc x y ∧ (0 < v → Turn i u v))) ⟨u0, v0, none, rfl, rfl, p1, p2, e, fun _ => turn_zero p3⟩ ?_ ?_
    · rintro i σ H1 hi ⟨⟨u, v, w, rfl, rfl, h1, h2, h3, t⟩⟩
      by_cases h : v = 0
      · subst h
        rw [gc_zero h1] at h3
        subst h3
        walk_at "go"
        exact k
      · have hv : 0 < v := by omega
        have q0 := Int.emod_nonneg u (show v ≠ 0 by omega)
        have dz : decide (V.int v = V.int 0) = false := (dec_int' v 0).trans (decide_eq_false h)
        walk_at "go"
        refine ifF dz ?_
        walk_at "go"
        exact ⟨⟨_, _, _, rfl, rfl, h2, q0, by rw [gc_turn]; exact h3, fun z => turn_succ hv z (t hv)⟩⟩
    · rintro σ H1 ⟨⟨u, v, w, rfl, rfl, h1, h2, h3, t⟩⟩
      rcases Int.lt_or_eq_of_le h2 with z | z
      · exact absurd (t z) (fun t => turn_no (by decide) z t)
      · subst z
        rw [gc_zero h1] at h3
        subst h3
        walk_at "go"
        exact k
def sp__law_floors : Sp := fun vs H Q _ => ∃ (n a c m : Int), vs = [.int n, .int a, .int c, .int m] ∧ 0 ≤ n ∧ 1 ≤ m ∧ m < 2 ^ 180 ∧ Bt 400 n ∧ Bt 400 a ∧ Bt 400 c ∧
  ∀ H', Same H H' → Q (.int (S0 n.toNat a c m)) H'
def sp__law_triangle : Sp := fun vs H Q _ => ∃ (a b n : Int), vs = [.int a, .int b, .int n] ∧ 0 < a ∧ 0 < b ∧ a < 2 ^ 180 ∧ Bt 398 b ∧ Bt 398 n ∧ ∀ H', Same H H' → Q (.int (Tri a b n)) H'
end
end Tk

set_option maxHeartbeats 2000000
namespace Tk
open PySem PySem.Spec PyProof.Rows L2 Tc
section
variable {P : Program} {w : World} {K : PySem.W.Frag} {mg : Str → Option Value} {base : Heap} {A : Ad}
open Tm
local macro_rules | `(tactic| walk_at "arr") => `(tactic| first
  | with_reducible assumption
  | ((with_reducible apply same_new); with_reducible assumption))
local macro_rules | `(tactic| walk_at "f") => `(tactic| first
  | with_reducible assumption
  | with_reducible exact upd_same
  | with_reducible exact Same.refl _
  | with_reducible exact Frm.refl
  | ((with_reducible apply sqL_K); (focus with_reducible assumption); rfl)
  | ((with_reducible apply sqT_K); (focus with_reducible assumption); rfl)
  | ((with_reducible apply SqT.of); walk_at "f")
  | ((with_reducible apply SqL.of); walk_at "f")
  | ((with_reducible apply back_raw); (focus walk_at "arr"); walk_at "f")
  | ((with_reducible apply frm_tup); (focus with_reducible assumption); (focus walk_at "f"); (focus walk_at "f"); (focus (intro _ z; cases z; done)))
  | ((with_reducible apply frm_raw); (focus with_reducible assumption); (focus walk_at "f"); walk_at "f")
  | ((with_reducible apply bowl_back); (focus walk_at "arr"); walk_at "f")
  | ((with_reducible apply bowl_ne); (focus with_reducible assumption); walk_at "f")
  | ((with_reducible apply Num.int); with_reducible assumption)
  | ((with_reducible apply same_snoc); (focus walk_at "arr"); walk_at "f")
  | ((with_reducible apply frm_back); (focus walk_at "arr"); walk_at "f")
  | ((with_reducible apply frm_backF); (focus with_reducible assumption); walk_at "f")
  | ((with_reducible apply back_sqT); (focus walk_at "arr"); walk_at "f")
  | ((with_reducible apply same_sqL); (focus walk_at "arr"); walk_at "f")
  | ((with_reducible apply free_same); (focus with_reducible assumption); walk_at "f")
  | ((with_reducible apply free_frm); (focus with_reducible assumption); (focus with_reducible assumption); walk_at "f")
  | ((with_reducible apply frm_sqL); (focus with_reducible assumption); (focus walk_at "f"); walk_at "f"))
local macro_rules | `(tactic| walk_at "bt") => `(tactic| first
  | with_reducible assumption
  | ((with_reducible apply bt_mul); (focus walk_at "bt"); walk_at "bt")
  | ((with_reducible apply bt_add); (focus walk_at "bt"); walk_at "bt")
  | ((with_reducible apply bt_sub); (focus walk_at "bt"); walk_at "bt")
  | ((with_reducible apply bt_neg); walk_at "bt")
  | ((with_reducible apply bt_div); walk_at "bt")
  | ((with_reducible apply bt_mod); (focus (first | assumption | omega)); walk_at "bt")
  | exact bt_lit (n := 64) (by decide)
  | exact bt_lit (n := 200) (by decide +kernel))
local macro_rules | `(tactic| walk_at "lin") => `(tactic| first
  | exact (by decide : 1 ≤ sizeLine) | exact (by decide : 2 ≤ sizeLine) | exact (by decide : 3 ≤ sizeLine) | exact (by decide : 4 ≤ sizeLine) | exact (by decide : 0 ≤ sizeLine) | exact (by decide : 5 ≤ sizeLine) | exact (by decide : 6 ≤ sizeLine))
local macro_rules | `(tactic| walk_at "dp") => `(tactic| first
  | exact Dp.int _
  | exact DpAll.nil
  | ((with_reducible apply Dp.lst); (focus walk_at "f"); walk_at "dp")
  | ((with_reducible apply Dp.tup); (focus walk_at "f"); walk_at "dp")
  | ((with_reducible apply DpAll.cons); (focus walk_at "dp"); walk_at "dp"))
local macro_rules | `(tactic| walk_at "sv") => `(tactic| first
  | with_reducible rfl
  | walk_at "f"
  | exact rfl
  | walk_at "dp"
  | exact shp_lst [_] | exact shp_lst [_, _] | exact shp_lst [_, _, _] | exact shp_lst [_, _, _, _] | exact shp_tup [_, _] | exact shp_tup [_, _, _]
  | ((apply tyV_lst); walk_at "f")
  | ((with_reducible apply bt_mulW); (focus walk_at "bt"); (focus walk_at "bt"); (focus (first | decide | omega)))
  | ((with_reducible apply bt_divW); (focus (first | decide | assumption | omega)); (focus walk_at "bt"); (focus (first | decide | omega)))
  | ((with_reducible apply bt_divP); (focus (first | decide | assumption | omega)); (focus walk_at "bt"); (focus (first | decide | omega)))
  | exact ⟨by decide, by decide +kernel⟩
  | exact Or.inl (by decide)
  | exact Or.inr (by decide)
  | exact Or.inl ⟨by omega, by omega⟩
  | exact Or.inr ⟨by omega, by omega⟩
  | ((with_reducible apply Or.inl); walk_at "sv")
  | ((with_reducible apply Or.inr); walk_at "sv")
  | ((with_reducible apply Exists.intro); walk_at "sv")
  | ((with_reducible apply And.intro); (focus walk_at "sv"); walk_at "sv")
  | walk_at "lin"
  | decide
  | omega
  | (simp only [List.length_cons, List.length_nil, List.length_map]; first | done | omega))
local macro_rules | `(tactic| walk_at "one") => `(tactic| first
  | ((fail_if_success refine' @Exists.intro (Nat → L2.St → Hp → Prop) _ ?_ ?_); (fail_if_success refine' @Exists.intro (Nat → Nat → L2.St → Hp → Prop) _ ?_ ?_); (fail_if_success refine' @Exists.intro (L2.St → Hp → Prop) _ ?_ ?_); (fail_if_success refine' @Exists.intro (Nat → Nat → Hp → Prop) _ ?_ ?_); (fail_if_success refine' @Exists.intro (Hp → Prop) _ ?_ ?_); apply Exists.intro)
  | (apply And.intro; (focus walk_at "sv"))
  | intro _
  | (apply ifT; (focus rfl))
  | (apply ifF; (focus rfl))
  | ((apply Or.inl); (apply Exists.intro); (apply And.intro); (focus exact rfl))
  | ((apply Or.inl); (apply And.intro); (focus walk_at "f"))
  | ((apply Or.inr); (apply Exists.intro); (apply And.intro); (focus exact rfl))
  | (apply ifTd; (focus (first | assumption | omega)))
  | (apply ifFd; (focus (first | assumption | omega))))
local macro_rules | `(tactic| walk_at "go") => `(tactic| repeat walk_at "one")
local macro_rules | `(tactic| walk_at "nm") => `(tactic| try simp only [List.set_cons_zero, List.set_cons_succ])
local macro_rules | `(tactic| walk_at "gon") => `(tactic| repeat (walk_at "one"; walk_at "nm"))
/- tuples, one after another -/
/- what the law's own steps towards an inverse keep -/
theorem WI.second {a b : Int} (hb : 0 < b) : WI a b b (a % b) 0 1 := by
  have w := (WI.start (a := a) hb).go hb hb
  have m0 := Int.emod_nonneg a (show b ≠ 0 by omega)
  have m1 := Int.emod_lt_of_pos a hb
  have e : a % b / b = 0 := Int.ediv_eq_zero_of_lt m0 m1
  rw [e, Int.zero_mul, Int.zero_mul] at w
  rw [show a % b - 0 = a % b by omega, show (1 : Int) - 0 = 1 by omega] at w
  exact w
theorem lt180 {x : Int} (h0 : 0 ≤ x) (h : x < 2 ^ 180) : Bt 400 x := by
  show x.natAbs < 2 ^ 400
  exact Nat.lt_trans (show x.natAbs < 2 ^ 180 by omega) (by decide +kernel)
def sp_reaches (A : Ad) : Sp := fun vs H Q _ => ∃ (u v x : V) (a b n : Int), vs = [u, v, x] ∧ Num A H u a ∧ Num A H v b ∧ Num A H x n ∧ 1 ≤ a ∧ 1 ≤ b ∧ Bt 400 a ∧ Bt 400 b ∧ Bt 400 n ∧ gc a b = 1 ∧
  ∀ v H', (a * v) % b = 1 % b → Same H H' → Q (.bl (decide (n * v % b * a ≤ n))) H'
theorem ok_reaches (T : Txt K mg A) : FnOk P w K mg base CX0 7 A.f_reaches A.d_reaches ["a", "b", "number"] (sp_reaches A) := by
  refine T.F_reaches.ok sc_reaches (fun vs H Q E h => ?_) (fun cdv Ar outer s H vs Q E hr h => ?_)
  · obtain ⟨_, _, _, _, _, _, rfl, _⟩ := h
    rfl
  · obtain ⟨_, _, _, a, b, n, rfl, h1, h2, h3, a1, b1, ba, bb, bn, hg, k⟩ := h
    have hu := hu_of hr
    refine ⟨_, (pss_cons (ps_asg (pe_call (ok__checked_steps_to T) (hr.mono (by decide)) rfl T.m__checked_steps_to T.F__checked_steps_to.kp T.b__checked_steps_to .nil pass0 (pa_cons (pv 0) (pa_cons (pv 1) (pa_cons (pv 2) pa_nil)))) (pg_tup rfl (pgs_cons (pg_name (i := 3) sc_reaches.nd rfl (Or.inl rfl)) (pgs_cons (pg_name (i := 4) sc_reaches.nd rfl (Or.inl rfl)) (pgs_cons (pg_name (i := 5) sc_reaches.nd rfl (Or.inl rfl)) pgs_nil)))))
      (pss_one (ps_ret (pe_cmpR op_le (pe_op op_mulW (pe_call (ok__least_steps T) (hr.mono (by decide)) rfl T.m__least_steps T.F__least_steps.kp T.b__least_steps .nil pass0 (pa_cons (pv 3) (pa_cons (pv 4) (pa_cons (pv 5) pa_nil)))) (pv 3)) (pv 5) (nomark _))))), ?_⟩
    have a0 : 0 < a := by omega
    have b0 : 0 < b := by omega
    walk_at "go"
    rename_i tp H1 s1 htp v hv
    have bl : Bt 400 (n * v % b) := bt_mod b0 bb
    walk_at "go"
    exact k v _ hv (by walk_at "f")
/- the pairs that lead to a number -/
def Wp (a b n x : Int) (s : Nat) : List V := [.int (x + (s : Int) * b), .int ((n - x * a) / b - (s : Int) * a)]
def sp_all_ways (A : Ad) : Sp := fun vs H Q _ => ∃ (u v x : V) (a b n : Int), vs = [u, v, x] ∧ Num A H u a ∧ Num A H v b ∧ Num A H x n ∧ 1 ≤ a ∧ 1 ≤ b ∧ Bt 400 a ∧ Bt 400 b ∧ Bt 400 n ∧ gc a b = 1 ∧ (∀ v, (a * v) % b = 1 % b → Wy a b n (n * v % b) ≤ 2000) ∧
  ∀ v t as H', (a * v) % b = 1 % b → Same H H' → H' t = some (.tup (as.map V.ref)) → TpA H' as ((List.range (Wy a b n (n * v % b)).toNat).map (Wp a b n (n * v % b))) → Q (.ref t) H'
def sp__law_inverse : Sp := fun vs H Q _ => ∃ (a b : Int), vs = [.int a, .int b] ∧ 0 < b ∧ b < 2 ^ 180 ∧ gc a b = 1 ∧ ∀ x H', 0 ≤ x → x < b → b ∣ (a * x - 1) → Same H H' → Q (.int x) H'
theorem ok__law_inverse (T : Txt K mg A) : FnOk P w K mg base CX0 1 A.f__law_inverse A.d__law_inverse ["_law_p", "_law_q"] sp__law_inverse := by
  refine T.F__law_inverse.ok sc__law_inverse (fun vs H Q E h => ?_) (fun cdv Ar outer s H vs Q E hr h => ?_)
  · obtain ⟨_, _, rfl, _⟩ := h
    rfl
  · obtain ⟨a, b, rfl, b0, bx, hg, k⟩ := h
    have hu := hu_of hr
    refine ⟨_, (pss_cons (ps_asg (pe_tup (pa_cons pe_int (pa_cons pe_int (pa_cons (pv 1) (pa_cons (pe_op op_mod (pe_callTy call_int1 (by rfl) T.b_int (by decide +kernel) (pa_cons (pv 0) pa_nil)) (pv 1)) pa_nil))))) (pg_tup rfl (pgs_cons (pg_name (i := 2) sc__law_inverse.nd rfl (Or.inl rfl)) (pgs_cons (pg_name (i := 3) sc__law_inverse.nd rfl (Or.inl rfl)) (pgs_cons (pg_name (i := 4) sc__law_inverse.nd rfl (Or.inl rfl)) (pgs_cons (pg_name (i := 5) sc__law_inverse.nd rfl (Or.inl rfl)) pgs_nil))))))
      (pss_cons (ps_for PassesOwn.never rfl (pi_range1 rfl T.b_range (pa_cons pe_int pa_nil)) (pg_name (i := 6) sc__law_inverse.nd rfl (Or.inl rfl))
        (pss_cons (ps_if (pt_cmpR op_eq (pv 5) pe_int (nomark _))
            (pss_one ps_break)
            pss_nil)
          (pss_cons (ps_set (i := 7) sc__law_inverse.nd rfl (Or.inl rfl) (pe_op op_fdivW (pv 4) (pv 5)))
          (pss_cons (ps_par (i := 4) (j := 5) (by rfl) sc__law_inverse.nd rfl rfl (by decide) rfl rfl (pa_cons (pv 5) (pa_cons (pe_op op_sub (pv 4) (pe_op op_mulW (pv 7) (pv 5))) pa_nil)) (by rfl))
          (pss_one (ps_par (i := 2) (j := 3) (by rfl) sc__law_inverse.nd rfl rfl (by decide) rfl rfl (pa_cons (pv 3) (pa_cons (pe_op op_sub (pv 2) (pe_op op_mulW (pv 7) (pv 3))) pa_nil)) (by rfl)))))))
      (pss_one (ps_ret (pe_op op_mod (pe_callTy call_int1 (by rfl) T.b_int (by decide +kernel) (pa_cons (pv 2) pa_nil)) (pv 1)))))), ?_⟩
    have bb := lt180 (Int.le_of_lt b0) bx
    have m0 := Int.emod_nonneg a (show b ≠ 0 by omega)
    have m1 := Int.emod_lt_of_pos a b0
    walk_at "go"
    rename_i tp htp
    refine for_range (fun i σ H' => Stop (∃ (one other low high : Int) (v6 v7 : Option V), σ = [some (.int a), some (.int b), some (.int low), some (.int high), some (.int one), some (.int other), v6, v7] ∧ Same H H' ∧ WI a b one other low high ∧ (0 < other → Turn i one other))) ⟨b, a % b, 0, 1, none, none, rfl, same_new htp, WI.second b0, fun _ => turn_zero (by omega)⟩ ?_ ?_
    · rintro i σ H1 hi ⟨⟨one, other, low, high, v6, v7, rfl, s1, W, t⟩⟩
      have o0 := W.o0
      have p0 := W.p0
      have bo : Bt 400 one := bt_le o0 W.ob bb
      have bp : Bt 400 other := bt_le p0 W.pb bb
      obtain ⟨l, hh, l0, h0, lb, hb', _, sg⟩ := W.s
      have c1 := bt_le l0 lb bb
      have c2 := bt_le h0 hb' bb
      have bl : Bt 400 low := by
        rcases sg with ⟨z1, z2⟩ | ⟨z1, z2⟩ <;> subst z1
        · assumption
        · exact bt_neg (by assumption)
      have bh : Bt 400 high := by
        rcases sg with ⟨z1, z2⟩ | ⟨z1, z2⟩ <;> subst z2
        · exact bt_neg (by assumption)
        · assumption
      clear sg
      by_cases h : other = 0
      · subst h
        obtain ⟨f1, f2⟩ := W.fin b0
        obtain ⟨x0, x1, x2⟩ := f2 (by rw [f1]; exact hg)
        walk_at "go"
        exact k _ _ x0 x1 x2 s1
      · have hv : 0 < other := by omega
        have W2 := W.go b0 hv
        have e : one - one / other * other = one % other := by
          have := Int.emod_add_mul_ediv one other
          rw [Int.mul_comm] at this
          omega
        have dz : decide (V.int other = V.int 0) = false := (dec_int' other 0).trans (decide_eq_false h)
        walk_at "go"
        refine ifF dz ?_
        walk_at "go"
        refine ⟨⟨_, _, _, _, _, _, rfl, s1, W2, fun z => ?_⟩⟩
        rw [e] at z ⊢
        exact turn_succ hv z (t hv)
    · rintro σ H1 ⟨⟨one, other, low, high, v6, v7, rfl, s1, W, t⟩⟩
      rcases Int.lt_or_eq_of_le W.p0 with z | z
      · exact absurd (t z) (fun t => turn_no (by decide) z t)
      · subst z
        obtain ⟨f1, f2⟩ := W.fin b0
        obtain ⟨x0, x1, x2⟩ := f2 (by rw [f1]; exact hg)
        walk_at "go"
        exact k _ _ x0 x1 x2 s1
end
end Tk

set_option maxHeartbeats 2000000
namespace Tk
open PySem PySem.Spec PyProof.Rows L2 Tc
section
variable {P : Program} {w : World} {K : PySem.W.Frag} {mg : Str → Option Value} {base : Heap} {A : Ad}
open Tm
local macro_rules | `(tactic| walk_at "arr") => `(tactic| first
  | with_reducible assumption
  | ((with_reducible apply same_new); with_reducible assumption))
local macro_rules | `(tactic| walk_at "f") => `(tactic| first
  | with_reducible assumption
  | with_reducible exact upd_same
  | with_reducible exact Same.refl _
  | with_reducible exact Frm.refl
  | ((with_reducible apply sqL_K); (focus with_reducible assumption); rfl)
  | ((with_reducible apply sqT_K); (focus with_reducible assumption); rfl)
  | ((with_reducible apply SqT.of); walk_at "f")
  | ((with_reducible apply SqL.of); walk_at "f")
  | ((with_reducible apply back_raw); (focus walk_at "arr"); walk_at "f")
  | ((with_reducible apply frm_tup); (focus with_reducible assumption); (focus walk_at "f"); (focus walk_at "f"); (focus (intro _ z; cases z; done)))
  | ((with_reducible apply frm_raw); (focus with_reducible assumption); (focus walk_at "f"); walk_at "f")
  | ((with_reducible apply bowl_back); (focus walk_at "arr"); walk_at "f")
  | ((with_reducible apply bowl_ne); (focus with_reducible assumption); walk_at "f")
  | ((with_reducible apply Num.int); with_reducible assumption)
  | ((with_reducible apply same_snoc); (focus walk_at "arr"); walk_at "f")
  | ((with_reducible apply frm_back); (focus walk_at "arr"); walk_at "f")
  | ((with_reducible apply frm_backF); (focus with_reducible assumption); walk_at "f")
  | ((with_reducible apply back_sqT); (focus walk_at "arr"); walk_at "f")
  | ((with_reducible apply same_sqL); (focus walk_at "arr"); walk_at "f")
  | ((with_reducible apply free_same); (focus with_reducible assumption); walk_at "f")
  | ((with_reducible apply free_frm); (focus with_reducible assumption); (focus with_reducible assumption); walk_at "f")
  | ((with_reducible apply frm_sqL); (focus with_reducible assumption); (focus walk_at "f"); walk_at "f"))
local macro_rules | `(tactic| walk_at "bt") => `(tactic| first
  | with_reducible assumption
  | ((with_reducible apply bt_mul); (focus walk_at "bt"); walk_at "bt")
  | ((with_reducible apply bt_add); (focus walk_at "bt"); walk_at "bt")
  | ((with_reducible apply bt_sub); (focus walk_at "bt"); walk_at "bt")
  | ((with_reducible apply bt_neg); walk_at "bt")
  | ((with_reducible apply bt_div); walk_at "bt")
  | ((with_reducible apply bt_mod); (focus (first | assumption | omega)); walk_at "bt")
  | exact bt_lit (n := 64) (by decide)
  | exact bt_lit (n := 200) (by decide +kernel))
local macro_rules | `(tactic| walk_at "lin") => `(tactic| first
  | exact (by decide : 1 ≤ sizeLine) | exact (by decide : 2 ≤ sizeLine) | exact (by decide : 3 ≤ sizeLine) | exact (by decide : 4 ≤ sizeLine) | exact (by decide : 0 ≤ sizeLine) | exact (by decide : 5 ≤ sizeLine) | exact (by decide : 6 ≤ sizeLine))
local macro_rules | `(tactic| walk_at "dp") => `(tactic| first
  | exact Dp.int _
  | exact DpAll.nil
  | ((with_reducible apply Dp.lst); (focus walk_at "f"); walk_at "dp")
  | ((with_reducible apply Dp.tup); (focus walk_at "f"); walk_at "dp")
  | ((with_reducible apply DpAll.cons); (focus walk_at "dp"); walk_at "dp"))
local macro_rules | `(tactic| walk_at "sv") => `(tactic| first
  | with_reducible rfl
  | walk_at "f"
  | exact rfl
  | walk_at "dp"
  | exact shp_lst [_] | exact shp_lst [_, _] | exact shp_lst [_, _, _] | exact shp_lst [_, _, _, _] | exact shp_tup [_, _] | exact shp_tup [_, _, _]
  | ((apply tyV_lst); walk_at "f")
  | ((with_reducible apply bt_mulW); (focus walk_at "bt"); (focus walk_at "bt"); (focus (first | decide | omega)))
  | ((with_reducible apply bt_divW); (focus (first | decide | assumption | omega)); (focus walk_at "bt"); (focus (first | decide | omega)))
  | ((with_reducible apply bt_divP); (focus (first | decide | assumption | omega)); (focus walk_at "bt"); (focus (first | decide | omega)))
  | exact ⟨by decide, by decide +kernel⟩
  | exact Or.inl (by decide)
  | exact Or.inr (by decide)
  | exact Or.inl ⟨by omega, by omega⟩
  | exact Or.inr ⟨by omega, by omega⟩
  | ((with_reducible apply Or.inl); walk_at "sv")
  | ((with_reducible apply Or.inr); walk_at "sv")
  | ((with_reducible apply Exists.intro); walk_at "sv")
  | ((with_reducible apply And.intro); (focus walk_at "sv"); walk_at "sv")
  | walk_at "lin"
  | decide
  | omega
  | (simp only [List.length_cons, List.length_nil, List.length_map]; first | done | omega))
local macro_rules | `(tactic| walk_at "one") => `(tactic| first
  | ((fail_if_success refine' @Exists.intro (Nat → L2.St → Hp → Prop) _ ?_ ?_); (fail_if_success refine' @Exists.intro (Nat → Nat → L2.St → Hp → Prop) _ ?_ ?_); (fail_if_success refine' @Exists.intro (L2.St → Hp → Prop) _ ?_ ?_); (fail_if_success refine' @Exists.intro (Nat → Nat → Hp → Prop) _ ?_ ?_); (fail_if_success refine' @Exists.intro (Hp → Prop) _ ?_ ?_); apply Exists.intro)
  | (apply And.intro; (focus walk_at "sv"))
  | intro _
  | (apply ifT; (focus rfl))
  | (apply ifF; (focus rfl))
  | ((apply Or.inl); (apply Exists.intro); (apply And.intro); (focus exact rfl))
  | ((apply Or.inl); (apply And.intro); (focus walk_at "f"))
  | ((apply Or.inr); (apply Exists.intro); (apply And.intro); (focus exact rfl))
  | (apply ifTd; (focus (first | assumption | omega)))
  | (apply ifFd; (focus (first | assumption | omega))))
local macro_rules | `(tactic| walk_at "go") => `(tactic| repeat walk_at "one")
local macro_rules | `(tactic| walk_at "nm") => `(tactic| try simp only [List.set_cons_zero, List.set_cons_succ])
local macro_rules | `(tactic| walk_at "gon") => `(tactic| repeat (walk_at "one"; walk_at "nm"))
theorem gcd_pos2 {a c : Int} (ha : 0 < a) (hc : 0 < c) : ∃ x y : Int, a = gc a c * x ∧ c = gc a c * y ∧ 0 < x ∧ 0 < y ∧ a / gc a c = x ∧ c / gc a c = y ∧ gc x y = 1 ∧ 0 < gc a c ∧ gc a c ≤ a ∧ x ≤ a ∧ y ≤ c := by
  obtain ⟨x, y, hx, hy, y0, ex, ey, h1⟩ := gc_parts (a := a) (b := c) hc
  have g0 := gc_pos (a := a) hc
  have x0 : 0 < x := by
    rcases Int.lt_or_le 0 x with z | z
    · exact z
    · have := Int.mul_le_mul_of_nonneg_left z (show 0 ≤ gc a c by omega)
      omega
  refine ⟨x, y, hx, hy, x0, y0, ex, ey, h1, g0, Int.le_of_dvd ha (gc_l ..), ?_, ?_⟩
  · have := mul_ge (x := gc a c) (y := x) (by omega) (by omega)
    omega
  · have := mul_ge (x := gc a c) (y := y) (by omega) (by omega)
    omega
def sp__law_two_drawn : Sp := fun vs H Q _ => ∃ (b : Addr) (m : Int), vs = [.ref b, .int m] ∧ Bowl H b ∧ 0 < m ∧ m ≤ 10 ^ 12 ∧ ∀ p x y H', H p = none → Frm b H H' → Bowl H' b → H' p = some (.tup [.int x, .int y]) → 1 ≤ x → x ≤ m → 1 ≤ y → y ≤ m → gc x y = 1 → Q (.ref p) H'
theorem ok__law_two_drawn (T : Txt K mg A) : FnOk P w K mg base CX0 2 A.f__law_two_drawn A.d__law_two_drawn ["_law_purse", "_law_top"] sp__law_two_drawn := by
  refine T.F__law_two_drawn.ok sc__law_two_drawn (fun vs H Q E h => ?_) (fun cdv Ar outer s H vs Q E hr h => ?_)
  · obtain ⟨_, _, rfl, _⟩ := h
    rfl
  · obtain ⟨b, m, rfl, hB, m0, m1, k⟩ := h
    have hu := hu_of hr
    refine ⟨_, (pss_cons (ps_par (i := 2) (j := 3) (by rfl) sc__law_two_drawn.nd rfl rfl (by decide) rfl rfl (pa_cons (pe_op op_add pe_int (pe_call (ok__law_coin T) (hr.mono (by decide)) rfl T.m__law_coin T.F__law_coin.kp T.b__law_coin .nil pass0 (pa_cons (pv 0) (pa_cons (pv 1) pa_nil)))) (pa_cons (pe_op op_add pe_int (pe_call (ok__law_coin T) (hr.mono (by decide)) rfl T.m__law_coin T.F__law_coin.kp T.b__law_coin .nil pass0 (pa_cons (pv 0) (pa_cons (pv 1) pa_nil)))) pa_nil)) (by rfl))
      (pss_cons (ps_set (i := 4) sc__law_two_drawn.nd rfl (Or.inl rfl) (pe_call (ok__law_common T) (hr.mono (by decide)) rfl T.m__law_common T.F__law_common.kp T.b__law_common .nil pass0 (pa_cons (pv 2) (pa_cons (pv 3) pa_nil))))
      (pss_one (ps_ret (pe_tup (pa_cons (pe_op op_fdivW (pv 2) (pv 4)) (pa_cons (pe_op op_fdivW (pv 3) (pv 4)) pa_nil))))))), ?_⟩
    have nf : m.natAbs < 2 ^ 4000 := Nat.lt_of_lt_of_le (show _ < 2 ^ 64 by omega) (Nat.pow_le_pow_right (by decide) (by decide))
    walk_at "go"
    rename_i r1 H1 a0 a1 f1 B1 r2 H2 c0 c1 f2 B2
    have p180 : (10 : Int) ^ 32 < 2 ^ 180 := by decide +kernel
    obtain ⟨x, y, hx, hy, x0, y0, ex, ey, h1, g0, g1, xa, yc⟩ := gcd_pos2 (a := 1 + r1) (c := 1 + r2) (by omega) (by omega)
    have hy' : (1 + r2).natAbs < 2 ^ 180 := by omega
    have bg : Bt 200 (gc (1 + r1) (1 + r2)) := bt10 (by omega) (by omega) (by decide)
    rw [← ex, ← ey] at h1
    rw [← ex] at x0 xa
    rw [← ey] at y0 yc
    walk_at "go"
    exact k _ _ _ _ (by walk_at "f") (by walk_at "f") (by walk_at "f") upd_same x0 (by omega) y0 (by omega) h1
def sp__law_two_great : Sp := fun vs H Q _ => ∃ (b : Addr), vs = [.ref b] ∧ Bowl H b ∧ ∀ p x y H', H p = none → Frm b H H' → Bowl H' b → H' p = some (.tup [.int x, .int y]) → 1 ≤ x → x ≤ 10 ^ 24 → 1 ≤ y → y ≤ 10 ^ 24 → gc x y = 1 → Q (.ref p) H'
theorem inv_mod {a b v : Int} (h : b ∣ (a * v - 1)) : (a * v) % b = 1 % b := Int.emod_eq_emod_iff_emod_sub_eq_zero.mpr (Int.emod_eq_zero_of_dvd h)
def sp__law_first : Sp := fun vs H Q _ => ∃ (a b n : Int), vs = [.int a, .int b, .int n] ∧ 0 < b ∧ b < 2 ^ 180 ∧ gc a b = 1 ∧ Bt 400 n ∧ ∀ v H', (a * v) % b = 1 % b → Same H H' → Q (.int (n * v % b)) H'
def sp__law_ways : Sp := fun vs H Q _ => ∃ (a b n : Int), vs = [.int a, .int b, .int n] ∧ 0 < a ∧ Bt 400 a ∧ 0 < b ∧ b < 2 ^ 180 ∧ gc a b = 1 ∧ Bt 400 n ∧ ∀ v H', (a * v) % b = 1 % b → Same H H' → Q (.int (Wy a b n (n * v % b))) H'
end
end Tk


set_option maxHeartbeats 2000000
namespace Tk
open PySem PySem.Spec PyProof.Rows L2 Tc
section
variable {P : Program} {w : World} {K : PySem.W.Frag} {mg : Str → Option Value} {base : Heap} {A : Ad}
open Tm
local macro_rules | `(tactic| walk_at "arr") => `(tactic| first
  | with_reducible assumption
  | ((with_reducible apply same_new); with_reducible assumption))
local macro_rules | `(tactic| walk_at "f") => `(tactic| first
  | with_reducible assumption
  | with_reducible exact upd_same
  | with_reducible exact Same.refl _
  | with_reducible exact Frm.refl
  | ((with_reducible apply sqL_K); (focus with_reducible assumption); rfl)
  | ((with_reducible apply sqT_K); (focus with_reducible assumption); rfl)
  | ((with_reducible apply SqT.of); walk_at "f")
  | ((with_reducible apply SqL.of); walk_at "f")
  | ((with_reducible apply back_raw); (focus walk_at "arr"); walk_at "f")
  | ((with_reducible apply frm_tup); (focus with_reducible assumption); (focus walk_at "f"); (focus walk_at "f"); (focus (intro _ z; cases z; done)))
  | ((with_reducible apply frm_raw); (focus with_reducible assumption); (focus walk_at "f"); walk_at "f")
  | ((with_reducible apply bowl_back); (focus walk_at "arr"); walk_at "f")
  | ((with_reducible apply bowl_ne); (focus with_reducible assumption); walk_at "f")
  | ((with_reducible apply Num.int); with_reducible assumption)
  | ((with_reducible apply same_snoc); (focus walk_at "arr"); walk_at "f")
  | ((with_reducible apply frm_back); (focus walk_at "arr"); walk_at "f")
  | ((with_reducible apply frm_backF); (focus with_reducible assumption); walk_at "f")
  | ((with_reducible apply back_sqT); (focus walk_at "arr"); walk_at "f")
  | ((with_reducible apply same_sqL); (focus walk_at "arr"); walk_at "f")
  | ((with_reducible apply free_same); (focus with_reducible assumption); walk_at "f")
  | ((with_reducible apply free_frm); (focus with_reducible assumption); (focus with_reducible assumption); walk_at "f")
  | ((with_reducible apply frm_sqL); (focus with_reducible assumption); (focus walk_at "f"); walk_at "f"))
local macro_rules | `(tactic| walk_at "bt") => `(tactic| first
  | with_reducible assumption
  | ((with_reducible apply bt_mul); (focus walk_at "bt"); walk_at "bt")
  | ((with_reducible apply bt_add); (focus walk_at "bt"); walk_at "bt")
  | ((with_reducible apply bt_sub); (focus walk_at "bt"); walk_at "bt")
  | ((with_reducible apply bt_neg); walk_at "bt")
  | ((with_reducible apply bt_div); walk_at "bt")
  | ((with_reducible apply bt_mod); (focus (first | assumption | omega)); walk_at "bt")
  | exact bt_lit (n := 64) (by decide)
  | exact bt_lit (n := 200) (by decide +kernel))
local macro_rules | `(tactic| walk_at "lin") => `(tactic| first
  | exact (by decide : 1 ≤ sizeLine) | exact (by decide : 2 ≤ sizeLine) | exact (by decide : 3 ≤ sizeLine) | exact (by decide : 4 ≤ sizeLine) | exact (by decide : 0 ≤ sizeLine) | exact (by decide : 5 ≤ sizeLine) | exact (by decide : 6 ≤ sizeLine))
local macro_rules | `(tactic| walk_at "dp") => `(tactic| first
  | exact Dp.int _
  | exact DpAll.nil
  | ((with_reducible apply Dp.lst); (focus walk_at "f"); walk_at "dp")
  | ((with_reducible apply Dp.tup); (focus walk_at "f"); walk_at "dp")
  | ((with_reducible apply DpAll.cons); (focus walk_at "dp"); walk_at "dp"))
local macro_rules | `(tactic| walk_at "sv") => `(tactic| first
  | with_reducible rfl
  | walk_at "f"
  | exact rfl
  | walk_at "dp"
  | exact shp_lst [_] | exact shp_lst [_, _] | exact shp_lst [_, _, _] | exact shp_lst [_, _, _, _] | exact shp_tup [_, _] | exact shp_tup [_, _, _]
  | ((apply tyV_lst); walk_at "f")
  | ((with_reducible apply bt_mulW); (focus walk_at "bt"); (focus walk_at "bt"); (focus (first | decide | omega)))
  | ((with_reducible apply bt_divW); (focus (first | decide | assumption | omega)); (focus walk_at "bt"); (focus (first | decide | omega)))
  | ((with_reducible apply bt_divP); (focus (first | decide | assumption | omega)); (focus walk_at "bt"); (focus (first | decide | omega)))
  | exact ⟨by decide, by decide +kernel⟩
  | exact Or.inl (by decide)
  | exact Or.inr (by decide)
  | exact Or.inl ⟨by omega, by omega⟩
  | exact Or.inr ⟨by omega, by omega⟩
  | ((with_reducible apply Or.inl); walk_at "sv")
  | ((with_reducible apply Or.inr); walk_at "sv")
  | ((with_reducible apply Exists.intro); walk_at "sv")
  | ((with_reducible apply And.intro); (focus walk_at "sv"); walk_at "sv")
  | walk_at "lin"
  | decide
  | omega
  | (simp only [List.length_cons, List.length_nil, List.length_map]; first | done | omega))
local macro_rules | `(tactic| walk_at "one") => `(tactic| first
  | ((fail_if_success refine' @Exists.intro (Nat → L2.St → Hp → Prop) _ ?_ ?_); (fail_if_success refine' @Exists.intro (Nat → Nat → L2.St → Hp → Prop) _ ?_ ?_); (fail_if_success refine' @Exists.intro (L2.St → Hp → Prop) _ ?_ ?_); (fail_if_success refine' @Exists.intro (Nat → Nat → Hp → Prop) _ ?_ ?_); (fail_if_success refine' @Exists.intro (Hp → Prop) _ ?_ ?_); apply Exists.intro)
  | (apply And.intro; (focus walk_at "sv"))
  | intro _
  | (apply ifT; (focus rfl))
  | (apply ifF; (focus rfl))
  | ((apply Or.inl); (apply Exists.intro); (apply And.intro); (focus exact rfl))
  | ((apply Or.inl); (apply And.intro); (focus walk_at "f"))
  | ((apply Or.inr); (apply Exists.intro); (apply And.intro); (focus exact rfl))
  | (apply ifTd; (focus (first | assumption | omega)))
  | (apply ifFd; (focus (first | assumption | omega))))
local macro_rules | `(tactic| walk_at "go") => `(tactic| repeat walk_at "one")
local macro_rules | `(tactic| walk_at "nm") => `(tactic| try simp only [List.set_cons_zero, List.set_cons_succ])
local macro_rules | `(tactic| walk_at "gon") => `(tactic| repeat (walk_at "one"; walk_at "nm"))

local macro_rules | `(tactic| walk_at "arr") => `(tactic| first
  | ((with_reducible apply made2); (focus with_reducible assumption); (focus with_reducible assumption); with_reducible assumption)
  | ((with_reducible apply same_up); (focus with_reducible assumption); with_reducible assumption))
local macro_rules | `(tactic| walk_at "f") => `(tactic| first
  | ((with_reducible apply Num.long); walk_at "f")
  | ((with_reducible apply ratu_back); (focus walk_at "arr"); walk_at "f")
  | ((with_reducible apply ratu_frm); (focus with_reducible assumption); (focus walk_at "f"); walk_at "f")
  | ((with_reducible apply rat_back); (focus walk_at "arr"); walk_at "f")
  | ((with_reducible apply rat_frm); (focus with_reducible assumption); (focus walk_at "f"); walk_at "f")
  | ((with_reducible apply ratb_u); (focus with_reducible assumption); with_reducible assumption)
  | ((with_reducible apply ratb_at); (focus with_reducible assumption); with_reducible assumption)
  | ((with_reducible apply ratb_back); (focus walk_at "arr"); walk_at "f")
  | ((with_reducible apply ratb_frm); (focus with_reducible assumption); (focus walk_at "f"); walk_at "f")
  | ((with_reducible apply Rn.rat); walk_at "f")
  | ((with_reducible apply Rn.int); with_reducible assumption)
  | ((with_reducible apply rat_raw); walk_at "f")
  | ((with_reducible apply ratb_raw); walk_at "f"))
local macro_rules | `(tactic| walk_at "f") => `(tactic| first
  | ((apply ty_rat); (focus assumption); walk_at "f")
  | ((apply ty_ratb); (focus assumption); walk_at "f")
  | exact nf_self
  | exact TyX.base (.int _)
  | ((with_reducible apply Pay.two); (focus with_reducible assumption); (focus with_reducible assumption); (focus (first | with_reducible assumption | decide)); (first | with_reducible assumption | rfl))
  | ((with_reducible apply nf_K); (focus with_reducible assumption); rfl)
  | exact bt_lit (by decide +kernel))
local macro_rules | `(tactic| walk_at "one") => `(tactic| ((apply Or.inl); (apply Exists.intro); (apply Exists.intro); (apply And.intro); (focus exact rfl)))
local macro_rules | `(tactic| walk_at "f") => `(tactic| first
  | ((with_reducible apply frT_K); (focus with_reducible assumption); rfl)
  | ((with_reducible apply frt); (focus with_reducible assumption))
  | ((with_reducible apply frt_back); (focus walk_at "arr"); walk_at "f")
  | ((with_reducible apply frt_frm); (focus with_reducible assumption); (focus walk_at "f"); walk_at "f"))
local macro_rules | `(tactic| walk_at "sv") => `(tactic| first
  | ((with_reducible refine lt_line ?_); simp only [List.length_append, List.length_cons, List.length_nil, List.length_map, List.length_replicate, List.length_range]; omega)
  | ((with_reducible refine Nat.le_of_lt (lt_line ?_)); simp only [List.length_append, List.length_cons, List.length_nil, List.length_map, List.length_replicate, List.length_range]; omega))
def sp__gap_count : Sp := fun vs H Q _ => ∃ (a b : Int), vs = [.int a, .int b] ∧ Bt 400 a ∧ Bt 400 b ∧ Q (.int ((a - 1) * (b - 1) / 2)) H
theorem ok__gap_count (T : Txt K mg A) : FnOk P w K mg base CX0 1 A.f__gap_count A.d__gap_count ["a", "b"] sp__gap_count := by
  refine T.F__gap_count.ok sc__gap_count (fun vs H Q E h => ?_) (fun cdv Ar outer s H vs Q E hr h => ?_)
  · obtain ⟨_, _, rfl, _⟩ := h
    rfl
  · obtain ⟨a, b, rfl, ba, bb, k⟩ := h
    have hu := hu_of hr
    refine ⟨_, (pss_one (ps_ret (pe_op op_fdivW (pe_op op_mulW (pe_op op_sub (pv 0) pe_int) (pe_op op_sub (pv 1) pe_int)) pe_int))), ?_⟩
    walk_at "go"
    exact k
def sp__last_gap : Sp := fun vs H Q _ => ∃ (a b : Int), vs = [.int a, .int b] ∧ Bt 400 a ∧ Bt 400 b ∧ Q (.int (a * b - a - b)) H
theorem ok__last_gap (T : Txt K mg A) : FnOk P w K mg base CX0 1 A.f__last_gap A.d__last_gap ["a", "b"] sp__last_gap := by
  refine T.F__last_gap.ok sc__last_gap (fun vs H Q E h => ?_) (fun cdv Ar outer s H vs Q E hr h => ?_)
  · obtain ⟨_, _, rfl, _⟩ := h
    rfl
  · obtain ⟨a, b, rfl, ba, bb, k⟩ := h
    have hu := hu_of hr
    refine ⟨_, (pss_one (ps_ret (pe_op op_sub (pe_op op_sub (pe_op op_mulW (pv 0) (pv 1)) (pv 0)) (pv 1)))), ?_⟩
    walk_at "go"
    exact k
def sp__checked_steps (A : Ad) : Sp := fun vs H Q _ => ∃ (u v : V) (a b : Int), vs = [u, v] ∧ Num A H u a ∧ Num A H v b ∧ 1 ≤ a ∧ 1 ≤ b ∧ gc a b = 1 ∧ ∀ p H', Same H H' → H' p = some (.tup [.int a, .int b]) → Q (.ref p) H'
theorem ok__checked_steps (T : Txt K mg A) : FnOk P w K mg base CX0 6 A.f__checked_steps A.d__checked_steps ["a", "b"] (sp__checked_steps A) := by
  refine T.F__checked_steps.ok sc__checked_steps (fun vs H Q E h => ?_) (fun cdv Ar outer s H vs Q E hr h => ?_)
  · obtain ⟨_, _, _, _, rfl, _⟩ := h
    rfl
  · obtain ⟨_, _, a, b, rfl, h1, h2, h4, h5, hg, k⟩ := h
    have hu := hu_of hr
    refine ⟨_, (pss_cons (ps_par (i := 2) (j := 3) (by rfl) sc__checked_steps.nd rfl rfl (by decide) rfl rfl (pa_cons (pe_call (ok_checked_from T) (hr.mono (by decide)) rfl T.m_checked_from T.F_checked_from.kp T.b_checked_from .nil pass0 (pa_cons pe_int (pa_cons (pv 0) pa_nil))) (pa_cons (pe_call (ok_checked_from T) (hr.mono (by decide)) rfl T.m_checked_from T.F_checked_from.kp T.b_checked_from .nil pass0 (pa_cons pe_int (pa_cons (pv 1) pa_nil))) pa_nil)) (by rfl))
      (pss_cons (ps_expr (pe_call (ok_check_coprime T) (hr.mono (by decide)) rfl T.m_check_coprime T.F_check_coprime.kp T.b1_check_coprime.choose_spec.2 T.b1_check_coprime.choose_spec.1 pass0 (pa_cons (pv 2) (pa_cons (pv 3) pa_nil))))
      (pss_one (ps_ret (pe_tup (pa_cons (pv 2) (pa_cons (pv 3) pa_nil))))))), ?_⟩
    walk_at "go"
    exact k _ _ (by walk_at "f") upd_same
def sp_gap_count (A : Ad) : Sp := fun vs H Q _ => ∃ (u v : V) (a b : Int), vs = [u, v] ∧ Num A H u a ∧ Num A H v b ∧ 1 ≤ a ∧ 1 ≤ b ∧ gc a b = 1 ∧ Bt 400 a ∧ Bt 400 b ∧ ∀ H', Same H H' → Q (.int ((a - 1) * (b - 1) / 2)) H'
theorem ok_gap_count (T : Txt K mg A) : FnOk P w K mg base CX0 7 A.f_gap_count A.d_gap_count ["a", "b"] (sp_gap_count A) := by
  refine T.F_gap_count.ok sc_gap_count (fun vs H Q E h => ?_) (fun cdv Ar outer s H vs Q E hr h => ?_)
  · obtain ⟨_, _, _, _, rfl, _⟩ := h
    rfl
  · obtain ⟨_, _, a, b, rfl, h1, h2, h4, h5, hg, ba, bb, k⟩ := h
    have hu := hu_of hr
    refine ⟨_, (pss_cons (ps_asg (pe_call (ok__checked_steps T) (hr.mono (by decide)) rfl T.m__checked_steps T.F__checked_steps.kp T.b__checked_steps .nil pass0 (pa_cons (pv 0) (pa_cons (pv 1) pa_nil))) (pg_tup rfl (pgs_cons (pg_name (i := 2) sc_gap_count.nd rfl (Or.inl rfl)) (pgs_cons (pg_name (i := 3) sc_gap_count.nd rfl (Or.inl rfl)) pgs_nil))))
      (pss_one (ps_ret (pe_call (ok__gap_count T) (hr.mono (by decide)) rfl T.m__gap_count T.F__gap_count.kp T.b__gap_count .nil pass0 (pa_cons (pv 2) (pa_cons (pv 3) pa_nil)))))), ?_⟩
    walk_at "go"
    exact k _ (by walk_at "f")
def sp_gap_total (A : Ad) : Sp := fun vs H Q _ => ∃ (u v : V) (a b : Int), vs = [u, v] ∧ Num A H u a ∧ Num A H v b ∧ 1 ≤ a ∧ 1 ≤ b ∧ gc a b = 1 ∧ Bt 400 a ∧ Bt 400 b ∧ ∀ H', Same H H' → Q (.int ((a - 1) * (b - 1) * (2 * a * b - a - b - 1) / 12)) H'
theorem ok_gap_total (T : Txt K mg A) : FnOk P w K mg base CX0 7 A.f_gap_total A.d_gap_total ["a", "b"] (sp_gap_total A) := by
  refine T.F_gap_total.ok sc_gap_total (fun vs H Q E h => ?_) (fun cdv Ar outer s H vs Q E hr h => ?_)
  · obtain ⟨_, _, _, _, rfl, _⟩ := h
    rfl
  · obtain ⟨_, _, a, b, rfl, h1, h2, h4, h5, hg, ba, bb, k⟩ := h
    have hu := hu_of hr
    refine ⟨_, (pss_cons (ps_asg (pe_call (ok__checked_steps T) (hr.mono (by decide)) rfl T.m__checked_steps T.F__checked_steps.kp T.b__checked_steps .nil pass0 (pa_cons (pv 0) (pa_cons (pv 1) pa_nil))) (pg_tup rfl (pgs_cons (pg_name (i := 2) sc_gap_total.nd rfl (Or.inl rfl)) (pgs_cons (pg_name (i := 3) sc_gap_total.nd rfl (Or.inl rfl)) pgs_nil))))
      (pss_one (ps_ret (pe_op op_fdivW (pe_op op_mulW (pe_op op_mulW (pe_op op_sub (pv 2) pe_int) (pe_op op_sub (pv 3) pe_int)) (pe_op op_sub (pe_op op_sub (pe_op op_sub (pe_op op_mulW (pe_op op_mul pe_int (pv 2)) (pv 3)) (pv 2)) (pv 3)) pe_int)) pe_int)))), ?_⟩
    walk_at "go"
    exact k _ (by walk_at "f")
def sp__gaps_below : Sp := fun vs H Q _ => ∃ (a b L : Int), vs = [.int a, .int b, .int L] ∧ 0 < a ∧ 0 < b ∧ Bt 300 a ∧ Bt 300 b ∧ Bt 300 L ∧ ∀ H', Same H H' → Q (.int (gB a b L)) H'
theorem ok__gaps_below (T : Txt K mg A) : FnOk P w K mg base CX0 3 A.f__gaps_below A.d__gaps_below ["a", "b", "limit"] sp__gaps_below := by
  refine T.F__gaps_below.ok sc__gaps_below (fun vs H Q E h => ?_) (fun cdv Ar outer s H vs Q E hr h => ?_)
  · obtain ⟨_, _, _, rfl, _⟩ := h
    rfl
  · obtain ⟨a, b, L, rfl, a0, b0, ba, bb, bL, k⟩ := h
    have hu := hu_of hr
    refine ⟨_, (pss_cons (ps_if (pt_cmpR op_gt (pv 2) (pe_call (ok__last_gap T) (hr.mono (by decide)) rfl T.m__last_gap T.F__last_gap.kp T.b__last_gap .nil pass0 (pa_cons (pv 0) (pa_cons (pv 1) pa_nil))) (nomark _))
        (pss_one (ps_ret (pe_call (ok__gap_count T) (hr.mono (by decide)) rfl T.m__gap_count T.F__gap_count.kp T.b__gap_count .nil pass0 (pa_cons (pv 0) (pa_cons (pv 1) pa_nil)))))
        pss_nil)
      (pss_one (ps_ret (pe_ifExp (pt_cmpR op_gt (pv 2) pe_int (nomark _)) (pe_op op_sub (pv 2) (pe_call (ok_points_up_to T) (hr.mono (by decide)) rfl T.m_points_up_to T.F_points_up_to.kp T.b_points_up_to .nil pass0 (pa_cons (pv 0) (pa_cons (pv 1) (pa_cons (pe_op op_sub (pv 2) pe_int) pa_nil))))) pe_int)))), ?_⟩
    have bL1 : Bt 398 (L - 1) := (bt_sub bL (bt_lit (n := 1) (x := 1) (by decide))).mono (by decide)
    have ba3 := ba.mono (show 300 ≤ 398 by decide)
    have bb3 := bb.mono (show 300 ≤ 398 by decide)
    have ba4 := ba.mono (show 300 ≤ 400 by decide)
    have bb4 := bb.mono (show 300 ≤ 400 by decide)
    clear ba bb
    unfold gB at k
    walk_at "go"
    refine ite2 (fun h => ?_) (fun h => ?_)
    · have h : a * b - a - b < L := of_decide_eq_true h
      rw [if_pos h] at k
      walk_at "go"
      exact k _ (by walk_at "f")
    · have h : ¬ a * b - a - b < L := fun z => h (decide_eq_true z)
      rw [if_neg h] at k
      walk_at "go"
      refine ite2 (fun h2 => ?_) (fun h2 => ?_)
      · have h2 : 0 < L := of_decide_eq_true h2
        rw [if_pos h2] at k
        walk_at "go"
        exact k _ (by walk_at "f")
      · have h2 : ¬ 0 < L := fun z => h2 (decide_eq_true z)
        rw [if_neg h2] at k
        walk_at "go"
        exact k _ (by walk_at "f")
def sp_gaps_below (A : Ad) : Sp := fun vs H Q _ => ∃ (u v x : V) (a b L : Int), vs = [u, v, x] ∧ Num A H u a ∧ Num A H v b ∧ Num A H x L ∧ 1 ≤ a ∧ 1 ≤ b ∧ gc a b = 1 ∧ Bt 300 a ∧ Bt 300 b ∧ Bt 300 L ∧ ∀ H', Same H H' → Q (.int (gB a b L)) H'
theorem ok_gaps_below (T : Txt K mg A) : FnOk P w K mg base CX0 7 A.f_gaps_below A.d_gaps_below ["a", "b", "limit"] (sp_gaps_below A) := by
  refine T.F_gaps_below.ok sc_gaps_below (fun vs H Q E h => ?_) (fun cdv Ar outer s H vs Q E hr h => ?_)
  · obtain ⟨_, _, _, _, _, _, rfl, _⟩ := h
    rfl
  · obtain ⟨_, _, _, a, b, L, rfl, h1, h2, h3, h4, h5, hg, ba, bb, bL, k⟩ := h
    have hu := hu_of hr
    refine ⟨_, (pss_cons (ps_asg (pe_call (ok__checked_steps_to T) (hr.mono (by decide)) rfl T.m__checked_steps_to T.F__checked_steps_to.kp T.b__checked_steps_to .nil pass0 (pa_cons (pv 0) (pa_cons (pv 1) (pa_cons (pv 2) pa_nil)))) (pg_tup rfl (pgs_cons (pg_name (i := 3) sc_gaps_below.nd rfl (Or.inl rfl)) (pgs_cons (pg_name (i := 4) sc_gaps_below.nd rfl (Or.inl rfl)) (pgs_cons (pg_name (i := 5) sc_gaps_below.nd rfl (Or.inl rfl)) pgs_nil)))))
      (pss_one (ps_ret (pe_call (ok__gaps_below T) (hr.mono (by decide)) rfl T.m__gaps_below T.F__gaps_below.kp T.b__gaps_below .nil pass0 (pa_cons (pv 3) (pa_cons (pv 4) (pa_cons (pv 5) pa_nil))))))), ?_⟩
    have a0 : 0 < a := by omega
    have b0 : 0 < b := by omega
    walk_at "go"
    exact k _ (by walk_at "f")
def sp__law_low : Sp := fun vs H Q _ => ∃ (x y : Int), vs = [.int x, .int y] ∧ 0 < y ∧ Bt 400 x ∧ Bt 170 y ∧ ∀ t H', H t = none → Same H H' → H' t = some (.tup [.int (Rat.divInt x y).num, .int ((Rat.divInt x y).den : Int)]) → Q (.ref t) H'
theorem ok__law_low (T : Txt K mg A) : FnOk P w K mg base CX0 2 A.f__law_low A.d__law_low ["_law_top", "_law_bottom"] sp__law_low := by
  refine T.F__law_low.ok sc__law_low (fun vs H Q E h => ?_) (fun cdv Ar outer s H vs Q E hr h => ?_)
  · obtain ⟨_, _, rfl, _⟩ := h
    rfl
  · obtain ⟨x, y, rfl, y0, bx, by', k⟩ := h
    have hu := hu_of hr
    refine ⟨_, (pss_cons (ps_if (pt_cmpR op_lt (pv 1) pe_int (nomark _))
        (pss_one (ps_par (i := 0) (j := 1) (by rfl) sc__law_low.nd rfl rfl (by decide) rfl rfl (pa_cons (pe_un un_neg (pv 0)) (pa_cons (pe_un un_neg (pv 1)) pa_nil)) (by rfl)))
        pss_nil)
      (pss_cons (ps_set (i := 2) sc__law_low.nd rfl (Or.inl rfl) (pe_callB (call_max2 rfl) (by rfl) T.b_max (by decide +kernel) (pa_cons pe_int (pa_cons (pe_call (ok__law_common T) (hr.mono (by decide)) rfl T.m__law_common T.F__law_common.kp T.b__law_common .nil pass0 (pa_cons (pv 0) (pa_cons (pv 1) pa_nil))) pa_nil))))
      (pss_one (ps_ret (pe_tup (pa_cons (pe_op op_fdivW (pv 0) (pv 2)) (pa_cons (pe_op op_fdivW (pv 1) (pv 2)) pa_nil))))))), ?_⟩
    have y1 : ¬ y < 0 := by omega
    have y2 : y.natAbs < 2 ^ 180 := by'.mono (by decide)
    have g0 := gc_pos (a := x) y0
    have bg : Bt 170 (gc x y) := bt_le (by omega) (Int.le_of_dvd y0 (gc_r ..)) by'
    have fn : x / gc x y = (Rat.divInt x y).num := by
      have := frac_num (x := x) (y := y) (by omega)
      rw [if_pos y0, Int.one_mul] at this
      exact this
    have fd : y / gc x y = ((Rat.divInt x y).den : Int) := by
      have := frac_den (x := x) (y := y) (by omega)
      rw [if_pos y0, Int.one_mul] at this
      exact this
    have em : (if gc x y > 1 then gc x y else 1) = gc x y := by split <;> omega
    rw [← fn, ← fd] at k
    walk_at "go"
    simp only [em]
    walk_at "go"
    exact k _ _ (by walk_at "f") (by walk_at "f") upd_same
theorem t1_bdK {a b : Int} (b0 : 0 < b) (bb : Bt 60 b) (hg : gc a b = 1) : Bt 200 (T1 a b) := by
  obtain ⟨n, rfl⟩ : ∃ n : Nat, b = n := ⟨b.toNat, by omega⟩
  have h1 := T1_le (a := a) (n := n) (by omega) hg
  have h2 := T1_ge (a := a) (n := n) (by omega) hg
  have h3 : Bt 200 (((n : Int) - 1) * ((n : Int) - 2)) := (bt_mul (bt_sub bb (bt_lit (n := 1) (x := 1) (by decide))) (bt_sub bb (bt_lit (n := 2) (x := 2) (by decide)))).mono (by decide)
  have h3 : ((((n : Int) - 1) * ((n : Int) - 2))).natAbs < 2 ^ 200 := h3
  show (T1 a n).natAbs < 2 ^ 200
  generalize ((n : Int) - 1) * ((n : Int) - 2) = z at *
  omega
def sp__law_sum : Sp := fun vs H Q _ => ∃ (a b : Int), vs = [.int a, .int b] ∧ 0 < b ∧ Bt 60 a ∧ Bt 60 b ∧ ∀ t H', H t = none → Same H H' → H' t = some (.tup [.int (Rat.divInt (TT a b) (12 * b)).num, .int ((Rat.divInt (TT a b) (12 * b)).den : Int)]) → Q (.ref t) H'
theorem ok__law_sum (T : Txt K mg A) : FnOk P w K mg base CX0 3 A.f__law_sum A.d__law_sum ["_law_a", "_law_b"] sp__law_sum := by
  refine T.F__law_sum.ok sc__law_sum (fun vs H Q E h => ?_) (fun cdv Ar outer s H vs Q E hr h => ?_)
  · obtain ⟨_, _, rfl, _⟩ := h
    rfl
  · obtain ⟨a, b, rfl, b0, ba, bb, k⟩ := h
    have hu := hu_of hr
    refine ⟨_, (pss_cons (ps_set (i := 2) sc__law_sum.nd rfl (Or.inl rfl) (pe_call (ok__law_common T) (hr.mono (by decide)) rfl T.m__law_common T.F__law_common.kp T.b__law_common .nil pass0 (pa_cons (pv 0) (pa_cons (pv 1) pa_nil))))
      (pss_cons (ps_set (i := 3) sc__law_sum.nd rfl (Or.inl rfl) (pe_op op_fdivW (pv 1) (pv 2)))
      (pss_cons (ps_par (i := 4) (j := 5) (by rfl) sc__law_sum.nd rfl rfl (by decide) rfl rfl (pa_cons (pe_op op_mod (pe_callTy call_int1 (by rfl) T.b_int (by decide +kernel) (pa_cons (pe_op op_fdivW (pv 0) (pv 2)) pa_nil)) (pv 3)) (pa_cons (pe_lst pa_nil) pa_nil)) (by rfl))
      (Evl.pss_cut (ps_for PassesOwn.never rfl (pi_range1 rfl T.b_range (pa_cons pe_int pa_nil)) (pg_name (i := 6) sc__law_sum.nd rfl (Or.inl rfl))
        (pss_cons (ps_if (pt_cmpR op_eq (pv 4) pe_int (nomark _))
            (pss_one ps_break)
            pss_nil)
          (pss_cons (ps_expr (pe_bm PySem.F.plainAttrs_list PySem.F.slot_list_append PySem.F.type_list_append mt_append (pv 5) (pa_cons (pe_tup (pa_cons (pv 4) (pa_cons (pv 3) pa_nil))) pa_nil)))
          (pss_one (ps_par (i := 4) (j := 3) (by rfl) sc__law_sum.nd rfl rfl (by decide) rfl rfl (pa_cons (pe_op op_mod (pe_callTy call_int1 (by rfl) T.b_int (by decide +kernel) (pa_cons (pv 3) pa_nil)) (pv 4)) (pa_cons (pv 4) pa_nil)) (by rfl))))))
      (pss_cons (ps_set (i := 7) sc__law_sum.nd rfl (Or.inl rfl) pe_int)
      (pss_cons (ps_for PassesOwn.never rfl (pi_list (pe_revL (pv 5))) (pg_tup rfl (pgs_cons (pg_name (i := 4) sc__law_sum.nd rfl (Or.inl rfl)) (pgs_cons (pg_name (i := 3) sc__law_sum.nd rfl (Or.inl rfl)) pgs_nil)))
        (pss_one (ps_set (i := 7) sc__law_sum.nd rfl (Or.inl rfl) (pe_op op_fdivW (pe_op op_sub (pe_op op_sub (pe_op op_add (pe_op op_add (pe_op op_mulW (pv 4) (pv 4)) (pe_op op_mulW (pv 3) (pv 3))) pe_int) (pe_op op_mulW (pe_op op_mul pe_int (pv 4)) (pv 3))) (pe_op op_mulW (pv 3) (pv 7))) (pv 4)))))
      (pss_one (ps_ret (pe_call (ok__law_low T) (hr.mono (by decide)) rfl T.m__law_low T.F__law_low.kp T.b__law_low .nil pass0 (pa_cons (pv 7) (pa_cons (pe_op op_mul pe_int (pe_op op_fdivW (pv 1) (pv 2))) pa_nil))))))))))), ?_⟩
    have g0 := gc_pos (a := a) b0
    obtain ⟨x, y, hx, hy, y0, ex, ey, h1⟩ := gc_parts (a := a) b0
    have gb : gc a b ≤ b := Int.le_of_dvd b0 (gc_r ..)
    have bg : Bt 60 (gc a b) := bt_le (by omega) gb bb
    have by' : Bt 60 y := bt_le (by omega) (show y ≤ b by have := mul_ge (x := gc a b) (y := y) (by omega) (by omega); omega) bb
    have b180 : b.natAbs < 2 ^ 180 := bb.mono (by decide)
    have bx : Bt 61 (a / gc a b) := bt_div ba
    have m0 := Int.emod_nonneg x (show y ≠ 0 by omega)
    have m1 := Int.emod_lt_of_pos x y0
    have gy : 0 < b / gc a b := by rw [ey]; exact y0
    rw [← t_low12 hy ex ey h1 g0, TT_one h1] at k
    have y180 : y < 2 ^ 180 := by
      have h : y.natAbs < 2 ^ 60 := by'
      have e : (2 : Int) ^ 60 < 2 ^ 180 := by decide +kernel
      have e2 : ((2 : Nat) ^ 60 : Nat) = (2 : Int) ^ 60 := by norm_cast
      omega
    walk_at "go"
    rename_i l hl
    simp only [ex, ey]
    refine ⟨fun σ H' => Stop (∃ (q : Int) (as : List Addr) (ps : List (Int × Int)) (v6 : Option V), σ = [some (.int a), some (.int b), some (.int (gc a b)), some (.int q), some (.int 0), some (.ref l), v6, none] ∧ Same H H' ∧ H' l = some (.lst (as.map V.ref)) ∧ TpA H' as (ps.map pr2) ∧
      Chn x y ps.reverse 0 q ∧ 0 < q ∧ q ≤ y ∧ gc 0 q = 1 ∧ ps.length ≤ 5000), ?_, ?_⟩
    · walk_at "go"
      refine for_range (lo := 0) (fun i σ H' => Stop (∃ (p q : Int) (as : List Addr) (ps : List (Int × Int)) (v6 : Option V), σ = [some (.int a), some (.int b), some (.int (gc a b)), some (.int q), some (.int p), some (.ref l), v6, none] ∧ Same H H' ∧ H' l = some (.lst (as.map V.ref)) ∧ TpA H' as (ps.map pr2) ∧
      Chn x y ps.reverse p q ∧ 0 ≤ p ∧ p < q ∧ q ≤ y ∧ gc p q = 1 ∧ ps.length ≤ i ∧ (0 < p → Turn i q p)))
        ⟨x % y, y, [], [], none, rfl, same_new hl, upd_same, .nil, ⟨rfl, rfl⟩, m0, m1, Int.le_refl _, by rw [gc_mod]; exact h1, Nat.le_refl _, fun _ => turn_zero (by omega)⟩ ?_ ?_
      · rintro i σ H1 hi ⟨⟨p, q, as, ps, v6, rfl, g1, g2, g3, c1, p0, pq, qy, hg, len, tn⟩⟩
        have hi : i < 5000 := hi
        have ll := g3.len
        rw [List.length_map] at ll
        have lq : (as.map V.ref).length < sizeLine := lt_line (by rw [List.length_map]; omega)
        have bp : Bt 60 p := bt_le p0 (by omega) by'
        have bq : Bt 60 q := bt_le (by omega) qy by'
        by_cases h : p = 0
        · subst h
          walk_at "go"
          exact ⟨_, _, _, _, rfl, g1, g2, g3, c1, pq, qy, hg, by omega⟩
        · have pp : 0 < p := by omega
          have dz : decide (V.int p = V.int 0) = false := (dec_int' p 0).trans (decide_eq_false h)
          have r0 := Int.emod_nonneg q (show p ≠ 0 by omega)
          have r1 := Int.emod_lt_of_pos q pp
          walk_at "go"
          refine ifF dz ?_
          walk_at "go"
          rename_i t ht
          have st := same_new (o := .tup [.int p, .int q]) ht
          have gl := st _ _ g2
          have sF := same_mut (o := .lst (as.map V.ref ++ [V.ref t])) (g1.trans st) hl
          refine ⟨q % p, p, as ++ [t], ps ++ [(p, q)], _, rfl, sF, ?_, ?_, ?_, r0, r1, by omega, by rw [gc_mod, gc_comm]; exact hg, ?_, fun z => turn_succ pp z (tn pp)⟩
          · rw [upd_same, ← map_snoc]
          · rw [List.map_append]
            exact TpA.snoc (tup_mut gl _ _ upd_same) (g3.stay fun b xs e => tup_mut gl _ _ (st _ _ e))
          · rw [List.reverse_append]
            exact ⟨pp, pq, hg, qy, rfl, rfl, c1⟩
          · rw [List.length_append]
            show ps.length + 1 ≤ i + 1
            omega
      · rintro σ H1 ⟨⟨p, q, as, ps, v6, rfl, g1, g2, g3, c1, p0, pq, qy, hg, len, tn⟩⟩
        rcases Int.lt_or_eq_of_le p0 with z | z
        · exact absurd (tn z) (fun t => turn_no (by decide) z t)
        · subst z
          walk_at "go"
          exact ⟨_, _, _, _, rfl, g1, g2, g3, c1, pq, qy, hg, len⟩
    · rintro σ H1 ⟨⟨q, as, ps, v6, rfl, g1, g2, g3, c1, pq, qy, hg, len⟩⟩
      have ll := g3.len
      rw [List.length_map] at ll
      walk_at "go"
      rename_i p2 h2
      refine for_list (K := K) (a := p2) (xs := (as.map V.ref).reverse) (fun i σ H' => Stop (∃ (p' q' : Int) (v4 v5 : Option V), σ = [some (.int a), some (.int b), some (.int (gc a b)), v5, v4, some (.ref l), v6, some (.int (TT p' q'))] ∧
        Same H H' ∧ H' p2 = some (.lst (as.map V.ref).reverse) ∧ TpA H' as (ps.map pr2) ∧ Chn x y (ps.reverse.drop i) p' q' ∧ 0 ≤ p' ∧ p' < q' ∧ q' ≤ y ∧ gc p' q' = 1))
        ⟨0, q, some (.int 0), some (.int q), ?_, g1.trans (same_new h2), upd_same, g3.stay (fun b xs e => same_new h2 _ _ e), c1, Int.le_refl _, pq, qy, hg⟩
        (fun i σ H' _ ⟨_, _, _, _, _, _, g, _⟩ => SqL.of g) ?_ ?_
      · rw [TT_zero (by omega)]
        rfl
      · rintro i v σ H2 hv ⟨⟨p', q', v4, v5, rfl, s3, g4, g5, c5, p0', pq', qy', hg'⟩⟩
        rw [← List.map_reverse] at hv
        obtain ⟨c, hc, rfl⟩ : ∃ c, as.reverse[i]? = some c ∧ v = V.ref c := by
          rw [List.getElem?_map] at hv
          cases e : as.reverse[i]? with
          | none => rw [e] at hv; cases hv
          | some c =>
            rw [e] at hv
            exact ⟨c, rfl, (Option.some.inj hv).symm⟩
        obtain ⟨y2, hy1, hy2⟩ := g5.rev.get hc
        rw [← List.map_reverse, List.getElem?_map] at hy1
        obtain ⟨c2, e2, rfl⟩ : ∃ c2, ps.reverse[i]? = some c2 ∧ y2 = pr2 c2 := by
          cases e : ps.reverse[i]? with
          | none => rw [e] at hy1; cases hy1
          | some c2 =>
            rw [e] at hy1
            exact ⟨c2, rfl, (Option.some.inj hy1).symm⟩
        obtain ⟨P, Q2⟩ := c2
        have ed : ps.reverse.drop i = (P, Q2) :: ps.reverse.drop (i + 1) := by
          obtain ⟨hi, e3⟩ := List.getElem?_eq_some_iff.mp e2
          rw [List.drop_eq_getElem_cons hi, e3]
        rw [ed] at c5
        obtain ⟨P0, PQ, PG, QY, ep, eq, c6⟩ := c5
        have P0 : 0 < P := P0
        have PQ : P < Q2 := PQ
        have QY : Q2 ≤ y := QY
        have PG : gc P Q2 = 1 := PG
        have ep : p' = Q2 % P := ep
        have eq : q' = P := eq
        have hy2 : H2 c = some (.tup [.int P, .int Q2]) := hy2
        have bP : Bt 60 P := bt_le (by omega) (show P ≤ y by omega) by'
        have bQ : Bt 60 Q2 := bt_le (by omega) QY by'
        have bF : Bt 200 (TT p' q') := by rw [TT_one hg']; exact t1_bdK (by omega) (bt_le (by omega) qy' by') hg'
        have cs := chn_step (f := TT p' q') P0 PQ PG (by rw [ep, eq])
        walk_at "go"
        refine ⟨P, Q2, some (.int P), some (.int Q2), ?_, s3, g4, g5, c6, by omega, PQ, QY, PG⟩
        rw [← cs]
        rfl
      · rintro σ H2 ⟨⟨p', q', v4, v5, rfl, s3, g4, g5, c5, p0', pq', qy', hg'⟩⟩
        have el : (as.map V.ref).reverse.length = ps.reverse.length := by rw [List.length_reverse, List.length_map, List.length_reverse, ll]
        rw [el, List.drop_length] at c5
        obtain ⟨ep, eq⟩ := c5
        have bF : Bt 200 (TT p' q') := by rw [TT_one hg']; exact t1_bdK (by omega) (bt_le (by omega) qy' by') hg'
        have bF4 := bF.mono (show 200 ≤ 400 by decide)
        have y12 : 0 < 12 * y := by omega
        have b12 : Bt 170 (12 * y) := (bt_mul (bt_lit (n := 4) (x := 12) (by decide)) by').mono (by decide)
        rw [ep, eq] at bF4
        rw [ep, eq]
        have y12' : 0 < 12 * (b / gc a b) := by rw [ey]; exact y12
        have b12' : Bt 170 (12 * (b / gc a b)) := by rw [ey]; exact b12
        have fe : Rat.divInt (TT (x % y) y) (12 * (b / gc a b)) = Rat.divInt (T1 x y) (12 * y) := by rw [ey, TT_mod y0, TT_one h1]
        rw [← fe] at k
        walk_at "go"
        exact k _ _ (by walk_at "f") (by walk_at "f") (by walk_at "f")
end
end Tk


set_option maxHeartbeats 2000000
namespace Tk
open PySem PySem.Spec PyProof.Rows L2 Tc
section
variable {P : Program} {w : World} {K : PySem.W.Frag} {mg : Str → Option Value} {base : Heap} {A : Ad}
open Tm
local macro_rules | `(tactic| walk_at "arr") => `(tactic| first
  | with_reducible assumption
  | ((with_reducible apply same_new); with_reducible assumption))
local macro_rules | `(tactic| walk_at "f") => `(tactic| first
  | with_reducible assumption
  | with_reducible exact upd_same
  | with_reducible exact Same.refl _
  | with_reducible exact Frm.refl
  | ((with_reducible apply sqL_K); (focus with_reducible assumption); rfl)
  | ((with_reducible apply sqT_K); (focus with_reducible assumption); rfl)
  | ((with_reducible apply SqT.of); walk_at "f")
  | ((with_reducible apply SqL.of); walk_at "f")
  | ((with_reducible apply back_raw); (focus walk_at "arr"); walk_at "f")
  | ((with_reducible apply frm_tup); (focus with_reducible assumption); (focus walk_at "f"); (focus walk_at "f"); (focus (intro _ z; cases z; done)))
  | ((with_reducible apply frm_raw); (focus with_reducible assumption); (focus walk_at "f"); walk_at "f")
  | ((with_reducible apply bowl_back); (focus walk_at "arr"); walk_at "f")
  | ((with_reducible apply bowl_ne); (focus with_reducible assumption); walk_at "f")
  | ((with_reducible apply Num.int); with_reducible assumption)
  | ((with_reducible apply same_snoc); (focus walk_at "arr"); walk_at "f")
  | ((with_reducible apply frm_back); (focus walk_at "arr"); walk_at "f")
  | ((with_reducible apply frm_backF); (focus with_reducible assumption); walk_at "f")
  | ((with_reducible apply back_sqT); (focus walk_at "arr"); walk_at "f")
  | ((with_reducible apply same_sqL); (focus walk_at "arr"); walk_at "f")
  | ((with_reducible apply free_same); (focus with_reducible assumption); walk_at "f")
  | ((with_reducible apply free_frm); (focus with_reducible assumption); (focus with_reducible assumption); walk_at "f")
  | ((with_reducible apply frm_sqL); (focus with_reducible assumption); (focus walk_at "f"); walk_at "f"))
local macro_rules | `(tactic| walk_at "bt") => `(tactic| first
  | with_reducible assumption
  | ((with_reducible apply bt_mul); (focus walk_at "bt"); walk_at "bt")
  | ((with_reducible apply bt_add); (focus walk_at "bt"); walk_at "bt")
  | ((with_reducible apply bt_sub); (focus walk_at "bt"); walk_at "bt")
  | ((with_reducible apply bt_neg); walk_at "bt")
  | ((with_reducible apply bt_div); walk_at "bt")
  | ((with_reducible apply bt_mod); (focus (first | assumption | omega)); walk_at "bt")
  | exact bt_lit (n := 64) (by decide)
  | exact bt_lit (n := 200) (by decide +kernel))
local macro_rules | `(tactic| walk_at "lin") => `(tactic| first
  | exact (by decide : 1 ≤ sizeLine) | exact (by decide : 2 ≤ sizeLine) | exact (by decide : 3 ≤ sizeLine) | exact (by decide : 4 ≤ sizeLine) | exact (by decide : 0 ≤ sizeLine) | exact (by decide : 5 ≤ sizeLine) | exact (by decide : 6 ≤ sizeLine))
local macro_rules | `(tactic| walk_at "dp") => `(tactic| first
  | exact Dp.int _
  | exact DpAll.nil
  | ((with_reducible apply Dp.lst); (focus walk_at "f"); walk_at "dp")
  | ((with_reducible apply Dp.tup); (focus walk_at "f"); walk_at "dp")
  | ((with_reducible apply DpAll.cons); (focus walk_at "dp"); walk_at "dp"))
local macro_rules | `(tactic| walk_at "sv") => `(tactic| first
  | with_reducible rfl
  | walk_at "f"
  | exact rfl
  | walk_at "dp"
  | exact shp_lst [_] | exact shp_lst [_, _] | exact shp_lst [_, _, _] | exact shp_lst [_, _, _, _] | exact shp_tup [_, _] | exact shp_tup [_, _, _]
  | ((apply tyV_lst); walk_at "f")
  | ((with_reducible apply bt_mulW); (focus walk_at "bt"); (focus walk_at "bt"); (focus (first | decide | omega)))
  | ((with_reducible apply bt_divW); (focus (first | decide | assumption | omega)); (focus walk_at "bt"); (focus (first | decide | omega)))
  | ((with_reducible apply bt_divP); (focus (first | decide | assumption | omega)); (focus walk_at "bt"); (focus (first | decide | omega)))
  | exact ⟨by decide, by decide +kernel⟩
  | exact Or.inl (by decide)
  | exact Or.inr (by decide)
  | exact Or.inl ⟨by omega, by omega⟩
  | exact Or.inr ⟨by omega, by omega⟩
  | ((with_reducible apply Or.inl); walk_at "sv")
  | ((with_reducible apply Or.inr); walk_at "sv")
  | ((with_reducible apply Exists.intro); walk_at "sv")
  | ((with_reducible apply And.intro); (focus walk_at "sv"); walk_at "sv")
  | walk_at "lin"
  | decide
  | omega
  | (simp only [List.length_cons, List.length_nil, List.length_map]; first | done | omega))
local macro_rules | `(tactic| walk_at "one") => `(tactic| first
  | ((fail_if_success refine' @Exists.intro (Nat → L2.St → Hp → Prop) _ ?_ ?_); (fail_if_success refine' @Exists.intro (Nat → Nat → L2.St → Hp → Prop) _ ?_ ?_); (fail_if_success refine' @Exists.intro (L2.St → Hp → Prop) _ ?_ ?_); (fail_if_success refine' @Exists.intro (Nat → Nat → Hp → Prop) _ ?_ ?_); (fail_if_success refine' @Exists.intro (Hp → Prop) _ ?_ ?_); apply Exists.intro)
  | (apply And.intro; (focus walk_at "sv"))
  | intro _
  | (apply ifT; (focus rfl))
  | (apply ifF; (focus rfl))
  | ((apply Or.inl); (apply Exists.intro); (apply And.intro); (focus exact rfl))
  | ((apply Or.inl); (apply And.intro); (focus walk_at "f"))
  | ((apply Or.inr); (apply Exists.intro); (apply And.intro); (focus exact rfl))
  | (apply ifTd; (focus (first | assumption | omega)))
  | (apply ifFd; (focus (first | assumption | omega))))
local macro_rules | `(tactic| walk_at "go") => `(tactic| repeat walk_at "one")
local macro_rules | `(tactic| walk_at "nm") => `(tactic| try simp only [List.set_cons_zero, List.set_cons_succ])
local macro_rules | `(tactic| walk_at "gon") => `(tactic| repeat (walk_at "one"; walk_at "nm"))

local macro_rules | `(tactic| walk_at "arr") => `(tactic| first
  | ((with_reducible apply made2); (focus with_reducible assumption); (focus with_reducible assumption); with_reducible assumption)
  | ((with_reducible apply same_up); (focus with_reducible assumption); with_reducible assumption))
local macro_rules | `(tactic| walk_at "f") => `(tactic| first
  | ((with_reducible apply Num.long); walk_at "f")
  | ((with_reducible apply ratu_back); (focus walk_at "arr"); walk_at "f")
  | ((with_reducible apply ratu_frm); (focus with_reducible assumption); (focus walk_at "f"); walk_at "f")
  | ((with_reducible apply rat_back); (focus walk_at "arr"); walk_at "f")
  | ((with_reducible apply rat_frm); (focus with_reducible assumption); (focus walk_at "f"); walk_at "f")
  | ((with_reducible apply ratb_u); (focus with_reducible assumption); with_reducible assumption)
  | ((with_reducible apply ratb_at); (focus with_reducible assumption); with_reducible assumption)
  | ((with_reducible apply ratb_back); (focus walk_at "arr"); walk_at "f")
  | ((with_reducible apply ratb_frm); (focus with_reducible assumption); (focus walk_at "f"); walk_at "f")
  | ((with_reducible apply Rn.rat); walk_at "f")
  | ((with_reducible apply Rn.int); with_reducible assumption)
  | ((with_reducible apply rat_raw); walk_at "f")
  | ((with_reducible apply ratb_raw); walk_at "f"))
local macro_rules | `(tactic| walk_at "f") => `(tactic| first
  | ((apply ty_rat); (focus assumption); walk_at "f")
  | ((apply ty_ratb); (focus assumption); walk_at "f")
  | exact nf_self
  | exact TyX.base (.int _)
  | ((with_reducible apply Pay.two); (focus with_reducible assumption); (focus with_reducible assumption); (focus (first | with_reducible assumption | decide)); (first | with_reducible assumption | rfl))
  | ((with_reducible apply nf_K); (focus with_reducible assumption); rfl)
  | exact bt_lit (by decide +kernel))
local macro_rules | `(tactic| walk_at "one") => `(tactic| ((apply Or.inl); (apply Exists.intro); (apply Exists.intro); (apply And.intro); (focus exact rfl)))
local macro_rules | `(tactic| walk_at "f") => `(tactic| first
  | ((with_reducible apply frT_K); (focus with_reducible assumption); rfl)
  | ((with_reducible apply frt); (focus with_reducible assumption))
  | ((with_reducible apply frt_back); (focus walk_at "arr"); walk_at "f")
  | ((with_reducible apply frt_frm); (focus with_reducible assumption); (focus walk_at "f"); walk_at "f"))
local macro_rules | `(tactic| walk_at "sv") => `(tactic| first
  | ((with_reducible refine lt_line ?_); simp only [List.length_append, List.length_cons, List.length_nil, List.length_map, List.length_replicate, List.length_range]; omega)
  | ((with_reducible refine Nat.le_of_lt (lt_line ?_)); simp only [List.length_append, List.length_cons, List.length_nil, List.length_map, List.length_replicate, List.length_range]; omega))
theorem z_subE {q r : Rat} {k : Nat} (z1 : Rsz k q) (z2 : Rsz k r) {m : Nat} (h : k + k + 1 ≤ m) : Rsz m (q - r) := by
  rw [Rat.sub_eq_add_neg]
  exact (rsz_add z1 z2.neg).mono h
theorem ifd {x : Int} : (if decide (V.int x = V.int 0) = true then (1 : Int) else 0) = if x = 0 then 1 else 0 := by
  by_cases h : x = 0
  · subst h; rfl
  · rw [if_neg h, if_neg (by rw [decide_eq_false (fun z => h (by injection z))]; decide)]
theorem wy_nat {a b n x : Int} (ha : 0 < a) (hb : 0 < b) (hn : 0 ≤ n) (hx : 0 ≤ x) : (Wy a b n x).natAbs ≤ n.natAbs + 1 := by
  unfold Wy
  split
  · rename_i h
    have p : 0 < a * b := Int.mul_pos ha hb
    have h1 : (n - x * a) / (a * b) ≤ n - x * a := Int.ediv_le_self _ h
    have h2 : 0 ≤ (n - x * a) / (a * b) := Int.ediv_nonneg h (by omega)
    have h3 : 0 ≤ x * a := Int.mul_nonneg hx (by omega)
    omega
  · show (0 : Int).natAbs ≤ _
    exact Nat.zero_le _
def sp__law_teeth_right (A : Ad) : Sp := fun vs H Q _ => ∃ (a b n : Int), vs = [.int a, .int b, .int n] ∧ 0 < a ∧ 0 < b ∧ gc a b = 1 ∧ 0 ≤ n ∧ Bt 41 a ∧ Bt 41 b ∧ Bt 101 n ∧ ∀ H', Same H H' → Q (.bl true) H'
theorem ok__law_teeth_right (T : Txt K mg A) : FnOk P w K mg base CX0 11 A.f__law_teeth_right A.d__law_teeth_right ["_law_a", "_law_b", "_law_number"] (sp__law_teeth_right A) := by
  refine T.F__law_teeth_right.ok sc__law_teeth_right (fun vs H Q E h => ?_) (fun cdv Ar outer s H vs Q E hr h => ?_)
  · obtain ⟨_, _, _, rfl, _⟩ := h
    rfl
  · obtain ⟨a, b, n, rfl, a0, b0, hg, n0, ba, bb, bn, k⟩ := h
    have hu := hu_of hr
    refine ⟨_, (Evl.pss_cut (ps_set (i := 3) sc__law_teeth_right.nd rfl (Or.inl rfl) (pe_make T.mk_Ratio (ok_Ratio___init__ T) (hr.mono (by decide)) rfl T.m_Ratio T.b_Ratio___init__ .nil pass0 (pa_cons (pe_op op_mod (pe_callTy call_int1 (by rfl) T.b_int (by decide +kernel) (pa_cons (pe_op op_mulW (pv 2) (pe_call (ok__law_inverse T) (hr.mono (by decide)) rfl T.m__law_inverse T.F__law_inverse.kp T.b__law_inverse .nil pass0 (pa_cons (pv 0) (pa_cons (pv 1) pa_nil)))) pa_nil)) (pv 1)) (pa_cons (pv 1) pa_nil))))
      (Evl.pss_cut (ps_set (i := 4) sc__law_teeth_right.nd rfl (Or.inl rfl) (pe_make T.mk_Ratio (ok_Ratio___init__ T) (hr.mono (by decide)) rfl T.m_Ratio T.b_Ratio___init__ .nil pass0 (pa_cons (pe_op op_mod (pe_callTy call_int1 (by rfl) T.b_int (by decide +kernel) (pa_cons (pe_op op_mulW (pv 2) (pe_call (ok__law_inverse T) (hr.mono (by decide)) rfl T.m__law_inverse T.F__law_inverse.kp T.b__law_inverse .nil pass0 (pa_cons (pv 1) (pa_cons (pv 0) pa_nil)))) pa_nil)) (pv 0)) (pa_cons (pv 0) pa_nil))))
      (Evl.pss_cut (ps_set (i := 5) sc__law_teeth_right.nd rfl (Or.inl rfl) (pe_op op_add (pe_callTy call_int1 (by rfl) T.b_int (by decide +kernel) (pa_cons (pe_cmpR op_eq (pe_op op_mod (pe_callTy call_int1 (by rfl) T.b_int (by decide +kernel) (pa_cons (pv 2) pa_nil)) (pv 0)) pe_int (nomark _)) pa_nil)) (pe_callTy call_int1 (by rfl) T.b_int (by decide +kernel) (pa_cons (pe_cmpR op_eq (pe_op op_mod (pe_callTy call_int1 (by rfl) T.b_int (by decide +kernel) (pa_cons (pv 2) pa_nil)) (pv 1)) pe_int (nomark _)) pa_nil))))
      (pss_cons (ps_set (i := 6) sc__law_teeth_right.nd rfl (Or.inl rfl) (pe_op (op_own (op := .Add) T.oc_add (ok_Ratio___add__ T) T.b_Ratio___add__ pass0 (hr.mono (by decide))) (pe_op (op_own (op := .Sub) T.oc_sub (ok_Ratio___sub__ T) T.b_Ratio___sub__ pass0 (hr.mono (by decide))) (pe_op (op_own (op := .Sub) T.oc_sub (ok_Ratio___sub__ T) T.b_Ratio___sub__ pass0 (hr.mono (by decide))) (pe_make T.mk_Ratio (ok_Ratio___init__ T) (hr.mono (by decide)) rfl T.m_Ratio T.b_Ratio___init__ .nil pass0 (pa_cons (pv 2) (pa_cons (pe_op op_mulW (pv 0) (pv 1)) pa_nil))) (pe_call (ok_tooth T) (hr.mono (by decide)) rfl T.m_tooth T.F_tooth.kp T.b_tooth .nil pass0 (pa_cons (pv 3) pa_nil))) (pe_call (ok_tooth T) (hr.mono (by decide)) rfl T.m_tooth T.F_tooth.kp T.b_tooth .nil pass0 (pa_cons (pv 4) pa_nil))) (pe_make T.mk_Ratio (ok_Ratio___init__ T) (hr.mono (by decide)) rfl T.m_Ratio T.b_Ratio___init__ .nil pass0 (pa_cons (pv 5) (pa_cons pe_int pa_nil)))))
      (pss_one (ps_ret (pe_cmpR (op_eqO T.eq_Ratio (ok_Ratio___eq__ T) T.b_Ratio___eq__ pass0 (hr.mono (by decide))) (pv 6) (pe_call (ok_ways T) (hr.mono (by decide)) rfl T.m_ways T.F_ways.kp T.b_ways .nil pass0 (pa_cons (pv 0) (pa_cons (pv 1) (pa_cons (pv 2) pa_nil)))) (nomark _)))))))), ?_⟩
    have hg2 : gc b a = 1 := by rw [gc_comm]; exact hg
    have a180 : a < 2 ^ 180 := by
      have h : a.natAbs < 2 ^ 41 := ba
      omega
    have b180 : b < 2 ^ 180 := by
      have h : b.natAbs < 2 ^ 41 := bb
      omega
    have sh : ∀ {x : Int}, Bt 190 x → Short x := fun {x} h => by
      have h : x.natAbs < 2 ^ 190 := h
      have e : (2 : Nat) ^ 190 < 10 ^ 60 := by decide +kernel
      have h2 : x.natAbs < 10 ^ 60 := Nat.lt_trans h e
      show -(10 ^ 60) < x ∧ x < 10 ^ 60
      generalize hz : (10 : Nat) ^ 60 = z at h2
      have hz2 : (10 : Int) ^ 60 = (z : Int) := by rw [← hz]; rfl
      rw [hz2]
      omega
    have za : a ≠ 0 := by omega
    have zb : b ≠ 0 := by omega
    have zab : a * b ≠ 0 := Int.mul_ne_zero za zb
    have sa := sh (ba.mono (by decide))
    have sb := sh (bb.mono (by decide))
    have sn := sh (bn.mono (by decide))
    have bab : Bt 82 (a * b) := bt_mul ba bb
    have sab := sh (bab.mono (by decide))
    refine ⟨fun σ H' => Stop (∃ (s1 : Addr) (v : Int), σ = [some (.int a), some (.int b), some (.int n), some (.ref s1), none, none, none] ∧ Same H H' ∧ RatAt A.a_Ratio H' s1 (Rat.divInt (n * v % b) b) ∧ (a * v) % b = 1 % b), ?_, ?_⟩
    · walk_at "go"
      rename_i x H1 x0 x1 hx e1
      have bx : Bt 41 x := bt_le x0 (by omega) bb
      have r0 := Int.emod_nonneg (n * x) (show b ≠ 0 by omega)
      have r1 := Int.emod_lt_of_pos (n * x) b0
      have sr := sh ((bt_le r0 (show n * x % b ≤ b by omega) bb).mono (show 41 ≤ 190 by decide))
      walk_at "go"
      rename_i p d hp hd hne H2 R2 kp
      exact ⟨_, _, rfl, e1.trans (made hp hd kp), R2, inv_mod hx⟩
    rintro σ H1 ⟨⟨s1, v, rfl, e1, R1, hv⟩⟩
    refine ⟨fun σ H' => Stop (∃ (s2 : Addr) (u : Int), σ = [some (.int a), some (.int b), some (.int n), some (.ref s1), some (.ref s2), none, none] ∧ Same H1 H' ∧ RatAt A.a_Ratio H' s2 (Rat.divInt (n * u % a) a) ∧ (b * u) % a = 1 % a), ?_, ?_⟩
    · walk_at "go"
      rename_i x H2 x0 x1 hx e2
      have bx : Bt 41 x := bt_le x0 (by omega) ba
      have r0 := Int.emod_nonneg (n * x) (show a ≠ 0 by omega)
      have r1 := Int.emod_lt_of_pos (n * x) a0
      have sr := sh ((bt_le r0 (show n * x % a ≤ a by omega) ba).mono (show 41 ≤ 190 by decide))
      walk_at "go"
      rename_i p d hp hd hne H3 R2 kp
      exact ⟨_, _, rfl, e2.trans (made hp hd kp), R2, inv_mod hx⟩
    rintro σ H2 ⟨⟨s2, u, rfl, e2, R2, hu⟩⟩
    refine ⟨fun σ H' => Stop (σ = [some (.int a), some (.int b), some (.int n), some (.ref s1), some (.ref s2), some (.int ((if n % a = 0 then 1 else 0) + (if n % b = 0 then 1 else 0))), none] ∧ Same H2 H'), ?_, ?_⟩
    · walk_at "go"
      simp only [ifd]
      exact ⟨rfl, by walk_at "f"⟩
    rintro σ H3 ⟨⟨rfl, e3⟩⟩
    have v0 := Int.emod_nonneg (n * v) zb
    have v1 := Int.emod_lt_of_pos (n * v) b0
    have u0 := Int.emod_nonneg (n * u) za
    have u1 := Int.emod_lt_of_pos (n * u) a0
    have z1 : Rsz 50 (Rat.divInt (n * v % b) b) := divInt_small zb ((bt_le v0 (show n * v % b ≤ b by omega) bb).mono (by decide)) (bb.mono (by decide))
    have z2 : Rsz 50 (Rat.divInt (n * u % a) a) := divInt_small za ((bt_le u0 (show n * u % a ≤ a by omega) ba).mono (by decide)) (ba.mono (by decide))
    have z1' := z1.mono (show 50 ≤ 900 by decide)
    have z2' := z2.mono (show 50 ≤ 900 by decide)
    have t1 : Rsz 120 (Th (Rat.divInt (n * v % b) b)) := z_Th z1 (by decide)
    have t2 : Rsz 250 (Th (Rat.divInt (n * u % a) a)) := z_Th z2 (by decide)
    have z3 : Rsz 120 (Rat.divInt n (a * b)) := divInt_small zab (bn.mono (by decide)) (bab.mono (by decide))
    have z4 : Rsz 250 (Rat.divInt n (a * b) - Th (Rat.divInt (n * v % b) b)) := z_subE z3 t1 (by decide)
    have z5 : Rsz 501 (Rat.divInt n (a * b) - Th (Rat.divInt (n * v % b) b) - Th (Rat.divInt (n * u % a) a)) := z_subE z4 t2 (by decide)
    have key := ways_teeth a0 b0 n0 hv hu
    generalize hE : (if n % a = 0 then (1 : Int) else 0) + (if n % b = 0 then 1 else 0) = E at *
    have bE : Bt 2 E := by
      show E.natAbs < 4
      rw [← hE]
      split <;> split <;> decide
    have sE := sh (bE.mono (show 2 ≤ 190 by decide))
    have s2' : Short 2 := ⟨by decide, by decide⟩
    have z6 : Rsz 501 (Rat.divInt E 2) := divInt_small (by decide) (bE.mono (by decide)) ((bt_lit (n := 2) (x := 2) (by decide)).mono (by decide))
    have z7 : Rsz 4000 (Rat.divInt n (a * b) - Th (Rat.divInt (n * v % b) b) - Th (Rat.divInt (n * u % a) a) + Rat.divInt E 2) := (rsz_add z5 z6).mono (by decide)
    have z3' := z3.mono (show 120 ≤ 4000 by decide)
    have t1' := t1.mono (show 120 ≤ 4000 by decide)
    have t2' := t2.mono (show 250 ≤ 4000 by decide)
    have z4' := z4.mono (show 250 ≤ 4000 by decide)
    have z5' := z5.mono (show 501 ≤ 4000 by decide)
    have z6' := z6.mono (show 501 ≤ 4000 by decide)
    clear z1 z2 z3 t1 t2 z4 z5 z6
    have ba4 := ba.mono (show 41 ≤ 400 by decide)
    have bb4 := bb.mono (show 41 ≤ 400 by decide)
    have bn4 := bn.mono (show 101 ≤ 400 by decide)
    have a1 : 1 ≤ a := a0
    have b1 : 1 ≤ b := b0
    walk_at "go"
    rename_i w H4 hw e4
    have ew : n * w % b = n * v % b := inv_same hw hv
    rw [ew]
    have bw : (Wy a b n (n * v % b)).natAbs < 2 ^ 4000 := Bt.mono (show Bt 102 (Wy a b n (n * v % b)) by
      show (Wy a b n (n * v % b)).natAbs < 2 ^ 102
      have h := wy_nat (x := n * v % b) a0 b0 n0 v0
      have h2 : n.natAbs < 2 ^ 101 := bn
      omega) (by decide)
    refine ⟨bw, ?_⟩
    refine ⟨_, rfl, ?_⟩
    show Q (V.bl (decide (_ = ((Wy a b n (n * v % b) : Int) : Rat)))) _
    rw [key, decide_eq_true rfl]
    exact k _ (by walk_at "f")
end
end Tk


set_option maxHeartbeats 2000000
namespace Tk
open PySem PySem.Spec PyProof.Rows L2 Tc
section
variable {P : Program} {w : World} {K : PySem.W.Frag} {mg : Str → Option Value} {base : Heap} {A : Ad}
open Tm
local macro_rules | `(tactic| walk_at "arr") => `(tactic| first
  | with_reducible assumption
  | ((with_reducible apply same_new); with_reducible assumption))
local macro_rules | `(tactic| walk_at "f") => `(tactic| first
  | with_reducible assumption
  | with_reducible exact upd_same
  | with_reducible exact Same.refl _
  | with_reducible exact Frm.refl
  | ((with_reducible apply sqL_K); (focus with_reducible assumption); rfl)
  | ((with_reducible apply sqT_K); (focus with_reducible assumption); rfl)
  | ((with_reducible apply SqT.of); walk_at "f")
  | ((with_reducible apply SqL.of); walk_at "f")
  | ((with_reducible apply back_raw); (focus walk_at "arr"); walk_at "f")
  | ((with_reducible apply frm_tup); (focus with_reducible assumption); (focus walk_at "f"); (focus walk_at "f"); (focus (intro _ z; cases z; done)))
  | ((with_reducible apply frm_raw); (focus with_reducible assumption); (focus walk_at "f"); walk_at "f")
  | ((with_reducible apply bowl_back); (focus walk_at "arr"); walk_at "f")
  | ((with_reducible apply bowl_ne); (focus with_reducible assumption); walk_at "f")
  | ((with_reducible apply Num.int); with_reducible assumption)
  | ((with_reducible apply same_snoc); (focus walk_at "arr"); walk_at "f")
  | ((with_reducible apply frm_back); (focus walk_at "arr"); walk_at "f")
  | ((with_reducible apply frm_backF); (focus with_reducible assumption); walk_at "f")
  | ((with_reducible apply back_sqT); (focus walk_at "arr"); walk_at "f")
  | ((with_reducible apply same_sqL); (focus walk_at "arr"); walk_at "f")
  | ((with_reducible apply free_same); (focus with_reducible assumption); walk_at "f")
  | ((with_reducible apply free_frm); (focus with_reducible assumption); (focus with_reducible assumption); walk_at "f")
  | ((with_reducible apply frm_sqL); (focus with_reducible assumption); (focus walk_at "f"); walk_at "f"))
local macro_rules | `(tactic| walk_at "bt") => `(tactic| first
  | with_reducible assumption
  | ((with_reducible apply bt_mul); (focus walk_at "bt"); walk_at "bt")
  | ((with_reducible apply bt_add); (focus walk_at "bt"); walk_at "bt")
  | ((with_reducible apply bt_sub); (focus walk_at "bt"); walk_at "bt")
  | ((with_reducible apply bt_neg); walk_at "bt")
  | ((with_reducible apply bt_div); walk_at "bt")
  | ((with_reducible apply bt_mod); (focus (first | assumption | omega)); walk_at "bt")
  | exact bt_lit (n := 64) (by decide)
  | exact bt_lit (n := 200) (by decide +kernel))
local macro_rules | `(tactic| walk_at "lin") => `(tactic| first
  | exact (by decide : 1 ≤ sizeLine) | exact (by decide : 2 ≤ sizeLine) | exact (by decide : 3 ≤ sizeLine) | exact (by decide : 4 ≤ sizeLine) | exact (by decide : 0 ≤ sizeLine) | exact (by decide : 5 ≤ sizeLine) | exact (by decide : 6 ≤ sizeLine))
local macro_rules | `(tactic| walk_at "dp") => `(tactic| first
  | exact Dp.int _
  | exact DpAll.nil
  | ((with_reducible apply Dp.lst); (focus walk_at "f"); walk_at "dp")
  | ((with_reducible apply Dp.tup); (focus walk_at "f"); walk_at "dp")
  | ((with_reducible apply DpAll.cons); (focus walk_at "dp"); walk_at "dp"))
local macro_rules | `(tactic| walk_at "sv") => `(tactic| first
  | with_reducible rfl
  | walk_at "f"
  | exact rfl
  | walk_at "dp"
  | exact shp_lst [_] | exact shp_lst [_, _] | exact shp_lst [_, _, _] | exact shp_lst [_, _, _, _] | exact shp_tup [_, _] | exact shp_tup [_, _, _]
  | ((apply tyV_lst); walk_at "f")
  | ((with_reducible apply bt_mulW); (focus walk_at "bt"); (focus walk_at "bt"); (focus (first | decide | omega)))
  | ((with_reducible apply bt_divW); (focus (first | decide | assumption | omega)); (focus walk_at "bt"); (focus (first | decide | omega)))
  | ((with_reducible apply bt_divP); (focus (first | decide | assumption | omega)); (focus walk_at "bt"); (focus (first | decide | omega)))
  | exact ⟨by decide, by decide +kernel⟩
  | exact Or.inl (by decide)
  | exact Or.inr (by decide)
  | exact Or.inl ⟨by omega, by omega⟩
  | exact Or.inr ⟨by omega, by omega⟩
  | ((with_reducible apply Or.inl); walk_at "sv")
  | ((with_reducible apply Or.inr); walk_at "sv")
  | ((with_reducible apply Exists.intro); walk_at "sv")
  | ((with_reducible apply And.intro); (focus walk_at "sv"); walk_at "sv")
  | walk_at "lin"
  | decide
  | omega
  | (simp only [List.length_cons, List.length_nil, List.length_map]; first | done | omega))
local macro_rules | `(tactic| walk_at "one") => `(tactic| first
  | ((fail_if_success refine' @Exists.intro (Nat → L2.St → Hp → Prop) _ ?_ ?_); (fail_if_success refine' @Exists.intro (Nat → Nat → L2.St → Hp → Prop) _ ?_ ?_); (fail_if_success refine' @Exists.intro (L2.St → Hp → Prop) _ ?_ ?_); (fail_if_success refine' @Exists.intro (Nat → Nat → Hp → Prop) _ ?_ ?_); (fail_if_success refine' @Exists.intro (Hp → Prop) _ ?_ ?_); apply Exists.intro)
  | (apply And.intro; (focus walk_at "sv"))
  | intro _
  | (apply ifT; (focus rfl))
  | (apply ifF; (focus rfl))
  | ((apply Or.inl); (apply Exists.intro); (apply And.intro); (focus exact rfl))
  | ((apply Or.inl); (apply And.intro); (focus walk_at "f"))
  | ((apply Or.inr); (apply Exists.intro); (apply And.intro); (focus exact rfl))
  | (apply ifTd; (focus (first | assumption | omega)))
  | (apply ifFd; (focus (first | assumption | omega))))
local macro_rules | `(tactic| walk_at "go") => `(tactic| repeat walk_at "one")
local macro_rules | `(tactic| walk_at "nm") => `(tactic| try simp only [List.set_cons_zero, List.set_cons_succ])
local macro_rules | `(tactic| walk_at "gon") => `(tactic| repeat (walk_at "one"; walk_at "nm"))

local macro_rules | `(tactic| walk_at "arr") => `(tactic| first
  | ((with_reducible apply made2); (focus with_reducible assumption); (focus with_reducible assumption); with_reducible assumption)
  | ((with_reducible apply same_up); (focus with_reducible assumption); with_reducible assumption))
local macro_rules | `(tactic| walk_at "f") => `(tactic| first
  | ((with_reducible apply Num.long); walk_at "f")
  | ((with_reducible apply ratu_back); (focus walk_at "arr"); walk_at "f")
  | ((with_reducible apply ratu_frm); (focus with_reducible assumption); (focus walk_at "f"); walk_at "f")
  | ((with_reducible apply rat_back); (focus walk_at "arr"); walk_at "f")
  | ((with_reducible apply rat_frm); (focus with_reducible assumption); (focus walk_at "f"); walk_at "f")
  | ((with_reducible apply ratb_u); (focus with_reducible assumption); with_reducible assumption)
  | ((with_reducible apply ratb_at); (focus with_reducible assumption); with_reducible assumption)
  | ((with_reducible apply ratb_back); (focus walk_at "arr"); walk_at "f")
  | ((with_reducible apply ratb_frm); (focus with_reducible assumption); (focus walk_at "f"); walk_at "f")
  | ((with_reducible apply Rn.rat); walk_at "f")
  | ((with_reducible apply Rn.int); with_reducible assumption)
  | ((with_reducible apply rat_raw); walk_at "f")
  | ((with_reducible apply ratb_raw); walk_at "f"))
local macro_rules | `(tactic| walk_at "f") => `(tactic| first
  | ((apply ty_rat); (focus assumption); walk_at "f")
  | ((apply ty_ratb); (focus assumption); walk_at "f")
  | exact nf_self
  | exact TyX.base (.int _)
  | ((with_reducible apply Pay.two); (focus with_reducible assumption); (focus with_reducible assumption); (focus (first | with_reducible assumption | decide)); (first | with_reducible assumption | rfl))
  | ((with_reducible apply nf_K); (focus with_reducible assumption); rfl)
  | exact bt_lit (by decide +kernel))
local macro_rules | `(tactic| walk_at "one") => `(tactic| ((apply Or.inl); (apply Exists.intro); (apply Exists.intro); (apply And.intro); (focus exact rfl)))
local macro_rules | `(tactic| walk_at "f") => `(tactic| first
  | ((with_reducible apply frT_K); (focus with_reducible assumption); rfl)
  | ((with_reducible apply frt); (focus with_reducible assumption))
  | ((with_reducible apply frt_back); (focus walk_at "arr"); walk_at "f")
  | ((with_reducible apply frt_frm); (focus with_reducible assumption); (focus walk_at "f"); walk_at "f"))
local macro_rules | `(tactic| walk_at "sv") => `(tactic| first
  | ((with_reducible refine lt_line ?_); simp only [List.length_append, List.length_cons, List.length_nil, List.length_map, List.length_replicate, List.length_range]; omega)
  | ((with_reducible refine Nat.le_of_lt (lt_line ?_)); simp only [List.length_append, List.length_cons, List.length_nil, List.length_map, List.length_replicate, List.length_range]; omega))
theorem gaps_total {a b : Int} (ha : 0 < a) (hb : 0 < b) (hg : gc a b = 1) : (a - 1) * (b - 1) * (2 * a * b - a - b - 1) / 12 = a * S1 b.toNat a 0 b + b * S1 a.toNat b 0 a - a * b * ((a - 1) * (b - 1) / 2) := by
  have h1 := T1_any ha hb hg
  have h2 := PT_inner ha hb
  rw [hg] at h2
  have h3 : (a - 1) * (b - 1) / 2 * 2 = (a - 1) * (b - 1) := by omega
  generalize (a - 1) * (b - 1) / 2 = G at *
  unfold T1 at h1
  generalize S1 b.toNat a 0 b = M at *
  generalize S1 a.toNat b 0 a = N at *
  have h4 : (a - 1) * (b - 1) * (2 * a * b - a - b - 1) = (a * M + b * N - a * b * G) * 12 := by
    clear h2
    grind
  rw [h4, Int.mul_ediv_cancel _ (by decide)]
theorem gap_inner {a b : Int} (ha : 0 < a) (hb : 0 < b) (hg : gc a b = 1) : (a - 1) * (b - 1) / 2 = Tri a b (a * b - a - b - 1) := by
  have h2 := PT_inner ha hb
  rw [hg] at h2
  omega
theorem gap_line {a b : Int} (hb : 0 < b) (hg : gc a b = 1) : (a - 1) * (b - 1) / 2 = S0 b.toNat a 0 b := by
  have := S0_cop (a := a) (n := b.toNat) (by omega) (by rw [show ((b.toNat : Nat) : Int) = b by omega]; exact hg)
  rw [show ((b.toNat : Nat) : Int) = b by omega] at this
  omega
theorem due_moment {a b : Int} (hb : 0 < b) : (Rat.divInt (a * (b - 1) * (2 * b - 1)) (6 * b) - Rat.divInt (b - 1) 4 - Rat.divInt (T1 a b) (12 * b)) * ((b : Int) : Rat) = ((S1 b.toNat a 0 b : Int) : Rat) := by
  have e : T1 a b = 2 * a * (b - 1) * (2 * b - 1) - 3 * b * (b - 1) - 12 * S1 b.toNat a 0 b := rfl
  rw [e]
  generalize S1 b.toNat a 0 b = M
  simp only [Rat.divInt_eq_div]
  have b0 : (b : Rat) ≠ 0 := fun z => (show b ≠ 0 by omega) (Rat.intCast_inj.mp z)
  have t1 : ((1 : Int) : Rat) = 1 := rfl
  have t2 : ((2 : Int) : Rat) = 2 := rfl
  have t3 : ((3 : Int) : Rat) = 3 := rfl
  have t4 : ((4 : Int) : Rat) = 4 := rfl
  have t6 : ((6 : Int) : Rat) = 6 := rfl
  have t12 : ((12 : Int) : Rat) = 12 := rfl
  simp only [Rat.intCast_mul, Rat.intCast_add, Rat.intCast_sub, t1, t2, t3, t4, t6, t12]
  generalize (M : Rat) = m
  generalize (a : Rat) = a'
  generalize (b : Rat) = b' at *
  have i2 : b' * b'⁻¹ = 1 := Rat.mul_inv_cancel _ b0
  have i6 : (6 : Rat) * 6⁻¹ = 1 := by decide +kernel
  have i12 : (12 : Rat) * 12⁻¹ = 1 := by decide +kernel
  have i4 : (4 : Rat) * 4⁻¹ = 1 := by decide +kernel
  simp only [Rat.div_def, Rat.inv_mul_rev]
  grind
def sp__law_gaps_right (A : Ad) : Sp := fun vs H Q _ => ∃ (c : Addr), vs = [.ref c] ∧ Bowl H c ∧ ∀ H', Frm c H H' → Bowl H' c → Q (.bl true) H'
theorem ok__law_gaps_right (T : Txt K mg A) : FnOk P w K mg base CX0 12 A.f__law_gaps_right A.d__law_gaps_right ["_law_purse"] (sp__law_gaps_right A) := by
  refine T.F__law_gaps_right.ok sc__law_gaps_right (fun vs H Q E h => ?_) (fun cdv Ar outer s H vs Q E hr h => ?_)
  · obtain ⟨_, rfl, _⟩ := h
    rfl
  · obtain ⟨c, rfl, hB, k⟩ := h
    have hu := hu_of hr
    refine ⟨_, (Evl.pss_cut (ps_asg (pe_call (ok__law_two_drawn T) (hr.mono (by decide)) rfl T.m__law_two_drawn T.F__law_two_drawn.kp T.b__law_two_drawn .nil pass0 (pa_cons (pv 0) (pa_cons (pe_call (ok__law_pick T) (hr.mono (by decide)) rfl T.m__law_pick T.F__law_pick.kp T.b__law_pick .nil pass0 (pa_cons (pv 0) (pa_cons (pe_lst (pa_cons pe_int (pa_cons (pe_op op_powX pe_int pe_int) (pa_cons (pe_op op_powX pe_int pe_int) pa_nil)))) pa_nil))) pa_nil))) (pg_tup rfl (pgs_cons (pg_name (i := 1) sc__law_gaps_right.nd rfl (Or.inl rfl)) (pgs_cons (pg_name (i := 2) sc__law_gaps_right.nd rfl (Or.inl rfl)) pgs_nil))))
      (pss_cons (ps_if (PW.pt (pw_or (pt_cmpR op_ne (pe_call (ok_gap_count T) (hr.mono (by decide)) rfl T.m_gap_count T.F_gap_count.kp T.b_gap_count .nil pass0 (pa_cons (pv 1) (pa_cons (pv 2) pa_nil))) (pe_call (ok_triangle_inner T) (hr.mono (by decide)) rfl T.m_triangle_inner T.F_triangle_inner.kp T.b_triangle_inner .nil pass0 (pa_cons (pv 1) (pa_cons (pv 2) (pa_cons (pe_op op_mulW (pv 1) (pv 2)) pa_nil)))) (nomark _)) (pw_or1 (pt_cmpR op_ne (pe_call (ok_gap_count T) (hr.mono (by decide)) rfl T.m_gap_count T.F_gap_count.kp T.b_gap_count .nil pass0 (pa_cons (pv 1) (pa_cons (pv 2) pa_nil))) (pe_call (ok_line_sum T) (hr.mono (by decide)) rfl T.m_line_sum T.F_line_sum.kp T.b_line_sum .nil pass0 (pa_cons (pv 2) (pa_cons (pv 1) (pa_cons pe_int (pa_cons (pv 2) pa_nil))))) (nomark _)))))
        (pss_one (ps_ret pe_bl))
        pss_nil)
      (Evl.pss_cut (ps_par3 (i := 3) (j := 4) (l := 5) (by rfl) sc__law_gaps_right.nd rfl rfl rfl (by decide) (by decide) (by decide) rfl rfl rfl (pa_cons (pe_call (ok_line_moment T) (hr.mono (by decide)) rfl T.m_line_moment T.F_line_moment.kp T.b_line_moment .nil pass0 (pa_cons (pv 2) (pa_cons (pv 1) (pa_cons pe_int (pa_cons (pv 2) pa_nil))))) (pa_cons (pe_call (ok_line_moment T) (hr.mono (by decide)) rfl T.m_line_moment T.F_line_moment.kp T.b_line_moment .nil pass0 (pa_cons (pv 1) (pa_cons (pv 2) (pa_cons pe_int (pa_cons (pv 1) pa_nil))))) (pa_cons (pe_call (ok_tooth_sum T) (hr.mono (by decide)) rfl T.m_tooth_sum T.F_tooth_sum.kp T.b_tooth_sum .nil pass0 (pa_cons (pv 1) (pa_cons (pv 2) pa_nil))) pa_nil))) (by rfl))
      (pss_cons (ps_if (pt_cmpR (op_neD hr.units) (pe_call (ok__law_pair_of T) (hr.mono (by decide)) rfl T.m__law_pair_of T.F__law_pair_of.kp T.b__law_pair_of .nil pass0 (pa_cons (pv 5) pa_nil)) (pe_call (ok__law_sum T) (hr.mono (by decide)) rfl T.m__law_sum T.F__law_sum.kp T.b__law_sum .nil pass0 (pa_cons (pv 1) (pa_cons (pv 2) pa_nil))) (nomark _))
        (pss_one (ps_ret pe_bl))
        pss_nil)
      (pss_cons (ps_set (i := 6) sc__law_gaps_right.nd rfl (Or.inl rfl) (pe_op (op_own (op := .Sub) T.oc_sub (ok_Ratio___sub__ T) T.b_Ratio___sub__ pass0 (hr.mono (by decide))) (pe_op (op_own (op := .Sub) T.oc_sub (ok_Ratio___sub__ T) T.b_Ratio___sub__ pass0 (hr.mono (by decide))) (pe_make T.mk_Ratio (ok_Ratio___init__ T) (hr.mono (by decide)) rfl T.m_Ratio T.b_Ratio___init__ .nil pass0 (pa_cons (pe_op op_mulW (pe_op op_mulW (pv 1) (pe_op op_sub (pv 2) pe_int)) (pe_op op_sub (pe_op op_mul pe_int (pv 2)) pe_int)) (pa_cons (pe_op op_mul pe_int (pv 2)) pa_nil))) (pe_make T.mk_Ratio (ok_Ratio___init__ T) (hr.mono (by decide)) rfl T.m_Ratio T.b_Ratio___init__ .nil pass0 (pa_cons (pe_op op_sub (pv 2) pe_int) (pa_cons pe_int pa_nil)))) (pv 5)))
      (pss_cons (ps_if (pt_cmpR (op_neO T.eq_Ratio (ok_Ratio___eq__ T) T.b_Ratio___eq__ pass0 (hr.mono (by decide))) (pe_op (op_own (op := .Mult) T.oc_mul (ok_Ratio___mul__ T) T.b_Ratio___mul__ pass0 (hr.mono (by decide))) (pv 6) (pv 2)) (pv 3) (nomark _))
        (pss_one (ps_ret pe_bl))
        pss_nil)
      (pss_one (ps_ret (pe_cmpR op_eq (pe_call (ok_gap_total T) (hr.mono (by decide)) rfl T.m_gap_total T.F_gap_total.kp T.b_gap_total .nil pass0 (pa_cons (pv 1) (pa_cons (pv 2) pa_nil))) (pe_op op_sub (pe_op op_add (pe_op op_mulW (pv 1) (pv 3)) (pe_op op_mulW (pv 2) (pv 4))) (pe_op op_mulW (pe_op op_mulW (pv 1) (pv 2)) (pe_op op_fdivW (pe_op op_mulW (pe_op op_sub (pv 1) pe_int) (pe_op op_sub (pv 2) pe_int)) pe_int))) (nomark _)))))))))), ?_⟩
    walk_at "go"
    refine ⟨fun σ H' => Stop (∃ (a b : Int), σ = [some (.ref c), some (.int a), some (.int b), none, none, none, none] ∧ Frm c H H' ∧ Bowl H' c ∧ 0 < a ∧ 0 < b ∧ a ≤ 10 ^ 6 ∧ b ≤ 10 ^ 6 ∧ gc a b = 1), ?_, ?_⟩
    · walk_at "go"
      apply And.intro
      · exact (SqL.of upd_same : SqL _ _ _ ([60, 10 ^ (4 : Int).toNat, 10 ^ (6 : Int).toNat].map V.int))
      walk_at "go"
      rename_i m H1 hm f1 B1
      have hm2 : 0 < m ∧ m ≤ 10 ^ 6 := by
        simp only [List.mem_cons, List.not_mem_nil, or_false] at hm
        rcases hm with rfl | rfl | rfl <;> exact ⟨by decide, by decide⟩
      have m0 := hm2.1
      have m12 : m ≤ 10 ^ 12 := by omega
      walk_at "go"
      rename_i p x y H2 np f2 B2 gp x0 x1 y0 y1 hg
      exact ⟨_, _, rfl, by walk_at "f", B2, by omega, by omega, by omega, by omega, hg⟩
    rintro σ H1 ⟨⟨a, b, rfl, f1, B1, a0, b0, a6, b6, hg⟩⟩
    have ba : Bt 20 a := by show a.natAbs < 2 ^ 20; omega
    have bb : Bt 20 b := by show b.natAbs < 2 ^ 20; omega
    have hg2 : gc b a = 1 := by rw [gc_comm]; exact hg
    have sh : ∀ {x : Int}, Bt 190 x → Short x := fun {x} h => by
      have h : x.natAbs < 2 ^ 190 := h
      have e : (2 : Nat) ^ 190 < 10 ^ 60 := by decide +kernel
      have h2 : x.natAbs < 10 ^ 60 := Nat.lt_trans h e
      show -(10 ^ 60) < x ∧ x < 10 ^ 60
      generalize hz : (10 : Nat) ^ 60 = z at h2
      have hz2 : (10 : Int) ^ 60 = (z : Int) := by rw [← hz]; rfl
      rw [hz2]
      omega
    have sa := sh (ba.mono (by decide))
    have sb := sh (bb.mono (by decide))
    have s0 : Short 0 := ⟨by decide, by decide⟩
    have s4 : Short 4 := ⟨by decide, by decide⟩
    have bab : Bt 40 (a * b) := bt_mul ba bb
    have sab := sh (bab.mono (by decide))
    have ba4 := ba.mono (show 20 ≤ 400 by decide)
    have bb4 := bb.mono (show 20 ≤ 400 by decide)
    have ba5 := ba.mono (show 20 ≤ 395 by decide)
    have bb5 := bb.mono (show 20 ≤ 395 by decide)
    have bab5 := bab.mono (show 40 ≤ 395 by decide)
    have b04 : Bt 400 (0 : Int) := bt_lit (by decide)
    have ba6 := ba.mono (show 20 ≤ 60 by decide)
    have bb6 := bb.mono (show 20 ≤ 60 by decide)
    have bb9 := bb.mono (show 20 ≤ 900 by decide)
    have a1 : 1 ≤ a := a0
    have b1 : 1 ≤ b := b0
    have bM : Bt 82 (S1 b.toNat a 0 b) := S1_lt b0 (by omega) ba (bt_lit (by decide)) bb
    have bN : Bt 82 (S1 a.toNat b 0 a) := S1_lt a0 (by omega) bb (bt_lit (by decide)) ba
    have g1 := gap_inner a0 b0 hg
    have g2 := gap_line b0 hg
    have g3 := gaps_total a0 b0 hg
    have g4 := due_moment (a := a) b0
    walk_at "go"
    refine ifF (c := !decide (V.int ((a - 1) * (b - 1) / 2) = V.int (Tri a b (a * b - a - b - 1)))) (by rw [g1]; simp) ?_
    walk_at "go"
    refine ifF (c := !decide (V.int ((a - 1) * (b - 1) / 2) = V.int (S0 b.toNat a 0 b))) (by rw [g2]; simp) ?_
    walk_at "go"
    refine ⟨fun σ H' => Stop (∃ tp : Addr, σ = [some (.ref c), some (.int a), some (.int b), some (.int (S1 b.toNat a 0 b)), some (.int (S1 a.toNat b 0 a)), some (.ref tp), none] ∧ Same H1 H' ∧ RatB 4000 A.a_Ratio H' tp (Rat.divInt (TT a b) (12 * b))), ?_, ?_⟩
    · walk_at "go"
      exact ⟨_, rfl, by walk_at "f", by walk_at "f"⟩
    rintro σ H2 ⟨⟨tp, rfl, e2, R2⟩⟩
    have hT : TT a b = T1 a b := TT_one hg
    rw [← hT] at g4
    have z1 : Rsz 100 (Rat.divInt (a * (b - 1) * (2 * b - 1)) (6 * b)) := divInt_small (by omega) ((bt_mul (bt_mul ba (bt_sub bb (bt_lit (n := 1) (x := 1) (by decide)))) (bt_sub (bt_mul (bt_lit (n := 2) (x := 2) (by decide)) bb) (bt_lit (n := 1) (x := 1) (by decide)))).mono (by decide)) ((bt_mul (bt_lit (n := 3) (x := 6) (by decide)) bb).mono (by decide))
    have z2 : Rsz 100 (Rat.divInt (b - 1) 4) := divInt_small (by decide) ((bt_sub bb (bt_lit (n := 1) (x := 1) (by decide))).mono (by decide)) ((bt_lit (n := 3) (x := 4) (by decide)).mono (by decide))
    have z3 : Rsz 201 (Rat.divInt (a * (b - 1) * (2 * b - 1)) (6 * b) - Rat.divInt (b - 1) 4) := z_subE z1 z2 (by decide)
    have z4 : Rsz 201 (Rat.divInt (TT a b) (12 * b)) := by
      refine divInt_small (by omega) ?_ ((bt_mul (bt_lit (n := 4) (x := 12) (by decide)) bb).mono (by decide))
      rw [hT]
      exact (t1_bdK b0 bb6 hg).mono (by decide)
    have z5 : Rsz 4000 (Rat.divInt (a * (b - 1) * (2 * b - 1)) (6 * b) - Rat.divInt (b - 1) 4 - Rat.divInt (TT a b) (12 * b)) := (z_subE (m := 403) z3 z4 (by decide)).mono (by decide)
    have z1' := z1.mono (show 100 ≤ 4000 by decide)
    have z2' := z2.mono (show 100 ≤ 4000 by decide)
    have z3' := z3.mono (show 201 ≤ 4000 by decide)
    have zM : Rsz 4000 ((Rat.divInt (a * (b - 1) * (2 * b - 1)) (6 * b) - Rat.divInt (b - 1) 4 - Rat.divInt (TT a b) (12 * b)) * ((b : Int) : Rat)) := by
      rw [g4]
      exact ⟨bM.mono (by decide), Nat.one_lt_two_pow (by decide)⟩
    have sA := sh ((bt_mul (bt_mul ba (bt_sub bb (bt_lit (n := 1) (x := 1) (by decide)))) (bt_sub (bt_mul (bt_lit (n := 2) (x := 2) (by decide)) bb) (bt_lit (n := 1) (x := 1) (by decide)))).mono (show 20 + (20 + 1 + 1) + (2 + 20 + 1 + 1) ≤ 190 by decide))
    have sB := sh ((bt_mul (bt_lit (n := 3) (x := 6) (by decide)) bb).mono (show 3 + 20 ≤ 190 by decide))
    have sC := sh ((bt_sub bb (bt_lit (n := 1) (x := 1) (by decide))).mono (show 20 + 1 + 1 ≤ 190 by decide))
    have n6 : 6 * b ≠ 0 := by omega
    have n4 : (4 : Int) ≠ 0 := by decide
    have m4 : (S1 b.toNat a 0 b).natAbs < 2 ^ 4000 := bM.mono (by decide)
    walk_at "go"
    refine ifF (c := !PyData.eqv (.tuple [.int (Rat.divInt (TT a b) (12 * b)).num, .int (Rat.divInt (TT a b) (12 * b)).den]) (.tuple [.int (Rat.divInt (TT a b) (12 * b)).num, .int (Rat.divInt (TT a b) (12 * b)).den])) (by simp [PyData.eqv, PyData.eqvAll]) ?_
    walk_at "go"
    refine ifF (c := !decide ((Rat.divInt (a * (b - 1) * (2 * b - 1)) (6 * b) - Rat.divInt (b - 1) 4 - Rat.divInt (TT a b) (12 * b)) * ((b : Int) : Rat) = ((S1 b.toNat a 0 b : Int) : Rat))) (by rw [g4]; simp) ?_
    have baM : Bt 390 (a * S1 b.toNat a 0 b) := (bt_mul ba bM).mono (by decide)
    have bbN : Bt 390 (b * S1 a.toNat b 0 a) := (bt_mul bb bN).mono (by decide)
    have bM4 := bM.mono (show 82 ≤ 400 by decide)
    have bN4 := bN.mono (show 82 ≤ 400 by decide)
    have bM5 := bM.mono (show 82 ≤ 395 by decide)
    have bN5 := bN.mono (show 82 ≤ 395 by decide)
    have bG : Bt 395 ((a - 1) * (b - 1) / 2) := by
      refine bt_le (n := 80) (y := (a - 1) * (b - 1)) (Int.ediv_nonneg (Int.mul_nonneg (by omega) (by omega)) (by decide)) (Int.ediv_le_self _ (Int.mul_nonneg (by omega) (by omega))) ?_ |>.mono (by decide)
      exact (bt_mul (bt_sub ba (bt_lit (n := 1) (x := 1) (by decide))) (bt_sub bb (bt_lit (n := 1) (x := 1) (by decide)))).mono (by decide)
    walk_at "go"
    show Q (V.bl (decide (V.int ((a - 1) * (b - 1) * (2 * a * b - a - b - 1) / 12) = V.int (a * S1 b.toNat a 0 b + b * S1 a.toNat b 0 a - a * b * ((a - 1) * (b - 1) / 2))))) _
    rw [g3, decide_eq_true rfl]
    exact k _ (by walk_at "f") (by walk_at "f")
end
end Tk


set_option maxHeartbeats 2000000
namespace Tk
open PySem PySem.Spec PyProof.Rows L2 Tc
section
variable {P : Program} {w : World} {K : PySem.W.Frag} {mg : Str → Option Value} {base : Heap} {A : Ad}
open Tm
local macro_rules | `(tactic| walk_at "arr") => `(tactic| first
  | with_reducible assumption
  | ((with_reducible apply same_new); with_reducible assumption))
local macro_rules | `(tactic| walk_at "f") => `(tactic| first
  | with_reducible assumption
  | with_reducible exact upd_same
  | with_reducible exact Same.refl _
  | with_reducible exact Frm.refl
  | ((with_reducible apply sqL_K); (focus with_reducible assumption); rfl)
  | ((with_reducible apply sqT_K); (focus with_reducible assumption); rfl)
  | ((with_reducible apply SqT.of); walk_at "f")
  | ((with_reducible apply SqL.of); walk_at "f")
  | ((with_reducible apply back_raw); (focus walk_at "arr"); walk_at "f")
  | ((with_reducible apply frm_tup); (focus with_reducible assumption); (focus walk_at "f"); (focus walk_at "f"); (focus (intro _ z; cases z; done)))
  | ((with_reducible apply frm_raw); (focus with_reducible assumption); (focus walk_at "f"); walk_at "f")
  | ((with_reducible apply bowl_back); (focus walk_at "arr"); walk_at "f")
  | ((with_reducible apply bowl_ne); (focus with_reducible assumption); walk_at "f")
  | ((with_reducible apply Num.int); with_reducible assumption)
  | ((with_reducible apply same_snoc); (focus walk_at "arr"); walk_at "f")
  | ((with_reducible apply frm_back); (focus walk_at "arr"); walk_at "f")
  | ((with_reducible apply frm_backF); (focus with_reducible assumption); walk_at "f")
  | ((with_reducible apply back_sqT); (focus walk_at "arr"); walk_at "f")
  | ((with_reducible apply same_sqL); (focus walk_at "arr"); walk_at "f")
  | ((with_reducible apply free_same); (focus with_reducible assumption); walk_at "f")
  | ((with_reducible apply free_frm); (focus with_reducible assumption); (focus with_reducible assumption); walk_at "f")
  | ((with_reducible apply frm_sqL); (focus with_reducible assumption); (focus walk_at "f"); walk_at "f"))
local macro_rules | `(tactic| walk_at "bt") => `(tactic| first
  | with_reducible assumption
  | ((with_reducible apply bt_mul); (focus walk_at "bt"); walk_at "bt")
  | ((with_reducible apply bt_add); (focus walk_at "bt"); walk_at "bt")
  | ((with_reducible apply bt_sub); (focus walk_at "bt"); walk_at "bt")
  | ((with_reducible apply bt_neg); walk_at "bt")
  | ((with_reducible apply bt_div); walk_at "bt")
  | ((with_reducible apply bt_mod); (focus (first | assumption | omega)); walk_at "bt")
  | exact bt_lit (n := 64) (by decide)
  | exact bt_lit (n := 200) (by decide +kernel))
local macro_rules | `(tactic| walk_at "lin") => `(tactic| first
  | exact (by decide : 1 ≤ sizeLine) | exact (by decide : 2 ≤ sizeLine) | exact (by decide : 3 ≤ sizeLine) | exact (by decide : 4 ≤ sizeLine) | exact (by decide : 0 ≤ sizeLine) | exact (by decide : 5 ≤ sizeLine) | exact (by decide : 6 ≤ sizeLine))
local macro_rules | `(tactic| walk_at "dp") => `(tactic| first
  | exact Dp.int _
  | exact DpAll.nil
  | ((with_reducible apply Dp.lst); (focus walk_at "f"); walk_at "dp")
  | ((with_reducible apply Dp.tup); (focus walk_at "f"); walk_at "dp")
  | ((with_reducible apply DpAll.cons); (focus walk_at "dp"); walk_at "dp"))
local macro_rules | `(tactic| walk_at "sv") => `(tactic| first
  | with_reducible rfl
  | walk_at "f"
  | exact rfl
  | walk_at "dp"
  | exact shp_lst [_] | exact shp_lst [_, _] | exact shp_lst [_, _, _] | exact shp_lst [_, _, _, _] | exact shp_tup [_, _] | exact shp_tup [_, _, _]
  | ((apply tyV_lst); walk_at "f")
  | ((with_reducible apply bt_mulW); (focus walk_at "bt"); (focus walk_at "bt"); (focus (first | decide | omega)))
  | ((with_reducible apply bt_divW); (focus (first | decide | assumption | omega)); (focus walk_at "bt"); (focus (first | decide | omega)))
  | ((with_reducible apply bt_divP); (focus (first | decide | assumption | omega)); (focus walk_at "bt"); (focus (first | decide | omega)))
  | exact ⟨by decide, by decide +kernel⟩
  | exact Or.inl (by decide)
  | exact Or.inr (by decide)
  | exact Or.inl ⟨by omega, by omega⟩
  | exact Or.inr ⟨by omega, by omega⟩
  | ((with_reducible apply Or.inl); walk_at "sv")
  | ((with_reducible apply Or.inr); walk_at "sv")
  | ((with_reducible apply Exists.intro); walk_at "sv")
  | ((with_reducible apply And.intro); (focus walk_at "sv"); walk_at "sv")
  | walk_at "lin"
  | decide
  | omega
  | (simp only [List.length_cons, List.length_nil, List.length_map]; first | done | omega))
local macro_rules | `(tactic| walk_at "one") => `(tactic| first
  | ((fail_if_success refine' @Exists.intro (Nat → L2.St → Hp → Prop) _ ?_ ?_); (fail_if_success refine' @Exists.intro (Nat → Nat → L2.St → Hp → Prop) _ ?_ ?_); (fail_if_success refine' @Exists.intro (L2.St → Hp → Prop) _ ?_ ?_); (fail_if_success refine' @Exists.intro (Nat → Nat → Hp → Prop) _ ?_ ?_); (fail_if_success refine' @Exists.intro (Hp → Prop) _ ?_ ?_); apply Exists.intro)
  | (apply And.intro; (focus walk_at "sv"))
  | intro _
  | (apply ifT; (focus rfl))
  | (apply ifF; (focus rfl))
  | ((apply Or.inl); (apply Exists.intro); (apply And.intro); (focus exact rfl))
  | ((apply Or.inl); (apply And.intro); (focus walk_at "f"))
  | ((apply Or.inr); (apply Exists.intro); (apply And.intro); (focus exact rfl))
  | (apply ifTd; (focus (first | assumption | omega)))
  | (apply ifFd; (focus (first | assumption | omega))))
local macro_rules | `(tactic| walk_at "go") => `(tactic| repeat walk_at "one")
local macro_rules | `(tactic| walk_at "nm") => `(tactic| try simp only [List.set_cons_zero, List.set_cons_succ])
local macro_rules | `(tactic| walk_at "gon") => `(tactic| repeat (walk_at "one"; walk_at "nm"))

local macro_rules | `(tactic| walk_at "arr") => `(tactic| first
  | ((with_reducible apply made2); (focus with_reducible assumption); (focus with_reducible assumption); with_reducible assumption)
  | ((with_reducible apply same_up); (focus with_reducible assumption); with_reducible assumption))
local macro_rules | `(tactic| walk_at "f") => `(tactic| first
  | ((with_reducible apply Num.long); walk_at "f")
  | ((with_reducible apply ratu_back); (focus walk_at "arr"); walk_at "f")
  | ((with_reducible apply ratu_frm); (focus with_reducible assumption); (focus walk_at "f"); walk_at "f")
  | ((with_reducible apply rat_back); (focus walk_at "arr"); walk_at "f")
  | ((with_reducible apply rat_frm); (focus with_reducible assumption); (focus walk_at "f"); walk_at "f")
  | ((with_reducible apply ratb_u); (focus with_reducible assumption); with_reducible assumption)
  | ((with_reducible apply ratb_at); (focus with_reducible assumption); with_reducible assumption)
  | ((with_reducible apply ratb_back); (focus walk_at "arr"); walk_at "f")
  | ((with_reducible apply ratb_frm); (focus with_reducible assumption); (focus walk_at "f"); walk_at "f")
  | ((with_reducible apply Rn.rat); walk_at "f")
  | ((with_reducible apply Rn.int); with_reducible assumption)
  | ((with_reducible apply rat_raw); walk_at "f")
  | ((with_reducible apply ratb_raw); walk_at "f"))
local macro_rules | `(tactic| walk_at "f") => `(tactic| first
  | ((apply ty_rat); (focus assumption); walk_at "f")
  | ((apply ty_ratb); (focus assumption); walk_at "f")
  | exact nf_self
  | exact TyX.base (.int _)
  | ((with_reducible apply Pay.two); (focus with_reducible assumption); (focus with_reducible assumption); (focus (first | with_reducible assumption | decide)); (first | with_reducible assumption | rfl))
  | ((with_reducible apply nf_K); (focus with_reducible assumption); rfl)
  | exact bt_lit (by decide +kernel))
local macro_rules | `(tactic| walk_at "one") => `(tactic| ((apply Or.inl); (apply Exists.intro); (apply Exists.intro); (apply And.intro); (focus exact rfl)))
local macro_rules | `(tactic| walk_at "f") => `(tactic| first
  | ((with_reducible apply frT_K); (focus with_reducible assumption); rfl)
  | ((with_reducible apply frt); (focus with_reducible assumption))
  | ((with_reducible apply frt_back); (focus walk_at "arr"); walk_at "f")
  | ((with_reducible apply frt_frm); (focus with_reducible assumption); (focus walk_at "f"); walk_at "f"))
local macro_rules | `(tactic| walk_at "sv") => `(tactic| first
  | ((with_reducible refine lt_line ?_); simp only [List.length_append, List.length_cons, List.length_nil, List.length_map, List.length_replicate, List.length_range]; omega)
  | ((with_reducible refine Nat.le_of_lt (lt_line ?_)); simp only [List.length_append, List.length_cons, List.length_nil, List.length_map, List.length_replicate, List.length_range]; omega))
theorem sum_sm (f : Nat → Int) : ∀ n : Nat, ((List.range n).map f).sum = sm f n
  | 0 => rfl
  | n + 1 => by
    rw [List.range_succ, List.map_append, List.sum_append, sum_sm f n]
    show sm f n + (f n + 0) = _
    rw [Int.add_zero]
    rfl
theorem len_filterN (p : Nat → Bool) {i : Nat} (f : Nat → V) (h : i < 5000) : (((List.range i).filter p).map f).length < sizeLine := by
  rw [List.length_map]
  have := List.length_filter_le p (List.range i)
  rw [List.length_range] at this
  exact lt_line (by omega)
theorem filter_moreN {p : Nat → Bool} {i : Nat} (f : Nat → V) (h : p i = true) : ((List.range (i + 1)).filter p).map f = ((List.range i).filter p).map f ++ [f i] := by
  rw [List.range_succ, List.filter_append, List.map_append]
  congr 1
  rw [List.filter_cons_of_pos h]
  rfl
theorem filter_lessN {p : Nat → Bool} {i : Nat} (f : Nat → V) (h : ¬ p i = true) : ((List.range (i + 1)).filter p).map f = ((List.range i).filter p).map f := by
  rw [List.range_succ, List.filter_append, List.map_append, List.filter_cons_of_neg h]
  exact List.append_nil _
theorem gp_len (a b v : Int) : ∀ L : Nat, ((((List.range L).filter fun n : Nat => !decide ((n : Int) * v % b * a ≤ n)).length : Nat) : Int) = gp a b v L
  | 0 => rfl
  | L + 1 => by
    have e : gp a b v (L + 1) = gp a b v L + ind (decide (¬ ((L : Int) * v % b) * a ≤ L)) := rfl
    rw [e, ← gp_len a b v L, List.range_succ, List.filter_append, List.length_append]
    by_cases h : (L : Int) * v % b * a ≤ L
    · rw [List.filter_cons_of_neg (by simp [h])]
      simp [ind, h]
    · rw [List.filter_cons_of_pos (by simp [h])]
      simp [ind, h]
def sp__law_ways_right (A : Ad) : Sp := fun vs H Q _ => ∃ (c : Addr), vs = [.ref c] ∧ Bowl H c ∧ ∀ H', Frm c H H' → Bowl H' c → Q (.bl true) H'
theorem ok__law_ways_right (T : Txt K mg A) : FnOk P w K mg base CX0 12 A.f__law_ways_right A.d__law_ways_right ["_law_purse"] (sp__law_ways_right A) := by
  refine T.F__law_ways_right.ok sc__law_ways_right (fun vs H Q E h => ?_) (fun cdv Ar outer s H vs Q E hr h => ?_)
  · obtain ⟨_, rfl, _⟩ := h
    rfl
  · obtain ⟨c, rfl, hB, k⟩ := h
    have hu := hu_of hr
    refine ⟨_, (Evl.pss_cut (ps_asg (pe_call (ok__law_two_drawn T) (hr.mono (by decide)) rfl T.m__law_two_drawn T.F__law_two_drawn.kp T.b__law_two_drawn .nil pass0 (pa_cons (pv 0) (pa_cons pe_int pa_nil))) (pg_tup rfl (pgs_cons (pg_name (i := 1) sc__law_ways_right.nd rfl (Or.inr rfl)) (pgs_cons (pg_name (i := 2) sc__law_ways_right.nd rfl (Or.inr rfl)) pgs_nil))))
      (Evl.pss_cut (ps_set (i := 3) sc__law_ways_right.nd rfl (Or.inl rfl) (pe_call (ok__law_coin T) (hr.mono (by decide)) rfl T.m__law_coin T.F__law_coin.kp T.b__law_coin .nil pass0 (pa_cons (pv 0) (pa_cons pe_int pa_nil))))
      (Evl.pss_cut (ps_if (pt_cmpR op_ne (pe_callB (cr_sum rfl) (by rfl) T.b_sum (by decide +kernel) (pa_cons (pe_lc (own := [("_law_number", 4)]) (g := gName 4) rfl sc__law_ways_right.nd (pi_range1 rfl T.b_range (pa_cons (pe_op op_add (pv 3) pe_int) pa_nil)) (blkOk_by (own := [("_law_number", 4)]) (N := n__law_ways_right) (sc := defScope s__law_ways_right) (by decide +kernel)) (fun _ _ _ _ _ => pg_name (i := 4) sc__law_ways_right.nd rfl (Or.inl rfl)) (fun _ _ _ _ _ => pts_nil) (fun _ _ _ _ _ => (pe_call (ok_ways T) (hr.mono (by decide)) rfl T.m_ways T.F_ways.kp T.b_ways .nil pass0 (pa_cons (pv 1) (pa_cons (pv 2) (pa_cons (pv 4) pa_nil)))))) pa_nil)) (pe_call (ok_triangle_points T) (hr.mono (by decide)) rfl T.m_triangle_points T.F_triangle_points.kp T.b_triangle_points .nil pass0 (pa_cons (pv 1) (pa_cons (pv 2) (pa_cons (pv 3) pa_nil)))) (nomark _))
        (pss_one (ps_ret pe_bl))
        pss_nil)
      (Evl.pss_cut (ps_setLc (i := 5) (own := [("_law_number", 4)]) (g := gName 4) rfl sc__law_ways_right.nd rfl rfl (sw_true rfl rfl rfl (by decide +kernel)) (pi_range1 rfl T.b_range (pa_cons (pv 3) pa_nil)) (blkOk_by (own := [("_law_number", 4)]) (N := n__law_ways_right) (sc := defScope s__law_ways_right) (by decide +kernel)) (fun _ _ _ _ _ => pg_name (i := 4) sc__law_ways_right.nd rfl (Or.inl rfl)) (fun _ _ _ _ _ => (pts_one (pt_not (pt_val (pe_call (ok_reaches T) (hr.mono (by decide)) rfl T.m_reaches T.F_reaches.kp T.b_reaches .nil pass0 (pa_cons (pv 1) (pa_cons (pv 2) (pa_cons (pv 4) pa_nil)))))))) (fun _ _ _ _ _ => (pv 4)))
      (Evl.pss_cut (ps_if (PW.pt (pw_or (pt_cmpR op_ne (pe_call (ok_gaps_below T) (hr.mono (by decide)) rfl T.m_gaps_below T.F_gaps_below.kp T.b_gaps_below .nil pass0 (pa_cons (pv 1) (pa_cons (pv 2) (pa_cons (pv 3) pa_nil)))) (pe_callB call_len_seq (by rfl) T.b_len (by decide +kernel) (pa_cons (pv 5) pa_nil)) (nomark _)) (pw_or1 (pt_not (pt_val (pe_call (ok__law_teeth_right T) (hr.mono (by decide)) rfl T.m__law_teeth_right T.F__law_teeth_right.kp T.b__law_teeth_right .nil pass0 (pa_cons (pv 1) (pa_cons (pv 2) (pa_cons (pv 3) pa_nil)))))))))
        (pss_one (ps_ret pe_bl))
        pss_nil)
      (Evl.pss_cut (ps_asg (pe_call (ok__law_two_drawn T) (hr.mono (by decide)) rfl T.m__law_two_drawn T.F__law_two_drawn.kp T.b__law_two_drawn .nil pass0 (pa_cons (pv 0) (pa_cons (pe_op op_powX pe_int pe_int) pa_nil))) (pg_tup rfl (pgs_cons (pg_name (i := 6) sc__law_ways_right.nd rfl (Or.inl rfl)) (pgs_cons (pg_name (i := 7) sc__law_ways_right.nd rfl (Or.inl rfl)) pgs_nil))))
      (pss_one (ps_ret (pe_and (pe_call (ok__law_teeth_right T) (hr.mono (by decide)) rfl T.m__law_teeth_right T.F__law_teeth_right.kp T.b__law_teeth_right .nil pass0 (pa_cons (pv 6) (pa_cons (pv 7) (pa_cons (pe_call (ok__law_great T) (hr.mono (by decide)) rfl T.m__law_great T.F__law_great.kp T.b__law_great .nil pass0 (pa_cons (pv 0) (pa_cons pe_int pa_nil))) pa_nil)))) (pe_one (pe_call (ok__law_teeth_right T) (hr.mono (by decide)) rfl T.m__law_teeth_right T.F__law_teeth_right.kp T.b__law_teeth_right .nil pass0 (pa_cons (pv 6) (pa_cons (pv 7) (pa_cons (pe_op op_mulW (pv 6) (pv 3)) pa_nil)))))))))))))), ?_⟩
    refine ⟨fun σ H' => Stop (∃ (a b : Int), σ = [some (.ref c), some (.int a), some (.int b), none, none, none, none, none] ∧ Frm c H H' ∧ Bowl H' c ∧ 0 < a ∧ 0 < b ∧ a ≤ 20 ∧ b ≤ 20 ∧ gc a b = 1), ?_, ?_⟩
    · walk_at "go"
      rename_i p x y H2 np f2 B2 gp x0 x1 y0 y1 hg
      exact ⟨_, _, rfl, by walk_at "f", B2, by omega, by omega, by omega, by omega, hg⟩
    rintro σ H1 ⟨⟨a, b, rfl, f1, B1, a0, b0, a6, b6, hg⟩⟩
    refine ⟨fun σ H' => Stop (∃ (L : Nat), σ = [some (.ref c), some (.int a), some (.int b), some (.int L), none, none, none, none] ∧ Frm c H1 H' ∧ Bowl H' c ∧ L < 90), ?_, ?_⟩
    · walk_at "go"
      rename_i r H2 r0 r1 f2 B2
      exact ⟨r.toNat, by rw [show ((r.toNat : Nat) : Int) = r by omega]; rfl, by walk_at "f", B2, by omega⟩
    rintro σ H2 ⟨⟨L, rfl, f2, B2, hL⟩⟩
    have hg2 : gc b a = 1 := by rw [gc_comm]; exact hg
    obtain ⟨v, hv⟩ := inv_gen b0 hg
    obtain ⟨u, hu⟩ := inv_gen a0 hg2
    have ba : Bt 41 a := Bt.mono (n := 5) (by show a.natAbs < 2 ^ 5; omega) (by decide)
    have bb : Bt 41 b := Bt.mono (n := 5) (by show b.natAbs < 2 ^ 5; omega) (by decide)
    have bL : Bt 101 (L : Int) := Bt.mono (n := 7) (by show (L : Int).natAbs < 2 ^ 7; omega) (by decide)
    have sL : Short (L : Int) := ⟨by omega, by omega⟩
    have sa : Short a := ⟨by omega, by omega⟩
    have sb : Short b := ⟨by omega, by omega⟩
    have a1 : 1 ≤ a := a0
    have b1 : 1 ≤ b := b0
    have ba4 := ba.mono (show 41 ≤ 400 by decide)
    have bb4 := bb.mono (show 41 ≤ 400 by decide)
    have bL4 := bL.mono (show 101 ≤ 400 by decide)
    have ba3 := ba.mono (show 41 ≤ 398 by decide)
    have bb3 := bb.mono (show 41 ≤ 398 by decide)
    have bL3 := bL.mono (show 101 ≤ 398 by decide)
    have ba2 := ba.mono (show 41 ≤ 300 by decide)
    have bb2 := bb.mono (show 41 ≤ 300 by decide)
    have bL2 := bL.mono (show 101 ≤ 300 by decide)
    refine ⟨fun σ H' => Stop (σ = [some (.ref c), some (.int a), some (.int b), some (.int L), none, none, none, none] ∧ Same H2 H'), ?_, ?_⟩
    · walk_at "go"
      rename_i D hD
      refine lc_range (fun i H' => Stop (H' D = some (.lst (((List.range i).map fun n : Nat => Wy a b n ((n : Int) * v % b)).map V.int)) ∧ Same H2 H')) ⟨upd_same, same_new hD⟩ ?_ ?_
      · rintro i H3 hi ⟨⟨gD, sD⟩⟩
        have hi : i < ((L : Int) + 1).toNat := hi
        have hl := len_range V.int (fun n : Nat => Wy a b n ((n : Int) * v % b)) (i := i) (by omega)
        have bi : Bt 400 (0 + (i : Int)) := (bt_small (i := 0 + (i : Int)) (by omega) (by omega)).mono (by decide)
        have si : Short (0 + (i : Int)) := ⟨by omega, by omega⟩
        walk_at "go"
        rename_i w H4 hw s4
        refine ⟨⟨?_, same_mut (sD.trans s4) hD⟩⟩
        rw [upd_same, List.range_succ, List.map_append, List.map_append, Int.zero_add]
        show _ = some (HO.lst (_ ++ [V.int (Wy a b (i : Int) ((i : Int) * v % b))]))
        rw [← inv_same (n := (i : Int)) hw hv]
        rfl
      · rintro H3 ⟨⟨gD, sD⟩⟩
        walk_at "go"
        refine ifF (c := !decide (V.int ((List.range ((L : Int) + 1).toNat).map fun n : Nat => Wy a b n ((n : Int) * v % b)).sum = V.int (Tri a b L))) (by
          rw [sum_sm, show ((L : Int) + 1).toNat = L + 1 by omega, tri_sum a0 b0 hv hu, show ((L + 1 : Nat) : Int) - 1 = L by omega]
          simp) ?_
        walk_at "go"
        exact ⟨rfl, by walk_at "f"⟩
    rintro σ H3 ⟨⟨rfl, s3⟩⟩
    refine ⟨fun σ H' => Stop (∃ D : Addr, σ = [some (.ref c), some (.int a), some (.int b), some (.int L), none, some (.ref D), none, none] ∧ Same H3 H' ∧ H' D = some (.lst (((List.range L).filter fun n : Nat => !decide ((n : Int) * v % b * a ≤ n)).map fun n : Nat => V.int n))), ?_, ?_⟩
    · walk_at "go"
      rename_i D hD
      refine lc_range (fun i H' => Stop (H' D = some (.lst (((List.range i).filter fun n : Nat => !decide ((n : Int) * v % b * a ≤ n)).map fun n : Nat => V.int n)) ∧ Same H3 H')) ⟨upd_same, same_new hD⟩ ?_ ?_
      · rintro i H4 hi ⟨⟨gD, sD⟩⟩
        have hi : i < (L : Int).toNat := hi
        have hl := len_filterN (fun n : Nat => !decide ((n : Int) * v % b * a ≤ n)) (fun n : Nat => V.int n) (i := i) (by omega)
        have bi : Bt 400 (0 + (i : Int)) := (bt_small (i := 0 + (i : Int)) (by omega) (by omega)).mono (by decide)
        have si : Short (0 + (i : Int)) := ⟨by omega, by omega⟩
        walk_at "go"
        rename_i w H5 hw s5
        rw [Int.zero_add, inv_same hw hv]
        refine ite2 (fun h => ?_) (fun h => ?_)
        · have gl := s5 _ _ gD
          walk_at "go"
          refine ⟨⟨?_, same_mut (sD.trans s5) hD⟩⟩
          rw [upd_same, filter_moreN (fun n : Nat => V.int n) h]
        · refine ⟨⟨?_, sD.trans s5⟩⟩
          rw [filter_lessN (fun n : Nat => V.int n) h]
          exact s5 _ _ gD
      · rintro H4 ⟨⟨gD, sD⟩⟩
        exact ⟨D, rfl, sD, gD⟩
    rintro σ H4 ⟨⟨D, rfl, s4, gD⟩⟩
    refine ⟨fun σ H' => Stop (σ = [some (.ref c), some (.int a), some (.int b), some (.int L), none, some (.ref D), none, none] ∧ Same H4 H'), ?_, ?_⟩
    · walk_at "go"
      refine ifF (c := !decide (V.int (gB a b L) = V.int (((((List.range L).filter fun n : Nat => !decide ((n : Int) * v % b * a ≤ n)).map fun n : Nat => V.int n).length : Nat) : Int))) (by
        rw [List.length_map, gp_len, gB_gp a0 b0 hg hv hu]
        simp) ?_
      walk_at "go"
      exact ⟨rfl, by walk_at "f"⟩
    rintro σ H5 ⟨⟨rfl, s5⟩⟩
    have B5 : Bowl H5 c := B2.stay (s3.trans (s4.trans s5))
    have f5 : Frm c H H5 := f1.trans (f2.trans (same_frame (s3.trans (s4.trans s5))))
    clear B1 B2 f1 f2 s3 s4 s5
    refine ⟨fun σ H' => Stop (∃ (x y : Int), σ = [some (.ref c), some (.int a), some (.int b), some (.int L), none, some (.ref D), some (.int x), some (.int y)] ∧ Frm c H5 H' ∧ Bowl H' c ∧ 0 < x ∧ 0 < y ∧ x ≤ 10 ^ 12 ∧ y ≤ 10 ^ 12 ∧ gc x y = 1), ?_, ?_⟩
    · walk_at "go"
      rename_i p x y H6 np f6 B6 gp x0 x1 y0 y1 hxy
      exact ⟨_, _, rfl, by walk_at "f", B6, by omega, by omega, x1, y1, hxy⟩
    rintro σ H6 ⟨⟨x, y, rfl, f6, B6, x0, y0, x6, y6, hxy⟩⟩
    have bx : Bt 41 x := Bt.mono (n := 40) (by show x.natAbs < 2 ^ 40; omega) (by decide)
    have by' : Bt 41 y := Bt.mono (n := 40) (by show y.natAbs < 2 ^ 40; omega) (by decide)
    have x1 : 1 ≤ x := x0
    have y1 : 1 ≤ y := y0
    have xL : 0 ≤ x * L := Int.mul_nonneg (by omega) (by omega)
    have bxL : Bt 101 (x * L) := (bt_mul (bx) (Bt.mono (n := 7) (m := 8) (x := (L : Int)) (by show (L : Int).natAbs < 2 ^ 7; omega) (by decide))).mono (by decide)
    have bx4 := bx.mono (show 41 ≤ 400 by decide)
    walk_at "go"
    rename_i r H7 r0 r1 f7 B7
    have br : Bt 101 r := by
      have r1 : r < 10 ^ 30 := r1
      show r.natAbs < 2 ^ 101
      omega
    refine ⟨br, fun H8 s8 => ?_⟩
    walk_at "go"
    exact k _ (by walk_at "f") (by walk_at "f")
def sp_law (K : PySem.W.Frag) : Sp := fun vs H Q _ => ∃ (sc : Addr) (ns : List Int), vs = [.ref sc] ∧ SqL K H sc (ns.map V.int) ∧ ns.length ≤ 63 ∧ ∀ H', Q (.bl true) H'
theorem ok_law (T : Txt K mg A) : FnOk P w K mg base CX0 14 A.f_law A.d_law ["_law_script"] (sp_law K) := by
  refine T.F_law.ok sc_law (fun vs H Q E h => ?_) (fun cdv Ar outer s H vs Q E hr h => ?_)
  · obtain ⟨_, _, rfl, _⟩ := h
    rfl
  · obtain ⟨sc, ns, rfl, hS, hn, k⟩ := h
    have hu := hu_of hr
    refine ⟨_, (pss_cons (ps_for PassesOwn.never rfl (pi_range1 rfl T.b_range (pa_cons (pe_callB (call_max2 rfl) (by rfl) T.b_max (by decide +kernel) (pa_cons pe_int (pa_cons (pe_callB (call_min2 rfl) (by rfl) T.b_min (by decide +kernel) (pa_cons pe_int (pa_cons (pe_callB call_len_seq (by rfl) T.b_len (by decide +kernel) (pa_cons (pv 0) pa_nil)) pa_nil))) pa_nil))) pa_nil)) (pg_name (i := 1) sc_law.nd rfl (Or.inl rfl))
        (pss_cons (ps_set (i := 2) sc_law.nd rfl (Or.inl rfl) (pe_call (ok__law_purse_of T) (hr.mono (by decide)) rfl T.m__law_purse_of T.F__law_purse_of.kp T.b__law_purse_of .nil pass0 (pa_cons (pv 0) (pa_cons (pv 1) pa_nil))))
          (pss_one (ps_for PassesOwn.never rfl (pi_range1 rfl T.b_range (pa_cons pe_int pa_nil)) (pg_name (i := 3) sc_law.nd rfl (Or.inl rfl))
            (pss_one (ps_if (PW.pt (pw_or (pt_not (pt_val (pe_call (ok__law_ways_right T) (hr.mono (by decide)) rfl T.m__law_ways_right T.F__law_ways_right.kp T.b__law_ways_right .nil pass0 (pa_cons (pv 2) pa_nil)))) (pw_or1 (pt_not (pt_val (pe_call (ok__law_gaps_right T) (hr.mono (by decide)) rfl T.m__law_gaps_right T.F__law_gaps_right.kp T.b__law_gaps_right .nil pass0 (pa_cons (pv 2) pa_nil)))))))
                (pss_one (ps_ret pe_bl))
                pss_nil))))))
      (pss_one (ps_ret pe_bl))), ?_⟩
    walk_at "go"
    refine for_range (fun i σ H' => Stop (∃ (v1 v2 v3 : Option V), σ = [some (.ref sc), v1, v2, v3] ∧ Same H H')) ⟨_, _, _, rfl, Same.refl _⟩ ?_ ?_
    · rintro i σ H1 hi ⟨⟨v1, v2, v3, rfl, s1⟩⟩
      have hS1 := same_sqL s1 hS
      walk_at "go"
      rename_i b Hb hb sb Bb
      refine for_range (fun i' σ H' => Stop (∃ (v1 v3 : Option V), σ = [some (.ref sc), v1, some (.ref b), v3] ∧ Frm b Hb H' ∧ Bowl H' b)) ⟨_, _, rfl, Frm.refl, Bb⟩ ?_ ?_
      · rintro i' σ H2 hi' ⟨⟨w1, w3, rfl, f2, B2⟩⟩
        walk_at "go"
        exact ⟨_, _, rfl, by walk_at "f", by walk_at "f"⟩
      · rintro σ H2 ⟨⟨w1, w3, rfl, f2, B2⟩⟩
        walk_at "go"
        exact ⟨_, _, _, rfl, s1.trans (same_frm_back hb sb (by walk_at "f"))⟩
    · rintro σ H1 ⟨⟨v1, v2, v3, rfl, s1⟩⟩
      walk_at "go"
      exact k _
end
end Tk

set_option maxHeartbeats 4000000
namespace Tk
open PySem PySem.Spec PyProof.Rows L2 Tc
theorem all_mk {P : Program} {w : World} {K : PySem.W.Frag} {h : Heap} {mg : Str → Option Value} {fa : Addr} (X : K.In h) (G : h.Ns mainGlobals mg) (hfa : mg "law" = some (.ref fa))
    {C_Long C_Terms C_Ratio f0 f1 f2 f3 f4 f5 f6 f7 f8 f9 f10 f11 f12 f13 f14 f15 f16 f17 f18 f19 f20 f21 f22 f23 f24 f25 f26 f27 f28 f29 f30 f31 f32 f33 f34 f35 f36 f37 f38 f39 f40 f41 f42 f43 f44 f45 f46 f47 f48 f49 f50 f51 f52 f53 f54 f55 f56 f57 f58 f59 f60 f61 f62 f63 f64 f65 f66 p10 p11 : Addr} {od0 an0 od1 an1 od2 an2 od3 an3 od4 an4 od5 an5 od6 an6 od7 an7 od8 an8 od9 an9 od10 an10 od11 an11 od12 an12 od13 an13 od14 an14 od15 an15 od16 an16 od17 an17 od18 an18 od19 an19 od20 an20 od21 an21 od22 an22 od23 an23 od24 an24 od25 an25 od26 an26 od27 an27 od28 an28 od29 an29 od30 an30 od31 an31 od32 an32 od33 an33 od34 an34 od35 an35 od36 an36 od37 an37 od38 an38 od39 an39 od40 an40 od41 an41 od42 an42 od43 an43 od44 an44 od45 an45 od46 an46 od47 an47 od48 an48 od49 an49 od50 an50 od51 an51 od52 an52 od53 an53 od54 an54 od55 an55 od56 an56 od57 an57 od58 an58 od59 an59 od60 an60 od61 an61 od62 an62 od63 an63 od64 an64 od65 an65 od66 an66 : Option Addr} {sl0 sl1 sl2 sl3 sl4 sl5 sl6 sl7 sl8 sl9 sl10 sl11 sl12 sl13 sl14 sl15 sl16 sl17 sl18 sl19 sl20 sl21 sl22 sl23 sl24 sl25 sl26 sl27 sl28 sl29 sl30 sl31 sl32 sl33 sl34 sl35 sl36 sl37 sl38 sl39 sl40 sl41 sl42 sl43 sl44 sl45 sl46 sl47 sl48 sl49 sl50 sl51 sl52 sl53 sl54 sl55 sl56 sl57 sl58 sl59 sl60 sl61 sl62 sl63 sl64 sl65 sl66 : Array (Option Value)} {oc0 kV0 dc0 pm0 cd0 ct0 oc1 kV1 dc1 pm1 cd1 ct1 oc2 kV2 dc2 pm2 cd2 ct2 oc3 kV3 dc3 pm3 cd3 ct3 oc4 kV4 dc4 pm4 cd4 ct4 oc5 kV5 dc5 pm5 cd5 ct5 oc6 kV6 dc6 pm6 cd6 ct6 oc7 kV7 dc7 pm7 cd7 ct7 oc8 kV8 dc8 pm8 cd8 ct8 oc9 kV9 dc9 pm9 cd9 ct9 oc10 kV10 dc10 pm10 cd10 ct10 oc11 kV11 dc11 pm11 cd11 ct11 oc12 kV12 dc12 pm12 cd12 ct12 oc13 kV13 dc13 pm13 cd13 ct13 oc14 kV14 dc14 pm14 cd14 ct14 oc15 kV15 dc15 pm15 cd15 ct15 oc16 kV16 dc16 pm16 cd16 ct16 oc17 kV17 dc17 pm17 cd17 ct17 oc18 kV18 dc18 pm18 cd18 ct18 oc19 kV19 dc19 pm19 cd19 ct19 oc20 kV20 dc20 pm20 cd20 ct20 oc21 kV21 dc21 pm21 cd21 ct21 oc22 kV22 dc22 pm22 cd22 ct22 oc23 kV23 dc23 pm23 cd23 ct23 oc24 kV24 dc24 pm24 cd24 ct24 oc25 kV25 dc25 pm25 cd25 ct25 oc26 kV26 dc26 pm26 cd26 ct26 oc27 kV27 dc27 pm27 cd27 ct27 oc28 kV28 dc28 pm28 cd28 ct28 oc29 kV29 dc29 pm29 cd29 ct29 oc30 kV30 dc30 pm30 cd30 ct30 oc31 kV31 dc31 pm31 cd31 ct31 oc32 kV32 dc32 pm32 cd32 ct32 oc33 kV33 dc33 pm33 cd33 ct33 oc34 kV34 dc34 pm34 cd34 ct34 oc35 kV35 dc35 pm35 cd35 ct35 oc36 kV36 dc36 pm36 cd36 ct36 oc37 kV37 dc37 pm37 cd37 ct37 oc38 kV38 dc38 pm38 cd38 ct38 oc39 kV39 dc39 pm39 cd39 ct39 oc40 kV40 dc40 pm40 cd40 ct40 oc41 kV41 dc41 pm41 cd41 ct41 oc42 kV42 dc42 pm42 cd42 ct42 oc43 kV43 dc43 pm43 cd43 ct43 oc44 kV44 dc44 pm44 cd44 ct44 oc45 kV45 dc45 pm45 cd45 ct45 oc46 kV46 dc46 pm46 cd46 ct46 oc47 kV47 dc47 pm47 cd47 ct47 oc48 kV48 dc48 pm48 cd48 ct48 oc49 kV49 dc49 pm49 cd49 ct49 oc50 kV50 dc50 pm50 cd50 ct50 oc51 kV51 dc51 pm51 cd51 ct51 oc52 kV52 dc52 pm52 cd52 ct52 oc53 kV53 dc53 pm53 cd53 ct53 oc54 kV54 dc54 pm54 cd54 ct54 oc55 kV55 dc55 pm55 cd55 ct55 oc56 kV56 dc56 pm56 cd56 ct56 oc57 kV57 dc57 pm57 cd57 ct57 oc58 kV58 dc58 pm58 cd58 ct58 oc59 kV59 dc59 pm59 cd59 ct59 oc60 kV60 dc60 pm60 cd60 ct60 oc61 kV61 dc61 pm61 cd61 ct61 oc62 kV62 dc62 pm62 cd62 ct62 oc63 kV63 dc63 pm63 cd63 ct63 oc64 kV64 dc64 pm64 cd64 ct64 oc65 kV65 dc65 pm65 cd65 ct65 oc66 kV66 dc66 pm66 cd66 ct66 : Value} {rs10 rs11 : List Value} {tk__TOO_LONG tk__SHORT tt7_0 tt9_0 : Tok} {dT7 dT9 rg_Ratio__radd__ rg_Ratio__rsub__ rg_Ratio__rmul__ : Addr} {tC7 tC9 : Value} {tD7 tD9 : Option Addr} {tn7 tn9 : Nat} {tS7 tS9 : Array (Option Value)} {fo__add__ fo__radd__ fo__sub__ fo__rsub__ fo__mul__ fo__rmul__ : Option Value}
    (aC_Long : PySem.W.nsIn K mainGlobals "Long" = some (some (.ref C_Long)))
    (aC_Terms : PySem.W.nsIn K mainGlobals "Terms" = some (some (.ref C_Terms)))
    (aC_Ratio : PySem.W.nsIn K mainGlobals "Ratio" = some (some (.ref C_Ratio)))
    (a0 : PySem.W.findIn K (.ref C_Long) "__init__" = some (some (.ref f0)))
    (i0 : PySem.W.isFn K (.ref f0) = true)
    (l0 : K.lookup f0 = some ⟨oc0, od0, .func (PySem.W.fnOf "__init__" "Long.__init__" (defArgs s_Long___init__) (defBody s_Long___init__) (defScope s_Long___init__) .none kV0 dc0 pm0 an0 cd0 ct0), sl0⟩)
    (c0 : PySem.W.codeIn K cd0 "Long.__init__" = true)
    (k0 : PySem.W.keepIn K (.ref f0) = true)
    (a1 : PySem.W.nsIn K mainGlobals "is_short_integer" = some (some (.ref f1)))
    (l1 : K.lookup f1 = some ⟨oc1, od1, .func (PySem.W.fnOf "is_short_integer" "is_short_integer" (defArgs s_is_short_integer) (defBody s_is_short_integer) (defScope s_is_short_integer) .none kV1 dc1 pm1 an1 cd1 ct1), sl1⟩)
    (c1 : PySem.W.codeIn K cd1 "is_short_integer" = true)
    (k1 : PySem.W.keepIn K (.ref f1) = true)
    (a2 : PySem.W.nsIn K mainGlobals "is_any_integer" = some (some (.ref f2)))
    (l2 : K.lookup f2 = some ⟨oc2, od2, .func (PySem.W.fnOf "is_any_integer" "is_any_integer" (defArgs s_is_any_integer) (defBody s_is_any_integer) (defScope s_is_any_integer) .none kV2 dc2 pm2 an2 cd2 ct2), sl2⟩)
    (c2 : PySem.W.codeIn K cd2 "is_any_integer" = true)
    (k2 : PySem.W.keepIn K (.ref f2) = true)
    (a3 : PySem.W.nsIn K mainGlobals "checked_integer" = some (some (.ref f3)))
    (l3 : K.lookup f3 = some ⟨oc3, od3, .func (PySem.W.fnOf "checked_integer" "checked_integer" (defArgs s_checked_integer) (defBody s_checked_integer) (defScope s_checked_integer) .none kV3 dc3 pm3 an3 cd3 ct3), sl3⟩)
    (c3 : PySem.W.codeIn K cd3 "checked_integer" = true)
    (k3 : PySem.W.keepIn K (.ref f3) = true)
    (a4 : PySem.W.nsIn K mainGlobals "checked_from" = some (some (.ref f4)))
    (l4 : K.lookup f4 = some ⟨oc4, od4, .func (PySem.W.fnOf "checked_from" "checked_from" (defArgs s_checked_from) (defBody s_checked_from) (defScope s_checked_from) .none kV4 dc4 pm4 an4 cd4 ct4), sl4⟩)
    (c4 : PySem.W.codeIn K cd4 "checked_from" = true)
    (k4 : PySem.W.keepIn K (.ref f4) = true)
    (a5 : PySem.W.nsIn K mainGlobals "checked_pair" = some (some (.ref f5)))
    (l5 : K.lookup f5 = some ⟨oc5, od5, .func (PySem.W.fnOf "checked_pair" "checked_pair" (defArgs s_checked_pair) (defBody s_checked_pair) (defScope s_checked_pair) .none kV5 dc5 pm5 an5 cd5 ct5), sl5⟩)
    (c5 : PySem.W.codeIn K cd5 "checked_pair" = true)
    (k5 : PySem.W.keepIn K (.ref f5) = true)
    (a6 : PySem.W.nsIn K mainGlobals "inverse_or_none" = some (some (.ref f6)))
    (l6 : K.lookup f6 = some ⟨oc6, od6, .func (PySem.W.fnOf "inverse_or_none" "inverse_or_none" (defArgs s_inverse_or_none) (defBody s_inverse_or_none) (defScope s_inverse_or_none) .none kV6 dc6 pm6 an6 cd6 ct6), sl6⟩)
    (c6 : PySem.W.codeIn K cd6 "inverse_or_none" = true)
    (k6 : PySem.W.keepIn K (.ref f6) = true)
    (a7 : PySem.W.nsIn K mainGlobals "check_coprime" = some (some (.ref f7)))
    (l7 : K.lookup f7 = some ⟨oc7, od7, .func (PySem.W.fnOf "check_coprime" "check_coprime" (defArgs s_check_coprime) (defBody s_check_coprime) (defScope s_check_coprime) (.ref dT7) kV7 dc7 pm7 an7 cd7 ct7), sl7⟩)
    (d7 : K.lookup dT7 = some ⟨tC7, tD7, .seq #[.int (1) tt7_0] tn7, tS7⟩)
    (c7 : PySem.W.codeIn K cd7 "check_coprime" = true)
    (k7 : PySem.W.keepIn K (.ref f7) = true)
    (a8 : PySem.W.findIn K (.ref C_Terms) "__init__" = some (some (.ref f8)))
    (i8 : PySem.W.isFn K (.ref f8) = true)
    (l8 : K.lookup f8 = some ⟨oc8, od8, .func (PySem.W.fnOf "__init__" "Terms.__init__" (defArgs s_Terms___init__) (defBody s_Terms___init__) (defScope s_Terms___init__) .none kV8 dc8 pm8 an8 cd8 ct8), sl8⟩)
    (c8 : PySem.W.codeIn K cd8 "Terms.__init__" = true)
    (k8 : PySem.W.keepIn K (.ref f8) = true)
    (a9 : PySem.W.findIn K (.ref C_Ratio) "__init__" = some (some (.ref f9)))
    (i9 : PySem.W.isFn K (.ref f9) = true)
    (l9 : K.lookup f9 = some ⟨oc9, od9, .func (PySem.W.fnOf "__init__" "Ratio.__init__" (defArgs s_Ratio___init__) (defBody s_Ratio___init__) (defScope s_Ratio___init__) (.ref dT9) kV9 dc9 pm9 an9 cd9 ct9), sl9⟩)
    (d9 : K.lookup dT9 = some ⟨tC9, tD9, .seq #[.int (1) tt9_0] tn9, tS9⟩)
    (c9 : PySem.W.codeIn K cd9 "Ratio.__init__" = true)
    (k9 : PySem.W.keepIn K (.ref f9) = true)
    (a10 : PySem.W.findIn K (.ref C_Ratio) "top" = some (some (.ref p10)))
    (pg10 : PySem.W.specialIn K (.ref p10) "__get__" = some (some (.builtin "property.__get__")))
    (pt10 : PySem.W.takesIn K (.ref p10) = some true)
    (pr10 : PySem.W.recIn K p10 "property" = some (.ref f10 :: rs10))
    (l10 : K.lookup f10 = some ⟨oc10, od10, .func (PySem.W.fnOf "top" "Ratio.top" (defArgs s_Ratio_top) (defBody s_Ratio_top) (defScope s_Ratio_top) .none kV10 dc10 pm10 an10 cd10 ct10), sl10⟩)
    (c10 : PySem.W.codeIn K cd10 "Ratio.top" = true)
    (k10 : PySem.W.keepIn K (.ref f10) = true)
    (a11 : PySem.W.findIn K (.ref C_Ratio) "bottom" = some (some (.ref p11)))
    (pg11 : PySem.W.specialIn K (.ref p11) "__get__" = some (some (.builtin "property.__get__")))
    (pt11 : PySem.W.takesIn K (.ref p11) = some true)
    (pr11 : PySem.W.recIn K p11 "property" = some (.ref f11 :: rs11))
    (l11 : K.lookup f11 = some ⟨oc11, od11, .func (PySem.W.fnOf "bottom" "Ratio.bottom" (defArgs s_Ratio_bottom) (defBody s_Ratio_bottom) (defScope s_Ratio_bottom) .none kV11 dc11 pm11 an11 cd11 ct11), sl11⟩)
    (c11 : PySem.W.codeIn K cd11 "Ratio.bottom" = true)
    (k11 : PySem.W.keepIn K (.ref f11) = true)
    (a12 : PySem.W.findIn K (.ref C_Ratio) "__add__" = some (some (.ref f12)))
    (i12 : PySem.W.isFn K (.ref f12) = true)
    (l12 : K.lookup f12 = some ⟨oc12, od12, .func (PySem.W.fnOf "__add__" "Ratio.__add__" (defArgs s_Ratio___add__) (defBody s_Ratio___add__) (defScope s_Ratio___add__) .none kV12 dc12 pm12 an12 cd12 ct12), sl12⟩)
    (c12 : PySem.W.codeIn K cd12 "Ratio.__add__" = true)
    (k12 : PySem.W.keepIn K (.ref f12) = true)
    (a13 : PySem.W.findIn K (.ref C_Ratio) "__sub__" = some (some (.ref f13)))
    (i13 : PySem.W.isFn K (.ref f13) = true)
    (l13 : K.lookup f13 = some ⟨oc13, od13, .func (PySem.W.fnOf "__sub__" "Ratio.__sub__" (defArgs s_Ratio___sub__) (defBody s_Ratio___sub__) (defScope s_Ratio___sub__) .none kV13 dc13 pm13 an13 cd13 ct13), sl13⟩)
    (c13 : PySem.W.codeIn K cd13 "Ratio.__sub__" = true)
    (k13 : PySem.W.keepIn K (.ref f13) = true)
    (a14 : PySem.W.findIn K (.ref C_Ratio) "__mul__" = some (some (.ref f14)))
    (i14 : PySem.W.isFn K (.ref f14) = true)
    (l14 : K.lookup f14 = some ⟨oc14, od14, .func (PySem.W.fnOf "__mul__" "Ratio.__mul__" (defArgs s_Ratio___mul__) (defBody s_Ratio___mul__) (defScope s_Ratio___mul__) .none kV14 dc14 pm14 an14 cd14 ct14), sl14⟩)
    (c14 : PySem.W.codeIn K cd14 "Ratio.__mul__" = true)
    (k14 : PySem.W.keepIn K (.ref f14) = true)
    (a15 : PySem.W.findIn K (.ref C_Ratio) "__eq__" = some (some (.ref f15)))
    (i15 : PySem.W.isFn K (.ref f15) = true)
    (l15 : K.lookup f15 = some ⟨oc15, od15, .func (PySem.W.fnOf "__eq__" "Ratio.__eq__" (defArgs s_Ratio___eq__) (defBody s_Ratio___eq__) (defScope s_Ratio___eq__) .none kV15 dc15 pm15 an15 cd15 ct15), sl15⟩)
    (c15 : PySem.W.codeIn K cd15 "Ratio.__eq__" = true)
    (k15 : PySem.W.keepIn K (.ref f15) = true)
    (a16 : PySem.W.nsIn K mainGlobals "ratio_of" = some (some (.ref f16)))
    (l16 : K.lookup f16 = some ⟨oc16, od16, .func (PySem.W.fnOf "ratio_of" "ratio_of" (defArgs s_ratio_of) (defBody s_ratio_of) (defScope s_ratio_of) .none kV16 dc16 pm16 an16 cd16 ct16), sl16⟩)
    (c16 : PySem.W.codeIn K cd16 "ratio_of" = true)
    (k16 : PySem.W.keepIn K (.ref f16) = true)
    (a17 : PySem.W.nsIn K mainGlobals "unreduced_ratio" = some (some (.ref f17)))
    (l17 : K.lookup f17 = some ⟨oc17, od17, .func (PySem.W.fnOf "unreduced_ratio" "unreduced_ratio" (defArgs s_unreduced_ratio) (defBody s_unreduced_ratio) (defScope s_unreduced_ratio) .none kV17 dc17 pm17 an17 cd17 ct17), sl17⟩)
    (c17 : PySem.W.codeIn K cd17 "unreduced_ratio" = true)
    (k17 : PySem.W.keepIn K (.ref f17) = true)
    (a18 : PySem.W.nsIn K mainGlobals "terms_of" = some (some (.ref f18)))
    (l18 : K.lookup f18 = some ⟨oc18, od18, .func (PySem.W.fnOf "terms_of" "terms_of" (defArgs s_terms_of) (defBody s_terms_of) (defScope s_terms_of) .none kV18 dc18 pm18 an18 cd18 ct18), sl18⟩)
    (c18 : PySem.W.codeIn K cd18 "terms_of" = true)
    (k18 : PySem.W.keepIn K (.ref f18) = true)
    (a19 : PySem.W.nsIn K mainGlobals "_plain_terms_of" = some (some (.ref f19)))
    (l19 : K.lookup f19 = some ⟨oc19, od19, .func (PySem.W.fnOf "_plain_terms_of" "_plain_terms_of" (defArgs s__plain_terms_of) (defBody s__plain_terms_of) (defScope s__plain_terms_of) .none kV19 dc19 pm19 an19 cd19 ct19), sl19⟩)
    (c19 : PySem.W.codeIn K cd19 "_plain_terms_of" = true)
    (k19 : PySem.W.keepIn K (.ref f19) = true)
    (a20 : PySem.W.nsIn K mainGlobals "_checked_terms" = some (some (.ref f20)))
    (l20 : K.lookup f20 = some ⟨oc20, od20, .func (PySem.W.fnOf "_checked_terms" "_checked_terms" (defArgs s__checked_terms) (defBody s__checked_terms) (defScope s__checked_terms) .none kV20 dc20 pm20 an20 cd20 ct20), sl20⟩)
    (c20 : PySem.W.codeIn K cd20 "_checked_terms" = true)
    (k20 : PySem.W.keepIn K (.ref f20) = true)
    (a21 : PySem.W.nsIn K mainGlobals "_lowest_terms" = some (some (.ref f21)))
    (l21 : K.lookup f21 = some ⟨oc21, od21, .func (PySem.W.fnOf "_lowest_terms" "_lowest_terms" (defArgs s__lowest_terms) (defBody s__lowest_terms) (defScope s__lowest_terms) .none kV21 dc21 pm21 an21 cd21 ct21), sl21⟩)
    (c21 : PySem.W.codeIn K cd21 "_lowest_terms" = true)
    (k21 : PySem.W.keepIn K (.ref f21) = true)
    (a22 : PySem.W.nsIn K mainGlobals "line_sum" = some (some (.ref f22)))
    (l22 : K.lookup f22 = some ⟨oc22, od22, .func (PySem.W.fnOf "line_sum" "line_sum" (defArgs s_line_sum) (defBody s_line_sum) (defScope s_line_sum) .none kV22 dc22 pm22 an22 cd22 ct22), sl22⟩)
    (c22 : PySem.W.codeIn K cd22 "line_sum" = true)
    (k22 : PySem.W.keepIn K (.ref f22) = true)
    (a23 : PySem.W.nsIn K mainGlobals "line_moment" = some (some (.ref f23)))
    (l23 : K.lookup f23 = some ⟨oc23, od23, .func (PySem.W.fnOf "line_moment" "line_moment" (defArgs s_line_moment) (defBody s_line_moment) (defScope s_line_moment) .none kV23 dc23 pm23 an23 cd23 ct23), sl23⟩)
    (c23 : PySem.W.codeIn K cd23 "line_moment" = true)
    (k23 : PySem.W.keepIn K (.ref f23) = true)
    (a24 : PySem.W.nsIn K mainGlobals "floor_total" = some (some (.ref f24)))
    (l24 : K.lookup f24 = some ⟨oc24, od24, .func (PySem.W.fnOf "floor_total" "floor_total" (defArgs s_floor_total) (defBody s_floor_total) (defScope s_floor_total) .none kV24 dc24 pm24 an24 cd24 ct24), sl24⟩)
    (c24 : PySem.W.codeIn K cd24 "floor_total" = true)
    (k24 : PySem.W.keepIn K (.ref f24) = true)
    (a25 : PySem.W.nsIn K mainGlobals "_checked_line" = some (some (.ref f25)))
    (l25 : K.lookup f25 = some ⟨oc25, od25, .func (PySem.W.fnOf "_checked_line" "_checked_line" (defArgs s__checked_line) (defBody s__checked_line) (defScope s__checked_line) .none kV25 dc25 pm25 an25 cd25 ct25), sl25⟩)
    (c25 : PySem.W.codeIn K cd25 "_checked_line" = true)
    (k25 : PySem.W.keepIn K (.ref f25) = true)
    (a26 : PySem.W.nsIn K mainGlobals "_powers" = some (some (.ref f26)))
    (l26 : K.lookup f26 = some ⟨oc26, od26, .func (PySem.W.fnOf "_powers" "_powers" (defArgs s__powers) (defBody s__powers) (defScope s__powers) .none kV26 dc26 pm26 an26 cd26 ct26), sl26⟩)
    (c26 : PySem.W.codeIn K cd26 "_powers" = true)
    (k26 : PySem.W.keepIn K (.ref f26) = true)
    (a27 : PySem.W.nsIn K mainGlobals "_floor_totals" = some (some (.ref f27)))
    (l27 : K.lookup f27 = some ⟨oc27, od27, .func (PySem.W.fnOf "_floor_totals" "_floor_totals" (defArgs s__floor_totals) (defBody s__floor_totals) (defScope s__floor_totals) .none kV27 dc27 pm27 an27 cd27 ct27), sl27⟩)
    (c27 : PySem.W.codeIn K cd27 "_floor_totals" = true)
    (k27 : PySem.W.keepIn K (.ref f27) = true)
    (a28 : PySem.W.nsIn K mainGlobals "_mirrored" = some (some (.ref f28)))
    (l28 : K.lookup f28 = some ⟨oc28, od28, .func (PySem.W.fnOf "_mirrored" "_mirrored" (defArgs s__mirrored) (defBody s__mirrored) (defScope s__mirrored) .none kV28 dc28 pm28 an28 cd28 ct28), sl28⟩)
    (c28 : PySem.W.codeIn K cd28 "_mirrored" = true)
    (k28 : PySem.W.keepIn K (.ref f28) = true)
    (a29 : PySem.W.nsIn K mainGlobals "_lifted" = some (some (.ref f29)))
    (l29 : K.lookup f29 = some ⟨oc29, od29, .func (PySem.W.fnOf "_lifted" "_lifted" (defArgs s__lifted) (defBody s__lifted) (defScope s__lifted) .none kV29 dc29 pm29 an29 cd29 ct29), sl29⟩)
    (c29 : PySem.W.codeIn K cd29 "_lifted" = true)
    (k29 : PySem.W.keepIn K (.ref f29) = true)
    (a30 : PySem.W.nsIn K mainGlobals "tooth" = some (some (.ref f30)))
    (l30 : K.lookup f30 = some ⟨oc30, od30, .func (PySem.W.fnOf "tooth" "tooth" (defArgs s_tooth) (defBody s_tooth) (defScope s_tooth) .none kV30 dc30 pm30 an30 cd30 ct30), sl30⟩)
    (c30 : PySem.W.codeIn K cd30 "tooth" = true)
    (k30 : PySem.W.keepIn K (.ref f30) = true)
    (a31 : PySem.W.nsIn K mainGlobals "tooth_sum" = some (some (.ref f31)))
    (l31 : K.lookup f31 = some ⟨oc31, od31, .func (PySem.W.fnOf "tooth_sum" "tooth_sum" (defArgs s_tooth_sum) (defBody s_tooth_sum) (defScope s_tooth_sum) .none kV31 dc31 pm31 an31 cd31 ct31), sl31⟩)
    (c31 : PySem.W.codeIn K cd31 "tooth_sum" = true)
    (k31 : PySem.W.keepIn K (.ref f31) = true)
    (a32 : PySem.W.nsIn K mainGlobals "sum_of" = some (some (.ref f32)))
    (l32 : K.lookup f32 = some ⟨oc32, od32, .func (PySem.W.fnOf "sum_of" "sum_of" (defArgs s_sum_of) (defBody s_sum_of) (defScope s_sum_of) .none kV32 dc32 pm32 an32 cd32 ct32), sl32⟩)
    (c32 : PySem.W.codeIn K cd32 "sum_of" = true)
    (k32 : PySem.W.keepIn K (.ref f32) = true)
    (a33 : PySem.W.nsIn K mainGlobals "sum_top" = some (some (.ref f33)))
    (l33 : K.lookup f33 = some ⟨oc33, od33, .func (PySem.W.fnOf "sum_top" "sum_top" (defArgs s_sum_top) (defBody s_sum_top) (defScope s_sum_top) .none kV33 dc33 pm33 an33 cd33 ct33), sl33⟩)
    (c33 : PySem.W.codeIn K cd33 "sum_top" = true)
    (k33 : PySem.W.keepIn K (.ref f33) = true)
    (a34 : PySem.W.nsIn K mainGlobals "tooth_top" = some (some (.ref f34)))
    (l34 : K.lookup f34 = some ⟨oc34, od34, .func (PySem.W.fnOf "tooth_top" "tooth_top" (defArgs s_tooth_top) (defBody s_tooth_top) (defScope s_tooth_top) .none kV34 dc34 pm34 an34 cd34 ct34), sl34⟩)
    (c34 : PySem.W.codeIn K cd34 "tooth_top" = true)
    (k34 : PySem.W.keepIn K (.ref f34) = true)
    (a35 : PySem.W.nsIn K mainGlobals "_steps" = some (some (.ref f35)))
    (l35 : K.lookup f35 = some ⟨oc35, od35, .func (PySem.W.fnOf "_steps" "_steps" (defArgs s__steps) (defBody s__steps) (defScope s__steps) .none kV35 dc35 pm35 an35 cd35 ct35), sl35⟩)
    (c35 : PySem.W.codeIn K cd35 "_steps" = true)
    (k35 : PySem.W.keepIn K (.ref f35) = true)
    (a36 : PySem.W.nsIn K mainGlobals "_long_sum_top" = some (some (.ref f36)))
    (l36 : K.lookup f36 = some ⟨oc36, od36, .func (PySem.W.fnOf "_long_sum_top" "_long_sum_top" (defArgs s__long_sum_top) (defBody s__long_sum_top) (defScope s__long_sum_top) .none kV36 dc36 pm36 an36 cd36 ct36), sl36⟩)
    (c36 : PySem.W.codeIn K cd36 "_long_sum_top" = true)
    (k36 : PySem.W.keepIn K (.ref f36) = true)
    (a37 : PySem.W.nsIn K mainGlobals "triangle_points" = some (some (.ref f37)))
    (l37 : K.lookup f37 = some ⟨oc37, od37, .func (PySem.W.fnOf "triangle_points" "triangle_points" (defArgs s_triangle_points) (defBody s_triangle_points) (defScope s_triangle_points) .none kV37 dc37 pm37 an37 cd37 ct37), sl37⟩)
    (c37 : PySem.W.codeIn K cd37 "triangle_points" = true)
    (k37 : PySem.W.keepIn K (.ref f37) = true)
    (a38 : PySem.W.nsIn K mainGlobals "triangle_inner" = some (some (.ref f38)))
    (l38 : K.lookup f38 = some ⟨oc38, od38, .func (PySem.W.fnOf "triangle_inner" "triangle_inner" (defArgs s_triangle_inner) (defBody s_triangle_inner) (defScope s_triangle_inner) .none kV38 dc38 pm38 an38 cd38 ct38), sl38⟩)
    (c38 : PySem.W.codeIn K cd38 "triangle_inner" = true)
    (k38 : PySem.W.keepIn K (.ref f38) = true)
    (a39 : PySem.W.nsIn K mainGlobals "points_up_to" = some (some (.ref f39)))
    (l39 : K.lookup f39 = some ⟨oc39, od39, .func (PySem.W.fnOf "points_up_to" "points_up_to" (defArgs s_points_up_to) (defBody s_points_up_to) (defScope s_points_up_to) .none kV39 dc39 pm39 an39 cd39 ct39), sl39⟩)
    (c39 : PySem.W.codeIn K cd39 "points_up_to" = true)
    (k39 : PySem.W.keepIn K (.ref f39) = true)
    (a40 : PySem.W.nsIn K mainGlobals "_checked_triangle" = some (some (.ref f40)))
    (l40 : K.lookup f40 = some ⟨oc40, od40, .func (PySem.W.fnOf "_checked_triangle" "_checked_triangle" (defArgs s__checked_triangle) (defBody s__checked_triangle) (defScope s__checked_triangle) .none kV40 dc40 pm40 an40 cd40 ct40), sl40⟩)
    (c40 : PySem.W.codeIn K cd40 "_checked_triangle" = true)
    (k40 : PySem.W.keepIn K (.ref f40) = true)
    (a41 : PySem.W.nsIn K mainGlobals "reaches" = some (some (.ref f41)))
    (l41 : K.lookup f41 = some ⟨oc41, od41, .func (PySem.W.fnOf "reaches" "reaches" (defArgs s_reaches) (defBody s_reaches) (defScope s_reaches) .none kV41 dc41 pm41 an41 cd41 ct41), sl41⟩)
    (c41 : PySem.W.codeIn K cd41 "reaches" = true)
    (k41 : PySem.W.keepIn K (.ref f41) = true)
    (a42 : PySem.W.nsIn K mainGlobals "ways" = some (some (.ref f42)))
    (l42 : K.lookup f42 = some ⟨oc42, od42, .func (PySem.W.fnOf "ways" "ways" (defArgs s_ways) (defBody s_ways) (defScope s_ways) .none kV42 dc42 pm42 an42 cd42 ct42), sl42⟩)
    (c42 : PySem.W.codeIn K cd42 "ways" = true)
    (k42 : PySem.W.keepIn K (.ref f42) = true)
    (a43 : PySem.W.nsIn K mainGlobals "gap_count" = some (some (.ref f43)))
    (l43 : K.lookup f43 = some ⟨oc43, od43, .func (PySem.W.fnOf "gap_count" "gap_count" (defArgs s_gap_count) (defBody s_gap_count) (defScope s_gap_count) .none kV43 dc43 pm43 an43 cd43 ct43), sl43⟩)
    (c43 : PySem.W.codeIn K cd43 "gap_count" = true)
    (k43 : PySem.W.keepIn K (.ref f43) = true)
    (a44 : PySem.W.nsIn K mainGlobals "gap_total" = some (some (.ref f44)))
    (l44 : K.lookup f44 = some ⟨oc44, od44, .func (PySem.W.fnOf "gap_total" "gap_total" (defArgs s_gap_total) (defBody s_gap_total) (defScope s_gap_total) .none kV44 dc44 pm44 an44 cd44 ct44), sl44⟩)
    (c44 : PySem.W.codeIn K cd44 "gap_total" = true)
    (k44 : PySem.W.keepIn K (.ref f44) = true)
    (a45 : PySem.W.nsIn K mainGlobals "gaps_below" = some (some (.ref f45)))
    (l45 : K.lookup f45 = some ⟨oc45, od45, .func (PySem.W.fnOf "gaps_below" "gaps_below" (defArgs s_gaps_below) (defBody s_gaps_below) (defScope s_gaps_below) .none kV45 dc45 pm45 an45 cd45 ct45), sl45⟩)
    (c45 : PySem.W.codeIn K cd45 "gaps_below" = true)
    (k45 : PySem.W.keepIn K (.ref f45) = true)
    (a46 : PySem.W.nsIn K mainGlobals "_checked_steps" = some (some (.ref f46)))
    (l46 : K.lookup f46 = some ⟨oc46, od46, .func (PySem.W.fnOf "_checked_steps" "_checked_steps" (defArgs s__checked_steps) (defBody s__checked_steps) (defScope s__checked_steps) .none kV46 dc46 pm46 an46 cd46 ct46), sl46⟩)
    (c46 : PySem.W.codeIn K cd46 "_checked_steps" = true)
    (k46 : PySem.W.keepIn K (.ref f46) = true)
    (a47 : PySem.W.nsIn K mainGlobals "_checked_steps_to" = some (some (.ref f47)))
    (l47 : K.lookup f47 = some ⟨oc47, od47, .func (PySem.W.fnOf "_checked_steps_to" "_checked_steps_to" (defArgs s__checked_steps_to) (defBody s__checked_steps_to) (defScope s__checked_steps_to) .none kV47 dc47 pm47 an47 cd47 ct47), sl47⟩)
    (c47 : PySem.W.codeIn K cd47 "_checked_steps_to" = true)
    (k47 : PySem.W.keepIn K (.ref f47) = true)
    (a48 : PySem.W.nsIn K mainGlobals "_least_steps" = some (some (.ref f48)))
    (l48 : K.lookup f48 = some ⟨oc48, od48, .func (PySem.W.fnOf "_least_steps" "_least_steps" (defArgs s__least_steps) (defBody s__least_steps) (defScope s__least_steps) .none kV48 dc48 pm48 an48 cd48 ct48), sl48⟩)
    (c48 : PySem.W.codeIn K cd48 "_least_steps" = true)
    (k48 : PySem.W.keepIn K (.ref f48) = true)
    (a49 : PySem.W.nsIn K mainGlobals "_many_ways" = some (some (.ref f49)))
    (l49 : K.lookup f49 = some ⟨oc49, od49, .func (PySem.W.fnOf "_many_ways" "_many_ways" (defArgs s__many_ways) (defBody s__many_ways) (defScope s__many_ways) .none kV49 dc49 pm49 an49 cd49 ct49), sl49⟩)
    (c49 : PySem.W.codeIn K cd49 "_many_ways" = true)
    (k49 : PySem.W.keepIn K (.ref f49) = true)
    (a50 : PySem.W.nsIn K mainGlobals "_gap_count" = some (some (.ref f50)))
    (l50 : K.lookup f50 = some ⟨oc50, od50, .func (PySem.W.fnOf "_gap_count" "_gap_count" (defArgs s__gap_count) (defBody s__gap_count) (defScope s__gap_count) .none kV50 dc50 pm50 an50 cd50 ct50), sl50⟩)
    (c50 : PySem.W.codeIn K cd50 "_gap_count" = true)
    (k50 : PySem.W.keepIn K (.ref f50) = true)
    (a51 : PySem.W.nsIn K mainGlobals "_last_gap" = some (some (.ref f51)))
    (l51 : K.lookup f51 = some ⟨oc51, od51, .func (PySem.W.fnOf "_last_gap" "_last_gap" (defArgs s__last_gap) (defBody s__last_gap) (defScope s__last_gap) .none kV51 dc51 pm51 an51 cd51 ct51), sl51⟩)
    (c51 : PySem.W.codeIn K cd51 "_last_gap" = true)
    (k51 : PySem.W.keepIn K (.ref f51) = true)
    (a52 : PySem.W.nsIn K mainGlobals "_gaps_below" = some (some (.ref f52)))
    (l52 : K.lookup f52 = some ⟨oc52, od52, .func (PySem.W.fnOf "_gaps_below" "_gaps_below" (defArgs s__gaps_below) (defBody s__gaps_below) (defScope s__gaps_below) .none kV52 dc52 pm52 an52 cd52 ct52), sl52⟩)
    (c52 : PySem.W.codeIn K cd52 "_gaps_below" = true)
    (k52 : PySem.W.keepIn K (.ref f52) = true)
    (a53 : PySem.W.nsIn K mainGlobals "_law_purse_of" = some (some (.ref f53)))
    (l53 : K.lookup f53 = some ⟨oc53, od53, .func (PySem.W.fnOf "_law_purse_of" "_law_purse_of" (defArgs s__law_purse_of) (defBody s__law_purse_of) (defScope s__law_purse_of) .none kV53 dc53 pm53 an53 cd53 ct53), sl53⟩)
    (c53 : PySem.W.codeIn K cd53 "_law_purse_of" = true)
    (k53 : PySem.W.keepIn K (.ref f53) = true)
    (a54 : PySem.W.nsIn K mainGlobals "_law_coin" = some (some (.ref f54)))
    (l54 : K.lookup f54 = some ⟨oc54, od54, .func (PySem.W.fnOf "_law_coin" "_law_coin" (defArgs s__law_coin) (defBody s__law_coin) (defScope s__law_coin) .none kV54 dc54 pm54 an54 cd54 ct54), sl54⟩)
    (c54 : PySem.W.codeIn K cd54 "_law_coin" = true)
    (k54 : PySem.W.keepIn K (.ref f54) = true)
    (a55 : PySem.W.nsIn K mainGlobals "_law_pick" = some (some (.ref f55)))
    (l55 : K.lookup f55 = some ⟨oc55, od55, .func (PySem.W.fnOf "_law_pick" "_law_pick" (defArgs s__law_pick) (defBody s__law_pick) (defScope s__law_pick) .none kV55 dc55 pm55 an55 cd55 ct55), sl55⟩)
    (c55 : PySem.W.codeIn K cd55 "_law_pick" = true)
    (k55 : PySem.W.keepIn K (.ref f55) = true)
    (a56 : PySem.W.nsIn K mainGlobals "_law_common" = some (some (.ref f56)))
    (l56 : K.lookup f56 = some ⟨oc56, od56, .func (PySem.W.fnOf "_law_common" "_law_common" (defArgs s__law_common) (defBody s__law_common) (defScope s__law_common) .none kV56 dc56 pm56 an56 cd56 ct56), sl56⟩)
    (c56 : PySem.W.codeIn K cd56 "_law_common" = true)
    (k56 : PySem.W.keepIn K (.ref f56) = true)
    (a57 : PySem.W.nsIn K mainGlobals "_law_low" = some (some (.ref f57)))
    (l57 : K.lookup f57 = some ⟨oc57, od57, .func (PySem.W.fnOf "_law_low" "_law_low" (defArgs s__law_low) (defBody s__law_low) (defScope s__law_low) .none kV57 dc57 pm57 an57 cd57 ct57), sl57⟩)
    (c57 : PySem.W.codeIn K cd57 "_law_low" = true)
    (k57 : PySem.W.keepIn K (.ref f57) = true)
    (a58 : PySem.W.nsIn K mainGlobals "_law_pair_of" = some (some (.ref f58)))
    (l58 : K.lookup f58 = some ⟨oc58, od58, .func (PySem.W.fnOf "_law_pair_of" "_law_pair_of" (defArgs s__law_pair_of) (defBody s__law_pair_of) (defScope s__law_pair_of) .none kV58 dc58 pm58 an58 cd58 ct58), sl58⟩)
    (c58 : PySem.W.codeIn K cd58 "_law_pair_of" = true)
    (k58 : PySem.W.keepIn K (.ref f58) = true)
    (a59 : PySem.W.nsIn K mainGlobals "_law_sum" = some (some (.ref f59)))
    (l59 : K.lookup f59 = some ⟨oc59, od59, .func (PySem.W.fnOf "_law_sum" "_law_sum" (defArgs s__law_sum) (defBody s__law_sum) (defScope s__law_sum) .none kV59 dc59 pm59 an59 cd59 ct59), sl59⟩)
    (c59 : PySem.W.codeIn K cd59 "_law_sum" = true)
    (k59 : PySem.W.keepIn K (.ref f59) = true)
    (a60 : PySem.W.nsIn K mainGlobals "_law_great" = some (some (.ref f60)))
    (l60 : K.lookup f60 = some ⟨oc60, od60, .func (PySem.W.fnOf "_law_great" "_law_great" (defArgs s__law_great) (defBody s__law_great) (defScope s__law_great) .none kV60 dc60 pm60 an60 cd60 ct60), sl60⟩)
    (c60 : PySem.W.codeIn K cd60 "_law_great" = true)
    (k60 : PySem.W.keepIn K (.ref f60) = true)
    (a61 : PySem.W.nsIn K mainGlobals "_law_two_drawn" = some (some (.ref f61)))
    (l61 : K.lookup f61 = some ⟨oc61, od61, .func (PySem.W.fnOf "_law_two_drawn" "_law_two_drawn" (defArgs s__law_two_drawn) (defBody s__law_two_drawn) (defScope s__law_two_drawn) .none kV61 dc61 pm61 an61 cd61 ct61), sl61⟩)
    (c61 : PySem.W.codeIn K cd61 "_law_two_drawn" = true)
    (k61 : PySem.W.keepIn K (.ref f61) = true)
    (a62 : PySem.W.nsIn K mainGlobals "_law_inverse" = some (some (.ref f62)))
    (l62 : K.lookup f62 = some ⟨oc62, od62, .func (PySem.W.fnOf "_law_inverse" "_law_inverse" (defArgs s__law_inverse) (defBody s__law_inverse) (defScope s__law_inverse) .none kV62 dc62 pm62 an62 cd62 ct62), sl62⟩)
    (c62 : PySem.W.codeIn K cd62 "_law_inverse" = true)
    (k62 : PySem.W.keepIn K (.ref f62) = true)
    (a63 : PySem.W.nsIn K mainGlobals "_law_ways_right" = some (some (.ref f63)))
    (l63 : K.lookup f63 = some ⟨oc63, od63, .func (PySem.W.fnOf "_law_ways_right" "_law_ways_right" (defArgs s__law_ways_right) (defBody s__law_ways_right) (defScope s__law_ways_right) .none kV63 dc63 pm63 an63 cd63 ct63), sl63⟩)
    (c63 : PySem.W.codeIn K cd63 "_law_ways_right" = true)
    (k63 : PySem.W.keepIn K (.ref f63) = true)
    (a64 : PySem.W.nsIn K mainGlobals "_law_teeth_right" = some (some (.ref f64)))
    (l64 : K.lookup f64 = some ⟨oc64, od64, .func (PySem.W.fnOf "_law_teeth_right" "_law_teeth_right" (defArgs s__law_teeth_right) (defBody s__law_teeth_right) (defScope s__law_teeth_right) .none kV64 dc64 pm64 an64 cd64 ct64), sl64⟩)
    (c64 : PySem.W.codeIn K cd64 "_law_teeth_right" = true)
    (k64 : PySem.W.keepIn K (.ref f64) = true)
    (a65 : PySem.W.nsIn K mainGlobals "_law_gaps_right" = some (some (.ref f65)))
    (l65 : K.lookup f65 = some ⟨oc65, od65, .func (PySem.W.fnOf "_law_gaps_right" "_law_gaps_right" (defArgs s__law_gaps_right) (defBody s__law_gaps_right) (defScope s__law_gaps_right) .none kV65 dc65 pm65 an65 cd65 ct65), sl65⟩)
    (c65 : PySem.W.codeIn K cd65 "_law_gaps_right" = true)
    (k65 : PySem.W.keepIn K (.ref f65) = true)
    (a66 : PySem.W.nsIn K mainGlobals "law" = some (some (.ref f66)))
    (l66 : K.lookup f66 = some ⟨oc66, od66, .func (PySem.W.fnOf "law" "law" (defArgs s_law) (defBody s_law) (defScope s_law) .none kV66 dc66 pm66 an66 cd66 ct66), sl66⟩)
    (c66 : PySem.W.codeIn K cd66 "law" = true)
    (k66 : PySem.W.keepIn K (.ref f66) = true)
    (pgC_Long : PySem.W.plainGet K C_Long Str.empty = true)
    (hdC_Long : PySem.W.hasDictIn K C_Long = true)
    (poC_Long : PySem.W.plainOver K C_Long = true)
    (saC_Long : PySem.W.findIn K (.ref C_Long) "__setattr__" = some (some (.builtin "object.__setattr__")))
    (kC_Long : PySem.W.keepIn K (.ref C_Long) = true)
    (mkC_Long : PySem.W.makesIn K C_Long = true)
    (ic_Long : PySem.W.isClsIn K C_Long = true)
    (ty_Long : PySem.W.typeIn K (.ref C_Long) = some (.type "type"))
    (cl_Long : PySem.W.findIn K (.ref C_Long) "__class__" = some (some (.builtin "object.__class__")))
    (ob_Long : PySem.W.mroIn K C_Long (.type "object") = some true)
    (oi_Long : PySem.W.mroIn K C_Long (.type "int") = some false)
    (na_Long_number : PySem.W.findIn K (.ref C_Long) "number" = some none)
    (pgC_Terms : PySem.W.plainGet K C_Terms Str.empty = true)
    (hdC_Terms : PySem.W.hasDictIn K C_Terms = true)
    (poC_Terms : PySem.W.plainOver K C_Terms = true)
    (saC_Terms : PySem.W.findIn K (.ref C_Terms) "__setattr__" = some (some (.builtin "object.__setattr__")))
    (kC_Terms : PySem.W.keepIn K (.ref C_Terms) = true)
    (mkC_Terms : PySem.W.makesIn K C_Terms = true)
    (ic_Terms : PySem.W.isClsIn K C_Terms = true)
    (ty_Terms : PySem.W.typeIn K (.ref C_Terms) = some (.type "type"))
    (cl_Terms : PySem.W.findIn K (.ref C_Terms) "__class__" = some (some (.builtin "object.__class__")))
    (ob_Terms : PySem.W.mroIn K C_Terms (.type "object") = some true)
    (oi_Terms : PySem.W.mroIn K C_Terms (.type "int") = some false)
    (na_Terms_above : PySem.W.findIn K (.ref C_Terms) "above" = some none)
    (na_Terms_below : PySem.W.findIn K (.ref C_Terms) "below" = some none)
    (na_Terms_lowest : PySem.W.findIn K (.ref C_Terms) "lowest" = some none)
    (pgC_Ratio : PySem.W.plainGet K C_Ratio Str.empty = true)
    (hdC_Ratio : PySem.W.hasDictIn K C_Ratio = true)
    (poC_Ratio : PySem.W.plainOver K C_Ratio = true)
    (saC_Ratio : PySem.W.findIn K (.ref C_Ratio) "__setattr__" = some (some (.builtin "object.__setattr__")))
    (kC_Ratio : PySem.W.keepIn K (.ref C_Ratio) = true)
    (mkC_Ratio : PySem.W.makesIn K C_Ratio = true)
    (ic_Ratio : PySem.W.isClsIn K C_Ratio = true)
    (ty_Ratio : PySem.W.typeIn K (.ref C_Ratio) = some (.type "type"))
    (cl_Ratio : PySem.W.findIn K (.ref C_Ratio) "__class__" = some (some (.builtin "object.__class__")))
    (ob_Ratio : PySem.W.mroIn K C_Ratio (.type "object") = some true)
    (oi_Ratio : PySem.W.mroIn K C_Ratio (.type "int") = some false)
    (na_Ratio__top : PySem.W.findIn K (.ref C_Ratio) "_top" = some none)
    (na_Ratio__bottom : PySem.W.findIn K (.ref C_Ratio) "_bottom" = some none)
    (na_Ratio__is_lowest : PySem.W.findIn K (.ref C_Ratio) "_is_lowest" = some none)
    (sg : PySem.W.specialIn K (.builtin "object.__class__") "__get__" = some (some (.builtin "getset_descriptor.__get__")))
    (tk : PySem.W.takesIn K (.builtin "object.__class__") = some true)
    (ne_Ratio : PySem.W.findIn K (.ref C_Ratio) "__ne__" = some (some (.builtin "object.__ne__")))
    (z_len : PySem.W.nsIn K mainGlobals "len" = some none)
    (z_abs : PySem.W.nsIn K mainGlobals "abs" = some none)
    (z_max : PySem.W.nsIn K mainGlobals "max" = some none)
    (z_min : PySem.W.nsIn K mainGlobals "min" = some none)
    (z_isinstance : PySem.W.nsIn K mainGlobals "isinstance" = some none)
    (z_range : PySem.W.nsIn K mainGlobals "range" = some none)
    (z_int : PySem.W.nsIn K mainGlobals "int" = some none)
    (z_tuple : PySem.W.nsIn K mainGlobals "tuple" = some none)
    (z_divmod : PySem.W.nsIn K mainGlobals "divmod" = some none)
    (z_sum : PySem.W.nsIn K mainGlobals "sum" = some none)
    (v__TOO_LONG : PySem.W.nsIn K mainGlobals "_TOO_LONG" = some (some (.int (10 ^ 60) tk__TOO_LONG)))
    (v__SHORT : PySem.W.nsIn K mainGlobals "_SHORT" = some (some (.int (2 ^ 30) tk__SHORT)))
    (w_gcd : PySem.W.nsIn K mainGlobals "gcd" = some (some (.builtin "math.gcd")))
    (sf_Ratio : PySem.W.selfFirst K C_Ratio = true)
    (si_Ratio : PySem.W.subIn K (.type "int") (.ref C_Ratio) = some false)
    (it__add__ : PySem.W.findIn K (.type "int") "__add__" = some fo__add__)
    (it__radd__ : PySem.W.findIn K (.type "int") "__radd__" = some fo__radd__)
    (rc_Ratio__radd__ : PySem.W.findIn K (.ref C_Ratio) "__radd__" = some (some (.ref rg_Ratio__radd__)))
    (it__sub__ : PySem.W.findIn K (.type "int") "__sub__" = some fo__sub__)
    (it__rsub__ : PySem.W.findIn K (.type "int") "__rsub__" = some fo__rsub__)
    (rc_Ratio__rsub__ : PySem.W.findIn K (.ref C_Ratio) "__rsub__" = some (some (.ref rg_Ratio__rsub__)))
    (it__mul__ : PySem.W.findIn K (.type "int") "__mul__" = some fo__mul__)
    (it__rmul__ : PySem.W.findIn K (.type "int") "__rmul__" = some fo__rmul__)
    (rc_Ratio__rmul__ : PySem.W.findIn K (.ref C_Ratio) "__rmul__" = some (some (.ref rg_Ratio__rmul__)))
    : ∃ fd : FuncData, (∀ (s : Shared) (u : Value), BindsTo s fd ⟨[u], []⟩ [("_law_script", u)]) ∧ ∀ base : Heap, K.In base → base.Ns mainGlobals mg → FnOk P w K mg base CX0 14 fa fd ["_law_script"] (sp_law K) := by
  have e := hfa.symm.trans (PySem.W.mg_of X G a66)
  cases e
  have F0 := fun_mk (st := s_Long___init__) l0 c0 k0
  have b0 := F0.binds (ps := ["self", "number"]) fun _ _ _ _ _ _ us hl => match us, hl with | [_, _], _ => rfl
  have F1 := fun_mk (st := s_is_short_integer) l1 c1 k1
  have b1 := F1.binds (ps := ["value"]) fun _ _ _ _ _ _ us hl => match us, hl with | [_], _ => rfl
  have F2 := fun_mk (st := s_is_any_integer) l2 c2 k2
  have b2 := F2.binds (ps := ["value"]) fun _ _ _ _ _ _ us hl => match us, hl with | [_], _ => rfl
  have F3 := fun_mk (st := s_checked_integer) l3 c3 k3
  have b3 := F3.binds (ps := ["value"]) fun _ _ _ _ _ _ us hl => match us, hl with | [_], _ => rfl
  have F4 := fun_mk (st := s_checked_from) l4 c4 k4
  have b4 := F4.binds (ps := ["least", "value"]) fun _ _ _ _ _ _ us hl => match us, hl with | [_, _], _ => rfl
  have F5 := fun_mk (st := s_checked_pair) l5 c5 k5
  have b5 := F5.binds (ps := ["a", "b"]) fun _ _ _ _ _ _ us hl => match us, hl with | [_, _], _ => rfl
  have F6 := fun_mk (st := s_inverse_or_none) l6 c6 k6
  have b6 := F6.binds (ps := ["a", "b"]) fun _ _ _ _ _ _ us hl => match us, hl with | [_, _], _ => rfl
  have F7 : FunD K "check_coprime" "check_coprime" (defArgs s_check_coprime) (defBody s_check_coprime) (defScope s_check_coprime) [V.int (1)] [] f7 (PySem.W.fnOf "check_coprime" "check_coprime" (defArgs s_check_coprime) (defBody s_check_coprime) (defScope s_check_coprime) (.ref dT7) kV7 dc7 pm7 an7 cd7 ct7) := ⟨⟨_, _, _, _, _, _, _, _, _, _, rfl, l7, c7, .inr ⟨List.cons_ne_nil _ _, _, _, [.int (1) tt7_0], _, rfl, d7, rfl, (.cons ⟨_, rfl⟩ .nil)⟩, .inl rfl⟩, k7⟩
  have b7_1 := F7.binds1 (ps := ["a", "b", "c"]) 2 0 (List.cons_ne_nil _ _) rfl fun _ _ _ _ _ _ _ us its hu hi => match us, its, hu, hi with | [_, _], [_], _, _ => ⟨_, rfl, rfl⟩
  have b7 := binds_nil (F7.binds1 (ps := ["a", "b", "c"]) 3 1 (List.cons_ne_nil _ _) rfl fun _ _ _ _ _ _ _ us its hu hi => match us, its, hu, hi with | [_, _, _], [_], _, _ => ⟨_, rfl, rfl⟩)
  have F8 := fun_mk (st := s_Terms___init__) l8 c8 k8
  have b8 := F8.binds (ps := ["self", "above", "below", "lowest"]) fun _ _ _ _ _ _ us hl => match us, hl with | [_, _, _, _], _ => rfl
  have F9 : FunD K "__init__" "Ratio.__init__" (defArgs s_Ratio___init__) (defBody s_Ratio___init__) (defScope s_Ratio___init__) [V.int (1)] [] f9 (PySem.W.fnOf "__init__" "Ratio.__init__" (defArgs s_Ratio___init__) (defBody s_Ratio___init__) (defScope s_Ratio___init__) (.ref dT9) kV9 dc9 pm9 an9 cd9 ct9) := ⟨⟨_, _, _, _, _, _, _, _, _, _, rfl, l9, c9, .inr ⟨List.cons_ne_nil _ _, _, _, [.int (1) tt9_0], _, rfl, d9, rfl, (.cons ⟨_, rfl⟩ .nil)⟩, .inl rfl⟩, k9⟩
  have b9_1 := F9.binds1 (ps := ["self", "top", "bottom"]) 2 0 (List.cons_ne_nil _ _) rfl fun _ _ _ _ _ _ _ us its hu hi => match us, its, hu, hi with | [_, _], [_], _, _ => ⟨_, rfl, rfl⟩
  have b9 := binds_nil (F9.binds1 (ps := ["self", "top", "bottom"]) 3 1 (List.cons_ne_nil _ _) rfl fun _ _ _ _ _ _ _ us its hu hi => match us, its, hu, hi with | [_, _, _], [_], _, _ => ⟨_, rfl, rfl⟩)
  have F10 := fun_mk (st := s_Ratio_top) l10 c10 k10
  have b10 := F10.binds (ps := ["self"]) fun _ _ _ _ _ _ us hl => match us, hl with | [_], _ => rfl
  have F11 := fun_mk (st := s_Ratio_bottom) l11 c11 k11
  have b11 := F11.binds (ps := ["self"]) fun _ _ _ _ _ _ us hl => match us, hl with | [_], _ => rfl
  have F12 := fun_mk (st := s_Ratio___add__) l12 c12 k12
  have b12 := F12.binds (ps := ["self", "other"]) fun _ _ _ _ _ _ us hl => match us, hl with | [_, _], _ => rfl
  have F13 := fun_mk (st := s_Ratio___sub__) l13 c13 k13
  have b13 := F13.binds (ps := ["self", "other"]) fun _ _ _ _ _ _ us hl => match us, hl with | [_, _], _ => rfl
  have F14 := fun_mk (st := s_Ratio___mul__) l14 c14 k14
  have b14 := F14.binds (ps := ["self", "other"]) fun _ _ _ _ _ _ us hl => match us, hl with | [_, _], _ => rfl
  have F15 := fun_mk (st := s_Ratio___eq__) l15 c15 k15
  have b15 := F15.binds (ps := ["self", "other"]) fun _ _ _ _ _ _ us hl => match us, hl with | [_, _], _ => rfl
  have F16 := fun_mk (st := s_ratio_of) l16 c16 k16
  have b16 := F16.binds (ps := ["top", "bottom"]) fun _ _ _ _ _ _ us hl => match us, hl with | [_, _], _ => rfl
  have F17 := fun_mk (st := s_unreduced_ratio) l17 c17 k17
  have b17 := F17.binds (ps := ["top", "bottom"]) fun _ _ _ _ _ _ us hl => match us, hl with | [_, _], _ => rfl
  have F18 := fun_mk (st := s_terms_of) l18 c18 k18
  have b18 := F18.binds (ps := ["number"]) fun _ _ _ _ _ _ us hl => match us, hl with | [_], _ => rfl
  have F19 := fun_mk (st := s__plain_terms_of) l19 c19 k19
  have b19 := F19.binds (ps := ["number"]) fun _ _ _ _ _ _ us hl => match us, hl with | [_], _ => rfl
  have F20 := fun_mk (st := s__checked_terms) l20 c20 k20
  have b20 := F20.binds (ps := ["top", "bottom"]) fun _ _ _ _ _ _ us hl => match us, hl with | [_, _], _ => rfl
  have F21 := fun_mk (st := s__lowest_terms) l21 c21 k21
  have b21 := F21.binds (ps := ["top", "bottom"]) fun _ _ _ _ _ _ us hl => match us, hl with | [_, _], _ => rfl
  have F22 := fun_mk (st := s_line_sum) l22 c22 k22
  have b22 := F22.binds (ps := ["n", "a", "c", "m"]) fun _ _ _ _ _ _ us hl => match us, hl with | [_, _, _, _], _ => rfl
  have F23 := fun_mk (st := s_line_moment) l23 c23 k23
  have b23 := F23.binds (ps := ["n", "a", "c", "m"]) fun _ _ _ _ _ _ us hl => match us, hl with | [_, _, _, _], _ => rfl
  have F24 := fun_mk (st := s_floor_total) l24 c24 k24
  have b24 := F24.binds (ps := ["n", "a", "c", "m"]) fun _ _ _ _ _ _ us hl => match us, hl with | [_, _, _, _], _ => rfl
  have F25 := fun_mk (st := s__checked_line) l25 c25 k25
  have b25 := F25.binds (ps := ["n", "a", "c", "m"]) fun _ _ _ _ _ _ us hl => match us, hl with | [_, _, _, _], _ => rfl
  have F26 := fun_mk (st := s__powers) l26 c26 k26
  have b26 := F26.binds (ps := ["n"]) fun _ _ _ _ _ _ us hl => match us, hl with | [_], _ => rfl
  have F27 := fun_mk (st := s__floor_totals) l27 c27 k27
  have b27 := F27.binds (ps := ["n", "a", "c", "m"]) fun _ _ _ _ _ _ us hl => match us, hl with | [_, _, _, _], _ => rfl
  have F28 := fun_mk (st := s__mirrored) l28 c28 k28
  have b28 := F28.binds (ps := ["n", "high", "totals"]) fun _ _ _ _ _ _ us hl => match us, hl with | [_, _, _], _ => rfl
  have F29 := fun_mk (st := s__lifted) l29 c29 k29
  have b29 := F29.binds (ps := ["n", "up", "start", "totals"]) fun _ _ _ _ _ _ us hl => match us, hl with | [_, _, _, _], _ => rfl
  have F30 := fun_mk (st := s_tooth) l30 c30 k30
  have b30 := F30.binds (ps := ["number"]) fun _ _ _ _ _ _ us hl => match us, hl with | [_], _ => rfl
  have F31 := fun_mk (st := s_tooth_sum) l31 c31 k31
  have b31 := F31.binds (ps := ["a", "b"]) fun _ _ _ _ _ _ us hl => match us, hl with | [_, _], _ => rfl
  have F32 := fun_mk (st := s_sum_of) l32 c32 k32
  have b32 := F32.binds (ps := ["a", "b"]) fun _ _ _ _ _ _ us hl => match us, hl with | [_, _], _ => rfl
  have F33 := fun_mk (st := s_sum_top) l33 c33 k33
  have b33 := F33.binds (ps := ["a", "b"]) fun _ _ _ _ _ _ us hl => match us, hl with | [_, _], _ => rfl
  have F34 := fun_mk (st := s_tooth_top) l34 c34 k34
  have b34 := F34.binds (ps := ["top", "bottom"]) fun _ _ _ _ _ _ us hl => match us, hl with | [_, _], _ => rfl
  have F35 := fun_mk (st := s__steps) l35 c35 k35
  have b35 := F35.binds (ps := ["upper", "lower"]) fun _ _ _ _ _ _ us hl => match us, hl with | [_, _], _ => rfl
  have F36 := fun_mk (st := s__long_sum_top) l36 c36 k36
  have b36 := F36.binds (ps := ["b", "rest"]) fun _ _ _ _ _ _ us hl => match us, hl with | [_, _], _ => rfl
  have F37 := fun_mk (st := s_triangle_points) l37 c37 k37
  have b37 := F37.binds (ps := ["a", "b", "limit"]) fun _ _ _ _ _ _ us hl => match us, hl with | [_, _, _], _ => rfl
  have F38 := fun_mk (st := s_triangle_inner) l38 c38 k38
  have b38 := F38.binds (ps := ["a", "b", "limit"]) fun _ _ _ _ _ _ us hl => match us, hl with | [_, _, _], _ => rfl
  have F39 := fun_mk (st := s_points_up_to) l39 c39 k39
  have b39 := F39.binds (ps := ["a", "b", "limit"]) fun _ _ _ _ _ _ us hl => match us, hl with | [_, _, _], _ => rfl
  have F40 := fun_mk (st := s__checked_triangle) l40 c40 k40
  have b40 := F40.binds (ps := ["a", "b", "limit"]) fun _ _ _ _ _ _ us hl => match us, hl with | [_, _, _], _ => rfl
  have F41 := fun_mk (st := s_reaches) l41 c41 k41
  have b41 := F41.binds (ps := ["a", "b", "number"]) fun _ _ _ _ _ _ us hl => match us, hl with | [_, _, _], _ => rfl
  have F42 := fun_mk (st := s_ways) l42 c42 k42
  have b42 := F42.binds (ps := ["a", "b", "number"]) fun _ _ _ _ _ _ us hl => match us, hl with | [_, _, _], _ => rfl
  have F43 := fun_mk (st := s_gap_count) l43 c43 k43
  have b43 := F43.binds (ps := ["a", "b"]) fun _ _ _ _ _ _ us hl => match us, hl with | [_, _], _ => rfl
  have F44 := fun_mk (st := s_gap_total) l44 c44 k44
  have b44 := F44.binds (ps := ["a", "b"]) fun _ _ _ _ _ _ us hl => match us, hl with | [_, _], _ => rfl
  have F45 := fun_mk (st := s_gaps_below) l45 c45 k45
  have b45 := F45.binds (ps := ["a", "b", "limit"]) fun _ _ _ _ _ _ us hl => match us, hl with | [_, _, _], _ => rfl
  have F46 := fun_mk (st := s__checked_steps) l46 c46 k46
  have b46 := F46.binds (ps := ["a", "b"]) fun _ _ _ _ _ _ us hl => match us, hl with | [_, _], _ => rfl
  have F47 := fun_mk (st := s__checked_steps_to) l47 c47 k47
  have b47 := F47.binds (ps := ["a", "b", "number"]) fun _ _ _ _ _ _ us hl => match us, hl with | [_, _, _], _ => rfl
  have F48 := fun_mk (st := s__least_steps) l48 c48 k48
  have b48 := F48.binds (ps := ["a", "b", "number"]) fun _ _ _ _ _ _ us hl => match us, hl with | [_, _, _], _ => rfl
  have F49 := fun_mk (st := s__many_ways) l49 c49 k49
  have b49 := F49.binds (ps := ["a", "b", "number", "least"]) fun _ _ _ _ _ _ us hl => match us, hl with | [_, _, _, _], _ => rfl
  have F50 := fun_mk (st := s__gap_count) l50 c50 k50
  have b50 := F50.binds (ps := ["a", "b"]) fun _ _ _ _ _ _ us hl => match us, hl with | [_, _], _ => rfl
  have F51 := fun_mk (st := s__last_gap) l51 c51 k51
  have b51 := F51.binds (ps := ["a", "b"]) fun _ _ _ _ _ _ us hl => match us, hl with | [_, _], _ => rfl
  have F52 := fun_mk (st := s__gaps_below) l52 c52 k52
  have b52 := F52.binds (ps := ["a", "b", "limit"]) fun _ _ _ _ _ _ us hl => match us, hl with | [_, _, _], _ => rfl
  have F53 := fun_mk (st := s__law_purse_of) l53 c53 k53
  have b53 := F53.binds (ps := ["_law_script", "_law_at"]) fun _ _ _ _ _ _ us hl => match us, hl with | [_, _], _ => rfl
  have F54 := fun_mk (st := s__law_coin) l54 c54 k54
  have b54 := F54.binds (ps := ["_law_purse", "_law_total"]) fun _ _ _ _ _ _ us hl => match us, hl with | [_, _], _ => rfl
  have F55 := fun_mk (st := s__law_pick) l55 c55 k55
  have b55 := F55.binds (ps := ["_law_purse", "_law_items"]) fun _ _ _ _ _ _ us hl => match us, hl with | [_, _], _ => rfl
  have F56 := fun_mk (st := s__law_common) l56 c56 k56
  have b56 := F56.binds (ps := ["_law_one", "_law_other"]) fun _ _ _ _ _ _ us hl => match us, hl with | [_, _], _ => rfl
  have F57 := fun_mk (st := s__law_low) l57 c57 k57
  have b57 := F57.binds (ps := ["_law_top", "_law_bottom"]) fun _ _ _ _ _ _ us hl => match us, hl with | [_, _], _ => rfl
  have F58 := fun_mk (st := s__law_pair_of) l58 c58 k58
  have b58 := F58.binds (ps := ["_law_ratio"]) fun _ _ _ _ _ _ us hl => match us, hl with | [_], _ => rfl
  have F59 := fun_mk (st := s__law_sum) l59 c59 k59
  have b59 := F59.binds (ps := ["_law_a", "_law_b"]) fun _ _ _ _ _ _ us hl => match us, hl with | [_, _], _ => rfl
  have F60 := fun_mk (st := s__law_great) l60 c60 k60
  have b60 := F60.binds (ps := ["_law_purse", "_law_digits"]) fun _ _ _ _ _ _ us hl => match us, hl with | [_, _], _ => rfl
  have F61 := fun_mk (st := s__law_two_drawn) l61 c61 k61
  have b61 := F61.binds (ps := ["_law_purse", "_law_top"]) fun _ _ _ _ _ _ us hl => match us, hl with | [_, _], _ => rfl
  have F62 := fun_mk (st := s__law_inverse) l62 c62 k62
  have b62 := F62.binds (ps := ["_law_p", "_law_q"]) fun _ _ _ _ _ _ us hl => match us, hl with | [_, _], _ => rfl
  have F63 := fun_mk (st := s__law_ways_right) l63 c63 k63
  have b63 := F63.binds (ps := ["_law_purse"]) fun _ _ _ _ _ _ us hl => match us, hl with | [_], _ => rfl
  have F64 := fun_mk (st := s__law_teeth_right) l64 c64 k64
  have b64 := F64.binds (ps := ["_law_a", "_law_b", "_law_number"]) fun _ _ _ _ _ _ us hl => match us, hl with | [_, _, _], _ => rfl
  have F65 := fun_mk (st := s__law_gaps_right) l65 c65 k65
  have b65 := F65.binds (ps := ["_law_purse"]) fun _ _ _ _ _ _ us hl => match us, hl with | [_], _ => rfl
  have F66 := fun_mk (st := s_law) l66 c66 k66
  have b66 := F66.binds (ps := ["_law_script"]) fun _ _ _ _ _ _ us hl => match us, hl with | [_], _ => rfl
  have T : Txt K mg ⟨f0, _, f1, _, f2, _, f3, _, f4, _, f5, _, f6, _, f7, _, f8, _, f9, _, f10, _, f11, _, f12, _, f13, _, f14, _, f15, _, f16, _, f17, _, f18, _, f19, _, f20, _, f21, _, f22, _, f23, _, f24, _, f25, _, f26, _, f27, _, f28, _, f29, _, f30, _, f31, _, f32, _, f33, _, f34, _, f35, _, f36, _, f37, _, f38, _, f39, _, f40, _, f41, _, f42, _, f43, _, f44, _, f45, _, f46, _, f47, _, f48, _, f49, _, f50, _, f51, _, f52, _, f53, _, f54, _, f55, _, f56, _, f57, _, f58, _, f59, _, f60, _, f61, _, f62, _, f63, _, f64, _, f65, _, fa, _, p10, p11, C_Long, C_Terms, C_Ratio⟩ := ⟨F0,
    b0,
    ⟨mkC_Long, a0, i0, kC_Long⟩,
    F1,
    b1,
    PySem.W.mg_of X G a1,
    F2,
    b2,
    PySem.W.mg_of X G a2,
    F3,
    b3,
    PySem.W.mg_of X G a3,
    F4,
    b4,
    PySem.W.mg_of X G a4,
    F5,
    b5,
    PySem.W.mg_of X G a5,
    F6,
    b6,
    PySem.W.mg_of X G a6,
    F7,
    b7_1,
    b7,
    PySem.W.mg_of X G a7,
    F8,
    b8,
    ⟨mkC_Terms, a8, i8, kC_Terms⟩,
    F9,
    b9_1,
    b9,
    ⟨mkC_Ratio, a9, i9, kC_Ratio⟩,
    F10,
    b10,
    ⟨a10, pg10, pt10, _, pr10⟩,
    F11,
    b11,
    ⟨a11, pg11, pt11, _, pr11⟩,
    F12,
    b12,
    ⟨a12, i12, k12⟩,
    F13,
    b13,
    ⟨a13, i13, k13⟩,
    F14,
    b14,
    ⟨a14, i14, k14⟩,
    F15,
    b15,
    ⟨a15, i15, k15⟩,
    F16,
    b16,
    PySem.W.mg_of X G a16,
    F17,
    b17,
    PySem.W.mg_of X G a17,
    F18,
    b18,
    PySem.W.mg_of X G a18,
    F19,
    b19,
    PySem.W.mg_of X G a19,
    F20,
    b20,
    PySem.W.mg_of X G a20,
    F21,
    b21,
    PySem.W.mg_of X G a21,
    F22,
    b22,
    PySem.W.mg_of X G a22,
    F23,
    b23,
    PySem.W.mg_of X G a23,
    F24,
    b24,
    PySem.W.mg_of X G a24,
    F25,
    b25,
    PySem.W.mg_of X G a25,
    F26,
    b26,
    PySem.W.mg_of X G a26,
    F27,
    b27,
    PySem.W.mg_of X G a27,
    F28,
    b28,
    PySem.W.mg_of X G a28,
    F29,
    b29,
    PySem.W.mg_of X G a29,
    F30,
    b30,
    PySem.W.mg_of X G a30,
    F31,
    b31,
    PySem.W.mg_of X G a31,
    F32,
    b32,
    PySem.W.mg_of X G a32,
    F33,
    b33,
    PySem.W.mg_of X G a33,
    F34,
    b34,
    PySem.W.mg_of X G a34,
    F35,
    b35,
    PySem.W.mg_of X G a35,
    F36,
    b36,
    PySem.W.mg_of X G a36,
    F37,
    b37,
    PySem.W.mg_of X G a37,
    F38,
    b38,
    PySem.W.mg_of X G a38,
    F39,
    b39,
    PySem.W.mg_of X G a39,
    F40,
    b40,
    PySem.W.mg_of X G a40,
    F41,
    b41,
    PySem.W.mg_of X G a41,
    F42,
    b42,
    PySem.W.mg_of X G a42,
    F43,
    b43,
    PySem.W.mg_of X G a43,
    F44,
    b44,
    PySem.W.mg_of X G a44,
    F45,
    b45,
    PySem.W.mg_of X G a45,
    F46,
    b46,
    PySem.W.mg_of X G a46,
    F47,
    b47,
    PySem.W.mg_of X G a47,
    F48,
    b48,
    PySem.W.mg_of X G a48,
    F49,
    b49,
    PySem.W.mg_of X G a49,
    F50,
    b50,
    PySem.W.mg_of X G a50,
    F51,
    b51,
    PySem.W.mg_of X G a51,
    F52,
    b52,
    PySem.W.mg_of X G a52,
    F53,
    b53,
    PySem.W.mg_of X G a53,
    F54,
    b54,
    PySem.W.mg_of X G a54,
    F55,
    b55,
    PySem.W.mg_of X G a55,
    F56,
    b56,
    PySem.W.mg_of X G a56,
    F57,
    b57,
    PySem.W.mg_of X G a57,
    F58,
    b58,
    PySem.W.mg_of X G a58,
    F59,
    b59,
    PySem.W.mg_of X G a59,
    F60,
    b60,
    PySem.W.mg_of X G a60,
    F61,
    b61,
    PySem.W.mg_of X G a61,
    F62,
    b62,
    PySem.W.mg_of X G a62,
    F63,
    b63,
    PySem.W.mg_of X G a63,
    F64,
    b64,
    PySem.W.mg_of X G a64,
    F65,
    b65,
    PySem.W.mg_of X G a65,
    F66,
    b66,
    PySem.W.mg_of X G a66,
    ⟨pgC_Long, hdC_Long, poC_Long, saC_Long⟩,
    PySem.W.mg_of X G aC_Long,
    na_Long_number,
    ic_Long,
    ty_Long,
    cl_Long,
    ob_Long,
    oi_Long,
    ⟨pgC_Terms, hdC_Terms, poC_Terms, saC_Terms⟩,
    PySem.W.mg_of X G aC_Terms,
    na_Terms_above,
    na_Terms_below,
    na_Terms_lowest,
    ic_Terms,
    ty_Terms,
    cl_Terms,
    ob_Terms,
    oi_Terms,
    ⟨pgC_Ratio, hdC_Ratio, poC_Ratio, saC_Ratio⟩,
    PySem.W.mg_of X G aC_Ratio,
    na_Ratio__top,
    na_Ratio__bottom,
    na_Ratio__is_lowest,
    ic_Ratio,
    ty_Ratio,
    cl_Ratio,
    ob_Ratio,
    oi_Ratio,
    sg,
    tk,
    ⟨a15, ne_Ratio, i15, ob_Ratio⟩,
    PySem.W.mg_none_of X G z_len,
    PySem.W.mg_none_of X G z_abs,
    PySem.W.mg_none_of X G z_max,
    PySem.W.mg_none_of X G z_min,
    PySem.W.mg_none_of X G z_isinstance,
    PySem.W.mg_none_of X G z_range,
    PySem.W.mg_none_of X G z_int,
    PySem.W.mg_none_of X G z_tuple,
    PySem.W.mg_none_of X G z_divmod,
    PySem.W.mg_none_of X G z_sum,
    ⟨_, PySem.W.mg_of X G v__TOO_LONG⟩,
    ⟨_, PySem.W.mg_of X G v__SHORT⟩,
    PySem.W.mg_of X G w_gcd,
    ⟨a12, i12, sf_Ratio, ⟨_, rc_Ratio__radd__, .inr ⟨_, rfl⟩⟩, ⟨_, it__add__⟩, ⟨_, it__radd__⟩, si_Ratio⟩,
    ⟨a13, i13, sf_Ratio, ⟨_, rc_Ratio__rsub__, .inr ⟨_, rfl⟩⟩, ⟨_, it__sub__⟩, ⟨_, it__rsub__⟩, si_Ratio⟩,
    ⟨a14, i14, sf_Ratio, ⟨_, rc_Ratio__rmul__, .inr ⟨_, rfl⟩⟩, ⟨_, it__mul__⟩, ⟨_, it__rmul__⟩, si_Ratio⟩⟩
  refine ⟨_, ?_, fun base _ _ => ok_law T⟩
  exact fun s v => .of_eq rfl
end Tk
open PySem PySem.W PyProof.Rows
set_option maxRecDepth 100000 in
set_option maxHeartbeats 0 in
theorem PySem.Challenge.cw_toothchain_k53_whole_steps_and_sums_holds : PySem.Challenge.rw_toothchain_k53_whole_steps_and_sums.Holds := by
  w_on; o_law; k_head; (case hw => w_witness2)
  k_fill
  refine L2.walk_of (l := PySem.Challenge.rw_toothchain_k53_whole_steps_and_sums) (n := 63) (k := 14) (x := "_law_script") (CX := fun _ => L2.CX0) (sp := fun w => Tk.sp_law _) rfl (by decide) rfl ⟨rfl, by decide, by decide⟩ (fun w h Y => PySem.W.kIn_of Y) ?F (fun _ _ a ns hl _ hS => ⟨a, ns, rfl, hS, hl, fun _ => rfl⟩) fun _ _ _ _ _ z => z
  case F =>
    intro w mg fa h KX G hmg
    refine' Tk.all_mk KX G hmg ?aC_Long ?aC_Terms ?aC_Ratio ?a0 ?i0 ?l0 ?c0 ?k0 ?a1 ?l1 ?c1 ?k1 ?a2 ?l2 ?c2 ?k2 ?a3 ?l3 ?c3 ?k3 ?a4 ?l4 ?c4 ?k4 ?a5 ?l5 ?c5 ?k5 ?a6 ?l6 ?c6 ?k6 ?a7 ?l7 ?d7 ?c7 ?k7 ?a8 ?i8 ?l8 ?c8 ?k8 ?a9 ?i9 ?l9 ?d9 ?c9 ?k9 ?a10 ?pg10 ?pt10 ?pr10 ?l10 ?c10 ?k10 ?a11 ?pg11 ?pt11 ?pr11 ?l11 ?c11 ?k11 ?a12 ?i12 ?l12 ?c12 ?k12 ?a13 ?i13 ?l13 ?c13 ?k13 ?a14 ?i14 ?l14 ?c14 ?k14 ?a15 ?i15 ?l15 ?c15 ?k15 ?a16 ?l16 ?c16 ?k16 ?a17 ?l17 ?c17 ?k17 ?a18 ?l18 ?c18 ?k18 ?a19 ?l19 ?c19 ?k19 ?a20 ?l20 ?c20 ?k20 ?a21 ?l21 ?c21 ?k21 ?a22 ?l22 ?c22 ?k22 ?a23 ?l23 ?c23 ?k23 ?a24 ?l24 ?c24 ?k24 ?a25 ?l25 ?c25 ?k25 ?a26 ?l26 ?c26 ?k26 ?a27 ?l27 ?c27 ?k27 ?a28 ?l28 ?c28 ?k28 ?a29 ?l29 ?c29 ?k29 ?a30 ?l30 ?c30 ?k30 ?a31 ?l31 ?c31 ?k31 ?a32 ?l32 ?c32 ?k32 ?a33 ?l33 ?c33 ?k33 ?a34 ?l34 ?c34 ?k34 ?a35 ?l35 ?c35 ?k35 ?a36 ?l36 ?c36 ?k36 ?a37 ?l37 ?c37 ?k37 ?a38 ?l38 ?c38 ?k38 ?a39 ?l39 ?c39 ?k39 ?a40 ?l40 ?c40 ?k40 ?a41 ?l41 ?c41 ?k41 ?a42 ?l42 ?c42 ?k42 ?a43 ?l43 ?c43 ?k43 ?a44 ?l44 ?c44 ?k44 ?a45 ?l45 ?c45 ?k45 ?a46 ?l46 ?c46 ?k46 ?a47 ?l47 ?c47 ?k47 ?a48 ?l48 ?c48 ?k48 ?a49 ?l49 ?c49 ?k49 ?a50 ?l50 ?c50 ?k50 ?a51 ?l51 ?c51 ?k51 ?a52 ?l52 ?c52 ?k52 ?a53 ?l53 ?c53 ?k53 ?a54 ?l54 ?c54 ?k54 ?a55 ?l55 ?c55 ?k55 ?a56 ?l56 ?c56 ?k56 ?a57 ?l57 ?c57 ?k57 ?a58 ?l58 ?c58 ?k58 ?a59 ?l59 ?c59 ?k59 ?a60 ?l60 ?c60 ?k60 ?a61 ?l61 ?c61 ?k61 ?a62 ?l62 ?c62 ?k62 ?a63 ?l63 ?c63 ?k63 ?a64 ?l64 ?c64 ?k64 ?a65 ?l65 ?c65 ?k65 ?a66 ?l66 ?c66 ?k66 ?pgC_Long ?hdC_Long ?poC_Long ?saC_Long ?kC_Long ?mkC_Long ?ic_Long ?ty_Long ?cl_Long ?ob_Long ?oi_Long ?na_Long_number ?pgC_Terms ?hdC_Terms ?poC_Terms ?saC_Terms ?kC_Terms ?mkC_Terms ?ic_Terms ?ty_Terms ?cl_Terms ?ob_Terms ?oi_Terms ?na_Terms_above ?na_Terms_below ?na_Terms_lowest ?pgC_Ratio ?hdC_Ratio ?poC_Ratio ?saC_Ratio ?kC_Ratio ?mkC_Ratio ?ic_Ratio ?ty_Ratio ?cl_Ratio ?ob_Ratio ?oi_Ratio ?na_Ratio__top ?na_Ratio__bottom ?na_Ratio__is_lowest ?sg ?tk ?ne_Ratio ?z_len ?z_abs ?z_max ?z_min ?z_isinstance ?z_range ?z_int ?z_tuple ?z_divmod ?z_sum ?v__TOO_LONG ?v__SHORT ?w_gcd ?sf_Ratio ?si_Ratio ?it__add__ ?it__radd__ ?rc_Ratio__radd__ ?it__sub__ ?it__rsub__ ?rc_Ratio__rsub__ ?it__mul__ ?it__rmul__ ?rc_Ratio__rmul__
    (case aC_Long => k_is)
    (case aC_Terms => k_is)
    (case aC_Ratio => k_is)
    (case a0 => k_is)
    (case i0 => k_is)
    (case l0 => k_is)
    (case c0 => k_is)
    (case k0 => k_is)
    (case a1 => k_is)
    (case l1 => k_is)
    (case c1 => k_is)
    (case k1 => k_is)
    (case a2 => k_is)
    (case l2 => k_is)
    (case c2 => k_is)
    (case k2 => k_is)
    (case a3 => k_is)
    (case l3 => k_is)
    (case c3 => k_is)
    (case k3 => k_is)
    (case a4 => k_is)
    (case l4 => k_is)
    (case c4 => k_is)
    (case k4 => k_is)
    (case a5 => k_is)
    (case l5 => k_is)
    (case c5 => k_is)
    (case k5 => k_is)
    (case a6 => k_is)
    (case l6 => k_is)
    (case c6 => k_is)
    (case k6 => k_is)
    (case a7 => k_is)
    (case l7 => k_is)
    (case d7 => k_is)
    (case c7 => k_is)
    (case k7 => k_is)
    (case a8 => k_is)
    (case i8 => k_is)
    (case l8 => k_is)
    (case c8 => k_is)
    (case k8 => k_is)
    (case a9 => k_is)
    (case i9 => k_is)
    (case l9 => k_is)
    (case d9 => k_is)
    (case c9 => k_is)
    (case k9 => k_is)
    (case a10 => k_is)
    (case pg10 => k_is)
    (case pt10 => k_is)
    (case pr10 => k_is)
    (case l10 => k_is)
    (case c10 => k_is)
    (case k10 => k_is)
    (case a11 => k_is)
    (case pg11 => k_is)
    (case pt11 => k_is)
    (case pr11 => k_is)
    (case l11 => k_is)
    (case c11 => k_is)
    (case k11 => k_is)
    (case a12 => k_is)
    (case i12 => k_is)
    (case l12 => k_is)
    (case c12 => k_is)
    (case k12 => k_is)
    (case a13 => k_is)
    (case i13 => k_is)
    (case l13 => k_is)
    (case c13 => k_is)
    (case k13 => k_is)
    (case a14 => k_is)
    (case i14 => k_is)
    (case l14 => k_is)
    (case c14 => k_is)
    (case k14 => k_is)
    (case a15 => k_is)
    (case i15 => k_is)
    (case l15 => k_is)
    (case c15 => k_is)
    (case k15 => k_is)
    (case a16 => k_is)
    (case l16 => k_is)
    (case c16 => k_is)
    (case k16 => k_is)
    (case a17 => k_is)
    (case l17 => k_is)
    (case c17 => k_is)
    (case k17 => k_is)
    (case a18 => k_is)
    (case l18 => k_is)
    (case c18 => k_is)
    (case k18 => k_is)
    (case a19 => k_is)
    (case l19 => k_is)
    (case c19 => k_is)
    (case k19 => k_is)
    (case a20 => k_is)
    (case l20 => k_is)
    (case c20 => k_is)
    (case k20 => k_is)
    (case a21 => k_is)
    (case l21 => k_is)
    (case c21 => k_is)
    (case k21 => k_is)
    (case a22 => k_is)
    (case l22 => k_is)
    (case c22 => k_is)
    (case k22 => k_is)
    (case a23 => k_is)
    (case l23 => k_is)
    (case c23 => k_is)
    (case k23 => k_is)
    (case a24 => k_is)
    (case l24 => k_is)
    (case c24 => k_is)
    (case k24 => k_is)
    (case a25 => k_is)
    (case l25 => k_is)
    (case c25 => k_is)
    (case k25 => k_is)
    (case a26 => k_is)
    (case l26 => k_is)
    (case c26 => k_is)
    (case k26 => k_is)
    (case a27 => k_is)
    (case l27 => k_is)
    (case c27 => k_is)
    (case k27 => k_is)
    (case a28 => k_is)
    (case l28 => k_is)
    (case c28 => k_is)
    (case k28 => k_is)
    (case a29 => k_is)
    (case l29 => k_is)
    (case c29 => k_is)
    (case k29 => k_is)
    (case a30 => k_is)
    (case l30 => k_is)
    (case c30 => k_is)
    (case k30 => k_is)
    (case a31 => k_is)
    (case l31 => k_is)
    (case c31 => k_is)
    (case k31 => k_is)
    (case a32 => k_is)
    (case l32 => k_is)
    (case c32 => k_is)
    (case k32 => k_is)
    (case a33 => k_is)
    (case l33 => k_is)
    (case c33 => k_is)
    (case k33 => k_is)
    (case a34 => k_is)
    (case l34 => k_is)
    (case c34 => k_is)
    (case k34 => k_is)
    (case a35 => k_is)
    (case l35 => k_is)
    (case c35 => k_is)
    (case k35 => k_is)
    (case a36 => k_is)
    (case l36 => k_is)
    (case c36 => k_is)
    (case k36 => k_is)
    (case a37 => k_is)
    (case l37 => k_is)
    (case c37 => k_is)
    (case k37 => k_is)
    (case a38 => k_is)
    (case l38 => k_is)
    (case c38 => k_is)
    (case k38 => k_is)
    (case a39 => k_is)
    (case l39 => k_is)
    (case c39 => k_is)
    (case k39 => k_is)
    (case a40 => k_is)
    (case l40 => k_is)
    (case c40 => k_is)
    (case k40 => k_is)
    (case a41 => k_is)
    (case l41 => k_is)
    (case c41 => k_is)
    (case k41 => k_is)
    (case a42 => k_is)
    (case l42 => k_is)
    (case c42 => k_is)
    (case k42 => k_is)
    (case a43 => k_is)
    (case l43 => k_is)
    (case c43 => k_is)
    (case k43 => k_is)
    (case a44 => k_is)
    (case l44 => k_is)
    (case c44 => k_is)
    (case k44 => k_is)
    (case a45 => k_is)
    (case l45 => k_is)
    (case c45 => k_is)
    (case k45 => k_is)
    (case a46 => k_is)
    (case l46 => k_is)
    (case c46 => k_is)
    (case k46 => k_is)
    (case a47 => k_is)
    (case l47 => k_is)
    (case c47 => k_is)
    (case k47 => k_is)
    (case a48 => k_is)
    (case l48 => k_is)
    (case c48 => k_is)
    (case k48 => k_is)
    (case a49 => k_is)
    (case l49 => k_is)
    (case c49 => k_is)
    (case k49 => k_is)
    (case a50 => k_is)
    (case l50 => k_is)
    (case c50 => k_is)
    (case k50 => k_is)
    (case a51 => k_is)
    (case l51 => k_is)
    (case c51 => k_is)
    (case k51 => k_is)
    (case a52 => k_is)
    (case l52 => k_is)
    (case c52 => k_is)
    (case k52 => k_is)
    (case a53 => k_is)
    (case l53 => k_is)
    (case c53 => k_is)
    (case k53 => k_is)
    (case a54 => k_is)
    (case l54 => k_is)
    (case c54 => k_is)
    (case k54 => k_is)
    (case a55 => k_is)
    (case l55 => k_is)
    (case c55 => k_is)
    (case k55 => k_is)
    (case a56 => k_is)
    (case l56 => k_is)
    (case c56 => k_is)
    (case k56 => k_is)
    (case a57 => k_is)
    (case l57 => k_is)
    (case c57 => k_is)
    (case k57 => k_is)
    (case a58 => k_is)
    (case l58 => k_is)
    (case c58 => k_is)
    (case k58 => k_is)
    (case a59 => k_is)
    (case l59 => k_is)
    (case c59 => k_is)
    (case k59 => k_is)
    (case a60 => k_is)
    (case l60 => k_is)
    (case c60 => k_is)
    (case k60 => k_is)
    (case a61 => k_is)
    (case l61 => k_is)
    (case c61 => k_is)
    (case k61 => k_is)
    (case a62 => k_is)
    (case l62 => k_is)
    (case c62 => k_is)
    (case k62 => k_is)
    (case a63 => k_is)
    (case l63 => k_is)
    (case c63 => k_is)
    (case k63 => k_is)
    (case a64 => k_is)
    (case l64 => k_is)
    (case c64 => k_is)
    (case k64 => k_is)
    (case a65 => k_is)
    (case l65 => k_is)
    (case c65 => k_is)
    (case k65 => k_is)
    (case a66 => k_is)
    (case l66 => k_is)
    (case c66 => k_is)
    (case k66 => k_is)
    (case pgC_Long => k_is)
    (case hdC_Long => k_is)
    (case poC_Long => k_is)
    (case saC_Long => k_is)
    (case kC_Long => k_is)
    (case mkC_Long => k_is)
    (case ic_Long => k_is)
    (case ty_Long => k_is)
    (case cl_Long => k_is)
    (case ob_Long => k_is)
    (case oi_Long => k_is)
    (case na_Long_number => k_is)
    (case pgC_Terms => k_is)
    (case hdC_Terms => k_is)
    (case poC_Terms => k_is)
    (case saC_Terms => k_is)
    (case kC_Terms => k_is)
    (case mkC_Terms => k_is)
    (case ic_Terms => k_is)
    (case ty_Terms => k_is)
    (case cl_Terms => k_is)
    (case ob_Terms => k_is)
    (case oi_Terms => k_is)
    (case na_Terms_above => k_is)
    (case na_Terms_below => k_is)
    (case na_Terms_lowest => k_is)
    (case pgC_Ratio => k_is)
    (case hdC_Ratio => k_is)
    (case poC_Ratio => k_is)
    (case saC_Ratio => k_is)
    (case kC_Ratio => k_is)
    (case mkC_Ratio => k_is)
    (case ic_Ratio => k_is)
    (case ty_Ratio => k_is)
    (case cl_Ratio => k_is)
    (case ob_Ratio => k_is)
    (case oi_Ratio => k_is)
    (case na_Ratio__top => k_is)
    (case na_Ratio__bottom => k_is)
    (case na_Ratio__is_lowest => k_is)
    (case sg => k_is)
    (case tk => k_is)
    (case ne_Ratio => k_is)
    (case z_len => k_is)
    (case z_abs => k_is)
    (case z_max => k_is)
    (case z_min => k_is)
    (case z_isinstance => k_is)
    (case z_range => k_is)
    (case z_int => k_is)
    (case z_tuple => k_is)
    (case z_divmod => k_is)
    (case z_sum => k_is)
    (case v__TOO_LONG => k_is)
    (case v__SHORT => k_is)
    (case w_gcd => k_is)
    (case sf_Ratio => k_is)
    (case si_Ratio => k_is)
    (case it__add__ => k_is)
    (case it__radd__ => k_is)
    (case rc_Ratio__radd__ => k_is)
    (case it__sub__ => k_is)
    (case it__rsub__ => k_is)
    (case rc_Ratio__rsub__ => k_is)
    (case it__mul__ => k_is)
    (case it__rmul__ => k_is)
    (case rc_Ratio__rmul__ => k_is)
#print axioms PySem.Challenge.cw_toothchain_k53_whole_steps_and_sums_holds
