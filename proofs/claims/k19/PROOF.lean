import PyProof.Rows.All
import Wide.All
import OpenK.AllK
import Wide.FinOn
import HandS.ForMost
import HandS.ForExc
import HandS.Wide
import HandS.IsInst
import HandS.Defaults
import HandS.ExcInit
import HandS.ExcField
import HandS.Flow
import HandS.Style
import HandS.OwnEq
import HandS.RaiseOp
import PyProof.ListMulRoad
import PyProof.FactsAll.int
import HandS.TupAny
import HandS.CallSlots
import HandS.NoneIn
import HandS.TryOnly
import HandS.TryMany
import KE.KExcIs
import HandS.ExcIs
import HandS.Star
import HandS.Strs
import HandS.Text
import KE.GoesEnum
import HandS.SetFor
import HandS.HotCalls
import HandS.ExcValue
import KE.KExcMore
import KE.KEqDict
import PySem.Challenge.RW_partstell_k19_errors_told
import HandS.FStr
set_option Elab.async false
set_option linter.all false
set_option maxRecDepth 100000
set_option maxHeartbeats 4000000
set_option exponentiation.threshold 100000
/-! Operators of an own class, with ints on either side. -/
namespace Pt
open PySem PySem.Spec PyProof.Rows L2
open Builtin
/-- an object that is no int -/
def plainObj (C dx : Addr) : Obj := PySem.W.instObj C dx
section
variable (a : Int) (t : Tok) (l C dx : Addr)
abbrev Decl (B : Builtin) (a : Int) (t : Tok) (l C dx : Addr) : Prop := Meets (B ⟨[.int a t, .ref l], []⟩) (fun _ R s => s.heap.get? l = some (PySem.W.instObj C dx) ∧ R (.ok (.ret Value.notImplemented)) s)
theorem dec_add : Decl Builtin.«int.__add__» a t l C dx := .of_wp fun prog w A R s h => by
  obtain ⟨hp, g, d, tk, os⟩ := s; obtain ⟨hl, h⟩ := h; unfold PySem.W.instObj at hl; wp_walk; exact ⟨_, rfl, h⟩
theorem dec_sub : Decl Builtin.«int.__sub__» a t l C dx := .of_wp fun prog w A R s h => by
  obtain ⟨hp, g, d, tk, os⟩ := s; obtain ⟨hl, h⟩ := h; unfold PySem.W.instObj at hl; wp_walk; exact ⟨_, rfl, h⟩
theorem dec_mul : Decl Builtin.«int.__mul__» a t l C dx := .of_wp fun prog w A R s h => by
  obtain ⟨hp, g, d, tk, os⟩ := s; obtain ⟨hl, h⟩ := h; unfold PySem.W.instObj at hl; wp_walk; exact ⟨_, rfl, h⟩
theorem dec_mod : Decl Builtin.«int.__mod__» a t l C dx := .of_wp fun prog w A R s h => by
  obtain ⟨hp, g, d, tk, os⟩ := s; obtain ⟨hl, h⟩ := h; unfold PySem.W.instObj at hl; wp_walk; exact ⟨_, rfl, h⟩
theorem dec_floordiv : Decl Builtin.«int.__floordiv__» a t l C dx := .of_wp fun prog w A R s h => by
  obtain ⟨hp, g, d, tk, os⟩ := s; obtain ⟨hl, h⟩ := h; unfold PySem.W.instObj at hl; wp_walk; exact ⟨_, rfl, h⟩
theorem dec_lt : Decl Builtin.«int.__lt__» a t l C dx := .of_wp fun prog w A R s h => by
  obtain ⟨hp, g, d, tk, os⟩ := s; obtain ⟨hl, h⟩ := h; unfold PySem.W.instObj at hl; wp_walk; exact ⟨_, rfl, h⟩
theorem dec_le : Decl Builtin.«int.__le__» a t l C dx := .of_wp fun prog w A R s h => by
  obtain ⟨hp, g, d, tk, os⟩ := s; obtain ⟨hl, h⟩ := h; unfold PySem.W.instObj at hl; wp_walk; exact ⟨_, rfl, h⟩
theorem dec_gt : Decl Builtin.«int.__gt__» a t l C dx := .of_wp fun prog w A R s h => by
  obtain ⟨hp, g, d, tk, os⟩ := s; obtain ⟨hl, h⟩ := h; unfold PySem.W.instObj at hl; wp_walk; exact ⟨_, rfl, h⟩
theorem dec_ge : Decl Builtin.«int.__ge__» a t l C dx := .of_wp fun prog w A R s h => by
  obtain ⟨hp, g, d, tk, os⟩ := s; obtain ⟨hl, h⟩ := h; unfold PySem.W.instObj at hl; wp_walk; exact ⟨_, rfl, h⟩
theorem dec_eq : Decl Builtin.«int.__eq__» a t l C dx := .of_wp fun prog w A R s h => by
  obtain ⟨hp, g, d, tk, os⟩ := s; obtain ⟨hl, h⟩ := h; unfold PySem.W.instObj at hl; wp_walk; exact ⟨_, rfl, h⟩
theorem dec_ne : Decl Builtin.«int.__ne__» a t l C dx := .of_wp fun prog w A R s h => by
  obtain ⟨hp, g, d, tk, os⟩ := s; obtain ⟨hl, h⟩ := h; unfold PySem.W.instObj at hl; wp_walk; exact ⟨_, rfl, h⟩
end
end Pt
namespace Pt
open PySem PySem.Spec PyProof.Rows L2
open PySem.W (findIn isFn subIn selfFirst Looks looks_findIn looks_subIn looks_clsIn clsIn InstAt special_fn fills_K)
/-- what an int declines: the place of an operator's method in int -/
structure IntDec (nm : Str) (f : Str) where
  id : String
  B : Builtin
  slot : Slot "int" f id
  entry : entryFor table id = some B
  args : ∀ a b, argsOk id ⟨[a, b], []⟩
  dec : ∀ a t l C dx, Decl B a t l C dx
section
variable {prog : Program} {w : World} {A : Around} {E : Value → Shared → Prop} {s : Shared} {K : PySem.W.Frag} {x C f : Addr} {ox : Obj} {od : Option Obj} {nm : Str}
theorem int_declines {fn : Str} (D : IntDec nm fn) {i : Int} {t : Tok} {dx : Addr} {Q : Value → Shared → Prop} (h : s.heap.get? x = some (PySem.W.instObj C dx)) (q : Q .notImplemented s) :
    wpAny (model prog w) A (call (.builtin D.id) [.int i t, .ref x]) Q E s :=
  call_meets D.slot (typeIs_int s i t) D.entry (D.args _ _) (D.dec i t x C dx) ⟨h, q⟩

/-- what an operator of the class at C is: its own method g, the reflected one f -/
structure OwnBin (K : PySem.W.Frag) (C : Addr) (op : Operator) (g : Addr) (rc : Option Value) : Prop where
  first : selfFirst K C = true
  mro : ∃ cd, clsIn K C = some cd ∧ cd.mro = [.ref C, .type "object"]
  here : findIn K (.ref C) (PySem.dunder op.info.2) = some (some (.ref g))
  fn : isFn K (.ref g) = true
  refl : findIn K (.ref C) (dunderR op.info.2) = some rc
  kind : rc = none ∨ ∃ f : Addr, rc = some (.ref f) ∧ isFn K (.ref f) = true
  noI : findIn K (.ref C) (dunderI op.info.2) = some none
  sub1 : subIn K (.ref C) (.type "int") = some false
  sub2 : subIn K (.type "int") (.ref C) = some false
/-- int, as operand of it -/
structure IntBin (op : Operator) where
  D : IntDec op.info.2 (PySem.dunder op.info.2)
  fills : fillsNumberSlot (.type "int") op.info.2 = pure true
  noI : typeLookup (.type "int") (dunderI op.info.2) = pure none
  ro : Option Value
  refl : typeLookup (.type "int") (dunderR op.info.2) = pure ro
abbrev Gets (Q : Value → Shared → Prop) : Option Value → Shared → Prop := fun r s' => ∃ v, r = some v ∧ Q v s'
theorem bin1_own_own {op : Operator} {rc : Option Value} {b : Value} {Q : Value → Shared → Prop} (X : K.In s.heap) (I : InstAt s.heap x ox C od) (hb : Looks (model prog w) s.heap (typeOf b) (.ref C)) (T : OwnBin K C op g rc)
    (h : wpAny (model prog w) A (call (.ref g) [.ref x, b]) (PySem.W.CmpBack Q) E s) : wpAny (model prog w) A (binaryOp1 op.info.2 (.ref x) b) (Gets Q) E s := by
  obtain ⟨cd, rest, hcd, hm⟩ := PySem.W.ksp_first T.first
  have hs := T.here
  generalize op.info.2 = nm' at hs
  have one := PySem.W.ksp_try X I hs T.fn h
  obtain ⟨hh, g', d, tt, os⟩ := s
  have Ta : Looks (model prog w) hh (typeOf (.ref x)) (.ref C) := I.type
  have Fa : Looks (model prog w) hh (fillsNumberSlot (.ref C) nm') true := fills_K X hcd hm hs
  unfold binaryOp1
  refine wpAny_bind (Ta.at (wpAny_bind (hb.at (wpAny_bind (Fa.at ?_)))))
  simp only [beq_self_eq_true, if_true, pure_bind, Bool.and_false, Bool.false_eq_true, if_false, Bool.false_and]
  refine wpAny_bind (wpAny_mono one (fun r s' hr' => ?_) fun _ _ e => e)
  obtain ⟨v, rfl, hq⟩ := hr'
  exact wpAny_pure ⟨v, rfl, hq⟩
theorem bin1_own_int {op : Operator} {rc : Option Value} {i : Int} {t : Tok} {Q : Value → Shared → Prop} (X : K.In s.heap) (I : InstAt s.heap x ox C od) (T : OwnBin K C op g rc) (Z : IntBin op)
    (h : wpAny (model prog w) A (call (.ref g) [.ref x, .int i t]) (PySem.W.CmpBack Q) E s) : wpAny (model prog w) A (binaryOp1 op.info.2 (.ref x) (.int i t)) (Gets Q) E s := by
  obtain ⟨cd, rest, hcd, hm⟩ := PySem.W.ksp_first T.first
  have hs := T.here
  have hr := T.refl
  have hp : rc = none ∨ ∃ f : Addr, rc = some (.ref f) := T.kind.imp id fun ⟨f, e, _⟩ => ⟨f, e⟩
  have hfi := Z.fills
  have hro := Z.refl
  generalize Z.ro = ro at hro
  generalize op.info.2 = nm' at hs hr hfi hro
  have one := PySem.W.ksp_try X I hs T.fn h
  obtain ⟨hh, g', d, tt, os⟩ := s
  have Ta : Looks (model prog w) hh (typeOf (.ref x)) (.ref C) := I.type
  have Tb : Looks (model prog w) hh (typeOf (.int i t)) (.type "int") := Looks.of_pure rfl
  have Fa : Looks (model prog w) hh (fillsNumberSlot (.ref C) nm') true := fills_K X hcd hm hs
  have Fb : Looks (model prog w) hh (fillsNumberSlot (.type "int") nm') true := Looks.of_pure hfi
  have Sb : Looks (model prog w) hh (isSubtype (.type "int") (.ref C)) false := looks_subIn X T.sub2
  have Pa : Looks (model prog w) hh (numberSlotInPython (.ref C) nm') true := PySem.W.ksp_inPy X hs hr hp
  have Pb : Looks (model prog w) hh (numberSlotInPython (.type "int") nm') false := Looks.of_pure rfl
  have Rb : Looks (model prog w) hh (typeLookup (.type "int") (dunderR nm')) ro := Looks.of_pure hro
  have hne : (Value.ref C == Value.type "int") = false := Bool.eq_false_iff.mpr fun q => by cases beq_iff_eq.mp q
  unfold binaryOp1
  refine wpAny_bind (Ta.at (wpAny_bind (Tb.at (wpAny_bind (Fa.at ?_)))))
  simp only [hne, Bool.false_eq_true, if_false]
  refine wpAny_bind (Fb.at ?_)
  simp only [Bool.and_self, if_true]
  refine wpAny_bind (Sb.at ?_)
  simp only [Bool.false_eq_true, if_false, pure_bind, Bool.not_false, Bool.and_self, if_true]
  refine wpAny_bind (Pa.at ?_)
  simp only [if_true]
  refine wpAny_bind (Pb.at ?_)
  simp only [Bool.not_false, if_true]
  refine wpAny_bind (Rb.at ?_)
  refine wpAny_bind (wpAny_mono one (fun r s' hr' => ?_) fun _ _ e => e)
  obtain ⟨v, rfl, hq⟩ := hr'
  exact wpAny_pure ⟨v, rfl, hq⟩
theorem bin1_int_own {op : Operator} {i : Int} {t : Tok} {dx : Addr} {Q : Value → Shared → Prop} (X : K.In s.heap) (I : InstAt s.heap x (PySem.W.instObj C dx) C od) (T : OwnBin K C op g (some (.ref f))) (hf : isFn K (.ref f) = true) (Z : IntBin op)
    (h : wpAny (model prog w) A (call (.ref f) [.ref x, .int i t]) (PySem.W.CmpBack Q) E s) : wpAny (model prog w) A (binaryOp1 op.info.2 (.int i t) (.ref x)) (Gets Q) E s := by
  obtain ⟨cd, rest, hcd, hm⟩ := PySem.W.ksp_first T.first
  have hs := T.here
  have hr := T.refl
  have hfi := Z.fills
  obtain ⟨id, B, slot, entry, args, dec⟩ := Z.D
  generalize op.info.2 = nm' at hs hr hfi slot
  have one := PySem.W.ksp_try X I hr hf h
  have decl : ∀ {Q' : Option Value → Shared → Prop}, Q' none s → wpAny (model prog w) A (tryMethod (.int i t) (PySem.dunder nm') (.ref x)) Q' E s := fun {Q'} q =>
    wpAny_tryMethod_declines (typeIs_int s i t) slot (call_meets slot (typeIs_int s i t) entry (args _ _) (dec i t x C dx) ⟨I.at_, rfl, q⟩)
  obtain ⟨hh, g', d, tt, os⟩ := s
  have Tx : Looks (model prog w) hh (typeOf (.ref x)) (.ref C) := I.type
  have Ti : Looks (model prog w) hh (typeOf (.int i t)) (.type "int") := Looks.of_pure rfl
  have Fx : Looks (model prog w) hh (fillsNumberSlot (.ref C) nm') true := fills_K X hcd hm hs
  have Fi : Looks (model prog w) hh (fillsNumberSlot (.type "int") nm') true := Looks.of_pure hfi
  have Sx : Looks (model prog w) hh (isSubtype (.ref C) (.type "int")) false := looks_subIn X T.sub1
  have Pi : Looks (model prog w) hh (numberSlotInPython (.type "int") nm') false := Looks.of_pure rfl
  have hne : (Value.type "int" == Value.ref C) = false := Bool.eq_false_iff.mpr fun q => by cases beq_iff_eq.mp q
  unfold binaryOp1
  refine wpAny_bind (Ti.at (wpAny_bind (Tx.at (wpAny_bind (Fi.at ?_)))))
  simp only [hne, Bool.false_eq_true, if_false]
  refine wpAny_bind (Fx.at ?_)
  simp only [Bool.and_self, if_true]
  refine wpAny_bind (Sx.at ?_)
  simp only [Bool.false_eq_true, if_false, pure_bind, Bool.not_false, Bool.and_self, if_true]
  refine wpAny_bind (Pi.at ?_)
  simp only [Bool.false_eq_true, if_false, pure_bind]
  refine wpAny_bind (decl ?_)
  simp only [pure_bind, Bool.false_eq_true, if_false, if_true]
  refine wpAny_bind (wpAny_mono one (fun r s' hr' => ?_) fun _ _ e => e)
  obtain ⟨v, rfl, hq⟩ := hr'
  exact wpAny_bind (wpAny_rule (wpAny_pure ⟨v, rfl, hq⟩))
theorem bin_of1 {op : Operator} {a b : Value} {Q : Value → Shared → Prop} (h : wpAny (model prog w) A (binaryOp1 op.info.2 a b) (Gets Q) E s) : wpAny (model prog w) A (binaryOp op a b) Q E s := by
  rcases hi : op.info with ⟨sym, nm'⟩
  rw [hi] at h
  simp only [binaryOp, hi]
  refine wpAny_holding (wpAny_bind (wpAny_mono h (fun r s' hr' => ?_) fun _ _ e => e))
  obtain ⟨v, rfl, hq⟩ := hr'
  exact wpAny_pure hq
theorem inp_of1 {op : Operator} {a b ta : Value} {Q : Value → Shared → Prop} (Ta : Looks (model prog w) s.heap (typeOf a) ta) (Fi : Looks (model prog w) s.heap (fillsInplaceSlot ta op.info.2 (op == .Add)) false)
    (h : wpAny (model prog w) A (binaryOp1 op.info.2 a b) (Gets Q) E s) : wpAny (model prog w) A (inplaceOp op a b) Q E s := by
  obtain ⟨hh, g', d, tt, os⟩ := s
  unfold inplaceOp
  refine wpAny_holding (wpAny_bind (Ta.at (wpAny_bind (Fi.at ?_))))
  simp only [Bool.false_eq_true, if_false, pure_bind]
  refine wpAny_bind (wpAny_mono h (fun r s' hr' => ?_) fun _ _ e => e)
  obtain ⟨v, rfl, hq⟩ := hr'
  exact wpAny_pure hq
theorem noI_own {M : Model} {h : Heap} {op : Operator} {rc : Option Value} (X : K.In h) (T : OwnBin K C op g rc) (hO : typeLookup (.type "object") (dunderI op.info.2) = pure none) : Looks M h (fillsInplaceSlot (.ref C) op.info.2 (op == .Add)) false := by
  obtain ⟨cd, hcd, hm⟩ := T.mro
  intro A Q E s k q
  have Lm : Looks M h (mroOf (.ref C)) cd.mro := (looks_clsIn X hcd).andThen (f := fun cd => pure cd.mro) .now
  have Lm' := Lm.keeps k
  have L1 : Looks M h (typeLookup (.ref C) (dunderI op.info.2)) none := looks_findIn X T.noI
  have L1' := L1.keeps k
  have L2 : Looks M s.heap (typeLookup (.type "object") (dunderI op.info.2)) none := Looks.of_pure hO
  unfold fillsInplaceSlot
  refine wpAny_bind (Lm'.at ?_)
  rw [hm, List.anyM_cons]
  refine wpAny_bind (wpAny_bind (L1'.at ?_))
  refine wpAny_pure ?_
  simp only [Bool.false_eq_true, if_false]
  rw [List.anyM_cons]
  refine wpAny_bind (wpAny_bind (L2.at ?_))
  refine wpAny_pure ?_
  simp only [Bool.false_eq_true, if_false]
  exact wpAny_pure q
theorem noI_int {M : Model} {h : Heap} {op : Operator} (Z : IntBin op) : Looks M h (fillsInplaceSlot (.type "int") op.info.2 (op == .Add)) false := by
  refine Looks.of_pure ?_
  unfold fillsInplaceSlot
  show (typeLookup (.type "int") (dunderI op.info.2) >>= fun fi => pure (fi.isSome && !isSeqSlot fi)) = pure false
  rw [Z.noI]
  rfl
/-! comparisons -/
theorem cmp_int_own {op : CmpOp} {i : Int} {t : Tok} {dx : Addr} {Q : Value → Shared → Prop} (hu : A.units < cLine) (X : K.In s.heap) (I : InstAt s.heap x (PySem.W.instObj C dx) C od) (D : IntDec (cmpInfo op).2.1 (cmpInfo op).2.1)
    (hs : findIn K (.ref C) (cmpInfo op).2.2 = some (some (.ref f))) (hf : isFn K (.ref f) = true) (hsub : subIn K (.ref C) (.type "int") = some false)
    (h : wpAny (model prog w) A (call (.ref f) [.ref x, .int i t]) (PySem.W.CmpBack Q) E s) : wpAny (model prog w) A (richCompare op (.int i t) (.ref x)) Q E s := by
  have two : wpAny (model prog w) A (tryCompare (.ref x) (cmpInfo op).2.2 (.int i t)) (fun r s' => ∃ v, r = some v ∧ Q v s') E s := by
    unfold tryCompare
    refine wpAny_bind (PySem.W.ifBound_K X I hs hf (wpAny_mono h (fun v s' hv => ?_) fun _ _ e => e))
    cases v <;> first | exact hv.elim | exact wpAny_pure ⟨_, rfl, hv⟩
  have hs1 := D.slot
  have e1 := D.entry
  have a1 := D.args
  have d1 := D.dec
  rcases hi : cmpInfo op with ⟨sym, fa, fb⟩
  have decl : ∀ {Q' : Option Value → Shared → Prop}, Q' none s → wpAny (model prog w) A (tryCompare (.int i t) (cmpInfo op).2.1 (.ref x)) Q' E s := fun {Q'} q =>
    wpAny_tryCompare_declines (typeIs_int s i t) hs1 (call_meets hs1 (typeIs_int s i t) e1 (a1 _ _) (d1 i t x C dx) ⟨I.at_, rfl, q⟩)
  rw [hi] at decl two
  have Sx : Looks (model prog w) s.heap (isSubtype (.ref C) (.type "int")) false := looks_subIn X hsub
  have hne : (Value.type "int" != Value.ref C) = true := by
    show (!(Value.type "int" == Value.ref C)) = true
    rw [show (Value.type "int" == Value.ref C) = false from Bool.eq_false_iff.mpr fun q => by cases beq_iff_eq.mp q]
    rfl
  simp only [richCompare, hi, (typeIs_int s i t).oneThing_none]
  refine wpAny_holding (wpAny_bind (wpAny_cRoomFor hu ?_))
  refine wpAny_bind (wpAny_typeOf (typeIs_int s i t) (wpAny_bind (I.type.here ?_)))
  simp only [hne, if_true]
  refine wpAny_bind (Sx.here ?_)
  simp only [Bool.false_eq_true, if_false, Bool.not_false, if_true]
  refine wpAny_bind (decl ?_)
  refine wpAny_bind (wpAny_mono two (fun r s' z => ?_) fun _ _ e => e)
  obtain ⟨v, rfl, hq⟩ := z
  exact wpAny_pure hq
end
end Pt
namespace Pt
open PySem PySem.Spec PyProof.Rows L2
open PySem.W (findIn isFn subIn selfFirst Looks looks_findIn looks_subIn looks_clsIn clsIn InstAt special_fn fills_K)
/-! ints as operands -/
def intAdd : IntBin .Add := ⟨⟨_, _, F.slot_int_add, F.entry_int_add, F.args_int_add_2, dec_add⟩, F.fills_int_add, F.noI_int_add, _, F.slot_int_radd.lookup⟩
def intSub : IntBin .Sub := ⟨⟨_, _, F.slot_int_sub, F.entry_int_sub, F.args_int_sub_2, dec_sub⟩, F.fills_int_sub, F.noI_int_sub, _, F.slot_int_rsub.lookup⟩
def intMul : IntBin .Mult := ⟨⟨_, _, F.slot_int_mul, F.entry_int_mul, F.args_int_mul_2, dec_mul⟩, F.fills_int_mul, F.noI_int_mul, _, F.slot_int_rmul.lookup⟩
def intMod : IntBin .Mod := ⟨⟨_, _, F.slot_int_mod, F.entry_int_mod, F.args_int_mod_2, dec_mod⟩, F.fills_int_mod, F.noI_int_mod, _, F.slot_int_rmod.lookup⟩
def intFloor : IntBin .FloorDiv := ⟨⟨_, _, F.slot_int_floordiv, F.entry_int_floordiv, F.args_int_floordiv_2, dec_floordiv⟩, F.fills_int_floordiv, F.noI_int_floordiv, _, F.slot_int_rfloordiv.lookup⟩
def icLt : IntDec (cmpInfo .Lt).2.1 (cmpInfo .Lt).2.1 := ⟨_, _, F.slot_int_lt, F.entry_int_lt, F.args_int_lt_2, dec_lt⟩
def icLe : IntDec (cmpInfo .LtE).2.1 (cmpInfo .LtE).2.1 := ⟨_, _, F.slot_int_le, F.entry_int_le, F.args_int_le_2, dec_le⟩
def icGt : IntDec (cmpInfo .Gt).2.1 (cmpInfo .Gt).2.1 := ⟨_, _, F.slot_int_gt, F.entry_int_gt, F.args_int_gt_2, dec_gt⟩
def icGe : IntDec (cmpInfo .GtE).2.1 (cmpInfo .GtE).2.1 := ⟨_, _, F.slot_int_ge, F.entry_int_ge, F.args_int_ge_2, dec_ge⟩
def icEq : IntDec (cmpInfo .Eq).2.1 (cmpInfo .Eq).2.1 := ⟨_, _, F.slot_int_eq, F.entry_int_eq, F.args_int_eq_2, dec_eq⟩
/-! the rules -/
def OwnV (C : Addr) (H : Hp) (x : V) : Prop := ∃ a dx fs, x = V.ref a ∧ H a = some (.ins C dx fs)
structure BinOk (P : Program) (w : World) (K : PySem.W.Frag) (mg : Str → Option Value) (base : Heap) (C : Addr) (op : Operator) (CX : CXT) (k : Nat) (sp spr : Sp) : Prop where
  ex : ∃ (g f : Addr) (fd fdr : FuncData) (ps psr : List Str), OwnBin K C op g (some (.ref f)) ∧ isFn K (.ref f) = true ∧ FnOk P w K mg base CX k g fd ps sp ∧ Binds K fd ps [] ∧ FnOk P w K mg base CX k f fdr psr spr ∧ Binds K fdr psr []
section
variable {X : Cx} {C g f : Addr} {op : Operator} {CX : CXT} {k : Nat} {sp spr : Sp} {pins : List (Addr × Obj)} {σ : L2.St} {H : Hp} {s : Shared} {Q : VK} {E : XK} {x y : V} {u v : Value}
theorem vv1 (rx : RelV x u) : Vals [x] [u] := .cons rx .nil
theorem vv2 (rx : RelV x u) (ry : RelV y v) : Vals [x, y] [u, v] := .cons rx (.cons ry .nil)
theorem back_ep {z : Value} {s' : Shared} (h : EP X pins σ Q z s') : PySem.W.CmpBack (EP X pins σ Q) z s' := by
  cases z with
  | notImplemented =>
    obtain ⟨v, H', _, r, _⟩ := h
    cases v with
    | non => exact nomatch (show Value.notImplemented = Value.none from r)
    | bl b => exact nomatch (show Value.notImplemented = Value.bool b from r)
    | int i => obtain ⟨t, e⟩ := (show ∃ t, Value.notImplemented = Value.int i t from r); cases e
    | str i => obtain ⟨t, e⟩ := (show ∃ t, Value.notImplemented = Value.str i t from r); cases e
    | byt i => obtain ⟨t, e⟩ := (show ∃ t, Value.notImplemented = Value.bytes i t from r); cases e
    | flt i => obtain ⟨t, e⟩ := (show ∃ t, Value.notImplemented = Value.float i t from r); cases e
    | ref a => exact nomatch (show Value.notImplemented = Value.ref a from r)
    | ty n => exact nomatch (show Value.notImplemented = Value.type n from r)
  | _ => exact h
theorem run_back {fd : FuncData} {ps : List Str} {us : List Value} {vs : List V} (F : FnOk X.prog X.w X.K X.mg X.base CX k f fd ps sp) (hr : Room k X.A) (hb : Binds X.K fd ps []) (hx : PassesAt CX X σ E)
    (I : Inv X pins σ H s) (r : Vals vs us) (h : sp vs H Q E) : wpAny (model X.prog X.w) X.A (call (.ref f) us) (PySem.W.CmpBack (EP X pins σ Q)) X.xe s :=
  wpAny_mono (run_fnS (E := fun _ => E) F hr hb hx I r h) (fun _ _ z => back_ep z) fun _ _ z => z
theorem own_inst (I : Inv X pins σ H s) {a dx : Addr} {fs : List (Str × V)} (e : H a = some (.ins C dx fs)) : ∃ od, InstAt s.heap a (PySem.W.instObj C dx) C (some od) := by
  obtain ⟨mA, J, _⟩ := ins_get I.hok e
  obtain ⟨od, J, _⟩ := J.look
  exact ⟨od, J⟩
theorem run_bin1 (B : BinOk X.prog X.w X.K X.mg X.base C op CX k sp spr) (Z : IntBin op) (hr : Room k X.A) (hx : PassesAt CX X σ E) (I : Inv X pins σ H s) (rx : RelV x u) (ry : RelV y v)
    (h : (OwnV C H x ∧ (OwnV C H y ∨ ∃ j, y = .int j) ∧ sp [x, y] H Q E) ∨ ((∃ i, x = .int i) ∧ OwnV C H y ∧ spr [y, x] H Q E)) :
    wpAny (model X.prog X.w) X.A (binaryOp1 op.info.2 u v) (Gets (EP X pins σ Q)) X.xe s := by
  obtain ⟨g, f, fd, fdr, ps, psr, T, hf, Fg, bg, Ff, bf⟩ := B.ex
  rcases h with ⟨⟨a, dx, fs, rfl, ha⟩, hy, h⟩ | ⟨⟨i, rfl⟩, ⟨b, dy, gs, rfl, hb⟩, h⟩
  · obtain rfl : u = Value.ref a := rx
    obtain ⟨od, J⟩ := own_inst I ha
    rcases hy with ⟨b, dy, gs, rfl, hb⟩ | ⟨j, rfl⟩
    · obtain rfl : v = Value.ref b := ry
      obtain ⟨od', J'⟩ := own_inst I hb
      exact bin1_own_own I.kIn J J'.type T (run_back Fg hr bg hx I (vv2 (x := V.ref a) (y := V.ref b) rfl rfl) h)
    · obtain ⟨t, rfl⟩ : ∃ t, v = Value.int j t := ry
      exact bin1_own_int I.kIn J T Z (run_back Fg hr bg hx I (vv2 (x := V.ref a) (y := V.int j) rfl ⟨t, rfl⟩) h)
  · obtain rfl : v = Value.ref b := ry
    obtain ⟨t, rfl⟩ : ∃ t, u = Value.int i t := rx
    obtain ⟨od, J⟩ := own_inst I hb
    exact bin1_int_own I.kIn J T hf Z (run_back Ff hr bf hx I (vv2 (x := V.ref b) (y := V.int i) rfl ⟨t, rfl⟩) h)
def rBin (r : R2) (C : Addr) (sp spr : Sp) (E : XK) : R2 := fun x y H Q =>
  r x y H Q ∨ (OwnV C H x ∧ (OwnV C H y ∨ ∃ j, y = .int j) ∧ sp [x, y] H Q E) ∨ ((∃ i, x = .int i) ∧ OwnV C H y ∧ spr [y, x] H Q E)
def tBin (r : R2) (C : Addr) (sp spr : Sp) (E : L2.St → XK) (ta tb : TE) : TE := fun σ H Q => ta σ H fun x H1 => tb σ H1 fun y H2 => rBin r C sp spr (E σ) x y H2 Q
def rNo : R2 := fun _ _ _ _ => False
theorem op_no {fn : Value → Value → Sem Value} : OpR X fn rNo := fun _ _ _ _ _ _ _ _ _ _ _ _ h => h.elim
section
variable {r : R2} {a b : Expr} {ta tb : TE} {pos : Pos}
theorem pe_bin {E : L2.St → XK} (ho : OpR X (binaryOp op) r) (B : BinOk X.prog X.w X.K X.mg X.base C op CX k sp spr) (Z : IntBin op) (hr : Room k X.A) (hx : ∀ σ, PassesAt CX X σ (E σ)) (ha : PE X a ta) (hb : PE X b tb) : PE X (.BinOp a op b pos) (tBin r C sp spr E ta tb) := by
  refine ⟨fun pins s σ H Q I h => ?_⟩
  refine wpAny_BinOp (binT ha hb (R := fun x y H2 => rBin r C sp spr (E σ) x y H2 Q) I h fun v u s2 x y H2 I2 rx ry q => ?_)
  rcases q with q | q
  · exact ho pins s2 σ H2 x y v u Q I2 rx ry q
  · exact bin_of1 (run_bin1 B Z hr (hx σ) I2 rx ry q)
theorem objI (op : Operator) (h : typeLookup (.type "object") (dunderI op.info.2) = pure none) : typeLookup (.type "object") (dunderI op.info.2) = pure none := h
theorem ip_bin (hi : PIp X op r) (B : BinOk X.prog X.w X.K X.mg X.base C op CX k sp spr) (Z : IntBin op) (hO : typeLookup (.type "object") (dunderI op.info.2) = pure none) (hr : Room k X.A) (hx : ∀ σ, PassesAt CX X σ E) : PIp X op (rBin r C sp spr E) := by
  intro pins s σ H x y v u Q I rx ry q
  rcases q with q | q
  · exact hi pins s σ H x y v u Q I rx ry q
  · have go := run_bin1 B Z hr (hx σ) I rx ry q
    obtain ⟨g, f, fd, fdr, ps, psr, T, _⟩ := B.ex
    rcases q with ⟨⟨a, dx, fs, rfl, ha⟩, _⟩ | ⟨⟨i, rfl⟩, _⟩
    · obtain rfl : v = Value.ref a := rx
      obtain ⟨od, J⟩ := own_inst I ha
      exact inp_of1 J.type (noI_own I.kIn T hO) go
    · obtain ⟨t, rfl⟩ : ∃ t, v = Value.int i t := rx
      exact inp_of1 (Looks.of_pure rfl) (noI_int Z) go
theorem ip_no : PIp X op (fun _ _ _ _ => False) := fun _ _ _ _ _ _ _ _ _ _ _ _ h => h.elim
/-- -x, +x, ~x of the class -/
structure UnOk (P : Program) (w : World) (K : PySem.W.Frag) (mg : Str → Option Value) (base : Heap) (C : Addr) (nm : Str) (CX : CXT) (k : Nat) (sp : Sp) : Prop where
  ex : ∃ (g : Addr) (fd : FuncData) (ps : List Str), findIn K (.ref C) nm = some (some (.ref g)) ∧ isFn K (.ref g) = true ∧ FnOk P w K mg base CX k g fd ps sp ∧ Binds K fd ps []
def rUnO (C : Addr) (sp : Sp) (E : XK) : V → Hp → VK → Prop := fun x H Q => OwnV C H x ∧ sp [x] H Q E
theorem un_neg_own (B : UnOk X.prog X.w X.K X.mg X.base C "__neg__" CX k sp) (hr : Room k X.A) (hx : ∀ σ, PassesAt CX X σ E) : UnR X (unaryOp .USub) (rUnO C sp E) := by
  intro pins s σ H x v Q I rx ⟨⟨a, dx, fs, e, ha⟩, h⟩
  subst e
  obtain rfl : v = Value.ref a := rx
  obtain ⟨g, fd, ps, hs, hf, F, b⟩ := B.ex
  obtain ⟨od, J⟩ := own_inst I ha
  obtain ⟨m, hF⟩ := I.fr
  exact PySem.W.ksp_neg hF I.ok.mod.kin J hs hf (run_fnS (E := fun _ => E) F hr b (hx σ) I (vv1 (x := V.ref a) rfl) h)
theorem un_pos_own (B : UnOk X.prog X.w X.K X.mg X.base C "__pos__" CX k sp) (hr : Room k X.A) (hx : ∀ σ, PassesAt CX X σ E) : UnR X (unaryOp .UAdd) (rUnO C sp E) := by
  intro pins s σ H x v Q I rx ⟨⟨a, dx, fs, e, ha⟩, h⟩
  subst e
  obtain rfl : v = Value.ref a := rx
  obtain ⟨g, fd, ps, hs, hf, F, b⟩ := B.ex
  obtain ⟨od, J⟩ := own_inst I ha
  obtain ⟨m, hF⟩ := I.fr
  exact PySem.W.ksp_pos hF I.ok.mod.kin J hs hf (run_fnS (E := fun _ => E) F hr b (hx σ) I (vv1 (x := V.ref a) rfl) h)
/-- abs(x) of the class -/
theorem run_in1 {fd : FuncData} {ps : List Str} {us : List Value} {vs : List V} (F : FnOk X.prog X.w X.K X.mg X.base CX k f fd ps sp) (hr : Room (k + 1) X.A) (hb : Binds X.K fd ps []) (hx : PassesAt CX X σ E)
    (I : Inv X pins σ H s) (r : Vals vs us) (h : sp vs H Q E) : wpAny (model X.prog X.w) X.A.in1 (call (.ref f) us) (EP X pins σ Q) X.xe s := by
  have hl : us.length = ps.length := by rw [← r.length]; exact F.len _ _ _ _ h
  have b := hb s us I.kIn (by rw [List.append_nil]; exact hl)
  rw [List.append_nil] at b
  refine wpAny_call (codeAny_mono (F.run X.A.in1 X.stack s H ⟨us, []⟩ us vs Q E hr.in1 I.env0.in1 b r h) fun z s' hq => ?_)
  match z, hq with
  | .error e, hq => exact hx pins H s e s' I hq
  | .ok (.ret u), hq => exact I.after hq
  | .ok .next, hq => exact hq.elim
  | .ok .brk, hq => exact hq.elim
  | .ok .cont, hq => exact hq.elim
theorem call_abs_own (B : UnOk X.prog X.w X.K X.mg X.base C "__abs__" CX k sp) (hr : Room (k + 1) X.A) (hx : ∀ σ, PassesAt CX X σ E) :
    CallR X (.builtin "abs") (fun xs H Q => (∃ i, xs = [.int i] ∧ Q (.int (if i < 0 then -i else i)) H) ∨ ∃ x, xs = [x] ∧ OwnV C H x ∧ sp [x] H Q E) := by
  intro pins s σ H xs us Q I r h
  rcases h with h | ⟨x, e, ⟨a, dx, fs, ex, ha⟩, h⟩
  · exact call_abs pins s σ H xs us Q I r h
  subst e ex
  obtain ⟨u, rfl, ru⟩ := vals1 r
  obtain rfl : u = Value.ref a := ru
  obtain ⟨g, fd, ps, hs, hf, F, b⟩ := B.ex
  obtain ⟨od, J⟩ := own_inst I ha
  refine Calls.call_function_entry PyProof.Rows.kind_abs PyProof.Rows.plain_abs PyProof.Rows.entry_abs (PyProof.Rows.args_abs _) ?_
  unfold Builtin.«abs»
  refine wpAny_bind (m := oneArg "abs" _) (wpAny_pure ?_)
  refine wpAny_bind (m := callSpecial? (.ref a) (Str.ofString "__abs__")) (special_fn I.kIn J hs (beq_iff_eq.mp hf) (wpAny_mono (run_in1 F hr b (hx σ) I (vv1 (x := V.ref a) rfl) h) (fun v s' hv => ?_) fun _ _ e => e))
  exact wpAny_pure ⟨_, rfl, hv⟩
end
end
end Pt
namespace Pt
open PySem PySem.Spec PyProof.Rows L2
open PySem.W (findIn isFn subIn Looks InstAt)
structure CmpOk (P : Program) (w : World) (K : PySem.W.Frag) (mg : Str → Option Value) (base : Heap) (C : Addr) (op : CmpOp) (CX : CXT) (k : Nat) (sp : Sp) : Prop where
  ex : ∃ (g : Addr) (fd : FuncData) (ps : List Str), findIn K (.ref C) (cmpInfo op).2.1 = some (some (.ref g)) ∧ isFn K (.ref g) = true ∧ FnOk P w K mg base CX k g fd ps sp ∧ Binds K fd ps []
  sub : subIn K (.type "int") (.ref C) = some false
def rCmpO (C : Addr) (sp : Sp) (E : XK) : R2 := fun x y H Q => OwnV C H x ∧ (OwnV C H y ∨ ∃ j, y = .int j) ∧ sp [x, y] H Q E
section
variable {X : Cx} {C g f : Addr} {op : CmpOp} {CX : CXT} {k : Nat} {sp spr : Sp} {E : XK}
theorem op_cmp_own (hop : ∀ a b, compareOp op a b = richCompare op a b) (B : CmpOk X.prog X.w X.K X.mg X.base C op CX k sp) (hr : Room k X.A) (hx : ∀ σ, PassesAt CX X σ E) : OpR X (compareOp op) (rCmpO C sp E) := by
  intro pins s σ H x y v u Q I rx ry q
  obtain ⟨⟨a, dx, fs, ex, ha⟩, hy, h⟩ := q
  subst ex
  obtain rfl : v = Value.ref a := rx
  obtain ⟨g, fd, ps, hs, hf, F, b⟩ := B.ex
  obtain ⟨od, J⟩ := own_inst I ha
  obtain ⟨m, hF⟩ := I.fr
  rw [hop]
  rcases hy with ⟨c, dy, gs, ey, hc⟩ | ⟨j, ey⟩
  · subst ey
    obtain rfl : u = Value.ref c := ry
    obtain ⟨od', J'⟩ := own_inst I hc
    exact PySem.W.cmp_K (tb := .ref C) hr.units0 hF I.ok.mod.kin J J'.type (by simp [PySem.W.notFirst]) hs hf (run_back F hr b (hx σ) I (vv2 (x := V.ref a) (y := V.ref c) rfl rfl) h)
  · subst ey
    obtain ⟨t, rfl⟩ : ∃ t, u = Value.int j t := ry
    exact PySem.W.cmp_K (tb := .type "int") hr.units0 hF I.ok.mod.kin J (Looks.of_pure rfl) (by unfold PySem.W.notFirst; rw [B.sub]; rfl) hs hf (run_back F hr b (hx σ) I (vv2 (x := V.ref a) (y := V.int j) rfl ⟨t, rfl⟩) h)
end
end Pt
namespace Pt
open PySem PySem.Spec PyProof.Rows L2
open PySem.W (findIn isFn subIn Looks looks_findIn looks_subIn InstAt)
section
variable {prog : Program} {w : World} {A : Around} {E : Value → Shared → Prop} {s : Shared} {K : PySem.W.Frag} {x C f : Addr} {ox : Obj} {od : Option Obj}
/-- object.__ne__ of an instance with an own __eq__ -/
theorem try_ne {u : Value} {Q : Option Value → Shared → Prop} (hu : A.units + 1 < cLine) (X : K.In s.heap) (I : InstAt s.heap x ox C od) (hn : findIn K (.ref C) "__ne__" = some (some (.builtin "object.__ne__"))) (hm : PySem.W.mroIn K C (.type "object") = some true)
    (hs : findIn K (.ref C) "__eq__" = some (some (.ref f))) (hf : isFn K (.ref f) = true)
    (h : wpAny (model prog w) A.in1 (call (.ref f) [.ref x, u]) (fun v s' => ∃ b, v = .bool b ∧ Q (some (.bool (!b))) s') E s) : wpAny (model prog w) A (tryCompare (.ref x) "__ne__" u) Q E s := by
  have body : wpAny (model prog w) A (call (.builtin "object.__ne__") [.ref x, u]) (fun v s' => ∃ b, v = .bool b ∧ Q (some (.bool b)) s') E s := by
    refine wpAny_call (codeAny_call_builtin F.cmp_object.ne.plain F.cmpEntry_ne (PySem.W.check_slot F.cmpKind_ne F.cmpSplit_ne (I.type.andThen (PySem.W.looks_mroIn X hm)) (F.cmpArgs_ne _ _) ?_))
    unfold Builtin.«object.__ne__»
    have hu1 : A.in1.units < cLine := hu
    have ask : ∀ {Q' : Option Value → Shared → Prop} {E' : Value → Shared → Prop}, wpAny (model prog w) A.in1 (call (.ref f) [.ref x, u]) (fun v => Q' (some v)) E' s → wpAny (model prog w) A.in1 (callSpecialIfBound? (.ref x) "__eq__" [u]) Q' E' s :=
      fun {Q' E'} z => PySem.W.ifBound_K X I hs hf z
    refine wpAny_bind (m := slotArgs "__ne__" 1 _) (wpAny_pure ?_)
    dsimp only
    refine wpAny_bind (wpAny_cRoomFor hu1 ?_)
    refine wpAny_bind (ask (wpAny_mono h (fun v s' hv => ?_) fun _ _ e => e))
    obtain ⟨b, rfl, q⟩ := hv
    dsimp only
    refine wpAny_bind (wpAny_truthy_bool ?_)
    exact wpAny_pure ⟨!b, rfl, q⟩
  simp only [tryCompare, callSpecialIfBound?, bindSpecialIfBound?]
  have fin : wpAny (model prog w) A (call (.builtin "object.__ne__") ([.ref x] ++ [u]) >>= fun v => pure (some v)) (fun r s' => wpAny (model prog w) A (match r with | some .notImplemented | none => pure none | some v => pure (some v)) Q E s') E s := by
    refine wpAny_bind (wpAny_mono body (fun v s' hv => ?_) fun _ _ e => e)
    obtain ⟨b, rfl, q⟩ := hv
    exact wpAny_pure (wpAny_pure q)
  refine wpAny_bind (wpAny_holding (wpAny_bind (wpAny_bind (wpAny_bind (I.type.here ((looks_findIn X hn).here ?_))))))
  dsimp only
  rw [F.cmp_object.ne.bind]
  refine wpAny_bind (wpAny_askSetting (wpAny_ite ?_))
  split
  · exact wpAny_bind (wpAny_pure (wpAny_pure fin))
  · exact wpAny_tryCatch (wpAny_bind (wpAny_pure (wpAny_pure fin)))
end
end Pt
namespace Pt
open PySem PySem.Spec PyProof.Rows L2
open PySem.W (findIn isFn subIn Looks looks_findIn looks_subIn InstAt)
/-- the type of what stands beside an instance of the class -/
inductive OtherT (C : Addr) (H : Hp) : V → Value → Prop where
  | own {x : V} (h : OwnV C H x) : OtherT C H x (.ref C)
  | int (i : Int) : OtherT C H (.int i) (.type "int")
  | non : OtherT C H .non (.type "NoneType")
  | str (z : Str) : OtherT C H (.str z) (.type "str")
  | lst {a : Addr} {xs : List V} (e : H a = some (.lst xs)) : OtherT C H (.ref a) (.type "list")
  | tup {a : Addr} {xs : List V} (e : H a = some (.tup xs)) : OtherT C H (.ref a) (.type "tuple")
section
variable {X : Cx} {C g f : Addr} {op : CmpOp} {CX : CXT} {k : Nat} {sp spr : Sp} {E : XK}
theorem looks_other {M : Model} {pins : List (Addr × Obj)} {σ : L2.St} {H : Hp} {s : Shared} {y : V} {u tb : Value} (I : Inv X pins σ H s) (ry : RelV y u) (h : OtherT C H y tb) : Looks M s.heap (typeOf u) tb := by
  cases h with
  | own h =>
    obtain ⟨a, d, fs, rfl, e⟩ := h
    obtain rfl : u = Value.ref a := ry
    obtain ⟨od, J⟩ := own_inst I e
    exact J.type
  | int i => obtain ⟨t, rfl⟩ : ∃ t, u = Value.int i t := ry; exact Looks.of_pure rfl
  | non => obtain rfl : u = Value.none := ry; exact Looks.of_pure rfl
  | str z => obtain ⟨t, rfl⟩ : ∃ t, u = Value.str z t := ry; exact Looks.of_pure rfl
  | @lst a xs e =>
    obtain rfl : u = Value.ref a := ry
    obtain ⟨_, its, n, _, ho⟩ := (show ObjOk X.prog X.w H s.heap a (.lst xs) from I.hok a _ e)
    exact fun A Q E s k q => wpAny_typeOf_ref (k _ _ ho) q
  | @tup a xs e =>
    obtain rfl : u = Value.ref a := ry
    obtain ⟨_, its, _, ob, ho, hc, _⟩ := (show ObjOk X.prog X.w H s.heap a (.tup xs) from I.hok a _ e)
    exact fun A Q E s k q => wpAny_typeOf_ref (k _ _ ho) (by rw [hc]; exact q)
def NotFirstB (K : PySem.W.Frag) (C : Addr) : Prop := subIn K (.type "int") (.ref C) = some false ∧ subIn K (.type "NoneType") (.ref C) = some false ∧ subIn K (.type "str") (.ref C) = some false ∧ subIn K (.type "list") (.ref C) = some false ∧ subIn K (.type "tuple") (.ref C) = some false
theorem nf_of {K : PySem.W.Frag} {H : Hp} {y : V} {tb : Value} (n : NotFirstB K C) (h : OtherT C H y tb) : PySem.W.notFirst K C tb = true := by
  obtain ⟨h1, h2, h3, h4, h5⟩ := n
  unfold PySem.W.notFirst
  cases h with
  | own h => simp
  | int i => rw [h1]; rfl
  | non => rw [h2]; rfl
  | str z => rw [h3]; rfl
  | lst e => rw [h4]; rfl
  | tup e => rw [h5]; rfl
structure CmpOk2 (P : Program) (w : World) (K : PySem.W.Frag) (mg : Str → Option Value) (base : Heap) (C : Addr) (nm : Str) (CX : CXT) (k : Nat) (sp : Sp) : Prop where
  ex : ∃ (g : Addr) (fd : FuncData) (ps : List Str), findIn K (.ref C) nm = some (some (.ref g)) ∧ isFn K (.ref g) = true ∧ FnOk P w K mg base CX k g fd ps sp ∧ Binds K fd ps []
  nf : NotFirstB K C
  sub1 : subIn K (.ref C) (.type "int") = some false
def rOwnY (C : Addr) (sp : Sp) (E : XK) : R2 := fun x y H Q => OwnV C H x ∧ (∃ tb, OtherT C H y tb) ∧ sp [x, y] H Q E
def rIntY (C : Addr) (spr : Sp) (E : XK) : R2 := fun x y H Q => (∃ i, x = .int i) ∧ OwnV C H y ∧ spr [y, x] H Q E
theorem op_ownY (hop : ∀ a b, compareOp op a b = richCompare op a b) (B : CmpOk2 X.prog X.w X.K X.mg X.base C (cmpInfo op).2.1 CX k sp) (hr : Room k X.A) (hx : ∀ σ, PassesAt CX X σ E) : OpR X (compareOp op) (rOwnY C sp E) := by
  intro pins s σ H x y v u Q I rx ry q
  obtain ⟨⟨a, dx, fs, ex, ha⟩, ⟨tb, ho⟩, h⟩ := q
  subst ex
  obtain rfl : v = Value.ref a := rx
  obtain ⟨g, fd, ps, hs, hf, F, b⟩ := B.ex
  obtain ⟨od, J⟩ := own_inst I ha
  obtain ⟨m, hF⟩ := I.fr
  rw [hop]
  exact PySem.W.cmp_K (tb := tb) hr.units0 hF I.ok.mod.kin J (looks_other I ry ho) (nf_of B.nf ho) hs hf (run_back F hr b (hx σ) I (vv2 (x := V.ref a) rfl ry) h)
theorem op_intY (hop : ∀ a b, compareOp op a b = richCompare op a b) (D : IntDec (cmpInfo op).2.1 (cmpInfo op).2.1) (B : CmpOk2 X.prog X.w X.K X.mg X.base C (cmpInfo op).2.2 CX k spr) (hr : Room k X.A) (hx : ∀ σ, PassesAt CX X σ E) : OpR X (compareOp op) (rIntY C spr E) := by
  intro pins s σ H x y v u Q I rx ry q
  obtain ⟨⟨i, ex⟩, ⟨a, dx, fs, ey, ha⟩, h⟩ := q
  subst ex ey
  obtain rfl : u = Value.ref a := ry
  obtain ⟨t, rfl⟩ : ∃ t, v = Value.int i t := rx
  obtain ⟨g, fd, ps, hs, hf, F, b⟩ := B.ex
  obtain ⟨od, J⟩ := own_inst I ha
  rw [hop]
  exact cmp_int_own hr.units0 I.kIn J D hs hf B.sub1 (run_back F hr b (hx σ) I (vv2 (x := V.ref a) (y := V.int i) rfl ⟨t, rfl⟩) h)
/-! != -/
structure NeOk (K : PySem.W.Frag) (C : Addr) : Prop where
  ne : findIn K (.ref C) "__ne__" = some (some (.builtin "object.__ne__"))
  mo : PySem.W.mroIn K C (.type "object") = some true
def rNeY (C : Addr) (sp : Sp) (E : XK) : R2 := fun x y H Q => OwnV C H x ∧ (∃ tb, OtherT C H y tb) ∧ sp [x, y] H (fun v H' => ∃ b, v = .bl b ∧ Q (.bl (!b)) H') E
def rNeI (C : Addr) (sp : Sp) (E : XK) : R2 := fun x y H Q => (∃ i, x = .int i) ∧ OwnV C H y ∧ sp [y, x] H (fun v H' => ∃ b, v = .bl b ∧ Q (.bl (!b)) H') E
theorem try_neV {pins : List (Addr × Obj)} {σ : L2.St} {H : Hp} {s : Shared} {a dx : Addr} {fs : List (Str × V)} {y : V} {u : Value} {Q : VK} (N : NeOk X.K C) (B : CmpOk2 X.prog X.w X.K X.mg X.base C "__eq__" CX k sp) (hr : Room (k + 1) X.A) (hx : PassesAt CX X σ E)
    (I : Inv X pins σ H s) (e : H a = some (.ins C dx fs)) (ry : RelV y u) (h : sp [.ref a, y] H (fun v H' => ∃ b, v = .bl b ∧ Q (.bl (!b)) H') E) :
    wpAny (model X.prog X.w) X.A (tryCompare (.ref a) "__ne__" u) (fun r s' => ∃ v, r = some v ∧ EP X pins σ Q v s') X.xe s := by
  obtain ⟨g, fd, ps, hs, hf, F, b⟩ := B.ex
  obtain ⟨od, J⟩ := own_inst I e
  refine try_ne (by have := hr.units; omega) I.kIn J N.ne N.mo hs hf (wpAny_mono (run_in1 F hr b hx I (vv2 (x := V.ref a) rfl ry) h) (fun v s' hv => ?_) fun _ _ e => e)
  obtain ⟨z, H', I', rz, bb, ez, q⟩ := hv
  subst ez
  obtain rfl : v = Value.bool bb := rz
  exact ⟨bb, rfl, _, rfl, .bl (!bb), H', I', rfl, q⟩
theorem op_neY (N : NeOk X.K C) (B : CmpOk2 X.prog X.w X.K X.mg X.base C "__eq__" CX k sp) (hr : Room (k + 1) X.A) (hx : ∀ σ, PassesAt CX X σ E) : OpR X (compareOp .NotEq) (rNeY C sp E) := by
  intro pins s σ H x y v u Q I rx ry q
  obtain ⟨⟨a, dx, fs, ex, ha⟩, ⟨tb, ho⟩, h⟩ := q
  subst ex
  obtain rfl : v = Value.ref a := rx
  have one := try_neV N B hr (hx σ) I ha ry h
  obtain ⟨od, J⟩ := own_inst I ha
  have nf := nf_of B.nf ho
  have Tb := looks_other (M := model X.prog X.w) I ry ho
  show wpAny _ _ (richCompare .NotEq (.ref a) u) _ _ _
  unfold richCompare
  simp only [oneThing_ref]
  refine wpAny_holding (wpAny_bind (wpAny_cRoomFor hr.units0 ?_))
  refine wpAny_bind (J.type.here (wpAny_bind (Tb.here ?_)))
  rw [cmpInfo_NotEq]
  dsimp only
  split
  · rename_i q
    have e : subIn X.K tb (.ref C) = some false := by
      unfold PySem.W.notFirst at nf
      rcases Bool.or_eq_true_iff.mp nf with z | z
      · rw [beq_iff_eq.mp z] at q
        simp at q
      · exact beq_iff_eq.mp z
    refine wpAny_bind ((looks_subIn I.kIn e).here ?_)
    simp only [Bool.false_eq_true, if_false]
    refine wpAny_bind (wpAny_mono one (fun r s' z => ?_) fun _ _ e => e)
    obtain ⟨v, rfl, hq⟩ := z
    exact wpAny_pure hq
  · refine wpAny_bind (wpAny_pure ?_)
    simp only [Bool.false_eq_true, if_false]
    refine wpAny_bind (wpAny_mono one (fun r s' z => ?_) fun _ _ e => e)
    obtain ⟨v, rfl, hq⟩ := z
    exact wpAny_pure hq
def icNe : IntDec (cmpInfo .NotEq).2.1 (cmpInfo .NotEq).2.1 := ⟨_, _, F.slot_int_ne, F.entry_int_ne, F.args_int_ne_2, dec_ne⟩
theorem op_neI (N : NeOk X.K C) (B : CmpOk2 X.prog X.w X.K X.mg X.base C "__eq__" CX k sp) (hr : Room (k + 1) X.A) (hx : ∀ σ, PassesAt CX X σ E) : OpR X (compareOp .NotEq) (rNeI C sp E) := by
  intro pins s σ H x y v u Q I rx ry q
  obtain ⟨⟨i, ex⟩, ⟨a, dx, fs, ey, ha⟩, h⟩ := q
  subst ex ey
  obtain rfl : u = Value.ref a := ry
  obtain ⟨t, rfl⟩ : ∃ t, v = Value.int i t := rx
  have two := try_neV (y := V.int i) N B hr (hx σ) I ha ⟨t, rfl⟩ h
  obtain ⟨od, J⟩ := own_inst I ha
  have decl : ∀ {Q' : Option Value → Shared → Prop}, Q' none s → wpAny (model X.prog X.w) X.A (tryCompare (.int i t) (cmpInfo .NotEq).2.1 (.ref a)) Q' X.xe s := fun {Q'} q =>
    wpAny_tryCompare_declines (typeIs_int s i t) icNe.slot (call_meets icNe.slot (typeIs_int s i t) icNe.entry (icNe.args _ _) (icNe.dec i t a C dx) ⟨J.at_, rfl, q⟩)
  rw [cmpInfo_NotEq] at decl
  have Sx : Looks (model X.prog X.w) s.heap (isSubtype (.ref C) (.type "int")) false := looks_subIn I.kIn B.sub1
  have hne : (Value.type "int" != Value.ref C) = true := by
    show (!(Value.type "int" == Value.ref C)) = true
    rw [show (Value.type "int" == Value.ref C) = false from Bool.eq_false_iff.mpr fun q => by cases beq_iff_eq.mp q]
    rfl
  show wpAny _ _ (richCompare .NotEq (.int i t) (.ref a)) _ _ _
  simp only [richCompare, cmpInfo_NotEq, (typeIs_int s i t).oneThing_none]
  refine wpAny_holding (wpAny_bind (wpAny_cRoomFor hr.units0 ?_))
  refine wpAny_bind (wpAny_typeOf (typeIs_int s i t) (wpAny_bind (J.type.here ?_)))
  simp only [hne, if_true]
  refine wpAny_bind (Sx.here ?_)
  simp only [Bool.false_eq_true, if_false, Bool.not_false, if_true]
  refine wpAny_bind (decl ?_)
  refine wpAny_bind (wpAny_mono two (fun r s' z => ?_) fun _ _ e => e)
  obtain ⟨v, rfl, hq⟩ := z
  exact wpAny_pure hq
end
end Pt
namespace Pt
open PySem PySem.Spec PyProof.Rows L2
open PySem.W (findIn isFn subIn selfFirst Looks looks_findIn looks_subIn looks_clsIn clsIn InstAt special_fn fills_K)
section
variable {X : Cx} {C g p : Addr} {mc : Value} {CX : CXT} {k : Nat} {sp : Sp} {m : Str} {fd : FuncData} {ps : List Str} {o e : Expr} {es : List Expr} {ta : TE} {t : TA} {pos apos : Pos}
/-- what a static method of the class at C is -/
structure SMet (K : PySem.W.Frag) (C : Addr) (mc : Value) (m : Str) (p g : Addr) : Prop where
  ty : PySem.W.typeIn K (.ref C) = some mc
  rd : PySem.W.readsIn K C mc = true
  ga : PySem.W.specialIn K (.ref C) "__getattribute__" = some (some (.builtin "type.__getattribute__"))
  at_ : PySem.W.findCls K (.ref C) mc m = some (.get (.builtin "staticmethod.__get__") (.ref p) .none (.ref C))
  rc : ∃ rest, PySem.W.recIn K p "staticmethod" = some (.ref g :: rest)
  hd : PySem.W.handedIn (.ref g) = true
  kp : PySem.W.keepIn K (.ref g) = true
def tSMeth (C : Addr) (sp : Sp) (E : L2.St → XK) (ta : TE) (t : TA) : TE := fun σ H Q => ta σ H fun x H1 => x = .ref C ∧ t σ H1 fun vs H2 => sp vs H2 Q (E σ)
/-- C.m(e, ..) of a static method -/
theorem pe_smeth {E : L2.St → XK} {pl : Sem Bool} (he : PE X o ta) (c : SMet X.K C mc m p g) (F : FnOk X.prog X.w X.K X.mg X.base CX k g fd ps sp) (hr : Room k X.A) (hb : Binds X.K fd ps []) (hx : ∀ σ, PassesAt CX X σ (E σ)) (ha : PA X (e :: es) t)
    (hst : starEach (e :: es) X.env = (false, eval e X.env) :: starEach es X.env := by rfl) (hpl : (backTo pos (starEach es X.env)).any (·.1) = false := by rfl)
    (ht : eval (.Call (.Attribute o m apos) (e :: es) [] pos) X.env = (do
      let ov ← eval o X.env
      standAt apos.atName
      let (f, first) ← holding [ov] (getMethod ov m pl)
      callWith pos f first (backTo pos (starEach (e :: es) X.env)) (backToKw pos (keywordEach [] X.env))) := by rfl) :
    PE X (.Call (.Attribute o m apos) (e :: es) [] pos) (tSMeth C sp E ta t) := by
  refine ⟨fun pins s σ H Q I h => ?_⟩
  refine PySem.W.methodCall_KW (pl := pl) (thn (he.run pins s σ H _ I h) fun u s1 hh => ?_) ht
  obtain ⟨x, H1, I1, rx, ex, q⟩ := hh
  subst ex
  obtain rfl : u = Value.ref C := rx
  obtain ⟨mm, hF⟩ := I1.fr
  obtain ⟨rest, hrec⟩ := c.rc
  refine PySem.W.method_cls I1.kIn c.ga (PySem.W.cls_sm hF I1.ok.mod.kin c.ty c.rd c.at_ hrec c.hd ?_)
  refine PySem.W.callWith_K (first := []) (h₀ := X.base) I1.ok.mod.kin c.kp (thn (ha.run pos pins _ σ H1 _ (I1.tok _) q) fun us s2 hh2 => ?_) hst hpl
  obtain ⟨vs, H2, I2, r, q2⟩ := hh2
  exact ⟨I2.kIn, run_fnS (us := us) (vs := vs) F hr hb (hx σ) I2 r q2⟩
/-- a ** 3 of an own class without a reflected method -/
structure PowOk (P : Program) (w : World) (K : PySem.W.Frag) (mg : Str → Option Value) (base : Heap) (C : Addr) (CX : CXT) (k : Nat) (sp : Sp) : Prop where
  ex : ∃ (g : Addr) (fd : FuncData) (ps : List Str), OwnBin K C .Pow g none ∧ FnOk P w K mg base CX k g fd ps sp ∧ Binds K fd ps []
def rPowO (C : Addr) (sp : Sp) (E : XK) : R2 := fun x y H Q => OwnV C H x ∧ (∃ j, y = .int j) ∧ sp [x, y] H Q E
theorem bin1_own_intP {K : PySem.W.Frag} {prog : Program} {w : World} {A : Around} {E : Value → Shared → Prop} {s : Shared} {x : Addr} {ox : Obj} {od : Option Obj} {i : Int} {t : Tok} {Q : Value → Shared → Prop} (X : K.In s.heap) (I : InstAt s.heap x ox C od) (T : OwnBin K C .Pow g none)
    (h : wpAny (model prog w) A (call (.ref g) [.ref x, .int i t]) (PySem.W.CmpBack Q) E s) : wpAny (model prog w) A (binaryOp1 Operator.Pow.info.2 (.ref x) (.int i t)) (Gets Q) E s := by
  obtain ⟨cd, rest, hcd, hm⟩ := PySem.W.ksp_first T.first
  have hs := T.here
  have hr := T.refl
  have hp : (none : Option Value) = none ∨ ∃ f : Addr, (none : Option Value) = some (.ref f) := .inl rfl
  have hfi : fillsNumberSlot (.type "int") Operator.Pow.info.2 = pure true := F.fills_int_pow
  have hro : ∃ ro, typeLookup (.type "int") (dunderR Operator.Pow.info.2) = pure ro := ⟨_, F.slot_int_rpow.lookup⟩
  obtain ⟨ro, hro⟩ := hro
  generalize Operator.Pow.info.2 = nm' at hs hr hfi hro
  have one := PySem.W.ksp_try X I hs T.fn h
  obtain ⟨hh, g', d, tt, os⟩ := s
  have Ta : Looks (model prog w) hh (typeOf (.ref x)) (.ref C) := I.type
  have Tb : Looks (model prog w) hh (typeOf (.int i t)) (.type "int") := Looks.of_pure rfl
  have Fa : Looks (model prog w) hh (fillsNumberSlot (.ref C) nm') true := fills_K X hcd hm hs
  have Fb : Looks (model prog w) hh (fillsNumberSlot (.type "int") nm') true := Looks.of_pure hfi
  have Sb : Looks (model prog w) hh (isSubtype (.type "int") (.ref C)) false := looks_subIn X T.sub2
  have Pa : Looks (model prog w) hh (numberSlotInPython (.ref C) nm') true := PySem.W.ksp_inPy X hs hr hp
  have Pb : Looks (model prog w) hh (numberSlotInPython (.type "int") nm') false := Looks.of_pure rfl
  have Rb : Looks (model prog w) hh (typeLookup (.type "int") (dunderR nm')) ro := Looks.of_pure hro
  have hne : (Value.ref C == Value.type "int") = false := Bool.eq_false_iff.mpr fun q => by cases beq_iff_eq.mp q
  unfold binaryOp1
  refine wpAny_bind (Ta.at (wpAny_bind (Tb.at (wpAny_bind (Fa.at ?_)))))
  simp only [hne, Bool.false_eq_true, if_false]
  refine wpAny_bind (Fb.at ?_)
  simp only [Bool.and_self, if_true]
  refine wpAny_bind (Sb.at ?_)
  simp only [Bool.false_eq_true, if_false, pure_bind, Bool.not_false, Bool.and_self, if_true]
  refine wpAny_bind (Pa.at ?_)
  simp only [if_true]
  refine wpAny_bind (Pb.at ?_)
  simp only [Bool.not_false, if_true]
  refine wpAny_bind (Rb.at ?_)
  refine wpAny_bind (wpAny_mono one (fun r s' hr' => ?_) fun _ _ e => e)
  obtain ⟨v, rfl, hq⟩ := hr'
  exact wpAny_pure ⟨v, rfl, hq⟩
theorem pe_pow {a b : Expr} {ta tb : TE} {E : L2.St → XK} (B : PowOk X.prog X.w X.K X.mg X.base C CX k sp) (hr : Room k X.A) (hx : ∀ σ, PassesAt CX X σ (E σ)) (ha : PE X a ta) (hb : PE X b tb) :
    PE X (.BinOp a .Pow b pos) (fun σ H Q => ta σ H fun x H1 => tb σ H1 fun y H2 => rPowO C sp (E σ) x y H2 Q) := by
  refine ⟨fun pins s σ H Q I h => ?_⟩
  refine wpAny_BinOp (binT ha hb (R := fun x y H2 => rPowO C sp (E σ) x y H2 Q) I h fun v u s2 x y H2 I2 rx ry q => ?_)
  obtain ⟨⟨a, dx, fs, rfl, he⟩, ⟨j, rfl⟩, q⟩ := q
  obtain ⟨g, fd, ps, T, F, bb⟩ := B.ex
  obtain rfl : v = Value.ref a := rx
  obtain ⟨t, rfl⟩ : ∃ t, u = Value.int j t := ry
  obtain ⟨od, J⟩ := own_inst I2 he
  exact bin_of1 (bin1_own_intP I2.kIn J T (run_back F hr bb (hx σ) I2 (vv2 (x := V.ref a) (y := V.int j) rfl ⟨t, rfl⟩) q))
end
end Pt
namespace Pu
open PySem PySem.Spec L2
/-! ## data, without the heap -/
inductive D where
  | non | bl (b : Bool) | int (i : Int) | str (x : Str) | val (v : V) | law
  | lst (ds : List D) | tup (ds : List D) | ftp (ds : List D) | ins (c : Nat) (ds : List D) | dic (ks : List Key) (ds : List D) | exn (c : Nat) (ds : List D)
/-- an exception: its class's number, its fields -/
structure Exn where
  c : Nat
  ds : List D
/-- classes by number, the names of their fields, the law's state (its list, the list of its cells), what no datum points at -/
structure Wd where
  CT : Nat → Addr
  lay : Nat → List Str
  L : Option (Addr × Addr)
  S : Addr → Prop
def Wd.at (W : Wd) (S : Addr → Prop) : Wd := { W with S := S }
/-- the law's state at s, its cells at l -/
def LSt (H : Hp) (s l : Addr) : Prop := ∃ (i n : Int) (cs : List Int), H s = some (.lst [.ref l, .int i, .int n]) ∧ H l = some (.lst (cs.map V.int)) ∧ 0 < cs.length ∧ cs.length ≤ 64
def nL (L : Option (Addr × Addr)) (a : Addr) : Prop := ∀ s l, L = some (s, l) → a ≠ s ∧ a ≠ l
mutual
def Rep (W : Wd) (H : Hp) : D → V → Prop
  | .non, v => v = .non
  | .bl b, v => v = .bl b
  | .int i, v => v = .int i
  | .str x, v => v = .str x
  | .val u, v => v = u
  | .law, v => ∃ s l, W.L = some (s, l) ∧ v = .ref s
  | .lst ds, v => ∃ a vs, v = .ref a ∧ ¬ W.S a ∧ H a = some (.lst vs) ∧ Reps W H ds vs
  | .tup ds, v => ∃ a vs, v = .ref a ∧ ¬ W.S a ∧ Rd H a (.tup vs) ∧ Reps W H ds vs
  | .ftp ds, v => ∃ a vs o, v = .ref a ∧ ¬ W.S a ∧ o.dict = none ∧ H a = some (.frz o (.tup vs)) ∧ Reps W H ds vs
  | .ins c ds, v => ∃ a dx vs, v = .ref a ∧ ¬ W.S a ∧ H a = some (.ins (W.CT c) dx ((W.lay c).zip vs)) ∧ vs.length = (W.lay c).length ∧ Reps W H ds vs
  | .dic ks ds, v => ∃ a vs, v = .ref a ∧ ¬ W.S a ∧ H a = some (.dK (ks.zip vs)) ∧ vs.length = ks.length ∧ Reps W H ds vs
  | .exn c ds, v => ∃ a dd vs, v = .ref a ∧ ¬ W.S a ∧ H a = some (exo a (W.CT c) dd) ∧ vs.length = (W.lay c).length ∧ ((dd = none ∧ vs = []) ∨ ∃ dx fs, dd = some dx ∧ ¬ W.S dx ∧ H dx = some (exd dx fs) ∧ (∀ (i : Nat) (f : Str) (x : V), (W.lay c)[i]? = some f → vs[i]? = some x → fs.lookup f = some x) ∧ ∀ f, f ∉ W.lay c → fs.lookup f = none) ∧ Reps W H ds vs
def Reps (W : Wd) (H : Hp) : List D → List V → Prop
  | [], vs => vs = []
  | d :: ds, vs => ∃ v r, vs = v :: r ∧ Rep W H d v ∧ Reps W H ds r
end
structure WOk (W : Wd) (H : Hp) : Prop where
  law : ∀ s l, W.L = some (s, l) → LSt H s l ∧ W.S s ∧ W.S l
  dom : ∀ a, W.S a → ∃ o, H a = some o
/-- all but the law's state is kept -/
structure Fut (W : Wd) (H H' : Hp) : Prop where
  keep : ∀ a o, H a = some o → nL W.L a → H' a = some o
  law : ∀ s l, W.L = some (s, l) → LSt H' s l
def FutL (L : Option (Addr × Addr)) (H H' : Hp) : Prop := ∀ a o, H a = some o → nL L a → H' a = some o
section
variable {W : Wd} {H H1 H2 : Hp}
theorem Fut.refl (w : WOk W H) : Fut W H H := ⟨fun _ _ e _ => e, fun s l e => (w.law s l e).1⟩
theorem Fut.trans (a : Fut W H H1) (b : Fut W H1 H2) : Fut W H H2 := ⟨fun c o e n => b.keep c o (a.keep c o e n) n, b.law⟩
theorem Fut.same (w : WOk W H) (s : Same H H1) : Fut W H H1 := ⟨fun c o e _ => s c o e, fun s' l e => by
  obtain ⟨⟨i, n, cs, e1, e2, r⟩, _⟩ := w.law s' l e
  exact ⟨i, n, cs, s _ _ e1, s _ _ e2, r⟩⟩
theorem Fut.at {S : Addr → Prop} (f : Fut W H H1) : Fut (W.at S) H H1 := ⟨f.keep, f.law⟩
theorem Fut.of_at {S : Addr → Prop} (f : Fut (W.at S) H H1) : Fut W H H1 := ⟨f.keep, f.law⟩
theorem WOk.fut (w : WOk W H) (f : Fut W H H1) : WOk W H1 := by
  refine ⟨fun s l e => ⟨f.law s l e, (w.law s l e).2⟩, fun a h => ?_⟩
  obtain ⟨o, e⟩ := w.dom a h
  by_cases q : nL W.L a
  · exact ⟨o, f.keep a o e q⟩
  · have : ∃ s l, W.L = some (s, l) ∧ (a = s ∨ a = l) := by
      apply Classical.byContradiction
      intro z
      refine q fun s l e' => ⟨fun z' => z ⟨s, l, e', .inl z'⟩, fun z' => z ⟨s, l, e', .inr z'⟩⟩
    obtain ⟨s, l, e', c⟩ := this
    obtain ⟨i, n, cs, e1, e2, _⟩ := f.law s l e'
    rcases c with rfl | rfl
    · exact ⟨_, e1⟩
    · exact ⟨_, e2⟩
theorem WOk.nl (w : WOk W H) {a : Addr} (h : ¬ W.S a) : nL W.L a := fun s l e => ⟨fun z => h (z ▸ (w.law s l e).2.1), fun z => h (z ▸ (w.law s l e).2.2)⟩
theorem WOk.new (w : WOk W H) {a : Addr} (h : H a = none) : ¬ W.S a := fun z => by
  obtain ⟨o, e⟩ := w.dom a z
  rw [h] at e
  cases e
mutual
/-- what is kept: a change of the heap, of what is known not to be pointed at -/
theorem Rep.mono {S : Addr → Prop} (k : ∀ a o, ¬ W.S a → H a = some o → H1 a = some o ∧ ¬ S a) : ∀ (d : D) (v : V), Rep W H d v → Rep (W.at S) H1 d v
  | .non, v, h => by simpa only [Rep] using h
  | .bl b, v, h => by simpa only [Rep] using h
  | .int i, v, h => by simpa only [Rep] using h
  | .str x, v, h => by simpa only [Rep] using h
  | .val u, v, h => by simpa only [Rep] using h
  | .law, v, h => by
    simp only [Rep] at h ⊢
    exact h
  | .lst ds, v, h => by
    simp only [Rep] at h ⊢
    obtain ⟨a, vs, e, n, q, r⟩ := h
    exact ⟨a, vs, e, (k a _ n q).2, (k a _ n q).1, Reps.mono k ds vs r⟩
  | .tup ds, v, h => by
    simp only [Rep] at h ⊢
    obtain ⟨a, vs, e, n, q, r⟩ := h
    refine ⟨a, vs, e, ?_, q.imp (fun q => (k a _ n q).1) (fun ⟨o, q⟩ => ⟨o, (k a _ n q).1⟩), Reps.mono k ds vs r⟩
    rcases q with q | ⟨o, q⟩
    · exact (k a _ n q).2
    · exact (k a _ n q).2
  | .ftp ds, v, h => by
    simp only [Rep] at h ⊢
    obtain ⟨a, vs, o, e, n, dn, q, r⟩ := h
    exact ⟨a, vs, o, e, (k a _ n q).2, dn, (k a _ n q).1, Reps.mono k ds vs r⟩
  | .ins c ds, v, h => by
    simp only [Rep] at h ⊢
    obtain ⟨a, dx, vs, e, n, q, l, r⟩ := h
    exact ⟨a, dx, vs, e, (k a _ n q).2, (k a _ n q).1, l, Reps.mono k ds vs r⟩
  | .dic ks ds, v, h => by
    simp only [Rep] at h ⊢
    obtain ⟨a, vs, e, n, q, l, r⟩ := h
    exact ⟨a, vs, e, (k a _ n q).2, (k a _ n q).1, l, Reps.mono k ds vs r⟩
  | .exn c ds, v, h => by
    simp only [Rep] at h ⊢
    obtain ⟨a, dd, vs, e, n, q, l, x, r⟩ := h
    refine ⟨a, dd, vs, e, (k a _ n q).2, (k a _ n q).1, l, x.imp id ?_, Reps.mono k ds vs r⟩
    rintro ⟨dx, fs, e1, n1, q1, y⟩
    exact ⟨dx, fs, e1, (k dx _ n1 q1).2, (k dx _ n1 q1).1, y⟩
theorem Reps.mono {S : Addr → Prop} (k : ∀ a o, ¬ W.S a → H a = some o → H1 a = some o ∧ ¬ S a) : ∀ (ds : List D) (vs : List V), Reps W H ds vs → Reps (W.at S) H1 ds vs
  | [], vs, h => by simpa only [Reps] using h
  | d :: ds, vs, h => by
    simp only [Reps] at h ⊢
    obtain ⟨v, r, e, h1, h2⟩ := h
    exact ⟨v, r, e, Rep.mono k d v h1, Reps.mono k ds r h2⟩
end
theorem Rep.thaw {ds : List D} {v : V} (h : Rep W H (.ftp ds) v) : Rep W H (.tup ds) v := by
  simp only [Rep] at h ⊢
  obtain ⟨a, vs, o, e, n, dn, q, r⟩ := h
  exact ⟨a, vs, e, n, .inr ⟨o, q⟩, r⟩
theorem Rep.fut {d : D} {v : V} (h : Rep W H d v) (w : WOk W H) (f : Fut W H H1) : Rep W H1 d v := Rep.mono (S := W.S) (fun a o n e => ⟨f.keep a o e (w.nl n), n⟩) d v h
theorem Reps.fut {d : List D} {v : List V} (h : Reps W H d v) (w : WOk W H) (f : Fut W H H1) : Reps W H1 d v := Reps.mono (S := W.S) (fun a o n e => ⟨f.keep a o e (w.nl n), n⟩) d v h
theorem Rep.sub {S : Addr → Prop} {d : D} {v : V} (h : Rep W H d v) (s : ∀ a, S a → W.S a) : Rep (W.at S) H d v := Rep.mono (fun a o n e => ⟨e, fun z => n (s a z)⟩) d v h
theorem Reps.sub {S : Addr → Prop} {d : List D} {v : List V} (h : Reps W H d v) (s : ∀ a, S a → W.S a) : Reps (W.at S) H d v := Reps.mono (fun a o n e => ⟨e, fun z => n (s a z)⟩) d v h
/-- a fresh place may be forbidden from now on -/
theorem Rep.ban {q : Addr} {d : D} {v : V} (h : Rep W H d v) (n : H q = none) : Rep (W.at fun a => W.S a ∨ a = q) H d v := Rep.mono (fun a o m e => ⟨e, fun z => z.elim m fun z => by rw [z, n] at e; cases e⟩) d v h
theorem Reps.ban {q : Addr} {d : List D} {v : List V} (h : Reps W H d v) (n : H q = none) : Reps (W.at fun a => W.S a ∨ a = q) H d v := Reps.mono (fun a o m e => ⟨e, fun z => z.elim m fun z => by rw [z, n] at e; cases e⟩) d v h
theorem Reps.len : ∀ {ds : List D} {vs : List V}, Reps W H ds vs → vs.length = ds.length
  | [], vs, h => by simp only [Reps] at h; rw [h] <;> rfl
  | d :: ds, vs, h => by
    simp only [Reps] at h
    obtain ⟨v, r, rfl, _, h2⟩ := h
    rw [List.length_cons, List.length_cons, Reps.len h2]
theorem Reps.get : ∀ {ds : List D} {vs : List V} {i : Nat} {d : D}, Reps W H ds vs → ds[i]? = some d → ∃ v, vs[i]? = some v ∧ Rep W H d v
  | [], vs, i, d, h, e => by cases i <;> cases e
  | d :: ds, vs, 0, d', h, e => by
    simp only [Reps] at h
    obtain ⟨v, r, rfl, h1, h2⟩ := h
    cases e
    exact ⟨v, rfl, h1⟩
  | d :: ds, vs, i + 1, d', h, e => by
    simp only [Reps] at h
    obtain ⟨v, r, rfl, h1, h2⟩ := h
    have e' : ds[i]? = some d' := by simpa using e
    obtain ⟨u, q1, q2⟩ := Reps.get (i := i) h2 e'
    exact ⟨u, by simpa using q1, q2⟩
theorem Reps.get' : ∀ {ds : List D} {vs : List V} {i : Nat} {v : V}, Reps W H ds vs → vs[i]? = some v → ∃ d, ds[i]? = some d ∧ Rep W H d v
  | [], vs, i, v, h, e => by simp only [Reps] at h; subst h; cases i <;> cases e
  | d :: ds, vs, 0, v', h, e => by
    simp only [Reps] at h
    obtain ⟨v, r, rfl, h1, h2⟩ := h
    cases e
    exact ⟨d, rfl, h1⟩
  | d :: ds, vs, i + 1, v', h, e => by
    simp only [Reps] at h
    obtain ⟨v, r, rfl, h1, h2⟩ := h
    have e' : r[i]? = some v' := by simpa using e
    obtain ⟨u, q1, q2⟩ := Reps.get' (i := i) h2 e'
    exact ⟨u, by simpa using q1, q2⟩
theorem Reps.nil : Reps W H [] [] := by simp only [Reps]
theorem Reps.cons {d : D} {v : V} {ds : List D} {vs : List V} (h : Rep W H d v) (r : Reps W H ds vs) : Reps W H (d :: ds) (v :: vs) := by
  simp only [Reps]
  exact ⟨v, vs, rfl, h, r⟩
theorem Reps.app : ∀ {ds es : List D} {vs us : List V}, Reps W H ds vs → Reps W H es us → Reps W H (ds ++ es) (vs ++ us)
  | [], es, vs, us, h, r => by simp only [Reps] at h; subst h; exact r
  | d :: ds, es, vs, us, h, r => by
    simp only [Reps] at h
    obtain ⟨v, t, rfl, h1, h2⟩ := h
    exact Reps.cons h1 (Reps.app h2 r)
theorem Reps.take (n : Nat) : ∀ {ds : List D} {vs : List V}, Reps W H ds vs → Reps W H (ds.take n) (vs.take n) := by
  induction n with
  | zero => intro ds vs h; simp only [List.take_zero]; exact Reps.nil
  | succ n ih =>
    intro ds vs h
    cases ds with
    | nil => simp only [Reps] at h; subst h; simp only [List.take_nil]; exact Reps.nil
    | cons d ds =>
      simp only [Reps] at h
      obtain ⟨v, t, rfl, h1, h2⟩ := h
      exact Reps.cons h1 (ih h2)
theorem Reps.drop (n : Nat) : ∀ {ds : List D} {vs : List V}, Reps W H ds vs → Reps W H (ds.drop n) (vs.drop n) := by
  induction n with
  | zero => intro ds vs h; exact h
  | succ n ih =>
    intro ds vs h
    cases ds with
    | nil => simp only [Reps] at h; subst h; exact Reps.nil
    | cons d ds =>
      simp only [Reps] at h
      obtain ⟨v, t, rfl, h1, h2⟩ := h
      exact ih h2
theorem Reps.set {d : D} {v : V} (r : Rep W H d v) : ∀ (i : Nat) {ds : List D} {vs : List V}, Reps W H ds vs → Reps W H (ds.set i d) (vs.set i v)
  | i, [], vs, h => by simp only [Reps] at h; subst h; exact Reps.nil
  | 0, d' :: ds, vs, h => by
    simp only [Reps] at h
    obtain ⟨v', t, rfl, h1, h2⟩ := h
    exact Reps.cons r h2
  | i + 1, d' :: ds, vs, h => by
    simp only [Reps] at h
    obtain ⟨v', t, rfl, h1, h2⟩ := h
    exact Reps.cons h1 (Reps.set r i h2)
end
def ExOk (W : Wd) (H : Hp) (ex : Exn) (cls : Value) (dd : Option Addr) : Prop :=
  cls = .ref (W.CT ex.c) ∧ ex.ds.length = (W.lay ex.c).length ∧ ((dd = none ∧ ex.ds = []) ∨ ∃ d fs, dd = some d ∧ ¬ W.S d ∧ H d = some (.xd fs) ∧ ∀ (i : Nat) (f : Str) (x : D), (W.lay ex.c)[i]? = some f → ex.ds[i]? = some x → ∃ v, fs.lookup f = some v ∧ Rep W H x v)
theorem ExOk.mono {W : Wd} {H H1 : Hp} {S : Addr → Prop} {ex : Exn} {cls : Value} {dd : Option Addr} (k : ∀ a o, ¬ W.S a → H a = some o → H1 a = some o ∧ ¬ S a) (h : ExOk W H ex cls dd) : ExOk (W.at S) H1 ex cls dd := by
  obtain ⟨h1, h2, h3⟩ := h
  refine ⟨h1, h2, h3.imp id ?_⟩
  rintro ⟨d, fs, e, n, q, r⟩
  refine ⟨d, fs, e, (k d _ n q).2, (k d _ n q).1, fun i g x e1 e2 => ?_⟩
  obtain ⟨v, l, r'⟩ := r i g x e1 e2
  exact ⟨v, l, Rep.mono k x v r'⟩
theorem ExOk.fut {W : Wd} {H H' : Hp} {ex : Exn} {cls : Value} {dd : Option Addr} (h : ExOk W H ex cls dd) (w : WOk W H) (f : Fut W H H') : ExOk W H' ex cls dd :=
  ExOk.mono (S := W.S) (fun a o n e => ⟨f.keep a o e (w.nl n), n⟩) h
end Pu
namespace Pu
open PySem PySem.Spec L2
/-! ## slots, the state of a body -/
inductive Sl where
  | no | d (d : D) | own (ds : List D) | obj (c : Nat) (ds : List D) | exc (c : Nat) (ds : List D)
def Sl.isOwn : Sl → Bool
  | .own _ => true
  | .obj _ _ => true
  | _ => false
/-- the entry: the world there, the heap there -/
structure Bs where
  W : Wd
  H0 : Hp
  cur : Option (Addr × Value × Option Addr) := none
  me : Option Addr := none
def SlOk (B : Bs) (S : Addr → Prop) (H : Hp) : Sl → Option V → Prop
  | .no, _ => True
  | .d d, o => ∃ v, o = some v ∧ Rep (B.W.at S) H d v
  | .own ds, o => ∃ q vs, o = some (.ref q) ∧ S q ∧ ¬ B.W.S q ∧ nL B.W.L q ∧ H q = some (.lst vs) ∧ Reps (B.W.at S) H ds vs
  | .obj c ds, o => ∃ q dx vs, o = some (.ref q) ∧ B.me = some q ∧ S q ∧ ¬ B.W.S q ∧ nL B.W.L q ∧ H q = some (.ins (B.W.CT c) dx ((B.W.lay c).zip vs)) ∧ vs.length ≤ (B.W.lay c).length ∧ Reps (B.W.at S) H ds vs
  | .exc c ds, o => ∃ a cls dd, B.cur = some (a, cls, dd) ∧ o = some (.ref a) ∧ ExOk (B.W.at S) H ⟨c, ds⟩ cls dd
structure Ok (B : Bs) (S : Addr → Prop) (σ : L2.St) (H : Hp) (G : List Sl) : Prop where
  wok : WOk (B.W.at S) H
  ext : ∀ a o, B.H0 a = some o → nL B.W.L a → H a = some o
  sub : ∀ a, B.W.S a → S a
  new : ∀ a, S a → B.W.S a ∨ B.H0 a = none
  len : σ.length = G.length
  lw : ∀ s l, B.W.L = some (s, l) → B.W.S s ∧ B.W.S l
  sl : ∀ (i : Nat) (g : Sl) (o : Option V), G[i]? = some g → σ[i]? = some o → SlOk B S H g o
  inj : ∀ (i j : Nat) (g g' : Sl) (q : Addr), G[i]? = some g → G[j]? = some g' → g.isOwn = true → g'.isOwn = true → σ[i]? = some (some (.ref q)) → σ[j]? = some (some (.ref q)) → i = j
section
variable {B : Bs} {S S' : Addr → Prop} {σ : L2.St} {H H' : Hp} {G : List Sl}
theorem SlOk.mono {g : Sl} {o : Option V} (k : ∀ a u, ¬ S a → H a = some u → H' a = some u ∧ ¬ S' a) (s : ∀ a, S a → S' a) (ow : ∀ q u, g.isOwn = true → o = some (.ref q) → ¬ B.W.S q → nL B.W.L q → H q = some u → H' q = some u) (h : SlOk B S H g o) : SlOk B S' H' g o := by
  cases g with
  | no => trivial
  | d d =>
    obtain ⟨v, e, r⟩ := h
    exact ⟨v, e, Rep.mono (W := B.W.at S) (S := S') k d v r⟩
  | own ds =>
    obtain ⟨q, vs, e, h1, h2, h3, h4, h5⟩ := h
    exact ⟨q, vs, e, s _ h1, h2, h3, ow q _ rfl e h2 h3 h4, Reps.mono (W := B.W.at S) (S := S') k ds vs h5⟩
  | obj c ds =>
    obtain ⟨q, dx, vs, e, me, h1, h2, h3, h4, h6, h5⟩ := h
    exact ⟨q, dx, vs, e, me, s _ h1, h2, h3, ow q _ rfl e h2 h3 h4, h6, Reps.mono (W := B.W.at S) (S := S') k ds vs h5⟩
  | exc c ds =>
    obtain ⟨a, cls, dd, h1, h2, h3⟩ := h
    exact ⟨a, cls, dd, h1, h2, ExOk.mono (W := B.W.at S) (S := S') k h3⟩
/-- an expression was evaluated -/
theorem Ok.fut (O : Ok B S σ H G) (f : Fut (B.W.at S) H H') : Ok B S σ H' G where
  wok := O.wok.fut f
  ext := fun a o e n => f.keep a o (O.ext a o e n) n
  sub := O.sub
  new := O.new
  len := O.len
  lw := O.lw
  sl := fun i g o e1 e2 => (O.sl i g o e1 e2).mono (fun a u n e => ⟨f.keep a u e (O.wok.nl n), n⟩) (fun _ z => z) fun q u _ _ _ n e => f.keep q u e n
  inj := O.inj
theorem Ok.get (O : Ok B S σ H G) {i : Nat} {g : Sl} (e : G[i]? = some g) : ∃ o, σ[i]? = some o ∧ SlOk B S H g o := by
  have h : i < σ.length := by rw [O.len]; exact (List.getElem?_eq_some_iff.mp e).1
  exact ⟨σ[i], List.getElem?_eq_getElem h, O.sl i g _ e (List.getElem?_eq_getElem h)⟩
/-- a name is stored -/
theorem Ok.put (O : Ok B S σ H G) (i : Nat) {g : Sl} {o : Option V} (hg : g.isOwn = false) (h : SlOk B S H g o) : Ok B S (σ.set i o) H (G.set i g) where
  wok := O.wok
  ext := O.ext
  sub := O.sub
  new := O.new
  len := by rw [List.length_set, List.length_set]; exact O.len
  lw := O.lw
  sl := fun j g' o' e1 e2 => by
    by_cases hj : i = j
    · subst hj
      rw [List.getElem?_set] at e1 e2
      rw [if_pos rfl] at e1 e2
      split at e1
      · split at e2
        · cases e1
          cases e2
          exact h
        · cases e2
      · cases e1
    · rw [List.getElem?_set_ne hj] at e1 e2
      exact O.sl j g' o' e1 e2
  inj := fun j k g1 g2 q e1 e2 h1 h2 e3 e4 => by
    have nj : ∀ {m : Nat} {g' : Sl}, (G.set i g)[m]? = some g' → g'.isOwn = true → i ≠ m := fun {m g'} e z y => by
      subst y
      rw [List.getElem?_set] at e
      rw [if_pos rfl] at e
      split at e
      · cases e
        rw [hg] at z
        cases z
      · cases e
    rw [List.getElem?_set_ne (nj e1 h1)] at e3
    rw [List.getElem?_set_ne (nj e2 h2)] at e4
    have m1 := nj e1 h1
    have m2 := nj e2 h2
    rw [List.getElem?_set_ne m1] at e1
    rw [List.getElem?_set_ne m2] at e2
    exact O.inj j k g1 g2 q e1 e2 h1 h2 e3 e4
theorem Ok.set (O : Ok B S σ H G) (i : Nat) {d : D} {v : V} (r : Rep (B.W.at S) H d v) : Ok B S (σ.set i (some v)) H (G.set i (.d d)) := O.put i rfl ⟨v, rfl, r⟩
theorem Ok.drop (O : Ok B S σ H G) (i : Nat) (o : Option V) : Ok B S (σ.set i o) H (G.set i .no) := O.put i (o := o) rfl trivial
/-- a slot forgotten (the value stays) -/
theorem set_self {α : Type} {l : List α} {i : Nat} {x : α} (e : l[i]? = some x) : l.set i x = l := by
  obtain ⟨h, e'⟩ := List.getElem?_eq_some_iff.mp e
  rw [← e']
  exact List.set_getElem_self h
theorem Ok.forget (O : Ok B S σ H G) (i : Nat) : Ok B S σ H (G.set i .no) := by
  by_cases h : i < σ.length
  · have e := List.getElem?_eq_getElem h
    have := O.drop i σ[i]
    rwa [set_self e] at this
  · have : G.set i .no = G := List.set_eq_of_length_le (by rw [← O.len]; omega)
    rw [this]
    exact O
/-- an own list (object) is from now on a datum -/
theorem Ok.thaw (O : Ok B S σ H G) {i : Nat} {ds : List D} (e : G[i]? = some (.own ds)) : ∃ q, S q ∧ Ok B (fun a => S a ∧ a ≠ q) σ H (G.set i (.d (.lst ds))) := by
  obtain ⟨o, eo, q, vs, rfl, h1, h2, h3, h4, h5⟩ := O.get e
  refine ⟨q, h1, ?_⟩
  have hi : i < G.length := (List.getElem?_eq_some_iff.mp e).1
  refine ⟨⟨fun s l z => ?_, fun a h => O.wok.dom a h.1⟩, O.ext, fun a h => ⟨O.sub a h, fun z => h2 (z ▸ h)⟩, fun a h => O.new a h.1, by rw [List.length_set]; exact O.len, O.lw, fun j g o e1 e2 => ?_, fun j k g1 g2 p e1 e2 n1 n2 e3 e4 => ?_⟩
  · obtain ⟨z1, z2, z3⟩ := O.wok.law s l z
    obtain ⟨n1, n2⟩ := h3 s l z
    exact ⟨z1, ⟨z2, Ne.symm n1⟩, ⟨z3, Ne.symm n2⟩⟩
  · by_cases hj : i = j
    · subst hj
      rw [List.getElem?_set_self hi] at e1
      cases e1
      rw [eo] at e2
      cases e2
      refine ⟨_, rfl, ?_⟩
      simp only [Rep]
      exact ⟨q, vs, rfl, fun z => z.2 rfl, h4, Reps.mono (W := B.W.at S) (fun a u n z => ⟨z, fun w => n w.1⟩) ds vs h5⟩
    · rw [List.getElem?_set_ne hj] at e1
      have base := O.sl j g o e1 e2
      cases g with
      | no => trivial
      | d d =>
        obtain ⟨v, e', r⟩ := base
        exact ⟨v, e', Rep.mono (W := B.W.at S) (fun a u n z => ⟨z, fun w => n w.1⟩) d v r⟩
      | own ds' =>
        obtain ⟨q', vs', e', k1, k2, k3, k4, k5⟩ := base
        subst e'
        refine ⟨q', vs', rfl, ⟨k1, fun z => hj ?_⟩, k2, k3, k4, Reps.mono (W := B.W.at S) (fun a u n z => ⟨z, fun w => n w.1⟩) ds' vs' k5⟩
        subst z
        exact O.inj i j _ _ _ e e1 rfl rfl eo e2
      | obj c ds' =>
        obtain ⟨q', dx', vs', e', me, k1, k2, k3, k4, k6, k5⟩ := base
        subst e'
        refine ⟨q', dx', vs', rfl, me, ⟨k1, fun z => hj ?_⟩, k2, k3, k4, k6, Reps.mono (W := B.W.at S) (fun a u n z => ⟨z, fun w => n w.1⟩) ds' vs' k5⟩
        subst z
        exact O.inj i j _ _ _ e e1 rfl rfl eo e2
      | exc c ds' =>
        obtain ⟨a', cls, dd, k1, k2, k3⟩ := base
        exact ⟨a', cls, dd, k1, k2, ExOk.mono (W := B.W.at S) (fun a u n z => ⟨z, fun w => n w.1⟩) k3⟩
  · have nj : ∀ {m : Nat} {g' : Sl}, (G.set i (.d (.lst ds)))[m]? = some g' → g'.isOwn = true → i ≠ m := fun {m g'} e z y => by
      subst y
      rw [List.getElem?_set_self hi] at e
      cases e
      cases z
    have m1 := nj e1 n1
    have m2 := nj e2 n2
    rw [List.getElem?_set_ne m1] at e1
    rw [List.getElem?_set_ne m2] at e2
    exact O.inj j k g1 g2 p e1 e2 n1 n2 e3 e4
/-- a new own thing stands at q, and its name is stored -/
theorem Ok.keep (O : Ok B S σ H G) (i : Nat) {q : Addr} {g : Sl} (hq : H q = none) (sm : ∀ a o, H a = some o → nL B.W.L a → H' a = some o) (lw : ∀ s l, B.W.L = some (s, l) → LSt H' s l) (hd : ∃ o, H' q = some o)
    (hn : nL B.W.L q) (h : SlOk B (fun a => S a ∨ a = q) H' g (some (.ref q))) : Ok B (fun a => S a ∨ a = q) (σ.set i (some (.ref q))) H' (G.set i g) := by
  have k : ∀ a u, ¬ S a → H a = some u → H' a = some u ∧ ¬ (S a ∨ a = q) := fun a u n e => ⟨sm a u e (O.wok.nl n), fun z => z.elim n fun z => by rw [z, hq] at e; cases e⟩
  have F : Fut (B.W.at S) H H' := ⟨sm, lw⟩
  have neq : ∀ {a : Addr}, S a → a ≠ q := fun {a} h z => by
    obtain ⟨o, e⟩ := O.wok.dom a h
    rw [z, hq] at e
    cases e
  refine ⟨⟨fun s l e => ⟨lw s l e, .inl (O.wok.law s l e).2.1, .inl (O.wok.law s l e).2.2⟩, fun a h => ?_⟩, fun a o e n => sm a o (O.ext a o e n) n, fun a h => .inl (O.sub a h), fun a h => ?_, by rw [List.length_set, List.length_set]; exact O.len, O.lw, fun j g' o e1 e2 => ?_, fun j k' g1 g2 p e1 e2 n1 n2 e3 e4 => ?_⟩
  · rcases h with h | h
    · exact (O.wok.fut F).dom a h
    · rw [h]
      exact hd
  · rcases h with h | h
    · exact O.new a h
    · refine .inr ?_
      cases e : B.H0 a with
      | none => rfl
      | some o =>
        have := O.ext a o e (by rw [h]; exact hn)
        rw [h, hq] at this
        cases this
  · by_cases hj : i = j
    · subst hj
      rw [List.getElem?_set] at e1 e2
      rw [if_pos rfl] at e1 e2
      split at e1
      · split at e2
        · cases e1
          cases e2
          exact h
        · cases e2
      · cases e1
    · rw [List.getElem?_set_ne hj] at e1 e2
      exact (O.sl j g' o e1 e2).mono k (fun _ z => .inl z) fun q' u _ _ _ n e => sm q' u e n
  · have old : ∀ {m : Nat} {g' : Sl}, i ≠ m → (G.set i g)[m]? = some g' → g'.isOwn = true → (σ.set i (some (.ref q)))[m]? = some (some (.ref p)) → p ≠ q ∧ G[m]? = some g' ∧ σ[m]? = some (some (.ref p)) := fun {m g'} nm f1 f2 f3 => by
      rw [List.getElem?_set_ne nm] at f1 f3
      refine ⟨?_, f1, f3⟩
      have base := O.sl m g' _ f1 f3
      cases g' with
      | no => cases f2
      | d d => cases f2
      | own ds' =>
        obtain ⟨q', vs', e', k1, _⟩ := base
        cases e'
        exact neq k1
      | obj c ds' =>
        obtain ⟨q', dx', vs', e', _, k1, _⟩ := base
        cases e'
        exact neq k1
      | exc c ds' => cases f2
    have isq : ∀ {m : Nat} {g' : Sl}, i = m → (G.set i g)[m]? = some g' → (σ.set i (some (.ref q)))[m]? = some (some (.ref p)) → p = q := fun {m g'} nm f1 f3 => by
      subst nm
      rw [List.getElem?_set] at f3
      rw [if_pos rfl] at f3
      split at f3
      · cases f3
        rfl
      · cases f3
    by_cases h1 : i = j
    · by_cases h2 : i = k'
      · exact h1.symm.trans h2
      · exact absurd (isq h1 e1 e3) (old h2 e2 n2 e4).1
    · by_cases h2 : i = k'
      · exact absurd (isq h2 e2 e4) (old h1 e1 n1 e3).1
      · obtain ⟨_, a1, a2⟩ := old h1 e1 n1 e3
        obtain ⟨_, b1, b2⟩ := old h2 e2 n2 e4
        exact O.inj j k' g1 g2 p a1 b1 n1 n2 a2 b2
/-- the own thing at slot i has changed -/
theorem Ok.turn (O : Ok B S σ H G) {i : Nat} {q : Addr} {g g' : Sl} {u : HO} (e : G[i]? = some g) (ow : g.isOwn = true) (es : σ[i]? = some (some (.ref q))) (h : SlOk B S (upd H q u) g' (some (.ref q))) (ow' : g'.isOwn = true) : Ok B S σ (upd H q u) (G.set i g') := by
  have hi : i < G.length := (List.getElem?_eq_some_iff.mp e).1
  have base := O.sl i g _ e es
  obtain ⟨sq, n0, nl⟩ : S q ∧ ¬ B.W.S q ∧ nL B.W.L q := by
    cases g with
    | no => cases ow
    | d d => cases ow
    | own ds' =>
      obtain ⟨q', vs', e', k1, k2, k3, _⟩ := base
      cases e'
      exact ⟨k1, k2, k3⟩
    | obj c ds' =>
      obtain ⟨q', dx', vs', e', _, k1, k2, k3, _⟩ := base
      cases e'
      exact ⟨k1, k2, k3⟩
    | exc c ds' => cases ow
  have k : ∀ a w, ¬ S a → H a = some w → upd H q u a = some w ∧ ¬ S a := fun a w n z => ⟨by rw [upd_ne (show a ≠ q from fun y => n (by rw [y]; exact sq))]; exact z, n⟩
  refine ⟨⟨fun s l z => ?_, fun a h => ?_⟩, fun a o z n => ?_, O.sub, O.new, by rw [List.length_set]; exact O.len, O.lw, fun j g1 o e1 e2 => ?_, fun j k' g1 g2 p e1 e2 n1 n2 e3 e4 => ?_⟩
  · obtain ⟨⟨i', n', cs, z1, z2, z3⟩, z4⟩ := O.wok.law s l z
    obtain ⟨m1, m2⟩ := nl s l z
    exact ⟨⟨i', n', cs, by rw [upd_ne (Ne.symm m1)]; exact z1, by rw [upd_ne (Ne.symm m2)]; exact z2, z3⟩, z4⟩
  · by_cases ha : a = q
    · rw [ha, upd_same]
      exact ⟨_, rfl⟩
    · rw [upd_ne ha]
      exact O.wok.dom a h
  · have : a ≠ q := fun y => by
      rcases O.new q sq with w | w
      · exact n0 w
      · rw [y, w] at z
        cases z
    rw [upd_ne this]
    exact O.ext a o z n
  · by_cases hj : i = j
    · subst hj
      rw [List.getElem?_set_self hi] at e1
      cases e1
      rw [es] at e2
      cases e2
      exact h
    · rw [List.getElem?_set_ne hj] at e1
      refine (O.sl j g1 o e1 e2).mono k (fun _ z => z) fun q' w o1 o2 _ n z => ?_
      subst o2
      have : q' ≠ q := fun y => by
        subst y
        exact hj (O.inj i j _ _ _ e e1 ow o1 es e2)
      rw [upd_ne this]
      exact z
  · have back : ∀ {m : Nat} {g1 : Sl}, (G.set i g')[m]? = some g1 → g1.isOwn = true → ∃ g2, G[m]? = some g2 ∧ g2.isOwn = true := fun {m g1} f1 f2 => by
      by_cases hm : i = m
      · subst hm
        exact ⟨g, e, ow⟩
      · rw [List.getElem?_set_ne hm] at f1
        exact ⟨g1, f1, f2⟩
    obtain ⟨x1, y1, z1⟩ := back e1 n1
    obtain ⟨x2, y2, z2⟩ := back e2 n2
    exact O.inj j k' x1 x2 p y1 y2 z1 z2 e3 e4
end
end Pu
namespace Pu
open PySem PySem.Spec PyProof.Rows L2
/-! ## judgements -/
abbrev XP := List Sl → (D → Prop) → (Exn → Prop) → Prop
abbrev XTp := List Sl → (Bool → Prop) → (Exn → Prop) → Prop
abbrev XAp := List Sl → (List D → Prop) → (Exn → Prop) → Prop
def KE (W : Wd) (H : Hp) (Q : D → Prop) (k : VK) : Prop := ∀ v H' d, Fut W H H' → Rep W H' d v → Q d → k v H'
def KX (W : Wd) (σ : L2.St) (H : Hp) (E : Exn → Prop) (Wx : WX) : Prop := ∀ cls dd H' ex, Fut W H H' → ExOk W H' ex cls dd → E ex → Wx cls dd σ H'
def KT (W : Wd) (H : Hp) (Q : Bool → Prop) (k : Bool → Hp → Prop) : Prop := ∀ b H', Fut W H H' → Q b → k b H'
def KA (W : Wd) (H : Hp) (Q : List D → Prop) (k : List V → Hp → Prop) : Prop := ∀ vs H' ds, Fut W H H' → Reps W H' ds vs → Q ds → k vs H'
def EvE (B : Bs) (Wx : WX) (t : TE) (p : XP) : Prop := ∀ S σ H G Q E k, Ok B S σ H G → p G Q E → KE (B.W.at S) H Q k → KX (B.W.at S) σ H E Wx → t σ H k
def EvT (B : Bs) (Wx : WX) (t : TT) (p : XTp) : Prop := ∀ S σ H G Q E k, Ok B S σ H G → p G Q E → KT (B.W.at S) H Q k → KX (B.W.at S) σ H E Wx → t σ H k
def EvA (B : Bs) (Wx : WX) (t : TA) (p : XAp) : Prop := ∀ S σ H G Q E k, Ok B S σ H G → p G Q E → KA (B.W.at S) H Q k → KX (B.W.at S) σ H E Wx → t σ H k
structure XE (B : Bs) (X : Cx) (Wx : WX) (e : Expr) (p : XP) : Prop where
  ex : ∃ t, PE X e t ∧ EvE B Wx t p
structure XT (B : Bs) (X : Cx) (Wx : WX) (e : Expr) (p : XTp) : Prop where
  ex : ∃ t, PT X e t ∧ EvT B Wx t p
structure XW (B : Bs) (X : Cx) (Wx : WX) (e : Expr) (p : XTp) : Prop where
  ex : ∃ t, PW X e t ∧ EvT B Wx t p
structure XA (B : Bs) (X : Cx) (Wx : WX) (es : List Expr) (p : XAp) : Prop where
  ex : ∃ t, PA X es t ∧ EvA B Wx t p
section
variable {W : Wd} {H H1 : Hp} {σ : L2.St} {Wx : WX} {E : Exn → Prop}
theorem KX.fut (h : KX W σ H E Wx) (f : Fut W H H1) : KX W σ H1 E Wx := fun cls dd H' ex g => h cls dd H' ex (f.trans g)
theorem KE.fut {Q : D → Prop} {k : VK} (h : KE W H Q k) (f : Fut W H H1) : KE W H1 Q k := fun v H' d g => h v H' d (f.trans g)
theorem KT.fut {Q : Bool → Prop} {k : Bool → Hp → Prop} (h : KT W H Q k) (f : Fut W H H1) : KT W H1 Q k := fun v H' g => h v H' (f.trans g)
theorem KA.fut {Q : List D → Prop} {k : List V → Hp → Prop} (h : KA W H Q k) (f : Fut W H H1) : KA W H1 Q k := fun v H' d g => h v H' d (f.trans g)
end
/-! ## readings -/
def rVar (i : Nat) : XP := fun G Q _ => match G[i]? with
  | some (.d d) => Q d
  | _ => False
def rC (d : D) : XP := fun _ Q _ => Q d
abbrev DOp := D → D → (D → Prop) → (Exn → Prop) → Prop
abbrev DUn := D → (D → Prop) → (Exn → Prop) → Prop
abbrev DFn := List D → (D → Prop) → (Exn → Prop) → Prop
def rBin (o : DOp) (a b : XP) : XP := fun G Q E => a G (fun x => b G (fun y => o x y Q E) E) E
def rUn (o : DUn) (a : XP) : XP := fun G Q E => a G (fun x => o x Q E) E
def rFn (o : DFn) (as : XAp) : XP := fun G Q E => as G (fun xs => o xs Q E) E
def onB (d : D) (f : Bool → Prop) : Prop := match d with
  | .bl b => f b
  | _ => False
def rAnd (a b : XP) : XP := fun G Q E => a G (fun x => onB x fun k => if k = true then b G Q E else Q (.bl false)) E
def rOr (a b : XP) : XP := fun G Q E => a G (fun x => onB x fun k => if k = true then Q (.bl true) else b G Q E) E
def rNot (a : XP) : XP := fun G Q E => a G (fun x => onB x fun k => Q (.bl (!k))) E
def rIfE (t : XTp) (a b : XP) : XP := fun G Q E => t G (fun k => if k = true then a G Q E else b G Q E) E
def rTest (a : XP) : XTp := fun G Q E => a G (fun x => onB x Q) E
def rTAnd (a b : XTp) : XTp := fun G Q E => a G (fun k => if k = true then b G Q E else Q false) E
def rTOr (a b : XTp) : XTp := fun G Q E => a G (fun k => if k = true then Q true else b G Q E) E
def rTNot (a : XTp) : XTp := fun G Q E => a G (fun k => Q (!k)) E
def rChain (o o' : DOp) (a b c : XP) : XP := fun G Q E => a G (fun x => b G (fun y => o x y (fun z => onB z fun k => if k = true then c G (fun w => o' y w Q E) E else Q (.bl false)) E) E) E
def rNil : XAp := fun _ Q _ => Q []
def rCons (a : XP) (b : XAp) : XAp := fun G Q E => a G (fun x => b G (fun xs => Q (x :: xs)) E) E
/-! ## rules -/
def OpS (X : Cx) (f : Value → Value → Sem Value) (r : L2.St → R2) : Prop :=
  ∀ (pins : List (Addr × Obj)) (s : Shared) (σ : L2.St) (H : Hp) (x y : V) (v u : Value) (Q : VK), Inv X pins σ H s → RelV x v → RelV y u → r σ x y H Q →
    wpAny (model X.prog X.w) X.A (f v u) (EP X pins σ Q) X.xe s
structure XO (B : Bs) (X : Cx) (Wx : WX) (f : Value → Value → Sem Value) (o : DOp) : Prop where
  ex : ∃ r, OpS X f r ∧ ∀ S σ H x y dx dy Q E k, WOk (B.W.at S) H → Rep (B.W.at S) H dx x → Rep (B.W.at S) H dy y → o dx dy Q E → KE (B.W.at S) H Q k → KX (B.W.at S) σ H E Wx → r σ x y H k
def UnS (X : Cx) (f : Value → Sem Value) (r : L2.St → V → Hp → VK → Prop) : Prop :=
  ∀ (pins : List (Addr × Obj)) (s : Shared) (σ : L2.St) (H : Hp) (x : V) (v : Value) (Q : VK), Inv X pins σ H s → RelV x v → r σ x H Q →
    wpAny (model X.prog X.w) X.A (f v) (EP X pins σ Q) X.xe s
structure XU (B : Bs) (X : Cx) (Wx : WX) (f : Value → Sem Value) (o : DUn) : Prop where
  ex : ∃ r, UnS X f r ∧ ∀ S σ H x dx Q E k, WOk (B.W.at S) H → Rep (B.W.at S) H dx x → o dx Q E → KE (B.W.at S) H Q k → KX (B.W.at S) σ H E Wx → r σ x H k
section
variable {B : Bs} {X : Cx} {Wx : WX} {a b c e : Expr} {es : List Expr} {pa pb pc : XP} {pos : Pos}
theorem evE_c {d : D} {v : V} (h : ∀ S H, Rep (B.W.at S) H d v) : EvE B Wx (tC v) (rC d) := fun S σ H G Q E k O q ke _ => ke v H d (Fut.refl O.wok) (h S H) q
theorem xe_var (i : Nat) {x : Str} (hN : X.N[i]? = some x := by rfl) (hv : Vis X.env.scope x := by first | exact Or.inl rfl | exact Or.inr (Or.inl rfl) | exact Or.inr (Or.inr rfl)) (hd : (x == ("__debug__" : Str)) = false := by decide)
    (hcd : (x == ("__classdict__" : Str)) = false := by decide) : XE B X Wx (.Name x pos) (rVar i) := by
  refine ⟨tVar i, pe_var hN hv hd hcd, fun S σ H G Q E k O q ke _ => ?_⟩
  unfold rVar at q
  cases hg : G[i]? with
  | none => rw [hg] at q; exact q.elim
  | some g =>
    rw [hg] at q
    cases g with
    | d d =>
      obtain ⟨o, eo, v, rfl, r⟩ := O.get hg
      exact ⟨v, eo, ke v H d (Fut.refl O.wok) r q⟩
    | no => exact False.elim q
    | own ds => exact False.elim q
    | obj c ds => exact False.elim q
    | exc c ds => exact False.elim q
theorem xe_int {i j} : XE B X Wx (.Constant (.int i) j pos) (rC (.int i)) := ⟨_, pe_int, evE_c fun _ _ => by simp only [Rep]⟩
theorem xe_bl {k j} : XE B X Wx (.Constant (.bool k) j pos) (rC (.bl k)) := ⟨_, pe_bl, evE_c fun _ _ => by simp only [Rep]⟩
theorem xe_non {j} : XE B X Wx (.Constant .none j pos) (rC .non) := ⟨_, pe_non, evE_c fun _ _ => by simp only [Rep]⟩
theorem xe_str {x j} : XE B X Wx (.Constant (.str x) j pos) (rC (.str x)) := ⟨_, pe_str, evE_c fun _ _ => by simp only [Rep]⟩
theorem xe_gint {x : Str} {i : Int} {t : Tok} (hm : X.mg x = some (.int i t)) (hg : Gl X x := by rfl) (hd : (x == ("__debug__" : Str)) = false := by decide) : XE B X Wx (.Name x pos) (rC (.int i)) := ⟨_, pe_glob (v := .int i) hg hm ⟨t, rfl⟩ hd, evE_c fun _ _ => by simp only [Rep]⟩
theorem xe_gstr {x : Str} {i : Str} {t : Tok} (hm : X.mg x = some (.str i t)) (hg : Gl X x := by rfl) (hd : (x == ("__debug__" : Str)) = false := by decide) : XE B X Wx (.Name x pos) (rC (.str i)) := ⟨_, pe_glob (v := .str i) hg hm ⟨t, rfl⟩ hd, evE_c fun _ _ => by simp only [Rep]⟩
theorem xe_gref {x : Str} {C : Addr} (hm : X.mg x = some (.ref C)) (hg : Gl X x := by rfl) (hd : (x == ("__debug__" : Str)) = false := by decide) : XE B X Wx (.Name x pos) (rC (.val (.ref C))) := ⟨_, pe_glob (v := .ref C) hg hm rfl hd, evE_c fun _ _ => by simp only [Rep]⟩
theorem xe_bty {x : Str} {T : String} (hm : X.mg x = none) (hv : bootBuiltins x = some (.type T)) (hg : Gl X x := by rfl) (hn : x ≠ "__name__" := by decide) (hd : (x == ("__debug__" : Str)) = false := by decide) : XE B X Wx (.Name x pos) (rC (.val (.ty T))) := ⟨_, pe_bltn (v := .ty T) hg hm hv rfl hn hd, evE_c fun _ _ => by simp only [Rep]⟩
/-! two in a row -/
theorem ev2 {ta tb : TE} (ha : EvE B Wx ta pa) (hb : EvE B Wx tb pb) {S : Addr → Prop} {σ : L2.St} {H : Hp} {G : List Sl} {E : Exn → Prop} {R : D → D → Prop} {K : V → V → Hp → Prop} (O : Ok B S σ H G) (h : pa G (fun x => pb G (fun y => R x y) E) E) (kx : KX (B.W.at S) σ H E Wx)
    (hk : ∀ x y H' dx dy, Fut (B.W.at S) H H' → Ok B S σ H' G → Rep (B.W.at S) H' dx x → Rep (B.W.at S) H' dy y → R dx dy → K x y H') : ta σ H fun x H1 => tb σ H1 fun y H2 => K x y H2 := by
  refine ha S σ H G _ E _ O h (fun x H1 dx f1 r1 q1 => ?_) kx
  refine hb S σ H1 G _ E _ (O.fut f1) q1 (fun y H2 dy f2 r2 q2 => ?_) (kx.fut f1)
  have w1 := O.wok.fut f1
  exact hk x y H2 dx dy (f1.trans f2) (O.fut (f1.trans f2)) (r1.fut w1 f2) r2 q2
def tOpS (r : L2.St → R2) (ta tb : TE) : TE := fun σ H Q => ta σ H fun x H1 => tb σ H1 fun y H2 => r σ x y H2 Q
theorem evOp {f : Value → Value → Sem Value} {o : DOp} {r : L2.St → R2} {ta tb : TE} (hr : ∀ S σ H x y dx dy Q E k, WOk (B.W.at S) H → Rep (B.W.at S) H dx x → Rep (B.W.at S) H dy y → o dx dy Q E → KE (B.W.at S) H Q k → KX (B.W.at S) σ H E Wx → r σ x y H k) (ha : EvE B Wx ta pa) (hb : EvE B Wx tb pb) : EvE B Wx (tOpS r ta tb) (rBin o pa pb) := fun S σ H G Q E k O q ke kx =>
  ev2 ha hb O q kx fun x y H' dx dy f O' r1 r2 h => hr S σ H' x y dx dy Q E k O'.wok r1 r2 h (ke.fut f) (kx.fut f)
theorem xe_bin {op : Operator} {o : DOp} (ho : XO B X Wx (binaryOp op) o) (ha : XE B X Wx a pa) (hb : XE B X Wx b pb) : XE B X Wx (.BinOp a op b pos) (rBin o pa pb) := by
  obtain ⟨r, h1, h2⟩ := ho.ex
  obtain ⟨ta, ha, ea⟩ := ha.ex
  obtain ⟨tb, hb, eb⟩ := hb.ex
  refine ⟨tOpS r ta tb, ⟨fun pins s σ H Q I h => ?_⟩, evOp (f := binaryOp op) h2 ea eb⟩
  exact wpAny_BinOp (binT ha hb I h fun v u s2 x y H2 I2 rx ry q => h1 pins s2 σ H2 x y v u Q I2 rx ry q)
theorem xe_cmp {op : CmpOp} {o : DOp} (ho : XO B X Wx (compareOp op) o) (ha : XE B X Wx a pa) (hb : XE B X Wx b pb) (hm : behindInMarks op b = false := by first | exact nomark _ | with_unfolding_all rfl) : XE B X Wx (.Compare a [op] [b] pos) (rBin o pa pb) := by
  obtain ⟨r, h1, h2⟩ := ho.ex
  obtain ⟨ta, ha, ea⟩ := ha.ex
  obtain ⟨tb, hb, eb⟩ := hb.ex
  refine ⟨tOpS r ta tb, ⟨fun pins s σ H Q I h => ?_⟩, evOp (f := compareOp op) h2 ea eb⟩
  exact wpAny_Compare1 (binT ha hb I h fun v u s2 x y H2 I2 rx ry q => h1 pins s2 σ H2 x y v u Q I2 rx ry q) hm
theorem onB_elim {d : D} {f : Bool → Prop} (h : onB d f) : ∃ k, d = .bl k ∧ f k := by
  cases d <;> first | exact ⟨_, rfl, h⟩ | exact False.elim h
theorem xt_cmp {op : CmpOp} {o : DOp} (ho : XO B X Wx (compareOp op) o) (ha : XE B X Wx a pa) (hb : XE B X Wx b pb) (hm : behindInMarks op b = false := by first | exact nomark _ | with_unfolding_all rfl) : XT B X Wx (.Compare a [op] [b] pos) (rTest (rBin o pa pb)) := by
  obtain ⟨r, h1, h2⟩ := ho.ex
  obtain ⟨ta, ha, ea⟩ := ha.ex
  obtain ⟨tb, hb, eb⟩ := hb.ex
  refine ⟨tTest (tOpS r ta tb), ⟨fun pins s σ H Q I h => ?_⟩, fun S σ H G Q E k O q kt kx => ?_⟩
  · refine wpAny_isTrue_Compare1 (thn (ha.run pins s σ H _ I h) fun v s1 ⟨x, H1, I1, r1, q1⟩ => thn (hb.run pins s1 σ H1 _ I1 q1) fun u s2 ⟨y, H2, I2, r2, q2⟩ =>
      thn (h1 pins s2 σ H2 x y v u _ I2 r1 r2 q2) fun c s3 ⟨z, H3, I3, r3, k, e, q3⟩ => ?_) hm
    subst e
    cases r3
    exact wpAny_truthy_bool ⟨H3, I3, q3⟩
  · refine evOp (f := compareOp op) h2 ea eb S σ H G _ E _ O q (fun v H' d f r q' => ?_) kx
    obtain ⟨k', rfl, q''⟩ := onB_elim q'
    simp only [Rep] at r
    exact ⟨k', r, kt k' H' f q''⟩
theorem xt_val (ha : XE B X Wx a pa) (he : ∀ whole, isTrue a X.env whole = (do let v ← whole; standAt a.pos; holding [v] (truthy v)) := by intro _; rfl) : XT B X Wx a (rTest pa) := by
  obtain ⟨ta, ha, ea⟩ := ha.ex
  refine ⟨tB ta, pt_val ha he, fun S σ H G Q E k O q kt kx => ?_⟩
  refine ea S σ H G _ E _ O q (fun v H' d f r q' => ?_) kx
  obtain ⟨k', rfl, q''⟩ := onB_elim q'
  simp only [Rep] at r
  exact ⟨k', r, kt k' H' f q''⟩
theorem xt_chain {op op' : CmpOp} {o o' : DOp} (ho : XO B X Wx (compareOp op) o) (ho' : XO B X Wx (compareOp op') o') (ha : XE B X Wx a pa) (hb : XE B X Wx b pb) (hc : XE B X Wx c pc) (hm : lastMarks [op, op'] [b, c] = false := by with_unfolding_all rfl) :
    XT B X Wx (.Compare a [op, op'] [b, c] pos) (rTest (rChain o o' pa pb pc)) ∧ XE B X Wx (.Compare a [op, op'] [b, c] pos) (rChain o o' pa pb pc) := by
  obtain ⟨r, h1, h2⟩ := ho.ex
  obtain ⟨r', h1', h2'⟩ := ho'.ex
  obtain ⟨ta, ha, ea⟩ := ha.ex
  obtain ⟨tb, hb, eb⟩ := hb.ex
  obtain ⟨tc, hc, ec⟩ := hc.ex
  let T : TE := fun σ H Q => ta σ H fun x H1 => tb σ H1 fun y H2 => r σ x y H2 fun z H3 => ∃ k, z = .bl k ∧ (if k = true then tc σ H3 fun w' H4 => r' σ y w' H4 Q else Q (.bl false) H3)
  have ev : EvE B Wx T (rChain o o' pa pb pc) := fun S σ H G Q E k O q ke kx => by
    refine ev2 ea eb O q kx fun x y H' dx dy f O' r1 r2 h => ?_
    refine h2 S σ H' x y dx dy _ E _ O'.wok r1 r2 h (fun z H3 dz f3 r3 q3 => ?_) (kx.fut f)
    obtain ⟨k', rfl, q9⟩ := onB_elim q3
    simp only [Rep] at r3
    refine ⟨k', r3, ?_⟩
    have w' := O'.wok
    cases k' with
    | false =>
      rw [if_neg Bool.false_ne_true] at q9 ⊢
      exact ke _ _ _ (f.trans f3) (by simp only [Rep]) q9
    | true =>
      rw [if_pos rfl] at q9 ⊢
      refine ec S σ H3 G _ E _ (O'.fut f3) q9 (fun w4 H4 dw f4 r4 q4 => ?_) ((kx.fut f).fut f3)
      exact h2' S σ H4 y w4 dy dw Q E k ((w'.fut f3).fut f4) ((r2.fut w' f3).fut (w'.fut f3) f4) r4 q4 (ke.fut ((f.trans f3).trans f4)) (kx.fut ((f.trans f3).trans f4))
  refine ⟨⟨tTest T, ⟨fun pins s σ H Q I h => ?_⟩, fun S σ H G Q E k O q kt kx => ?_⟩, ⟨T, ⟨fun pins s σ H Q I h => ?_⟩, ev⟩⟩
  · refine isTrue_chain (thn (ha.run pins s σ H _ I h) fun v s1 ⟨x, H1, I1, r1, q1⟩ => test_link (thn (hb.run pins s1 σ H1 _ I1 q1) fun u s2 ⟨y, H2, I2, r2, q2⟩ =>
      thn (h1 pins s2 σ H2 x y v u _ I2 r1 r2 q2) fun d s3 ⟨z, H3, I3, r3, k, e, q3⟩ => ?_)) hm
    subst e
    cases r3
    refine wpAny_truthy_bool ?_
    cases k with
    | false =>
      obtain ⟨k', e', q'⟩ := q3
      cases e'
      exact ite_ff ⟨H3, I3, q'⟩
    | true =>
      refine ite_tt (test_last (thn (hc.run pins s3 σ H3 _ I3 q3) fun w' s4 ⟨z', H4, I4, r4, q4⟩ => thn (h1' pins s4 σ H4 y z' u w' _ I4 r2 r4 q4) fun c s5 ⟨z5, H5, I5, r5, k, e, q5⟩ => ?_))
      subst e
      cases r5
      exact wpAny_truthy_bool ⟨H5, I5, q5⟩
  · refine ev S σ H G _ E _ O q (fun v H' d f r q' => ?_) kx
    obtain ⟨k', rfl, q''⟩ := onB_elim q'
    simp only [Rep] at r
    exact ⟨k', r, kt k' H' f q''⟩
  · refine Compare_chain (thn (ha.run pins s σ H _ I h) fun v s1 ⟨x, H1, I1, r1, q1⟩ => chain_link (thn (hb.run pins s1 σ H1 _ I1 q1) fun u s2 ⟨y, H2, I2, r2, q2⟩ =>
      thn (h1 pins s2 σ H2 x y v u _ I2 r1 r2 q2) fun d s3 ⟨z, H3, I3, r3, k, e, q3⟩ => ?_)) hm
    subst e
    cases r3
    refine wpAny_truthy_bool ?_
    cases k with
    | false => exact ite_ff ⟨.bl false, H3, I3, rfl, q3⟩
    | true => exact ite_tt (chain_last (thn (hc.run pins s3 σ H3 _ I3 q3) fun w' s4 ⟨z', H4, I4, r4, q4⟩ => h1' pins s4 σ H4 y z' u w' Q I4 r2 r4 q4))
/-! and, or, not -/
variable {qa qb : XTp} {rest : List Expr}
theorem xt_not (ha : XT B X Wx a qa) : XT B X Wx (.UnaryOp .Not a pos) (rTNot qa) := by
  obtain ⟨ta, ha, ea⟩ := ha.ex
  exact ⟨tNot ta, pt_not ha, fun S σ H G Q E k O q kt kx => ea S σ H G _ E _ O q (fun b H' f h => kt (!b) H' f h) kx⟩
theorem xw_and (ha : XT B X Wx a qa) (hb : XW B X Wx (.BoolOp .And (b :: rest) pos) qb) : XW B X Wx (.BoolOp .And (a :: b :: rest) pos) (rTAnd qa qb) := by
  obtain ⟨ta, ha, ea⟩ := ha.ex
  obtain ⟨tb, hb, eb⟩ := hb.ex
  refine ⟨tAnd ta tb, pw_and ha hb, fun S σ H G Q E k O q kt kx => ea S σ H G _ E _ O q (fun b H' f h => ?_) kx⟩
  cases b with
  | true =>
    rw [if_pos rfl] at h ⊢
    exact eb S σ H' G Q E k (O.fut f) h (kt.fut f) (kx.fut f)
  | false =>
    rw [if_neg Bool.false_ne_true] at h ⊢
    exact kt false H' f h
theorem xw_or (ha : XT B X Wx a qa) (hb : XW B X Wx (.BoolOp .Or (b :: rest) pos) qb) : XW B X Wx (.BoolOp .Or (a :: b :: rest) pos) (rTOr qa qb) := by
  obtain ⟨ta, ha, ea⟩ := ha.ex
  obtain ⟨tb, hb, eb⟩ := hb.ex
  refine ⟨tOr ta tb, pw_or ha hb, fun S σ H G Q E k O q kt kx => ea S σ H G _ E _ O q (fun b H' f h => ?_) kx⟩
  cases b with
  | true =>
    rw [if_pos rfl] at h ⊢
    exact kt true H' f h
  | false =>
    rw [if_neg Bool.false_ne_true] at h ⊢
    exact eb S σ H' G Q E k (O.fut f) h (kt.fut f) (kx.fut f)
theorem xw_and1 (ha : XT B X Wx a qa) : XW B X Wx (.BoolOp .And [a] pos) qa := by
  obtain ⟨ta, ha, ea⟩ := ha.ex
  exact ⟨ta, pw_and1 ha, ea⟩
theorem xw_or1 (ha : XT B X Wx a qa) : XW B X Wx (.BoolOp .Or [a] pos) qa := by
  obtain ⟨ta, ha, ea⟩ := ha.ex
  exact ⟨ta, pw_or1 ha, ea⟩
theorem XW.xt (ha : XW B X Wx a qa) : XT B X Wx a qa := by
  obtain ⟨ta, ha, ea⟩ := ha.ex
  exact ⟨ta, ha.pt, ea⟩
theorem xe_one {op} (ha : XE B X Wx a pa) : XE B X Wx (.BoolOp op [a] pos) pa := by
  obtain ⟨ta, ha, ea⟩ := ha.ex
  exact ⟨ta, pe_one ha, ea⟩
theorem xe_and (ha : XE B X Wx a pa) (hb : XE B X Wx (.BoolOp .And (b :: rest) pos) pb) : XE B X Wx (.BoolOp .And (a :: b :: rest) pos) (rAnd pa pb) := by
  obtain ⟨ta, ha, ea⟩ := ha.ex
  obtain ⟨tb, hb, eb⟩ := hb.ex
  refine ⟨tAndV ta tb, pe_and ha hb, fun S σ H G Q E k O q ke kx => ea S σ H G _ E _ O q (fun v H' d f r h => ?_) kx⟩
  obtain ⟨k', rfl, h9⟩ := onB_elim h
  simp only [Rep] at r
  refine ⟨k', r, ?_⟩
  cases k' with
  | true =>
    rw [if_pos rfl] at h9 ⊢
    exact eb S σ H' G Q E k (O.fut f) h9 (ke.fut f) (kx.fut f)
  | false =>
    rw [if_neg Bool.false_ne_true] at h9 ⊢
    exact ke _ H' _ f (by simp only [Rep]) h9
theorem xe_or (ha : XE B X Wx a pa) (hb : XE B X Wx (.BoolOp .Or (b :: rest) pos) pb) : XE B X Wx (.BoolOp .Or (a :: b :: rest) pos) (rOr pa pb) := by
  obtain ⟨ta, ha, ea⟩ := ha.ex
  obtain ⟨tb, hb, eb⟩ := hb.ex
  refine ⟨tOrV ta tb, pe_or ha hb, fun S σ H G Q E k O q ke kx => ea S σ H G _ E _ O q (fun v H' d f r h => ?_) kx⟩
  obtain ⟨k', rfl, h9⟩ := onB_elim h
  simp only [Rep] at r
  refine ⟨k', r, ?_⟩
  cases k' with
  | true =>
    rw [if_pos rfl] at h9 ⊢
    exact ke _ H' _ f (by simp only [Rep]) h9
  | false =>
    rw [if_neg Bool.false_ne_true] at h9 ⊢
    exact eb S σ H' G Q E k (O.fut f) h9 (ke.fut f) (kx.fut f)
theorem xe_not (ha : XE B X Wx a pa) : XE B X Wx (.UnaryOp .Not a pos) (rNot pa) := by
  obtain ⟨ta, ha, ea⟩ := ha.ex
  refine ⟨tNotV ta, pe_not ha, fun S σ H G Q E k O q ke kx => ea S σ H G _ E _ O q (fun v H' d f r h => ?_) kx⟩
  obtain ⟨k', rfl, h⟩ := onB_elim h
  simp only [Rep] at r
  exact ⟨k', r, ke _ H' _ f (by simp only [Rep]) h⟩
theorem xe_ifE (hc : XT B X Wx c qa) (ha : XE B X Wx a pa) (hb : XE B X Wx b pb) : XE B X Wx (.IfExp c a b pos) (rIfE qa pa pb) := by
  obtain ⟨tc, hc, ec⟩ := hc.ex
  obtain ⟨ta, ha, ea⟩ := ha.ex
  obtain ⟨tb, hb, eb⟩ := hb.ex
  refine ⟨tIf tc ta tb, pe_ifExp hc ha hb, fun S σ H G Q E k O q ke kx => ec S σ H G _ E _ O q (fun b H' f h => ?_) kx⟩
  cases b with
  | true =>
    rw [if_pos rfl] at h ⊢
    exact ea S σ H' G Q E k (O.fut f) h (ke.fut f) (kx.fut f)
  | false =>
    rw [if_neg Bool.false_ne_true] at h ⊢
    exact eb S σ H' G Q E k (O.fut f) h (ke.fut f) (kx.fut f)
theorem xe_un {op : UnaryOp} {o : DUn} (ho : XU B X Wx (unaryOp op) o) (ha : XE B X Wx a pa) : XE B X Wx (.UnaryOp op a pos) (rUn o pa) := by
  obtain ⟨r, h1, h2⟩ := ho.ex
  obtain ⟨ta, ha, ea⟩ := ha.ex
  refine ⟨fun σ H Q => ta σ H fun x H1 => r σ x H1 Q, ⟨fun pins s σ H Q I h => ?_⟩, fun S σ H G Q E k O q ke kx => ea S σ H G _ E _ O q (fun v H' d f r' h => ?_) kx⟩
  · exact UnaryOp_ (thn (ha.run pins s σ H _ I h) fun v s1 ⟨x, H1, I1, r1, q1⟩ => h1 pins s1 σ H1 x v Q I1 r1 q1)
  · exact h2 S σ H' v d Q E k (O.wok.fut f) r' h (ke.fut f) (kx.fut f)
/-! argument lists, displays -/
variable {pas : XAp}
theorem xa_nil : XA B X Wx [] rNil := ⟨tNil, pa_nil, fun S σ H G Q E k O q ka _ => ka [] H [] (Fut.refl O.wok) Reps.nil q⟩
theorem xa_cons (ha : XE B X Wx e pa) (hr : XA B X Wx es pas) (hs : starEach (e :: es) X.env = (false, eval e X.env) :: starEach es X.env := by rfl) : XA B X Wx (e :: es) (rCons pa pas) := by
  obtain ⟨ta, ha, ea⟩ := ha.ex
  obtain ⟨tr, hr, er⟩ := hr.ex
  refine ⟨tCons ta tr, pa_cons ha hr hs, fun S σ H G Q E k O q ka kx => ea S σ H G _ E _ O q (fun v H1 d f r h => ?_) kx⟩
  refine er S σ H1 G _ E _ (O.fut f) h (fun vs H2 ds f2 r2 h2 => ?_) (kx.fut f)
  exact ka (v :: vs) H2 (d :: ds) (f.trans f2) (Reps.cons (r.fut (O.wok.fut f) f2) r2) h2
def rTup (as : XAp) : XP := fun G Q E => as G (fun xs => xs.length ≤ 1000 ∧ Q (.tup xs)) E
def rLst (as : XAp) : XP := fun G Q E => as G (fun xs => xs.length ≤ 1000 ∧ Q (.lst xs)) E
theorem fut_new {W : Wd} {H : Hp} {p : Addr} {o : HO} (w : WOk W H) (h : H p = none) : Fut W H (upd H p o) := Fut.same w fun a u e => by rw [upd_ne (ne_of_none e h)]; exact e
theorem xe_tup {x1} (h : XA B X Wx es pas) : XE B X Wx (.Tuple es x1 pos) (rTup pas) := by
  obtain ⟨t, h, ev⟩ := h.ex
  refine ⟨tTup t, pe_tup h, fun S σ H G Q E k O q ke kx => ev S σ H G _ E _ O q (fun vs H1 ds f r h => ?_) kx⟩
  have w1 := O.wok.fut f
  refine ⟨Nat.le_of_lt (small1000 (by rw [r.len]; exact h.1)), fun p hp => ?_⟩
  have f2 := fut_new (o := .tup vs) w1 hp
  refine ke _ _ _ (f.trans f2) ?_ h.2
  simp only [Rep]
  exact ⟨p, vs, rfl, w1.new hp, .inl upd_same, r.fut w1 f2⟩
theorem xe_lst (h : XA B X Wx es pas) : XE B X Wx (.List es pos) (rLst pas) := by
  obtain ⟨t, h, ev⟩ := h.ex
  refine ⟨tLst t, pe_lst h, fun S σ H G Q E k O q ke kx => ev S σ H G _ E _ O q (fun vs H1 ds f r h => ?_) kx⟩
  have w1 := O.wok.fut f
  refine ⟨Nat.le_of_lt (small1000 (by rw [r.len]; exact h.1)), fun p hp => ?_⟩
  have f2 := fut_new (o := .lst vs) w1 hp
  refine ke _ _ _ (f.trans f2) ?_ h.2
  simp only [Rep]
  exact ⟨p, vs, rfl, w1.new hp, upd_same, r.fut w1 f2⟩
end
end Pu
namespace Pu
open PySem PySem.Spec PyProof.Rows L2
/-! ## == of plain data -/
/-- none, bools, ints, texts, lists and tuples of these, at most so deep -/
def pl : Nat → D → Bool
  | _, .non => true
  | _, .bl _ => true
  | _, .int _ => true
  | _, .str _ => true
  | n + 1, .lst ds => ds.all (pl n)
  | n + 1, .tup ds => ds.all (pl n)
  | _, _ => false
mutual
def deq : D → D → Bool
  | .non, .non => true
  | .bl a, .bl b => a == b
  | .bl a, .int j => (if a then 1 else 0) == j
  | .int i, .bl b => i == (if b then 1 else 0)
  | .int i, .int j => i == j
  | .str x, .str y => x == y
  | .lst xs, .lst ys => deqs xs ys
  | .tup xs, .tup ys => deqs xs ys
  | _, _ => false
def deqs : List D → List D → Bool
  | [], [] => true
  | x :: xs, y :: ys => deq x y && deqs xs ys
  | _, _ => false
end
abbrev pairD (xs ys : List D) (j : Nat) : Bool := deq (xs.getD j .non) (ys.getD j .non)
theorem deqs_eq : ∀ xs ys : List D, ((List.range (min xs.length ys.length)).all (pairD xs ys) && xs.length == ys.length) = deqs xs ys
  | [], [] => by simp [deqs]
  | [], _ :: _ => by simp [deqs]
  | _ :: _, [] => by simp [deqs]
  | x :: xs, y :: ys => by
    have ih := deqs_eq xs ys
    have e1 : min (x :: xs).length (y :: ys).length = min xs.length ys.length + 1 := by simp only [List.length_cons]; omega
    have e2 : ((x :: xs).length == (y :: ys).length) = (xs.length == ys.length) := by simp
    have e3 : (List.range (min xs.length ys.length + 1)).all (pairD (x :: xs) (y :: ys)) = (deq x y && (List.range (min xs.length ys.length)).all (pairD xs ys)) := by
      rw [List.range_succ_eq_map, List.all_cons, List.all_map]
      first | rfl | simp [pairD, Function.comp_def]
    rw [e1, e2, e3, deqs, ← ih, Bool.and_assoc]
theorem deqs_same {xs ys : List D} (h : xs.length = ys.length) : (List.range xs.length).all (pairD xs ys) = deqs xs ys := by
  have := deqs_eq xs ys
  rw [← h, Nat.min_self] at this
  simpa using this
theorem deqs_other {xs ys : List D} (h : xs.length ≠ ys.length) : deqs xs ys = false := by
  rw [← deqs_eq xs ys]
  simp [h]
mutual
theorem deq_refl : ∀ (n : Nat) (d : D), pl n d = true → deq d d = true
  | n, .non, _ => by simp [deq]
  | n, .bl b, _ => by simp [deq]
  | n, .int i, _ => by simp [deq]
  | n, .str x, _ => by simp [deq]
  | 0, .lst ds, h => by simp [pl] at h
  | 0, .tup ds, h => by simp [pl] at h
  | n + 1, .lst ds, h => by
    simp only [deq]
    exact deqs_refl n ds (by simpa [pl] using h)
  | n + 1, .tup ds, h => by
    simp only [deq]
    exact deqs_refl n ds (by simpa [pl] using h)
  | n, .val v, h => by cases n <;> simp [pl] at h
  | n, .law, h => by cases n <;> simp [pl] at h
  | n, .ins c ds, h => by cases n <;> simp [pl] at h
  | n, .dic k ds, h => by cases n <;> simp [pl] at h
  | n, .ftp ds, h => by cases n <;> simp [pl] at h
  | n, .exn c ds, h => by cases n <;> simp [pl] at h
theorem deqs_refl : ∀ (n : Nat) (ds : List D), (∀ d ∈ ds, pl n d = true) → deqs ds ds = true
  | n, [], _ => by simp [deqs]
  | n, d :: ds, h => by
    simp only [deqs, Bool.and_eq_true]
    exact ⟨deq_refl n d (h d (by simp)), deqs_refl n ds (fun x hx => h x (by simp [hx]))⟩
end
theorem repL {W : Wd} {H : Hp} {ds : List D} {v : V} (h : Rep W H (.lst ds) v) : ∃ a vs, v = .ref a ∧ ¬ W.S a ∧ H a = some (.lst vs) ∧ Reps W H ds vs := by simpa only [Rep] using h
theorem repT {W : Wd} {H : Hp} {ds : List D} {v : V} (h : Rep W H (.tup ds) v) : ∃ a vs, v = .ref a ∧ ¬ W.S a ∧ Rd H a (.tup vs) ∧ Reps W H ds vs := by simpa only [Rep] using h
theorem _root_.L2.Rd.uniqT {H : Hp} {a : Addr} {vs us : List V} (h : Rd H a (.tup vs)) (h' : Rd H a (.tup us)) : vs = us := by
  rcases h with h | ⟨o, h⟩ <;> rcases h' with h' | ⟨o', h'⟩ <;> (rw [h] at h'; cases h'; try rfl)
theorem _root_.L2.Rd.noL {H : Hp} {a : Addr} {vs us : List V} (h : Rd H a (.tup vs)) (h' : H a = some (.lst us)) : False := by
  rcases h with h | ⟨o, h⟩ <;> (rw [h] at h'; cases h')
mutual
theorem Rep.uniq {W : Wd} {H : Hp} : ∀ (n : Nat) (d e : D) (v : V), pl n d = true → pl n e = true → Rep W H d v → Rep W H e v → d = e
  | n, d, e, v, h1, h2, r1, r2 => by
    cases d with
    | non => simp only [Rep] at r1; subst r1; cases e <;> simp [Rep] at r2 <;> first | rfl | (simp [pl] at h2)
    | bl b => simp only [Rep] at r1; subst r1; cases e <;> simp [Rep] at r2 <;> first | (rw [r2]) | (simp [pl] at h2)
    | int b => simp only [Rep] at r1; subst r1; cases e <;> simp [Rep] at r2 <;> first | (rw [r2]) | (simp [pl] at h2)
    | str b => simp only [Rep] at r1; subst r1; cases e <;> simp [Rep] at r2 <;> first | (rw [r2]) | (simp [pl] at h2)
    | lst ds =>
      obtain ⟨a, vs, rfl, _, q, r⟩ := repL r1
      cases n with
      | zero => simp [pl] at h1
      | succ n =>
        cases e with
        | lst es =>
          obtain ⟨a', vs', ea, _, q', r'⟩ := repL r2
          cases ea
          rw [q] at q'
          cases q'
          rw [Reps.uniq n ds es vs (by simpa [pl] using h1) (by simpa [pl] using h2) r r']
        | tup es =>
          obtain ⟨a', vs', ea, _, q', r'⟩ := repT r2
          cases ea
          exact (q'.noL q).elim
        | _ => first | (simp [Rep] at r2; done) | (simp [pl] at h2; done)
    | tup ds =>
      obtain ⟨a, vs, rfl, _, q, r⟩ := repT r1
      cases n with
      | zero => simp [pl] at h1
      | succ n =>
        cases e with
        | tup es =>
          obtain ⟨a', vs', ea, _, q', r'⟩ := repT r2
          cases ea
          cases q.uniqT q'
          rw [Reps.uniq n ds es vs (by simpa [pl] using h1) (by simpa [pl] using h2) r r']
        | lst es =>
          obtain ⟨a', vs', ea, _, q', r'⟩ := repL r2
          cases ea
          exact (q.noL q').elim
        | _ => first | (simp [Rep] at r2; done) | (simp [pl] at h2; done)
    | _ => cases n <;> simp [pl] at h1
  termination_by n => (n, 0)
theorem Reps.uniq {W : Wd} {H : Hp} : ∀ (n : Nat) (ds es : List D) (vs : List V), (∀ d ∈ ds, pl n d = true) → (∀ d ∈ es, pl n d = true) → Reps W H ds vs → Reps W H es vs → ds = es
  | n, [], es, vs, h1, h2, r1, r2 => by
    simp only [Reps] at r1
    subst r1
    cases es with
    | nil => rfl
    | cons e es => simp [Reps] at r2
  | n, d :: ds, es, vs, h1, h2, r1, r2 => by
    simp only [Reps] at r1
    obtain ⟨v, r, rfl, q1, q2⟩ := r1
    cases es with
    | nil => simp [Reps] at r2
    | cons e es =>
      simp only [Reps] at r2
      obtain ⟨v', r', e', p1, p2⟩ := r2
      cases e'
      rw [Rep.uniq n d e v (h1 d (by simp)) (h2 e (by simp)) q1 p1, Reps.uniq n ds es r (fun x hx => h1 x (by simp [hx])) (fun x hx => h2 x (by simp [hx])) q2 p2]
  termination_by n ds => (n, ds.length + 1)
end
section
variable {X : Cx} {pins : List (Addr × Obj)} {σ : L2.St} {H : Hp} {s : Shared} {W : Wd}
open SeqAt in
theorem atL (I : Inv X pins σ H s) {ds : List D} {v : V} {u : Value} (h : Rep W H (.lst ds) v) (r : RelV v u) : ∃ a vs its, u = .ref a ∧ s.heap.IsList a its.toArray ∧ Vals vs its ∧ Reps W H ds vs ∧ H a = some (.lst vs) := by
  obtain ⟨a, vs, rfl, _, q, rr⟩ := repL h
  cases r
  obtain ⟨its, rv, p, _⟩ := I.list (SqL.of (K := X.K) q)
  exact ⟨a, vs, its, rfl, p.isList, rv, rr, q⟩
open SeqAt in
theorem atT (I : Inv X pins σ H s) {ds : List D} {v : V} {u : Value} (h : Rep W H (.tup ds) v) (r : RelV v u) : ∃ a vs its, u = .ref a ∧ s.heap.IsTuple a its.toArray ∧ Vals vs its ∧ Reps W H ds vs ∧ Rd H a (.tup vs) := by
  obtain ⟨a, vs, rfl, _, q, rr⟩ := repT h
  cases r
  obtain ⟨its, rv, p, _⟩ := I.tuple ((Or.inl q : SqT X.K H a vs))
  exact ⟨a, vs, its, rfl, p, rv, rr, q⟩
theorem repC {d : D} {v : V} {u : Value} (h : Rep W H d v) (r : RelV v u) : match d with
    | .non => u = .none
    | .bl b => u = .bool b
    | .int i => ∃ t, u = .int i t
    | .str x => ∃ t, u = .str x t
    | _ => True := by
  cases d <;> simp only [Rep] at h <;> first | trivial | (subst h; exact r)
open SeqAt in
mutual
theorem eqAtD (I : Inv X pins σ H s) : ∀ (n : Nat) (d e : D) (A : Around) (v w : V) (u u' : Value), pl n d = true → pl n e = true → Rep W H d v → Rep W H e w → RelV v u → RelV w u' → A.units + n < cLine → EqAt A s u u' (deq d e)
  | n, d, e, A, v, w, u, u', h1, h2, r1, r2, q1, q2, hu => by
    have hu0 : A.units < cLine := by omega
    cases d with
    | lst ds =>
      obtain ⟨a, vs, its, rfl, hl, rv, rr, ha⟩ := atL I r1 q1
      cases n with
      | zero => simp [pl] at h1
      | succ n =>
        cases e with
        | lst es =>
          obtain ⟨b, ws, jts, rfl, hl', rv', rr', hb⟩ := atL I r2 q2
          by_cases hab : a = b
          · subst hab
            rw [ha] at hb
            cases hb
            have : ds = es := Reps.uniq n ds es vs (by simpa [pl] using h1) (by simpa [pl] using h2) rr rr'
            subst this
            rw [deq_refl (n + 1) _ h1]
            exact EqAt.same _
          · simp only [deq]
            have n1 : its.toArray.size = ds.length := by rw [List.size_toArray, ← rv.length, rr.len]
            have n2 : jts.toArray.size = es.length := by rw [List.size_toArray, ← rv'.length, rr'.len]
            by_cases hsz : its.toArray.size = jts.toArray.size
            · rw [← deqs_same (by omega : ds.length = es.length), ← n1]
              refine EqAt.of_refs hab (RcAt.lists hl hl' hsz hu0 fun j j1 j2 => ?_)
              have := eqAtDs I n ds es A.in1 vs ws its jts (by simpa [pl] using h1) (by simpa [pl] using h2) rr rr' rv rv' (by show A.units + 1 + n < cLine; omega) j (by simpa using j1) (by simpa using j2)
              simpa using this
            · rw [deqs_other (by omega : ds.length ≠ es.length)]
              exact EqAt.of_refs hab (RcAt.lists_lengths hl hl' (by simpa using hsz) hu0)
        | tup es =>
          obtain ⟨b, ws, jts, rfl, hl', rv', rr', hb⟩ := atT I r2 q2
          exact EqAt.list_tuple hl hl' hu0
        | non => cases (repC r2 q2); exact EqAt.list_none hl hu0
        | bl y => cases (repC r2 q2); exact EqAt.list_bool y hl hu0
        | int y => obtain ⟨t, rfl⟩ := repC r2 q2; exact EqAt.list_int y t hl hu0
        | str y => obtain ⟨t, rfl⟩ := repC r2 q2; exact EqAt.list_str y t hl hu0
        | _ => simp [pl] at h2
    | tup ds =>
      obtain ⟨a, vs, its, rfl, hl, rv, rr, ha⟩ := atT I r1 q1
      cases n with
      | zero => simp [pl] at h1
      | succ n =>
        cases e with
        | tup es =>
          obtain ⟨b, ws, jts, rfl, hl', rv', rr', hb⟩ := atT I r2 q2
          by_cases hab : a = b
          · subst hab
            cases ha.uniqT hb
            have : ds = es := Reps.uniq n ds es vs (by simpa [pl] using h1) (by simpa [pl] using h2) rr rr'
            subst this
            rw [deq_refl (n + 1) _ h1]
            exact EqAt.same _
          · simp only [deq]
            have n1 : its.toArray.size = ds.length := by rw [List.size_toArray, ← rv.length, rr.len]
            have n2 : jts.toArray.size = es.length := by rw [List.size_toArray, ← rv'.length, rr'.len]
            rw [← deqs_eq ds es, ← n1, ← n2]
            refine EqAt.of_refs hab (RcAt.tuples hl hl' hu0 fun j j1 j2 => ?_)
            have := eqAtDs I n ds es A.in1 vs ws its jts (by simpa [pl] using h1) (by simpa [pl] using h2) rr rr' rv rv' (by show A.units + 1 + n < cLine; omega) j (by simpa using j1) (by simpa using j2)
            simpa using this
        | lst es =>
          obtain ⟨b, ws, jts, rfl, hl', rv', rr', hb⟩ := atL I r2 q2
          exact EqAt.tuple_list hl hl' hu0
        | non => cases (repC r2 q2); exact EqAt.tuple_none hl hu0
        | bl y => cases (repC r2 q2); exact EqAt.tuple_bool y hl hu0
        | int y => obtain ⟨t, rfl⟩ := repC r2 q2; exact EqAt.tuple_int y t hl hu0
        | str y => obtain ⟨t, rfl⟩ := repC r2 q2; exact EqAt.tuple_str y t hl hu0
        | _ => simp [pl] at h2
    | non =>
      cases (repC r1 q1)
      cases e with
      | lst es => obtain ⟨b, ws, jts, rfl, hl', _⟩ := atL I r2 q2; exact EqAt.none_list hl' hu0
      | tup es => obtain ⟨b, ws, jts, rfl, hl', _⟩ := atT I r2 q2; exact EqAt.none_tuple hl' hu0
      | non => cases (repC r2 q2); exact EqAt.same _
      | bl y => cases (repC r2 q2); exact EqAt.none_bool y
      | int y => obtain ⟨t, rfl⟩ := repC r2 q2; exact EqAt.none_int y t
      | str y => obtain ⟨t, rfl⟩ := repC r2 q2; exact EqAt.none_str y t
      | _ => cases n <;> simp [pl] at h2
    | bl x =>
      cases (repC r1 q1)
      cases e with
      | lst es => obtain ⟨b, ws, jts, rfl, hl', _⟩ := atL I r2 q2; exact EqAt.bool_list x hl' hu0
      | tup es => obtain ⟨b, ws, jts, rfl, hl', _⟩ := atT I r2 q2; exact EqAt.bool_tuple x hl' hu0
      | non => cases (repC r2 q2); exact EqAt.bool_none x
      | bl y => cases (repC r2 q2); exact EqAt.bool_bool x y
      | int y => obtain ⟨t, rfl⟩ := repC r2 q2; exact EqAt.bool_int x y t
      | str y => obtain ⟨t, rfl⟩ := repC r2 q2; exact EqAt.bool_str x y t
      | _ => cases n <;> simp [pl] at h2
    | int x =>
      obtain ⟨t0, rfl⟩ := repC r1 q1
      cases e with
      | lst es => obtain ⟨b, ws, jts, rfl, hl', _⟩ := atL I r2 q2; exact EqAt.int_list x t0 hl' hu0
      | tup es => obtain ⟨b, ws, jts, rfl, hl', _⟩ := atT I r2 q2; exact EqAt.int_tuple x t0 hl' hu0
      | non => cases (repC r2 q2); exact EqAt.int_none x t0
      | bl y => cases (repC r2 q2); exact EqAt.int_bool x t0 y
      | int y => obtain ⟨t, rfl⟩ := repC r2 q2; exact EqAt.int_int x t0 y t
      | str y => obtain ⟨t, rfl⟩ := repC r2 q2; exact EqAt.int_str x t0 y t
      | _ => cases n <;> simp [pl] at h2
    | str x =>
      obtain ⟨t0, rfl⟩ := repC r1 q1
      cases e with
      | lst es => obtain ⟨b, ws, jts, rfl, hl', _⟩ := atL I r2 q2; exact EqAt.str_list x t0 hl' hu0
      | tup es => obtain ⟨b, ws, jts, rfl, hl', _⟩ := atT I r2 q2; exact EqAt.str_tuple x t0 hl' hu0
      | non => cases (repC r2 q2); exact EqAt.str_none x t0
      | bl y => cases (repC r2 q2); exact EqAt.str_bool x t0 y
      | int y => obtain ⟨t, rfl⟩ := repC r2 q2; exact EqAt.str_int x t0 y t
      | str y => obtain ⟨t, rfl⟩ := repC r2 q2; exact EqAt.str_str x t0 y t
      | _ => cases n <;> simp [pl] at h2
    | _ => cases n <;> simp [pl] at h1
  termination_by n => (n, 0)
theorem eqAtDs (I : Inv X pins σ H s) : ∀ (n : Nat) (ds es : List D) (A : Around) (vs ws : List V) (us us' : List Value), (∀ d ∈ ds, pl n d = true) → (∀ d ∈ es, pl n d = true) → Reps W H ds vs → Reps W H es ws → Vals vs us → Vals ws us' → A.units + n < cLine →
    ∀ j (h1 : j < us.length) (h2 : j < us'.length), EqAt A s us[j] us'[j] (pairD ds es j)
  | n, [], es, A, vs, ws, us, us', h1, h2, r1, r2, q1, q2, hu, j, j1, j2 => by
    simp only [Reps] at r1
    subst r1
    cases q1
    exact absurd j1 (Nat.not_lt_zero _)
  | n, d :: ds, es, A, vs, ws, us, us', h1, h2, r1, r2, q1, q2, hu, j, j1, j2 => by
    simp only [Reps] at r1
    obtain ⟨v, r, rfl, p1, p2⟩ := r1
    cases es with
    | nil =>
      simp only [Reps] at r2
      subst r2
      cases q2
      exact absurd j2 (Nat.not_lt_zero _)
    | cons e es =>
      simp only [Reps] at r2
      obtain ⟨v', r', rfl, p1', p2'⟩ := r2
      cases q1 with
      | cons a1 b1 =>
        cases q2 with
        | cons a2 b2 =>
          cases j with
          | zero => exact eqAtD I n d e A v v' _ _ (h1 d (by simp)) (h2 e (by simp)) p1 p1' a1 a2 hu
          | succ j => exact eqAtDs I n ds es A r r' _ _ (fun x hx => h1 x (by simp [hx])) (fun x hx => h2 x (by simp [hx])) p2 p2' b1 b2 hu j (Nat.lt_of_succ_lt_succ j1) (Nat.lt_of_succ_lt_succ j2)
  termination_by n ds => (n, ds.length + 1)
end
end
end Pu
namespace Pu
open PySem PySem.Spec PyProof.Rows L2
open SeqAt
section
variable {X : Cx} {pins : List (Addr × Obj)} {σ : L2.St} {H : Hp} {s : Shared} {W : Wd}
theorem rcAtD (I : Inv X pins σ H s) {n : Nat} {d e : D} {A : Around} {v w : V} {u u' : Value} (h1 : pl n d = true) (h2 : pl n e = true) (r1 : Rep W H d v) (r2 : Rep W H e w) (q1 : RelV v u) (q2 : RelV w u') (hu : A.units + n < cLine) : RcAt A s u u' (deq d e) := by
  have hu0 : A.units < cLine := by omega
  cases d with
  | lst ds =>
    obtain ⟨a, vs, its, rfl, hl, rv, rr, ha⟩ := atL I r1 q1
    cases n with
    | zero => simp [pl] at h1
    | succ n =>
      cases e with
      | lst es =>
        obtain ⟨b, ws, jts, rfl, hl', rv', rr', hb⟩ := atL I r2 q2
        simp only [deq]
        have n1 : its.toArray.size = ds.length := by rw [List.size_toArray, ← rv.length, rr.len]
        have n2 : jts.toArray.size = es.length := by rw [List.size_toArray, ← rv'.length, rr'.len]
        have he : ∀ j (j1 : j < its.toArray.size) (j2 : j < jts.toArray.size), EqAt A.in1 s its.toArray[j] jts.toArray[j] (pairD ds es j) := fun j j1 j2 => by
          have := eqAtDs I n ds es A.in1 vs ws its jts (by simpa [pl] using h1) (by simpa [pl] using h2) rr rr' rv rv' (by show A.units + 1 + n < cLine; omega) j (by simpa using j1) (by simpa using j2)
          simpa using this
        by_cases hsz : its.toArray.size = jts.toArray.size
        · rw [← deqs_same (by omega : ds.length = es.length), ← n1]
          exact RcAt.lists hl hl' hsz hu0 he
        · rw [deqs_other (by omega : ds.length ≠ es.length)]
          exact RcAt.lists_lengths hl hl' (by simpa using hsz) hu0
      | tup es =>
        obtain ⟨b, ws, jts, rfl, hl', rv', rr', hb⟩ := atT I r2 q2
        exact RcAt.list_tuple hl hl' hu0
      | non => cases (repC r2 q2); exact RcAt.list_none hl hu0
      | bl y => cases (repC r2 q2); exact RcAt.list_bool y hl hu0
      | int y => obtain ⟨t, rfl⟩ := repC r2 q2; exact RcAt.list_int y t hl hu0
      | str y => obtain ⟨t, rfl⟩ := repC r2 q2; exact RcAt.list_str y t hl hu0
      | _ => simp [pl] at h2
  | tup ds =>
    obtain ⟨a, vs, its, rfl, hl, rv, rr, ha⟩ := atT I r1 q1
    cases n with
    | zero => simp [pl] at h1
    | succ n =>
      cases e with
      | tup es =>
        obtain ⟨b, ws, jts, rfl, hl', rv', rr', hb⟩ := atT I r2 q2
        simp only [deq]
        have n1 : its.toArray.size = ds.length := by rw [List.size_toArray, ← rv.length, rr.len]
        have n2 : jts.toArray.size = es.length := by rw [List.size_toArray, ← rv'.length, rr'.len]
        have he : ∀ j (j1 : j < its.toArray.size) (j2 : j < jts.toArray.size), EqAt A.in1 s its.toArray[j] jts.toArray[j] (pairD ds es j) := fun j j1 j2 => by
          have := eqAtDs I n ds es A.in1 vs ws its jts (by simpa [pl] using h1) (by simpa [pl] using h2) rr rr' rv rv' (by show A.units + 1 + n < cLine; omega) j (by simpa using j1) (by simpa using j2)
          simpa using this
        rw [← deqs_eq ds es, ← n1, ← n2]
        exact RcAt.tuples hl hl' hu0 he
      | lst es =>
        obtain ⟨b, ws, jts, rfl, hl', rv', rr', hb⟩ := atL I r2 q2
        exact RcAt.tuple_list hl hl' hu0
      | non => cases (repC r2 q2); exact RcAt.tuple_none hl hu0
      | bl y => cases (repC r2 q2); exact RcAt.tuple_bool y hl hu0
      | int y => obtain ⟨t, rfl⟩ := repC r2 q2; exact RcAt.tuple_int y t hl hu0
      | str y => obtain ⟨t, rfl⟩ := repC r2 q2; exact RcAt.tuple_str y t hl hu0
      | _ => simp [pl] at h2
  | non =>
    cases (repC r1 q1)
    cases e with
    | lst es => obtain ⟨b, ws, jts, rfl, hl', _⟩ := atL I r2 q2; exact RcAt.none_list hl' hu0
    | tup es => obtain ⟨b, ws, jts, rfl, hl', _⟩ := atT I r2 q2; exact RcAt.none_tuple hl' hu0
    | non => cases (repC r2 q2); exact RcAt.none_none
    | bl y => cases (repC r2 q2); exact RcAt.none_bool y
    | int y => obtain ⟨t, rfl⟩ := repC r2 q2; exact RcAt.none_int y t
    | str y => obtain ⟨t, rfl⟩ := repC r2 q2; exact RcAt.none_str y t
    | _ => cases n <;> simp [pl] at h2
  | bl x =>
    cases (repC r1 q1)
    cases e with
    | lst es => obtain ⟨b, ws, jts, rfl, hl', _⟩ := atL I r2 q2; exact RcAt.bool_list x hl' hu0
    | tup es => obtain ⟨b, ws, jts, rfl, hl', _⟩ := atT I r2 q2; exact RcAt.bool_tuple x hl' hu0
    | non => cases (repC r2 q2); exact RcAt.bool_none x
    | bl y => cases (repC r2 q2); exact RcAt.bool_bool x y
    | int y => obtain ⟨t, rfl⟩ := repC r2 q2; exact RcAt.bool_int x y t
    | str y => obtain ⟨t, rfl⟩ := repC r2 q2; exact RcAt.bool_str x y t
    | _ => cases n <;> simp [pl] at h2
  | int x =>
    obtain ⟨t0, rfl⟩ := repC r1 q1
    cases e with
    | lst es => obtain ⟨b, ws, jts, rfl, hl', _⟩ := atL I r2 q2; exact RcAt.int_list x t0 hl' hu0
    | tup es => obtain ⟨b, ws, jts, rfl, hl', _⟩ := atT I r2 q2; exact RcAt.int_tuple x t0 hl' hu0
    | non => cases (repC r2 q2); exact RcAt.int_none x t0
    | bl y => cases (repC r2 q2); exact RcAt.int_bool x t0 y
    | int y => obtain ⟨t, rfl⟩ := repC r2 q2; exact RcAt.int_int x t0 y t
    | str y => obtain ⟨t, rfl⟩ := repC r2 q2; exact RcAt.int_str x t0 y t
    | _ => cases n <;> simp [pl] at h2
  | str x =>
    obtain ⟨t0, rfl⟩ := repC r1 q1
    cases e with
    | lst es => obtain ⟨b, ws, jts, rfl, hl', _⟩ := atL I r2 q2; exact RcAt.str_list x t0 hl' hu0
    | tup es => obtain ⟨b, ws, jts, rfl, hl', _⟩ := atT I r2 q2; exact RcAt.str_tuple x t0 hl' hu0
    | non => cases (repC r2 q2); exact RcAt.str_none x t0
    | bl y => cases (repC r2 q2); exact RcAt.str_bool x t0 y
    | int y => obtain ⟨t, rfl⟩ := repC r2 q2; exact RcAt.str_int x t0 y t
    | str y => obtain ⟨t, rfl⟩ := repC r2 q2; exact RcAt.str_str x t0 y t
    | _ => cases n <;> simp [pl] at h2
  | _ => cases n <;> simp [pl] at h1
theorem rcNeD (I : Inv X pins σ H s) {n : Nat} {d e : D} {A : Around} {v w : V} {u u' : Value} (h1 : pl n d = true) (h2 : pl n e = true) (r1 : Rep W H d v) (r2 : Rep W H e w) (q1 : RelV v u) (q2 : RelV w u') (hu : A.units + n < cLine) : RcNeAt A s u u' (!deq d e) := by
  have hu0 : A.units < cLine := by omega
  cases d with
  | lst ds =>
    obtain ⟨a, vs, its, rfl, hl, rv, rr, ha⟩ := atL I r1 q1
    cases n with
    | zero => simp [pl] at h1
    | succ n =>
      cases e with
      | lst es =>
        obtain ⟨b, ws, jts, rfl, hl', rv', rr', hb⟩ := atL I r2 q2
        simp only [deq]
        have n1 : its.toArray.size = ds.length := by rw [List.size_toArray, ← rv.length, rr.len]
        have n2 : jts.toArray.size = es.length := by rw [List.size_toArray, ← rv'.length, rr'.len]
        have he : ∀ j (j1 : j < its.toArray.size) (j2 : j < jts.toArray.size), EqAt A.in1 s its.toArray[j] jts.toArray[j] (pairD ds es j) := fun j j1 j2 => by
          have := eqAtDs I n ds es A.in1 vs ws its jts (by simpa [pl] using h1) (by simpa [pl] using h2) rr rr' rv rv' (by show A.units + 1 + n < cLine; omega) j (by simpa using j1) (by simpa using j2)
          simpa using this
        by_cases hsz : its.toArray.size = jts.toArray.size
        · rw [← deqs_same (by omega : ds.length = es.length), ← n1]
          exact RcNeAt.lists hl hl' hsz hu0 he
        · rw [deqs_other (by omega : ds.length ≠ es.length)]
          exact RcNeAt.lists_lengths hl hl' (by simpa using hsz) hu0
      | tup es =>
        obtain ⟨b, ws, jts, rfl, hl', rv', rr', hb⟩ := atT I r2 q2
        exact RcNeAt.list_tuple hl hl' hu0
      | non => cases (repC r2 q2); exact RcNeAt.list_none hl hu0
      | bl y => cases (repC r2 q2); exact RcNeAt.list_bool y hl hu0
      | int y => obtain ⟨t, rfl⟩ := repC r2 q2; exact RcNeAt.list_int y t hl hu0
      | str y => obtain ⟨t, rfl⟩ := repC r2 q2; exact RcNeAt.list_str y t hl hu0
      | _ => simp [pl] at h2
  | tup ds =>
    obtain ⟨a, vs, its, rfl, hl, rv, rr, ha⟩ := atT I r1 q1
    cases n with
    | zero => simp [pl] at h1
    | succ n =>
      cases e with
      | tup es =>
        obtain ⟨b, ws, jts, rfl, hl', rv', rr', hb⟩ := atT I r2 q2
        simp only [deq]
        have n1 : its.toArray.size = ds.length := by rw [List.size_toArray, ← rv.length, rr.len]
        have n2 : jts.toArray.size = es.length := by rw [List.size_toArray, ← rv'.length, rr'.len]
        have he : ∀ j (j1 : j < its.toArray.size) (j2 : j < jts.toArray.size), EqAt A.in1 s its.toArray[j] jts.toArray[j] (pairD ds es j) := fun j j1 j2 => by
          have := eqAtDs I n ds es A.in1 vs ws its jts (by simpa [pl] using h1) (by simpa [pl] using h2) rr rr' rv rv' (by show A.units + 1 + n < cLine; omega) j (by simpa using j1) (by simpa using j2)
          simpa using this
        rw [← deqs_eq ds es, ← n1, ← n2]
        exact RcNeAt.tuples hl hl' hu0 he
      | lst es =>
        obtain ⟨b, ws, jts, rfl, hl', rv', rr', hb⟩ := atL I r2 q2
        exact RcNeAt.tuple_list hl hl' hu0
      | non => cases (repC r2 q2); exact RcNeAt.tuple_none hl hu0
      | bl y => cases (repC r2 q2); exact RcNeAt.tuple_bool y hl hu0
      | int y => obtain ⟨t, rfl⟩ := repC r2 q2; exact RcNeAt.tuple_int y t hl hu0
      | str y => obtain ⟨t, rfl⟩ := repC r2 q2; exact RcNeAt.tuple_str y t hl hu0
      | _ => simp [pl] at h2
  | non =>
    cases (repC r1 q1)
    cases e with
    | lst es => obtain ⟨b, ws, jts, rfl, hl', _⟩ := atL I r2 q2; exact RcNeAt.none_list hl' hu0
    | tup es => obtain ⟨b, ws, jts, rfl, hl', _⟩ := atT I r2 q2; exact RcNeAt.none_tuple hl' hu0
    | non => cases (repC r2 q2); exact RcNeAt.none_none
    | bl y => cases (repC r2 q2); exact RcNeAt.none_bool y
    | int y => obtain ⟨t, rfl⟩ := repC r2 q2; exact RcNeAt.none_int y t
    | str y => obtain ⟨t, rfl⟩ := repC r2 q2; exact RcNeAt.none_str y t
    | _ => cases n <;> simp [pl] at h2
  | bl x =>
    cases (repC r1 q1)
    cases e with
    | lst es => obtain ⟨b, ws, jts, rfl, hl', _⟩ := atL I r2 q2; exact RcNeAt.bool_list x hl' hu0
    | tup es => obtain ⟨b, ws, jts, rfl, hl', _⟩ := atT I r2 q2; exact RcNeAt.bool_tuple x hl' hu0
    | non => cases (repC r2 q2); exact RcNeAt.bool_none x
    | bl y => cases (repC r2 q2); exact RcNeAt.bool_bool x y
    | int y => obtain ⟨t, rfl⟩ := repC r2 q2; exact RcNeAt.bool_int x y t
    | str y => obtain ⟨t, rfl⟩ := repC r2 q2; exact RcNeAt.bool_str x y t
    | _ => cases n <;> simp [pl] at h2
  | int x =>
    obtain ⟨t0, rfl⟩ := repC r1 q1
    cases e with
    | lst es => obtain ⟨b, ws, jts, rfl, hl', _⟩ := atL I r2 q2; exact RcNeAt.int_list x t0 hl' hu0
    | tup es => obtain ⟨b, ws, jts, rfl, hl', _⟩ := atT I r2 q2; exact RcNeAt.int_tuple x t0 hl' hu0
    | non => cases (repC r2 q2); exact RcNeAt.int_none x t0
    | bl y => cases (repC r2 q2); exact RcNeAt.int_bool x t0 y
    | int y => obtain ⟨t, rfl⟩ := repC r2 q2; exact RcNeAt.int_int x t0 y t
    | str y => obtain ⟨t, rfl⟩ := repC r2 q2; exact RcNeAt.int_str x t0 y t
    | _ => cases n <;> simp [pl] at h2
  | str x =>
    obtain ⟨t0, rfl⟩ := repC r1 q1
    cases e with
    | lst es => obtain ⟨b, ws, jts, rfl, hl', _⟩ := atL I r2 q2; exact RcNeAt.str_list x t0 hl' hu0
    | tup es => obtain ⟨b, ws, jts, rfl, hl', _⟩ := atT I r2 q2; exact RcNeAt.str_tuple x t0 hl' hu0
    | non => cases (repC r2 q2); exact RcNeAt.str_none x t0
    | bl y => cases (repC r2 q2); exact RcNeAt.str_bool x t0 y
    | int y => obtain ⟨t, rfl⟩ := repC r2 q2; exact RcNeAt.str_int x t0 y t
    | str y => obtain ⟨t, rfl⟩ := repC r2 q2; exact RcNeAt.str_str x t0 y t
    | _ => cases n <;> simp [pl] at h2
  | _ => cases n <;> simp [pl] at h1
end
end Pu
namespace Pu
open PySem PySem.Spec PyProof.Rows L2
/-! ## operators of data -/
def oI (C : Int → Int → Prop) (g : Int → Int → Int) : DOp := fun x y Q _ => match x, y with
  | .int i, .int j => C i j ∧ Q (.int (g i j))
  | _, _ => False
def oB (g : Int → Int → Bool) : DOp := fun x y Q _ => match x, y with
  | .int i, .int j => Q (.bl (g i j))
  | _, _ => False
def oAdd : DOp := fun x y Q _ => match x, y with
  | .int i, .int j => Q (.int (i + j))
  | .str a, .str b => a.length + b.length ≤ 100000 ∧ Q (.str (a ++ b))
  | .lst xs, .lst ys => xs.length + ys.length ≤ 100000 ∧ Q (.lst (xs ++ ys))
  | .tup xs, .tup ys => xs.length + ys.length ≤ 100000 ∧ Q (.tup (xs ++ ys))
  | _, _ => False
def oEq : DOp := fun x y Q _ => pl 60 x = true ∧ pl 60 y = true ∧ Q (.bl (deq x y))
def oNe : DOp := fun x y Q _ => pl 60 x = true ∧ pl 60 y = true ∧ Q (.bl (!deq x y))
def isNon : D → Bool
  | .non => true
  | .val v => decide (v = .non)
  | _ => false
def oIsN (neg : Bool) : DOp := fun x y Q _ => match y with
  | .non => Q (.bl (if neg then !isNon x else isNon x))
  | _ => False
def oIsB : DOp := fun x y Q _ => match x, y with
  | .bl a, .bl b => Q (.bl (decide (a = b)))
  | _, _ => False
def oIn (neg : Bool) : DOp := fun x y Q _ => match y with
  | .lst ds => pl 50 x = true ∧ ds.all (pl 50) = true ∧ Q (.bl (if neg then !ds.any (fun d => deq d x) else ds.any fun d => deq d x))
  | .tup ds => pl 50 x = true ∧ ds.all (pl 50) = true ∧ Q (.bl (if neg then !ds.any (fun d => deq d x) else ds.any fun d => deq d x))
  | .str z => ∃ c : Nat, x = .str ⟨#[c]⟩ ∧ Q (.bl (if neg then !decide (c ∈ z.cps.toList) else decide (c ∈ z.cps.toList)))
  | _ => False
theorem le_line {n : Nat} (h : n ≤ 100000) : n ≤ sizeLine := by rw [sizeLine_eq]; omega
section
variable {B : Bs} {X : Cx} {Wx : WX}
theorem XO.of {f : Value → Value → Sem Value} {o : DOp} {r : R2} (h : OpR X f r) (k : ∀ S H x y dx dy Q E k, WOk (B.W.at S) H → Rep (B.W.at S) H dx x → Rep (B.W.at S) H dy y → o dx dy Q E → KE (B.W.at S) H Q k → r x y H k) : XO B X Wx f o :=
  ⟨fun _ => r, fun pins s σ H x y v u Q => h pins s σ H x y v u Q, fun S σ H x y dx dy Q E kk w r1 r2 q ke _ => k S H x y dx dy Q E kk w r1 r2 q ke⟩
theorem XO.imp {f : Value → Value → Sem Value} {o o' : DOp} (h : XO B X Wx f o) (k : ∀ x y Q E, o' x y Q E → o x y Q E) : XO B X Wx f o' := by
  obtain ⟨r, h1, h2⟩ := h.ex
  exact ⟨r, h1, fun S σ H x y dx dy Q E kk w r1 r2 q => h2 S σ H x y dx dy Q E kk w r1 r2 (k _ _ _ _ q)⟩
theorem XO.or {f : Value → Value → Sem Value} {o o' : DOp} (h : XO B X Wx f o) (h' : XO B X Wx f o') : XO B X Wx f (fun x y Q E => o x y Q E ∨ o' x y Q E) := by
  obtain ⟨r, h1, h2⟩ := h.ex
  obtain ⟨r', h1', h2'⟩ := h'.ex
  refine ⟨fun σ x y H Q => r σ x y H Q ∨ r' σ x y H Q, fun pins s σ H x y v u Q I rx ry q => ?_, fun S σ H x y dx dy Q E kk w r1 r2 q ke kx => ?_⟩
  · rcases q with q | q
    · exact h1 pins s σ H x y v u Q I rx ry q
    · exact h1' pins s σ H x y v u Q I rx ry q
  · rcases q with q | q
    · exact .inl (h2 S σ H x y dx dy Q E kk w r1 r2 q ke kx)
    · exact .inr (h2' S σ H x y dx dy Q E kk w r1 r2 q ke kx)
theorem repI {W : Wd} {H : Hp} {i : Int} {v : V} (h : Rep W H (.int i) v) : v = .int i := by simpa only [Rep] using h
theorem repS {W : Wd} {H : Hp} {i : Str} {v : V} (h : Rep W H (.str i) v) : v = .str i := by simpa only [Rep] using h
theorem repB {W : Wd} {H : Hp} {i : Bool} {v : V} (h : Rep W H (.bl i) v) : v = .bl i := by simpa only [Rep] using h
theorem mkI {W : Wd} {H : Hp} {i : Int} : Rep W H (.int i) (.int i) := by simp only [Rep]
theorem mkS {W : Wd} {H : Hp} {i : Str} : Rep W H (.str i) (.str i) := by simp only [Rep]
theorem mkB {W : Wd} {H : Hp} {i : Bool} : Rep W H (.bl i) (.bl i) := by simp only [Rep]
theorem mkN {W : Wd} {H : Hp} : Rep W H .non .non := by simp only [Rep]
theorem mkT {W : Wd} {H : Hp} {a : Addr} {ds : List D} {vs : List V} (n : ¬ W.S a) (e : Rd H a (.tup vs)) (r : Reps W H ds vs) : Rep W H (.tup ds) (.ref a) := by
  simp only [Rep]
  exact ⟨a, vs, rfl, n, e, r⟩
theorem mkL {W : Wd} {H : Hp} {a : Addr} {ds : List D} {vs : List V} (n : ¬ W.S a) (e : H a = some (.lst vs)) (r : Reps W H ds vs) : Rep W H (.lst ds) (.ref a) := by
  simp only [Rep]
  exact ⟨a, vs, rfl, n, e, r⟩
theorem xo_I {f : Value → Value → Sem Value} {C : Int → Int → Prop} {g : Int → Int → Int} (h : OpR X f (rI C fun i j => .int (g i j))) : XO B X Wx f (oI C g) := .of h fun S H x y dx dy Q E k w r1 r2 q ke => by
  cases dx <;> cases dy <;> first | exact False.elim q | skip
  exact ⟨_, _, repI r1, repI r2, q.1, ke _ H _ (Fut.refl w) mkI q.2⟩
theorem xo_I0 {f : Value → Value → Sem Value} {g : Int → Int → Int} (h : OpR X f (rI0 fun i j => .int (g i j))) : XO B X Wx f (oI (fun _ _ => True) g) := .of h fun S H x y dx dy Q E k w r1 r2 q ke => by
  cases dx <;> cases dy <;> first | exact False.elim q | skip
  exact ⟨_, _, repI r1, repI r2, ke _ H _ (Fut.refl w) mkI q.2⟩
theorem xo_B {f : Value → Value → Sem Value} {g : Int → Int → Bool} (h : OpR X f (rI0 fun i j => .bl (g i j))) : XO B X Wx f (oB g) := .of h fun S H x y dx dy Q E k w r1 r2 q ke => by
  cases dx <;> cases dy <;> first | exact False.elim q | skip
  exact ⟨_, _, repI r1, repI r2, ke _ H _ (Fut.refl w) mkB q⟩
def oSub : DOp := oI (fun _ _ => True) fun i j => i - j
def oMul : DOp := oI CMulW fun i j => i * j
def oFdiv : DOp := oI (fun _ j => j ≠ 0 ∧ j.natAbs.log2 < 9000) Int.fdiv
def oMod : DOp := oI (fun _ j => j ≠ 0) Int.fmod
def oPow : DOp := oI CPow fun i j => i ^ j.toNat
def oLt : DOp := oB fun i j => decide (i < j)
def oLe : DOp := oB fun i j => decide (i ≤ j)
def oGt : DOp := oB fun i j => decide (j < i)
def oGe : DOp := oB fun i j => decide (j ≤ i)
theorem xo_sub : XO B X Wx (binaryOp .Sub) oSub := xo_I0 op_sub
theorem xo_mul : XO B X Wx (binaryOp .Mult) oMul := xo_I op_mulW
theorem op_fdivZ : OpR X (binaryOp .FloorDiv) (rI (fun _ j => j ≠ 0 ∧ j.natAbs.log2 < 9000) fun i j => .int (i.fdiv j)) := opI fun i j _ _ _ _ _ hc q => PyProof.Rows.floordiv_int hc.1 q (.inl (PyProof.noPylong_of_log2 hc.2))
theorem xo_fdiv : XO B X Wx (binaryOp .FloorDiv) oFdiv := xo_I op_fdivZ
theorem xo_mod : XO B X Wx (binaryOp .Mod) oMod := xo_I op_modN
theorem xo_pow : XO B X Wx (binaryOp .Pow) oPow := xo_I op_pow
theorem xo_lt : XO B X Wx (compareOp .Lt) oLt := xo_B op_lt
theorem xo_le : XO B X Wx (compareOp .LtE) oLe := xo_B op_le
theorem xo_gt : XO B X Wx (compareOp .Gt) oGt := xo_B op_gt
theorem xo_ge : XO B X Wx (compareOp .GtE) oGe := xo_B op_ge
theorem xo_add : XO B X Wx (binaryOp .Add) oAdd := .of (op_add.or (op_add_str.or (op_cat.or op_catA))) fun S H x y dx dy Q E k w r1 r2 q ke => by
  cases dx <;> cases dy <;> first | exact False.elim q | skip
  · exact .inl ⟨_, _, repI r1, repI r2, ke _ H _ (Fut.refl w) mkI q⟩
  · exact .inr (.inl ⟨_, _, repS r1, repS r2, le_line q.1, ke _ H _ (Fut.refl w) mkS q.2⟩)
  · obtain ⟨a, vs, rfl, n1, e1, z1⟩ := repL r1
    obtain ⟨b, ws, rfl, n2, e2, z2⟩ := repL r2
    refine .inr (.inr (.inl ⟨a, b, vs, ws, rfl, rfl, e1, e2, le_line (by rw [z1.len, z2.len]; exact q.1), fun p hp => ?_⟩))
    have f := fut_new (o := .lst (vs ++ ws)) w hp
    exact ke _ _ _ f (mkL (w.new hp) upd_same ((z1.app z2).fut w f)) q.2
  · rename_i xs ys
    obtain ⟨a, vs, rfl, n1, e1, z1⟩ := repT r1
    obtain ⟨b, ws, rfl, n2, e2, z2⟩ := repT r2
    refine .inr (.inr (.inr ⟨a, b, vs, ws, rfl, rfl, (.inl e1), (.inl e2), le_line (by rw [z1.len, z2.len]; exact q.1), fun h => ?_, fun _ h => ?_, fun _ _ p hp => ?_⟩))
    · subst h
      have := z1.len
      have : xs = [] := List.eq_nil_of_length_eq_zero (by simpa using this.symm)
      subst this
      exact ke _ _ _ (Fut.refl w) (mkT n2 e2 z2) q.2
    · subst h
      have := z2.len
      have : ys = [] := List.eq_nil_of_length_eq_zero (by simpa using this.symm)
      subst this
      exact ke _ _ _ (Fut.refl w) (mkT n1 e1 z1) (by have := q.2; rwa [List.append_nil] at this)
    · have f := fut_new (o := .tup (vs ++ ws)) w hp
      exact ke _ _ _ f (mkT (w.new hp) (.inl upd_same) ((z1.app z2).fut w f)) q.2
def rEqP : R2 := fun x y H Q => ∃ (W : Wd) (d e : D), pl 60 d = true ∧ pl 60 e = true ∧ Rep W H d x ∧ Rep W H e y ∧ Q (.bl (deq d e)) H
def rNeP : R2 := fun x y H Q => ∃ (W : Wd) (d e : D), pl 60 d = true ∧ pl 60 e = true ∧ Rep W H d x ∧ Rep W H e y ∧ Q (.bl (!deq d e)) H
theorem op_eqP (hu : X.A.units + 64 < cLine) : OpR X (compareOp .Eq) rEqP := by
  intro pins s σ H x y v u Q I rx ry h
  obtain ⟨W, d, e, h1, h2, r1, r2, q⟩ := h
  exact rcAtD I h1 h2 r1 r2 rx ry (by omega) _ _ _ _ ⟨.bl _, H, I, rfl, q⟩
theorem op_neP (hu : X.A.units + 64 < cLine) : OpR X (compareOp .NotEq) rNeP := by
  intro pins s σ H x y v u Q I rx ry h
  obtain ⟨W, d, e, h1, h2, r1, r2, q⟩ := h
  exact rcNeD I h1 h2 r1 r2 rx ry (by omega) _ _ _ _ ⟨.bl _, H, I, rfl, q⟩
theorem xo_eq {k : Nat} (hr : Room k X.A) : XO B X Wx (compareOp .Eq) oEq := .of (op_eqP hr.units) fun S H x y dx dy Q E k w r1 r2 q ke =>
  ⟨_, dx, dy, q.1, q.2.1, r1, r2, ke _ H _ (Fut.refl w) mkB q.2.2⟩
theorem xo_ne {k : Nat} (hr : Room k X.A) : XO B X Wx (compareOp .NotEq) oNe := .of (op_neP hr.units) fun S H x y dx dy Q E k w r1 r2 q ke =>
  ⟨_, dx, dy, q.1, q.2.1, r1, r2, ke _ H _ (Fut.refl w) mkB q.2.2⟩
theorem isNon_ok {W : Wd} {H : Hp} {d : D} {v : V} (h : Rep W H d v) : decide (v = .non) = isNon d := by
  cases d <;> simp only [Rep] at h <;> first
    | (subst h; simp [isNon]; done)
    | (obtain ⟨a, b, e, rfl⟩ := h; simp [isNon]; done)
    | (obtain ⟨a, b, rfl, _⟩ := h; simp [isNon]; done)
    | (obtain ⟨a, b, e, rfl, _⟩ := h; simp [isNon]; done)
theorem xo_isN : XO B X Wx (compareOp .Is) (oIsN false) := .of op_isN fun S H x y dx dy Q E k w r1 r2 q ke => by
  cases dy <;> first | exact False.elim q | skip
  refine ⟨by simpa only [Rep] using r2, ?_⟩
  rw [isNon_ok r1]
  exact ke _ H _ (Fut.refl w) mkB q
theorem xo_notN : XO B X Wx (compareOp .IsNot) (oIsN true) := .of op_notN fun S H x y dx dy Q E k w r1 r2 q ke => by
  cases dy <;> first | exact False.elim q | skip
  refine ⟨by simpa only [Rep] using r2, ?_⟩
  rw [isNon_ok r1]
  exact ke _ H _ (Fut.refl w) mkB q
theorem xo_isB : XO B X Wx (compareOp .Is) oIsB := .of op_isBl fun S H x y dx dy Q E k w r1 r2 q ke => by
  cases dx <;> cases dy <;> first | exact False.elim q | skip
  exact ⟨_, _, repB r1, repB r2, ke _ H _ (Fut.refl w) mkB q⟩
/-! in, not in -/
open SeqAt in
theorem mem_eqAtD {pins : List (Addr × Obj)} {σ : L2.St} {H : Hp} {s : Shared} {W : Wd} (I : Inv X pins σ H s) {A : Around} {n : Nat} {d : D} {v : V} {u : Value} (hd : pl n d = true) (r : Rep W H d v) (q : RelV v u) (hu : A.units + n < cLine) :
    ∀ {ds : List D} {vs : List V} {us : List Value}, Reps W H ds vs → Vals vs us → (∀ x ∈ ds, pl n x = true) → ∃ e : Value → Bool, (∀ y, y ∈ us → EqAt A s y u (e y)) ∧ us.any e = ds.any fun x => deq x d := by
  intro ds vs us rs qs hp
  refine ⟨fun y => @decide (∃ x w, x ∈ ds ∧ Rep W H x w ∧ RelV w y ∧ deq x d = true) (Classical.propDecidable _), ?_, ?_⟩
  · intro y hy
    obtain ⟨i, hi, rfl⟩ := List.getElem_of_mem hy
    have hl : vs.length = us.length := qs.length
    obtain ⟨w, ew, rw_⟩ : ∃ w, vs[i]? = some w ∧ RelV w us[i] := by
      have hv : i < vs.length := by omega
      obtain ⟨u', e1, e2⟩ := qs.get (List.getElem?_eq_getElem hv)
      rw [List.getElem?_eq_getElem hi] at e1
      cases e1
      exact ⟨_, List.getElem?_eq_getElem hv, e2⟩
    obtain ⟨x, ex, rx⟩ := rs.get' ew
    have hx := List.mem_of_getElem? ex
    have key := eqAtD I n x d A w v _ u (hp x hx) hd rx r rw_ q hu
    have : @decide (∃ x w, x ∈ ds ∧ Rep W H x w ∧ RelV w us[i] ∧ deq x d = true) (Classical.propDecidable _) = deq x d := by
      cases hq : deq x d with
      | true => exact @decide_eq_true _ (Classical.propDecidable _) ⟨x, w, hx, rx, rw_, hq⟩
      | false =>
        refine @decide_eq_false _ (Classical.propDecidable _) ?_
        rintro ⟨x', w', hx', rx', rw', hq'⟩
        have e1 := RelV.inj rw_ rw'
        subst e1
        rw [Rep.uniq n x x' w (hp x hx) (hp x' hx') rx rx', hq'] at hq
        cases hq
    have key2 : EqAt A s us[i] u (@decide (∃ x w, x ∈ ds ∧ Rep W H x w ∧ RelV w us[i] ∧ deq x d = true) (Classical.propDecidable _)) := by
      rw [this]
      exact key
    exact key2
  · rw [Bool.eq_iff_iff, List.any_eq_true, List.any_eq_true]
    constructor
    · rintro ⟨y, hy, h⟩
      obtain ⟨x, w, hx, _, _, hq⟩ := @of_decide_eq_true _ (Classical.propDecidable _) h
      exact ⟨x, hx, hq⟩
    · rintro ⟨x, hx, hq⟩
      obtain ⟨i, hi, rfl⟩ := List.getElem_of_mem hx
      obtain ⟨w, ew, rw_⟩ := rs.get (List.getElem?_eq_getElem hi)
      obtain ⟨u', e1, e2⟩ := qs.get ew
      exact ⟨u', List.mem_of_getElem? e1, @decide_eq_true _ (Classical.propDecidable _) ⟨_, w, hx, rw_, e2, hq⟩⟩
def rInP (neg : Bool) : R2 := fun x y H Q => ∃ (W : Wd) (d : D) (ds : List D), pl 50 d = true ∧ ds.all (pl 50) = true ∧ Rep W H d x ∧ (Rep W H (.lst ds) y ∨ Rep W H (.tup ds) y) ∧ Q (.bl (if neg then !ds.any (fun x => deq x d) else ds.any fun x => deq x d)) H
theorem op_inP (hu : X.A.units + 64 < cLine) : OpR X (compareOp .In) (rInP false) := by
  intro pins s σ H x y v u Q I rx ry h
  obtain ⟨W, d, ds, h1, h2, r1, r2, q⟩ := h
  rcases r2 with r2 | r2
  · obtain ⟨a, vs, its, rfl, hl, rv, rr, _⟩ := atL I r2 ry
    obtain ⟨e, he, ea⟩ := mem_eqAtD I (A := X.A.in1) h1 r1 rx (by show X.A.units + 1 + 50 < cLine; omega) rr rv (by simpa using h2)
    refine SeqAt.in_listAt e hl (fun y hy => he y (by simpa using hy)) ?_
    rw [List.any_toArray, ea]
    exact ⟨.bl _, H, I, rfl, q⟩
  · obtain ⟨a, vs, its, rfl, hl, rv, rr, _⟩ := atT I r2 ry
    obtain ⟨e, he, ea⟩ := mem_eqAtD I (A := X.A.in1) h1 r1 rx (by show X.A.units + 1 + 50 < cLine; omega) rr rv (by simpa using h2)
    refine SeqAt.in_tupleAt e hl (fun y hy => he y (by simpa using hy)) ?_
    rw [List.any_toArray, ea]
    exact ⟨.bl _, H, I, rfl, q⟩
theorem op_notInP (hu : X.A.units + 64 < cLine) : OpR X (compareOp .NotIn) (rInP true) := by
  intro pins s σ H x y v u Q I rx ry h
  obtain ⟨W, d, ds, h1, h2, r1, r2, q⟩ := h
  rcases r2 with r2 | r2
  · obtain ⟨a, vs, its, rfl, hl, rv, rr, _⟩ := atL I r2 ry
    obtain ⟨e, he, ea⟩ := mem_eqAtD I (A := X.A.in1) h1 r1 rx (by show X.A.units + 1 + 50 < cLine; omega) rr rv (by simpa using h2)
    refine SeqAt.notIn_listAt e hl (fun y hy => he y (by simpa using hy)) ?_
    rw [List.any_toArray, ea]
    exact ⟨.bl _, H, I, rfl, q⟩
  · obtain ⟨a, vs, its, rfl, hl, rv, rr, _⟩ := atT I r2 ry
    obtain ⟨e, he, ea⟩ := mem_eqAtD I (A := X.A.in1) h1 r1 rx (by show X.A.units + 1 + 50 < cLine; omega) rr rv (by simpa using h2)
    refine SeqAt.notIn_tupleAt e hl (fun y hy => he y (by simpa using hy)) ?_
    rw [List.any_toArray, ea]
    exact ⟨.bl _, H, I, rfl, q⟩
theorem xo_in {k : Nat} (hr : Room k X.A) : XO B X Wx (compareOp .In) (oIn false) := .of ((op_inP hr.units).or op_in_sign) fun S H x y dx dy Q E k w r1 r2 q ke => by
  cases dy <;> first | exact False.elim q | skip
  · obtain ⟨c, rfl, q⟩ := q
    exact .inr ⟨c, _, repS r1, repS r2, ke _ H _ (Fut.refl w) mkB q⟩
  · exact .inl ⟨_, dx, _, q.1, q.2.1, r1, .inl r2, ke _ H _ (Fut.refl w) mkB q.2.2⟩
  · exact .inl ⟨_, dx, _, q.1, q.2.1, r1, .inr r2, ke _ H _ (Fut.refl w) mkB q.2.2⟩
theorem xo_notIn {k : Nat} (hr : Room k X.A) : XO B X Wx (compareOp .NotIn) (oIn true) := .of ((op_notInP hr.units).or op_notIn_sign) fun S H x y dx dy Q E k w r1 r2 q ke => by
  cases dy <;> first | exact False.elim q | skip
  · obtain ⟨c, rfl, q⟩ := q
    exact .inr ⟨c, _, repS r1, repS r2, ke _ H _ (Fut.refl w) mkB q⟩
  · exact .inl ⟨_, dx, _, q.1, q.2.1, r1, .inl r2, ke _ H _ (Fut.refl w) mkB q.2.2⟩
  · exact .inl ⟨_, dx, _, q.1, q.2.1, r1, .inr r2, ke _ H _ (Fut.refl w) mkB q.2.2⟩
def oNeg : DUn := fun x Q _ => match x with
  | .int i => Q (.int (-i))
  | _ => False
theorem xu_neg : XU B X Wx (unaryOp .USub) oNeg := ⟨fun _ => rU fun i => .int (-i), fun pins s σ H x v Q => un_neg pins s σ H x v Q, fun S σ H x dx Q E k w r1 q ke _ => by
  cases dx <;> first | exact False.elim q | skip
  exact ⟨_, repI r1, ke _ H _ (Fut.refl w) mkI q⟩⟩
end
end Pu
namespace Pu
open PySem PySem.Spec PyProof.Rows L2
open PySem.W (findIn kitOne kitAny clsIn typeIn subIn mroIn)
/-! ## subscripts -/
def cutD (xs : List D) (lo hi : Option Int) : List D := (xs.drop (HT.sIx xs.length 0 lo)).take (HT.sIx xs.length xs.length hi - HT.sIx xs.length 0 lo)
def oIx : DOp := fun x y Q _ => match x, y with
  | .lst ds, .int i => match atI ds i with
    | some d => Q d
    | none => False
  | .tup ds, .int i => match atI ds i with
    | some d => Q d
    | none => False
  | .str z, .int i => z.length ≤ 100000 ∧ match atI z.cps.toList i with
    | some c => Q (.str ⟨#[c]⟩)
    | none => False
  | _, _ => False
def rPo (p : Option XP) : List Sl → (Option Int → Prop) → (Exn → Prop) → Prop := fun G Q E => match p with
  | none => Q none
  | some p => p G (fun d => match d with
    | .int i => Q (some i)
    | _ => False) E
def oSl (x : D) (lo hi : Option Int) (Q : D → Prop) : Prop := match x with
  | .lst ds => Q (.lst (cutD ds lo hi))
  | .tup ds => Q (.tup (cutD ds lo hi))
  | .str z => z.length ≤ 100000 ∧ Q (.str (cutS z lo hi))
  | _ => False
def rSl (a : XP) (lo hi : Option XP) : XP := fun G Q E => a G (fun x => rPo lo G (fun l => rPo hi G (fun h => oSl x l h Q) E) E) E
structure XPo (B : Bs) (X : Cx) (Wx : WX) (e : Option Expr) (p : Option XP) : Prop where
  ex : ∃ t, PO X e t ∧ ∀ S σ H G (Q : Option Int → Prop) (E : Exn → Prop) (k : Option Int → Hp → Prop), Ok B S σ H G → rPo p G Q E → (∀ o H', Fut (B.W.at S) H H' → Q o → k o H') → KX (B.W.at S) σ H E Wx → t σ H k
theorem Reps.cut {W : Wd} {H : Hp} {ds : List D} {vs : List V} (h : Reps W H ds vs) (lo hi : Option Int) : Reps W H (cutD ds lo hi) (cutV vs lo hi) := by
  unfold cutD cutV
  rw [h.len]
  exact (h.drop _).take _
theorem Reps.atI {W : Wd} {H : Hp} {ds : List D} {vs : List V} {i : Int} {d : D} (h : Reps W H ds vs) (e : L2.atI ds i = some d) : ∃ v, L2.atI vs i = some v ∧ Rep W H d v := by
  unfold L2.atI at e ⊢
  rw [h.len]
  cases hx : ixN ds.length i with
  | none => rw [hx] at e; cases e
  | some j =>
    rw [hx] at e
    exact h.get e
section
variable {B : Bs} {X : Cx} {Wx : WX} {a b c e : Expr} {es : List Expr} {pa pb pc : XP} {pos : Pos} {pas : XAp}
theorem xe_ix (ha : XE B X Wx a pa) (hb : XE B X Wx b pb) (hs : PlainIx b := by exact fun _ _ => rfl) : XE B X Wx (.Subscript a b pos) (rBin oIx pa pb) := by
  obtain ⟨ta, ha, ea⟩ := ha.ex
  obtain ⟨tb, hb, eb⟩ := hb.ex
  refine ⟨_, pe_ix (ix_list.or (ix_tup.or ix_str)) ha hb hs, fun S σ H G Q E k O q ke kx => ?_⟩
  refine ev2 ea eb O q kx fun x y H' dx dy f O' r1 r2 h => ?_
  cases dx <;> cases dy <;> first | exact False.elim h | skip
  · rename_i z i
    obtain ⟨h1, h2⟩ := h
    cases hx : atI z.cps.toList i with
    | none => rw [hx] at h2; exact h2.elim
    | some ch =>
      rw [hx] at h2
      exact .inr (.inr ⟨z, i, ch, repS r1, repI r2, le_line h1, hx, ke _ H' _ f mkS h2⟩)
  · rename_i ds i
    obtain ⟨p, vs, rfl, n1, e1, z1⟩ := repL r1
    have h' : (match atI ds i with | some d => Q d | none => False) := h
    cases hx : atI ds i with
    | none => rw [hx] at h'; exact h'.elim
    | some d =>
      rw [hx] at h'
      obtain ⟨v, ev, rv⟩ := z1.atI hx
      exact .inl ⟨p, vs, i, v, rfl, repI r2, SqL.of e1, ev, ke _ H' _ f rv h'⟩
  · rename_i ds i
    obtain ⟨p, vs, rfl, n1, e1, z1⟩ := repT r1
    have h' : (match atI ds i with | some d => Q d | none => False) := h
    cases hx : atI ds i with
    | none => rw [hx] at h'; exact h'.elim
    | some d =>
      rw [hx] at h'
      obtain ⟨v, ev, rv⟩ := z1.atI hx
      exact .inr (.inl ⟨p, vs, i, v, rfl, repI r2, (.inl e1), ev, ke _ H' _ f rv h'⟩)
theorem xpo_none : XPo B X Wx none none := ⟨tNoPart, po_none, fun S σ H G Q E k O q ko _ => ko none H (Fut.refl O.wok) q⟩
theorem xpo_some (h : XE B X Wx e pa) : XPo B X Wx (some e) (some pa) := by
  obtain ⟨t, h, ev⟩ := h.ex
  refine ⟨tPart t, po_some h, fun S σ H G Q E k O q ko kx => ev S σ H G _ E _ O q (fun v H' d f r h => ?_) kx⟩
  cases d <;> first | exact False.elim h | skip
  exact ⟨_, repI r, ko _ H' f h⟩
theorem xe_slice {lo hi : Option Expr} {pl ph : Option XP} {p2} (ha : XE B X Wx a pa) (hl : XPo B X Wx lo pl) (hh : XPo B X Wx hi ph) : XE B X Wx (.Subscript a (.Slice lo hi none p2) pos) (rSl pa pl ph) := by
  obtain ⟨ta, ha, ea⟩ := ha.ex
  obtain ⟨tl, hl, el⟩ := hl.ex
  obtain ⟨th, hh, eh⟩ := hh.ex
  refine ⟨_, pe_slice (sl_list.or (sl_tupA.or sl_str)) ha hl hh, fun S σ H G Q E k O q ke kx => ?_⟩
  refine ea S σ H G _ E _ O q (fun x H1 d f1 r1 q1 => ?_) kx
  refine el S σ H1 G _ E _ (O.fut f1) q1 (fun l H2 f2 q2 => ?_) (kx.fut f1)
  refine eh S σ H2 G _ E _ ((O.fut f1).fut f2) q2 (fun u H3 f3 q3 => ?_) ((kx.fut f1).fut f2)
  have f := (f1.trans f2).trans f3
  have w3 := O.wok.fut f
  have r3 := (r1.fut (O.wok.fut f1) f2).fut ((O.wok.fut f1).fut f2) f3
  cases d <;> first | exact False.elim q3 | skip
  · exact .inr (.inr ⟨_, repS r3, le_line q3.1, ke _ H3 _ f mkS q3.2⟩)
  · rename_i ds
    obtain ⟨p, vs, rfl, n1, e1, z1⟩ := repL r3
    refine .inl ⟨p, vs, rfl, SqL.of e1, fun q hq => ?_⟩
    have g := fut_new (o := .lst (cutV vs l u)) w3 hq
    exact ke _ _ _ (f.trans g) (mkL (w3.new hq) upd_same ((z1.cut l u).fut w3 g)) q3
  · rename_i ds
    obtain ⟨p, vs, rfl, n1, e1, z1⟩ := repT r3
    refine .inr (.inl ⟨p, vs, rfl, (.inl e1), fun hw => ?_, fun hw q hq => ?_⟩)
    · refine ke _ _ _ f (mkT n1 e1 z1) ?_
      have : cutD ds l u = ds := by
        unfold cutD
        rw [z1.len] at hw
        rw [hw.1, hw.2]
        simp
      have q3' : Q (.tup (cutD ds l u)) := q3
      rwa [this] at q3'
    · have g := fut_new (o := .tup (cutV vs l u)) w3 hq
      exact ke _ _ _ (f.trans g) (mkT (w3.new hq) (.inl upd_same) ((z1.cut l u).fut w3 g)) q3
/-! ## fields -/
def rFld (m : List (Nat × Nat)) (a : XP) : XP := fun G Q E => a G (fun d => match d with
  | .ins c ds => match m.lookup c with
    | some i => match ds[i]? with
      | some x => Q x
      | none => False
    | none => False
  | _ => False) E
theorem lookup_zip : ∀ {ns : List Str} {vs : List V} {i : Nat} {f : Str} {v : V}, ns.Nodup → ns[i]? = some f → vs[i]? = some v → (ns.zip vs).lookup f = some v
  | [], _, i, _, _, _, e, _ => by cases i <;> cases e
  | n :: ns, [], i, _, _, _, _, e => by cases i <;> cases e
  | n :: ns, u :: vs, 0, f, v, nd, e1, e2 => by
    cases e1
    cases e2
    simp [List.lookup]
  | n :: ns, u :: vs, i + 1, f, v, nd, e1, e2 => by
    have hn : n ∉ ns := (List.nodup_cons.mp nd).1
    have e1' : ns[i]? = some f := by simpa using e1
    have e2' : vs[i]? = some v := by simpa using e2
    have hf : (f == n) = false := by
      rw [beq_eq_false_iff_ne]
      intro z
      subst z
      exact hn (List.mem_of_getElem? e1')
    rw [List.zip_cons_cons, List.lookup_cons, hf]
    exact lookup_zip (List.nodup_cons.mp nd).2 e1' e2'
theorem lookup_mem {α : Type} : ∀ {l : List (Nat × α)} {c : Nat} {x : α}, l.lookup c = some x → (c, x) ∈ l
  | [], _, _, h => by cases h
  | (d, y) :: l, c, x, h => by
    rw [List.lookup_cons] at h
    by_cases e : c = d
    · subst e
      simp at h
      subst h
      exact List.mem_cons_self
    · have : (c == d) = false := by simpa using e
      rw [this] at h
      exact List.mem_cons_of_mem _ (lookup_mem h)
/-- what the classes say of a field -/
def FldOk (K : PySem.W.Frag) (CT : Nat → Addr) (lay : Nat → List Str) (f : Str) (m : List (Nat × Nat)) : Prop := ∀ p ∈ m, Cls K (CT p.1) ∧ NoAttr K (CT p.1) f ∧ (lay p.1)[p.2]? = some f ∧ (lay p.1).Nodup
theorem repO {W : Wd} {H : Hp} {c : Nat} {ds : List D} {v : V} (h : Rep W H (.ins c ds) v) : ∃ a dx vs, v = .ref a ∧ ¬ W.S a ∧ H a = some (.ins (W.CT c) dx ((W.lay c).zip vs)) ∧ vs.length = (W.lay c).length ∧ Reps W H ds vs := by simpa only [Rep] using h
theorem mkO {W : Wd} {H : Hp} {c : Nat} {ds : List D} {a dx : Addr} {vs : List V} (n : ¬ W.S a) (e : H a = some (.ins (W.CT c) dx ((W.lay c).zip vs))) (l : vs.length = (W.lay c).length) (r : Reps W H ds vs) : Rep W H (.ins c ds) (.ref a) := by
  simp only [Rep]
  exact ⟨a, dx, vs, rfl, n, e, l, r⟩
theorem xe_fld {f : Str} {m : List (Nat × Nat)} (h : FldOk X.K B.W.CT B.W.lay f m) (ha : XE B X Wx a pa) (hb : attributeBase a f X.env (eval a X.env) = eval a X.env := by rfl) : XE B X Wx (.Attribute a f pos) (rFld m pa) := by
  obtain ⟨ta, ha, ea⟩ := ha.ex
  refine ⟨_, pe_fld ha hb, fun S σ H G Q E k O q ke kx => ea S σ H G _ E _ O q (fun v H1 d f1 r h1 => ?_) kx⟩
  cases d <;> first | exact False.elim h1 | skip
  rename_i c ds
  have h1' : (match m.lookup c with | some i => (match ds[i]? with | some x => Q x | none => False) | none => False) := h1
  cases hm : m.lookup c with
  | none => rw [hm] at h1'; exact h1'.elim
  | some i =>
    rw [hm] at h1'
    dsimp only at h1'
    obtain ⟨k1, k2, k3, k4⟩ := h _ (lookup_mem hm)
    obtain ⟨p, dx, vs, rfl, n, e1, l, rr⟩ := repO r
    cases hx : ds[i]? with
    | none => rw [hx] at h1'; exact h1'.elim
    | some x =>
      rw [hx] at h1'
      obtain ⟨v, ev, rv⟩ := rr.get hx
      exact ⟨p, _, dx, _, v, rfl, e1, k1, k2, lookup_zip k4 k3 ev, ke _ H1 _ f1 rv h1'⟩
/-- a field of the object that is being made, in slot i -/
def rOwn (m : List (Nat × Nat)) (i : Nat) : XP := fun G Q _ => match G[i]? with
  | some (.obj c ds) => match m.lookup c with
    | some j => match ds[j]? with
      | some x => Q x
      | none => False
    | none => False
  | _ => False
theorem zip_take : ∀ (ns : List Str) (vs : List V), (ns.zip vs) = (ns.zip vs) := fun _ _ => rfl
theorem xe_own {f : Str} {m : List (Nat × Nat)} {x : Str} {p1 : Pos} (h : FldOk X.K B.W.CT B.W.lay f m) (i : Nat) (hN : X.N[i]? = some x := by rfl) (hv : Vis X.env.scope x := by first | exact Or.inl rfl | exact Or.inr (Or.inl rfl) | exact Or.inr (Or.inr rfl)) (hd : (x == ("__debug__" : Str)) = false := by decide)
    (hcd : (x == ("__classdict__" : Str)) = false := by decide) (hb : attributeBase (.Name x p1) f X.env (eval (.Name x p1) X.env) = eval (.Name x p1) X.env := by rfl) : XE B X Wx (.Attribute (.Name x p1) f pos) (rOwn m i) := by
  refine ⟨_, pe_fld (pe_var hN hv hd hcd) hb, fun S σ H G Q E k O q ke kx => ?_⟩
  unfold rOwn at q
  cases hg : G[i]? with
  | none => rw [hg] at q; exact q.elim
  | some g =>
    rw [hg] at q
    cases g <;> first | exact False.elim q | skip
    rename_i c ds
    dsimp only at q
    cases hm : m.lookup c with
    | none => rw [hm] at q; exact q.elim
    | some j =>
      rw [hm] at q
      dsimp only at q
      obtain ⟨k1, k2, k3, k4⟩ := h _ (lookup_mem hm)
      obtain ⟨o, eo, p, dx, vs, rfl, me, s1, s2, s3, e1, l, rr⟩ := O.get hg
      cases hx : ds[j]? with
      | none => rw [hx] at q; exact q.elim
      | some y =>
        rw [hx] at q
        obtain ⟨v, ev, rv⟩ := rr.get hx
        exact ⟨_, eo, p, _, dx, _, v, rfl, e1, k1, k2, lookup_zip k4 k3 ev, ke _ H _ (Fut.refl O.wok) rv q⟩
/-! ## built-in functions -/
structure XF (B : Bs) (X : Cx) (Wx : WX) (f : Value) (o : DFn) : Prop where
  ex : ∃ r, CallR X f r ∧ ∀ S H xs dxs Q E k, WOk (B.W.at S) H → Reps (B.W.at S) H dxs xs → o dxs Q E → KE (B.W.at S) H Q k → r xs H k
theorem xe_callB {id : String} {x : Str} {p : Pos} {o : DFn} (hc : XF B X Wx (.builtin id) o) (hm : X.mg x = none) (hv : bootBuiltins x = some (.builtin id)) (ha : XA B X Wx (e :: es) pas) (hg : Gl X x := by rfl) (hn : x ≠ "__name__" := by decide) (hdb : (x == ("__debug__" : Str)) = false := by decide)
    (he : starEach (e :: es) X.env = (false, eval e X.env) :: starEach es X.env := by rfl) (hpl : (backTo pos (starEach es X.env)).any (·.1) = false := by rfl) : XE B X Wx (.Call (.Name x p) (e :: es) [] pos) (rFn o pas) := by
  obtain ⟨r, h1, h2⟩ := hc.ex
  obtain ⟨t, ha, ea⟩ := ha.ex
  refine ⟨_, pe_callB h1 hg hm hv ha hn hdb he hpl, fun S σ H G Q E k O q ke kx => ea S σ H G _ E _ O q (fun vs H1 ds f1 r1 q1 => ?_) kx⟩
  exact h2 S H1 vs ds Q E k (O.wok.fut f1) r1 q1 (ke.fut f1)
theorem xe_callTy {T : String} {x : Str} {p : Pos} {o : DFn} (hc : XF B X Wx (.type T) o) (hm : X.mg x = none) (hv : bootBuiltins x = some (.type T)) (ha : XA B X Wx (e :: es) pas) (hg : Gl X x := by rfl) (hn : x ≠ "__name__" := by decide) (hdb : (x == ("__debug__" : Str)) = false := by decide)
    (he : starEach (e :: es) X.env = (false, eval e X.env) :: starEach es X.env := by rfl) (hpl : (backTo pos (starEach es X.env)).any (·.1) = false := by rfl) : XE B X Wx (.Call (.Name x p) (e :: es) [] pos) (rFn o pas) := by
  obtain ⟨r, h1, h2⟩ := hc.ex
  obtain ⟨t, ha, ea⟩ := ha.ex
  refine ⟨_, pe_callTy h1 hg hm hv ha hn hdb he hpl, fun S σ H G Q E k O q ke kx => ea S σ H G _ E _ O q (fun vs H1 ds f1 r1 q1 => ?_) kx⟩
  exact h2 S H1 vs ds Q E k (O.wok.fut f1) r1 q1 (ke.fut f1)
theorem reps1 {W : Wd} {H : Hp} {d : D} {vs : List V} (h : Reps W H [d] vs) : ∃ v, vs = [v] ∧ Rep W H d v := by
  simp only [Reps] at h
  obtain ⟨v, r, rfl, h1, rfl⟩ := h
  exact ⟨v, rfl, h1⟩
theorem reps2 {W : Wd} {H : Hp} {d e : D} {vs : List V} (h : Reps W H [d, e] vs) : ∃ v w, vs = [v, w] ∧ Rep W H d v ∧ Rep W H e w := by
  simp only [Reps] at h
  obtain ⟨v, r, rfl, h1, w, r', rfl, h2, rfl⟩ := h
  exact ⟨v, w, rfl, h1, h2⟩
def oLen : DFn := fun xs Q _ => match xs with
  | [.lst ds] => Q (.int ds.length)
  | [.tup ds] => Q (.int ds.length)
  | [.str z] => z.length ≤ 100000 ∧ Q (.int z.length)
  | _ => False
theorem xf_len : XF B X Wx (.builtin "len") oLen := ⟨_, call_len_seq.or call_len_str, fun S H xs dxs Q E k w r q ke => by
  cases dxs with
  | nil => exact False.elim q
  | cons d ds =>
    cases ds with
    | cons d2 ds => cases d <;> exact False.elim q
    | nil =>
      obtain ⟨v, rfl, r9⟩ := reps1 r
      cases d <;> first | exact False.elim q | skip
      · rw [repS r9]
        exact .inr ⟨_, rfl, le_line q.1, ke _ H _ (Fut.refl w) mkI q.2⟩
      · obtain ⟨a, vs, rfl, n, e1, z⟩ := repL r9
        exact .inl ⟨a, vs, rfl, .inl (SqL.of e1), by rw [z.len]; exact ke _ H _ (Fut.refl w) mkI q⟩
      · obtain ⟨a, vs, rfl, n, e1, z⟩ := repT r9
        exact .inl ⟨a, vs, rfl, .inr ((.inl e1)), by rw [z.len]; exact ke _ H _ (Fut.refl w) mkI q⟩⟩
def oInt : DFn := fun xs Q _ => match xs with
  | [.int i] => Q (.int i)
  | [.bl b] => Q (.int (if b = true then 1 else 0))
  | _ => False
theorem xf_int : XF B X Wx (.type "int") oInt := ⟨_, call_int1, fun S H xs dxs Q E k w r q ke => by
  cases dxs with
  | nil => exact False.elim q
  | cons d ds =>
    cases ds with
    | cons d2 ds => cases d <;> exact False.elim q
    | nil =>
      obtain ⟨v, rfl, r9⟩ := reps1 r
      cases d <;> first | exact False.elim q | skip
      · rw [repB r9]
        exact .inr ⟨_, rfl, ke _ H _ (Fut.refl w) mkI q⟩
      · rw [repI r9]
        exact .inl ⟨_, rfl, ke _ H _ (Fut.refl w) mkI q⟩⟩
def oAbs : DFn := fun xs Q _ => match xs with
  | [.int i] => Q (.int (if i < 0 then -i else i))
  | _ => False
theorem xf_abs : XF B X Wx (.builtin "abs") oAbs := ⟨_, call_abs, fun S H xs dxs Q E k w r q ke => by
  cases dxs with
  | nil => exact False.elim q
  | cons d ds =>
    cases ds with
    | cons d2 ds => cases d <;> exact False.elim q
    | nil =>
      obtain ⟨v, rfl, r9⟩ := reps1 r
      cases d <;> first | exact False.elim q | skip
      rw [repI r9]
      exact ⟨_, rfl, ke _ H _ (Fut.refl w) mkI q⟩⟩
def oMin2 : DFn := fun xs Q _ => match xs with
  | [.int i, .int j] => Q (.int (if j < i then j else i))
  | _ => False
theorem xf_min2 (hc : X.calm = true) : XF B X Wx (.builtin "min") oMin2 := ⟨_, call_min2 hc, fun S H xs dxs Q E k w r q ke => by
  cases dxs with
  | nil => exact False.elim q
  | cons d ds =>
    cases ds with
    | nil => cases d <;> exact False.elim q
    | cons d2 ds =>
      cases ds with
      | cons d3 ds => cases d <;> cases d2 <;> exact False.elim q
      | nil =>
        obtain ⟨v, u, rfl, r1, r2⟩ := reps2 r
        cases d <;> cases d2 <;> first | exact False.elim q | skip
        rw [repI r1, repI r2]
        exact ⟨_, _, rfl, ke _ H _ (Fut.refl w) mkI q⟩⟩
def oStr : DFn := fun xs Q _ => match xs with
  | [.int i] => i.natAbs.log2 < 1920 ∧ Q (.str (toString i))
  | _ => False
theorem xf_str : XF B X Wx (.type "str") oStr := ⟨_, call_str_int, fun S H xs dxs Q E k w r q ke => by
  cases dxs with
  | nil => exact False.elim q
  | cons d ds =>
    cases ds with
    | cons d2 ds => cases d <;> exact False.elim q
    | nil =>
      obtain ⟨v, rfl, r9⟩ := reps1 r
      cases d <;> first | exact False.elim q | skip
      rw [repI r9]
      exact ⟨_, rfl, q.1, ke _ H _ (Fut.refl w) mkS q.2⟩⟩
def oList : DFn := fun xs Q _ => match xs with
  | [.lst ds] => Q (.lst ds)
  | [.tup ds] => Q (.lst ds)
  | _ => False
theorem xf_list : XF B X Wx (.type "list") oList := ⟨_, call_list_of, fun S H xs dxs Q E k w r q ke => by
  cases dxs with
  | nil => exact False.elim q
  | cons d ds =>
    cases ds with
    | cons d2 ds => cases d <;> exact False.elim q
    | nil =>
      obtain ⟨v, rfl, r9⟩ := reps1 r
      cases d <;> first | exact False.elim q | skip
      · obtain ⟨a, vs, rfl, n, e1, z⟩ := repL r9
        refine ⟨a, vs, rfl, .inl (SqL.of e1), fun l hl => ?_⟩
        have g := fut_new (o := .lst vs) w hl
        exact ke _ _ _ g (mkL (w.new hl) upd_same (z.fut w g)) q
      · obtain ⟨a, vs, rfl, n, e1, z⟩ := repT r9
        refine ⟨a, vs, rfl, .inr ((.inl e1)), fun l hl => ?_⟩
        have g := fut_new (o := .lst vs) w hl
        exact ke _ _ _ g (mkL (w.new hl) upd_same (z.fut w g)) q⟩
def oTup : DFn := fun xs Q _ => match xs with
  | [.lst ds] => Q (.tup ds)
  | [.tup ds] => Q (.tup ds)
  | _ => False
theorem xf_tup : XF B X Wx (.type "tuple") oTup := ⟨_, call_tuple_of, fun S H xs dxs Q E k w r q ke => by
  cases dxs with
  | nil => exact False.elim q
  | cons d ds =>
    cases ds with
    | cons d2 ds => cases d <;> exact False.elim q
    | nil =>
      obtain ⟨v, rfl, r9⟩ := reps1 r
      cases d <;> first | exact False.elim q | skip
      · obtain ⟨a, vs, rfl, n, e1, z⟩ := repL r9
        refine ⟨a, vs, rfl, .inl ⟨SqL.of e1, fun l hl => ?_⟩⟩
        have g := fut_new (o := .tup vs) w hl
        exact ke _ _ _ g (mkT (w.new hl) (.inl upd_same) (z.fut w g)) q
      · obtain ⟨a, vs, rfl, n, e1, z⟩ := repT r9
        exact ⟨a, vs, rfl, .inr ⟨(.inl e1), ke _ H _ (Fut.refl w) (mkT n e1 z) q⟩⟩⟩
/-! ## isinstance -/
inductive Ty where
  | b (n : String) | c (n : Nat)
def tyn : D → String
  | .non => "NoneType"
  | .bl _ => "bool"
  | .int _ => "int"
  | .str _ => "str"
  | .lst _ => "list"
  | .tup _ => "tuple"
  | .ftp _ => "tuple"
  | .dic _ _ => "dict"
  | _ => ""
def isT (d : D) (t : Ty) : Bool := match d, t with
  | .ins c _, .c n => c == n
  | .ins _ _, .b _ => false
  | _, .c _ => false
  | d, .b n => tyn d == n || (tyn d == "bool" && n == "int")
def okI (cs : List Nat) : D → Prop
  | .ins c _ => c ∈ cs
  | .val _ => False
  | .law => False
  | .exn _ _ => False
  | _ => True
def oIsi (cs : List Nat) (ts : List Ty) : DUn := fun d Q _ => okI cs d ∧ Q (.bl (ts.any (isT d)))
structure ClsF (K : PySem.W.Frag) (C : Addr) : Prop where
  cl : Cls K C
  cA : findIn K (.ref C) "__class__" = some (some (.builtin "object.__class__"))
  ex : ∃ cd, clsIn K C = some cd ∧ cd.mro = [.ref C, .type "object"]
  ty : typeIn K (.ref C) = some (.type "type")
structure ClsX (K : PySem.W.Frag) (CT : Nat → Addr) (cs : List Nat) : Prop where
  f : ∀ c ∈ cs, ClsF K (CT c)
  cN : PySem.W.specialIn K (.builtin "object.__class__") "__get__" = some (some (.builtin "getset_descriptor.__get__"))
  cK : PySem.W.takesIn K (.builtin "object.__class__") = some true
  inj : ∀ c ∈ cs, ∀ c' ∈ cs, CT c = CT c' → c = c'
def builtinTys : List String := ["NoneType", "bool", "int", "str", "list", "tuple", "dict"]
theorem kit_bb : ∀ a ∈ builtinTys, ∀ b ∈ builtinTys, kitB a b = some (a == b || (a == "bool" && b == "int")) := by decide +kernel
theorem mro_b : ∀ a ∈ builtinTys, (PySem.fastBuiltinMro a).isSome = true ∧ ∀ l, PySem.fastBuiltinMro a = some l → l.all (fun v => match v with | .ref _ => false | _ => true) = true := by
  have : builtinTys.all (fun a => match PySem.fastBuiltinMro a with | some l => l.all (fun v => match v with | .ref _ => false | _ => true) | none => false) = true := by decide +kernel
  intro a ha
  have h := List.all_eq_true.mp this a ha
  cases hx : PySem.fastBuiltinMro a with
  | none => rw [hx] at h; cases h
  | some l =>
    rw [hx] at h
    refine ⟨rfl, fun l' e => ?_⟩
    cases e
    exact h
theorem kit_bc {K : PySem.W.Frag} {a : String} {C : Addr} (ha : a ∈ builtinTys) (F : ClsF K C) : kitOne K (.type a) (.ref C) = some false := by
  obtain ⟨cd, h1, h2⟩ := F.ex
  obtain ⟨k1, k2⟩ := mro_b a ha
  obtain ⟨l, hl⟩ := Option.isSome_iff_exists.mp k1
  have e : ((Value.type a == Value.ref C) = true) = False := by simp
  unfold kitOne
  rw [if_neg (by rw [e]; exact id)]
  unfold PySem.W.kitCls
  dsimp only
  rw [h1, F.ty]
  rw [if_pos (by simp)]
  unfold subIn
  dsimp only
  rw [hl]
  have : l.contains (Value.ref C) = false := by
    rw [Bool.eq_false_iff]
    intro z
    have := List.all_eq_true.mp (k2 l hl) _ (List.contains_iff_mem.mp z)
    cases this
  rw [Option.map_some, this]
theorem kit_cb {K : PySem.W.Frag} {b : String} {C : Addr} (hb : b ∈ builtinTys) (F : ClsF K C) : kitOne K (.ref C) (.type b) = some false := by
  obtain ⟨cd, h1, h2⟩ := F.ex
  have hm : ∀ b ∈ builtinTys, PySem.W.kitMeta b = true := by decide +kernel
  have ho : ∀ b ∈ builtinTys, (Value.type "object" == Value.type b) = false := by decide +kernel
  have e : ((Value.ref C == Value.type b) = true) = False := by simp
  unfold kitOne
  rw [if_neg (by rw [e]; exact id)]
  unfold PySem.W.kitCls
  dsimp only
  rw [if_pos (hm b hb)]
  unfold subIn mroIn
  dsimp only
  rw [h1, Option.bind_some, h2]
  simp
  intro z
  have := ho b hb
  rw [z] at this
  simp at this
theorem kit_cc {K : PySem.W.Frag} {C C' : Addr} (F : ClsF K C) (F' : ClsF K C') : kitOne K (.ref C) (.ref C') = some (decide (C = C')) := by
  obtain ⟨cd, h1, h2⟩ := F.ex
  obtain ⟨cd', h1', h2'⟩ := F'.ex
  unfold kitOne
  by_cases hc : C = C'
  · subst hc
    rw [if_pos (by simp), decide_eq_true rfl]
  · rw [if_neg (by simpa using hc)]
    unfold PySem.W.kitCls
    dsimp only
    rw [h1', F'.ty, if_pos (by simp)]
    unfold subIn mroIn
    dsimp only
    rw [h1, Option.bind_some, h2, decide_eq_false hc]
    simp
    intro z
    exact hc z.symm
/-- the type of a datum's value -/
def tyv (CT : Nat → Addr) : D → Value
  | .ins c _ => .ref (CT c)
  | d => .type (tyn d)
theorem tyX {W : Wd} {K : PySem.W.Frag} {H : Hp} {cs : List Nat} (F : ClsX K W.CT cs) {d : D} {v : V} (h : Rep W H d v) (o : okI cs d) : TyX K H v (tyv W.CT d) := by
  cases d with
  | non => simp only [Rep] at h; subst h; exact .base .non
  | bl b => rw [repB h]; exact .base (.bl b)
  | int i => rw [repI h]; exact .base (.int i)
  | str x => rw [repS h]; exact .base (.str x)
  | val u => exact o.elim
  | law => exact o.elim
  | lst ds => obtain ⟨a, vs, rfl, n, e, z⟩ := repL h; exact .base (.lst e)
  | tup ds => 
    obtain ⟨a, vs, rfl, n, e, z⟩ := repT h
    rcases e with e | ⟨o, e⟩
    · exact .base (.tup e)
    · exact .fTuple e
  | ftp ds =>
    simp only [Rep] at h
    obtain ⟨a, vs, o, rfl, n, dn, e, z⟩ := h
    exact .fTuple e
  | ins c ds =>
    obtain ⟨a, dx, vs, rfl, n, e, l, z⟩ := repO h
    have G := F.f c o
    obtain ⟨cd, h1, h2⟩ := G.ex
    refine .base (.ins e G.cl G.cA F.cN F.cK ?_)
    unfold mroIn
    rw [h1, Option.bind_some, h2]
    simp
  | dic ks ds =>
    simp only [Rep] at h
    obtain ⟨a, vs, rfl, n, e, l, z⟩ := h
    exact .base (.dK e)
  | exn c ds => exact o.elim
def tyVal (CT : Nat → Addr) : Ty → Value
  | .b n => .type n
  | .c n => .ref (CT n)
def tyV' (CT : Nat → Addr) : Ty → V
  | .b n => .ty n
  | .c n => .ref (CT n)
def TyOk (cs : List Nat) : Ty → Prop
  | .b n => n ∈ builtinTys
  | .c n => n ∈ cs
theorem tyn_mem {d : D} (cs : List Nat) (o : okI cs d) (h : ∀ c ds, d ≠ .ins c ds) : tyn d ∈ builtinTys := by
  cases d <;> first | exact o.elim | (exact absurd rfl (h _ _)) | (show _ ∈ builtinTys; unfold tyn builtinTys; simp)
theorem kit_ok {K : PySem.W.Frag} {CT : Nat → Addr} {cs : List Nat} (F : ClsX K CT cs) {d : D} {t : Ty} (o : okI cs d) (ht : TyOk cs t) : kitOne K (tyv CT d) (tyVal CT t) = some (isT d t) := by
  cases t with
  | b n =>
    have hn : n ∈ builtinTys := ht
    by_cases hi : ∃ c ds, d = .ins c ds
    · obtain ⟨c, ds, rfl⟩ := hi
      exact kit_cb hn (F.f c o)
    · have hi' : ∀ c ds, d ≠ .ins c ds := fun c ds z => hi ⟨c, ds, z⟩
      have m := tyn_mem cs o hi'
      have e1 : tyv CT d = .type (tyn d) := by cases d <;> first | rfl | exact absurd rfl (hi' _ _)
      have e2 : isT d (.b n) = (tyn d == n || (tyn d == "bool" && n == "int")) := by cases d <;> first | rfl | exact absurd rfl (hi' _ _)
      rw [e1, e2]
      exact kit_ty (kit_bb _ m n hn)
  | c n =>
    have hn : n ∈ cs := ht
    by_cases hi : ∃ c ds, d = .ins c ds
    · obtain ⟨c, ds, rfl⟩ := hi
      show kitOne K (.ref (CT c)) (.ref (CT n)) = some (c == n)
      rw [kit_cc (F.f c o) (F.f n hn)]
      by_cases e : c = n
      · subst e
        simp
      · have : CT c ≠ CT n := fun z => e (F.inj c o n hn z)
        rw [decide_eq_false this]
        simp [e]
    · have hi' : ∀ c ds, d ≠ .ins c ds := fun c ds z => hi ⟨c, ds, z⟩
      have m := tyn_mem cs o hi'
      have e1 : tyv CT d = .type (tyn d) := by cases d <;> first | rfl | exact absurd rfl (hi' _ _)
      have e2 : isT d (.c n) = false := by cases d <;> first | rfl | exact absurd rfl (hi' _ _)
      rw [e1, e2]
      exact kit_bc m (F.f n hn)
theorem kitAny_ok {K : PySem.W.Frag} {CT : Nat → Addr} {cs : List Nat} (F : ClsX K CT cs) {d : D} (o : okI cs d) : ∀ {ts : List Ty}, (∀ t ∈ ts, TyOk cs t) → kitAny K (tyv CT d) (ts.map (tyVal CT)) = some (ts.any (isT d))
  | [], _ => rfl
  | t :: ts, h => by
    have h1 := kit_ok F o (h t (by simp))
    have h2 := kitAny_ok F o (ts := ts) fun x hx => h x (by simp [hx])
    rw [List.map_cons, List.any_cons]
    unfold kitAny
    rw [h1]
    cases isT d t with
    | true => rfl
    | false => exact h2
def XTy (B : Bs) (X : Cx) (Wx : WX) (e : Expr) (t : Ty) : Prop := XE B X Wx e (rC (.val (tyV' B.W.CT t)))
theorem xe_isi {cs : List Nat} {t : Ty} {x : Str} {p : Pos} (F : ClsX X.K B.W.CT cs) (ht : TyOk cs t) (hm : X.mg x = none) (hv : bootBuiltins x = some (.builtin "isinstance")) (ha : XE B X Wx a pa) (hb : XTy B X Wx b t)
    (hg : Gl X x := by rfl) (hn : x ≠ "__name__" := by decide) (hdb : (x == ("__debug__" : Str)) = false := by decide) (he : starEach [a, b] X.env = (false, eval a X.env) :: starEach [b] X.env := by rfl) (he2 : starEach [b] X.env = (false, eval b X.env) :: starEach [] X.env := by rfl) (hpl : (backTo pos (starEach [b] X.env)).any (·.1) = false := by rfl) :
    XE B X Wx (.Call (.Name x p) [a, b] [] pos) (rUn (oIsi cs [t]) pa) := by
  obtain ⟨ta, ha, ea⟩ := ha.ex
  obtain ⟨tb, hb, eb⟩ := hb.ex
  refine ⟨_, pe_callB call_isi hg hm hv (pa_cons ha (pa_cons hb pa_nil he2) he) hn hdb he hpl, fun S σ H G Q E k O q ke kx => ea S σ H G _ E _ O q (fun v H1 d f1 r1 q1 => ?_) kx⟩
  refine eb S σ H1 G (fun y => y = .val (tyV' B.W.CT t)) E _ (O.fut f1) rfl (fun w H2 dw f2 r2 q2 => ?_) (kx.fut f1)
  subst q2
  simp only [Rep] at r2
  subst r2
  obtain ⟨o, q⟩ := q1
  have w1 := O.wok.fut f1
  refine ⟨v, _, tyv B.W.CT d, tyVal B.W.CT t, isT d t, rfl, ?_, tyX (W := B.W.at S) F (r1.fut w1 f2) o, kit_ok F o ht, ?_⟩
  · cases t with
    | b n => exact .ty n
    | c n => exact .own _
  · have : [t].any (isT d) = isT d t := by simp
    rw [this] at q
    exact ke _ H2 _ (f1.trans f2) mkB q
theorem xe_isiT {cs : List Nat} {ts : List Ty} {x : Str} {p p2 : Pos} {k2 : Nat} {elts : List Expr} (F : ClsX X.K B.W.CT cs) (ht : ∀ t ∈ ts, TyOk cs t) (hl : ts.length ≤ 1000) (hm : X.mg x = none) (hv : bootBuiltins x = some (.builtin "isinstance")) (ha : XE B X Wx a pa)
    (hb : XA B X Wx elts pas) (hp : ∀ G E, pas G (fun xs => xs = ts.map fun t => .val (tyV' B.W.CT t)) E)
    (hg : Gl X x := by rfl) (hn : x ≠ "__name__" := by decide) (hdb : (x == ("__debug__" : Str)) = false := by decide) (he : starEach [a, .Tuple elts k2 p2] X.env = (false, eval a X.env) :: starEach [.Tuple elts k2 p2] X.env := by rfl) (he2 : starEach [.Tuple elts k2 p2] X.env = (false, eval (.Tuple elts k2 p2) X.env) :: starEach [] X.env := by rfl) (hpl : (backTo pos (starEach [.Tuple elts k2 p2] X.env)).any (·.1) = false := by rfl) :
    XE B X Wx (.Call (.Name x p) [a, .Tuple elts k2 p2] [] pos) (rUn (oIsi cs ts) pa) := by
  obtain ⟨ta, ha, ea⟩ := ha.ex
  obtain ⟨tb, hb, eb⟩ := hb.ex
  refine ⟨_, pe_callB call_isiT hg hm hv (pa_cons ha (pa_cons (pe_tup hb) pa_nil he2) he) hn hdb he hpl, fun S σ H G Q E k O q ke kx => ea S σ H G _ E _ O q (fun v H1 d f1 r1 q1 => ?_) kx⟩
  refine eb S σ H1 G _ E _ (O.fut f1) (hp G E) (fun ws H2 dws f2 r2 q2 => ?_) (kx.fut f1)
  subst q2
  obtain ⟨o, q⟩ := q1
  have w1 := O.wok.fut f1
  have w2 := w1.fut f2
  have hw : ∀ {ts : List Ty} {ws : List V}, Reps (B.W.at S) H2 (ts.map fun t => .val (tyV' B.W.CT t)) ws → ws = ts.map (tyV' B.W.CT) := by
    intro ts
    induction ts with
    | nil => intro ws h; simpa only [Reps, List.map_nil] using h
    | cons t ts ih =>
      intro ws h
      simp only [Reps, List.map_cons] at h
      obtain ⟨v, r, rfl, h1, h2⟩ := h
      simp only [Rep] at h1
      rw [h1, ih h2, List.map_cons]
  have ew := hw r2
  subst ew
  refine ⟨le_line (by rw [List.length_map]; omega), fun q' hq => ?_⟩
  have g := fut_new (o := .tup (ts.map (tyV' B.W.CT))) w2 hq
  have pc : ∀ ts : List Ty, Paired ClsV (ts.map (tyV' B.W.CT)) (ts.map (tyVal B.W.CT)) := by
    intro ts
    induction ts with
    | nil => exact .nil
    | cons t ts ih =>
      refine .cons ?_ ih
      cases t with
      | b n => exact .ty n
      | c n => exact .own _
  exact ⟨v, q', ts.map (tyV' B.W.CT), tyv B.W.CT d, ts.map (tyVal B.W.CT), ts.any (isT d), rfl, upd_same, pc ts, tyX (W := B.W.at S) F ((r1.fut w1 f2).fut w2 g) o, kitAny_ok F o ht, ke _ _ _ ((f1.trans f2).trans g) mkB q⟩
end
end Pu
namespace Pu
open PySem PySem.Spec PyProof.Rows L2
/-! ## promises of data -/
def spP (CT : Nat → Addr) (lay : Nat → List Str) (F : DFn) : Sp := fun vs H Q E => ∃ (L : Option (Addr × Addr)) (S : Addr → Prop) (ds : List D) (Qd : D → Prop) (Ed : Exn → Prop),
  WOk ⟨CT, lay, L, S⟩ H ∧ Reps ⟨CT, lay, L, S⟩ H ds vs ∧ F ds Qd Ed ∧ KE ⟨CT, lay, L, S⟩ H Qd Q ∧ ∀ cls dd H' ex, Fut ⟨CT, lay, L, S⟩ H H' → ExOk ⟨CT, lay, L, S⟩ H' ex cls dd → Ed ex → E cls dd H'
/-- what an __init__ makes of its arguments: the fields -/
abbrev DIn := List D → (List D → Prop) → (Exn → Prop) → Prop
def delA (H : Hp) (p : Addr) : Hp := fun a => if a = p then none else H a
theorem delA_ne {H : Hp} {p a : Addr} (h : a ≠ p) : delA H p a = H a := if_neg h
theorem delA_same {H : Hp} {p : Addr} : delA H p p = none := if_pos rfl
def spI (CT : Nat → Addr) (lay : Nat → List Str) (c : Nat) (F : DIn) : Sp := fun vs H Q E => ∃ (L : Option (Addr × Addr)) (S : Addr → Prop) (p dx : Addr) (ws : List V) (ds : List D) (Qd : List D → Prop) (Ed : Exn → Prop),
  vs = .ref p :: ws ∧ H p = some (.ins (CT c) dx []) ∧ ¬ S p ∧ nL L p ∧ WOk ⟨CT, lay, L, S⟩ (delA H p) ∧ Reps ⟨CT, lay, L, S⟩ (delA H p) ds ws ∧ F ds Qd Ed ∧
  (∀ H' dx' us fs, Fut ⟨CT, lay, L, S⟩ (delA H p) H' → H' p = some (.ins (CT c) dx' ((lay c).zip us)) → us.length = (lay c).length → Reps ⟨CT, lay, L, S⟩ H' fs us → Qd fs → Q .non H') ∧
  ∀ cls dd H' ex, Fut ⟨CT, lay, L, S⟩ (delA H p) H' → ExOk ⟨CT, lay, L, S⟩ H' ex cls dd → Ed ex → E cls dd H'
section
variable {B : Bs} {X : Cx} {Wx : WX} {a b c e o : Expr} {es : List Expr} {pa pb pc : XP} {pos p apos : Pos} {pas : XAp} {k : Nat} {f : Addr} {fd : FuncData} {ps : List Str} {F : DFn} {dvs : List V} {dds : List D} {dsv : List Value} {x m : Str}
theorem xe_call (F1 : FnOk X.prog X.w X.K X.mg X.base (L2.CX X.prog X.w) k f fd ps (spP B.W.CT B.W.lay F)) (hr : Room k X.A) (hm : X.mg x = some (.ref f)) (hk : PySem.W.keepIn X.K (.ref f) = true) (hb : Binds X.K fd ps []) (tk : Takes X Wx) (ha : XA B X Wx (e :: es) pas)
    (hg : Gl X x := by rfl) (hdb : (x == ("__debug__" : Str)) = false := by decide) (he : starEach (e :: es) X.env = (false, eval e X.env) :: starEach es X.env := by rfl) (hpl : (backTo pos (starEach es X.env)).any (·.1) = false := by rfl) :
    XE B X Wx (.Call (.Name x p) (e :: es) [] pos) (rFn F pas) := by
  obtain ⟨t, ha, ea⟩ := ha.ex
  refine ⟨_, pe_callSD F1 hr hg hm hk hb .nil (passAt tk) ha hdb he hpl, fun S σ H G Q E k O q ke kx => ea S σ H G _ E _ O q (fun vs H1 ds f1 r1 q1 => ?_) kx⟩
  refine ⟨B.W.L, S, ds, Q, E, O.wok.fut f1, by rw [List.append_nil]; exact r1, q1, ke.fut f1, ?_⟩
  exact kx.fut f1
/-- .. with written defaults -/
theorem xe_callD (F1 : FnOk X.prog X.w X.K X.mg X.base (L2.CX X.prog X.w) k f fd ps (spP B.W.CT B.W.lay F)) (hr : Room k X.A) (hm : X.mg x = some (.ref f)) (hk : PySem.W.keepIn X.K (.ref f) = true) (hb : Binds X.K fd ps dsv) (hd : Vals dvs dsv) (hdd : ∀ W H, Reps W H dds dvs) (tk : Takes X Wx) (ha : XA B X Wx (e :: es) pas)
    (hg : Gl X x := by rfl) (hdb : (x == ("__debug__" : Str)) = false := by decide) (he : starEach (e :: es) X.env = (false, eval e X.env) :: starEach es X.env := by rfl) (hpl : (backTo pos (starEach es X.env)).any (·.1) = false := by rfl) :
    XE B X Wx (.Call (.Name x p) (e :: es) [] pos) (rFn (fun xs => F (xs ++ dds)) pas) := by
  obtain ⟨t, ha, ea⟩ := ha.ex
  refine ⟨_, pe_callSD F1 hr hg hm hk hb hd (passAt tk) ha hdb he hpl, fun S σ H G Q E k O q ke kx => ea S σ H G _ E _ O q (fun vs H1 ds f1 r1 q1 => ?_) kx⟩
  refine ⟨B.W.L, S, ds ++ dds, Q, E, O.wok.fut f1, r1.app (hdd _ _), q1, ke.fut f1, ?_⟩
  exact kx.fut f1
/-! methods: the class of the object decides -/
structure MEnt (P : Program) (w : World) (K : PySem.W.Frag) (mg : Str → Option Value) (base : Heap) (CT : Nat → Addr) (lay : Nat → List Str) (k : Nat) (m : Str) (n : Nat) (q : Nat × DFn) : Prop where
  ex : ∃ f fd ps, Cls K (CT q.1) ∧ Meth K (CT q.1) m f ∧ FnOk P w K mg base (L2.CX P w) k f fd ps (spP CT lay q.2) ∧ Binds K fd ps [] ∧ m ∉ lay q.1 ∧ ps.length = n + 1
def rMeth (tbl : List (Nat × DFn)) (a : XP) (as : XAp) : XP := fun G Q E => a G (fun d => match d with
  | .ins c ds => match tbl.lookup c with
    | some F => as G (fun xs => F (.ins c ds :: xs) Q E) E
    | none => False
  | _ => False) E
theorem no_field {ns : List Str} {vs : List V} {m : Str} (h : m ∉ ns) : (ns.zip vs).lookup m = none := by
  induction ns generalizing vs with
  | nil => rfl
  | cons n ns ih =>
    cases vs with
    | nil => rfl
    | cons v vs =>
      have : (m == n) = false := by
        rw [beq_eq_false_iff_ne]
        intro z
        exact h (by rw [z]; exact List.mem_cons_self)
      rw [List.zip_cons_cons, List.lookup_cons, this]
      exact ih fun z => h (List.mem_cons_of_mem _ z)
theorem run_pass {pins : List (Addr × Obj)} {σ : L2.St} {H : Hp} {s : Shared} {Q : VK} {us : List Value} {vs : List V} {sp : Sp} {E : L2.St → XK} {CX : CXT} (F : FnOk X.prog X.w X.K X.mg X.base CX k f fd ps sp) (hr : Room k X.A) (hb : Binds X.K fd ps []) (hx : PassesAt CX X σ (E σ))
    (I : Inv X pins σ H s) (r : Vals vs us) (h : sp vs H Q (E σ)) : wpAny (model X.prog X.w) X.A (call (.ref f) us) (EP X pins σ Q) X.xe s := by
  have := run_fnSD (dvs := []) (ds := []) (E := E) F hr hb .nil hx I r (by rw [List.append_nil]; exact h)
  exact this
def tMethT (B : Bs) (K : PySem.W.Frag) (m : Str) (tbl : List (Nat × DFn)) (Wx : WX) (ta : TE) (t : TA) : TE := fun σ H Q => ta σ H fun x H1 => ∃ a dx fs q, q ∈ tbl ∧ x = .ref a ∧ H1 a = some (.ins (B.W.CT q.1) dx fs) ∧ fs.lookup m = none ∧
  t σ H1 fun vs H2 => spP B.W.CT B.W.lay q.2 (x :: vs) H2 Q (WE Wx σ)
theorem ev_meth {tbl : List (Nat × DFn)} {ta : TE} {t : TA} {P : Program} {w : World} {K : PySem.W.Frag} {mg : Str → Option Value} {base : Heap} {n : Nat} (M : ∀ q ∈ tbl, MEnt P w K mg base B.W.CT B.W.lay k m n q) (ea : EvE B Wx ta pa) (er : EvA B Wx t pas) : EvE B Wx (tMethT B K m tbl Wx ta t) (rMeth tbl pa pas) := by
  intro S σ H G Q E kk O q ke kx
  refine ea S σ H G _ E _ O q (fun v H1 d f1 r1 q1 => ?_) kx
  cases d <;> first | exact False.elim q1 | skip
  rename_i cc ds
  have q1' : (match tbl.lookup cc with | some F => pas G (fun xs => F (.ins cc ds :: xs) Q E) E | none => False) := q1
  cases hl : tbl.lookup cc with
  | none => rw [hl] at q1'; exact q1'.elim
  | some F =>
    rw [hl] at q1'
    dsimp only at q1'
    have hm := lookup_mem hl
    obtain ⟨f, fd, ps, c1, m1, F1, b1, nf, _⟩ := (M _ hm).ex
    obtain ⟨a, dx, vs, rfl, n1, e1, l1, z1⟩ := repO r1
    refine ⟨a, dx, _, (cc, F), hm, rfl, e1, no_field nf, ?_⟩
    refine er S σ H1 G _ E _ (O.fut f1) q1' (fun us H2 xs f2 r2 q2 => ?_) (kx.fut f1)
    have f12 := f1.trans f2
    exact ⟨B.W.L, S, .ins cc ds :: xs, Q, E, O.wok.fut f12, Reps.cons (r1.fut (O.wok.fut f1) f2) r2, q2, ke.fut f12, kx.fut f12⟩
theorem xe_meth {pl : Sem Bool} {tbl : List (Nat × DFn)} {n : Nat} (M : ∀ q ∈ tbl, MEnt X.prog X.w X.K X.mg X.base B.W.CT B.W.lay k m n q) (hr : Room k X.A) (tk : Takes X Wx) (ho : XE B X Wx o pa) (ha : XA B X Wx (e :: es) pas)
    (hst : starEach (e :: es) X.env = (false, eval e X.env) :: starEach es X.env := by rfl) (hpl : (backTo pos (starEach es X.env)).any (·.1) = false := by rfl)
    (ht : eval (.Call (.Attribute o m apos) (e :: es) [] pos) X.env = (do
      let ov ← eval o X.env
      standAt apos.atName
      let (f, first) ← holding [ov] (getMethod ov m pl)
      callWith pos f first (backTo pos (starEach (e :: es) X.env)) (backToKw pos (keywordEach [] X.env))) := by rfl) :
    XE B X Wx (.Call (.Attribute o m apos) (e :: es) [] pos) (rMeth tbl pa pas) := by
  obtain ⟨ta, hta, ea⟩ := ho.ex
  obtain ⟨t, htr, er⟩ := ha.ex
  refine ⟨tMethT B X.K m tbl Wx ta t, ⟨fun pins s σ H Q I h => ?_⟩, ev_meth M ea er⟩
  refine PySem.W.methodCall_KW (pl := pl) (thn (hta.run pins s σ H _ I h) fun u s1 ⟨x, H1, I1, rx, a, dx, fs, q, hq, ex, ea, l, q9⟩ => ?_) ht
  subst ex
  obtain rfl : u = Value.ref a := rx
  obtain ⟨f, fd, ps, c1, m1, F1, b1, _⟩ := (M q hq).ex
  refine getmeth_ok I1 ea c1 m1 l ?_
  refine PySem.W.callWith_K (first := [.ref a]) (h₀ := X.base) I.ok.mod.kin m1.kp (thn (htr.run pos pins s1 σ H1 _ I1 q9) fun us s2 ⟨vs, H2, I2, r, q2⟩ => ⟨I2.kIn, ?_⟩) hst hpl
  exact run_pass (us := .ref a :: us) (vs := .ref a :: vs) (E := WE Wx) F1 hr b1 (passAt tk σ) I2 (.cons rfl r) q2
theorem xe_meth0 {pl : Sem Bool} {tbl : List (Nat × DFn)} {n : Nat} (M : ∀ q ∈ tbl, MEnt X.prog X.w X.K X.mg X.base B.W.CT B.W.lay k m n q) (hr : Room k X.A) (tk : Takes X Wx) (ho : XE B X Wx o pa)
    (ht : eval (.Call (.Attribute o m apos) [] [] pos) X.env = (do
      let ov ← eval o X.env
      standAt apos.atName
      let (f, first) ← holding [ov] (getMethod ov m pl)
      callWith pos f first (backTo pos (starEach [] X.env)) (backToKw pos (keywordEach [] X.env))) := by rfl) :
    XE B X Wx (.Call (.Attribute o m apos) [] [] pos) (rMeth tbl pa rNil) := by
  obtain ⟨ta, hta, ea⟩ := ho.ex
  obtain ⟨t, htr, er⟩ := (xa_nil (B := B) (X := X) (Wx := Wx)).ex
  refine ⟨tMethT B X.K m tbl Wx ta tNil, ⟨fun pins s σ H Q I h => ?_⟩, ev_meth M ea (fun S σ H G Q E k O q ka _ => ka [] H [] (Fut.refl O.wok) Reps.nil q)⟩
  refine PySem.W.methodCall_KW (pl := pl) (thn (hta.run pins s σ H _ I h) fun u s1 ⟨x, H1, I1, rx, a, dx, fs, q, hq, ex, ea, l, q9⟩ => ?_) ht
  subst ex
  obtain rfl : u = Value.ref a := rx
  obtain ⟨f, fd, ps, c1, m1, F1, b1, _⟩ := (M q hq).ex
  refine getmeth_ok I1 ea c1 m1 l ?_
  exact PySem.W.callWith_K0 (first := [.ref a]) I1.kIn m1.kp (run_pass (us := [.ref a]) (vs := [.ref a]) (E := WE Wx) F1 hr b1 (passAt tk σ) I1 (.cons rfl .nil) q9)
/-! making objects -/
theorem run_makeSD {pins : List (Addr × Obj)} {σ : L2.St} {H : Hp} {s : Shared} {Q : VK} {us : List Value} {vs : List V} {sp : Sp} {E : L2.St → XK} {CX : CXT} {C : Addr} (M : Mk X.K C f) (F : FnOk X.prog X.w X.K X.mg X.base CX k f fd ps sp) (hr : Room (k + 1) X.A) (hb : Binds X.K fd ps dsv) (hd : Vals dvs dsv)
    (hx : PassesAt CX X σ (E σ)) (I : Inv X pins σ H s) (r : Vals vs us)
    (h : ∀ x dx, H x = none → H dx = none → dx ≠ x → sp (.ref x :: (vs ++ dvs)) (upd (upd H dx (.own x)) x (.ins C dx [])) (fun v H2 => v = .non ∧ Q (.ref x) H2) (E σ)) :
    wpAny (model X.prog X.w) X.A (call (.ref C) us) (EP X pins σ Q) X.xe s := by
  have hq := h (s.heap.objs.size + 1) s.heap.objs.size (I.hok.fresh (Nat.le_succ _)) (I.hok.fresh (Nat.le_refl _)) (Nat.ne_of_lt (Nat.lt_succ_self _))
  have I2 := Inv.made (C := C) I
  have r2 : Vals (V.ref (s.heap.objs.size + 1) :: (vs ++ dvs)) (Value.ref (s.heap.objs.size + 1) :: (us ++ dsv)) := .cons rfl (r.append hd)
  have hl : (Value.ref (s.heap.objs.size + 1) :: us ++ dsv).length = ps.length := by
    have e := r2.length
    rw [F.len _ _ _ _ hq] at e
    exact e.symm
  refine wpAny_call (make_map (f := f) I.kIn M.makes M.init (beq_iff_eq.mp M.fn) (codeAny_mono (F.run _ X.stack _ _ ⟨Value.ref (s.heap.objs.size + 1) :: us, []⟩ (Value.ref (s.heap.objs.size + 1) :: (us ++ dsv)) _ _ (E σ) (hr.make C us [])
    (I2.env0.make C us []) (hb _ (Value.ref (s.heap.objs.size + 1) :: us) I2.kIn hl) r2 hq) fun r s' hq' => ?_))
  cases r with
  | error e => exact hx pins _ _ e s' I2 hq'
  | ok fl =>
    cases fl with
    | ret u =>
      obtain ⟨v, H', I3, rv, ev, q3⟩ := I2.after hq'
      subst ev
      exact ⟨rv, ⟨V.ref (s.heap.objs.size + 1), H', I3, rfl, q3⟩⟩
    | next => exact False.elim hq'
    | brk => exact False.elim hq'
    | cont => exact False.elim hq'
def rMake (c : Nat) (F : DIn) (as : XAp) : XP := fun G Q E => as G (fun xs => F xs (fun fs => Q (.ins c fs)) E) E
theorem xe_make {cn : Nat} {F : DIn} (M : Mk X.K (B.W.CT cn) f) (F1 : FnOk X.prog X.w X.K X.mg X.base (L2.CX X.prog X.w) k f fd ps (spI B.W.CT B.W.lay cn F)) (hr : Room (k + 1) X.A) (hm : X.mg x = some (.ref (B.W.CT cn))) (hb : Binds X.K fd ps dsv) (hd : Vals dvs dsv) (hdd : ∀ W H, Reps W H dds dvs) (tk : Takes X Wx) (ha : XA B X Wx (e :: es) pas)
    (hg : Gl X x := by rfl) (hdb : (x == ("__debug__" : Str)) = false := by decide) (he : starEach (e :: es) X.env = (false, eval e X.env) :: starEach es X.env := by rfl) (hpl : (backTo pos (starEach es X.env)).any (·.1) = false := by rfl) :
    XE B X Wx (.Call (.Name x p) (e :: es) [] pos) (rMake cn (fun xs => F (xs ++ dds)) pas) := by
  obtain ⟨t, ha, ea⟩ := ha.ex
  refine ⟨fun σ H Q => t σ H fun vs H1 => ∀ x dx, H1 x = none → H1 dx = none → dx ≠ x → spI B.W.CT B.W.lay cn F (.ref x :: (vs ++ dvs)) (upd (upd H1 dx (.own x)) x (.ins (B.W.CT cn) dx [])) (fun v H2 => v = .non ∧ Q (.ref x) H2) (WE Wx σ), ⟨fun pins s σ H Q I h => ?_⟩, fun S σ H G Q E k O q ke kx => ea S σ H G _ E _ O q (fun vs H1 ds f1 r1 q1 => ?_) kx⟩
  · refine wpAny_Call_Name_kw (ld_glob I hg hm ?_ hdb)
    refine PySem.W.callWith_K (h₀ := X.base) I.ok.mod.kin M.kp (thn (ha.run pos pins s σ H _ I h) fun us s1 ⟨vs, H1, I1, r, q⟩ => ⟨I1.kIn, ?_⟩) he hpl
    exact run_makeSD (E := WE Wx) M F1 hr hb hd (passAt tk σ) I1 r q
  · intro x dx hx hdx hne
    have w1 := O.wok.fut f1
    have dw : delA (upd (upd H1 dx (.own x)) x (.ins (B.W.CT cn) dx [])) x = upd H1 dx (.own x) := by
      funext a
      by_cases h : a = x
      · rw [h, delA_same, upd_ne (Ne.symm hne), hx]
      · rw [delA_ne h, upd_ne h]
    have g1 : Fut (B.W.at S) H1 (upd H1 dx (.own x)) := fut_new w1 hdx
    refine ⟨B.W.L, S, x, dx, vs ++ dvs, ds ++ dds, fun fs => Q (.ins cn fs), E, rfl, upd_same, w1.new hx, w1.nl (w1.new hx), ?_, ?_, q1, ?_, ?_⟩
    · rw [dw]
      exact w1.fut g1
    · rw [dw]
      exact (r1.fut w1 g1).app (hdd _ _)
    · intro H' dx' us fs f2 e2 l2 r2 q2
      rw [dw] at f2
      exact ⟨rfl, ke _ H' _ ((f1.trans g1).trans f2) (mkO (w1.new hx) e2 l2 r2) q2⟩
    · intro cls dd H' ex f2 x2 e2
      rw [dw] at f2
      exact kx _ _ _ _ ((f1.trans g1).trans f2) x2 e2
end
end Pu
namespace Pu
open PySem PySem.Spec PyProof.Rows L2
/-! ## statements -/
structure Po where
  nx : List Sl → Prop
  rt : D → Prop
  bk : List Sl → Prop := fun _ => False
  ct : List Sl → Prop := fun _ => False
  ex : Exn → List Sl → Prop
abbrev XSp := List Sl → Po → Prop
structure KP (B : Bs) (Wx : WX) (P : Po) (D : Ends) : Prop where
  nx : ∀ S σ H G, Ok B S σ H G → P.nx G → D.nx σ H
  rt : ∀ S σ H G v d, Ok B S σ H G → Rep (B.W.at S) H d v → P.rt d → D.rt v H
  bk : ∀ S σ H G, Ok B S σ H G → P.bk G → D.bk σ H
  ct : ∀ S σ H G, Ok B S σ H G → P.ct G → D.ct σ H
  ex : ∀ S σ H G cls dd ex, Ok B S σ H G → ExOk (B.W.at S) H ex cls dd → P.ex ex G → Wx cls dd σ H
def EvS (B : Bs) (Wx : WX) (t : TS) (p : XSp) : Prop := ∀ S σ H G P D, Ok B S σ H G → p G P → KP B Wx P D → t D σ H
structure XS (B : Bs) (X : Cx) (Wx : WX) (st : Stmt) (p : XSp) : Prop where
  ex : ∃ t, PS X st t ∧ EvS B Wx t p
structure XSs (B : Bs) (X : Cx) (Wx : WX) (st : List Stmt) (p : XSp) : Prop where
  ex : ∃ t, PSs X st t ∧ EvS B Wx t p
theorem KP.kx {B : Bs} {Wx : WX} {P : Po} {D : Ends} (k : KP B Wx P D) {S : Addr → Prop} {σ : L2.St} {H : Hp} {G : List Sl} (O : Ok B S σ H G) : KX (B.W.at S) σ H (fun e => P.ex e G) Wx := fun cls dd H' ex f x e => k.ex S σ H' G cls dd ex (O.fut f) x e
def rNext : XSp := fun G P => P.nx G
def rSeq (a b : XSp) : XSp := fun G P => a G { P with nx := fun G' => b G' P }
def rIf (c : XTp) (a b : XSp) : XSp := fun G P => c G (fun k => if k = true then a G P else b G P) (fun e => P.ex e G)
def rRet (a : XP) : XSp := fun G P => a G P.rt (fun e => P.ex e G)
def rRetN : XSp := fun _ P => P.rt .non
def rDrop (a : XP) : XSp := fun G P => a G (fun _ => P.nx G) (fun e => P.ex e G)
def rBrk : XSp := fun G P => P.bk G
def rCont : XSp := fun G P => P.ct G
/-! targets -/
abbrev XGp := D → List Sl → (List Sl → Prop) → Prop
abbrev XGsp := List D → List Sl → (List Sl → Prop) → Prop
def gN (i : Nat) : XGp := fun d G Q => Q (G.set i (.d d))
def gsN : XGsp := fun ds G Q => match ds with
  | [] => Q G
  | _ => False
def gsC (g : XGp) (r : XGsp) : XGsp := fun ds G Q => match ds with
  | d :: ds => g d G (fun G1 => r ds G1 Q)
  | _ => False
def gT (n : Nat) (g : XGsp) : XGp := fun d G Q => match d with
  | .tup ds => ds.length = n ∧ g ds G Q
  | _ => False
structure XG (B : Bs) (X : Cx) (tg : Expr) (g : XGp) : Prop where
  ex : ∃ t, PG X tg t ∧ ∀ S σ H G d v Q (k : L2.St → Hp → Prop), Ok B S σ H G → Rep (B.W.at S) H d v → g d G Q → (∀ σ' H' G', Ok B S σ' H' G' → Fut (B.W.at S) H H' → Q G' → k σ' H') → t v σ H k
structure XGs (B : Bs) (X : Cx) (tg : List Expr) (g : XGsp) : Prop where
  ex : ∃ t, PGs X tg t ∧ ∀ S σ H G ds vs Q (k : L2.St → Hp → Prop), Ok B S σ H G → Reps (B.W.at S) H ds vs → g ds G Q → (∀ σ' H' G', Ok B S σ' H' G' → Fut (B.W.at S) H H' → Q G' → k σ' H') → t vs σ H k
def rAsg (a : XP) (g : XGp) : XSp := fun G P => a G (fun d => g d G P.nx) (fun e => P.ex e G)
section
variable {B : Bs} {X : Cx} {Wx : WX} {a b c e tg : Expr} {es : List Expr} {pa pb pc : XP} {pos : Pos} {pas : XAp} {st : Stmt} {sts ats bts : List Stmt} {p p2 pp qq : XSp} {qt : XTp} {g : XGp} {gs : XGsp}
theorem xss_nil : XSs B X Wx [] rNext := ⟨tNext, pss_nil, fun S σ H G P D O q k => k.nx S σ H G O q⟩
theorem xss_cons (h1 : XS B X Wx st pp) (h2 : XSs B X Wx sts qq) : XSs B X Wx (st :: sts) (rSeq pp qq) := by
  obtain ⟨t, h1, e1⟩ := h1.ex
  obtain ⟨u, h2, e2⟩ := h2.ex
  exact ⟨tSeq t u, pss_cons h1 h2, fun S σ H G P D O q k => e1 S σ H G { P with nx := fun G' => qq G' P } { D with nx := u D } O q ⟨fun S' σ' H' G' O' q' => e2 S' σ' H' G' P D O' q' k, k.rt, k.bk, k.ct, k.ex⟩⟩
theorem xss_one (h1 : XS B X Wx st pp) : XSs B X Wx [st] pp := by
  obtain ⟨t, h1, e1⟩ := h1.ex
  exact ⟨t, pss_one h1, e1⟩
theorem xs_if (hc : XT B X Wx c qt) (ha : XSs B X Wx ats pp) (hb : XSs B X Wx bts qq) : XS B X Wx (.If c ats bts pos) (rIf qt pp qq) := by
  obtain ⟨tc, hc, ec⟩ := hc.ex
  obtain ⟨ta, ha, ea⟩ := ha.ex
  obtain ⟨tb, hb, eb⟩ := hb.ex
  refine ⟨tIfS tc ta tb, ps_if hc ha hb, fun S σ H G P D O q k => ec S σ H G _ _ _ O q (fun b H' f h => ?_) (k.kx O)⟩
  cases b with
  | true =>
    rw [if_pos rfl] at h ⊢
    exact ea S σ H' G P D (O.fut f) h k
  | false =>
    rw [if_neg Bool.false_ne_true] at h ⊢
    exact eb S σ H' G P D (O.fut f) h k
theorem xs_ret (ha : XE B X Wx a pa) : XS B X Wx (.Return (some a) pos) (rRet pa) := by
  obtain ⟨ta, ha, ea⟩ := ha.ex
  exact ⟨tRet ta, ps_ret ha, fun S σ H G P D O q k => ea S σ H G _ _ _ O q (fun v H' d f r h => k.rt S σ H' G v d (O.fut f) r h) (k.kx O)⟩
theorem xs_retN : XS B X Wx (.Return none pos) rRetN := ⟨tRetN, ps_retN, fun S σ H G P D O q k => k.rt S σ H G .non .non O mkN q⟩
theorem xs_pass : XS B X Wx (.Pass pos) rNext := ⟨tNext, ps_pass, fun S σ H G P D O q k => k.nx S σ H G O q⟩
theorem xs_break : XS B X Wx (.Break pos) rBrk := ⟨tBreak, ps_break, fun S σ H G P D O q k => k.bk S σ H G O q⟩
theorem xs_continue : XS B X Wx (.Continue pos) rCont := ⟨tCont, ps_continue, fun S σ H G P D O q k => k.ct S σ H G O q⟩
theorem xs_expr (ha : XE B X Wx a pa) (hs : swapsWith a none pos.line X.env = pure false := by rfl) : XS B X Wx (.Expr a pos) (rDrop pa) := by
  obtain ⟨ta, ha, ea⟩ := ha.ex
  exact ⟨tDrop ta, ps_expr ha hs, fun S σ H G P D O q k => ea S σ H G _ _ _ O q (fun v H' d f r h => k.nx S σ H' G (O.fut f) h) (k.kx O)⟩
theorem xs_doc {x j pos pos'} : XS B X Wx (.Expr (.Constant (.str x) j pos) pos') rNext := ⟨tNext, ps_doc, fun S σ H G P D O q k => k.nx S σ H G O q⟩
theorem xg_name (i : Nat) {x : Str} (hN : X.N.Nodup) (hi : X.N[i]? = some x := by rfl) (hx : Loc X.env.scope x := by first | exact Or.inl rfl | exact Or.inr rfl) (hf : X.fn x = true ∨ X.env.scope.names.lookup x = some .local := by first | exact .inl rfl | exact .inr rfl | assumption) : XG B X (.Name x pos) (gN i) :=
  ⟨gName i, pg_name hN hi hx hf, fun S σ H G d v Q k O r q h => h _ H _ (O.set i r) (Fut.refl O.wok) q⟩
theorem xgs_nil : XGs B X [] gsN := ⟨gNil, pgs_nil, fun S σ H G ds vs Q k O r q h => by
  cases ds with
  | nil =>
    simp only [Reps] at r
    exact ⟨r, h σ H G O (Fut.refl O.wok) q⟩
  | cons d ds => exact False.elim q⟩
theorem xgs_cons (h1 : XG B X e g) (h2 : XGs B X es gs)
    (h : (assignEach (e :: es) X.env).map (·.2) = assign e X.env :: (assignEach es X.env).map (·.2) := by rfl) : XGs B X (e :: es) (gsC g gs) := by
  obtain ⟨t, h1, e1⟩ := h1.ex
  obtain ⟨u, h2, e2⟩ := h2.ex
  refine ⟨gCons t u, by first | exact pgs_cons h1 h2 h | exact pgs_cons h1 h2, fun S σ H G ds vs Q k O r q h => ?_⟩
  cases ds with
  | nil => exact False.elim q
  | cons d ds =>
    simp only [Reps] at r
    obtain ⟨v, r', rfl, r1, r2⟩ := r
    refine ⟨v, r', rfl, e1 S σ H G d v _ _ O r1 q fun σ' H' G' O' f q' => ?_⟩
    exact e2 S σ' H' G' ds r' Q k O' (r2.fut O.wok f) q' fun σ2 H2 G2 O2 f2 q2 => h σ2 H2 G2 O2 (f.trans f2) q2
end
end Pu
namespace Pu
open PySem PySem.Spec PyProof.Rows L2
theorem Fut.free {W : Wd} {H H1 : Hp} (f : Fut W H H1) {p : Addr} (h : H1 p = none) : H p = none := by
  cases e : H p with
  | none => rfl
  | some o =>
    by_cases n : nL W.L p
    · rw [f.keep p o e n] at h
      cases h
    · exfalso
      refine n fun s l el => ⟨fun z => ?_, fun z => ?_⟩
      · obtain ⟨i, n, cs, e1, e2, _⟩ := f.law s l el
        rw [z, e1] at h
        cases h
      · obtain ⟨i, n, cs, e1, e2, _⟩ := f.law s l el
        rw [z, e2] at h
        cases h
/-- a tuple or a list of n unpacked -/
def gU (n : Nat) (g : XGsp) : XGp := fun d G Q => match d with
  | .tup ds => ds.length = n ∧ g ds G Q
  | .lst ds => ds.length = n ∧ g ds G Q
  | _ => False
/-- an expression that gives a new list -/
structure XN (B : Bs) (X : Cx) (Wx : WX) (e : Expr) (p : XAp) : Prop where
  ex : ∃ t, PE X e t ∧ ∀ S σ H G Q E (k : VK), Ok B S σ H G → p G Q E → (∀ a vs H' ds, H a = none → Fut (B.W.at S) H H' → H' a = some (.lst vs) → Reps (B.W.at fun x => S x ∨ x = a) H' ds vs → Q ds → k (.ref a) H') → KX (B.W.at S) σ H E Wx → t σ H k
def rOwnSet (i : Nat) (a : XAp) : XSp := fun G P => a G (fun ds => P.nx (G.set i (.own ds))) (fun e => P.ex e G)
def rApp (i : Nat) (a : XP) : XSp := fun G P => match G[i]? with
  | some (.own ds) => a (G.set i .no) (fun d => ds.length < 100000 ∧ P.nx (G.set i (.own (ds ++ [d])))) (fun e => P.ex e G)
  | _ => False
def flat : D → Bool
  | .non => true
  | .bl _ => true
  | .int _ => true
  | .str _ => true
  | _ => false
theorem flat_any {W W' : Wd} {H H' : Hp} {d : D} {v : V} (f : flat d = true) (h : Rep W H d v) : Rep W' H' d v := by
  cases d <;> first | (cases f; done) | (simp only [Rep] at h ⊢; exact h)
/-- x.append(e), e reads x -/
def rAppF (i : Nat) (a : XP) : XSp := fun G P => match G[i]? with
  | some (.own ds) => a (G.set i (.d (.lst ds))) (fun d => flat d = true ∧ ds.length < 100000 ∧ P.nx (G.set i (.own (ds ++ [d])))) (fun _ => False)
  | _ => False
def rSetIx (i : Nat) (j a : XP) : XSp := fun G P => match G[i]? with
  | some (.own ds) => a (G.set i .no) (fun d => j (G.set i .no) (fun n => match n with
    | .int n => match ixN ds.length n with
      | some m => P.nx (G.set i (.own (ds.set m d)))
      | none => False
    | _ => False) (fun e => P.ex e G)) (fun e => P.ex e G)
  | _ => False
section
variable {B : Bs} {X : Cx} {Wx : WX} {a b c e tg : Expr} {es : List Expr} {pa pb pc : XP} {pos : Pos} {pas : XAp} {st : Stmt} {sts ats bts : List Stmt} {p p2 pp qq : XSp} {qt : XTp} {g : XGp} {gs : XGsp}
theorem xg_tup {kk n : Nat} (hc : X.calm = true) (h : XGs B X es gs) (hn : (assignEach es X.env).length = n := by rfl) (hst : (assignEach es X.env).findIdx? (·.1) = none := by rfl) : XG B X (.Tuple es kk pos) (gU n gs) := by
  obtain ⟨t, h, ev⟩ := h.ex
  have h1 := pg_tup (pos := pos) (k := kk) hc h hn hst
  have h2 := pg_unl (pos := pos) (k := kk) hc h hn hst
  refine ⟨fun v σ H Q => gTup X.K n t v σ H Q ∨ gUnl X.K n t v σ H Q, ⟨fun pins s σ H v u Q I r q => q.elim (fun q => h1.run pins s σ H v u Q I r q) (fun q => h2.run pins s σ H v u Q I r q)⟩, fun S σ H G d v Q k O r q hk => ?_⟩
  cases d <;> first | exact False.elim q | skip
  · obtain ⟨p, vs, rfl, n1, e1, z1⟩ := repL r
    exact .inr ⟨p, vs, rfl, SqL.of e1, by rw [z1.len]; exact q.1, ev S σ H G _ vs Q k O z1 q.2 hk⟩
  · obtain ⟨p, vs, rfl, n1, e1, z1⟩ := repT r
    exact .inl ⟨p, vs, rfl, (.inl e1), by rw [z1.len]; exact q.1, ev S σ H G _ vs Q k O z1 q.2 hk⟩
theorem xs_asg (ha : XE B X Wx a pa) (hg : XG B X tg g) (hs : swapsWithSole [tg] a pos.line X.env = pure false := by rfl) (hw : swappedStores [tg] a X.env = pure none := by rfl)
    (h1 : (assignEach [tg] X.env).map (·.2) = [assign tg X.env] := by rfl) : XS B X Wx (.Assign [tg] a pos) (rAsg pa g) := by
  obtain ⟨ta, ha, ea⟩ := ha.ex
  obtain ⟨t, hg, eg⟩ := hg.ex
  refine ⟨tAsg ta t, ps_asg ha hg hs hw h1, fun S σ H G P D O q k => ea S σ H G _ _ _ O q (fun v H' d f r h => ?_) (k.kx O)⟩
  exact eg S σ H' G d v _ _ (O.fut f) r h fun σ2 H2 G2 O2 f2 q2 => k.nx S σ2 H2 G2 O2 q2
def rSet (i : Nat) (a : XP) : XSp := fun G P => a G (fun d => P.nx (G.set i (.d d))) (fun e => P.ex e G)
theorem xs_set (i : Nat) {x : Str} {pos' : Pos} (ha : XE B X Wx a pa) (hN : X.N.Nodup) (hi : X.N[i]? = some x := by rfl) (hx : Loc X.env.scope x := by first | exact Or.inl rfl | exact Or.inr rfl) (hs : swapsWith a (some (.Name x pos')) pos.line X.env = pure false := by rfl)
    (hf : X.fn x = true ∨ X.env.scope.names.lookup x = some .local := by first | exact .inl rfl | exact .inr rfl | assumption) : XS B X Wx (.Assign [.Name x pos'] a pos) (rSet i pa) := by
  obtain ⟨ta, ha, ea⟩ := ha.ex
  exact ⟨_, ps_set hN hi hx ha hs hf, fun S σ H G P D O q k => ea S σ H G _ _ _ O q (fun v H' d f r h => k.nx S _ H' _ ((O.fut f).set i r) h) (k.kx O)⟩
theorem xs_own (i : Nat) {x : Str} {pos' : Pos} (ha : XN B X Wx a pas) (hN : X.N.Nodup) (hi : X.N[i]? = some x := by rfl) (hx : Loc X.env.scope x := by first | exact Or.inl rfl | exact Or.inr rfl) (hs : swapsWith a (some (.Name x pos')) pos.line X.env = pure false := by rfl)
    (hf : X.fn x = true ∨ X.env.scope.names.lookup x = some .local := by first | exact .inl rfl | exact .inr rfl | assumption) : XS B X Wx (.Assign [.Name x pos'] a pos) (rOwnSet i pas) := by
  obtain ⟨ta, ha, ea⟩ := ha.ex
  refine ⟨_, ps_set hN hi hx ha hs hf, fun S σ H G P D O q k => ea S σ H G _ _ _ O q (fun a vs H' ds hn f e r h => ?_) (k.kx O)⟩
  have nl : nL B.W.L a := O.wok.nl (O.wok.new hn)
  have na : ¬ B.W.S a := fun z => O.wok.new hn (O.sub a z)
  exact k.nx _ _ H' _ (O.keep i (g := .own ds) hn f.keep f.law ⟨_, e⟩ nl ⟨a, vs, rfl, .inr rfl, na, nl, e, r⟩) h
theorem xn_new {W : Wd} {H H1 : Hp} {p : Addr} {ds : List D} {vs : List V} (w : WOk W H) (f : Fut W H H1) (r : Reps W H1 ds vs) (hp : H1 p = none) : Fut W H (upd H1 p (.lst vs)) ∧ Reps (W.at fun x => W.S x ∨ x = p) (upd H1 p (.lst vs)) ds vs := by
  have g := fut_new (o := .lst vs) (w.fut f) hp
  refine ⟨f.trans g, Reps.mono (W := W) (fun a o n e => ?_) ds vs r⟩
  have : a ≠ p := fun z => by rw [z, hp] at e; cases e
  exact ⟨by rw [upd_ne this]; exact e, fun z => z.elim n this⟩
def rSz (a : XAp) : XAp := fun G Q E => a G (fun ds => ds.length ≤ 1000 ∧ Q ds) E
theorem xn_lst (h : XA B X Wx es pas) : XN B X Wx (.List es pos) (rSz pas) := by
  obtain ⟨t, h, ev⟩ := h.ex
  refine ⟨tLst t, pe_lst h, fun S σ H G Q E k O q hk kx => ev S σ H G _ E _ O q (fun vs H1 ds f r h => ?_) kx⟩
  refine ⟨Nat.le_of_lt (small1000 (by rw [r.len]; exact h.1)), fun p hp => ?_⟩
  obtain ⟨g, r'⟩ := xn_new O.wok f r hp
  exact hk p vs _ ds (f.free hp) g upd_same r' h.2
theorem xn_list {x : Str} {p : Pos} (hm : X.mg x = none) (hv : bootBuiltins x = some (.type "list")) (ha : XE B X Wx a pa) (hg : Gl X x := by rfl) (hn : x ≠ "__name__" := by decide) (hdb : (x == ("__debug__" : Str)) = false := by decide)
    (he : starEach [a] X.env = (false, eval a X.env) :: starEach [] X.env := by rfl) (hpl : (backTo pos (starEach [] X.env)).any (·.1) = false := by rfl) :
    XN B X Wx (.Call (.Name x p) [a] [] pos) (fun G Q E => pa G (fun d => match d with
      | .lst ds => Q ds
      | .tup ds => Q ds
      | _ => False) E) := by
  obtain ⟨ta, ha, ea⟩ := ha.ex
  refine ⟨_, pe_callTy call_list_of hg hm hv (pa_cons ha pa_nil he) hn hdb he hpl, fun S σ H G Q E k O q hk kx => ea S σ H G _ E _ O q (fun v H1 d f r h => ?_) kx⟩
  cases d <;> first | exact False.elim h | skip
  · obtain ⟨p, vs, rfl, n1, e1, z1⟩ := repL r
    refine ⟨p, vs, rfl, .inl (SqL.of e1), fun q hq => ?_⟩
    obtain ⟨g, r'⟩ := xn_new O.wok f z1 hq
    exact hk q vs _ _ (f.free hq) g upd_same r' h
  · obtain ⟨p, vs, rfl, n1, e1, z1⟩ := repT r
    refine ⟨p, vs, rfl, .inr ((.inl e1)), fun q hq => ?_⟩
    obtain ⟨g, r'⟩ := xn_new O.wok f z1 hq
    exact hk q vs _ _ (f.free hq) g upd_same r' h
theorem xn_cat (ha : XE B X Wx a pa) (hb : XE B X Wx b pb) : XN B X Wx (.BinOp a .Add b pos) (fun G Q E => pa G (fun x => pb G (fun y => match x, y with
      | .lst xs, .lst ys => xs.length + ys.length ≤ 100000 ∧ Q (xs ++ ys)
      | _, _ => False) E) E) := by
  obtain ⟨ta, ha, ea⟩ := ha.ex
  obtain ⟨tb, hb, eb⟩ := hb.ex
  refine ⟨_, pe_op op_cat ha hb, fun S σ H G Q E k O q hk kx => ev2 ea eb O q kx fun x y H' dx dy f O' r1 r2 h => ?_⟩
  cases dx <;> first | exact False.elim h | skip
  cases dy <;> first | exact False.elim h | skip
  obtain ⟨p, vs, rfl, n1, e1, z1⟩ := repL r1
  obtain ⟨p', ws, rfl, n2, e2, z2⟩ := repL r2
  refine ⟨p, p', vs, ws, rfl, rfl, e1, e2, le_line (by rw [z1.len, z2.len]; exact h.1), fun q hq => ?_⟩
  obtain ⟨g, r'⟩ := xn_new O.wok f (z1.app z2) hq
  exact hk q _ _ _ (f.free hq) g upd_same r' h.2
/-- x[j] = e, x an own list -/
theorem xs_setix (i : Nat) {x : Str} {px p3 : Pos} (ha : XE B X Wx e pa) (hb : XE B X Wx b pb) (hN : X.N[i]? = some x := by rfl) (hv : Vis X.env.scope x := by first | exact Or.inl rfl | exact Or.inr (Or.inl rfl) | exact Or.inr (Or.inr rfl)) (hd : (x == ("__debug__" : Str)) = false := by decide)
    (hcd : (x == ("__classdict__" : Str)) = false := by decide) (hps : ∀ {to ti : TE}, PE X (.Name x px) to → PE X b ti → PG X (.Subscript (.Name x px) b p3) (gSub to ti rSetL) := by exact fun h1 h2 => pg_sub h1 h2 set_list)
    (hs : swapsWithSole [.Subscript (.Name x px) b p3] e pos.line X.env = pure false := by rfl) (hw : swappedStores [.Subscript (.Name x px) b p3] e X.env = pure none := by rfl)
    (h1 : (assignEach [.Subscript (.Name x px) b p3] X.env).map (·.2) = [assign (.Subscript (.Name x px) b p3) X.env] := by rfl) : XS B X Wx (.Assign [.Subscript (.Name x px) b p3] e pos) (rSetIx i pb pa) := by
  obtain ⟨ta, ha, ea⟩ := ha.ex
  obtain ⟨tb, hb, eb⟩ := hb.ex
  refine ⟨_, ps_asg ha (hps (pe_var hN hv hd hcd) hb) hs hw h1, fun S σ H G P D O q k => ?_⟩
  unfold rSetIx at q
  cases hg : G[i]? with
  | none => rw [hg] at q; exact q.elim
  | some g =>
    rw [hg] at q
    cases g <;> first | exact False.elim q | skip
    rename_i ds
    obtain ⟨o, eo, a, vs, rfl, s1, s2, s3, e1, rr⟩ := O.get hg
    refine ea S σ H (G.set i .no) _ _ _ (O.forget i) q (fun v H' d f r h => ?_) (fun cls dd H' ex f x e => k.ex S σ H' G cls dd ex (O.fut f) x e)
    refine ⟨_, eo, ?_⟩
    refine eb S σ H' (G.set i .no) _ _ _ ((O.fut f).forget i) h (fun w H2 d2 f2 r2 h2 => ?_) (fun cls dd H2 ex f2 x e => k.ex S σ H2 G cls dd ex ((O.fut f).fut f2) x e)
    cases d2 <;> first | exact False.elim h2 | skip
    rename_i n
    have f12 := f.trans f2
    have e1' := f12.keep a _ e1 s3
    have h2' : (match ixN ds.length n with | some m => P.nx (G.set i (.own (ds.set m d))) | none => False) := h2
    cases hx : ixN ds.length n with
    | none => rw [hx] at h2'; exact h2'.elim
    | some m =>
      rw [hx] at h2'
      refine ⟨a, vs, n, m, rfl, repI r2, e1', by rw [rr.len]; exact hx, ?_⟩
      have O' := O.fut f12
      refine k.nx S σ _ _ (O'.turn (g' := .own (ds.set m d)) hg rfl eo ⟨a, vs.set m v, rfl, s1, s2, s3, upd_same, ?_⟩ rfl) h2'
      have rr' := Reps.set (r.fut (O.wok.fut f) f2) m (rr.fut O.wok f12)
      exact Reps.mono (W := B.W.at S) (S := S) (fun b u n z => ⟨by rw [upd_ne (show b ≠ a from fun y => n (by rw [y]; exact s1))]; exact z, n⟩) _ _ rr'
/-- x.append(e) -/
theorem xs_app (i : Nat) {x : Str} {px apos cpos : Pos} (ha : XE B X Wx e pa) (hN : X.N[i]? = some x := by rfl) (hv : Vis X.env.scope x := by first | exact Or.inl rfl | exact Or.inr (Or.inl rfl) | exact Or.inr (Or.inr rfl)) (hd : (x == ("__debug__" : Str)) = false := by decide)
    (hcd : (x == ("__classdict__" : Str)) = false := by decide) (hs0 : swapsWith (.Call (.Attribute (.Name x px) "append" apos) [e] [] cpos) none pos.line X.env = pure false := by rfl)
    (hbase : attributeBase (.Name x px) "append" X.env (eval (.Name x px) X.env) = eval (.Name x px) X.env := by rfl)
    (hfew : ((backTo cpos (starEach [e] X.env)).all (fun x => !x.1) && (backToKw cpos (keywordEach [] X.env)).all (fun x => x.1.isSome)
      && decide ([e].length + ([] : List Keyword).length + (if ([] : List Keyword).isEmpty then 0 else 1) < 30)) = true := by rfl)
    (hline : (apos.endLine == cpos.line) = true := by rfl) (hs : starEach [e] X.env = (false, eval e X.env) :: starEach [] X.env := by rfl) (hplain : (backTo cpos (starEach [] X.env)).any (·.1) = false := by rfl) :
    XS B X Wx (.Expr (.Call (.Attribute (.Name x px) "append" apos) [e] [] cpos) pos) (rApp i pa) ∧ XS B X Wx (.Expr (.Call (.Attribute (.Name x px) "append" apos) [e] [] cpos) pos) (rAppF i pa) := by
  obtain ⟨ta, ha, ea⟩ := ha.ex
  have hp := ps_expr (pe_bm PySem.F.plainAttrs_list PySem.F.slot_list_append PySem.F.type_list_append mt_append (pe_var hN hv hd hcd) (pa_cons ha pa_nil hs) hbase hfew hline hs hplain) hs0
  refine ⟨⟨_, hp, fun S σ H G P D O q k => ?_⟩, ⟨_, hp, fun S σ H G P D O q k => ?_⟩⟩
  · unfold rApp at q
    cases hg : G[i]? with
    | none => rw [hg] at q; exact q.elim
    | some g =>
      rw [hg] at q
      cases g <;> first | exact False.elim q | skip
      rename_i ds
      obtain ⟨o, eo, a, vs, rfl, s1, s2, s3, e1, rr⟩ := O.get hg
      refine ⟨_, eo, .inl ⟨rfl, vs, SqL.of e1⟩, ?_⟩
      refine ea S σ H (G.set i .no) _ _ _ (O.forget i) q (fun v H' d f r h => ?_) (fun cls dd H' ex f x e => k.ex S σ H' G cls dd ex (O.fut f) x e)
      have e1' := f.keep a _ e1 s3
      refine ⟨a, vs, v, rfl, rfl, e1', Nat.lt_of_lt_of_le (by rw [rr.len]; exact h.1) (le_line (Nat.le_refl _)), ?_⟩
      have O' := O.fut f
      refine k.nx S σ _ _ (O'.turn (g' := .own (ds ++ [d])) hg rfl eo ⟨a, vs ++ [v], rfl, s1, s2, s3, upd_same, ?_⟩ rfl) h.2
      have rr' := (rr.fut O.wok f).app (Reps.cons r Reps.nil)
      refine Reps.mono (W := B.W.at S) (S := S) (fun b u n z => ⟨by rw [upd_ne (show b ≠ a from fun y => n (by rw [y]; exact s1))]; exact z, n⟩) _ _ rr'
  · unfold rAppF at q
    cases hg : G[i]? with
    | none => rw [hg] at q; exact q.elim
    | some g =>
      rw [hg] at q
      cases g <;> first | exact False.elim q | skip
      rename_i ds
      obtain ⟨o, eo, a, vs, rfl, s1, s2, s3, e1, rr⟩ := O.get hg
      refine ⟨_, eo, .inl ⟨rfl, vs, SqL.of e1⟩, ?_⟩
      obtain ⟨a', sa', O2⟩ := O.thaw hg
      refine ea _ σ H (G.set i (.d (.lst ds))) _ _ _ O2 q (fun v H' d f r h => ?_) (fun cls dd H' ex f x e => e.elim)
      have f' : Fut (B.W.at S) H H' := ⟨f.keep, f.law⟩
      have e1' := f.keep a _ e1 s3
      refine ⟨a, vs, v, rfl, rfl, e1', Nat.lt_of_lt_of_le (by rw [rr.len]; exact h.2.1) (le_line (Nat.le_refl _)), ?_⟩
      have O' := O.fut f'
      refine k.nx S σ _ _ (O'.turn (g' := .own (ds ++ [d])) hg rfl eo ⟨a, vs ++ [v], rfl, s1, s2, s3, upd_same, ?_⟩ rfl) h.2.2
      have rr' := (rr.fut O.wok f').app (Reps.cons (flat_any h.1 r) Reps.nil)
      refine Reps.mono (W := B.W.at S) (S := S) (fun b u n z => ⟨by rw [upd_ne (show b ≠ a from fun y => n (by rw [y]; exact s1))]; exact z, n⟩) _ _ rr'
end
end Pu
namespace Pu
open PySem PySem.Spec PyProof.Rows L2
/-! ## a new base: what stands here stays -/
noncomputable def Bs.re (B : Bs) (S : Addr → Prop) (H : Hp) : Bs := { B with H0 := fun a => @ite _ (S a ∧ ¬ B.W.S a) (Classical.propDecidable _) none (H a) }
def Pr (S : Addr → Prop) (H : Hp) (S' : Addr → Prop) (H' : Hp) : Prop := ∀ a o, ¬ S a → H a = some o → H' a = some o ∧ ¬ S' a
section
variable {B : Bs} {S S' : Addr → Prop} {σ σ' : L2.St} {H H' : Hp} {G G' : List Sl}
theorem Bs.re_in {a : Addr} (h : ¬ (S a ∧ ¬ B.W.S a)) : (B.re S H).H0 a = H a := if_neg h
theorem Bs.re_out {a : Addr} (h : S a ∧ ¬ B.W.S a) : (B.re S H).H0 a = none := if_pos h
theorem Ok.re (O : Ok B S σ H G) : Ok (B.re S H) S σ H G where
  wok := O.wok
  ext := fun a o e n => by
    by_cases h : S a ∧ ¬ B.W.S a
    · rw [Bs.re_out h] at e; cases e
    · rw [Bs.re_in h] at e; exact e
  sub := O.sub
  new := fun a h => by
    by_cases hb : B.W.S a
    · exact .inl hb
    · exact .inr (Bs.re_out ⟨h, hb⟩)
  len := O.len
  lw := O.lw
  sl := fun i g o e1 e2 => by
    have := O.sl i g o e1 e2
    cases g <;> exact this
  inj := O.inj
theorem Ok.pr (O : Ok B S σ H G) (O' : Ok (B.re S H) S' σ' H' G') : Pr S H S' H' := fun a o n e => by
  have hin : (B.re S H).H0 a = some o := by rw [Bs.re_in fun z => n z.1]; exact e
  refine ⟨O'.ext a o hin (O.wok.nl n), fun z => ?_⟩
  rcases O'.new a z with w | w
  · exact n (O.sub a w)
  · rw [hin] at w; cases w
theorem Ok.un (O : Ok B S σ H G) (O' : Ok (B.re S H) S' σ' H' G') : Ok B S' σ' H' G' where
  wok := O'.wok
  ext := fun a o e n => by
    refine O'.ext a o ?_ n
    rw [Bs.re_in]
    · exact O.ext a o e n
    · rintro ⟨h1, h2⟩
      rcases O.new a h1 with w | w
      · exact h2 w
      · rw [e] at w; cases w
  sub := O'.sub
  new := fun a h => by
    by_cases hb : B.W.S a
    · exact .inl hb
    · refine .inr ?_
      cases e : B.H0 a with
      | none => rfl
      | some o =>
        exfalso
        rcases O'.new a h with w | w
        · exact hb w
        · have n : ¬ (S a ∧ ¬ B.W.S a) := by
            rintro ⟨h1, h2⟩
            rcases O.new a h1 with w | w
            · exact h2 w
            · rw [e] at w; cases w
          rw [Bs.re_in n] at w
          have nl : nL B.W.L a := fun s l el => ⟨fun z => hb (z ▸ (O.lw s l el).1), fun z => hb (z ▸ (O.lw s l el).2)⟩
          rw [O.ext a o e nl] at w
          cases w
  len := O'.len
  lw := O.lw
  sl := fun i g o e1 e2 => by
    have := O'.sl i g o e1 e2
    cases g <;> exact this
  inj := O'.inj
end
/-! ## what is walked -/
def Wk (W : Wd) (S : Addr → Prop) (H : Hp) (J : It) (ds : List D) : Prop := ∀ (S' : Addr → Prop) (H' : Hp), Pr S H S' H' → WOk (W.at S') H' → ∀ i, (∀ d, ds[i]? = some d → J.go i H' ∧ ∀ x H2, J.yld i H' x H2 → Fut (W.at S') H' H2 ∧ Rep (W.at S') H2 d x) ∧ (i = ds.length → J.stop i H')
structure XI (B : Bs) (X : Cx) (Wx : WX) (tg iter : Expr) (q : XAp) : Prop where
  ex : ∃ wi, PI X tg iter wi ∧ ∀ S σ H G Q E (R : It → Hp → Prop), Ok B S σ H G → q G Q E → (∀ J H1 ds, Fut (B.W.at S) H H1 → Wk B.W S H1 J ds → Q ds → R J H1) → KX (B.W.at S) σ H E Wx → wi σ H R
/-- the items of a list or a tuple -/
def rItems (a : XP) : XAp := fun G Q E => a G (fun d => match d with
  | .lst ds => Q ds
  | .tup ds => Q ds
  | _ => False) E
def rRange (as : XAp) : XAp := fun G Q E => as G (fun xs => match xs with
  | [.int j] => j < 4611686018427387904 ∧ -4611686018427387904 ≤ j ∧ Q ((List.range j.toNat).map fun (i : Nat) => .int ((i : Nat) : Int))
  | _ => False) E
section
variable {B : Bs} {X : Cx} {Wx : WX} {a b c e tg iter : Expr} {es : List Expr} {pa pb pc : XP} {pos : Pos} {pas q : XAp} {st : Stmt} {sts ats bts body : List Stmt} {pp qq : XSp} {qt : XTp} {g : XGp} {gs : XGsp}
theorem wk_list {W : Wd} {K : PySem.W.Frag} {S : Addr → Prop} {H : Hp} {p : Addr} {vs : List V} {ds : List D} (n : ¬ S p) (e : H p = some (.lst vs)) (r : Reps (W.at S) H ds vs) : Wk W S H (Itl K p) ds := by
  intro S' H' pr w' i
  obtain ⟨e', n'⟩ := pr p _ n e
  have r' : Reps (W.at S') H' ds vs := Reps.mono (W := W.at S) (S := S') pr ds vs r
  refine ⟨fun d ed => ?_, fun hi => ⟨vs, SqL.of e', by rw [r.len, hi]; exact Nat.le_refl _⟩⟩
  obtain ⟨v, ev, rv⟩ := r'.get ed
  refine ⟨⟨vs, v, SqL.of e', ev⟩, fun x H2 ⟨h1, h2⟩ => ?_⟩
  subst h1
  have := h2 vs (SqL.of e')
  rw [ev] at this
  cases this
  exact ⟨Fut.refl w', rv⟩
theorem wk_tup {W : Wd} {K : PySem.W.Frag} {S : Addr → Prop} {H : Hp} {p : Addr} {vs : List V} {ds : List D} (n : ¬ S p) (e : Rd H p (.tup vs)) (r : Reps (W.at S) H ds vs) : Wk W S H (Itt K p) ds := by
  intro S' H' pr w' i
  have e' : Rd H' p (.tup vs) := e.imp (fun e => (pr p _ n e).1) (fun ⟨o, e⟩ => ⟨o, (pr p _ n e).1⟩)
  have r' : Reps (W.at S') H' ds vs := Reps.mono (W := W.at S) (S := S') pr ds vs r
  refine ⟨fun d ed => ?_, fun hi => ⟨vs, (.inl e'), by rw [r.len, hi]; exact Nat.le_refl _⟩⟩
  obtain ⟨v, ev, rv⟩ := r'.get ed
  refine ⟨⟨vs, v, (.inl e'), ev⟩, fun x H2 ⟨h1, h2⟩ => ?_⟩
  subst h1
  have := h2 vs ((.inl e'))
  rw [ev] at this
  cases this
  exact ⟨Fut.refl w', rv⟩
theorem PI.or {wi wj : TI} (h : PI X tg iter wi) (h' : PI X tg iter wj) : PI X tg iter (fun σ H R => wi σ H R ∨ wj σ H R) := ⟨fun pins s σ H R I q => q.elim (fun q => h.run pins s σ H R I q) (fun q => h'.run pins s σ H R I q)⟩
theorem xi_seq (ha : XE B X Wx a pa) : XI B X Wx tg a (rItems pa) := by
  obtain ⟨ta, ha, ea⟩ := ha.ex
  have hi : PI X tg a (fun σ H R => ta σ H fun x H1 => (∃ p, x = .ref p ∧ (∃ xs, SqL X.K H1 p xs) ∧ R (Itl X.K p) H1) ∨ (∃ p, x = .ref p ∧ (∃ xs, SqT X.K H1 p xs) ∧ R (Itt X.K p) H1)) := by
    refine ⟨fun pins s σ H R I h => ?_⟩
    refine thn (ha.run pins s σ H _ I h) fun v s1 ⟨x, H1, I1, r1, q1⟩ => ?_
    have hx : PE X a (fun σ' H' Q => σ' = σ ∧ H' = H ∧ ta σ' H' Q) := ⟨fun pins s σ H Q I h => ha.run pins s σ H Q I h.2.2⟩
    rcases q1 with ⟨p, rfl, ⟨xs, hq⟩, q⟩ | ⟨p, rfl, ⟨xs, hq⟩, q⟩
    · cases r1
      obtain ⟨its, rv, pl, hz⟩ := I1.list hq
      refine wpAny_pyIter_list pl.isList ?_
      refine ⟨s1.heap.objs.size, [s1.heap.objs.size], _, _, H1, rfl, I1.kept (t' := s1.toks) fun b o e => Heap.get?_push_of_some _ e, turn_list p _, ⟨_, Heap.get?_push_size _ rfl, rfl, rfl⟩, fun b hb => ?_, q⟩
      have e : b = s1.heap.objs.size := by simpa using hb
      subst e
      exact I1.fpOk (Nat.le_refl _) (I1.hok.fresh (Nat.le_refl _))
    · cases r1
      obtain ⟨its, rv, pl, hz⟩ := I1.tuple hq
      refine wpAny_pyIter_tuple (show s1.heap.IsTuple p its.toArray from pl) ?_
      refine ⟨s1.heap.objs.size, [s1.heap.objs.size], _, _, H1, rfl, I1.kept (t' := s1.toks) fun b o e => Heap.get?_push_of_some _ e, turn_tuple p _, ⟨_, Heap.get?_push_size _ rfl, rfl, rfl⟩, fun b hb => ?_, q⟩
      have e : b = s1.heap.objs.size := by simpa using hb
      subst e
      exact I1.fpOk (Nat.le_refl _) (I1.hok.fresh (Nat.le_refl _))
  refine ⟨_, hi, fun S σ H G Q E R O q hR kx => ea S σ H G _ E _ O q (fun v H1 d f r h => ?_) kx⟩
  cases d <;> first | exact False.elim h | skip
  · obtain ⟨p, vs, rfl, n1, e1, z1⟩ := repL r
    exact .inl ⟨p, rfl, ⟨vs, SqL.of e1⟩, hR _ H1 _ f (wk_list n1 e1 z1) h⟩
  · obtain ⟨p, vs, rfl, n1, e1, z1⟩ := repT r
    exact .inr ⟨p, rfl, ⟨vs, (.inl e1)⟩, hR _ H1 _ f (wk_tup n1 e1 z1) h⟩
theorem xi_range {p : Pos} (hm : X.mg "range" = none) (ha : XA B X Wx [a] pas) (hg : Gl X "range" := by rfl) (hs : starEach [a] X.env = [(false, eval a X.env)] := by rfl) : XI B X Wx tg (.Call (.Name "range" p) [a] [] pos) (rRange pas) := by
  obtain ⟨ta, ha, ea⟩ := ha.ex
  refine ⟨_, pi_range1 hg hm ha hs, fun S σ H G Q E R O q hR kx => ea S σ H G _ E _ O q (fun vs H1 ds f r h => ?_) kx⟩
  cases ds with
  | nil => exact False.elim h
  | cons d ds =>
    cases ds with
    | cons d2 ds => cases d <;> exact False.elim h
    | nil =>
      obtain ⟨v, rfl, r9⟩ := reps1 r
      cases d <;> first | exact False.elim h | skip
      rename_i j
      rw [repI r9]
      have h' : j < 4611686018427387904 ∧ -4611686018427387904 ≤ j ∧ Q ((List.range j.toNat).map fun (i : Nat) => .int ((i : Nat) : Int)) := h
      refine ⟨j, rfl, by omega, by omega, hR _ H1 _ f ?_ h'.2.2⟩
      intro S' H' pr w' i
      refine ⟨fun d ed => ?_, fun hi => ?_⟩
      · rw [List.getElem?_map] at ed
        cases hr : (List.range j.toNat)[i]? with
        | none => rw [hr] at ed; cases ed
        | some k =>
          rw [hr] at ed
          obtain ⟨h1, h2⟩ := List.getElem?_eq_some_iff.mp hr
          rw [List.length_range] at h1
          rw [List.getElem_range] at h2
          subst h2
          cases ed
          refine ⟨h1, fun x H2 ⟨e1, e2⟩ => ?_⟩
          subst e1 e2
          refine ⟨Fut.refl w', ?_⟩
          simp only [Rep]
          simp
      · rw [List.length_map, List.length_range] at hi
        show j.toNat ≤ i
        omega
/-! ## for -/
def forP (g : XGp) (body : XSp) : List D → XSp
  | [], G, P => P.nx G
  | d :: ds, G, P => g d G (fun G1 => body G1 { P with nx := fun G2 => forP g body ds G2 P, ct := fun G2 => forP g body ds G2 P, bk := P.nx })
def rFor (q : XAp) (g : XGp) (body : XSp) : XSp := fun G P => q G (fun ds => forP g body ds G P) (fun e => P.ex e G)
theorem xs_for (hp : PassesOwn (model X.prog X.w) X.A X.env X.xe) (hi : XI B X Wx tg iter q) (hg : ∀ H0, XG { B with H0 := H0 } X tg g) (hb : ∀ H0, XSs { B with H0 := H0 } X Wx body pp) (hc : X.calm = true := by rfl)
    (hs : ∀ x, foldedSetIterable iter X.env x = pure x := by intro _; rfl) : XS B X Wx (.For tg iter body [] pos) (rFor q g pp) := by
  obtain ⟨wi, hi, ei⟩ := hi.ex
  have key : ∃ t u, PG X tg t ∧ PSs X body u ∧ (∀ H0 S σ H G d v Q (k : L2.St → Hp → Prop), Ok { B with H0 := H0 } S σ H G → Rep (B.W.at S) H d v → g d G Q → (∀ σ' H' G', Ok { B with H0 := H0 } S σ' H' G' → Fut (B.W.at S) H H' → Q G' → k σ' H') → t v σ H k) ∧ ∀ H0, EvS { B with H0 := H0 } Wx u pp := by
    let T : TG := fun v σ H k => ∃ H0 S G d Q, Ok { B with H0 := H0 } S σ H G ∧ Rep (B.W.at S) H d v ∧ g d G Q ∧ ∀ σ' H' G', Ok { B with H0 := H0 } S σ' H' G' → Fut (B.W.at S) H H' → Q G' → k σ' H'
    let U : TS := fun D σ H => ∃ H0 S G P, Ok { B with H0 := H0 } S σ H G ∧ pp G P ∧ KP { B with H0 := H0 } Wx P D
    refine ⟨T, U, ⟨fun pins s σ H v u Q I r ⟨H0, S, G, d, Q', O, rr, q, k⟩ => ?_⟩, ⟨fun pins s σ H D I ⟨H0, S, G, P, O, q, k⟩ => ?_⟩, fun H0 S σ H G d v Q k O r q h => ⟨H0, S, G, d, Q, O, r, q, h⟩, fun H0 S σ H G P D O q k => ⟨H0, S, G, P, O, q, k⟩⟩
    · obtain ⟨t, h1, h2⟩ := (hg H0).ex
      exact h1.run pins s σ H v u Q I r (h2 S σ H G d v Q' Q O rr q k)
    · obtain ⟨t, h1, h2⟩ := (hb H0).ex
      exact h1.run pins s σ H D I (h2 S σ H G P D O q k)
  obtain ⟨t, u, hg', hb', eg, eb⟩ := key
  refine ⟨_, ps_for hp hc hi hg' hb' hs, fun S σ H G P D O q k => ei S σ H G _ _ _ O q (fun J H1 ds f wk h => ?_) (k.kx O)⟩
  have O1 := O.fut f
  let B' := B.re S H1
  refine ⟨fun i m σ' H' => ∃ S' G', Ok B' S' σ' H' G' ∧ m = ds.length - i ∧ i ≤ ds.length ∧ forP g pp (ds.drop i) G' P, ⟨_, S, G, O1.re, rfl, Nat.zero_le _, h⟩, ?_⟩
  rintro i m σ' H' ⟨S', G', O', rfl, hi, hq⟩
  have pr := O1.pr O'
  have wk' := wk S' H' pr O'.wok i
  have oldP : ∀ {S2 : Addr → Prop} {σ2 : L2.St} {H2 : Hp} {G2 : List Sl}, Ok B' S2 σ2 H2 G2 → Ok B S2 σ2 H2 G2 := fun O2 => O1.un O2
  by_cases hlt : i < ds.length
  · refine .inr ?_
    have hdr : ds.drop i = ds[i] :: ds.drop (i + 1) := by rw [List.drop_eq_getElem_cons hlt]
    rw [hdr] at hq
    obtain ⟨go, yl⟩ := wk'.1 ds[i] (List.getElem?_eq_getElem hlt)
    refine ⟨go, fun σ2 H2 => ∃ S2 G2, Ok B' S2 σ2 H2 G2 ∧ forP g pp (ds.drop (i + 1)) G2 P, fun σ2 H2 ⟨S2, G2, O2, q2⟩ => ⟨ds.length - (i + 1), by omega, S2, G2, O2, rfl, hlt, q2⟩, fun x H2 hy => ?_⟩
    obtain ⟨f2, r2⟩ := yl x H2 hy
    refine eg B'.H0 S' σ' H2 G' ds[i] x _ _ (O'.fut f2) r2 hq fun σ3 H3 G3 O3 f3 q3 => ?_
    refine eb B'.H0 S' σ3 H3 G3 _ _ O3 q3 ⟨fun S4 σ4 H4 G4 O4 q4 => ⟨S4, G4, O4, q4⟩, fun S4 σ4 H4 G4 v d O4 r4 q4 => k.rt S4 σ4 H4 G4 v d (oldP O4) r4 q4, fun S4 σ4 H4 G4 O4 q4 => k.nx S4 σ4 H4 G4 (oldP O4) q4, fun S4 σ4 H4 G4 O4 q4 => ⟨S4, G4, O4, q4⟩, fun S4 σ4 H4 G4 cls dd ex O4 x4 q4 => k.ex S4 σ4 H4 G4 cls dd ex (oldP O4) x4 q4⟩
  · have e : i = ds.length := by omega
    have hdr : ds.drop i = [] := by rw [e, List.drop_length]
    rw [hdr] at hq
    exact .inl ⟨wk'.2 e, k.nx S' σ' H' G' (oldP O') hq⟩
/-! ## while -/
def rWhile (c : XTp) (body : XSp) : XSp := fun G P => ∃ Iv : Nat → List Sl → Prop, (∃ m, Iv m G) ∧ ∀ m G, Iv m G → c G (fun k => if k = true then body G { P with nx := fun G' => ∃ m', m' < m ∧ Iv m' G', ct := fun G' => ∃ m', m' < m ∧ Iv m' G', bk := P.nx } else P.nx G) (fun e => P.ex e G)
theorem xs_while (hp : PassesOwn (model X.prog X.w) X.A X.env X.xe) (hc : XT B X Wx c qt) (hb : XSs B X Wx body pp) : XS B X Wx (.While c body [] pos) (rWhile qt pp) := by
  obtain ⟨tc, hc, ec⟩ := hc.ex
  obtain ⟨tb, hb, eb⟩ := hb.ex
  refine ⟨_, ps_while hp hc hb, fun S σ H G P D O ⟨Iv, ⟨m0, i0⟩, turn⟩ k => ?_⟩
  refine ⟨fun m σ H => ∃ S G, Ok B S σ H G ∧ Iv m G, ⟨m0, S, G, O, i0⟩, fun m σ' H' ⟨S', G', O', i'⟩ => ?_⟩
  refine ec S' σ' H' G' _ _ _ O' (turn m G' i') (fun b H2 f h => ?_) (k.kx O')
  cases b with
  | true =>
    rw [if_pos rfl] at h ⊢
    refine ⟨fun σ3 H3 => ∃ m', m' < m ∧ ∃ S G, Ok B S σ3 H3 G ∧ Iv m' G, fun σ3 H3 h => h, ?_⟩
    refine eb S' σ' H2 G' _ _ (O'.fut f) h ⟨fun S4 σ4 H4 G4 O4 ⟨m', h1, h2⟩ => ⟨m', h1, S4, G4, O4, h2⟩, k.rt, k.nx, fun S4 σ4 H4 G4 O4 ⟨m', h1, h2⟩ => ⟨m', h1, S4, G4, O4, h2⟩, k.ex⟩
  | false =>
    rw [if_neg Bool.false_ne_true] at h ⊢
    exact k.nx S' σ' H2 G' (O'.fut f) h
/-! ## self.f = e -/
def rPut (m : List (Nat × Nat)) (i : Nat) (a : XP) : XSp := fun G P => match G[i]? with
  | some (.obj c ds) => m.lookup c = some ds.length ∧ a G (fun d => P.nx (G.set i (.obj c (ds ++ [d])))) (fun e => P.ex e G)
  | _ => False
theorem putF_zip : ∀ {ns : List Str} {vs : List V} {f : Str} {v : V}, ns.Nodup → ns[vs.length]? = some f → putF f v (ns.zip vs) = ns.zip (vs ++ [v])
  | [], vs, f, v, _, e => by simp at e
  | n :: ns, [], f, v, nd, e => by
    have : n = f := by simpa using e
    subst this
    simp [putF]
  | n :: ns, u :: vs, f, v, nd, e => by
    have e' : ns[vs.length]? = some f := by simpa using e
    have hn : n ∉ ns := (List.nodup_cons.mp nd).1
    have hf : ¬ n = f := fun z => by
      subst z
      exact hn (List.mem_of_getElem? e')
    show putF f v ((n, u) :: ns.zip vs) = (n, u) :: ns.zip (vs ++ [v])
    unfold putF
    rw [if_neg hf, putF_zip (List.nodup_cons.mp nd).2 e']
theorem xs_put (i : Nat) {f x : Str} {px pos' : Pos} {m : List (Nat × Nat)} (h : FldOk X.K B.W.CT B.W.lay f m) (hsz : ∀ p ∈ m, (B.W.lay p.1).length < 1000) (hv : XE B X Wx e pa) (hN : X.N[i]? = some x := by rfl) (hvx : Vis X.env.scope x := by first | exact Or.inl rfl | exact Or.inr (Or.inl rfl) | exact Or.inr (Or.inr rfl)) (hd : (x == ("__debug__" : Str)) = false := by decide)
    (hcd : (x == ("__classdict__" : Str)) = false := by decide) (hs : swapsWith e (some (.Attribute (.Name x px) f pos')) pos.line X.env = pure false := by rfl) : XS B X Wx (.Assign [.Attribute (.Name x px) f pos'] e pos) (rPut m i pa) := by
  obtain ⟨ta, hv, ea⟩ := hv.ex
  refine ⟨_, ps_fld (pe_var hN hvx hd hcd) hv hs, fun S σ H G P D O q k => ?_⟩
  unfold rPut at q
  cases hg : G[i]? with
  | none => rw [hg] at q; exact q.elim
  | some g =>
    rw [hg] at q
    cases g <;> first | exact False.elim q | skip
    rename_i c ds
    obtain ⟨hm, q⟩ := q
    obtain ⟨k1, k2, k3, k4⟩ := h _ (lookup_mem hm)
    obtain ⟨o, eo, p, dx, vs, rfl, me, s1, s2, s3, e1, l, rr⟩ := O.get hg
    refine ea S σ H G _ _ _ O q (fun v H' d f r h => ?_) (k.kx O)
    have e1' := f.keep p _ e1 s3
    have hlt : vs.length < (B.W.lay c).length := by rw [rr.len]; exact (List.getElem?_eq_some_iff.mp k3).1
    refine ⟨_, eo, p, _, dx, _, rfl, e1', k1, k2, ?_, ?_⟩
    · rw [List.length_zip]
      have := hsz _ (lookup_mem hm)
      exact Nat.lt_of_le_of_lt (Nat.min_le_left _ _) this
    have O' := O.fut f
    rw [putF_zip k4 (by rw [rr.len]; exact k3)]
    refine k.nx S σ _ _ (O'.turn (g' := .obj c (ds ++ [d])) hg rfl eo ⟨p, dx, vs ++ [v], rfl, me, s1, s2, s3, upd_same, by rw [List.length_append, List.length_singleton]; omega, ?_⟩ rfl) h
    have rr' := (rr.fut O.wok f).app (Reps.cons r Reps.nil)
    exact Reps.mono (W := B.W.at S) (S := S) (fun b u n z => ⟨by rw [upd_ne (show b ≠ p from fun y => n (by rw [y]; exact s1))]; exact z, n⟩) _ _ rr'
/-! ## raise -/
structure XR (B : Bs) (X : Cx) (e : Expr) (p : List Sl → (Exn → Prop) → Prop) : Prop where
  ex : ∃ t, PMk X e t ∧ ∀ S σ H G E (Wx : WX), Ok B S σ H G → p G E → KX (B.W.at S) σ H E Wx → t σ H fun cls d H' => Wx cls d σ H'
def rRaise (p : List Sl → (Exn → Prop) → Prop) : XSp := fun G P => p G (fun e => P.ex e G)
theorem xs_raise {p : List Sl → (Exn → Prop) → Prop} (tk : Takes X Wx) (he : XR B X e p) (hc : X.calm = true := by rfl) : XS B X Wx (.Raise (some e) none pos) (rRaise p) := by
  obtain ⟨t, he, ev⟩ := he.ex
  exact ⟨_, ps_raise hc tk he, fun S σ H G P D O q k => ev S σ H G _ Wx O q (k.kx O)⟩
/-- an exception's __init__ stores its arguments -/
def spX (C : Addr) (names : List Str) : Sp := fun vs H Q _ => ∃ (a : Addr) (ws : List V), vs = .ref a :: ws ∧ ws.length = names.length ∧ H a = some (exo a C none) ∧
  ∀ H' dx fs, (∀ b o, H b = some o → b ≠ a → H' b = some o) → H dx = none → dx ≠ a → H' a = some (exo a C (some dx)) → H' dx = some (exd dx fs) → (∀ (i : Nat) (f : Str) (y : V), names[i]? = some f → ws[i]? = some y → fs.lookup f = some y) → (∀ f, f ∉ names → fs.lookup f = none) → Q .non H'
def rExn (c : Nat) (n : Nat) (as : XAp) : List Sl → (Exn → Prop) → Prop := fun G E => as G (fun ds => ds.length = n ∧ n ≤ 1000 ∧ E ⟨c, ds⟩) E
theorem xr_exn {k cn n : Nat} {x : Str} {p : Pos} {fI : Addr} {fd : FuncData} {ps : List Str} (T : OexC X.K (B.W.CT cn)) (iC : PySem.W.findIn X.K (.ref (B.W.CT cn)) "__init__" = some (some (.ref fI))) (tI : PySem.W.typeIn X.K (.ref fI) = some (.type "function"))
    (F1 : FnOk X.prog X.w X.K X.mg X.base (L2.CX X.prog X.w) k fI fd ps (spX (B.W.CT cn) (B.W.lay cn))) (hr : Room (k + 1) X.A) (hb : Binds X.K fd ps []) (hm : X.mg x = some (.ref (B.W.CT cn))) (hn : (B.W.lay cn).length = n) (ha : XA B X (fun _ _ _ _ => False) (e :: es) pas) (hg : Gl X x := by rfl)
    (hdb : (x == ("__debug__" : Str)) = false := by decide) (he : starEach (e :: es) X.env = (false, eval e X.env) :: starEach es X.env := by rfl) (hpl : (backTo pos (starEach es X.env)).any (·.1) = false := by rfl) :
    XR B X (.Call (.Name x p) (e :: es) [] pos) (fun G E => pas G (fun ds => ds.length = n ∧ n ≤ 1000 ∧ E ⟨cn, ds⟩) (fun _ => False)) := by
  obtain ⟨t, ha, ea⟩ := ha.ex
  refine ⟨_, pmk_oex T iC tI F1 hr hb .nil passL hg hm ha hdb he hpl, fun S σ H G E Wx O q kx => ea S σ H G _ _ _ O q (fun vs H1 ds f r h => ?_) (fun _ _ _ _ _ _ z => z.elim)⟩
  obtain ⟨h1, h2, h3⟩ := h
  have w1 := O.wok.fut f
  have hlen : vs.length = n := by rw [r.len]; exact h1
  refine ⟨by rw [hlen]; exact h2, fun a na => ⟨a, vs, by rw [List.append_nil], by rw [hlen, hn], upd_same, fun H' dx fs sm ndx ne e1 e2 look _ => ?_⟩⟩
  have ndx' : H1 dx = none := by rw [upd_ne ne] at ndx; exact ndx
  refine ⟨rfl, dx, fs, e1, e2, ndx', ?_⟩
  have sm' : Same H1 (upd (del H' a) dx (.xd fs)) := fun b o e => by
    have h1 : b ≠ dx := ne_of_none e ndx'
    have h2 : b ≠ a := ne_of_none e na
    rw [upd_ne h1, del_ne h2]
    exact sm b o (by rw [upd_ne h2]; exact e) h2
  have g := Fut.same w1 sm'
  refine kx _ _ _ ⟨cn, ds⟩ (f.trans g) ⟨rfl, by show ds.length = (B.W.lay cn).length; rw [hn]; exact h1, .inr ⟨dx, fs, rfl, w1.new ndx', upd_same, fun i f' x e1 e2 => ?_⟩⟩ h3
  obtain ⟨v, ev, rv⟩ := r.get e2
  exact ⟨v, look i f' v e1 ev, rv.fut w1 g⟩
/-- a class without fields, no arguments -/
theorem pmk_own0 {C : Addr} {bmB : List Value} {Bn newId initId : String} {x : Str} {p pos : Pos} (F : ExcBaseFacts Bn newId initId bmB) (q : PySem.W.excIn X.K C bmB newId = true) (gC : X.mg x = some (.ref C)) (kC : PySem.W.keepIn X.K (.ref C) = true) (r : Raises X (.ref C)) (hg : Gl X x)
    (hdb : (x == ("__debug__" : Str)) = false := by decide) : PMk X (.Call (.Name x p) [] [] pos) (fun _ H Q => Q (.ref C) none H) := by
  intro pins s σ H Q I h
  refine wpAny_Call_Name_kw (ld_glob I hg gC ?_ hdb)
  refine PySem.W.callWith_K0 I.kIn kC ?_
  obtain ⟨bm, N, nm, qn, bs, hdct, sn, sub, ab, col, dd, k0, k1, k2, k3, k5, mN, hC, hN, hni, T⟩ := exc_obj I.kIn q
  refine wpAny_call_exc_subT F T hC hN hni (fun h' e hm => ?_) (by show 0 ≤ sizeLine; omega)
  exact mk_of I hm r h (I.hok.gone hm.new)
theorem xr_exn0 {cn : Nat} {bmB : List Value} {Bn newId initId : String} {x : Str} {p : Pos} (F : ExcBaseFacts Bn newId initId bmB) (q : PySem.W.excIn X.K (B.W.CT cn) bmB newId = true) (gC : X.mg x = some (.ref (B.W.CT cn))) (kC : PySem.W.keepIn X.K (.ref (B.W.CT cn)) = true) (r : Raises X (.ref (B.W.CT cn))) (hl : B.W.lay cn = [])
    (hg : Gl X x := by rfl) (hdb : (x == ("__debug__" : Str)) = false := by decide) : XR B X (.Call (.Name x p) [] [] pos) (fun _ E => E ⟨cn, []⟩) :=
  ⟨_, pmk_own0 F q gC kC r hg hdb, fun S σ H G E Wx O q kx => kx _ _ H ⟨cn, []⟩ (Fut.refl O.wok) ⟨rfl, by show 0 = (B.W.lay cn).length; rw [hl]; rfl, .inl ⟨rfl, rfl⟩⟩ q⟩
end
/-! ## defs -/
def init0 (N : List Str) (ds : List D) : List Sl := ds.map Sl.d ++ List.replicate (N.length - ds.length) Sl.no
theorem start_get {N : List Str} {vs : List V} {i : Nat} : (L2.start N vs)[i]? = (match vs[i]? with | some v => some (some v) | none => if i < vs.length + (N.length - vs.length) then some none else none) := by
  unfold L2.start
  by_cases h : i < vs.length
  · rw [List.getElem?_append_left (by simpa using h), List.getElem?_map, List.getElem?_eq_getElem h]
    rfl
  · have hn : vs[i]? = none := List.getElem?_eq_none (by omega)
    rw [List.getElem?_append_right (by simpa using h), hn, List.length_map]
    by_cases h2 : i < vs.length + (N.length - vs.length)
    · rw [if_pos h2, List.getElem?_replicate, if_pos (by omega)]
    · rw [if_neg h2, List.getElem?_replicate, if_neg (by omega)]
theorem init_get {N : List Str} {ds : List D} {i : Nat} : (init0 N ds)[i]? = (match ds[i]? with | some d => some (.d d) | none => if i < ds.length + (N.length - ds.length) then some .no else none) := by
  unfold init0
  by_cases h : i < ds.length
  · rw [List.getElem?_append_left (by simpa using h), List.getElem?_map, List.getElem?_eq_getElem h]
    rfl
  · have hn : ds[i]? = none := List.getElem?_eq_none (by omega)
    rw [List.getElem?_append_right (by simpa using h), hn, List.length_map]
    by_cases h2 : i < ds.length + (N.length - ds.length)
    · rw [if_pos h2, List.getElem?_replicate, if_pos (by omega)]
    · rw [if_neg h2, List.getElem?_replicate, if_neg (by omega)]
theorem ok_start {B : Bs} {H : Hp} {N : List Str} {ds : List D} {vs : List V} (w : WOk B.W H) (h0 : B.H0 = H) (r : Reps B.W H ds vs) : Ok B B.W.S (L2.start N vs) H (init0 N ds) where
  wok := w
  ext := fun a o e _ => by rw [h0] at e; exact e
  sub := fun _ h => h
  new := fun _ h => .inl h
  len := by
    unfold L2.start init0
    rw [List.length_append, List.length_append, List.length_map, List.length_map, List.length_replicate, List.length_replicate, r.len]
  lw := fun s l e => (w.law s l e).2
  sl := fun i g o e1 e2 => by
    rw [init_get] at e1
    rw [start_get] at e2
    cases hd : ds[i]? with
    | some d =>
      rw [hd] at e1
      cases e1
      obtain ⟨v, ev, rv⟩ := r.get hd
      rw [ev] at e2
      cases e2
      exact ⟨v, rfl, rv⟩
    | none =>
      rw [hd] at e1
      dsimp only at e1
      split at e1
      · cases e1
        trivial
      · cases e1
  inj := fun i j g g' q e1 e2 h1 h2 _ _ => by
    rw [init_get] at e1
    cases hd : ds[i]? with
    | some d => rw [hd] at e1; cases e1; cases h1
    | none =>
      rw [hd] at e1
      dsimp only at e1
      split at e1
      · cases e1; cases h1
      · cases e1
def fnPo (Q : D → Prop) (E : Exn → Prop) : Po := { nx := fun _ => Q .non, rt := Q, ex := fun e _ => E e }
section
variable {P : Program} {w : World} {K : PySem.W.Frag} {mg : Str → Option Value} {base : Heap} {CT : Nat → Addr} {lay : Nat → List Str}
theorem fn_ok {x qual : Str} {st : Stmt} {f : Addr} {fd : FuncData} {N ps : List Str} {k : Nat} {F : DFn} {pb : XSp} (Fn : Fun K x qual st f fd) (Sc : FnScope N ps (defScope st)) (hF : ∀ ds Q E, F ds Q E → ds.length = ps.length ∧ pb (init0 N ds) (fnPo Q E))
    (body : ∀ (B : Bs) (cdv : Value) (A : Around) (outer : List Env) (s : Shared) (H : Hp) (E : XK), B.W.CT = CT → B.W.lay = lay → B.cur = none → Room k (A.deeper (envOfC qual (defScope st) s.heap.objs.size f cdv)) →
      XSs B (cxOf (L2.CX P w) P w K mg base N qual (defScope st) f cdv A outer s H E) (fun cls d _ H => E cls d H) (defBody st) pb) : FnOk P w K mg base (L2.CX P w) (k + 1) f fd ps (spP CT lay F) := by
  refine Fn.okX Sc (fun vs H Q E h => ?_) (fun cdv A outer s H vs Q E hr h => ?_)
  · obtain ⟨L, S, ds, Qd, Ed, _, r, hq, _⟩ := h
    rw [r.len]
    exact (hF ds Qd Ed hq).1
  · obtain ⟨L, S, ds, Qd, Ed, wk, r, hq, ke, kx⟩ := h
    let B : Bs := { W := ⟨CT, lay, L, S⟩, H0 := H }
    obtain ⟨t, h1, h2⟩ := (body B cdv A outer s H E rfl rfl rfl hr).ex
    refine ⟨t, h1, h2 S _ H _ (fnPo Qd Ed) _ (ok_start (B := B) wk rfl r) (hF ds Qd Ed hq).2 ⟨fun S' σ' H' G' O' q' => ?_, fun S' σ' H' G' v d O' r' q' => ?_, fun _ _ _ _ _ z => z.elim, fun _ _ _ _ _ z => z.elim, fun S' σ' H' G' cls dd ex O' x' q' => ?_⟩⟩
    · have f : Fut ⟨CT, lay, L, S⟩ H H' := ⟨O'.ext, fun s l e => (O'.wok.law s l e).1⟩
      exact ke _ H' _ f mkN q'
    · have f : Fut ⟨CT, lay, L, S⟩ H H' := ⟨O'.ext, fun s l e => (O'.wok.law s l e).1⟩
      exact ke _ H' _ f (Rep.sub (W := B.W.at S') (S := S) r' fun a h => O'.sub a h) q'
    · have f : Fut ⟨CT, lay, L, S⟩ H H' := ⟨O'.ext, fun s l e => (O'.wok.law s l e).1⟩
      exact kx cls dd H' ex f (ExOk.mono (W := B.W.at S') (S := S) (fun a o n e => ⟨e, fun z => n (O'.sub a z)⟩) x') q'
end
end Pu
namespace Pu
open PySem PySem.Spec PyProof.Rows L2
/-! ## a def as it stands, with or without defaults -/
structure FunG (K : PySem.W.Frag) (x qual : Str) (st : Stmt) (f : Addr) (fd : FuncData) : Prop where
  ex : ∃ (oc : Value) (od : Option Addr) (dV kV doc pm : Value) (an : Option Addr) (cdv ct : Value) (osl : Array (Option Value)),
    fd = PySem.W.fnOf x qual (defArgs st) (defBody st) (defScope st) dV kV doc pm an cdv ct ∧ K.lookup f = some ⟨oc, od, .func fd, osl⟩ ∧ PySem.W.codeIn K cdv qual = true
theorem Fun.g {K : PySem.W.Frag} {x qual : Str} {st : Stmt} {f : Addr} {fd : FuncData} (F : Fun K x qual st f fd) : FunG K x qual st f fd := by
  obtain ⟨oc, od, kV, doc, pm, an, cdv, ct, osl, h⟩ := F.ex
  exact ⟨oc, od, _, kV, doc, pm, an, cdv, ct, osl, h⟩
theorem FunD.g {K : PySem.W.Frag} {x qual : Str} {st : Stmt} {dvs : List V} {kws : List (Str × V)} {f : Addr} {fd : FuncData} (F : FunD K x qual (defArgs st) (defBody st) (defScope st) dvs kws f fd) : FunG K x qual st f fd := by
  obtain ⟨oc, od, dV, kV, doc, pm, an, cdv, ct, osl, h1, h2, h3, _⟩ := F.ex
  exact ⟨oc, od, dV, kV, doc, pm, an, cdv, ct, osl, h1, h2, h3⟩
section
variable {P : Program} {w : World} {K : PySem.W.Frag} {mg : Str → Option Value} {base : Heap} {CT : Nat → Addr} {lay : Nat → List Str}
theorem FunG.ok {x qual : Str} {st : Stmt} {f : Addr} {fd : FuncData} {N ps : List Str} {k : Nat} {sp : Sp} (F : FunG K x qual st f fd) (S : FnScope N ps (defScope st)) (len : ∀ vs H Q E, sp vs H Q E → vs.length = ps.length)
    (hbody : ∀ (cdv : Value) (A : Around) (outer : List Env) (s : Shared) (H : Hp) (vs : List V) (Q : VK) (E : XK), Room k (A.deeper (envOfC qual (defScope st) s.heap.objs.size f cdv)) → sp vs H Q E →
      ∃ t, PSs (cxOf (L2.CX P w) P w K mg base N qual (defScope st) f cdv A outer s H E) (defBody st) t ∧ t { nx := fun _ H' => Q .non H', rt := Q } (L2.start N vs) H) : FnOk P w K mg base (L2.CX P w) (k + 1) f fd ps sp := by
  obtain ⟨oc, od, dV, kV, doc, pm, an, cdv, ct, osl, rfl, lk, hcd⟩ := F.ex
  exact fn_of lk hcd S len fun A outer s H vs Q E hr hsp => hbody cdv A outer s H vs Q E hr hsp
theorem fn_okG {x qual : Str} {st : Stmt} {f : Addr} {fd : FuncData} {N ps : List Str} {k : Nat} {F : DFn} {pb : XSp} (Fn : FunG K x qual st f fd) (Sc : FnScope N ps (defScope st)) (hF : ∀ ds Q E, F ds Q E → ds.length = ps.length ∧ pb (init0 N ds) (fnPo Q E))
    (body : ∀ (B : Bs) (cdv : Value) (A : Around) (outer : List Env) (s : Shared) (H : Hp) (E : XK), B.W.CT = CT → B.W.lay = lay → B.cur = none → Room k (A.deeper (envOfC qual (defScope st) s.heap.objs.size f cdv)) →
      XSs B (cxOf (L2.CX P w) P w K mg base N qual (defScope st) f cdv A outer s H E) (fun cls d _ H => E cls d H) (defBody st) pb) : FnOk P w K mg base (L2.CX P w) (k + 1) f fd ps (spP CT lay F) := by
  refine Fn.ok Sc (fun vs H Q E h => ?_) (fun cdv A outer s H vs Q E hr h => ?_)
  · obtain ⟨L, S, ds, Qd, Ed, _, r, hq, _⟩ := h
    rw [r.len]
    exact (hF ds Qd Ed hq).1
  · obtain ⟨L, S, ds, Qd, Ed, wk, r, hq, ke, kx⟩ := h
    let B : Bs := { W := ⟨CT, lay, L, S⟩, H0 := H }
    obtain ⟨t, h1, h2⟩ := (body B cdv A outer s H E rfl rfl rfl hr).ex
    refine ⟨t, h1, h2 S _ H _ (fnPo Qd Ed) _ (ok_start (B := B) wk rfl r) (hF ds Qd Ed hq).2 ⟨fun S' σ' H' G' O' q' => ?_, fun S' σ' H' G' v d O' r' q' => ?_, fun _ _ _ _ _ z => z.elim, fun _ _ _ _ _ z => z.elim, fun S' σ' H' G' cls dd ex O' x' q' => ?_⟩⟩
    · have f : Fut ⟨CT, lay, L, S⟩ H H' := ⟨O'.ext, fun s l e => (O'.wok.law s l e).1⟩
      exact ke _ H' _ f mkN q'
    · have f : Fut ⟨CT, lay, L, S⟩ H H' := ⟨O'.ext, fun s l e => (O'.wok.law s l e).1⟩
      exact ke _ H' _ f (Rep.sub (W := B.W.at S') (S := S) r' fun a h => O'.sub a h) q'
    · have f : Fut ⟨CT, lay, L, S⟩ H H' := ⟨O'.ext, fun s l e => (O'.wok.law s l e).1⟩
      exact kx cls dd H' ex f (ExOk.mono (W := B.W.at S') (S := S) (fun a o n e => ⟨e, fun z => n (O'.sub a z)⟩) x') q'
/-! ## an own class's __init__ -/
def initO (N : List Str) (c : Nat) (ds : List D) : List Sl := .obj c [] :: (ds.map Sl.d ++ List.replicate (N.length - (ds.length + 1)) Sl.no)
def initPo (c n : Nat) (Q : List D → Prop) (E : Exn → Prop) : Po := { nx := fun G => ∃ fs, G[0]? = some (.obj c fs) ∧ fs.length = n ∧ Q fs, rt := fun _ => False, ex := fun e _ => E e }
theorem ok_startO {B : Bs} {H : Hp} {N : List Str} {ds : List D} {ws : List V} {c : Nat} {p dx : Addr} (hp : H p = some (.ins (B.W.CT c) dx [])) (np : ¬ B.W.S p) (nl : nL B.W.L p) (w : WOk B.W (delA H p)) (h0 : B.H0 = delA H p) (me : B.me = some p) (r : Reps B.W (delA H p) ds ws) :
    Ok B (fun a => B.W.S a ∨ a = p) (L2.start N (.ref p :: ws)) H (initO N c ds) := by
  have rv : Rep B.W (delA H p) (.val (.ref p)) (.ref p) := by simp only [Rep]
  have O := ok_start (N := N) w h0 (Reps.cons rv r)
  have K := O.keep (H' := H) 0 (q := p) (g := .obj c []) delA_same (fun a o e _ => ?_) (fun s l e => ?_) ⟨_, hp⟩ nl ?_
  · have e1 : (L2.start N (.ref p :: ws)).set 0 (some (.ref p)) = L2.start N (.ref p :: ws) := rfl
    rw [e1] at K
    exact K
  · by_cases h : a = p
    · rw [h, delA_same] at e; cases e
    · rw [delA_ne h] at e; exact e
  · obtain ⟨i, n, cs, e1, e2, r'⟩ := (w.law s l e).1
    obtain ⟨n1, n2⟩ := nl s l e
    rw [delA_ne (Ne.symm n1)] at e1
    rw [delA_ne (Ne.symm n2)] at e2
    exact ⟨i, n, cs, e1, e2, r'⟩
  · exact ⟨p, dx, [], rfl, me, .inr rfl, np, nl, by rw [List.zip_nil_right]; exact hp, Nat.zero_le _, Reps.nil⟩
theorem init_ok {x qual : Str} {st : Stmt} {f : Addr} {fd : FuncData} {N : List Str} {p0 : Str} {ps : List Str} {k c n : Nat} {F : DIn} {pb : XSp} (Fn : FunG K x qual st f fd) (Sc : FnScope N (p0 :: ps) (defScope st)) (hn : (lay c).length = n)
    (hF : ∀ ds Q E, F ds Q E → ds.length = ps.length ∧ pb (initO N c ds) (initPo c n Q E))
    (body : ∀ (B : Bs) (cdv : Value) (A : Around) (outer : List Env) (s : Shared) (H : Hp) (E : XK), B.W.CT = CT → B.W.lay = lay → B.cur = none → Room k (A.deeper (envOfC qual (defScope st) s.heap.objs.size f cdv)) →
      XSs B (cxOf (L2.CX P w) P w K mg base N qual (defScope st) f cdv A outer s H E) (fun cls d _ H => E cls d H) (defBody st) pb) : FnOk P w K mg base (L2.CX P w) (k + 1) f fd (p0 :: ps) (spI CT lay c F) := by
  refine Fn.ok Sc (fun vs H Q E h => ?_) (fun cdv A outer s H vs Q E hr h => ?_)
  · obtain ⟨L, S, p, dx, ws, ds, Qd, Ed, rfl, _, _, _, _, r, hq, _⟩ := h
    rw [List.length_cons, r.len, (hF ds Qd Ed hq).1, List.length_cons]
  · obtain ⟨L, S, p, dx, ws, ds, Qd, Ed, rfl, hp, np, nl, wk, r, hq, ke, kx⟩ := h
    let B : Bs := { W := ⟨CT, lay, L, S⟩, H0 := delA H p, me := some p }
    obtain ⟨t, h1, h2⟩ := (body B cdv A outer s H E rfl rfl rfl hr).ex
    refine ⟨t, h1, h2 _ _ H _ (initPo c n Qd Ed) _ (ok_startO (B := B) hp np nl wk rfl rfl r) (hF ds Qd Ed hq).2 ⟨fun S' σ' H' G' O' q' => ?_, fun S' σ' H' G' v d O' r' q' => q'.elim, fun _ _ _ _ _ z => z.elim, fun _ _ _ _ _ z => z.elim, fun S' σ' H' G' cls dd ex O' x' q' => ?_⟩⟩
    · have f : Fut ⟨CT, lay, L, S⟩ (delA H p) H' := ⟨O'.ext, fun s l e => (O'.wok.law s l e).1⟩
      obtain ⟨fs, eg, el, q⟩ := q'
      obtain ⟨o, eo, q0, dx', us, rfl, me, s1, s2, s3, e1, l1, rr⟩ := O'.get eg
      obtain rfl : p = q0 := Option.some.inj me
      refine ke H' dx' us fs f e1 ?_ (Reps.sub (W := B.W.at S') (S := S) rr fun a h => O'.sub a h) q
      rw [rr.len, el, hn]
    · have f : Fut ⟨CT, lay, L, S⟩ (delA H p) H' := ⟨O'.ext, fun s l e => (O'.wok.law s l e).1⟩
      exact kx cls dd H' ex f (ExOk.mono (W := B.W.at S') (S := S) (fun a o n e => ⟨e, fun z => n (O'.sub a z)⟩) x') q'
/-! ## exceptions' __init__: one or two fields -/
theorem exn1_ok {qual : Str} {st : Stmt} {f : Addr} {fd : FuncData} {C : Addr} {k : Nat} {g a1 : Str} {p1 p2 p3 p4 : Pos} (Fn : FunG K "__init__" qual st f fd) (T : OexC K C) (n1 : PySem.W.findIn K (.ref C) g = some none)
    (hb : defBody st = [.Assign [.Attribute (.Name "self" p1) g p2] (.Name a1 p3) p4]) (Sc : FnScope ["self", a1] ["self", a1] (defScope st)) (hd : (a1 == ("__debug__" : Str)) = false) (hcd : (a1 == ("__classdict__" : Str)) = false)
    (hv : ∀ n f cdv, Vis (envOfC qual (defScope st) n f cdv).scope "self" ∧ Vis (envOfC qual (defScope st) n f cdv).scope a1)
    (hs : ∀ n f cdv, swapsWith (.Name a1 p3) (some (.Attribute (.Name "self" p1) g p2)) p4.line (envOfC qual (defScope st) n f cdv) = pure false) : FnOk P w K mg base (L2.CX P w) (k + 1) f fd ["self", a1] (spX C [g]) := by
  refine Fn.ok Sc (fun vs H Q E h => ?_) (fun cdv A outer s H vs Q E hr h => ?_)
  · obtain ⟨a, ws, rfl, hl, _⟩ := h
    rw [List.length_cons, hl]
    rfl
  · obtain ⟨a, ws, rfl, hl, e, q⟩ := h
    rw [hb]
    obtain ⟨v1, v2⟩ := hv s.heap.objs.size f cdv
    match ws, hl, q with
    | [y], _, q =>
      refine ⟨_, pss_one (ps_ost (pe_var (i := 0) rfl v1 rfl rfl) (pe_var (i := 1) rfl v2 hd hcd) (hs _ _ _)), ?_⟩
      refine ⟨y, rfl, _, rfl, a, C, rfl, T, n1, .inl ⟨e, fun dx nd ne => ?_⟩⟩
      refine q _ dx _ (fun b o eb nb => ?_) nd ne upd_same (by rw [upd_ne ne, upd_same]) (fun i f' y' e1 e2 => ?_) (fun f' nf => by
        have : (f' == g) = false := by simpa using nf
        simp [List.lookup, this])
      · rw [upd_ne nb, upd_ne (ne_of_none eb nd)]; exact eb
      · match i, e1, e2 with
        | 0, e1, e2 =>
          cases e1; cases e2
          simp [List.lookup]
theorem exn2_ok {qual : Str} {st : Stmt} {f : Addr} {fd : FuncData} {C : Addr} {k : Nat} {g g' a1 a2 : Str} {p1 p2 p3 p4 p5 p6 p7 p8 : Pos} (Fn : FunG K "__init__" qual st f fd) (T : OexC K C) (n1 : PySem.W.findIn K (.ref C) g = some none) (n2 : PySem.W.findIn K (.ref C) g' = some none)
    (hb : defBody st = [.Assign [.Attribute (.Name "self" p1) g p2] (.Name a1 p3) p4, .Assign [.Attribute (.Name "self" p5) g' p6] (.Name a2 p7) p8]) (Sc : FnScope ["self", a1, a2] ["self", a1, a2] (defScope st))
    (hd : (a1 == ("__debug__" : Str)) = false) (hcd : (a1 == ("__classdict__" : Str)) = false) (hd2 : (a2 == ("__debug__" : Str)) = false) (hcd2 : (a2 == ("__classdict__" : Str)) = false) (hg : (g == g') = false)
    (hv : ∀ n f cdv, Vis (envOfC qual (defScope st) n f cdv).scope "self" ∧ Vis (envOfC qual (defScope st) n f cdv).scope a1 ∧ Vis (envOfC qual (defScope st) n f cdv).scope a2)
    (hs : ∀ n f cdv, swapsWith (.Name a1 p3) (some (.Attribute (.Name "self" p1) g p2)) p4.line (envOfC qual (defScope st) n f cdv) = pure false ∧ swapsWith (.Name a2 p7) (some (.Attribute (.Name "self" p5) g' p6)) p8.line (envOfC qual (defScope st) n f cdv) = pure false) : FnOk P w K mg base (L2.CX P w) (k + 1) f fd ["self", a1, a2] (spX C [g, g']) := by
  refine Fn.ok Sc (fun vs H Q E h => ?_) (fun cdv A outer s H vs Q E hr h => ?_)
  · obtain ⟨a, ws, rfl, hl, _⟩ := h
    rw [List.length_cons, hl]
    rfl
  · obtain ⟨a, ws, rfl, hl, e, q⟩ := h
    rw [hb]
    obtain ⟨v1, v2, v3⟩ := hv s.heap.objs.size f cdv
    obtain ⟨s1, s2⟩ := hs s.heap.objs.size f cdv
    match ws, hl, q with
    | [y, z], _, q =>
      refine ⟨_, pss_cons (ps_ost (pe_var (i := 0) rfl v1 rfl rfl) (pe_var (i := 1) rfl v2 hd hcd) s1) (pss_one (ps_ost (pe_var (i := 0) rfl v1 rfl rfl) (pe_var (i := 2) rfl v3 hd2 hcd2) s2)), ?_⟩
      refine ⟨y, rfl, _, rfl, a, C, rfl, T, n1, .inl ⟨e, fun dx nd ne => ?_⟩⟩
      refine ⟨z, rfl, _, rfl, a, C, rfl, T, n2, .inr ⟨dx, [(g, y)], upd_same, by rw [upd_ne ne, upd_same], by show 1 ≤ 900; decide, ?_⟩⟩
      refine q _ dx ((g', z) :: [(g, y)]) (fun b o eb nb => ?_) nd ne (by rw [upd_ne (Ne.symm ne), upd_same]) upd_same (fun i f' y' e1 e2 => ?_) (fun f' nf => by
        have n1 : f' ≠ g := fun z => nf (by simp [z])
        have n2 : f' ≠ g' := fun z => nf (by simp [z])
        have h1 : (f' == g) = false := by simpa using n1
        have h2 : (f' == g') = false := by simpa using n2
        simp [List.lookup, h1, h2])
      · have : b ≠ dx := ne_of_none eb nd
        rw [upd_ne this, upd_ne nb, upd_ne this]; exact eb
      · match i, e1, e2 with
        | 0, e1, e2 =>
          cases e1; cases e2
          rw [List.lookup_cons, hg]
          simp [List.lookup]
        | 1, e1, e2 =>
          cases e1; cases e2
          simp [List.lookup]
end
/-! ## an own list becomes a datum -/
def rFrz (i : Nat) (a : XP) : XP := fun G Q E => match G[i]? with
  | some (.own ds) => a (G.set i (.d (.lst ds))) Q E
  | _ => False
def rsFrz (i : Nat) (a : XSp) : XSp := fun G P => match G[i]? with
  | some (.own ds) => a (G.set i (.d (.lst ds))) P
  | _ => False
/-! what an evaluation needs, without a reading of its own -/
def canS (B : Bs) (Wx : WX) (p : XSp) : TS := fun D σ H => ∃ S G P, Ok B S σ H G ∧ p G P ∧ KP B Wx P D
theorem XSs.can {B : Bs} {X : Cx} {Wx : WX} {st : List Stmt} {p : XSp} (h : XSs B X Wx st p) : PSs X st (canS B Wx p) := by
  obtain ⟨t, h, e⟩ := h.ex
  exact ⟨fun pins s σ H D I ⟨S, G, P, O, q, k⟩ => h.run pins s σ H D I (e S σ H G P D O q k)⟩
section
variable {B : Bs} {X : Cx} {Wx : WX} {a b c e tg : Expr} {es : List Expr} {pa pb pc : XP} {pos pos' np : Pos} {pas : XAp} {st b₀ : Stmt} {sts ats bts suite body : List Stmt} {p p2 pp qq : XSp} {qt : XTp} {g : XGp} {gs : XGsp}
/-- .. before a row of statements -/
theorem xss_frz (i : Nat) (h : XSs B X Wx sts pp) : XSs B X Wx sts (rsFrz i pp) := by
  obtain ⟨t, h, ev⟩ := h.ex
  refine ⟨t, h, fun S σ H G P D O q k => ?_⟩
  unfold rsFrz at q
  cases hg : G[i]? with
  | none => rw [hg] at q; exact q.elim
  | some g =>
    rw [hg] at q
    cases g <;> first | exact False.elim q | skip
    obtain ⟨q', sq, O2⟩ := O.thaw hg
    exact ev _ σ H _ P D O2 q k
/-! ## try -/
def ExmT (K : PySem.W.Frag) (CT : Nat → Addr) (c : Value) (tbl : List (Nat × Bool)) : Prop := ∀ p ∈ tbl, PySem.W.exmOne K (.ref (CT p.1)) c = some p.2
abbrev Bs.curr (B : Bs) (a : Addr) (cls : Value) (d : Option Addr) : Bs := { B with cur := some (a, cls, d) }
theorem Ok.curr {B : Bs} {S : Addr → Prop} {σ : L2.St} {H : Hp} {G : List Sl} {a : Addr} {cls : Value} {d : Option Addr} (O : Ok B S σ H G) (hc : B.cur = none) : Ok (B.curr a cls d) S σ H G :=
  ⟨O.wok, O.ext, O.sub, O.new, O.len, O.lw, fun i g o e1 e2 => by
    have := O.sl i g o e1 e2
    cases g with
    | exc c ds =>
      obtain ⟨a', cls', dd', z, _⟩ := this
      rw [hc] at z
      cases z
    | _ => exact this, O.inj⟩
def noX : List Sl → Prop := fun G => ∀ (j c : Nat) (ds : List D), G[j]? ≠ some (.exc c ds)
theorem Ok.uncurr {B : Bs} {S : Addr → Prop} {σ : L2.St} {H : Hp} {G : List Sl} {a : Addr} {cls : Value} {d : Option Addr} (O : Ok (B.curr a cls d) S σ H G) (hn : noX G) : Ok B S σ H G :=
  ⟨O.wok, O.ext, O.sub, O.new, O.len, O.lw, fun i g o e1 e2 => by
    have := O.sl i g o e1 e2
    cases g with
    | exc c ds => exact absurd e1 (hn i c ds)
    | _ => exact this, O.inj⟩
end
end Pu
namespace Pu
open PySem PySem.Spec PyProof.Rows L2
def isX : Sl → Bool
  | .exc _ _ => true
  | _ => false
def hasX (G : List Sl) : Bool := G.any isX
theorem noX_of {G : List Sl} (h : hasX G = false) : noX G := fun j c ds e => by
  have := List.any_eq_false.mp h _ (List.mem_of_getElem? e)
  exact this rfl
theorem Ok.strip {B : Bs} {S : Addr → Prop} {σ : L2.St} {H : Hp} {G : List Sl} (O : Ok B S σ H G) : Ok B S σ H (G.map fun g => if isX g then .no else g) where
  wok := O.wok
  ext := O.ext
  sub := O.sub
  new := O.new
  len := by rw [List.length_map]; exact O.len
  lw := O.lw
  sl := fun i g o e1 e2 => by
    rw [List.getElem?_map] at e1
    cases hg : G[i]? with
    | none => rw [hg] at e1; cases e1
    | some g0 =>
      rw [hg] at e1
      cases g0 <;> (cases e1; first | exact O.sl i _ o hg e2 | trivial)
  inj := fun i j g g' q e1 e2 n1 n2 e3 e4 => by
    have back : ∀ {i : Nat} {g : Sl}, (G.map fun g => if isX g then .no else g)[i]? = some g → g.isOwn = true → G[i]? = some g := fun {i g} e n => by
      rw [List.getElem?_map] at e
      cases hg : G[i]? with
      | none => rw [hg] at e; cases e
      | some g0 =>
        rw [hg] at e
        cases g0 <;> (cases e; first | rfl | cases n)
    exact O.inj i j g g' q (back e1 n1) (back e2 n2) n1 n2 e3 e4
theorem strip_noX (G : List Sl) : noX (G.map fun g => if isX g then .no else g) := fun j c ds e => by
  rw [List.getElem?_map] at e
  cases hg : G[j]? with
  | none => rw [hg] at e; cases e
  | some g0 =>
    rw [hg] at e
    cases g0 <;> cases e
section
variable {B : Bs} {X : Cx} {Wx : WX} {a b c e tg : Expr} {es : List Expr} {pa pb pc : XP} {pos pos' np : Pos} {pas : XAp} {st b₀ : Stmt} {sts ats bts suite body : List Stmt} {p p2 pp qq : XSp} {qt : XTp} {g : XGp} {gs : XGsp}
def suPo (P : Po) (f : List Sl → List Sl) : Po := { nx := fun G2 => hasX (f G2) = false ∧ P.nx (f G2), rt := P.rt, bk := fun G2 => hasX (f G2) = false ∧ P.bk (f G2), ct := fun G2 => hasX (f G2) = false ∧ P.ct (f G2), ex := fun _ _ => False }
/-- the clauses by their classes -/
def rTry (i : Nat) (tbl : List (Nat × Bool)) (body suite : XSp) : XSp := fun G P => body G { P with ex := fun ex G1 => match tbl.lookup ex.c with
  | some true => suite (G1.set i (.exc ex.c ex.ds)) (suPo P fun G2 => G2.set i .no)
  | some false => P.ex ex G1
  | none => False }
def rTry0 (tbl : List (Nat × Bool)) (body suite : XSp) : XSp := fun G P => body G { P with ex := fun ex G1 => match tbl.lookup ex.c with
  | some true => suite G1 (suPo P id)
  | some false => P.ex ex G1
  | none => False }
theorem xs_try (i : Nat) {n x : Str} {c : Value} {tbl : List (Nat × Bool)} (h0 : B.cur = none) (hN : X.N.Nodup) (hc : Names X x c) (tk : Takes X Wx) (tb : ExmT X.K B.W.CT c tbl)
    (hb : ∀ (W : WX) (pn : List (Addr × Obj)) (xe : Value → Shared → Prop), Takes (X.tr pn xe) W → PassesOwn (model X.prog X.w) X.A X.env xe → XSs B (X.tr pn xe) W body pp)
    (hsu : ∀ (a : Addr) (oe : Obj) (cls : Value) (d : Option Addr) (pn : List (Addr × Obj)), Zc cls d oe → (∃ vs, oe.data = .fields vs) → XSs (B.curr a cls d) (X.suite a ((a, oe) :: pn)) (fun _ _ _ _ => False) (b₀ :: suite) qq)
    (hs : X.stack = X.env :: X.outer := by rfl) (hf : X.env.frame = some X.env.locals := by rfl) (hi : X.N[i]? = some n := by rfl) (hln : X.env.kindOf n = some .local := by rfl) :
    XS B X Wx (.Try body [.ExceptHandler (some (.Name x np)) (some n) (b₀ :: suite) pos'] [] [] pos) (rTry i tbl pp qq) := by
  refine ⟨_, ps_try_as (i := i) (tb := fun W => canS B W pp) (ts := fun a cls d => canS (B.curr a cls d) (fun _ _ _ _ => False) qq) (Wout := Wx) hs hf hN hi hln hc tk (fun W pn xe t1 t2 => (hb W pn xe t1 t2).can) (fun a oe cls d pn z1 z2 => (hsu a oe cls d pn z1 z2).can), fun S σ H G P D O q k => ?_⟩
  refine ⟨S, G, _, O, q, ⟨k.nx, k.rt, k.bk, k.ct, fun S1 σ1 H1 G1 cls dd ex O1 x1 h => ?_⟩⟩
  dsimp only at h
  obtain rfl := x1.1
  cases hl : tbl.lookup ex.c with
  | none => rw [hl] at h; exact h.elim
  | some b =>
    rw [hl] at h
    refine ⟨b, tb _ (lookup_mem hl), fun hb a na => ?_, fun hb => ?_⟩
    · subst hb
      refine ⟨S1, _, _, (O1.curr (a := a) (cls := .ref (B.W.CT ex.c)) (d := dd) h0).put i (g := .exc ex.c ex.ds) (o := some (.ref a)) rfl ⟨a, _, dd, rfl, rfl, x1⟩, h, ⟨fun S2 σ2 H2 G2 O2 h2 => ?_, fun S2 σ2 H2 G2 v d O2 r2 h2 => ?_, fun S2 σ2 H2 G2 O2 h2 => ?_, fun S2 σ2 H2 G2 O2 h2 => ?_, fun _ _ _ _ _ _ _ _ _ z => z⟩⟩
      · exact k.nx S2 _ H2 _ ((O2.drop i none).uncurr (noX_of h2.1)) h2.2
      · exact k.rt S2 σ2 H2 _ v d (O2.strip.uncurr (strip_noX _)) r2 h2
      · exact k.bk S2 _ H2 _ ((O2.drop i none).uncurr (noX_of h2.1)) h2.2
      · exact k.ct S2 _ H2 _ ((O2.drop i none).uncurr (noX_of h2.1)) h2.2
    · subst hb
      exact k.ex S1 σ1 H1 G1 _ dd ex O1 x1 h
theorem xs_try0 {x : Str} {c : Value} {tbl : List (Nat × Bool)} (h0 : B.cur = none) (hc : Names X x c) (tk : Takes X Wx) (tb : ExmT X.K B.W.CT c tbl)
    (hb : ∀ (W : WX) (pn : List (Addr × Obj)) (xe : Value → Shared → Prop), Takes (X.tr pn xe) W → PassesOwn (model X.prog X.w) X.A X.env xe → XSs B (X.tr pn xe) W body pp)
    (hsu : ∀ (a : Addr) (oe : Obj) (cls : Value) (d : Option Addr) (pn : List (Addr × Obj)), Zc cls d oe → (∃ vs, oe.data = .fields vs) → XSs (B.curr a cls d) (X.suite a ((a, oe) :: pn)) (fun _ _ _ _ => False) (b₀ :: suite) qq)
    (hs : X.stack = X.env :: X.outer := by rfl) (hf : X.env.frame = some X.env.locals := by rfl) :
    XS B X Wx (.Try body [.ExceptHandler (some (.Name x np)) none (b₀ :: suite) pos'] [] [] pos) (rTry0 tbl pp qq) := by
  refine ⟨_, ps_try_only (tb := fun W => canS B W pp) (ts := fun a cls d => canS (B.curr a cls d) (fun _ _ _ _ => False) qq) (Wout := Wx) hs hf hc tk (fun W pn xe t1 t2 => (hb W pn xe t1 t2).can) (fun a oe cls d pn z1 z2 => (hsu a oe cls d pn z1 z2).can), fun S σ H G P D O q k => ?_⟩
  refine ⟨S, G, _, O, q, ⟨k.nx, k.rt, k.bk, k.ct, fun S1 σ1 H1 G1 cls dd ex O1 x1 h => ?_⟩⟩
  dsimp only at h
  obtain rfl := x1.1
  cases hl : tbl.lookup ex.c with
  | none => rw [hl] at h; exact h.elim
  | some b =>
    rw [hl] at h
    refine ⟨b, tb _ (lookup_mem hl), fun hb a na => ?_, fun hb => ?_⟩
    · subst hb
      refine ⟨S1, _, _, O1.curr (a := a) (cls := .ref (B.W.CT ex.c)) (d := dd) h0, h, ⟨fun S2 σ2 H2 G2 O2 h2 => ?_, fun S2 σ2 H2 G2 v d O2 r2 h2 => ?_, fun S2 σ2 H2 G2 O2 h2 => ?_, fun S2 σ2 H2 G2 O2 h2 => ?_, fun _ _ _ _ _ _ _ _ _ z => z⟩⟩
      · exact k.nx S2 _ H2 _ (O2.uncurr (noX_of h2.1)) h2.2
      · exact k.rt S2 σ2 H2 _ v d (O2.strip.uncurr (strip_noX _)) r2 h2
      · exact k.bk S2 _ H2 _ (O2.uncurr (noX_of h2.1)) h2.2
      · exact k.ct S2 _ H2 _ (O2.uncurr (noX_of h2.1)) h2.2
    · subst hb
      exact k.ex S1 σ1 H1 G1 _ dd ex O1 x1 h
/-! the caught exception's field -/
def rXf (m : List (Nat × Nat)) (i : Nat) : XP := fun G Q _ => match G[i]? with
  | some (.exc c ds) => match m.lookup c with
    | some j => match ds[j]? with
      | some x => Q x
      | none => False
    | none => False
  | _ => False
def XfOk (K : PySem.W.Frag) (CT : Nat → Addr) (lay : Nat → List Str) (n : Str) (m : List (Nat × Nat)) : Prop := ∀ p ∈ m, XfC K (CT p.1) ∧ PySem.W.findIn K (.ref (CT p.1)) n = some none ∧ (lay p.1)[p.2]? = some n
theorem xe_xf {a : Addr} {oe : Obj} {cls : Value} {d : Option Addr} {pn : List (Addr × Obj)} {f x : Str} {m : List (Nat × Nat)} {p1 : Pos} (T : XfOk X.K B.W.CT B.W.lay f m) (hz : Zc cls d oe) (hf : ∃ vs, oe.data = .fields vs) (i : Nat)
    (hN : X.N[i]? = some x := by rfl) (hv : Vis X.env.scope x := by first | exact Or.inl rfl | exact Or.inr (Or.inl rfl) | exact Or.inr (Or.inr rfl)) (hd : (x == ("__debug__" : Str)) = false := by decide)
    (hcd : (x == ("__classdict__" : Str)) = false := by decide) (hb : attributeBase (.Name x p1) f X.env (eval (.Name x p1) X.env) = eval (.Name x p1) X.env := by rfl) :
    XE (B.curr a cls d) (X.suite a ((a, oe) :: pn)) Wx (.Attribute (.Name x p1) f pos) (rXf m i) := by
  refine ⟨fun σ H Q => ∃ C, XfC X.K C ∧ PySem.W.findIn X.K (.ref C) f = some none ∧ tXf a cls d C f (tVar i) σ H Q, ⟨fun pins s σ H Q I ⟨C, T, hno, h⟩ => ?_⟩, fun S σ H G Q E k O q ke _ => ?_⟩
  · exact (pe_xf (pos := pos) T hno hz hf (pe_var (X := X.suite a ((a, oe) :: pn)) (pos := p1) hN hv hd hcd) hb).run pins s σ H Q I h
  · unfold rXf at q
    cases hg : G[i]? with
    | none => rw [hg] at q; exact q.elim
    | some g =>
      rw [hg] at q
      cases g <;> first | exact False.elim q | skip
      rename_i c ds
      dsimp only at q
      cases hm : m.lookup c with
      | none => rw [hm] at q; exact q.elim
      | some j =>
        rw [hm] at q
        dsimp only at q
        obtain ⟨k1, k2, k3⟩ := T _ (lookup_mem hm)
        obtain ⟨o, eo, a', cls', dd, ec, rfl, e1, e2, e3⟩ := O.get hg
        cases ec
        cases hx : ds[j]? with
        | none => rw [hx] at q; exact q.elim
        | some y =>
          rw [hx] at q
          rcases e3 with e3 | ⟨d', fs, ed, n, eh, lk⟩
          · have e3' : ds = [] := e3.2
            rw [e3'] at hx
            cases hx
          · obtain ⟨v, ev, rv⟩ := lk j f y k3 hx
            exact ⟨_, k1, k2, _, eo, rfl, e1, d', fs, v, ed, eh, ev, ke v H y (Fut.refl O.wok) rv q⟩
/-! isinstance of the caught exception -/
def rIsX (tbl : List (Nat × Bool)) (i : Nat) : XP := fun G Q _ => match G[i]? with
  | some (.exc c _) => match tbl.lookup c with
    | some b => Q (.bl b)
    | none => False
  | _ => False
def rIsEd (K : PySem.W.Frag) (cls : Value) (a : Addr) (d : Option Addr) : List V → Hp → VK → Prop := fun xs H Q => ∃ (c : V) (cv : Value) (b : Bool) (D : Addr), cls = .ref D ∧ ExcC K D ∧ (d = none ∨ ∃ dd fs, d = some dd ∧ H dd = some (.xd fs)) ∧ xs = [.ref a, c] ∧ (∀ u, RelV c u → u = cv) ∧ PySem.W.kitOne K (.ref D) cv = some b ∧ Q (.bl b) H
theorem call_isEd {a : Addr} {oe : Obj} {cls : Value} {d : Option Addr} {pn : List (Addr × Obj)} (hz : Zc cls d oe) (hf : ∃ vs, oe.data = .fields vs) : CallR (X.suite a ((a, oe) :: pn)) (.builtin "isinstance") (rIsEd X.K cls a d) := by
  intro pins s σ H xs us Q I r h
  obtain ⟨c, cv, b, D, rfl, C, hd, rfl, hcv, e, q⟩ := h
  cases r with
  | cons rx rr =>
    cases rr with
    | cons rt rr =>
      cases rr
      cases rx
      have ec := hcv _ rt
      subst ec
      obtain ⟨hget, _⟩ := I.pin (a, oe) (List.mem_append.mpr (.inl List.mem_cons_self))
      obtain ⟨vs, hv⟩ := hf
      obtain ⟨od, J⟩ : ∃ od, PySem.W.InstAt s.heap a oe D od := by
        rcases hd with rfl | ⟨dd, fs, rfl, ea⟩
        · exact ⟨none, hget, hz.1, by unfold PySem.W.notCls; rw [hv] <;> rfl, by rw [hz.2]; trivial⟩
        · obtain ⟨mA, hns, hr⟩ : ObjOk X.prog X.w H s.heap dd (.xd fs) := I.hok dd _ ea
          obtain ⟨od, ho, hl⟩ := lookIn_ns hns
          exact ⟨some od, hget, hz.1, by unfold PySem.W.notCls; rw [hv] <;> rfl, by rw [hz.2]; exact ho⟩
      have hcl : (PySem.W.clsIn X.K D).isSome = true := by
        obtain ⟨cd, hc, _⟩ := PySem.W.any_some C.hd
        rw [hc]
        rfl
      exact PySem.W.kia_one (PySem.W.kitx_exc hcl C.hg C.hk C.hs C.ha C.hn C.ht C.hm) I.kIn J e (fun z => nomatch z) fun tk => ⟨.bl b, H, I.kept (t' := tk) fun _ _ z => z, rfl, q⟩
def IsxT (K : PySem.W.Frag) (CT : Nat → Addr) (cv : Value) (tbl : List (Nat × Bool)) : Prop := ∀ p ∈ tbl, ExcC K (CT p.1) ∧ PySem.W.kitOne K (.ref (CT p.1)) cv = some p.2
theorem xe_isx {a : Addr} {oe : Obj} {cls : Value} {d : Option Addr} {pn : List (Addr × Obj)} {v : V} {cv : Value} {n x : Str} {tbl : List (Nat × Bool)} {p1 p2 : Pos} (T : IsxT X.K B.W.CT cv tbl) (hz : Zc cls d oe) (hf : ∃ vs, oe.data = .fields vs) (i : Nat)
    (hm : X.mg n = none) (hbo : bootBuiltins n = some (.builtin "isinstance")) (hcv : ∀ u, RelV v u → u = cv) (hb : XE (B.curr a cls d) (X.suite a ((a, oe) :: pn)) Wx b (rC (.val v)))
    (hN : X.N[i]? = some x := by rfl) (hv : Vis X.env.scope x := by first | exact Or.inl rfl | exact Or.inr (Or.inl rfl) | exact Or.inr (Or.inr rfl)) (hd : (x == ("__debug__" : Str)) = false := by decide)
    (hcd : (x == ("__classdict__" : Str)) = false := by decide) (hg : Gl X n := by rfl) (hn : n ≠ "__name__" := by decide) (hdb : (n == ("__debug__" : Str)) = false := by decide)
    (he : starEach [.Name x p1, b] X.env = (false, eval (.Name x p1) X.env) :: starEach [b] X.env := by rfl) (he2 : starEach [b] X.env = (false, eval b X.env) :: starEach [] X.env := by rfl) (hpl : (backTo pos (starEach [b] X.env)).any (·.1) = false := by rfl) :
    XE (B.curr a cls d) (X.suite a ((a, oe) :: pn)) Wx (.Call (.Name n p2) [.Name x p1, b] [] pos) (rIsX tbl i) := by
  obtain ⟨tb, hb, eb⟩ := hb.ex
  refine ⟨_, pe_callB (X := X.suite a ((a, oe) :: pn)) (call_isEd hz hf) hg hm hbo (pa_cons (pe_var (X := X.suite a ((a, oe) :: pn)) (pos := p1) (i := i) hN hv hd hcd) (pa_cons hb pa_nil he2) he) hn hdb he hpl, fun S σ H G Q E k O q ke kx => ?_⟩
  unfold rIsX at q
  cases hg : G[i]? with
  | none => rw [hg] at q; exact q.elim
  | some g =>
    rw [hg] at q
    cases g <;> first | exact False.elim q | skip
    rename_i c ds
    dsimp only at q
    cases hm : tbl.lookup c with
    | none => rw [hm] at q; exact q.elim
    | some bb =>
      rw [hm] at q
      obtain ⟨k1, k2⟩ := T _ (lookup_mem hm)
      obtain ⟨o, eo, a', cls', dd, ec, rfl, e1, e2, e3⟩ := O.get hg
      cases ec
      refine ⟨_, eo, ?_⟩
      refine eb S σ H G (fun y => y = .val v) E _ O rfl (fun w H2 dw f2 r2 q2 => ?_) kx
      subst q2
      simp only [Rep] at r2
      subst r2
      refine ⟨_, cv, bb, _, e1, k1, ?_, rfl, hcv, k2, ke _ H2 _ f2 mkB q⟩
      rcases (ExOk.fut (W := (B.curr a cls d).W.at S) ⟨e1, e2, e3⟩ O.wok f2).2.2 with z | ⟨d', fs, ed, n', eh, _⟩
      · exact .inl z.1
      · exact .inr ⟨d', fs, ed, eh⟩
end
end Pu
namespace Pu
open PySem PySem.Spec PyProof.Rows L2
/-! ## what an evaluation needs, in one form -/
/-- no own thing stands at q -/
def NoOwn (σ : L2.St) (G : List Sl) (q : Addr) : Prop := ∀ (i : Nat) (g : Sl), G[i]? = some g → g.isOwn = true → σ[i]? ≠ some (some (.ref q))
def canE (B : Bs) (Wx : WX) (p : XP) : TE := fun σ H k => ∃ S G Q E, Ok B S σ H G ∧ p G Q E ∧ KE (B.W.at S) H Q k ∧ KX (B.W.at S) σ H E Wx
def canT (B : Bs) (Wx : WX) (p : XTp) : TT := fun σ H k => ∃ S G Q E, Ok B S σ H G ∧ p G Q E ∧ KT (B.W.at S) H Q k ∧ KX (B.W.at S) σ H E Wx
def canG (B : Bs) (vs : List Nat) (g : XGp) : TG := fun v σ H k => ∃ S G d Q, Ok B S σ H G ∧ Rep (B.W.at S) H d v ∧ g d G Q ∧ ∀ σ' H' G', Ok B S σ' H' G' → Fut (B.W.at S) H H' → wipe σ' vs = wipe σ vs → (∀ q, NoOwn σ G q → NoOwn σ' G' q) → Q G' → k σ' H'
def canI (B : Bs) (Wx : WX) (q : XAp) : TI := fun σ H R => ∃ S G Q E, Ok B S σ H G ∧ q G Q E ∧ (∀ J H1 ds, Fut (B.W.at S) H H1 → Wk B.W S H1 J ds → Q ds → R J H1) ∧ KX (B.W.at S) σ H E Wx
section
variable {B : Bs} {X : Cx} {Wx : WX} {e tg iter : Expr} {p : XP} {q : XAp} {c : XTp}
theorem XE.can (h : XE B X Wx e p) : PE X e (canE B Wx p) := by
  obtain ⟨t, h, ev⟩ := h.ex
  exact ⟨fun pins s σ H Q I ⟨S, G, Qd, E, O, q, ke, kx⟩ => h.run pins s σ H Q I (ev S σ H G Qd E Q O q ke kx)⟩
theorem XT.can (h : XT B X Wx e c) : PT X e (canT B Wx c) := by
  obtain ⟨t, h, ev⟩ := h.ex
  exact ⟨fun pins s σ H Q I ⟨S, G, Qd, E, O, q, ke, kx⟩ => h.run pins s σ H Q I (ev S σ H G Qd E Q O q ke kx)⟩
theorem XI.can (h : XI B X Wx tg iter q) : PI X tg iter (canI B Wx q) := by
  obtain ⟨t, h, ev⟩ := h.ex
  exact ⟨fun pins s σ H Q I ⟨S, G, Qd, E, O, q, ke, kx⟩ => h.run pins s σ H Q I (ev S σ H G Qd E Q O q ke kx)⟩
end
/-- a target of a block: the slots vs -/
structure XV (B : Bs) (X : Cx) (vs : List Nat) (tg : Expr) (g : XGp) : Prop where
  run : PG X tg (canG B vs g)
structure XVs (B : Bs) (X : Cx) (vs : List Nat) (tg : List Expr) (g : XGsp) : Prop where
  ex : ∃ t, PGs X tg t ∧ ∀ S σ H G ds us Q (k : L2.St → Hp → Prop), Ok B S σ H G → Reps (B.W.at S) H ds us → g ds G Q → (∀ σ' H' G', Ok B S σ' H' G' → Fut (B.W.at S) H H' → wipe σ' vs = wipe σ vs → (∀ q, NoOwn σ G q → NoOwn σ' G' q) → Q G' → k σ' H') → t us σ H k
theorem wipe_set {i : Nat} {x : Option V} : ∀ {vs : List Nat} {σ : L2.St}, i ∈ vs → wipe (σ.set i x) vs = wipe σ vs
  | [], _, h => by cases h
  | v :: vs, σ, h => by
    unfold wipe
    by_cases hv : i ∈ vs
    · rw [wipe_set hv]
    · have e : v = i := by
        rcases List.mem_cons.mp h with e | e
        · exact e.symm
        · exact absurd e hv
      subst e
      have : ∀ {us : List Nat} {σ : L2.St}, v ∉ us → wipe (σ.set v x) us = (wipe σ us).set v x := by
        intro us
        induction us with
        | nil => intro σ _; rfl
        | cons u us ih =>
          intro σ hu
          have h1 : v ≠ u := fun z => hu (by rw [z]; exact List.mem_cons_self)
          have h2 : v ∉ us := fun z => hu (List.mem_cons_of_mem _ z)
          unfold wipe
          rw [ih h2, List.set_comm _ _ h1]
      rw [this hv, List.set_set]
theorem wipe_wipe (σ : L2.St) : ∀ vs : List Nat, wipe (wipe σ vs) vs = wipe σ vs := by
  intro vs
  have gen : ∀ (us ws : List Nat), (∀ u ∈ us, u ∈ ws) → ∀ σ : L2.St, wipe (wipe σ us) ws = wipe σ ws := by
    intro us
    induction us with
    | nil => intro ws _ σ; rfl
    | cons u us ih =>
      intro ws h σ
      show wipe ((wipe σ us).set u none) ws = _
      rw [wipe_set (h u List.mem_cons_self)]
      exact ih ws (fun x hx => h x (List.mem_cons_of_mem _ hx)) σ
  exact gen vs vs (fun _ h => h) σ
def wipeG (G : List Sl) : List Nat → List Sl
  | [] => G
  | v :: vs => (wipeG G vs).set v .no
section
variable {B : Bs} {S : Addr → Prop} {σ : L2.St} {H : Hp} {G : List Sl}
theorem Ok.wipe (O : Ok B S σ H G) : ∀ vs : List Nat, Ok B S (L2.wipe σ vs) H (wipeG G vs)
  | [] => O
  | v :: vs => (O.wipe vs).drop v none
/-- a hidden thing at q -/
theorem Ok.hide (O : Ok B S σ H G) {q : Addr} {u : HO} (hq : H q = none) : Ok B (fun a => S a ∨ a = q) σ (upd H q u) G := by
  have nl : nL B.W.L q := O.wok.nl (O.wok.new hq)
  have F : Fut (B.W.at S) H (upd H q u) := fut_new O.wok hq
  have k : ∀ a u', ¬ S a → H a = some u' → upd H q u a = some u' ∧ ¬ (S a ∨ a = q) := fun a u' n e => ⟨F.keep a u' e (O.wok.nl n), fun z => z.elim n fun z => by rw [z, hq] at e; cases e⟩
  refine ⟨⟨fun s l e => ⟨F.law s l e, .inl (O.wok.law s l e).2.1, .inl (O.wok.law s l e).2.2⟩, fun a h => ?_⟩, fun a o e n => F.keep a o (O.ext a o e n) n, fun a h => .inl (O.sub a h), fun a h => ?_, O.len, O.lw, fun i g o e1 e2 => ?_, O.inj⟩
  · rcases h with h | h
    · exact (O.wok.fut F).dom a h
    · rw [h, upd_same]
      exact ⟨_, rfl⟩
  · rcases h with h | h
    · exact O.new a h
    · refine .inr ?_
      cases e : B.H0 a with
      | none => rfl
      | some o =>
        have := O.ext a o e (by rw [h]; exact nl)
        rw [h, hq] at this
        cases this
  · exact (O.sl i g o e1 e2).mono k (fun _ z => .inl z) fun q' u' _ _ _ n e => F.keep q' u' e n
theorem Ok.noOwn (O : Ok B S σ H G) {q : Addr} (hq : H q = none) : NoOwn σ G q := fun i g e n z => by
  have base := O.sl i g _ e z
  cases g with
  | no => cases n
  | d d => cases n
  | own ds =>
    obtain ⟨q', vs', e', k1, _⟩ := base
    cases e'
    exact O.wok.new hq k1
  | obj c ds =>
    obtain ⟨q', dx', vs', e', _, k1, _⟩ := base
    cases e'
    exact O.wok.new hq k1
  | exc c ds => cases n
/-- the hidden thing has changed -/
theorem Ok.hid (O : Ok B S σ H G) {q : Addr} {u : HO} (sq : S q) (n0 : ¬ B.W.S q) (h0 : B.H0 q = none) (nl : nL B.W.L q) (no : NoOwn σ G q) : Ok B S σ (upd H q u) G := by
  have k : ∀ a w, ¬ S a → H a = some w → upd H q u a = some w ∧ ¬ S a := fun a w n z => ⟨by rw [upd_ne (show a ≠ q from fun y => n (by rw [y]; exact sq))]; exact z, n⟩
  refine ⟨⟨fun s l z => ?_, fun a h => ?_⟩, fun a o z n => ?_, O.sub, O.new, O.len, O.lw, fun i g o e1 e2 => ?_, O.inj⟩
  · obtain ⟨⟨i', n', cs, z1, z2, z3⟩, z4⟩ := O.wok.law s l z
    obtain ⟨m1, m2⟩ := nl s l z
    exact ⟨⟨i', n', cs, by rw [upd_ne (Ne.symm m1)]; exact z1, by rw [upd_ne (Ne.symm m2)]; exact z2, z3⟩, z4⟩
  · by_cases ha : a = q
    · rw [ha, upd_same]
      exact ⟨_, rfl⟩
    · rw [upd_ne ha]
      exact O.wok.dom a h
  · have : a ≠ q := fun y => by rw [y, h0] at z; cases z
    rw [upd_ne this]
    exact O.ext a o z n
  · refine (O.sl i g o e1 e2).mono k (fun _ z => z) fun q' w o1 o2 _ n z => ?_
    subst o2
    have : q' ≠ q := fun y => no i g e1 o1 (by rw [← y]; exact e2)
    rw [upd_ne this]
    exact z
end
theorem NoOwn.drop {σ : L2.St} {G : List Sl} {q : Addr} (h : NoOwn σ G q) (i : Nat) {g0 : Sl} {o : Option V} (hg : g0.isOwn = false) : NoOwn (σ.set i o) (G.set i g0) q := fun j g e n => by
  by_cases hj : i = j
  · subst hj
    rw [List.getElem?_set] at e
    rw [if_pos rfl] at e
    split at e
    · cases e
      rw [hg] at n
      cases n
    · cases e
  · rw [List.getElem?_set_ne hj] at e ⊢
    exact h j g e n
theorem NoOwn.wipe {σ : L2.St} {G : List Sl} {q : Addr} (h : NoOwn σ G q) : ∀ vs : List Nat, NoOwn (L2.wipe σ vs) (wipeG G vs) q
  | [] => h
  | v :: vs => (h.wipe vs).drop v rfl
/-! ## list comprehensions -/
def lcP (g : XGp) (tt : XTp) (te : XP) (G0 : List Sl) : List D → List D → (List D → Prop) → Prop
  | [], acc, Q => Q acc
  | d :: ds, acc, Q => g d G0 (fun G2 => tt G2 (fun b => if b = true then te G2 (fun y => acc.length < 100000 ∧ lcP g tt te G0 ds (acc ++ [y]) Q) (fun _ => False) else lcP g tt te G0 ds acc Q) (fun _ => False))
def rLc (vs : List Nat) (it : XAp) (g : XGp) (tt : XTp) (te : XP) : XAp := fun G Q E => it G (fun ds => lcP g tt te (wipeG G vs) ds [] Q) E
def rYes : XTp := fun _ Q _ => Q true
def EvN (B : Bs) (Wx : WX) (t : TE) (p : XAp) : Prop := ∀ S σ H G Q E (k : VK), Ok B S σ H G → p G Q E → (∀ a vs H' ds, H a = none → Fut (B.W.at S) H H' → H' a = some (.lst vs) → Reps (B.W.at fun x => S x ∨ x = a) H' ds vs → Q ds → k (.ref a) H') → KX (B.W.at S) σ H E Wx → t σ H k
abbrev wx0 : WX := fun _ _ _ _ => False
theorem kx0 {W : Wd} {σ : L2.St} {H : Hp} : KX W σ H (fun _ => False) wx0 := fun _ _ _ _ _ _ z => z
theorem lc_ev {B : Bs} {Wx : WX} {wi : TI} {q : XAp} {g : XGp} {tt : XTp} {te : XP} {vs : List Nat} (ei : ∀ S σ H G Q E (R : It → Hp → Prop), Ok B S σ H G → q G Q E → (∀ J H1 ds, Fut (B.W.at S) H H1 → Wk B.W S H1 J ds → Q ds → R J H1) → KX (B.W.at S) σ H E Wx → wi σ H R) :
    EvN B Wx (tLc wi (canG B vs g) (canT B wx0 tt) (canE B wx0 te) vs) (rLc vs q g tt te) := by
  intro S σ H G Q E k O h hk kx
  refine ei S σ H G _ E _ O h (fun J H1 ds f wk hq D hD => ?_) kx
  have O1 := O.fut f
  have w1 := O1.wok
  have nl : nL B.W.L D := w1.nl (w1.new hD)
  have O2 : Ok B (fun a => S a ∨ a = D) (L2.wipe σ vs) (upd H1 D (.lst [])) (wipeG G vs) := (O1.wipe vs).hide hD
  have no : NoOwn (L2.wipe σ vs) (wipeG G vs) D := (O1.wipe vs).noOwn hD
  have n0 : ¬ B.W.S D := fun z => w1.new hD (O.sub D z)
  have h0 : B.H0 D = none := by
    rcases O2.new D (.inr rfl) with z | z
    · exact absurd z n0
    · exact z
  refine ⟨fun i m H' => m = ds.length - i ∧ i ≤ ds.length ∧ Ok B (fun a => S a ∨ a = D) (L2.wipe σ vs) H' (wipeG G vs) ∧ (∀ a o, H1 a = some o → nL B.W.L a → H' a = some o) ∧
    ∃ acc us, H' D = some (.lst us) ∧ Reps (B.W.at fun a => S a ∨ a = D) H' acc us ∧ lcP g tt te (wipeG G vs) (ds.drop i) acc Q, ⟨_, rfl, Nat.zero_le _, O2, fun a o e _ => ?_, [], [], upd_same, Reps.nil, hq⟩, ?_⟩
  · rw [upd_ne (ne_of_none e hD)]
    exact e
  rintro i m H' ⟨rfl, hi, O', kp, acc, us, eD, racc, hl⟩
  have pr : Pr S H1 (fun a => S a ∨ a = D) H' := fun a o n e => ⟨kp a o e (w1.nl n), fun z => z.elim n fun z => by rw [z, hD] at e; cases e⟩
  have wk' := wk (fun a => S a ∨ a = D) H' pr O'.wok i
  by_cases hlt : i < ds.length
  · refine .inr ?_
    have hdr : ds.drop i = ds[i] :: ds.drop (i + 1) := List.drop_eq_getElem_cons hlt
    rw [hdr] at hl
    obtain ⟨go, yl⟩ := wk'.1 ds[i] (List.getElem?_eq_getElem hlt)
    refine ⟨go, fun H3 => Ok B (fun a => S a ∨ a = D) (L2.wipe σ vs) H3 (wipeG G vs) ∧ (∀ a o, H1 a = some o → nL B.W.L a → H3 a = some o) ∧
      ∃ acc us, H3 D = some (.lst us) ∧ Reps (B.W.at fun a => S a ∨ a = D) H3 acc us ∧ lcP g tt te (wipeG G vs) (ds.drop (i + 1)) acc Q, fun H3 ⟨a1, a2, a3⟩ => ⟨ds.length - (i + 1), by omega, rfl, hlt, a1, a2, a3⟩, fun x H2 hy => ?_⟩
    obtain ⟨f2, r2⟩ := yl x H2 hy
    refine ⟨_, _, ds[i], _, O'.fut f2, r2, hl, fun σ3 H3 G3 O3 f3 ew no3' q3 => ⟨ew.trans (wipe_wipe σ vs), ?_⟩⟩
    refine ⟨_, _, _, _, O3, q3, fun b H4 f4 q4 => ?_, kx0⟩
    have f24 := (f2.trans f3).trans f4
    cases b with
    | true =>
      dsimp only at q4 ⊢
      rw [if_pos rfl] at q4 ⊢
      refine ⟨_, _, _, _, O3.fut f4, q4, fun y H5 dy f5 r5 q5 => ?_, kx0⟩
      have f25 := f24.trans f5
      have O5 := O'.fut f25
      have eD5 := f25.keep D _ eD nl
      refine ⟨us, eD5, Nat.lt_of_lt_of_le (by rw [racc.len]; exact q5.1) (le_line (Nat.le_refl _)), O5.hid (.inr rfl) n0 h0 nl no, fun a o e n => ?_, acc ++ [dy], us ++ [y], upd_same, ?_, q5.2⟩
      · rw [upd_ne (ne_of_none e hD)]
        exact f25.keep a o (kp a o e n) n
      · have rr := (racc.fut O'.wok f25).app (Reps.cons r5 Reps.nil)
        exact Reps.mono (W := B.W.at fun a => S a ∨ a = D) (fun b u n z => ⟨by rw [upd_ne (show b ≠ D from fun y => n (.inr y))]; exact z, n⟩) _ _ rr
    | false =>
      dsimp only at q4 ⊢
      rw [if_neg Bool.false_ne_true] at q4 ⊢
      exact ⟨O'.fut f24, fun a o e n => f24.keep a o (kp a o e n) n, acc, us, f24.keep D _ eD nl, racc.fut O'.wok f24, q4⟩
  · have e : i = ds.length := by omega
    have hdr : ds.drop i = [] := by rw [e, List.drop_length]
    rw [hdr] at hl
    refine .inl ⟨wk'.2 e, hk D us H' acc (f.free hD) ⟨fun a o ea n => kp a o (f.keep a o ea n) n, fun s l el => (O'.wok.law s l el).1⟩ eD racc hl⟩
/-- two clauses -/
def lcP2 (g : XGp) (tt : XTp) (it1 : XAp) (vs1 : List Nat) (g1 : XGp) (tt1 : XTp) (te : XP) (G0 : List Sl) : List D → List D → (List D → Prop) → Prop
  | [], acc, Q => Q acc
  | d :: ds, acc, Q => g d G0 (fun G2 => tt G2 (fun b => if b = true then it1 G2 (fun es => lcP g1 tt1 te (wipeG G2 vs1) es acc fun acc => lcP2 g tt it1 vs1 g1 tt1 te G0 ds acc Q) (fun _ => False) else lcP2 g tt it1 vs1 g1 tt1 te G0 ds acc Q) (fun _ => False))
def rLc2 (vs vs1 : List Nat) (it : XAp) (g : XGp) (tt : XTp) (it1 : XAp) (g1 : XGp) (tt1 : XTp) (te : XP) : XAp := fun G Q E => it G (fun ds => lcP2 g tt it1 vs1 g1 tt1 te (wipeG G vs) ds [] Q) E
theorem lc2_ev {B : Bs} {Wx : WX} {wi : TI} {q q1 : XAp} {g g1 : XGp} {tt tt1 : XTp} {te : XP} {vs vs1 : List Nat} (ei : ∀ S σ H G Q E (R : It → Hp → Prop), Ok B S σ H G → q G Q E → (∀ J H1 ds, Fut (B.W.at S) H H1 → Wk B.W S H1 J ds → Q ds → R J H1) → KX (B.W.at S) σ H E Wx → wi σ H R) :
    EvN B Wx (tLc2 wi (canG B vs g) (canT B wx0 tt) (canI B wx0 q1) (canG B vs1 g1) (canT B wx0 tt1) (canE B wx0 te) vs vs1) (rLc2 vs vs1 q g tt q1 g1 tt1 te) := by
  intro S σ H G Q E k O h hk kx
  refine ei S σ H G _ E _ O h (fun J H1 ds f wk hq D hD => ?_) kx
  have O1 := O.fut f
  have w1 := O1.wok
  have nl : nL B.W.L D := w1.nl (w1.new hD)
  have O2 : Ok B (fun a => S a ∨ a = D) (L2.wipe σ vs) (upd H1 D (.lst [])) (wipeG G vs) := (O1.wipe vs).hide hD
  have no : NoOwn (L2.wipe σ vs) (wipeG G vs) D := (O1.wipe vs).noOwn hD
  have n0 : ¬ B.W.S D := fun z => w1.new hD (O.sub D z)
  have h0 : B.H0 D = none := by
    rcases O2.new D (.inr rfl) with z | z
    · exact absurd z n0
    · exact z
  let Iv : Hp → (List Pu.D → Prop) → Prop := fun H3 R => Ok B (fun a => S a ∨ a = D) (L2.wipe σ vs) H3 (wipeG G vs) ∧ (∀ a o, H1 a = some o → nL B.W.L a → H3 a = some o) ∧ ∃ acc us, H3 D = some (.lst us) ∧ Reps (B.W.at fun a => S a ∨ a = D) H3 acc us ∧ R acc
  refine ⟨fun i m H' => m = ds.length - i ∧ i ≤ ds.length ∧ Iv H' fun acc => lcP2 g tt q1 vs1 g1 tt1 te (wipeG G vs) (ds.drop i) acc Q, ⟨_, rfl, Nat.zero_le _, O2, fun a o e _ => ?_, [], [], upd_same, Reps.nil, hq⟩, ?_⟩
  · rw [upd_ne (ne_of_none e hD)]
    exact e
  rintro i m H' ⟨rfl, hi, O', kp, acc, us, eD, racc, hl⟩
  have prOf : ∀ {H3 : Hp}, (∀ a o, H1 a = some o → nL B.W.L a → H3 a = some o) → Pr S H1 (fun a => S a ∨ a = D) H3 := fun {H3} kp a o n e => ⟨kp a o e (w1.nl n), fun z => z.elim n fun z => by rw [z, hD] at e; cases e⟩
  have wk' := wk (fun a => S a ∨ a = D) H' (prOf kp) O'.wok i
  by_cases hlt : i < ds.length
  · refine .inr ?_
    have hdr : ds.drop i = ds[i] :: ds.drop (i + 1) := List.drop_eq_getElem_cons hlt
    rw [hdr] at hl
    obtain ⟨go, yl⟩ := wk'.1 ds[i] (List.getElem?_eq_getElem hlt)
    refine ⟨go, fun H3 => Iv H3 fun acc => lcP2 g tt q1 vs1 g1 tt1 te (wipeG G vs) (ds.drop (i + 1)) acc Q, fun H3 h3 => ⟨ds.length - (i + 1), by omega, rfl, hlt, h3⟩, fun x H2 hy => ?_⟩
    obtain ⟨f2, r2⟩ := yl x H2 hy
    refine ⟨_, _, ds[i], _, O'.fut f2, r2, hl, fun σ3 H3 G3 O3 f3 ew no3' q3 => ⟨ew.trans (wipe_wipe σ vs), ?_⟩⟩
    refine ⟨_, _, _, _, O3, q3, fun b H4 f4 q4 => ?_, kx0⟩
    have f24 := (f2.trans f3).trans f4
    cases b with
    | true =>
      dsimp only at q4 ⊢
      rw [if_pos rfl] at q4 ⊢
      have O4 := O3.fut f4
      refine ⟨_, _, _, _, O4, q4, fun J1 H5 es f5 wk5 q5 => ?_, kx0⟩
      have f25 := f24.trans f5
      have O5 : Ok B (fun a => S a ∨ a = D) (L2.wipe σ3 vs1) H5 (wipeG G3 vs1) := (O4.fut f5).wipe vs1
      have no3 : NoOwn (L2.wipe σ3 vs1) (wipeG G3 vs1) D := (no3' D no).wipe vs1
      have eD5 := f25.keep D _ eD nl
      refine ⟨fun j m H6 => m = es.length - j ∧ j ≤ es.length ∧ Ok B (fun a => S a ∨ a = D) (L2.wipe σ3 vs1) H6 (wipeG G3 vs1) ∧ Ok B (fun a => S a ∨ a = D) (L2.wipe σ vs) H6 (wipeG G vs) ∧ (∀ a o, H5 a = some o → a ≠ D → nL B.W.L a → H6 a = some o) ∧ ∃ acc us, H6 D = some (.lst us) ∧ Reps (B.W.at fun a => S a ∨ a = D) H6 acc us ∧
        lcP g1 tt1 te (wipeG G3 vs1) (es.drop j) acc fun acc => lcP2 g tt q1 vs1 g1 tt1 te (wipeG G vs) (ds.drop (i + 1)) acc Q, ⟨_, rfl, Nat.zero_le _, O5, O'.fut f25, fun a o e _ _ => e, acc, us, eD5, racc.fut O'.wok f25, q5⟩, ?_⟩
      rintro j m H6 ⟨rfl, hj, O6, O6', kp6, acc6, us6, eD6, racc6, hl6⟩
      have pr6 : Pr (fun a => S a ∨ a = D) H5 (fun a => S a ∨ a = D) H6 := fun a o n e => ⟨kp6 a o e (fun z => n (.inr z)) ((O'.fut f25).wok.nl n), n⟩
      have wk6 := wk5 (fun a => S a ∨ a = D) H6 pr6 O6.wok j
      by_cases hlt6 : j < es.length
      · refine .inr ?_
        have hdr6 : es.drop j = es[j] :: es.drop (j + 1) := List.drop_eq_getElem_cons hlt6
        rw [hdr6] at hl6
        obtain ⟨go6, yl6⟩ := wk6.1 es[j] (List.getElem?_eq_getElem hlt6)
        refine ⟨go6, fun H7 => Ok B (fun a => S a ∨ a = D) (L2.wipe σ3 vs1) H7 (wipeG G3 vs1) ∧ Ok B (fun a => S a ∨ a = D) (L2.wipe σ vs) H7 (wipeG G vs) ∧ (∀ a o, H5 a = some o → a ≠ D → nL B.W.L a → H7 a = some o) ∧ ∃ acc us, H7 D = some (.lst us) ∧ Reps (B.W.at fun a => S a ∨ a = D) H7 acc us ∧
          lcP g1 tt1 te (wipeG G3 vs1) (es.drop (j + 1)) acc fun acc => lcP2 g tt q1 vs1 g1 tt1 te (wipeG G vs) (ds.drop (i + 1)) acc Q, fun H7 h7 => ⟨es.length - (j + 1), by omega, rfl, hlt6, h7⟩, fun x H7 hy => ?_⟩
        obtain ⟨f7, r7⟩ := yl6 x H7 hy
        refine ⟨_, _, es[j], _, O6.fut f7, r7, hl6, fun σ8 H8 G8 O8 f8 ew8 _ q8 => ⟨ew8.trans (wipe_wipe σ3 vs1), ?_⟩⟩
        refine ⟨_, _, _, _, O8, q8, fun b H9 f9 q9 => ?_, kx0⟩
        have f79 := (f7.trans f8).trans f9
        cases b with
        | true =>
          dsimp only at q9 ⊢
          rw [if_pos rfl] at q9 ⊢
          refine ⟨_, _, _, _, O8.fut f9, q9, fun y H10 dy f10 r10 q10 => ?_, kx0⟩
          have g10 := f79.trans f10
          refine ⟨us6, g10.keep D _ eD6 nl, Nat.lt_of_lt_of_le (by rw [racc6.len]; exact q10.1) (le_line (Nat.le_refl _)), (O6.fut g10).hid (.inr rfl) n0 h0 nl no3, (O6'.fut g10).hid (.inr rfl) n0 h0 nl no, fun a o e nd n => ?_, acc6 ++ [dy], us6 ++ [y], upd_same, ?_, q10.2⟩
          · rw [upd_ne nd]
            exact g10.keep a o (kp6 a o e nd n) n
          · have rr := (racc6.fut O6.wok g10).app (Reps.cons r10 Reps.nil)
            exact Reps.mono (W := B.W.at fun a => S a ∨ a = D) (fun b u n z => ⟨by rw [upd_ne (show b ≠ D from fun y => n (.inr y))]; exact z, n⟩) _ _ rr
        | false =>
          dsimp only at q9 ⊢
          rw [if_neg Bool.false_ne_true] at q9 ⊢
          exact ⟨O6.fut f79, O6'.fut f79, fun a o e nd n => f79.keep a o (kp6 a o e nd n) n, acc6, us6, f79.keep D _ eD6 nl, racc6.fut O6.wok f79, q9⟩
      · have e6 : j = es.length := by omega
        have hdr6 : es.drop j = [] := by rw [e6, List.drop_length]
        rw [hdr6] at hl6
        refine .inl ⟨wk6.2 e6, O6', fun a o e n => ?_, acc6, us6, eD6, racc6, hl6⟩
        exact kp6 a o (f25.keep a o (kp a o e n) n) (ne_of_none e hD) n
    | false =>
      dsimp only at q4 ⊢
      rw [if_neg Bool.false_ne_true] at q4 ⊢
      exact ⟨O'.fut f24, fun a o e n => f24.keep a o (kp a o e n) n, acc, us, f24.keep D _ eD nl, racc.fut O'.wok f24, q4⟩
  · have e : i = ds.length := by omega
    have hdr : ds.drop i = [] := by rw [e, List.drop_length]
    rw [hdr] at hl
    refine .inl ⟨wk'.2 e, hk D us H' acc (f.free hD) ⟨fun a o ea n => kp a o (f.keep a o ea n) n, fun s l el => (O'.wok.law s l el).1⟩ eD racc hl⟩
/-! rules -/
section
variable {B : Bs} {X : Cx} {Wx : WX} {a b c e tg iter tg1 iter1 elt : Expr} {es ifs ifs1 : List Expr} {pa pb pc te : XP} {pos py spos : Pos} {pas q q1 : XAp} {tt tt1 : XTp} {g g1 : XGp} {gs : XGsp} {vs vs1 : List Nat} {scope : Scope} {own : List (Str × Nat)}
theorem xv_name (i : Nat) {x : Str} (hN : X.N.Nodup) (hi : X.N[i]? = some x := by rfl) (hx : Loc X.env.scope x := by first | exact Or.inl rfl | exact Or.inr rfl) (hf : X.fn x = true ∨ X.env.scope.names.lookup x = some .local := by first | exact .inl rfl | exact .inr rfl | assumption) (hm : i ∈ vs := by decide) : XV B X vs (.Name x pos) (gN i) :=
  ⟨⟨fun pins s σ H v u Q I r ⟨S, G, d, Qd, O, rv, q, hk⟩ => (pg_name hN hi hx hf).run pins s σ H v u Q I r (hk _ H _ (O.set i rv) (Fut.refl O.wok) (wipe_set hm) (fun q h => h.drop i rfl) q)⟩⟩
theorem xvs_nil : XVs B X vs [] gsN := ⟨gNil, pgs_nil, fun S σ H G ds us Q k O r q h => by
  cases ds with
  | nil =>
    simp only [Reps] at r
    exact ⟨r, h σ H G O (Fut.refl O.wok) rfl (fun _ h => h) q⟩
  | cons d ds => exact False.elim q⟩
theorem xvs_cons (h1 : XV B X vs e g) (h2 : XVs B X vs es gs)
    (h : (assignEach (e :: es) X.env).map (·.2) = assign e X.env :: (assignEach es X.env).map (·.2) := by rfl) : XVs B X vs (e :: es) (gsC g gs) := by
  obtain ⟨u, h2, e2⟩ := h2.ex
  refine ⟨gCons (canG B vs g) u, by first | exact pgs_cons h1.run h2 h | exact pgs_cons h1.run h2, fun S σ H G ds us Q k O r q h => ?_⟩
  cases ds with
  | nil => exact False.elim q
  | cons d ds =>
    simp only [Reps] at r
    obtain ⟨v, r', rfl, r1, r2⟩ := r
    refine ⟨v, r', rfl, S, G, d, _, O, r1, q, fun σ' H' G' O' f w n q' => ?_⟩
    exact e2 S σ' H' G' ds r' Q k O' (r2.fut O.wok f) q' fun σ2 H2 G2 O2 f2 w2 n2 q2 => h σ2 H2 G2 O2 (f.trans f2) (w2.trans w) (fun q hq => n2 q (n q hq)) q2
theorem xv_tup {kk n : Nat} (hc : X.calm = true) (h : XVs B X vs es gs) (hn : (assignEach es X.env).length = n := by rfl) (hst : (assignEach es X.env).findIdx? (·.1) = none := by rfl) : XV B X vs (.Tuple es kk pos) (gU n gs) := by
  obtain ⟨t, h, ev⟩ := h.ex
  have h1 := pg_tup (pos := pos) (k := kk) hc h hn hst
  have h2 := pg_unl (pos := pos) (k := kk) hc h hn hst
  refine ⟨⟨fun pins s σ H v u Q I r ⟨S, G, d, Qd, O, rv, q, hk⟩ => ?_⟩⟩
  cases d <;> first | exact False.elim q | skip
  · obtain ⟨p, ws, rfl, n1, e1, z1⟩ := repL rv
    exact h2.run pins s σ H _ u Q I r ⟨p, ws, rfl, SqL.of e1, by rw [z1.len]; exact q.1, ev S σ H G _ ws Qd _ O z1 q.2 hk⟩
  · obtain ⟨p, ws, rfl, n1, e1, z1⟩ := repT rv
    exact h1.run pins s σ H _ u Q I r ⟨p, ws, rfl, (.inl e1), by rw [z1.len]; exact q.1, ev S σ H G _ ws Qd _ O z1 q.2 hk⟩
/-- a clause's tests -/
structure XTs (B : Bs) (X : Cx) (ifs : List Expr) (t : XTp) : Prop where
  run : PTs X ifs (canT B wx0 t)
theorem xts_nil : XTs B X [] rYes := ⟨⟨fun _ _ _ H _ I ⟨_, _, _, _, O, q, kt, _⟩ => wpAny_tests_nil ⟨H, I, kt true H (Fut.refl O.wok) q⟩⟩⟩
theorem xts_one (h : XT B X wx0 c tt) : XTs B X [c] tt := ⟨pts_one h.can⟩
abbrev Blk (X : Cx) (scope : Scope) (P : Cx → Prop) : Prop := ∀ (s : Shared) (H : Hp) (C : Addr) (cl : List (Str × Addr)) (fp : List Addr), P (X.blk s H scope (compEnvC scope cl C X.env) fp)
theorem xn_lc (hc : X.calm = true) (hN : X.N.Nodup) (hi : XI B X Wx tg iter q) (ok : BlkOk X.N X.env.scope scope own) (hg : Blk X scope fun Y => XV B Y (own.map (·.2)) tg g) (ht : Blk X scope fun Y => XTs B Y ifs tt) (he : Blk X scope fun Y => XE B Y wx0 elt te)
    (hs : ∀ x, foldedSetIterable iter X.env x = pure x := by intro _; rfl) : XN B X Wx (.ListComp elt [⟨tg, iter, ifs, 0⟩] scope pos) (rLc (own.map (·.2)) q g tt te) := by
  obtain ⟨wi, hi, ei⟩ := hi.ex
  exact ⟨_, pe_lc hc hN hi ok (fun s H C cl fp => (hg s H C cl fp).run) (fun s H C cl fp => (ht s H C cl fp).run) (fun s H C cl fp => (he s H C cl fp).can) hs, lc_ev ei⟩
theorem xn_lc2 (hc : X.calm = true) (hN : X.N.Nodup) (hi : XI B X Wx tg iter q) (ok : BlkOk X.N X.env.scope scope own) (hv : ∀ i ∈ vs1, i ∈ own.map (·.2)) (hg : Blk X scope fun Y => XV B Y (own.map (·.2)) tg g) (ht : Blk X scope fun Y => XTs B Y ifs tt) (hi1 : Blk X scope fun Y => XI B Y wx0 tg1 iter1 q1)
    (hg1 : Blk X scope fun Y => XV B Y vs1 tg1 g1) (ht1 : Blk X scope fun Y => XTs B Y ifs1 tt1) (he : Blk X scope fun Y => XE B Y wx0 elt te)
    (hs : ∀ x, foldedSetIterable iter X.env x = pure x := by intro _; rfl) (hs1 : ∀ env x, foldedSetIterable iter1 env x = pure x := by intro _ _; rfl) : XN B X Wx (.ListComp elt [⟨tg, iter, ifs, 0⟩, ⟨tg1, iter1, ifs1, 0⟩] scope pos) (rLc2 (own.map (·.2)) vs1 q g tt q1 g1 tt1 te) := by
  obtain ⟨wi, hi, ei⟩ := hi.ex
  exact ⟨_, pe_lc2 hc hN hi ok hv (fun s H C cl fp => (hg s H C cl fp).run) (fun s H C cl fp => (ht s H C cl fp).run) (fun s H C cl fp => (hi1 s H C cl fp).can) (fun s H C cl fp => (hg1 s H C cl fp).run) (fun s H C cl fp => (ht1 s H C cl fp).run) (fun s H C cl fp => (he s H C cl fp).can) hs hs1, lc2_ev ei⟩
/-- a new list as a datum -/
def rNew (a : XAp) : XP := fun G Q E => a G (fun ds => Q (.lst ds)) E
theorem XN.xe (h : XN B X Wx e pas) : XE B X Wx e (rNew pas) := by
  obtain ⟨t, h, ev⟩ := h.ex
  refine ⟨t, h, fun S σ H G Q E k O q ke kx => ev S σ H G _ E k O q (fun a us H' ds hn f e r hq => ?_) kx⟩
  exact ke _ H' _ f (mkL (O.wok.new hn) e (Reps.mono (W := B.W.at fun x => S x ∨ x = a) (S := S) (fun b u n z => ⟨z, fun y => n (.inl y)⟩) _ _ r)) hq
/-! name = [..] on one line -/
theorem evn_set {t : TE} {i : Nat} (ev : EvN B Wx t pas) : EvS B Wx (tAsg t (gName i)) (fun G P => pas G (fun ds => P.nx (G.set i (.d (.lst ds)))) fun e => P.ex e G) := fun S σ H G P D O q k =>
  ev S σ H G _ _ _ O q (fun a us H' ds hn f e r hq => k.nx S _ H' _ ((O.fut f).set i (mkL (O.wok.new hn) e (Reps.mono (W := B.W.at fun x => S x ∨ x = a) (S := S) (fun b u n z => ⟨z, fun y => n (.inl y)⟩) _ _ r))) hq) (k.kx O)
theorem evn_own {t : TE} {i : Nat} (ev : EvN B Wx t pas) : EvS B Wx (tAsg t (gName i)) (rOwnSet i pas) := fun S σ H G P D O q k =>
  ev S σ H G _ _ _ O q (fun a us H' ds hn f e r hq => by
    have nl : nL B.W.L a := O.wok.nl (O.wok.new hn)
    have na : ¬ B.W.S a := fun z => O.wok.new hn (O.sub a z)
    exact k.nx _ _ H' _ (O.keep i (g := .own ds) hn f.keep f.law ⟨_, e⟩ nl ⟨a, us, rfl, .inr rfl, na, nl, e, r⟩) hq) (k.kx O)
def rSetN (i : Nat) (a : XAp) : XSp := fun G P => a G (fun ds => P.nx (G.set i (.d (.lst ds)))) fun e => P.ex e G
theorem xs_lc (i : Nat) {y : Str} (hc : X.calm = true) (hN : X.N.Nodup) (hi : XI B X Wx tg iter q) (ok : BlkOk X.N X.env.scope scope own) (hg : Blk X scope fun Y => XV B Y (own.map (·.2)) tg g) (ht : Blk X scope fun Y => XTs B Y ifs tt) (he : Blk X scope fun Y => XE B Y wx0 elt te)
    (hy : X.N[i]? = some y := by rfl) (hyl : X.env.scope.names.lookup y = some .local := by rfl) (hsw : swapsWith (.ListComp elt [⟨tg, iter, ifs, 0⟩] scope pos) (some (.Name y py)) spos.line X.env = pure true := by rfl)
    (hs : ∀ x, foldedSetIterable iter X.env x = pure x := by intro _; rfl) : XS B X Wx (.Assign [.Name y py] (.ListComp elt [⟨tg, iter, ifs, 0⟩] scope pos) spos) (rSetN i (rLc (own.map (·.2)) q g tt te)) ∧
      XS B X Wx (.Assign [.Name y py] (.ListComp elt [⟨tg, iter, ifs, 0⟩] scope pos) spos) (rOwnSet i (rLc (own.map (·.2)) q g tt te)) := by
  obtain ⟨wi, hi, ei⟩ := hi.ex
  have hp := ps_setLc (py := py) (spos := spos) hc hN hy hyl hsw hi ok (fun s H C cl fp => (hg s H C cl fp).run) (fun s H C cl fp => (ht s H C cl fp).run) (fun s H C cl fp => (he s H C cl fp).can) hs
  exact ⟨⟨_, hp, evn_set (lc_ev ei)⟩, ⟨_, hp, evn_own (lc_ev ei)⟩⟩
theorem xs_lc2 (i : Nat) {y : Str} (hc : X.calm = true) (hN : X.N.Nodup) (hi : XI B X Wx tg iter q) (ok : BlkOk X.N X.env.scope scope own) (hv : ∀ i ∈ vs1, i ∈ own.map (·.2)) (hg : Blk X scope fun Y => XV B Y (own.map (·.2)) tg g) (ht : Blk X scope fun Y => XTs B Y ifs tt) (hi1 : Blk X scope fun Y => XI B Y wx0 tg1 iter1 q1)
    (hg1 : Blk X scope fun Y => XV B Y vs1 tg1 g1) (ht1 : Blk X scope fun Y => XTs B Y ifs1 tt1) (he : Blk X scope fun Y => XE B Y wx0 elt te)
    (hy : X.N[i]? = some y := by rfl) (hyl : X.env.scope.names.lookup y = some .local := by rfl) (hsw : swapsWith (.ListComp elt [⟨tg, iter, ifs, 0⟩, ⟨tg1, iter1, ifs1, 0⟩] scope pos) (some (.Name y py)) spos.line X.env = pure true := by rfl)
    (hs : ∀ x, foldedSetIterable iter X.env x = pure x := by intro _; rfl) (hs1 : ∀ env x, foldedSetIterable iter1 env x = pure x := by intro _ _; rfl) :
    XS B X Wx (.Assign [.Name y py] (.ListComp elt [⟨tg, iter, ifs, 0⟩, ⟨tg1, iter1, ifs1, 0⟩] scope pos) spos) (rSetN i (rLc2 (own.map (·.2)) vs1 q g tt q1 g1 tt1 te)) ∧
      XS B X Wx (.Assign [.Name y py] (.ListComp elt [⟨tg, iter, ifs, 0⟩, ⟨tg1, iter1, ifs1, 0⟩] scope pos) spos) (rOwnSet i (rLc2 (own.map (·.2)) vs1 q g tt q1 g1 tt1 te)) := by
  obtain ⟨wi, hi, ei⟩ := hi.ex
  have hp := ps_setLc2 (py := py) (spos := spos) hc hN hy hyl hsw hi ok hv (fun s H C cl fp => (hg s H C cl fp).run) (fun s H C cl fp => (ht s H C cl fp).run) (fun s H C cl fp => (hi1 s H C cl fp).can) (fun s H C cl fp => (hg1 s H C cl fp).run) (fun s H C cl fp => (ht1 s H C cl fp).run) (fun s H C cl fp => (he s H C cl fp).can) hs hs1
  exact ⟨⟨_, hp, evn_set (lc2_ev ei)⟩, ⟨_, hp, evn_own (lc2_ev ei)⟩⟩
end
end Pu
namespace Pu
open PySem PySem.Spec PyProof.Rows L2
/-! ## tuples whose place in the heap is known -/
def wk : D → D
  | .ftp ds => .tup ds
  | d => d
theorem Rep.wk {W : Wd} {H : Hp} {d : D} {v : V} (h : Rep W H d v) : Rep W H (Pu.wk d) v := by
  cases d <;> first | exact h | exact h.thaw
def rWk (a : XP) : XP := fun G Q E => a G (fun d => Q (wk d)) E
/-- tuple(list), its place known -/
def oFtup : DFn := fun xs Q _ => match xs with
  | [.lst ds] => Q (.ftp ds)
  | _ => False
def findD (ds : List D) (x : D) : Option Nat := ds.findIdx? fun d => deq d x
/-- t.index(x), t a tuple whose place is known -/
def rIndexT (a b : XP) : XP := fun G Q E => a G (fun x => match x with
  | .ftp ds => b G (fun y => pl 50 y = true ∧ ds.all (pl 50) = true ∧ ∃ j, findD ds y = some j ∧ Q (.int (j : Int))) E
  | _ => False) E
def rIndexL (a b : XP) : XP := fun G Q E => a G (fun x => match x with
  | .lst ds => b G (fun y => pl 50 y = true ∧ ds.all (pl 50) = true ∧ ∃ j, findD ds y = some j ∧ Q (.int (j : Int))) E
  | _ => False) E
theorem findD_at {ds : List D} {x : D} {j : Nat} (h : findD ds x = some j) : (∃ d, ds[j]? = some d ∧ deq d x = true) ∧ ∀ m d, m < j → ds[m]? = some d → deq d x = false := by
  unfold findD at h
  obtain ⟨h1, h2, h3⟩ := List.findIdx?_eq_some_iff_getElem.mp h
  refine ⟨⟨ds[j], List.getElem?_eq_getElem h1, h2⟩, fun m d hm e => ?_⟩
  have hl : m < ds.length := by omega
  rw [List.getElem?_eq_getElem hl] at e
  cases e
  simpa using h3 m hm
section
variable {B : Bs} {X : Cx} {Wx : WX} {a b c e o : Expr} {es : List Expr} {pa pb pc : XP} {pos p p2 apos cpos : Pos} {pas : XAp}
theorem xe_wk (h : XE B X Wx e pa) : XE B X Wx e (rWk pa) := by
  obtain ⟨t, h, ev⟩ := h.ex
  exact ⟨t, h, fun S σ H G Q E k O q ke kx => ev S σ H G _ E k O q (fun v H' d f r q => ke v H' (wk d) f r.wk q) kx⟩
theorem call_ftup : CallR X (.type "tuple") (fun xs H Q => ∃ p ys, xs = [.ref p] ∧ SqL X.K H p ys ∧ ∀ l o, H l = none → o.dict = none → Q (.ref l) (upd H l (.frz o (.tup ys)))) := by
  intro pins s σ H xs us Q I r h
  obtain ⟨p, ys, rfl, hq, q⟩ := h
  obtain ⟨u, rfl, rx⟩ := vals1 r
  cases rx
  obtain ⟨its, r', pl, hz⟩ := I.list hq
  have hlen := r'.length
  refine call_tuple_list pl.isList (fun h' kp => ?_) (by simp only [List.size_toArray] <;> omega)
  have I1 : Inv X pins σ H { s with heap := h' } := I.kept (t' := s.toks) kp
  have I2 : Inv X pins σ (upd H h'.objs.size (.frz { cls := .type "tuple", data := .seq its.toArray } (.tup ys))) { s with heap := h'.push { cls := .type "tuple", data := .seq its.toArray } } :=
    I1.laid (t' := s.toks) (fun b o e => Heap.get?_push_of_some _ e) (Nat.le_refl _) (show ObjOk X.prog X.w _ _ _ (.frz _ (.tup ys)) from ⟨Heap.get?_push_size _ rfl, hz, its, r', IsTup.new _ _⟩)
  exact ⟨.ref h'.objs.size, _, I2, rfl, q _ _ (I1.hok.fresh (Nat.le_refl _)) rfl⟩
theorem xf_ftup : XF B X Wx (.type "tuple") oFtup := ⟨_, call_ftup, fun S H xs dxs Q E k w r q ke => by
  cases dxs with
  | nil => exact False.elim q
  | cons d ds =>
    cases ds with
    | cons d2 ds => cases d <;> exact False.elim q
    | nil =>
      obtain ⟨v, rfl, r9⟩ := reps1 r
      cases d <;> first | exact False.elim q | skip
      obtain ⟨a, vs, rfl, n, e1, z⟩ := repL r9
      refine ⟨a, vs, rfl, SqL.of e1, fun l o hl hd => ?_⟩
      have g := fut_new (o := .frz o (.tup vs)) w hl
      refine ke _ _ _ g ?_ q
      simp only [Rep]
      exact ⟨l, vs, o, rfl, w.new hl, hd, upd_same, z.fut w g⟩⟩
/-! ### methods of tuples and lists -/
def tTM (r : V → List V → Hp → VK → Prop) (to : TE) (t : TA) : TE := fun σ H Q => to σ H fun x H1 => (∃ p o vs, x = .ref p ∧ o.dict = none ∧ H1 p = some (.frz o (.tup vs))) ∧ t σ H1 fun xs H2 => r x xs H2 Q
theorem pe_tm {name : Str} {id : String} {to : TE} {t : TA} {r : V → List V → Hp → VK → Prop} (slot : Slot "tuple" name id) (hty : typeOf (.builtin id) = pure (.type "method_descriptor")) (hm : MtR X id r) (ho : PE X o to) (ha : PA X (e :: es) t)
    (hbase : attributeBase o name X.env (eval o X.env) = eval o X.env := by rfl)
    (hfew : ((backTo cpos (starEach (e :: es) X.env)).all (fun x => !x.1) && (backToKw cpos (keywordEach [] X.env)).all (fun x => x.1.isSome)
      && decide ((e :: es).length + ([] : List Keyword).length + (if ([] : List Keyword).isEmpty then 0 else 1) < 30)) = true := by rfl)
    (hline : (apos.endLine == cpos.line) = true := by rfl) (hs : starEach (e :: es) X.env = (false, eval e X.env) :: starEach es X.env := by rfl) (hplain : (backTo cpos (starEach es X.env)).any (·.1) = false := by rfl) :
    PE X (.Call (.Attribute o name apos) (e :: es) [] cpos) (tTM r to t) := by
  refine ⟨fun pins s σ H Q I h => ?_⟩
  refine wpAny_Call_method_late hbase hfew hline rfl (thn (ho.run pins s σ H _ I h) fun v s1 ⟨x, H1, I1, r1, ⟨p, ob, vs, ex, hd, eH⟩, q1⟩ => ?_)
  subst ex
  obtain rfl : v = Value.ref p := r1
  obtain ⟨eo, hok⟩ : ObjOk X.prog X.w H1 s1.heap p (.frz ob (.tup vs)) := I1.hok p _ eH
  obtain ⟨_, its, _, o2, e2, c2, _⟩ : ObjOk X.prog X.w H1 s1.heap p (.tup vs) := hok
  rw [eo] at e2
  cases e2
  refine ⟨"tuple", id, PySem.F.plainAttrs_tuple, slot, hty, ⟨ob, eo, c2⟩, fun a z => ?_, ?_⟩
  · cases z
    exact ⟨ob, eo, hd⟩
  have hA := ha.run cpos pins s1 σ H1 _ I1 q1
  rw [hs] at hA ⊢
  refine Calls.callWith_builtin (by show (false || (backTo cpos (starEach es X.env)).any (·.1)) = false; rw [hplain] <;> rfl) (Calls.evalArgs_plain ?_)
  exact thn hA fun us s2 ⟨ws, H2, I2, r2, q2⟩ => hm pins s2 σ H2 (.ref p) ws _ us Q I2 rfl r2 q2
def rIdxT : V → List V → Hp → VK → Prop := fun x xs H Q => ∃ (W : Wd) (d : D) (ds : List D) (y : V) (j : Nat), xs = [y] ∧ pl 50 d = true ∧ ds.all (pl 50) = true ∧ Rep W H d y ∧ Rep W H (.tup ds) x ∧ findD ds d = some j ∧ Q (.int (j : Nat)) H
theorem idx_fn {pins : List (Addr × Obj)} {σ : L2.St} {H : Hp} {s : Shared} {W : Wd} (I : Inv X pins σ H s) (hu : X.A.units + 64 < cLine) {d : D} {ds : List D} {y : V} {u : Value} {vs : List V} {its : List Value} {j : Nat} (h1 : pl 50 d = true) (h2 : ds.all (pl 50) = true) (ry : Rep W H d y) (ru : RelV y u)
    (rr : Reps W H ds vs) (rv : Vals vs its) (hf : findD ds d = some j) : ∃ (e : Value → Bool) (hj : j < its.length), (∀ y, y ∈ its → SeqAt.EqAt X.A.in1 s y u (e y)) ∧ e its[j] = true ∧ ∀ m (hm : m < its.length), m < j → e its[m] = false := by
  obtain ⟨⟨z, ez, hz⟩, hno⟩ := findD_at hf
  have g : ∀ (i : Nat) (hi : i < its.length), ∃ zz w, ds[i]? = some zz ∧ Rep W H zz w ∧ RelV w its[i] := fun i hi => by
    have hv : i < vs.length := by rw [rv.length]; exact hi
    obtain ⟨u', e1, e2⟩ := rv.get (List.getElem?_eq_getElem hv)
    rw [List.getElem?_eq_getElem hi] at e1
    cases e1
    obtain ⟨z', ez', rz'⟩ := rr.get' (List.getElem?_eq_getElem hv)
    exact ⟨z', _, ez', rz', e2⟩
  have hjl : j < its.length := by
    have := (List.getElem?_eq_some_iff.mp ez).1
    rw [← rv.length, rr.len]
    exact this
  have hp : ∀ {i : Nat} {zz : D}, ds[i]? = some zz → pl 50 zz = true := fun {i zz} e => List.all_eq_true.mp h2 zz (List.mem_of_getElem? e)
  have ev : ∀ (m : Nat) (hm : m < its.length) (z' : D), ds[m]? = some z' → @decide (∃ (i : Nat) (hi : i < its.length) (zz : D), its[i] = its[m] ∧ ds[i]? = some zz ∧ deq zz d = true) (Classical.propDecidable _) = deq z' d := fun m hm z' e => by
    cases hq : deq z' d with
    | true => exact @decide_eq_true _ (Classical.propDecidable _) ⟨m, hm, z', rfl, e, hq⟩
    | false =>
      refine @decide_eq_false _ (Classical.propDecidable _) ?_
      rintro ⟨i, hi, zz, e1, e2, e3⟩
      obtain ⟨z1, w1, a1, b1, c1⟩ := g i hi
      obtain ⟨z2, w2, a2, b2, c2⟩ := g m hm
      rw [e2] at a1
      rw [e] at a2
      cases a1
      cases a2
      rw [e1] at c1
      have := RelV.inj c1 c2
      subst this
      have := Rep.uniq 50 zz z' w1 (hp e2) (hp e) b1 b2
      subst this
      rw [hq] at e3
      cases e3
  refine ⟨fun y => @decide (∃ (i : Nat) (hi : i < its.length) (zz : D), its[i] = y ∧ ds[i]? = some zz ∧ deq zz d = true) (Classical.propDecidable _), hjl, fun y hy => ?_, ?_, fun m hm hmj => ?_⟩
  · obtain ⟨m, hm, rfl⟩ := List.getElem_of_mem hy
    obtain ⟨z', w, ez', rz', rw_⟩ := g m hm
    show SeqAt.EqAt X.A.in1 s its[m] u (@decide _ (Classical.propDecidable _))
    rw [ev m hm z' ez']
    exact eqAtD I 50 z' d X.A.in1 w y its[m] u (hp ez') h1 rz' ry rw_ ru (by show X.A.units + 1 + 50 < cLine; omega)
  · show @decide _ (Classical.propDecidable _) = true
    rw [ev j hjl z ez, hz]
  · obtain ⟨z', w, ez', _⟩ := g m hm
    show @decide _ (Classical.propDecidable _) = false
    rw [ev m hm z' ez', hno m z' hmj ez']
theorem mt_idxT (hu : X.A.units + 64 < cLine) : MtR X "tuple.index" rIdxT := by
  intro pins s σ H x xs v us Q I rx rxs h
  obtain ⟨W, d, ds, y, j, rfl, h1, h2, ry, rt, hf, q⟩ := h
  obtain ⟨u, rfl, ru⟩ := vals1 rxs
  obtain ⟨a, vs, its, rfl, ht, rv, rr, _⟩ := atT I rt rx
  obtain ⟨⟨cls, dd, dt, sl⟩, ho, hc, n, hd⟩ := ht
  simp only at hc hd
  subst hc
  subst hd
  obtain ⟨e, hj, he, hy, hn⟩ := idx_fn I hu h1 h2 ry ru rr rv hf
  exact call_meets PySem.F.slot_tuple_index ⟨_, ho, rfl⟩ PySem.F.entry_tuple_index (PySem.F.args_tuple_index_2 _ _)
    (TI.tuple_indexAt a its.toArray n dd sl u e j (by simpa using hj) (by simpa using hy) fun m hm hmj => by simpa using hn m (by simpa using hm) hmj) ⟨ho, fun y hy => he y (by simpa using hy), ⟨.int (j : Nat), H, I.tok _, ⟨_, rfl⟩, q⟩⟩
def rIdxL : V → List V → Hp → VK → Prop := fun x xs H Q => ∃ (W : Wd) (d : D) (ds : List D) (y : V) (j : Nat), xs = [y] ∧ pl 50 d = true ∧ ds.all (pl 50) = true ∧ Rep W H d y ∧ Rep W H (.lst ds) x ∧ findD ds d = some j ∧ Q (.int (j : Nat)) H
theorem mt_idxL (hu : X.A.units + 64 < cLine) : MtR X "list.index" rIdxL := by
  intro pins s σ H x xs v us Q I rx rxs h
  obtain ⟨W, d, ds, y, j, rfl, h1, h2, ry, rt, hf, q⟩ := h
  obtain ⟨u, rfl, ru⟩ := vals1 rxs
  obtain ⟨a, vs, rfl, _, e1, rr⟩ := repL rt
  cases rx
  obtain ⟨its, rv, ⟨⟨cls, dd, data, sl⟩, n, ho, hc, hdn, hd⟩, hlen⟩ := I.list (SqL.of (K := X.K) e1)
  simp only at hc hd
  subst hc hd
  obtain ⟨e, hj, he, hy, hn⟩ := idx_fn I hu h1 h2 ry ru rr rv hf
  have hvl := rv.length
  have hsl := sizeLine_eq
  exact call_meets PySem.F.slot_list_index ⟨_, ho, rfl⟩ PySem.F.entry_list_index (PySem.F.args_list_index_2 _ _)
    (SeqAt.list_indexAt a its.toArray n dd sl u e j (by simpa using hj) (by omega) (by simpa using hy) fun m hm hmj => by simpa using hn m (by simpa using hm) hmj) ⟨ho, fun y hy => he y (by simpa using hy), ⟨.int (j : Nat), H, I.tok _, ⟨_, rfl⟩, q⟩⟩
theorem xe_indexT {k : Nat} (hr : Room k X.A) (ho : XE B X Wx o pa) (ha : XE B X Wx e pb)
    (hbase : attributeBase o "index" X.env (eval o X.env) = eval o X.env := by rfl)
    (hfew : ((backTo cpos (starEach [e] X.env)).all (fun x => !x.1) && (backToKw cpos (keywordEach [] X.env)).all (fun x => x.1.isSome)
      && decide ([e].length + ([] : List Keyword).length + (if ([] : List Keyword).isEmpty then 0 else 1) < 30)) = true := by rfl)
    (hline : (apos.endLine == cpos.line) = true := by rfl) (hs : starEach [e] X.env = (false, eval e X.env) :: starEach [] X.env := by rfl) (hplain : (backTo cpos (starEach [] X.env)).any (·.1) = false := by rfl) :
    XE B X Wx (.Call (.Attribute o "index" apos) [e] [] cpos) (rIndexT pa pb) := by
  obtain ⟨ta, hta, ea⟩ := ho.ex
  obtain ⟨tb, htb, eb⟩ := ha.ex
  refine ⟨_, pe_tm PySem.F.slot_tuple_index PySem.F.type_tuple_index (mt_idxT hr.units) hta (pa_cons htb pa_nil hs) hbase hfew hline hs hplain, fun S σ H G Q E k O q ke kx => ?_⟩
  refine ea S σ H G _ E _ O q (fun v H1 d f1 r1 q1 => ?_) kx
  cases d <;> first | exact False.elim q1 | skip
  have r1' := r1
  simp only [Rep] at r1'
  obtain ⟨p, vs, ob, rfl, n, hd, e1, z⟩ := r1'
  refine ⟨⟨p, ob, vs, rfl, hd, e1⟩, ?_⟩
  refine eb S σ H1 G _ E _ (O.fut f1) q1 (fun w H2 d2 f2 r2 q2 => ?_) (kx.fut f1)
  obtain ⟨h1, h2, j, h3, h4⟩ := q2
  exact ⟨B.W.at S, d2, _, w, j, rfl, h1, h2, r2, (r1.fut (O.wok.fut f1) f2).thaw, h3, ke _ H2 _ (f1.trans f2) mkI h4⟩
theorem xe_indexL {k : Nat} (hr : Room k X.A) (ho : XE B X Wx o pa) (ha : XE B X Wx e pb)
    (hbase : attributeBase o "index" X.env (eval o X.env) = eval o X.env := by rfl)
    (hfew : ((backTo cpos (starEach [e] X.env)).all (fun x => !x.1) && (backToKw cpos (keywordEach [] X.env)).all (fun x => x.1.isSome)
      && decide ([e].length + ([] : List Keyword).length + (if ([] : List Keyword).isEmpty then 0 else 1) < 30)) = true := by rfl)
    (hline : (apos.endLine == cpos.line) = true := by rfl) (hs : starEach [e] X.env = (false, eval e X.env) :: starEach [] X.env := by rfl) (hplain : (backTo cpos (starEach [] X.env)).any (·.1) = false := by rfl) :
    XE B X Wx (.Call (.Attribute o "index" apos) [e] [] cpos) (rIndexL pa pb) := by
  obtain ⟨ta, hta, ea⟩ := ho.ex
  obtain ⟨tb, htb, eb⟩ := ha.ex
  refine ⟨_, pe_bm PySem.F.plainAttrs_list PySem.F.slot_list_index PySem.F.type_list_index (mt_idxL hr.units) hta (pa_cons htb pa_nil hs) hbase hfew hline hs hplain, fun S σ H G Q E k O q ke kx => ?_⟩
  refine ea S σ H G _ E _ O q (fun v H1 d f1 r1 q1 => ?_) kx
  cases d <;> first | exact False.elim q1 | skip
  obtain ⟨p, vs, rfl, n, e1, z⟩ := repL r1
  refine ⟨.inl ⟨rfl, vs, SqL.of e1⟩, ?_⟩
  refine eb S σ H1 G _ E _ (O.fut f1) q1 (fun w H2 d2 f2 r2 q2 => ?_) (kx.fut f1)
  obtain ⟨h1, h2, j, h3, h4⟩ := q2
  exact ⟨B.W.at S, d2, _, w, j, rfl, h1, h2, r2, r1.fut (O.wok.fut f1) f2, h3, ke _ H2 _ (f1.trans f2) mkI h4⟩
/-! ### all, any of a list of bools -/
def bls : List D → Option (List Bool)
  | [] => some []
  | .bl b :: ds => (bls ds).map (b :: ·)
  | _ => none
def oAll : DFn := fun xs Q _ => match xs with
  | [.lst ds] => ∃ bs, bls ds = some bs ∧ Q (.bl (bs.all id))
  | _ => False
def oAny : DFn := fun xs Q _ => match xs with
  | [.lst ds] => ∃ bs, bls ds = some bs ∧ Q (.bl (bs.any id))
  | _ => False
theorem bls_rep {W : Wd} {H : Hp} : ∀ {ds : List D} {vs : List V} {bs : List Bool}, Reps W H ds vs → bls ds = some bs → vs = bs.map V.bl
  | [], vs, bs, h, e => by
    simp only [Reps] at h
    cases e
    exact h
  | d :: ds, vs, bs, h, e => by
    simp only [Reps] at h
    obtain ⟨v, r, rfl, h1, h2⟩ := h
    cases d <;> first | (cases e; done) | skip
    simp only [bls] at e
    cases hb : bls ds with
    | none => rw [hb] at e; cases e
    | some bs' =>
      rw [hb] at e
      cases e
      rw [repB h1, bls_rep h2 hb]
      rfl
theorem xf_all (hc : X.calm = true) : XF B X Wx (.builtin "all") oAll := ⟨_, cr_all hc, fun S H xs dxs Q E k w r q ke => by
  cases dxs with
  | nil => exact False.elim q
  | cons d ds =>
    cases ds with
    | cons d2 ds => cases d <;> exact False.elim q
    | nil =>
      obtain ⟨v, rfl, r9⟩ := reps1 r
      cases d <;> first | exact False.elim q | skip
      obtain ⟨a, vs, rfl, n, e1, z⟩ := repL r9
      obtain ⟨bs, hb, q⟩ := q
      have ev := bls_rep z hb
      subst ev
      exact ⟨a, bs, rfl, SqL.of e1, ke _ H _ (Fut.refl w) mkB q⟩⟩
theorem xf_any (hc : X.calm = true) : XF B X Wx (.builtin "any") oAny := ⟨_, cr_any hc, fun S H xs dxs Q E k w r q ke => by
  cases dxs with
  | nil => exact False.elim q
  | cons d ds =>
    cases ds with
    | cons d2 ds => cases d <;> exact False.elim q
    | nil =>
      obtain ⟨v, rfl, r9⟩ := reps1 r
      cases d <;> first | exact False.elim q | skip
      obtain ⟨a, vs, rfl, n, e1, z⟩ := repL r9
      obtain ⟨bs, hb, q⟩ := q
      have ev := bls_rep z hb
      subst ev
      exact ⟨a, bs, rfl, SqL.of e1, ke _ H _ (Fut.refl w) mkB q⟩⟩
/-! ### (*x, ..) -/
def rStar (a : XP) (b : XAp) : XAp := fun G Q E => a G (fun x => match x with
  | .tup ds => b G (fun xs => Q (ds ++ xs)) E
  | .lst ds => b G (fun xs => Q (ds ++ xs)) E
  | _ => False) E
theorem xa_star (ha : XE B X Wx e pa) (hr : XA B X Wx es pas) (hs : starEach (.Starred e p :: es) X.env = (true, eval e X.env) :: starEach es X.env := by rfl) : XA B X Wx (.Starred e p :: es) (rStar pa pas) := by
  obtain ⟨ta, ha, ea⟩ := ha.ex
  obtain ⟨tr, hr, er⟩ := hr.ex
  refine ⟨_, StX.pa_star ha hr hs, fun S σ H G Q E k O q ka kx => ea S σ H G _ E _ O q (fun v H1 d f r h => ?_) kx⟩
  cases d <;> first | exact False.elim h | skip
  · obtain ⟨a, vs, rfl, n, e1, z⟩ := repL r
    refine ⟨a, vs, rfl, .inr (SqL.of e1), er S σ H1 G _ E _ (O.fut f) h (fun us H2 ds f2 r2 h2 => ?_) (kx.fut f)⟩
    exact ka (vs ++ us) H2 _ (f.trans f2) ((z.fut (O.wok.fut f) f2).app r2) h2
  · obtain ⟨a, vs, rfl, n, e1, z⟩ := repT r
    refine ⟨a, vs, rfl, .inl (.inl e1), er S σ H1 G _ E _ (O.fut f) h (fun us H2 ds f2 r2 h2 => ?_) (kx.fut f)⟩
    exact ka (vs ++ us) H2 _ (f.trans f2) ((z.fut (O.wok.fut f) f2).app r2) h2
/-! ### the signs of a text -/
def signs (z : Str) : List D := z.cps.toList.map fun c => .str ⟨#[c]⟩
def rSigns (a : XP) : XAp := fun G Q E => a G (fun d => match d with
  | .str z => Q (signs z)
  | _ => False) E
theorem wk_str {W : Wd} {S : Addr → Prop} {H : Hp} {z : Str} : Wk W S H (Its z) (signs z) := fun S' H' pr w i => by
  have hl : z.cps.size = (signs z).length := by unfold signs; simp
  refine ⟨fun d ed => ?_, fun e => ?_⟩
  · have hi := (List.getElem?_eq_some_iff.mp ed).1
    refine ⟨by show i < z.cps.size; omega, fun x H2 ⟨e, c, ec, ex⟩ => ?_⟩
    subst e
    subst ex
    unfold signs at ed
    rw [List.getElem?_map] at ed
    have : z.cps.toList[i]? = some c := by rw [Array.getElem?_toList]; exact ec
    rw [this] at ed
    cases ed
    exact ⟨Fut.refl w, mkS⟩
  · show z.cps.size ≤ i
    omega
theorem xi_str {tg : Expr} (ha : XE B X Wx a pa) : XI B X Wx tg a (rSigns pa) := by
  obtain ⟨ta, ha, ea⟩ := ha.ex
  refine ⟨_, pi_str ha, fun S σ H G Q E R O q hR kx => ea S σ H G _ E _ O q (fun v H1 d f r h => ?_) kx⟩
  cases d <;> first | exact False.elim h | skip
  exact ⟨_, repS r, hR _ H1 _ f wk_str h⟩
end
end Pu
namespace Pu
open PySem PySem.Spec PyProof.Rows L2
open PySem.W (findIn kitOne kitAny clsIn typeIn subIn mroIn isFn)
/-! ## operators of own classes -/
theorem sub_bc {K : PySem.W.Frag} {a : String} {C : Addr} (ha : a ∈ builtinTys) : subIn K (.type a) (.ref C) = some false := by
  obtain ⟨k1, k2⟩ := mro_b a ha
  obtain ⟨l, hl⟩ := Option.isSome_iff_exists.mp k1
  unfold subIn
  dsimp only
  rw [hl]
  have : l.contains (Value.ref C) = false := by
    rw [Bool.eq_false_iff]
    intro z
    have := List.all_eq_true.mp (k2 l hl) _ (List.contains_iff_mem.mp z)
    cases this
  rw [Option.map_some, this]
theorem sub_cc {K : PySem.W.Frag} {C C' : Addr} (F : ClsF K C) (h : C ≠ C') : subIn K (.ref C) (.ref C') = some false := by
  obtain ⟨cd, h1, h2⟩ := F.ex
  unfold subIn mroIn
  dsimp only
  rw [h1, Option.bind_some, h2]
  simp
  intro z
  exact h z.symm
theorem nf_ok {K : PySem.W.Frag} {CT : Nat → Addr} {cs : List Nat} (F : ClsX K CT cs) {d : D} (o : okI cs d) {c : Nat} (hc : c ∈ cs) : PySem.W.notFirst K (CT c) (tyv CT d) = true := by
  unfold PySem.W.notFirst
  by_cases hi : ∃ c ds, d = .ins c ds
  · obtain ⟨c', ds, rfl⟩ := hi
    by_cases e : CT c' = CT c
    · show (Value.ref (CT c') == Value.ref (CT c) || _) = true
      rw [e]
      simp
    · show (Value.ref (CT c') == Value.ref (CT c) || (subIn K (.ref (CT c')) (.ref (CT c)) == some false)) = true
      rw [sub_cc (F.f c' o) e]
      simp
  · have hi' : ∀ c ds, d ≠ .ins c ds := fun c ds z => hi ⟨c, ds, z⟩
    have m := tyn_mem cs o hi'
    have e1 : tyv CT d = .type (tyn d) := by cases d <;> first | rfl | exact absurd rfl (hi' _ _)
    rw [e1, sub_bc m]
    simp
structure OEnt (P : Program) (w : World) (K : PySem.W.Frag) (mg : Str → Option Value) (base : Heap) (CT : Nat → Addr) (lay : Nat → List Str) (k : Nat) (nm : Str) (q : Nat × DFn) : Prop where
  ex : ∃ g fd ps, findIn K (.ref (CT q.1)) nm = some (some (.ref g)) ∧ isFn K (.ref g) = true ∧ FnOk P w K mg base (L2.CX P w) k g fd ps (spP CT lay q.2) ∧ Binds K fd ps []
/-- x op y, x of an own class: its method -/
def oOwn (tbl : List (Nat × DFn)) (cs : List Nat) : DOp := fun x y Q E => match x with
  | .ins c ds => okI cs y ∧ (match tbl.lookup c with
    | some F => F [.ins c ds, y] Q E
    | none => False)
  | _ => False
/-- x != y by its == -/
def oOwnNe (tbl : List (Nat × DFn)) (cs : List Nat) : DOp := fun x y Q E => match x with
  | .ins c ds => okI cs y ∧ (match tbl.lookup c with
    | some F => F [.ins c ds, y] (fun z => onB z fun b => Q (.bl (!b))) E
    | none => False)
  | _ => False
/-- own classes by o, else o' -/
def oSel (o o' : DOp) : DOp := fun x y Q E => match x with
  | .ins _ _ => o x y Q E
  | _ => o' x y Q E
section
variable {B : Bs} {X : Cx} {Wx : WX} {tbl : List (Nat × DFn)} {cs : List Nat} {k : Nat}
def rOwnT (B : Bs) (K : PySem.W.Frag) (tbl : List (Nat × DFn)) (Wx : WX) : L2.St → R2 := fun σ x y H Q => ∃ (q : Nat × DFn) (a dx : Addr) (fs : List (Str × V)) (tb : Value), q ∈ tbl ∧ x = .ref a ∧ H a = some (.ins (B.W.CT q.1) dx fs) ∧ TyX K H y tb ∧ PySem.W.notFirst K (B.W.CT q.1) tb = true ∧ spP B.W.CT B.W.lay q.2 [x, y] H Q (WE Wx σ)
theorem XO.sel {f : Value → Value → Sem Value} {o o' : DOp} (h : XO B X Wx f o) (h' : XO B X Wx f o') : XO B X Wx f (oSel o o') := (h.or h').imp fun x y Q E q => by
  cases x <;> first | exact .inr q | exact .inl q
theorem ev_own {Q' : (D → Prop) → D → Prop} {kk : VK → VK} (hk : ∀ {W : Wd} {H : Hp} {Q : D → Prop} {k : VK}, KE W H Q k → KE W H (Q' Q) (kk k)) (F : ClsX X.K B.W.CT cs) (hcs : ∀ q ∈ tbl, q.1 ∈ cs) :
    ∀ S σ H x y dx dy Q E k, WOk (B.W.at S) H → Rep (B.W.at S) H dx x → Rep (B.W.at S) H dy y → (match dx with | .ins c ds => okI cs dy ∧ (match tbl.lookup c with | some F => F [.ins c ds, dy] (Q' Q) E | none => False) | _ => False) → KE (B.W.at S) H Q k → KX (B.W.at S) σ H E Wx → rOwnT B X.K tbl Wx σ x y H (kk k) := by
  intro S σ H x y dx dy Q E k w r1 r2 q ke kx
  cases dx <;> first | exact False.elim q | skip
  rename_i c ds
  obtain ⟨oy, q⟩ := q
  cases hl : tbl.lookup c with
  | none => rw [hl] at q; exact q.elim
  | some G =>
    rw [hl] at q
    have hm := lookup_mem hl
    obtain ⟨a, dxx, vs, rfl, n, e1, l1, z1⟩ := repO r1
    exact ⟨(c, G), a, dxx, _, _, hm, rfl, e1, tyX (W := B.W.at S) F r2 oy, nf_ok F oy (hcs _ hm), B.W.L, S, [.ins c ds, dy], Q' Q, E, w, Reps.cons r1 (Reps.cons r2 Reps.nil), q, hk ke, kx⟩
theorem xo_cmpO {op : CmpOp} (hop : ∀ a b, compareOp op a b = richCompare op a b) (T : ∀ q ∈ tbl, OEnt X.prog X.w X.K X.mg X.base B.W.CT B.W.lay k (cmpInfo op).2.1 q) (F : ClsX X.K B.W.CT cs) (hcs : ∀ q ∈ tbl, q.1 ∈ cs) (hr : Room k X.A) (tk : Takes X Wx) : XO B X Wx (compareOp op) (oOwn tbl cs) := by
  refine ⟨rOwnT B X.K tbl Wx, fun pins s σ H x y v u Q I rx ry ⟨q, a, dx, fs, tb, hq, ex, ea, ty, nf, h⟩ => ?_, fun S σ H x y dx dy Q E k w r1 r2 q ke kx => ?_⟩
  · subst ex
    obtain rfl : v = Value.ref a := rx
    obtain ⟨g, fd, ps, hs, hf, Fn, b⟩ := (T q hq).ex
    obtain ⟨od, J⟩ := Pt.own_inst I ea
    obtain ⟨m, hF⟩ := I.fr
    obtain ⟨P, kx, pk, _⟩ := kit_of I ry ty
    rw [hop]
    exact PySem.W.cmp_K (tb := tb) hr.units0 hF I.ok.mod.kin J (kx.ty _ _ I.kIn pk) nf hs hf (Pt.run_back Fn hr b (passAt tk σ) I (Pt.vv2 (x := V.ref a) rfl ry) h)
  · exact ev_own (Q' := fun Q => Q) (kk := fun k => k) (fun h => h) F hcs S σ H x y dx dy Q E k w r1 r2 q ke kx
def bNot (k : VK) : VK := fun v H => ∃ b, v = .bl b ∧ k (.bl (!b)) H
theorem xo_neO (N : ∀ q ∈ tbl, Pt.NeOk X.K (B.W.CT q.1)) (T : ∀ q ∈ tbl, OEnt X.prog X.w X.K X.mg X.base B.W.CT B.W.lay k "__eq__" q) (F : ClsX X.K B.W.CT cs) (hcs : ∀ q ∈ tbl, q.1 ∈ cs) (hr : Room (k + 1) X.A) (tk : Takes X Wx) : XO B X Wx (compareOp .NotEq) (oOwnNe tbl cs) := by
  refine ⟨fun σ x y H Q => rOwnT B X.K tbl Wx σ x y H (bNot Q), fun pins s σ H x y v u Q I rx ry ⟨q, a, dx, fs, tb, hq, ex, ea, ty, nf, h⟩ => ?_, fun S σ H x y dx dy Q E k w r1 r2 q ke kx => ?_⟩
  · subst ex
    obtain rfl : v = Value.ref a := rx
    obtain ⟨g, fd, ps, hs, hf, Fn, b⟩ := (T q hq).ex
    obtain ⟨od, J⟩ := Pt.own_inst I ea
    have N1 := N q hq
    have one : wpAny (model X.prog X.w) X.A (tryCompare (.ref a) "__ne__" u) (fun r s' => ∃ v, r = some v ∧ EP X pins σ Q v s') X.xe s := by
      refine Pt.try_ne (by have := hr.units; omega) I.kIn J N1.ne N1.mo hs hf (wpAny_mono (Pt.run_in1 Fn hr b (passAt tk σ) I (Pt.vv2 (x := V.ref a) rfl ry) h) (fun v s' hv => ?_) fun _ _ e => e)
      obtain ⟨z, H', I', rz, bb, ez, q⟩ := hv
      subst ez
      obtain rfl : v = Value.bool bb := rz
      exact ⟨bb, rfl, _, rfl, .bl (!bb), H', I', rfl, q⟩
    obtain ⟨P, kx, pk, _⟩ := kit_of I ry ty
    have Tb := kx.ty (model X.prog X.w) s.heap I.kIn pk
    show wpAny _ _ (richCompare .NotEq (.ref a) u) _ _ _
    unfold richCompare
    simp only [oneThing_ref]
    refine wpAny_holding (wpAny_bind (wpAny_cRoomFor hr.units0 ?_))
    refine wpAny_bind (J.type.here (wpAny_bind (Tb.here ?_)))
    rw [cmpInfo_NotEq]
    dsimp only
    split
    · rename_i q'
      have e : subIn X.K tb (.ref (B.W.CT q.1)) = some false := by
        unfold PySem.W.notFirst at nf
        rcases Bool.or_eq_true_iff.mp nf with z | z
        · rw [beq_iff_eq.mp z] at q'
          simp at q'
        · exact beq_iff_eq.mp z
      refine wpAny_bind ((PySem.W.looks_subIn I.kIn e).here ?_)
      simp only [Bool.false_eq_true, if_false]
      refine wpAny_bind (wpAny_mono one (fun r s' z => ?_) fun _ _ e => e)
      obtain ⟨v, rfl, hq⟩ := z
      exact wpAny_pure hq
    · refine wpAny_bind (wpAny_pure ?_)
      simp only [Bool.false_eq_true, if_false]
      refine wpAny_bind (wpAny_mono one (fun r s' z => ?_) fun _ _ e => e)
      obtain ⟨v, rfl, hq⟩ := z
      exact wpAny_pure hq
  · refine ev_own (Q' := fun Q z => onB z fun b => Q (.bl (!b))) (kk := bNot) (fun {W H Q k} h => ?_) F hcs S σ H x y dx dy Q E k w r1 r2 q ke kx
    intro v H' d f r q
    obtain ⟨b, rfl, q⟩ := onB_elim q
    exact ⟨b, repB r, h _ _ _ f mkB q⟩
end
/-! ## enumerate -/
/-- the tuple at a as it stands, each item in a new pair -/
def IteT (K : PySem.W.Frag) (a : Addr) : It :=
  ⟨fun i H => ∃ (xs : List V) (x : V), SqT K H a xs ∧ xs[i]? = some x, fun i H v H' => ∃ T x, v = .ref T ∧ H T = none ∧ H' = upd H T (.tup [.int (i : Nat), x]) ∧ ∀ xs, SqT K H a xs → xs[i]? = some x, fun i H => ∃ xs : List V, SqT K H a xs ∧ xs.length ≤ i⟩
theorem turn_enumT {P : Program} {w : World} {K : PySem.W.Frag} {elts : List Expr} {kk : Nat} {tpos : Pos} (a e it : Addr) :
    Turn P w K (.Tuple elts kk tpos) (IteT K a) [e, it] e (fun i h => (∃ old, IsEnum h e it ((i : Nat) : Int) old) ∧ h.IsTupleIter it a i ∧ e ≠ it) where
  mem := by simp
  obj := fun i h st b hb => by
    obtain ⟨⟨old, he⟩, ⟨o, ho, hc, hd⟩, _⟩ := st
    have e' : b = e ∨ b = it := by simpa using hb
    rcases e' with z | z
    · rw [z]; exact ⟨_, he, fun v q => nomatch q⟩
    · rw [z]; exact ⟨o, ho, fun v q => by rw [hd] at q; cases q⟩
  keep := fun i h h' st k => let ⟨⟨old, he⟩, hi, hne⟩ := st; ⟨⟨old, k e (by simp) _ he⟩, hi.at fun o q => k it (by simp) o q, hne⟩
  item := by
    intro X hP hw hK hc i pins s σ H E I hf st hg
    subst hP hw hK
    obtain ⟨⟨old, he⟩, hit, hne⟩ := st
    obtain ⟨xs, x, hq, hx⟩ := hg
    obtain ⟨its, rv, p, hz⟩ := I.tuple hq
    obtain ⟨u, hu, ru⟩ := rv.get hx
    have hel : e < s.heap.objs.size := Heap.lt_size he
    have hil : it < s.heap.objs.size := by obtain ⟨_, q, _⟩ := hit; exact Heap.lt_size q
    have hat : a ≠ it := fun z => by
      obtain ⟨o1, q1, c1, _⟩ := p
      obtain ⟨o2, q2, c2, _⟩ := hit
      rw [z, q2] at q1
      cases q1
      rw [c1] at c2
      simp at c2
    have hae : e ≠ a := fun z => by
      obtain ⟨o1, q1, c1, _⟩ := p
      rw [← z, he] at q1
      cases q1
      have c2 : Value.type "enumerate" = Value.type "tuple" := c1
      simp at c2
    have hil2 : i < its.toArray.size := by
      have := (List.getElem?_eq_some_iff.mp hu).1
      simpa using this
    refine wpAny_pyNext_enum_itemD (Draws.tuple (A := X.A.in1) (I.ok.hd hc) it a hat its.toArray) he ⟨hit, p⟩ hil2 hne (by simp [hne, hae]) fun x' h' tk hx' ho hit' hT hsz hk => ?_
    have ex' : x' = u := by
      have : its.toArray[i]? = some u := by simpa using hu
      rw [this] at hx'
      exact (Option.some.inj hx').symm
    subst ex'
    refine ⟨_, rfl, wpAny_letOwnedTupleGo_enum (s := { s with heap := h', toks := tk + 1 }) ho fun h'' he' sb => ?_⟩
    have hT2 : h''.get? s.heap.objs.size = some { cls := .type "tuple", data := .seq #[.int i tk, x'] } := (sb.2 _ (Nat.ne_of_gt hel)).trans hT
    have new : ObjOk X.prog X.w (upd H s.heap.objs.size (.tup [.int (i : Nat), x])) h'' s.heap.objs.size (.tup [.int (i : Nat), x]) :=
      ⟨by show 2 ≤ sizeLine; decide, [.int i tk, x'], .cons ⟨_, rfl⟩ (.cons ru .nil), ⟨_, hT2, rfl, _, rfl⟩⟩
    have I1 : Inv X pins σ (upd H s.heap.objs.size (.tup [.int (i : Nat), x])) { s with heap := h'', toks := tk + 1 } :=
      I.turnedNew (ch := [e, it]) (fun b ob hb q => (sb.2 b (fun z => hb (by simp [z]))).trans (hk b ob (fun z => hb (by simp [z])) (fun z => hb (by simp [z])) q)) hf (Nat.le_refl _) new
    refine ⟨.ref s.heap.objs.size, _, I1, rfl, ⟨_, x, rfl, I.hok.fresh (Nat.le_refl _), rfl, fun ys hy => by rw [I.tuple_inj hy hq]; exact hx⟩, ⟨⟨x', ?_⟩, hit'.1.at fun o q => (sb.2 it (Ne.symm hne)).trans q, hne⟩, fun b hb => ?_⟩
    · have e1 : ((i + 1 : Nat) : Int) = (i : Int) + 1 := by omega
      rw [e1]; exact he'
    · have hb' : b < s.heap.objs.size := by
        have e' : b = e ∨ b = it := by simpa using hb
        rcases e' with z | z
        · rw [z]; exact hel
        · rw [z]; exact hil
      rw [upd_ne (Nat.ne_of_lt hb')]
      exact (hf b hb).1
  done := by
    intro X hP hw hK hc i pins s σ H E I hf st hg
    subst hP hw hK
    obtain ⟨⟨old, he⟩, hit, hne⟩ := st
    obtain ⟨xs, hq, hx⟩ := hg
    obtain ⟨its, rv, p, hz⟩ := I.tuple hq
    obtain ⟨f0, f1, f2, f3, f4, f5⟩ := hf it (by simp)
    have hl := rv.length
    have hx0 : its.toArray[i]? = none := by simp; omega
    have hT : s.TypeIs (.ref e) "enumerate" := ⟨_, he, rfl⟩
    unfold pyNext
    refine wpAny_bind (wpAny_attempt (wpAny_callSpecial?_slot (name := Str.ofString "__next__") hT F.slot_enumerate_next
      (wpAny_call_entry F.slot_enumerate_next hT F.entry_enumerate_next ?_ (F.args_enumerate_next_1 _))))
    show wpAny _ _ (field (.ref e) 2 >>= _) _ _ _
    refine wpAny_bind (wpAny_field he rfl (x := .ref it) rfl ?_)
    refine wpAny_bind (wpAny_nextOf_tuple_end (A := X.A.in1) (I.ok.hd hc) hit p hx0 fun h' x he' hx' => ?_)
    obtain ⟨o, ho, hc⟩ := hx'
    refine wpAny_bind (wpAny_isInstance (T := "StopIteration") (b := true) ⟨o, ho, hc⟩ isSubtype_stop ?_)
    exact wpAny_pure ⟨rfl, I.turned (t' := s.toks) (fun b o hb q => he' b o hb q) f0 f1 f3 f4 f5⟩
  self := fun A i s Q E st h => let ⟨⟨_, he⟩, _⟩ := st; wpAny_pyIter_enum he h
theorem meets_enum1 {v : Value} {o : Obj} {H : Heap → Prop} (B : Begins v o H) :
    Meets (Builtin.«enumerate.__new__» ⟨[.type "enumerate", v], []⟩) (fun _ R s => H s.heap ∧
      R (.ok (.ret (.ref (s.heap.push o).objs.size))) { s with heap := (s.heap.push o).push { cls := .type "enumerate", data := .fields #[.none, .bool false, .ref s.heap.objs.size, rawInt 0, .none, .none] } }) :=
  .of_wp fun prog w A R s h => by
    obtain ⟨hp, g, d, tk, os⟩ := s
    obtain ⟨h1, h⟩ := h
    have hsub := sub_enumerate
    have q1 : ∀ {A' : Around} {E : Value → Shared → Prop} {Q : Value → Shared → Prop}, Q (.ref hp.objs.size) ⟨hp.push o, g, d, tk, os⟩ → wpAny (model prog w) A' (pyIter v) Q E ⟨hp, g, d, tk, os⟩ :=
      fun q => B.iter prog w _ _ ⟨hp, g, d, tk, os⟩ _ h1 q
    wp_walk using q1
    refine wpAny_stack_any fun st => wpAny_pure ?_
    split
    · rename_i c _ _ _ _ _
      cases (c == Value.type "enumerate")
      · wp_walk using q1
        exact ⟨_, rfl, h⟩
      · wp_walk using q1
        exact ⟨_, rfl, h⟩
    · wp_walk using q1
      exact ⟨_, rfl, h⟩
section
variable {prog : Program} {w : World} {A : Around} {E : Value → Shared → Prop} {s : Shared}
theorem enum_one {v : Value} {o : Obj} {H : Heap → Prop} {Q : Value → Shared → Prop} (B : Begins v o H) (h1 : H s.heap)
    (h : ∀ h', IsEnum h' (s.heap.objs.size + 1) s.heap.objs.size 0 .none → h'.get? s.heap.objs.size = some o → (∀ b o, s.heap.get? b = some o → h'.get? b = some o) → Q (.ref (s.heap.objs.size + 1)) { s with heap := h' }) :
    wpAny (model prog w) A (call (.type "enumerate") [v]) Q E s := by
  refine callType_new F.called_enumerate (by decide) (F.typeCall_enumerate_1 _) (F.newCall_enumerate_1 _) (fun obj => F.args_object_init_2 obj _) F.entry_enumerate_new (meets_enum1 B) ⟨h1, ?_⟩
  have hz : (s.heap.push o).objs.size = s.heap.objs.size + 1 := Heap.size_push ..
  show _ ∧ _
  rw [hz]
  have he : IsEnum ((s.heap.push o).push { cls := .type "enumerate", data := .fields #[.none, .bool false, .ref s.heap.objs.size, rawInt 0, .none, .none] }) (s.heap.objs.size + 1) s.heap.objs.size 0 .none := by
    have := Heap.get?_push_size (s.heap.push o) (o := { cls := .type "enumerate", data := .fields #[.none, .bool false, .ref s.heap.objs.size, rawInt 0, .none, .none] }) rfl
    rw [hz] at this
    exact this
  exact ⟨⟨_, he, rfl⟩, h _ he (Heap.get?_push_of_some _ (Heap.get?_push_size _ B.free)) fun b o x => Heap.get?_push_of_some _ (Heap.get?_push_of_some _ x)⟩
end
def iEnumT (K : PySem.W.Frag) (ta : TA) : TI := fun σ H R => ta σ H fun vs H1 => (∃ a xs, vs = [.ref a] ∧ SqT K H1 a xs ∧ R (IteT K a) H1) ∨ (∃ a xs, vs = [.ref a] ∧ SqL K H1 a xs ∧ R (Ite K a) H1)
theorem pi_enumT {X : Cx} {e : Expr} {ta : TA} {p pos tpos : Pos} {elts : List Expr} {kk : Nat} (hg : Gl X "enumerate") (hm : X.mg "enumerate" = none) (ha : PA X [e] ta) (hs : starEach [e] X.env = [(false, eval e X.env)] := by rfl) :
    PI X (.Tuple elts kk tpos) (.Call (.Name "enumerate" p) [e] [] pos) (iEnumT X.K ta) := by
  refine ⟨fun pins s σ H R I h => ?_⟩
  refine Call_ (ld_blt I hg hm boot_enumerate (PyProof.Rows.callWith_type1 (thn (ha.run pos pins s σ H _ I h) fun us s1 ⟨vs, H1, I1, r1, q1⟩ => ?_) hs rfl))
  rcases q1 with ⟨a, xs, ex, hq, q⟩ | ⟨a, xs, ex, hq, q⟩
  · subst ex
    cases r1 with
    | cons r rr =>
      cases rr
      cases r
      obtain ⟨its, rv, p', hz⟩ := I1.tuple hq
      refine enum_one (begins_tuple a its.toArray) p' fun h' he hit hk => wpAny_pyIter_enum he ?_
      have I2 : Inv X pins σ H1 { s1 with heap := h' } := I1.kept (t' := s1.toks) hk
      refine ⟨s1.heap.objs.size + 1, [s1.heap.objs.size + 1, s1.heap.objs.size], _, _, H1, rfl, I2, turn_enumT a (s1.heap.objs.size + 1) s1.heap.objs.size, ⟨⟨.none, he⟩, ⟨_, hit, rfl, rfl⟩, Nat.succ_ne_self _⟩, fun b hb => ?_, q⟩
      have e' : b = s1.heap.objs.size + 1 ∨ b = s1.heap.objs.size := by simpa using hb
      have hle : s1.heap.objs.size ≤ b := by
        rcases e' with z | z
        · rw [z]; exact Nat.le_add_right _ _
        · rw [z]; exact Nat.le_refl _
      exact I1.fpOk hle (I1.hok.fresh hle)
  · subst ex
    cases r1 with
    | cons r rr =>
      cases rr
      cases r
      obtain ⟨its, rv, p', hz⟩ := I1.list hq
      refine enum_one (begins_list a its.toArray) p'.isList fun h' he hit hk => wpAny_pyIter_enum he ?_
      have I2 : Inv X pins σ H1 { s1 with heap := h' } := I1.kept (t' := s1.toks) hk
      refine ⟨s1.heap.objs.size + 1, [s1.heap.objs.size + 1, s1.heap.objs.size], _, _, H1, rfl, I2, turn_enum a (s1.heap.objs.size + 1) s1.heap.objs.size, ⟨⟨.none, he⟩, ⟨_, hit, rfl, rfl⟩, Nat.succ_ne_self _⟩, fun b hb => ?_, q⟩
      have e' : b = s1.heap.objs.size + 1 ∨ b = s1.heap.objs.size := by simpa using hb
      have hle : s1.heap.objs.size ≤ b := by
        rcases e' with z | z
        · rw [z]; exact Nat.le_add_right _ _
        · rw [z]; exact Nat.le_refl _
      exact I1.fpOk hle (I1.hok.fresh hle)
def enumD : Nat → List D → List D
  | _, [] => []
  | i, d :: ds => .tup [.int (i : Int), d] :: enumD (i + 1) ds
theorem enumD_get : ∀ {ds : List D} {i j : Nat}, (enumD i ds)[j]? = (ds[j]?).map fun d => .tup [.int ((i + j : Nat) : Int), d]
  | [], i, j => by simp [enumD]
  | d :: ds, i, 0 => by simp [enumD]
  | d :: ds, i, j + 1 => by
    simp only [enumD, List.getElem?_cons_succ]
    rw [enumD_get]
    have : i + 1 + j = i + (j + 1) := by omega
    rw [this]
theorem enumD_len : ∀ {ds : List D} {i : Nat}, (enumD i ds).length = ds.length
  | [], i => rfl
  | d :: ds, i => by simp [enumD, enumD_len]
theorem wk_enumL {W : Wd} {K : PySem.W.Frag} {S : Addr → Prop} {H : Hp} {p : Addr} {vs : List V} {ds : List D} (n : ¬ S p) (e : H p = some (.lst vs)) (r : Reps (W.at S) H ds vs) : Wk W S H (Ite K p) (enumD 0 ds) := by
  intro S' H' pr w' i
  obtain ⟨e', n'⟩ := pr p _ n e
  have r' : Reps (W.at S') H' ds vs := Reps.mono (W := W.at S) (S := S') pr ds vs r
  refine ⟨fun d ed => ?_, fun hi => ⟨vs, SqL.of e', by rw [r.len, hi, enumD_len]; exact Nat.le_refl _⟩⟩
  rw [enumD_get] at ed
  cases hd : ds[i]? with
  | none => rw [hd] at ed; cases ed
  | some d0 =>
    rw [hd] at ed
    cases ed
    obtain ⟨v, ev, rv⟩ := r'.get hd
    refine ⟨⟨vs, v, SqL.of e', ev⟩, fun x H2 ⟨T, y, ex, hT, eH, hy⟩ => ?_⟩
    subst ex
    subst eH
    have := hy vs (SqL.of e')
    rw [ev] at this
    cases this
    have f := fut_new (o := .tup [.int (i : Nat), v]) w' hT
    exact ⟨f, mkT (w'.new hT) (.inl upd_same) (Reps.cons (by rw [Nat.zero_add]; exact mkI) (Reps.cons (rv.fut w' f) Reps.nil))⟩
theorem wk_enumT {W : Wd} {K : PySem.W.Frag} {S : Addr → Prop} {H : Hp} {p : Addr} {vs : List V} {ds : List D} (n : ¬ S p) (e : Rd H p (.tup vs)) (r : Reps (W.at S) H ds vs) : Wk W S H (IteT K p) (enumD 0 ds) := by
  intro S' H' pr w' i
  have e' : Rd H' p (.tup vs) := e.imp (fun e => (pr p _ n e).1) (fun ⟨o, e⟩ => ⟨o, (pr p _ n e).1⟩)
  have r' : Reps (W.at S') H' ds vs := Reps.mono (W := W.at S) (S := S') pr ds vs r
  refine ⟨fun d ed => ?_, fun hi => ⟨vs, .inl e', by rw [r.len, hi, enumD_len]; exact Nat.le_refl _⟩⟩
  rw [enumD_get] at ed
  cases hd : ds[i]? with
  | none => rw [hd] at ed; cases ed
  | some d0 =>
    rw [hd] at ed
    cases ed
    obtain ⟨v, ev, rv⟩ := r'.get hd
    refine ⟨⟨vs, v, .inl e', ev⟩, fun x H2 ⟨T, y, ex, hT, eH, hy⟩ => ?_⟩
    subst ex
    subst eH
    have := hy vs (.inl e')
    rw [ev] at this
    cases this
    have f := fut_new (o := .tup [.int (i : Nat), v]) w' hT
    exact ⟨f, mkT (w'.new hT) (.inl upd_same) (Reps.cons (by rw [Nat.zero_add]; exact mkI) (Reps.cons (rv.fut w' f) Reps.nil))⟩
def rEnum (a : XP) : XAp := fun G Q E => a G (fun d => match d with
  | .lst ds => Q (enumD 0 ds)
  | .tup ds => Q (enumD 0 ds)
  | _ => False) E
theorem xi_enum {B : Bs} {X : Cx} {Wx : WX} {a : Expr} {pa : XP} {p pos tpos : Pos} {elts : List Expr} {kk : Nat} (hm : X.mg "enumerate" = none) (ha : XE B X Wx a pa) (hg : Gl X "enumerate" := by rfl) (hs : starEach [a] X.env = (false, eval a X.env) :: starEach [] X.env := by rfl) (hs2 : starEach [a] X.env = [(false, eval a X.env)] := by rfl) :
    XI B X Wx (.Tuple elts kk tpos) (.Call (.Name "enumerate" p) [a] [] pos) (rEnum pa) := by
  obtain ⟨ta, ha, ea⟩ := ha.ex
  refine ⟨_, pi_enumT hg hm (pa_cons ha pa_nil hs) hs2, fun S σ H G Q E R O q hR kx => ea S σ H G _ E _ O q (fun v H1 d f r h => ?_) kx⟩
  cases d <;> first | exact False.elim h | skip
  · obtain ⟨p, vs, rfl, n, e1, z⟩ := repL r
    exact .inr ⟨p, vs, rfl, SqL.of e1, hR _ H1 _ f (wk_enumL n e1 z) h⟩
  · obtain ⟨p, vs, rfl, n, e1, z⟩ := repT r
    exact .inl ⟨p, vs, rfl, .inl e1, hR _ H1 _ f (wk_enumT n e1 z) h⟩
end Pu
namespace Pu
open PySem PySem.Spec PyProof.Rows L2
/-! ## a set of texts: how many -/
def ddS (acc : List Str) (x : Str) : List Str := if acc.any (· == x) then acc else acc ++ [x]
def dd (l : List Str) : List Str := l.foldl ddS []
theorem dd_snoc (l : List Str) (x : Str) : dd (l ++ [x]) = ddS (dd l) x := by unfold dd; rw [List.foldl_append]; rfl
theorem ddS_any (acc : List Str) (x y : Str) : (ddS acc x).any (· == y) = (acc.any (· == y) || decide (y = x)) := by
  unfold ddS
  split
  · rename_i h
    by_cases e : y = x
    · subst e
      rw [h]
      simp
    · simp [e]
  · rw [List.any_append]
    by_cases e : y = x
    · subst e
      simp
    · have : (x == y) = false := by rw [beq_eq_false_iff_ne]; exact fun z => e z.symm
      simp [this, e]
theorem dd_any : ∀ (l : List Str) (y : Str), (dd l).any (· == y) = l.any (· == y) := by
  intro l
  have gen : ∀ (l acc : List Str) (y : Str), (l.foldl ddS acc).any (· == y) = (acc.any (· == y) || l.any (· == y)) := by
    intro l
    induction l with
    | nil => intro acc y; simp
    | cons x l ih =>
      intro acc y
      rw [List.foldl_cons, ih, ddS_any, List.any_cons, Bool.or_assoc]
      congr 1
      have : decide (y = x) = (x == y) := by
        by_cases e : y = x
        · subst e; simp
        · have : (x == y) = false := by rw [beq_eq_false_iff_ne]; exact fun z => e z.symm
          rw [this]; simp [e]
      rw [this]
  intro y
  unfold dd
  rw [gen l [] y]
  simp
theorem dd_len_snoc (l : List Str) (x : Str) : (dd (l ++ [x])).length = if l.any (· == x) then (dd l).length else (dd l).length + 1 := by
  rw [dd_snoc]
  unfold ddS
  rw [dd_any]
  split <;> simp
theorem dd_le : ∀ l : List Str, (dd l).length ≤ l.length := by
  have gen : ∀ (l acc : List Str), (l.foldl ddS acc).length ≤ acc.length + l.length := by
    intro l
    induction l with
    | nil => intro acc; simp
    | cons x l ih =>
      intro acc
      rw [List.foldl_cons, List.length_cons]
      have := ih (ddS acc x)
      have h2 : (ddS acc x).length ≤ acc.length + 1 := by unfold ddS; split <;> simp
      omega
  intro l
  have := gen l []
  unfold dd
  simpa using this
section
variable {prog : Program} {w : World} {A : Around} {R : Result → Shared → Prop} {I : Addr} {fp wr : List Addr} {G : Array GenState → Array GenState → Prop} {n : Nat} {P : Nat → Value → Prop} {St : Nat → Shared → Prop}
abbrev SetS (prog : Program) (w : World) (h : Heap) (S : Addr) (l : List Str) : Prop := h.SetOf (PySem.strKind prog w) S (fun k => l.any (· == k)) (dd l).length
theorem add_loop (W : WalksS prog w A.in1 I fp wr G n P St) (S : Addr) (hSf : S ∉ fp) (xs : List Str) (hsz : xs.length = n) (hb : n + 1 < scanBound) (hval : ∀ i v, P i v → ∃ t, v = .str (xs.getD i Str.empty) t) :
    ∀ (k i : Nat) (s : Shared), n - i = k → i ≤ n → St i s → SetS prog w s.heap S (xs.take i) → (∀ s', Moved (S :: wr) G s s' → SetS prog w s'.heap S xs → R (.ok (.ret .none)) s') →
      codeAny (model prog w) A (.builtin "set.update.loop" ⟨[.ref S, .ref I], []⟩) R s := by
  have hSw : S ∉ wr := fun h => hSf (W.sub _ h)
  have hsub : ∀ b ∈ wr, b ∈ S :: wr := fun b hb => List.mem_cons_of_mem _ hb
  have stay : ∀ {s s' : Shared} {l : List Str}, SetS prog w s.heap S l → Moved wr G s s' → SetS prog w s'.heap S l := fun {s s' l} ⟨o, es, ep, t, ho, rest⟩ hm => ⟨o, es, ep, t, hm.heap S _ hSw ho, rest⟩
  intro k
  induction k with
  | zero =>
    intro i s hk hi hst hS hR
    obtain rfl : i = n := by omega
    refine codeAny_builtin PyProof.Rows.F.entry_set_update_loop ?_
    rw [Around.under_plainId PyProof.Rows.F.plain_set_update_loop _]
    show wpAny _ A.in1 (pyNext (.ref I) >>= _) _ _ s
    refine wpAny_bind (W.done s _ _ hst fun s' hm => ?_)
    rw [← hsz, List.take_length] at hS
    exact wpAny_pure (hR s' (hm.mono hsub) (stay hS hm))
  | succ k ih =>
    intro i s hk hi hst hS hR
    have hlt : i < n := by omega
    refine codeAny_builtin PyProof.Rows.F.entry_set_update_loop ?_
    rw [Around.under_plainId PyProof.Rows.F.plain_set_update_loop _]
    show wpAny _ A.in1 (pyNext (.ref I) >>= _) _ _ s
    refine wpAny_bind (W.item i s _ _ hlt hst fun v s' hP hst' hm => ?_)
    obtain ⟨t, rfl⟩ := hval i v hP
    have hS' := stay hS hm
    have hx : xs.getD i Str.empty = xs[i]'(by omega) := by rw [List.getD_eq_getElem?_getD, List.getElem?_eq_getElem (by omega)]; rfl
    have htk : xs.take (i + 1) = xs.take i ++ [xs.getD i Str.empty] := by rw [hx, List.take_succ_eq_append_getElem (by omega)]
    show wpAny _ A.in1 (holding [Value.str (xs.getD i Str.empty) t] (setAdd S (.str (xs.getD i Str.empty) t)) >>= _) _ _ s'
    refine wpAny_bind (wpAny_holding ?_)
    unfold setAdd
    refine wpAny_holding (wpAny_bind ((PySem.strKind prog w).pyHash (k := xs.getD i Str.empty) (strKind_is _ _ _ _) ?_))
    have hroom : (dd (xs.take i)).length + 1 < scanBound := by
      have h1 := dd_le (xs.take i)
      have h2 : (xs.take i).length ≤ n := by rw [List.length_take]; omega
      omega
    refine wpAny_setAddHashed_of (knd := PySem.strKind prog w) (s := { s' with toks := s'.toks + 1 }) (strKind_is _ _ _ _) rfl hS' hroom fun h' hsb hS2 => ?_
    have hSi : SetS prog w h' S (xs.take (i + 1)) := by
      rw [htk]
      refine SetOf_congr hS2 (fun k' => ?_) ?_
      · rw [List.any_append]
        congr 1
        by_cases e : k' = xs.getD i Str.empty
        · rw [e]; simp
        · have : (xs.getD i Str.empty == k') = false := by rw [beq_eq_false_iff_ne]; exact fun z => e z.symm
          simp only [List.any_cons, List.any_nil, this, e]
          rfl
      · rw [dd_len_snoc]
    refine wpAny_pure ⟨plainId_quiet PyProof.Rows.F.plain_set_update_loop _, ih (i + 1) _ (by omega) hlt (W.frame _ s' _ _ hst' (Nat.le_succ _) fun b hb o e => ?_) hSi fun s'' hm'' hS'' => ?_⟩
    · rw [hsb.2 b (fun h : b = S => hSf (by rw [← h]; exact hb))]
      exact e
    · refine hR s'' (Moved.trans W.gtrans ((hm.mono hsub).then_heap (Nat.le_succ _) fun b o hb e => ?_) hm'') hS''
      rw [hsb.2 b (fun h : b = S => hb (by rw [h]; exact List.mem_cons_self))]
      exact e
end
section
variable {prog : Program} {w : World} {A : Around} {E : Value → Shared → Prop} {s : Shared}
abbrev noSet (led : Bool) : Obj := { cls := .type "set", dict := none, data := .set #[] 0 (.fresh 0 0 led) }
/-- set(a): the new set, then its __init__ -/
theorem set_call {a : Value} {Q : Value → Shared → Prop}
    (h : ∀ led, codeAny (model prog w) A.in1 (.call (.builtin "set.__init__") ⟨[.ref s.heap.objs.size, a], []⟩) (wants (fun r s2 => r = .none ∧ Q (.ref s.heap.objs.size) s2) E) { s with heap := s.heap.push (noSet led) }) :
    wpAny (model prog w) A (call (.type "set") [a]) Q E s := by
  obtain ⟨c, tl, hmro⟩ := PySem.F.called_set.mro
  have hmade := PySem.F.called_set.made
  have hsub := PySem.F.called_set.sub
  have h1 := PySem.F.called_set.notType
  have h2 := PySem.F.called_set.canCreate
  have hct := PySem.F.typeCall_set_1 a
  refine wpAny_call (codeAny_of_tree ?_)
  show wpAny _ _ (callAny (.type "set") _) _ _ _
  refine wpAny_pure ⟨Code.quiet_builtin _ (by decide +kernel), codeAny_builtin PySem.F.entry_type_call ?_⟩
  rw [Around.under_plain (weight_type_call_type "set" [a] []) rfl]
  repeat (any_goals (first | assumption | wp_step))
  refine codeAny_mono (code_set_new_1 a (E := E) (Q₁ := fun obj s₁ => ∃ led : Bool, obj = .ref s.heap.objs.size ∧ s₁ = { s with heap := s.heap.push (noSet led) }) fun led => ⟨led, rfl, rfl⟩) fun r s₁ hr => ?_
  cases r with
  | error e => exact hr
  | ok fl =>
    cases fl with
    | ret obj =>
      obtain ⟨led, rfl, rfl⟩ := hr
      have hS : (s.heap.push (noSet led)).get? s.heap.objs.size = some (noSet led) := Heap.get?_push_size _ rfl
      have hT : Shared.TypeIs { s with heap := s.heap.push (noSet led) } (.ref s.heap.objs.size) "set" := ⟨_, hS, rfl⟩
      have hli := PySem.F.called_set.init.lookup
      have hbi := PySem.F.called_set.init.bind (.ref s.heap.objs.size)
      repeat (any_goals (first | assumption | wp_step))
      refine codeAny_mono (h led) fun r₂ s₂ hr₂ => ?_
      cases r₂ with
      | error e => exact hr₂
      | ok fl₂ =>
        cases fl₂ with
        | ret r =>
          obtain ⟨rfl, hq⟩ := hr₂
          repeat (any_goals (first | assumption | wp_step))
        | _ => exact hr₂.elim
    | _ => exact hr.elim
theorem set_strs {T : String} {l : Addr} {o io : Obj} {items : Array Value} {nl : Nat} {xs : List Str} {Hl : Heap → Prop} {St : Addr → Nat → Heap → Prop} {Q : Value → Shared → Prop} (hh : A.handled = none) (hol : s.heap.get? l = some o) (hcl : o.cls = .type T) (hdl : o.data = .seq items nl)
    (hsls : isSubtype (.type T) (.type "set") = pure false) (hslf : isSubtype (.type T) (.type "frozenset") = pure false) (hne : (Value.type T == Value.type "dict") = false) (B : Begins (.ref l) io Hl) (hl : Hl s.heap)
    (W : ∀ (A : Around) (I : Addr), A.handled = none → l ≠ I → Walks prog w A I [I, l] [I] items.size (fun i v => items[i]? = some v) (St I)) (st0 : ∀ (I : Addr) (h' : Heap), h'.get? I = some io → h'.get? l = some o → St I 0 h')
    (hi : PyProof.Rows.StrsAre items.toList xs) (hb : xs.length + 1 < scanBound)
    (h : ∀ (h' : Heap) (tk : Nat), SetS prog w h' s.heap.objs.size xs → (∀ b o, b < s.heap.objs.size → s.heap.get? b = some o → h'.get? b = some o) → Q (.ref s.heap.objs.size) { s with heap := h', toks := tk }) :
    wpAny (model prog w) A (call (.type "set") [.ref l]) Q E s := by
  refine set_call fun led => ?_
  have hS : (s.heap.push (noSet led)).get? s.heap.objs.size = some (noSet led) := Heap.get?_push_size _ rfl
  have hT : Shared.TypeIs { s with heap := s.heap.push (noSet led) } (.ref s.heap.objs.size) "set" := ⟨_, hS, rfl⟩
  refine codeAny_call_builtin PySem.F.called_set.init.plain PySem.F.entry_set_init (check_set_init_1 hT ?_)
  obtain ⟨ocls, odict, odata, oslots⟩ := o
  simp only at hcl hdl
  subst hcl
  subst hdl
  have hol' : (s.heap.push (noSet led)).get? l = some { cls := .type T, dict := odict, data := .seq items nl, slots := oslots } := Heap.get?_push_of_some _ hol
  have hl1 : Hl (s.heap.push (noSet led)) := B.keeps _ _ hl fun b o e => Heap.get?_push_of_some _ e
  unfold Builtin.«set.__init__» noKeywords Builtin.Frozenset.updateFrom
  generalize hPI : pyIter = PI
  wp_walk
  subst hPI
  refine B.iter prog w _ _ _ _ hl1 ?_
  refine wpAny_bind (wpAny_runValue ?_)
  have hlS : l < s.heap.objs.size := Heap.lt_size hol
  have hz : (s.heap.push (noSet led)).objs.size = s.heap.objs.size + 1 := Heap.size_push ..
  have hh3 : A.in1.in1.in1.handled = none := by simp [hh]
  have hneI : l ≠ (s.heap.push (noSet led)).objs.size := by rw [hz]; exact Nat.ne_of_lt (Nat.lt_succ_of_lt hlS)
  have hSf : s.heap.objs.size ∉ [(s.heap.push (noSet led)).objs.size, l] := by
    rw [hz]
    simp only [List.mem_cons, List.not_mem_nil, or_false, not_or]
    exact ⟨Nat.ne_of_lt (Nat.lt_succ_self _), Nat.ne_of_gt hlS⟩
  have hsz : xs.length = items.size := by rw [← StrsAre.len_eq hi, Array.length_toList]
  have hval : ∀ (i : Nat) (v : Value), items[i]? = some v → ∃ t, v = .str (xs.getD i Str.empty) t := fun i v hv => SS.strs_at hi i v (by rw [Array.getElem?_toList]; exact hv)
  refine add_loop ((W _ _ hh3 hneI).toS) s.heap.objs.size hSf xs hsz (by rw [← hsz]; exact hb) hval (items.size - 0) 0 _ (by omega) (Nat.zero_le _)
    (st0 _ _ (Heap.get?_push_size _ B.free) (Heap.get?_push_of_some _ hol')) ?_ ?_
  · exact SetOf_congr ((PyProof.Rows.setObjOf_fresh (knd := PySem.strKind prog w) led).setOf (Heap.get?_push_of_some _ hS) (by unfold scanBound; omega)) (fun _ => rfl) rfl
  · intro s' hm hS'
    obtain ⟨h', g', d', tk', os'⟩ := s'
    obtain rfl : g' = s.gens := hm.gens
    obtain rfl : d' = s.drawn := hm.drawn
    obtain rfl : os' = s.os := hm.os
    refine wpAny_pure ?_
    show wpAny _ _ (ret Value.none) _ _ _
    refine wpAny_pure ⟨rfl, h h' tk' hS' fun b o hb e => ?_⟩
    have hb1 : b ≠ s.heap.objs.size := Nat.ne_of_lt hb
    have hb2 : b ≠ (s.heap.push (noSet led)).objs.size := by rw [hz]; exact Nat.ne_of_lt (Nat.lt_succ_of_lt hb)
    exact hm.heap b o (by simp only [List.mem_cons, List.not_mem_nil, or_false, not_or]; exact ⟨hb1, hb2⟩) (Heap.get?_push_of_some _ (Heap.get?_push_of_some _ e))
end
end Pu
namespace Pu
open PySem PySem.Spec PyProof.Rows L2
def strsD : List D → Option (List Str)
  | [] => some []
  | .str x :: ds => (strsD ds).map (x :: ·)
  | _ => none
theorem strs_rep {W : Wd} {H : Hp} : ∀ {ds : List D} {vs : List V} {xs : List Str}, Reps W H ds vs → strsD ds = some xs → vs = xs.map V.str
  | [], vs, xs, h, e => by
    simp only [Reps] at h
    cases e
    exact h
  | d :: ds, vs, xs, h, e => by
    simp only [Reps] at h
    obtain ⟨v, r, rfl, h1, h2⟩ := h
    cases d <;> first | (cases e; done) | skip
    simp only [strsD] at e
    cases hb : strsD ds with
    | none => rw [hb] at e; cases e
    | some xs' =>
      rw [hb] at e
      cases e
      rw [repS h1, strs_rep h2 hb]
      rfl
theorem strsD_map (xs : List Str) : strsD (xs.map D.str) = some xs := by
  induction xs with
  | nil => rfl
  | cons x xs ih => simp only [List.map_cons, strsD, ih]; rfl
/-- len(set(x)), x texts -/
def rLenSet (a : XP) : XP := fun G Q E => a G (fun d => match d with
  | .lst ds => ∃ xs, strsD ds = some xs ∧ xs.length ≤ 1000 ∧ Q (.int ((dd xs).length : Int))
  | .tup ds => ∃ xs, strsD ds = some xs ∧ xs.length ≤ 1000 ∧ Q (.int ((dd xs).length : Int))
  | _ => False) E
section
variable {B : Bs} {X : Cx} {Wx : WX} {a b c e o : Expr} {es : List Expr} {pa pb pc : XP} {p p2 q pos : Pos} {pas : XAp} {qt : XTp}
def tLenSetS (K : PySem.W.Frag) (ta : TE) : TE := fun σ H Q => ta σ H fun x H1 => ∃ l, ∃ xs : List Str, x = .ref l ∧ (SqL K H1 l (xs.map V.str) ∨ SqT K H1 l (xs.map V.str)) ∧ xs.length ≤ 1000 ∧ Q (.int ((dd xs).length : Int)) H1
theorem pe_lenSetS {ta : TE} (hc : X.calm = true) (hg : Gl X "len") (hm : X.mg "len" = none) (hg2 : Gl X "set") (hm2 : X.mg "set" = none) (ha : PE X a ta)
    (na : starEach [a] X.env = (false, eval a X.env) :: starEach [] X.env := by rfl) : PE X (.Call (.Name "len" p) [.Call (.Name "set" p2) [a] [] q] [] pos) (tLenSetS X.K ta) := by
  refine ⟨fun pins s σ H Q I h => ?_⟩
  refine Call_ (ld_blt I hg hm boot_len (PyProof.Rows.callWith_builtin1 (PyProof.Rows.args_cons ?_ rfl) rfl rfl))
  refine Call_ (ld_blt I hg2 hm2 boot_set (PyProof.Rows.callWith_type1 (PyProof.Rows.args_cons (thn (ha.run pins s σ H _ I h) fun v s1 ⟨x, H1, I1, r1, q1⟩ => PyProof.Rows.args_nil ?_) na) na rfl))
  obtain ⟨l, xs, rfl, hq, hn, q1⟩ := q1
  cases r1
  have hb : xs.length + 1 < scanBound := by unfold scanBound; omega
  have fin : ∀ (h' : Heap) (tk : Nat), SetS X.prog X.w h' s1.heap.objs.size xs → (∀ b o, b < s1.heap.objs.size → s1.heap.get? b = some o → h'.get? b = some o) →
      wpAny (model X.prog X.w) X.A (spliced (backTo pos (starEach [] X.env))) (fun vs s₂ => wpAny (model X.prog X.w) X.A (call (.builtin "len") (Value.ref s1.heap.objs.size :: vs)) (EP X pins σ Q) X.xe s₂) X.xe { s1 with heap := h', toks := tk } := fun h' tk hS hk => by
    refine PyProof.Rows.args_nil ?_
    obtain ⟨o, es, ep, t, ho, hex, hd, _, _, _, hf, hn2⟩ := hS
    have I2 : Inv X pins σ H1 { s1 with heap := h', toks := tk } := I1.kept fun b o e => hk b o (Heap.lt_size e) e
    have := dd_le xs
    exact call_len_set ho hex hd hf (by rw [hn2]; omega) ⟨.int _, H1, I2.tok _, ⟨_, by rw [hn2]⟩, q1⟩
  rcases hq with hq | hq
  · obtain ⟨its, r, pl, hz⟩ := I1.list hq
    obtain ⟨o, ho, hc', n, hd⟩ := pl.isList
    exact set_strs (St := fun I i h => h.IsListIter I l i ∧ h.IsList l its.toArray) (I1.ok.hd hc) ho hc' hd PySem.F.sub_list_set PySem.F.sub_list_frozenset (by decide) (begins_list l its.toArray) pl.isList (fun A I hh hne => Walks.list hh I l hne its.toArray) (fun I h' e1 e2 => ⟨⟨_, e1, rfl, rfl⟩, ⟨o, e2, hc', n, hd⟩⟩) (by simpa using strsAre_of r) hb fin
  · obtain ⟨its, r, pl, hz⟩ := I1.tuple hq
    obtain ⟨o, ho, hc', n, hd⟩ := pl
    exact set_strs (St := fun I i h => h.IsTupleIter I l i ∧ h.IsTuple l its.toArray) (I1.ok.hd hc) ho hc' hd PySem.F.sub_tuple_set PySem.F.sub_tuple_frozenset (by decide) (begins_tuple l its.toArray) ⟨o, ho, hc', n, hd⟩ (fun A I hh hne => Walks.tuple hh I l hne its.toArray) (fun I h' e1 e2 => ⟨⟨_, e1, rfl, rfl⟩, ⟨o, e2, hc', n, hd⟩⟩) (by simpa using strsAre_of r) hb fin
theorem xe_lenSet (hc : X.calm = true) (hm : X.mg "len" = none) (hm2 : X.mg "set" = none) (ha : XE B X Wx a pa) (hg : Gl X "len" := by rfl) (hg2 : Gl X "set" := by rfl)
    (na : starEach [a] X.env = (false, eval a X.env) :: starEach [] X.env := by rfl) : XE B X Wx (.Call (.Name "len" p) [.Call (.Name "set" p2) [a] [] q] [] pos) (rLenSet pa) := by
  obtain ⟨ta, ha, ea⟩ := ha.ex
  refine ⟨_, pe_lenSetS hc hg hm hg2 hm2 ha na, fun S σ H G Q E k O q ke kx => ea S σ H G _ E _ O q (fun v H1 d f r h => ?_) kx⟩
  cases d <;> first | exact False.elim h | skip
  · obtain ⟨xs, hx, hn, h⟩ := h
    obtain ⟨l, vs, rfl, n, e1, z⟩ := repL r
    have := strs_rep z hx
    subst this
    exact ⟨l, xs, rfl, .inl (SqL.of e1), hn, ke _ H1 _ f mkI h⟩
  · obtain ⟨xs, hx, hn, h⟩ := h
    obtain ⟨l, vs, rfl, n, e1, z⟩ := repT r
    have := strs_rep z hx
    subst this
    exact ⟨l, xs, rfl, .inr (.inl e1), hn, ke _ H1 _ f mkI h⟩
/-! ## an own list read -/
mutual
/-- no list within -/
def noL : D → Bool
  | .lst _ => false
  | .val _ => false
  | .law => false
  | .tup ds => noLs ds
  | .ftp ds => noLs ds
  | .ins _ ds => noLs ds
  | .dic _ ds => noLs ds
  | .exn _ ds => noLs ds
  | _ => true
def noLs : List D → Bool
  | [] => true
  | d :: ds => noL d && noLs ds
end
mutual
/-- a list may change (or be forbidden) under what has no list within -/
theorem Rep.apart {W W' : Wd} {H H' : Hp} {q : Addr} {us : List V} (hq : H q = some (.lst us)) (h0 : W'.CT = W.CT) (h1 : W'.lay = W.lay) (k : ∀ a o, a ≠ q → ¬ W.S a → H a = some o → H' a = some o ∧ ¬ W'.S a) : ∀ (d : D) (v : V), noL d = true → Rep W H d v → Rep W' H' d v
  | .non, v, _, h => by simpa only [Rep] using h
  | .bl b, v, _, h => by simpa only [Rep] using h
  | .int i, v, _, h => by simpa only [Rep] using h
  | .str x, v, _, h => by simpa only [Rep] using h
  | .val u, v, n, h => by simp [noL] at n
  | .law, v, n, h => by simp [noL] at n
  | .lst ds, v, n, h => by simp [noL] at n
  | .tup ds, v, n, h => by
    simp only [Rep] at h ⊢
    obtain ⟨a, vs, e, n1, q1, r⟩ := h
    have ne : a ≠ q := fun z => by
      rcases q1 with q1 | ⟨o, q1⟩ <;> (rw [z, hq] at q1; cases q1)
    have k1 : Rd H' a (.tup vs) := q1.imp (fun q1 => (k a _ ne n1 q1).1) (fun ⟨o, q1⟩ => ⟨o, (k a _ ne n1 q1).1⟩)
    refine ⟨a, vs, e, ?_, k1, Reps.apart hq h0 h1 k ds vs (by simpa [noL] using n) r⟩
    rcases q1 with q1 | ⟨o, q1⟩
    · exact (k a _ ne n1 q1).2
    · exact (k a _ ne n1 q1).2
  | .ftp ds, v, n, h => by
    simp only [Rep] at h ⊢
    obtain ⟨a, vs, o, e, n1, dn, q1, r⟩ := h
    have ne : a ≠ q := fun z => by rw [z, hq] at q1; cases q1
    exact ⟨a, vs, o, e, (k a _ ne n1 q1).2, dn, (k a _ ne n1 q1).1, Reps.apart hq h0 h1 k ds vs (by simpa [noL] using n) r⟩
  | .ins c ds, v, n, h => by
    simp only [Rep] at h ⊢
    obtain ⟨a, dx, vs, e, n1, q1, l, r⟩ := h
    have ne : a ≠ q := fun z => by rw [z, hq] at q1; cases q1
    rw [h0, h1]
    exact ⟨a, dx, vs, e, (k a _ ne n1 q1).2, (k a _ ne n1 q1).1, l, Reps.apart hq h0 h1 k ds vs (by simpa [noL] using n) r⟩
  | .dic ks ds, v, n, h => by
    simp only [Rep] at h ⊢
    obtain ⟨a, vs, e, n1, q1, l, r⟩ := h
    have ne : a ≠ q := fun z => by rw [z, hq] at q1; cases q1
    exact ⟨a, vs, e, (k a _ ne n1 q1).2, (k a _ ne n1 q1).1, l, Reps.apart hq h0 h1 k ds vs (by simpa [noL] using n) r⟩
  | .exn c ds, v, n, h => by
    simp only [Rep] at h ⊢
    obtain ⟨a, dd, vs, e, n1, q1, l, x, r⟩ := h
    have ne : a ≠ q := fun z => by rw [z, hq] at q1; cases q1
    refine ⟨a, dd, vs, e, (k a _ ne n1 q1).2, ?_, by rw [h1]; exact l, x.imp id ?_, Reps.apart hq h0 h1 k ds vs (by simpa [noL] using n) r⟩
    · rw [h0]
      exact (k a _ ne n1 q1).1
    · rintro ⟨dx, fs, e1, n2, q2, y⟩
      have ne2 : dx ≠ q := fun z => by rw [z, hq] at q2; cases q2
      exact ⟨dx, fs, e1, (k dx _ ne2 n2 q2).2, (k dx _ ne2 n2 q2).1, by rw [h1]; exact y⟩
theorem Reps.apart {W W' : Wd} {H H' : Hp} {q : Addr} {us : List V} (hq : H q = some (.lst us)) (h0 : W'.CT = W.CT) (h1 : W'.lay = W.lay) (k : ∀ a o, a ≠ q → ¬ W.S a → H a = some o → H' a = some o ∧ ¬ W'.S a) : ∀ (ds : List D) (vs : List V), noLs ds = true → Reps W H ds vs → Reps W' H' ds vs
  | [], vs, _, h => by simpa only [Reps] using h
  | d :: ds, vs, n, h => by
    simp only [Reps] at h ⊢
    obtain ⟨v, r, e, h2, h3⟩ := h
    simp only [noLs, Bool.and_eq_true] at n
    exact ⟨v, r, e, Rep.apart hq h0 h1 k d v n.1 h2, Reps.apart hq h0 h1 k ds r n.2 h3⟩
end
/-- a test that reads the own list at slot i -/
def rTFrz (i : Nat) (c : XTp) : XTp := fun G Q E => match G[i]? with
  | some (.own ds) => c (G.set i (.d (.lst ds))) Q (fun _ => False)
  | _ => False
theorem xt_frz (i : Nat) (hc : XT B X Wx c qt) : XT B X Wx c (rTFrz i qt) := by
  obtain ⟨t, h, ev⟩ := hc.ex
  refine ⟨t, h, fun S σ H G Q E k O q kt kx => ?_⟩
  unfold rTFrz at q
  cases hg : G[i]? with
  | none => rw [hg] at q; exact q.elim
  | some g =>
    rw [hg] at q
    cases g <;> first | exact False.elim q | skip
    obtain ⟨a, sa, O2⟩ := O.thaw hg
    exact ev _ σ H _ Q _ k O2 q (fun b H' f h => kt b H' ⟨f.keep, f.law⟩ h) (fun _ _ _ _ _ _ z => z.elim)
/-- an expression that reads the own list at slot i, its value without lists -/
def rFrzE (i : Nat) (a : XP) : XP := fun G Q E => match G[i]? with
  | some (.own ds) => a (G.set i (.d (.lst ds))) (fun d => noL d = true ∧ Q d) (fun _ => False)
  | _ => False
theorem xe_frz (i : Nat) (ha : XE B X Wx a pa) : XE B X Wx a (rFrzE i pa) := by
  obtain ⟨t, h, ev⟩ := ha.ex
  refine ⟨t, h, fun S σ H G Q E k O q ke kx => ?_⟩
  unfold rFrzE at q
  cases hg : G[i]? with
  | none => rw [hg] at q; exact q.elim
  | some g =>
    rw [hg] at q
    cases g <;> first | exact False.elim q | skip
    obtain ⟨o, eo, p, vs, rfl, s1, s2, s3, e1, rr⟩ := O.get hg
    obtain ⟨p', sp, O2⟩ := O.thaw hg
    refine ev _ σ H _ _ _ _ O2 q (fun v H' d f r h => ?_) (fun _ _ _ _ _ _ z => z.elim)
    have f' : Fut (B.W.at S) H H' := ⟨f.keep, f.law⟩
    have e1' := f'.keep p _ e1 s3
    have pe : p' = p := by
      apply Classical.byContradiction
      intro ne
      have ⟨o2, eo2, h2⟩ := O2.get (i := i) (g := .d (.lst _)) (List.getElem?_set_self (List.getElem?_eq_some_iff.mp hg).1)
      rw [eo] at eo2
      cases eo2
      obtain ⟨v2, ev2, rv2⟩ := h2
      cases ev2
      obtain ⟨a2, vs2, ea2, na2, _⟩ := repL rv2
      cases ea2
      exact na2 ⟨s1, fun z => ne z.symm⟩
    refine ke v H' d f' (Rep.apart (W := B.W.at fun a => S a ∧ a ≠ p') (W' := B.W.at S) e1' rfl rfl (fun a o ne n e => ⟨e, fun z => n ⟨z, fun y => ne (y.trans pe)⟩⟩) d v h.1 r) h.2
end
end Pu
namespace Pu
open PySem PySem.Spec PyProof.Rows L2
/-! ## a list that is a datum changes -/
def kd : D → Nat
  | .non => 1
  | .bl _ => 2
  | .int _ => 3
  | .str _ => 4
  | .lst _ => 5
  | .tup _ => 6
  | .ftp _ => 6
  | .ins _ _ => 7
  | .dic _ _ => 8
  | .exn _ _ => 9
  | _ => 0
/-- two lists that cannot be one -/
def clash : List D → List D → Bool
  | [], [] => false
  | x :: _, y :: _ => kd x != 0 && kd y != 0 && kd x != kd y
  | _, _ => true
def kdo : HO → Nat
  | .lst _ => 5
  | .tup _ => 6
  | .frz _ u => kdo u
  | .ins _ _ _ => 7
  | .dK _ => 8
  | _ => 9
theorem kd_ref {W : Wd} {H : Hp} {d : D} {v : V} (h : Rep W H d v) : kd d = 0 ∨ (kd d < 5 ∧ (v = .non ∧ kd d = 1 ∨ (∃ b, v = .bl b) ∧ kd d = 2 ∨ (∃ i, v = .int i) ∧ kd d = 3 ∨ (∃ x, v = .str x) ∧ kd d = 4)) ∨ ∃ a o, v = .ref a ∧ H a = some o ∧ kdo o = kd d := by
  cases d with
  | non => simp only [Rep] at h; exact .inr (.inl ⟨by decide, .inl ⟨h, rfl⟩⟩)
  | bl b => simp only [Rep] at h; exact .inr (.inl ⟨by show 2 < 5; decide, .inr (.inl ⟨⟨_, h⟩, rfl⟩)⟩)
  | int b => simp only [Rep] at h; exact .inr (.inl ⟨by show 3 < 5; decide, .inr (.inr (.inl ⟨⟨_, h⟩, rfl⟩))⟩)
  | str b => simp only [Rep] at h; exact .inr (.inl ⟨by show 4 < 5; decide, .inr (.inr (.inr ⟨⟨_, h⟩, rfl⟩))⟩)
  | val u => exact .inl rfl
  | law => exact .inl rfl
  | lst ds => simp only [Rep] at h; obtain ⟨a, vs, e, n, q, r⟩ := h; exact .inr (.inr ⟨a, _, e, q, rfl⟩)
  | tup ds =>
    simp only [Rep] at h
    obtain ⟨a, vs, e, n, q, r⟩ := h
    rcases q with q | ⟨o, q⟩
    · exact .inr (.inr ⟨a, _, e, q, rfl⟩)
    · exact .inr (.inr ⟨a, _, e, q, rfl⟩)
  | ftp ds => simp only [Rep] at h; obtain ⟨a, vs, o, e, n, dn, q, r⟩ := h; exact .inr (.inr ⟨a, _, e, q, rfl⟩)
  | ins c ds => simp only [Rep] at h; obtain ⟨a, dx, vs, e, n, q, l, r⟩ := h; exact .inr (.inr ⟨a, _, e, q, rfl⟩)
  | dic ks ds => simp only [Rep] at h; obtain ⟨a, vs, e, n, q, l, r⟩ := h; exact .inr (.inr ⟨a, _, e, q, rfl⟩)
  | exn c ds => simp only [Rep] at h; obtain ⟨a, dd, vs, e, n, q, l, x, r⟩ := h; exact .inr (.inr ⟨a, _, e, q, rfl⟩)
theorem kd_ne {W W2 : Wd} {H : Hp} {d e : D} {v : V} (c : (kd d != 0 && kd e != 0 && kd d != kd e) = true) (h1 : Rep W H d v) (h2 : Rep W2 H e v) : False := by
  have c : kd d ≠ 0 ∧ kd e ≠ 0 ∧ kd d ≠ kd e := by simpa [and_assoc] using c
  obtain ⟨c1, c2, c3⟩ := c
  rcases kd_ref h1 with z | ⟨_, z⟩ | ⟨a, o, e1, e2, e3⟩
  · exact c1 z
  · rcases kd_ref h2 with y | ⟨_, y⟩ | ⟨a, o, e1, e2, e3⟩
    · exact c2 y
    · rcases z with ⟨rfl, z⟩ | ⟨⟨_, rfl⟩, z⟩ | ⟨⟨_, rfl⟩, z⟩ | ⟨⟨_, rfl⟩, z⟩ <;> rcases y with ⟨y0, y⟩ | ⟨⟨_, y0⟩, y⟩ | ⟨⟨_, y0⟩, y⟩ | ⟨⟨_, y0⟩, y⟩ <;> first | (cases y0; done) | exact c3 (z.trans y.symm)
    · subst e1
      rcases z with ⟨z, _⟩ | ⟨⟨_, z⟩, _⟩ | ⟨⟨_, z⟩, _⟩ | ⟨⟨_, z⟩, _⟩ <;> cases z
  · subst e1
    rcases kd_ref h2 with y | ⟨_, y⟩ | ⟨a', o', e1', e2', e3'⟩
    · exact c2 y
    · rcases y with ⟨z, _⟩ | ⟨⟨_, z⟩, _⟩ | ⟨⟨_, z⟩, _⟩ | ⟨⟨_, z⟩, _⟩ <;> cases z
    · cases e1'
      rw [e2] at e2'
      cases e2'
      exact c3 (e3.symm.trans e3')
theorem clash_ne {W W2 : Wd} {H : Hp} : ∀ {ds es : List D} {vs : List V}, clash ds es = true → Reps W H ds vs → Reps W2 H es vs → False
  | [], [], _, c, _, _ => by simp [clash] at c
  | [], e :: es, vs, c, h, h' => by
    simp only [Reps] at h h'
    subst h
    obtain ⟨v', r, z, _⟩ := h'
    cases z
  | d :: ds, [], vs, c, h, h' => by
    simp only [Reps] at h h'
    subst h'
    obtain ⟨v', r, z, _⟩ := h
    cases z
  | d :: ds, e :: es, vs, c, h, h' => by
    simp only [Reps] at h h'
    obtain ⟨v, r, rfl, h1, _⟩ := h
    obtain ⟨v', r', z, h2, _⟩ := h'
    cases z
    exact kd_ne c h1 h2
mutual
/-- a list of these items is not within -/
def noM (us : List D) : D → Bool
  | .lst ds => clash ds us && noMs us ds
  | .val _ => false
  | .tup ds => noMs us ds
  | .ftp ds => noMs us ds
  | .ins _ ds => noMs us ds
  | .dic _ ds => noMs us ds
  | .exn _ ds => noMs us ds
  | _ => true
def noMs (us : List D) : List D → Bool
  | [] => true
  | d :: ds => noM us d && noMs us ds
end
mutual
theorem Rep.apM {W : Wd} {H H' : Hp} {p : Addr} {us : List V} {du : List D} (hp : H p = some (.lst us)) (hu : Reps W H du us) (k : ∀ a o, a ≠ p → ¬ W.S a → H a = some o → H' a = some o ∧ ¬ W.S a) : ∀ (d : D) (v : V), noM du d = true → Rep W H d v → Rep W H' d v
  | .non, v, _, h => by simpa only [Rep] using h
  | .bl b, v, _, h => by simpa only [Rep] using h
  | .int i, v, _, h => by simpa only [Rep] using h
  | .str x, v, _, h => by simpa only [Rep] using h
  | .val u, v, n, h => by simp [noM] at n
  | .law, v, n, h => by simpa only [Rep] using h
  | .lst ds, v, n, h => by
    simp only [noM, Bool.and_eq_true] at n
    simp only [Rep] at h ⊢
    obtain ⟨a, vs, e, n1, q1, r⟩ := h
    have ne : a ≠ p := fun z => by
      rw [z, hp] at q1
      cases q1
      exact clash_ne n.1 r hu
    exact ⟨a, vs, e, n1, (k a _ ne n1 q1).1, Reps.apM hp hu k ds vs n.2 r⟩
  | .tup ds, v, n, h => by
    simp only [Rep] at h ⊢
    obtain ⟨a, vs, e, n1, q1, r⟩ := h
    have ne : a ≠ p := fun z => by
      rcases q1 with q1 | ⟨o, q1⟩ <;> (rw [z, hp] at q1; cases q1)
    have k1 : Rd H' a (.tup vs) := q1.imp (fun q1 => (k a _ ne n1 q1).1) (fun ⟨o, q1⟩ => ⟨o, (k a _ ne n1 q1).1⟩)
    exact ⟨a, vs, e, n1, k1, Reps.apM hp hu k ds vs (by simpa [noM] using n) r⟩
  | .ftp ds, v, n, h => by
    simp only [Rep] at h ⊢
    obtain ⟨a, vs, o, e, n1, dn, q1, r⟩ := h
    have ne : a ≠ p := fun z => by rw [z, hp] at q1; cases q1
    exact ⟨a, vs, o, e, n1, dn, (k a _ ne n1 q1).1, Reps.apM hp hu k ds vs (by simpa [noM] using n) r⟩
  | .ins c ds, v, n, h => by
    simp only [Rep] at h ⊢
    obtain ⟨a, dx, vs, e, n1, q1, l, r⟩ := h
    have ne : a ≠ p := fun z => by rw [z, hp] at q1; cases q1
    exact ⟨a, dx, vs, e, n1, (k a _ ne n1 q1).1, l, Reps.apM hp hu k ds vs (by simpa [noM] using n) r⟩
  | .dic ks ds, v, n, h => by
    simp only [Rep] at h ⊢
    obtain ⟨a, vs, e, n1, q1, l, r⟩ := h
    have ne : a ≠ p := fun z => by rw [z, hp] at q1; cases q1
    exact ⟨a, vs, e, n1, (k a _ ne n1 q1).1, l, Reps.apM hp hu k ds vs (by simpa [noM] using n) r⟩
  | .exn c ds, v, n, h => by
    simp only [Rep] at h ⊢
    obtain ⟨a, dd, vs, e, n1, q1, l, x, r⟩ := h
    have ne : a ≠ p := fun z => by rw [z, hp] at q1; cases q1
    refine ⟨a, dd, vs, e, n1, (k a _ ne n1 q1).1, l, x.imp id ?_, Reps.apM hp hu k ds vs (by simpa [noM] using n) r⟩
    rintro ⟨dx, fs, e1, n2, q2, y⟩
    have ne2 : dx ≠ p := fun z => by rw [z, hp] at q2; cases q2
    exact ⟨dx, fs, e1, n2, (k dx _ ne2 n2 q2).1, y⟩
theorem Reps.apM {W : Wd} {H H' : Hp} {p : Addr} {us : List V} {du : List D} (hp : H p = some (.lst us)) (hu : Reps W H du us) (k : ∀ a o, a ≠ p → ¬ W.S a → H a = some o → H' a = some o ∧ ¬ W.S a) : ∀ (ds : List D) (vs : List V), noMs du ds = true → Reps W H ds vs → Reps W H' ds vs
  | [], vs, _, h => by simpa only [Reps] using h
  | d :: ds, vs, n, h => by
    simp only [Reps] at h ⊢
    obtain ⟨v, r, e, h2, h3⟩ := h
    simp only [noMs, Bool.and_eq_true] at n
    exact ⟨v, r, e, Rep.apM hp hu k d v n.1 h2, Reps.apM hp hu k ds r n.2 h3⟩
end
def scr (du : List D) : Sl → Sl
  | .d d => if noM du d then .d d else .no
  | .own ds => if noMs du ds then .own ds else .no
  | _ => .no
def scrG (du : List D) (G : List Sl) : List Sl := G.map (scr du)
theorem Ok.mut {B : Bs} {S : Addr → Prop} {σ : L2.St} {H : Hp} {G : List Sl} (O : Ok B S σ H G) (h0 : ∀ a, B.H0 a = none) {p : Addr} {us ws : List V} {du : List D} (hp : H p = some (.lst us)) (np : ¬ S p) (hu : Reps (B.W.at S) H du us) : Ok B S σ (upd H p (.lst ws)) (scrG du G) := by
  have k : ∀ a o, a ≠ p → ¬ S a → H a = some o → upd H p (.lst ws) a = some o ∧ ¬ S a := fun a o ne n e => ⟨by rw [upd_ne ne]; exact e, n⟩
  have back : ∀ {i : Nat} {g : Sl}, (scrG du G)[i]? = some g → g.isOwn = true → G[i]? = some g := fun {i g} e n => by
    unfold scrG at e
    rw [List.getElem?_map] at e
    cases hg : G[i]? with
    | none => rw [hg] at e; cases e
    | some g0 =>
      rw [hg] at e
      cases g0 with
      | own ds =>
        by_cases hn : noMs du ds = true
        · simp only [Option.map_some, scr, if_pos hn] at e
          exact e
        · simp only [Option.map_some, scr, if_neg hn] at e
          cases e
          cases n
      | d d =>
        by_cases hn : noM du d = true
        · simp only [Option.map_some, scr, if_pos hn] at e
          cases e
          cases n
        · simp only [Option.map_some, scr, if_neg hn] at e
          cases e
          cases n
      | _ =>
        simp only [Option.map_some, scr] at e
        cases e
        cases n
  refine ⟨⟨fun s l z => ?_, fun a h => ?_⟩, fun a o z n => ?_, O.sub, O.new, by unfold scrG; rw [List.length_map]; exact O.len, O.lw, fun i g o e1 e2 => ?_, fun i j g g' q e1 e2 n1 n2 e3 e4 => O.inj i j g g' q (back e1 n1) (back e2 n2) n1 n2 e3 e4⟩
  · obtain ⟨⟨i', n', cs, z1, z2, z3⟩, z4, z5⟩ := O.wok.law s l z
    have m1 : s ≠ p := fun y => np (y ▸ z4)
    have m2 : l ≠ p := fun y => np (y ▸ z5)
    exact ⟨⟨i', n', cs, by rw [upd_ne m1]; exact z1, by rw [upd_ne m2]; exact z2, z3⟩, z4, z5⟩
  · have ha : a ≠ p := fun y => np (y ▸ h)
    rw [upd_ne ha]
    exact O.wok.dom a h
  · rw [h0] at z
    cases z
  · unfold scrG at e1
    rw [List.getElem?_map] at e1
    cases hg : G[i]? with
    | none => rw [hg] at e1; cases e1
    | some g0 =>
      rw [hg] at e1
      have base := O.sl i g0 o hg e2
      cases g0 with
      | d d =>
        by_cases hn : noM du d = true
        · simp only [Option.map_some, scr, if_pos hn] at e1
          cases e1
          obtain ⟨v, ev, r⟩ := base
          exact ⟨v, ev, Rep.apM (W := B.W.at S) hp hu k d v hn r⟩
        · simp only [Option.map_some, scr, if_neg hn] at e1
          cases e1
          trivial
      | own ds =>
        by_cases hn : noMs du ds = true
        · simp only [Option.map_some, scr, if_pos hn] at e1
          cases e1
          obtain ⟨q, vs, ev, s1, s2, s3, e, r⟩ := base
          exact ⟨q, vs, ev, s1, s2, s3, by rw [upd_ne (fun y : q = p => np (y ▸ s1))]; exact e, Reps.apM (W := B.W.at S) hp hu k ds vs hn r⟩
        · simp only [Option.map_some, scr, if_neg hn] at e1
          cases e1
          trivial
      | _ =>
        simp only [Option.map_some, scr] at e1
        cases e1
        trivial
/-- what is told of an item of a list around it -/
def weak (du : List D) (x x' : D) : Prop := match x with
  | .lst _ => ∃ ws : List V, x' = .lst (ws.map D.val)
  | x => if noM du x = true then x' = x else ∃ u, x' = .val u
def weaks (du : List D) : List D → List D → Prop
  | [], es => es = []
  | x :: xs, es => ∃ x' r, es = x' :: r ∧ weak du x x' ∧ weaks du xs r
theorem reps_vals {W : Wd} {H : Hp} : ∀ us : List V, Reps W H (us.map D.val) us
  | [] => Reps.nil
  | u :: us => Reps.cons (by simp only [Rep]) (reps_vals us)
theorem Rep.weak {W : Wd} {H : Hp} {p : Addr} {us ws : List V} {du : List D} (hp : H p = some (.lst us)) (np : ¬ W.S p) (hu : Reps W H du us) (d : D) (v : V) (h : Rep W H d v) : ∃ d', weak du d d' ∧ Rep W (upd H p (.lst ws)) d' v := by
  have k : ∀ a o, a ≠ p → ¬ W.S a → H a = some o → upd H p (.lst ws) a = some o ∧ ¬ W.S a := fun a o ne n e => ⟨by rw [upd_ne ne]; exact e, n⟩
  have gen : (if noM du d = true then d = d else True) → (∀ ds, d ≠ .lst ds) → ∃ d', Pu.weak du d d' ∧ Rep W (upd H p (.lst ws)) d' v := fun _ nl => by
    by_cases c : noM du d = true
    · refine ⟨d, ?_, Rep.apM hp hu k d v c h⟩
      cases d <;> first | exact absurd rfl (nl _) | (unfold Pu.weak; dsimp only; rw [if_pos c])
    · refine ⟨.val v, ?_, by simp only [Rep]⟩
      cases d <;> first | exact absurd rfl (nl _) | (unfold Pu.weak; dsimp only; rw [if_neg c]; exact ⟨v, rfl⟩)
  cases d with
  | lst ds =>
    simp only [Rep] at h
    obtain ⟨a, vs, e, n1, q1, r⟩ := h
    by_cases z : a = p
    · subst z
      exact ⟨_, ⟨ws, rfl⟩, by rw [e]; exact mkL n1 upd_same (reps_vals ws)⟩
    · exact ⟨_, ⟨vs, rfl⟩, by rw [e]; exact mkL n1 (by rw [upd_ne z]; exact q1) (reps_vals vs)⟩
  | _ => exact gen (by split <;> trivial) fun _ => by intro z; cases z
theorem Reps.weak {W : Wd} {H : Hp} {p : Addr} {us ws : List V} {du : List D} (hp : H p = some (.lst us)) (np : ¬ W.S p) (hu : Reps W H du us) : ∀ (ds : List D) (vs : List V), Reps W H ds vs → ∃ ds', weaks du ds ds' ∧ Reps W (upd H p (.lst ws)) ds' vs
  | [], vs, h => ⟨[], rfl, by simpa only [Reps] using h⟩
  | d :: ds, vs, h => by
    simp only [Reps] at h
    obtain ⟨v, r, rfl, h1, h2⟩ := h
    obtain ⟨d', w1, r1⟩ := Rep.weak (ws := ws) hp np hu d v h1
    obtain ⟨ds', w2, r2⟩ := Reps.weak hp np hu ds r h2
    exact ⟨d' :: ds', ⟨_, _, rfl, w1, w2⟩, Reps.cons r1 r2⟩
/-- o.append(e); i: the slot of a list around it, whose items are then told no more -/
def rMutApp (i : Nat) (o a : XP) : XSp := fun G P => match G[i]? with
  | some (.d (.lst es)) => o G (fun x => match x with
    | .lst ds => clash es ds = true ∧ a G (fun d => ds.length < 100000 ∧ ∀ es', weaks ds es es' → P.nx ((scrG ds G).set i (.d (.lst es')))) (fun e => P.ex e G)
    | _ => False) (fun e => P.ex e G)
  | _ => False
/-- .. no such slot -/
def rMutApp0 (o a : XP) : XSp := fun G P => o G (fun x => match x with
    | .lst ds => a G (fun d => ds.length < 100000 ∧ P.nx (scrG ds G)) (fun e => P.ex e G)
    | _ => False) (fun e => P.ex e G)
section
variable {B : Bs} {X : Cx} {Wx : WX} {o e : Expr} {pa po : XP} {pos apos cpos : Pos}
theorem xs_mutApp (i : Nat) (h0 : ∀ a, B.H0 a = none) (ho : XE B X Wx o po) (ha : XE B X Wx e pa) (hs0 : swapsWith (.Call (.Attribute o "append" apos) [e] [] cpos) none pos.line X.env = pure false := by rfl)
    (hbase : attributeBase o "append" X.env (eval o X.env) = eval o X.env := by rfl)
    (hfew : ((backTo cpos (starEach [e] X.env)).all (fun x => !x.1) && (backToKw cpos (keywordEach [] X.env)).all (fun x => x.1.isSome)
      && decide ([e].length + ([] : List Keyword).length + (if ([] : List Keyword).isEmpty then 0 else 1) < 30)) = true := by rfl)
    (hline : (apos.endLine == cpos.line) = true := by rfl) (hs : starEach [e] X.env = (false, eval e X.env) :: starEach [] X.env := by rfl) (hplain : (backTo cpos (starEach [] X.env)).any (·.1) = false := by rfl) :
    XS B X Wx (.Expr (.Call (.Attribute o "append" apos) [e] [] cpos) pos) (rMutApp i po pa) ∧ XS B X Wx (.Expr (.Call (.Attribute o "append" apos) [e] [] cpos) pos) (rMutApp0 po pa) := by
  obtain ⟨to, ho, eo⟩ := ho.ex
  obtain ⟨ta, ha, ea⟩ := ha.ex
  have hp := ps_expr (pos := pos) (pe_bm PySem.F.plainAttrs_list PySem.F.slot_list_append PySem.F.type_list_append mt_append ho (pa_cons ha pa_nil hs) hbase hfew hline hs hplain) hs0
  refine ⟨⟨_, hp, fun S σ H G P D O q k => ?_⟩, ⟨_, hp, fun S σ H G P D O q k => ?_⟩⟩
  · unfold rMutApp at q
    cases hg : G[i]? with
    | none => rw [hg] at q; exact q.elim
    | some g =>
      rw [hg] at q
      cases g <;> first | exact False.elim q | skip
      rename_i dl
      cases dl <;> first | exact False.elim q | skip
      rename_i es
      refine eo S σ H G _ _ _ O q (fun x H1 dx f1 r1 h1 => ?_) (k.kx O)
      cases dx <;> first | exact False.elim h1 | skip
      rename_i ds
      obtain ⟨p, vs, rfl, np, e1, z1⟩ := repL r1
      obtain ⟨hc, h1⟩ := h1
      refine ⟨.inl ⟨rfl, vs, SqL.of e1⟩, ?_⟩
      refine ea S σ H1 G _ _ _ (O.fut f1) h1 (fun v H2 d f2 r2 h2 => ?_) ((k.kx O).fut f1)
      have O2 := (O.fut f1).fut f2
      have e2 := f2.keep p _ e1 ((O.fut f1).wok.nl np)
      refine ⟨p, vs, v, rfl, rfl, e2, Nat.lt_of_lt_of_le (by rw [z1.len]; exact h2.1) (le_line (Nat.le_refl _)), ?_⟩
      have zu := z1.fut (O.fut f1).wok f2
      have O3 := O2.mut h0 (ws := vs ++ [v]) e2 np zu
      obtain ⟨ov, eov, w, rfl, rw_⟩ := O2.get hg
      obtain ⟨a, us, rfl, na, ea', za⟩ := repL rw_
      have ap : a ≠ p := fun z => by
        subst z
        rw [e2] at ea'
        cases ea'
        exact clash_ne hc za zu
      obtain ⟨es', we, re⟩ := Reps.weak (ws := vs ++ [v]) e2 np zu _ _ za
      have O4 := O3.put i (g := .d (.lst es')) (o := some (.ref a)) rfl ⟨_, rfl, mkL na (by rw [upd_ne ap]; exact ea') re⟩
      rw [set_self eov] at O4
      exact k.nx S σ _ _ O4 (h2.2 es' we)
  · refine eo S σ H G _ _ _ O q (fun x H1 dx f1 r1 h1 => ?_) (k.kx O)
    cases dx <;> first | exact False.elim h1 | skip
    rename_i ds
    obtain ⟨p, vs, rfl, np, e1, z1⟩ := repL r1
    refine ⟨.inl ⟨rfl, vs, SqL.of e1⟩, ?_⟩
    refine ea S σ H1 G _ _ _ (O.fut f1) h1 (fun v H2 d f2 r2 h2 => ?_) ((k.kx O).fut f1)
    have O2 := (O.fut f1).fut f2
    have e2 := f2.keep p _ e1 ((O.fut f1).wok.nl np)
    exact ⟨p, vs, v, rfl, rfl, e2, Nat.lt_of_lt_of_le (by rw [z1.len]; exact h2.1) (le_line (Nat.le_refl _)), k.nx S σ _ _ (O2.mut h0 (ws := vs ++ [v]) e2 np (z1.fut (O.fut f1).wok f2)) h2.2⟩
end
/-! ## the law -/
def spLaw (K : PySem.W.Frag) : Sp := fun vs H Q _ => ∃ (a : Addr) (ns : List Int), vs = [.ref a] ∧ SqL K H a (ns.map V.int) ∧ ns.length ≤ 63 ∧ ∀ H', Q (.bl true) H'
def spStart (K : PySem.W.Frag) : Sp := fun vs H Q _ => ∃ (a : Addr) (ns : List Int), vs = [.ref a] ∧ SqL K H a (ns.map V.int) ∧ ns.length ≤ 63 ∧ ∀ H' s l, Same H H' → LSt H' s l → Q (.ref s) H'
def lawPo : Po := { nx := fun _ => False, rt := fun d => d = .bl true, ex := fun _ _ => False }
theorem law_ok {P : Program} {w : World} {K : PySem.W.Frag} {mg : Str → Option Value} {base : Heap} {CT : Nat → Addr} {lay : Nat → List Str} {st : Stmt} {f fS : Addr} {fd fdS : FuncData} {N : List Str} {k kS : Nat} {pb : XSp} {rest : List Stmt} {p1 p2 p3 p4 p5 : Pos}
    (Fn : FunG K "law" "law" st f fd) (Sc : FnScope N ["_law_script"] (defScope st)) (hb : defBody st = .Assign [.Name "_law_state" p1] (.Call (.Name "_law_start" p2) [.Name "_law_script" p3] [] p4) p5 :: rest)
    (FS : FnOk P w K mg base (L2.CX P w) kS fS fdS ["_law_script"] (spStart K)) (hk : kS ≤ k) (mS : mg "_law_start" = some (.ref fS)) (kpS : PySem.W.keepIn K (.ref fS) = true) (bS : Binds K fdS ["_law_script"] []) (h0 : N[0]? = some ("_law_script" : Str)) (h1 : N[1]? = some ("_law_state" : Str))
    (ev : ∀ n f cdv, Vis (envOfC "law" (defScope st) n f cdv).scope "_law_script" ∧ Loc (envOfC "law" (defScope st) n f cdv).scope "_law_state" ∧ (envOfC "law" (defScope st) n f cdv).kindOf "_law_start" = some .globalImplicit ∧
      swapsWith (.Call (.Name "_law_start" p2) [.Name "_law_script" p3] [] p4) (some (.Name "_law_state" p1)) p5.line (envOfC "law" (defScope st) n f cdv) = pure false ∧
      starEach [.Name "_law_script" p3] (envOfC "law" (defScope st) n f cdv) = (false, eval (.Name "_law_script" p3) (envOfC "law" (defScope st) n f cdv)) :: starEach [] (envOfC "law" (defScope st) n f cdv))
    (body : ∀ (B : Bs) (cdv : Value) (A : Around) (outer : List Env) (s : Shared) (H : Hp) (E : XK), B.W.CT = CT → B.W.lay = lay → B.cur = none → (∀ a, B.H0 a = none) → Room k (A.deeper (envOfC "law" (defScope st) s.heap.objs.size f cdv)) →
      XSs B (cxOf (L2.CX P w) P w K mg base N "law" (defScope st) f cdv A outer s H E) (fun cls d _ H => E cls d H) rest pb)
    (pure_ : pb (.no :: .d .law :: List.replicate (N.length - 2) .no) lawPo) : FnOk P w K mg base (L2.CX P w) (k + 1) f fd ["_law_script"] (spLaw K) := by
  refine Fn.ok Sc (fun vs H Q E h => ?_) (fun cdv A outer s H vs Q E hr h => ?_)
  · obtain ⟨a, ns, rfl, _⟩ := h
    rfl
  · obtain ⟨a, ns, rfl, hS, hl, q⟩ := h
    obtain ⟨v0, v1, v2, v3, v4⟩ := ev s.heap.objs.size f cdv
    rw [hb]
    let X := cxOf (L2.CX P w) P w K mg base N "law" (defScope st) f cdv A outer s H E
    let Bx : Addr → Addr → Bs := fun s l => { W := ⟨CT, lay, some (s, l), fun a => a = s ∨ a = l⟩, H0 := fun _ => none }
    have hrest : PSs X rest (fun D σ H' => ∃ s l, canS (Bx s l) (fun cls d _ H => E cls d H) pb D σ H') :=
      ⟨fun pins s' σ H' D I ⟨a, l, h⟩ => (body (Bx a l) cdv A outer s H E rfl rfl rfl (fun _ => rfl) hr).can.run pins s' σ H' D I h⟩
    refine ⟨_, pss_cons (ps_set (X := X) (i := 1) Sc.nd h1 v1 (pe_call FS (hr.mono hk) v2 mS kpS bS .nil passL (pa_cons (pe_var (X := X) (i := 0) h0 v0 rfl rfl) pa_nil v4) (he := v4)) v3 (.inl rfl)) hrest, ?_⟩
    have hN : 1 < N.length := (List.getElem?_eq_some_iff.mp h1).1
    have hst : (L2.start N [V.ref a]) = some (.ref a) :: List.replicate (N.length - 1) none := rfl
    rw [hst]
    refine ⟨_, rfl, a, ns, rfl, hS, hl, fun H' s' l' sm L => ⟨s', l', fun b => b = s' ∨ b = l', _, lawPo, ?_, pure_, ⟨fun _ _ _ _ _ z => z.elim, fun S2 σ2 H2 G2 v d O2 r2 q2 => ?_, fun _ _ _ _ _ z => z.elim, fun _ _ _ _ _ z => z.elim, fun _ _ _ _ _ _ _ _ _ z => z.elim⟩⟩⟩
    · obtain ⟨m, hm⟩ : ∃ m, N.length = m + 2 := ⟨N.length - 2, by omega⟩
      rw [hm]
      have e1 : m + 2 - 1 = m + 1 := by omega
      have e2 : m + 2 - 2 = m := by omega
      rw [e1, e2, List.replicate_succ]
      obtain ⟨i, n, cs, c1, c2, c3⟩ := id L
      refine ⟨⟨fun s2 l2 z => ?_, fun b hb => ?_⟩, fun _ _ z => (by cases z), fun _ z => z, fun _ z => .inl z, (by simp), fun s2 l2 z => ?_, fun j g o g1 g2 => ?_, fun j1 j2 g g' q g1 g2 n1 => ?_⟩
      · cases z
        exact ⟨L, .inl rfl, .inr rfl⟩
      · rcases hb with hb | hb
        · rw [hb]; exact ⟨_, c1⟩
        · rw [hb]; exact ⟨_, c2⟩
      · cases z
        exact ⟨.inl rfl, .inr rfl⟩
      · match j, g1, g2 with
        | 0, g1, g2 =>
          cases g1
          trivial
        | 1, g1, g2 =>
          cases g1
          cases g2
          refine ⟨_, rfl, ?_⟩
          simp only [Rep]
          exact ⟨s', l', rfl, rfl⟩
        | j + 2, g1, g2 =>
          have : g = .no := by
            have h' : (List.replicate m Sl.no)[j]? = some g := g1
            rw [List.getElem?_replicate] at h'
            split at h'
            · cases h'; rfl
            · cases h'
          subst this
          trivial
      · match j1, g1 with
        | 0, g1 => cases g1; cases n1
        | 1, g1 => cases g1; cases n1
        | j + 2, g1 =>
          have : g = .no := by
            have h' : (List.replicate m Sl.no)[j]? = some g := g1
            rw [List.getElem?_replicate] at h'
            split at h'
            · cases h'; rfl
            · cases h'
          subst this
          cases n1
    · have q2' : d = .bl true := q2
      subst q2'
      rw [repB r2]
      exact q H2
end Pu
namespace Pu
open PySem PySem.Spec PyProof.Rows L2
/-! ## what stands in the text, by names -/
theorem FnOk.cx {P : Program} {w : World} {K : PySem.W.Frag} {mg : Str → Option Value} {base : Heap} {k : Nat} {f : Addr} {fd : FuncData} {ps : List Str} {sp : Sp} {CX : CXT} (F : FnOk P w K mg base CX0 k f fd ps sp) : FnOk P w K mg base CX k f fd ps sp :=
  ⟨F.len, fun A outer s H args us vs Q E r e b v h => codeAny_mono (F.run A outer s H args us vs Q E r e b v h) fun r s' q => by
    cases r with
    | error e => exact q.elim
    | ok fl => cases fl <;> exact q⟩
theorem FnOk.imp {P : Program} {w : World} {K : PySem.W.Frag} {mg : Str → Option Value} {base : Heap} {k : Nat} {f : Addr} {fd : FuncData} {ps : List Str} {sp sp' : Sp} {CX : CXT} (F : FnOk P w K mg base CX k f fd ps sp) (h : ∀ vs H Q E, sp' vs H Q E → sp vs H Q E) : FnOk P w K mg base CX k f fd ps sp' :=
  ⟨fun vs H Q E q => F.len vs H Q E (h _ _ _ _ q), fun A outer s H args us vs Q E r e b v q => F.run A outer s H args us vs Q E r e b v (h _ _ _ _ q)⟩
theorem FnOk.impP {P : Program} {w : World} {K : PySem.W.Frag} {mg : Str → Option Value} {base : Heap} {k : Nat} {f : Addr} {fd : FuncData} {ps : List Str} {CT : Nat → Addr} {lay : Nat → List Str} {F F' : DFn} {CX : CXT} (G : FnOk P w K mg base CX k f fd ps (spP CT lay F)) (h : ∀ ds Q E, F' ds Q E → F ds Q E) : FnOk P w K mg base CX k f fd ps (spP CT lay F') :=
  FnOk.imp G fun vs H Q E ⟨L, S, ds, Qd, Ed, a, b, c, d, e⟩ => ⟨L, S, ds, Qd, Ed, a, b, h _ _ _ c, d, e⟩
section
variable (P : Program) (w : World) (K : PySem.W.Frag) (mg : Str → Option Value) (base : Heap) (CT : Nat → Addr) (lay : Nat → List Str)
structure FnAt (k : Nat) (x : Str) (ps : List Str) (F : DFn) : Prop where
  ex : ∃ f fd, FnOk P w K mg base (L2.CX P w) k f fd ps (spP CT lay F) ∧ mg x = some (.ref f) ∧ PySem.W.keepIn K (.ref f) = true ∧ Binds K fd ps []
/-- .. with written defaults dds for the last parameters -/
structure FnAtD (k : Nat) (x : Str) (ps : List Str) (F : DFn) (dds : List D) : Prop where
  ex : ∃ f fd dvs dsv, FnOk P w K mg base (L2.CX P w) k f fd ps (spP CT lay F) ∧ mg x = some (.ref f) ∧ PySem.W.keepIn K (.ref f) = true ∧ Binds K fd ps dsv ∧ Vals dvs dsv ∧ ∀ W H, Reps W H dds dvs
structure MkAt (k : Nat) (x : Str) (cn : Nat) (ps : List Str) (F : DIn) (dds : List D) : Prop where
  ex : ∃ f fd dvs dsv, Mk K (CT cn) f ∧ FnOk P w K mg base (L2.CX P w) k f fd ps (spI CT lay cn F) ∧ mg x = some (.ref (CT cn)) ∧ Binds K fd ps dsv ∧ Vals dvs dsv ∧ ∀ W H, Reps W H dds dvs
structure XnAt (k : Nat) (x : Str) (cn : Nat) (ps : List Str) : Prop where
  ex : ∃ fI fd, OexC K (CT cn) ∧ PySem.W.findIn K (.ref (CT cn)) "__init__" = some (some (.ref fI)) ∧ PySem.W.typeIn K (.ref fI) = some (.type "function") ∧ FnOk P w K mg base (L2.CX P w) k fI fd ps (spX (CT cn) (lay cn)) ∧ Binds K fd ps [] ∧ mg x = some (.ref (CT cn))
structure XnAt0 (x : Str) (cn : Nat) : Prop where
  ex : ∃ bmB Bn newId initId, ExcBaseFacts Bn newId initId bmB ∧ PySem.W.excIn K (CT cn) bmB newId = true ∧ mg x = some (.ref (CT cn)) ∧ PySem.W.keepIn K (.ref (CT cn)) = true ∧ PySem.W.subIn K (.ref (CT cn)) (.type "BaseException") = some true ∧ PySem.W.typeIn K (.ref (CT cn)) = some (.type "type") ∧ lay cn = []
end
section
variable {B : Bs} {X : Cx} {Wx : WX} {a b c e o : Expr} {es : List Expr} {pa pb pc : XP} {p pos apos : Pos} {pas : XAp} {k : Nat} {x m : Str} {ps : List Str} {F : DFn}
theorem xe_callA (h : FnAt X.prog X.w X.K X.mg X.base B.W.CT B.W.lay k x ps F) (hr : Room k X.A) (tk : Takes X Wx) (ha : XA B X Wx (e :: es) pas)
    (hg : Gl X x := by rfl) (hdb : (x == ("__debug__" : Str)) = false := by decide) (he : starEach (e :: es) X.env = (false, eval e X.env) :: starEach es X.env := by rfl) (hpl : (backTo pos (starEach es X.env)).any (·.1) = false := by rfl) :
    XE B X Wx (.Call (.Name x p) (e :: es) [] pos) (rFn F pas) := by
  obtain ⟨f, fd, G, m1, k1, b1⟩ := h.ex
  exact xe_call G hr m1 k1 b1 tk ha hg hdb he hpl
theorem xe_callAD {dds : List D} (h : FnAtD X.prog X.w X.K X.mg X.base B.W.CT B.W.lay k x ps F dds) (hr : Room k X.A) (tk : Takes X Wx) (ha : XA B X Wx (e :: es) pas)
    (hg : Gl X x := by rfl) (hdb : (x == ("__debug__" : Str)) = false := by decide) (he : starEach (e :: es) X.env = (false, eval e X.env) :: starEach es X.env := by rfl) (hpl : (backTo pos (starEach es X.env)).any (·.1) = false := by rfl) :
    XE B X Wx (.Call (.Name x p) (e :: es) [] pos) (rFn (fun xs => F (xs ++ dds)) pas) := by
  obtain ⟨f, fd, dvs, dsv, G, m1, k1, b1, hv, hd⟩ := h.ex
  exact xe_callD G hr m1 k1 b1 hv hd tk ha hg hdb he hpl
theorem xe_makeA {cn : Nat} {F : DIn} {dds : List D} (h : MkAt X.prog X.w X.K X.mg X.base B.W.CT B.W.lay k x cn ps F dds) (hr : Room (k + 1) X.A) (tk : Takes X Wx) (ha : XA B X Wx (e :: es) pas)
    (hg : Gl X x := by rfl) (hdb : (x == ("__debug__" : Str)) = false := by decide) (he : starEach (e :: es) X.env = (false, eval e X.env) :: starEach es X.env := by rfl) (hpl : (backTo pos (starEach es X.env)).any (·.1) = false := by rfl) :
    XE B X Wx (.Call (.Name x p) (e :: es) [] pos) (rMake cn (fun xs => F (xs ++ dds)) pas) := by
  obtain ⟨f, fd, dvs, dsv, M, G, m1, b1, hv, hd⟩ := h.ex
  exact xe_make M G hr m1 b1 hv hd tk ha hg hdb he hpl
def rExnA (cn n : Nat) (pas : XAp) : List Sl → (Exn → Prop) → Prop := fun G E => pas G (fun ds => ds.length = n ∧ n ≤ 1000 ∧ E ⟨cn, ds⟩) (fun _ => False)
theorem xr_exnA {cn n : Nat} (h : XnAt X.prog X.w X.K X.mg X.base B.W.CT B.W.lay k x cn ps) (hr : Room (k + 1) X.A) (hn : (B.W.lay cn).length = n) (ha : XA B X (fun _ _ _ _ => False) (e :: es) pas) (hg : Gl X x := by rfl)
    (hdb : (x == ("__debug__" : Str)) = false := by decide) (he : starEach (e :: es) X.env = (false, eval e X.env) :: starEach es X.env := by rfl) (hpl : (backTo pos (starEach es X.env)).any (·.1) = false := by rfl) :
    XR B X (.Call (.Name x p) (e :: es) [] pos) (rExnA cn n pas) := by
  obtain ⟨fI, fd, T, iC, tI, G, b1, m1⟩ := h.ex
  exact xr_exn T iC tI G hr b1 m1 hn ha hg hdb he hpl
theorem xr_exnA0 {cn : Nat} (h : XnAt0 X.K X.mg B.W.CT B.W.lay x cn) (hg : Gl X x := by rfl) (hdb : (x == ("__debug__" : Str)) = false := by decide) : XR B X (.Call (.Name x p) [] [] pos) (fun _ E => E ⟨cn, []⟩) := by
  obtain ⟨bmB, Bn, n1, n2, F, q, m1, kc, s1, t1, hl⟩ := h.ex
  exact xr_exn0 F q m1 kc (raises_own s1 t1) hl hg hdb
theorem names_own {cn : Nat} (h : X.mg x = some (.ref (B.W.CT cn))) (hg : Gl X x := by rfl) (hd : (x == ("__debug__" : Str)) = false := by decide) : Names X x (.ref (B.W.CT cn)) := ⟨hg, hd, .inl h⟩
end
/-! ## the law's draws -/
def Kp (s l : Addr) (H H' : Hp) : Prop := ∀ c o, H c = some o → c ≠ s → c ≠ l → H' c = some o
theorem LSt.ne {H : Hp} {s l : Addr} (h : LSt H s l) : s ≠ l := by
  obtain ⟨i, n, cs, e1, e2, _⟩ := h
  refine ne_of e1 e2 fun z => ?_
  have z2 := HO.lst.inj z
  cases cs with
  | nil => cases z2
  | cons c r =>
    have z3 := (List.cons.inj z2).1
    cases z3
def spDraw : Sp := fun vs H Q _ => ∃ (s l : Addr) (m : Int), vs = [.ref s, .int m] ∧ LSt H s l ∧ 0 < m ∧ m < 1073741824 ∧ ∀ H' r, Kp s l H H' → LSt H' s l → 0 ≤ r → r < m → Q (.int r) H'
def oDraw : DFn := fun ds Q _ => ∃ m : Int, ds = [.law, .int m] ∧ 0 < m ∧ m < 1073741824 ∧ ∀ r : Int, 0 ≤ r → r < m → Q (.int r)
theorem draw_of {P : Program} {w : World} {K : PySem.W.Frag} {mg : Str → Option Value} {base : Heap} {k : Nat} {f : Addr} {fd : FuncData} {ps : List Str} {CT : Nat → Addr} {lay : Nat → List Str} (F : FnOk P w K mg base CX0 k f fd ps spDraw) : FnOk P w K mg base (L2.CX P w) k f fd ps (spP CT lay oDraw) := by
  refine FnOk.imp (FnOk.cx F) fun vs H Q E ⟨L, S, ds, Qd, Ed, wk, r, ⟨m, hd, m0, m1, q⟩, ke, kx⟩ => ?_
  subst hd
  obtain ⟨v, u, rfl, r1, r2⟩ := reps2 r
  have r2' := repI r2
  subst r2'
  simp only [Rep] at r1
  obtain ⟨s, l, hL, rfl⟩ := r1
  obtain ⟨h1, h2⟩ := wk.law s l hL
  refine ⟨s, l, m, rfl, h1, m0, m1, fun H' r kp ls r0 r1 => ke _ H' (.int r) ⟨fun a o e n => ?_, fun s' l' e => ?_⟩ mkI (q r r0 r1)⟩
  · obtain ⟨n1, n2⟩ := n s l hL
    exact kp a o e n1 n2
  · have hL' : (⟨CT, lay, L, S⟩ : Wd).L = some (s, l) := hL
    rw [hL'] at e
    cases e
    exact ls
end Pu
namespace Pu
open PySem PySem.Spec PyProof.Rows L2
def tyOkB (cs : List Nat) : Ty → Bool
  | .b n => decide (n ∈ builtinTys)
  | .c n => decide (n ∈ cs)
theorem tyOk_of {cs : List Nat} {t : Ty} (h : tyOkB cs t = true) : TyOk cs t := by
  cases t with
  | b n =>
    have h' : decide (n ∈ builtinTys) = true := h
    exact (of_decide_eq_true h' : n ∈ builtinTys)
  | c n =>
    have h' : decide (n ∈ cs) = true := h
    exact (of_decide_eq_true h' : n ∈ cs)
theorem tyOks_of {cs : List Nat} {ts : List Ty} (h : ts.all (tyOkB cs) = true) : ∀ t ∈ ts, TyOk cs t := fun t ht => tyOk_of (List.all_eq_true.mp h t ht)
/-- list(x) as a new list -/
def rListN (a : XP) : XAp := fun G Q E => a G (fun d => match d with
  | .lst ds => Q ds
  | .tup ds => Q ds
  | _ => False) E
section
variable {B : Bs} {X : Cx} {Wx : WX} {a b c e o : Expr} {es : List Expr} {pa pb pc : XP} {p pos apos : Pos} {pas : XAp} {k : Nat} {x m : Str} {ps : List Str} {F : DFn}
theorem xe_makeA0 {cn : Nat} {F : DIn} (h : MkAt X.prog X.w X.K X.mg X.base B.W.CT B.W.lay k x cn ps F []) (hr : Room (k + 1) X.A) (tk : Takes X Wx) (ha : XA B X Wx (e :: es) pas)
    (hg : Gl X x := by rfl) (hdb : (x == ("__debug__" : Str)) = false := by decide) (he : starEach (e :: es) X.env = (false, eval e X.env) :: starEach es X.env := by rfl) (hpl : (backTo pos (starEach es X.env)).any (·.1) = false := by rfl) :
    XE B X Wx (.Call (.Name x p) (e :: es) [] pos) (rMake cn F pas) := by
  have h := xe_makeA (p := p) (pos := pos) h hr tk ha hg hdb he hpl
  have e : (fun xs => F (xs ++ [])) = F := by
    funext xs
    rw [List.append_nil]
  rw [e] at h
  exact h
theorem tk_fn {P : Program} {w : World} {K : PySem.W.Frag} {mg : Str → Option Value} {base : Heap} {N : List Str} {qual : Str} {scope : Scope} {f : Addr} {cd : Value} {A : Around} {outer : List Env} {s : Shared} {H : Hp} {E : XK} : Takes (cxOf (L2.CX P w) P w K mg base N qual scope f cd A outer s H E) (fun cls d _ H => E cls d H) := takes_of rfl rfl rfl rfl
theorem po_fn {P : Program} {w : World} {K : PySem.W.Frag} {mg : Str → Option Value} {base : Heap} {N : List Str} {qual : Str} {scope : Scope} {f : Addr} {cd : Value} {A : Around} {outer : List Env} {s : Shared} {H : Hp} {E : XK} :
    PassesOwn (model (cxOf (L2.CX P w) P w K mg base N qual scope f cd A outer s H E).prog (cxOf (L2.CX P w) P w K mg base N qual scope f cd A outer s H E).w) (cxOf (L2.CX P w) P w K mg base N qual scope f cd A outer s H E).A (cxOf (L2.CX P w) P w K mg base N qual scope f cd A outer s H E).env (cxOf (L2.CX P w) P w K mg base N qual scope f cd A outer s H E).xe := passes_of rfl
end
end Pu
namespace Pu
open PySem PySem.Spec PyProof.Rows L2
/-! ## tools for the readings -/
theorem lcP_fm {g : XGp} {tt : XTp} {te : XP} {G0 : List Sl} {f : D → D} {p : D → Bool} {Q : List D → Prop} : ∀ (ds acc : List D), acc.length + ds.length ≤ 100000 →
    (∀ d ∈ ds, ∀ (K : D → Prop) (E0 : Prop), (p d = true → K (f d)) → (p d = false → E0) → g d G0 (fun G2 => tt G2 (fun b => if b = true then te G2 K (fun _ => False) else E0) (fun _ => False))) →
    Q (acc ++ (ds.filter p).map f) → lcP g tt te G0 ds acc Q
  | [], acc, _, _, q => by
    show Q acc
    simpa using q
  | d :: ds, acc, hl, h, q => by
    have hl' : acc.length + 1 + ds.length ≤ 100000 := by simp only [List.length_cons] at hl; omega
    refine h d List.mem_cons_self _ _ (fun hp => ?_) (fun hp => ?_)
    · refine ⟨by omega, lcP_fm ds _ (by rw [List.length_append, List.length_singleton]; omega) (fun d' hd => h d' (List.mem_cons_of_mem _ hd)) ?_⟩
      rw [List.filter_cons, if_pos hp, List.map_cons] at q
      simpa using q
    · refine lcP_fm ds _ (by omega) (fun d' hd => h d' (List.mem_cons_of_mem _ hd)) ?_
      rw [List.filter_cons, if_neg (by rw [hp]; exact Bool.false_ne_true)] at q
      exact q
theorem filter_yes {α : Type} (ds : List α) : ds.filter (fun _ => true) = ds := List.filter_eq_self.mpr fun _ _ => rfl
/-- without tests -/
theorem lcP_map {g : XGp} {te : XP} {G0 : List Sl} {f : D → D} {Q : List D → Prop} (ds acc : List D) (hl : acc.length + ds.length ≤ 100000)
    (h : ∀ d ∈ ds, ∀ (K : D → Prop), K (f d) → g d G0 (fun G2 => te G2 K (fun _ => False))) (q : Q (acc ++ ds.map f)) : lcP g rYes te G0 ds acc Q := by
  refine lcP_fm (f := f) (p := fun _ => true) ds acc hl (fun d hd K E0 h1 _ => ?_) (by rw [filter_yes]; exact q)
  have := h d hd K (h1 rfl)
  exact this
theorem lcP2_fm {g g1 : XGp} {tt tt1 : XTp} {it1 : XAp} {vs1 : List Nat} {te : XP} {G0 : List Sl} {f : D → List D} {Q : List D → Prop} : ∀ (ds acc : List D),
    (∀ d ∈ ds, ∀ (acc : List D) (K : List D → Prop) (E0 : Prop), acc.length + (f d).length ≤ 100000 → K (acc ++ f d) → g d G0 (fun G2 => tt G2 (fun b => if b = true then it1 G2 (fun es => lcP g1 tt1 te (wipeG G2 vs1) es acc K) (fun _ => False) else E0) (fun _ => False))) →
    acc.length + (ds.flatMap f).length ≤ 100000 → Q (acc ++ ds.flatMap f) → lcP2 g tt it1 vs1 g1 tt1 te G0 ds acc Q
  | [], acc, _, _, q => by
    show Q acc
    simpa using q
  | d :: ds, acc, h, hl, q => by
    rw [List.flatMap_cons] at hl q
    rw [List.length_append] at hl
    refine h d List.mem_cons_self acc _ _ (by omega) (lcP2_fm ds _ (fun d' hd => h d' (List.mem_cons_of_mem _ hd)) (by rw [List.length_append]; omega) ?_)
    rw [List.append_assoc]
    exact q
theorem forP_inv {g : XGp} {body : XSp} {P : Po} {I : List D → List Sl → Prop}
    (step : ∀ d ds G (K : List Sl → Prop), I (d :: ds) G → (∀ G2, I ds G2 → K G2) → g d G (fun G1 => body G1 { P with nx := K, ct := K, bk := P.nx })) (fin : ∀ G, I [] G → P.nx G) : ∀ ds G, I ds G → forP g body ds G P
  | [], G, h => fin G h
  | d :: ds, G, h => step d ds G _ h fun G2 h2 => forP_inv step fin ds G2 h2
theorem atI_lt {α : Type} {l : List α} {i : Nat} {x : α} (h : l[i]? = some x) : atI l (i : Int) = some x := by
  have hl := (List.getElem?_eq_some_iff.mp h).1
  unfold L2.atI ixN
  rw [if_pos (by omega), if_pos (by omega)]
  simpa using h
theorem atI_z {α : Type} {l : List α} {i : Int} {x : α} (h0 : 0 ≤ i) (h : l[i.toNat]? = some x) : atI l i = some x := by
  obtain ⟨n, rfl⟩ := Int.eq_ofNat_of_zero_le h0
  exact atI_lt h
theorem matI {α : Type} {l : List α} {i : Int} {x : α} {R : α → Prop} (h0 : 0 ≤ i) (h : l[i.toNat]? = some x) (r : R x) : (match atI l i with | some c => R c | none => False) := by
  rw [atI_z h0 h]
  exact r
/-- x[i] of a list or tuple -/
theorem ix_lst {ds : List D} {i : Nat} {d : D} {Q : D → Prop} {E : Exn → Prop} (h : ds[i]? = some d) (q : Q d) : oIx (.lst ds) (.int (i : Int)) Q E := by
  show (match atI ds (i : Int) with | some d => Q d | none => False)
  rw [atI_lt h]
  exact q
theorem ix_tup {ds : List D} {i : Nat} {d : D} {Q : D → Prop} {E : Exn → Prop} (h : ds[i]? = some d) (q : Q d) : oIx (.tup ds) (.int (i : Int)) Q E := by
  show (match atI ds (i : Int) with | some d => Q d | none => False)
  rw [atI_lt h]
  exact q
theorem ix_str {z : Str} {i c : Nat} {Q : D → Prop} {E : Exn → Prop} (hz : z.length ≤ 100000) (h : z.cps.toList[i]? = some c) (q : Q (.str ⟨#[c]⟩)) : oIx (.str z) (.int (i : Int)) Q E := by
  refine ⟨hz, ?_⟩
  rw [atI_lt h]
  exact q
theorem tor {a b : XTp} {G : List Sl} {Q : Bool → Prop} {E : Exn → Prop} (h : a G (fun k => if k = true then Q true else b G Q E) E) : rTOr a b G Q E := h
/-- all of bools -/
theorem bls_map {ds : List D} {p : D → Bool} : bls (ds.map fun d => .bl (p d)) = some (ds.map p) := by
  induction ds with
  | nil => rfl
  | cons d ds ih => simp only [List.map_cons, bls, ih]; rfl
/-! ### conditions -/
theorem iteB {b : Bool} {A B : Prop} (h1 : b = true → A) (h2 : b = false → B) : if b = true then A else B := by
  cases b with
  | true => exact iteT (h1 rfl)
  | false => exact iteF (h2 rfl)
theorem iteN {b : Bool} {A B : Prop} (e : b = false) (h : B) : if b = true then A else B := by
  subst e
  exact iteF h
theorem iteY {b : Bool} {A B : Prop} (e : b = true) (h : A) : if b = true then A else B := by
  subst e
  exact iteT h
/-! ### lists and tuples -/
def itemsD : D → Option (List D)
  | .lst ds => some ds
  | .tup ds => some ds
  | _ => none
def isSeq : D → Bool
  | .lst _ => true
  | .tup _ => true
  | .ftp _ => true
  | _ => false
theorem items_seq {d : D} {ds : List D} (h : itemsD d = some ds) : d = .lst ds ∨ d = .tup ds := by
  cases d <;> first | (cases h; done) | (cases h; first | exact .inl rfl | exact .inr rfl)
/-- len of a list, a tuple -/
theorem len_items {d : D} {ds : List D} {Q : D → Prop} {E : Exn → Prop} (h : itemsD d = some ds) (q : Q (.int ds.length)) : oLen [d] Q E := by
  rcases items_seq h with rfl | rfl
  · exact q
  · exact q
theorem gU_items {d : D} {ds : List D} {n : Nat} {g : XGsp} {G : List Sl} {Q : List Sl → Prop} (h : itemsD d = some ds) (hn : ds.length = n) (q : g ds G Q) : gU n g d G Q := by
  rcases items_seq h with rfl | rfl <;> exact ⟨hn, q⟩
theorem rItems_of {d : D} {ds : List D} {Q : List D → Prop} : itemsD d = some ds → Q ds → (match d with | .lst ds => Q ds | .tup ds => Q ds | _ => False) := by
  intro h q
  rcases items_seq h with rfl | rfl
  · exact q
  · exact q
theorem deq_str {x y : Str} : deq (.str x) (.str y) = (x == y) := by simp [deq]
theorem deq_int {x y : Int} : deq (.int x) (.int y) = (x == y) := by simp [deq]
theorem any_strs {xs : List Str} {y : Str} : ((xs.map D.str).any fun d => deq d (.str y)) = xs.any (· == y) := by
  rw [List.any_map]
  congr 1
  try (funext x; exact deq_str)
theorem pl_strs (n : Nat) (xs : List Str) : (xs.map D.str).all (pl n) = true := by
  rw [List.all_map]
  exact List.all_eq_true.mpr fun x _ => by cases n <;> rfl
theorem deqs_strs : ∀ xs ys : List Str, deqs (xs.map D.str) (ys.map D.str) = (xs == ys)
  | [], [] => by simp [deqs]
  | [], y :: ys => by simp [deqs]
  | x :: xs, [] => by simp [deqs]
  | x :: xs, y :: ys => by
    rw [List.map_cons, List.map_cons, deqs, deq_str, deqs_strs xs ys]
    try rfl
end Pu
namespace Pu
open PySem PySem.Spec PyProof.Rows L2
/-! ## the readings, step by step -/
section
variable {G : List Sl} {P : Po} {Q : D → Prop} {QB : Bool → Prop} {QL : List D → Prop} {QG : List Sl → Prop} {E : Exn → Prop} {a b e : XP} {c c' : XTp} {s t : XSp} {l : XAp} {o : DOp} {u : DUn} {f : DFn} {g : XGp} {gs : XGsp} {i n : Nat} {d : D} {ds : List D} {m : List (Nat × Nat)}
theorem rd_seq (h : s G { P with nx := fun G' => t G' P }) : rSeq s t G P := h
theorem rd_if (h : c G (fun k => if k = true then s G P else t G P) (fun e => P.ex e G)) : rIf c s t G P := h
theorem rd_ret (h : a G P.rt (fun e => P.ex e G)) : rRet a G P := h
theorem rd_retN (h : P.rt .non) : rRetN G P := h
theorem rd_next (h : P.nx G) : rNext G P := h
theorem rd_brk (h : P.bk G) : rBrk G P := h
theorem rd_cont (h : P.ct G) : rCont G P := h
theorem rd_set (h : a G (fun d => P.nx (G.set i (.d d))) (fun e => P.ex e G)) : rSet i a G P := h
theorem rd_setN (h : l G (fun ds => P.nx (G.set i (.d (.lst ds)))) (fun e => P.ex e G)) : rSetN i l G P := h
theorem rd_ownSet (h : l G (fun ds => P.nx (G.set i (.own ds))) (fun e => P.ex e G)) : rOwnSet i l G P := h
theorem rd_asg (h : a G (fun d => g d G P.nx) (fun e => P.ex e G)) : rAsg a g G P := h
theorem rd_drop (h : a G (fun _ => P.nx G) (fun e => P.ex e G)) : rDrop a G P := h
theorem rd_app (hg : G[i]? = some (.own ds)) (h : a (G.set i .no) (fun d => ds.length < 100000 ∧ P.nx (G.set i (.own (ds ++ [d])))) (fun e => P.ex e G)) : rApp i a G P := by
  unfold rApp
  rw [hg]
  exact h
theorem rd_appF (hg : G[i]? = some (.own ds)) (h : a (G.set i (.d (.lst ds))) (fun d => flat d = true ∧ ds.length < 100000 ∧ P.nx (G.set i (.own (ds ++ [d])))) (fun _ => False)) : rAppF i a G P := by
  unfold rAppF
  rw [hg]
  exact h
theorem rd_sFrz (hg : G[i]? = some (.own ds)) (h : s (G.set i (.d (.lst ds))) P) : rsFrz i s G P := by
  unfold rsFrz
  rw [hg]
  exact h
theorem rd_frzE (hg : G[i]? = some (.own ds)) (h : a (G.set i (.d (.lst ds))) (fun d => noL d = true ∧ Q d) (fun _ => False)) : rFrzE i a G Q E := by
  unfold rFrzE
  rw [hg]
  exact h
theorem rd_tFrz (hg : G[i]? = some (.own ds)) (h : c (G.set i (.d (.lst ds))) QB (fun _ => False)) : rTFrz i c G QB E := by
  unfold rTFrz
  rw [hg]
  exact h
theorem rd_for {q : XAp} (h : q G (fun ds => forP g s ds G P) (fun e => P.ex e G)) : rFor q g s G P := h
theorem rd_put {cc : Nat} (hg : G[i]? = some (.obj cc ds)) (hm : m.lookup cc = some ds.length) (h : a G (fun d => P.nx (G.set i (.obj cc (ds ++ [d])))) (fun e => P.ex e G)) : rPut m i a G P := by
  unfold rPut
  rw [hg]
  exact ⟨hm, h⟩
theorem rd_own {cc j : Nat} (hg : G[i]? = some (.obj cc ds)) (hm : m.lookup cc = some j) (hd : ds[j]? = some d) (h : Q d) : rOwn m i G Q E := by
  unfold rOwn
  rw [hg]
  dsimp only
  rw [hm]
  dsimp only
  rw [hd]
  exact h
theorem rd_raise {p : List Sl → (Exn → Prop) → Prop} (h : p G (fun e => P.ex e G)) : rRaise p G P := h
theorem rd_exn {cc : Nat} {E' : Exn → Prop} (h : l G (fun ds => ds.length = n ∧ n ≤ 1000 ∧ E' ⟨cc, ds⟩) (fun _ => False)) : rExnA cc n l G E' := h
/-! tests -/
theorem rd_or (h : c G (fun k => if k = true then QB true else c' G QB E) E) : rTOr c c' G QB E := h
theorem rd_and (h : c G (fun k => if k = true then c' G QB E else QB false) E) : rTAnd c c' G QB E := h
theorem rd_not (h : c G (fun k => QB (!k)) E) : rTNot c G QB E := h
theorem rd_test (h : a G (fun x => onB x QB) E) : rTest a G QB E := h
theorem rd_yes (h : QB true) : rYes G QB E := h
theorem rd_onB {k : Bool} (h : QB k) : onB (.bl k) QB := h
/-! expressions -/
theorem rd_var (hg : G[i]? = some (.d d)) (h : Q d) : rVar i G Q E := by
  unfold rVar
  rw [hg]
  exact h
theorem rd_c (h : Q d) : rC d G Q E := h
theorem rd_bin (h : a G (fun x => b G (fun y => o x y Q E) E) E) : rBin o a b G Q E := h
theorem rd_un (h : a G (fun x => u x Q E) E) : rUn u a G Q E := h
theorem rd_fn (h : l G (fun xs => f xs Q E) E) : rFn f l G Q E := h
theorem rd_eand (h : a G (fun x => onB x fun k => if k = true then b G Q E else Q (.bl false)) E) : rAnd a b G Q E := h
theorem rd_eor (h : a G (fun x => onB x fun k => if k = true then Q (.bl true) else b G Q E) E) : rOr a b G Q E := h
theorem rd_enot (h : a G (fun x => onB x fun k => Q (.bl (!k))) E) : rNot a G Q E := h
theorem rd_ifE (h : c G (fun k => if k = true then a G Q E else b G Q E) E) : rIfE c a b G Q E := h
theorem rd_nil (h : QL []) : rNil G QL E := h
theorem rd_cons (h : a G (fun x => l G (fun xs => QL (x :: xs)) E) E) : rCons a l G QL E := h
theorem rd_tup (h : l G (fun xs => xs.length ≤ 1000 ∧ Q (.tup xs)) E) : rTup l G Q E := h
theorem rd_lst (h : l G (fun xs => xs.length ≤ 1000 ∧ Q (.lst xs)) E) : rLst l G Q E := h
theorem rd_sz (h : l G (fun ds => ds.length ≤ 1000 ∧ QL ds) E) : rSz l G QL E := h
theorem rd_new (h : l G (fun ds => Q (.lst ds)) E) : rNew l G Q E := h
theorem rd_wk (h : a G (fun d => Q (wk d)) E) : rWk a G Q E := h
theorem rd_chain {o' : DOp} (h : a G (fun x => b G (fun y => o x y (fun z => onB z fun k => if k = true then e G (fun w => o' y w Q E) E else Q (.bl false)) E) E) E) : rChain o o' a b e G Q E := h
theorem rd_make {cc : Nat} {F : DIn} (h : l G (fun xs => F xs (fun fs => Q (.ins cc fs)) E) E) : rMake cc F l G Q E := h
theorem rd_star (h : a G (fun x => match x with
  | .tup ds => l G (fun xs => QL (ds ++ xs)) E
  | .lst ds => l G (fun xs => QL (ds ++ xs)) E
  | _ => False) E) : rStar a l G QL E := h
theorem rd_items (h : a G (fun d => match d with
  | .lst ds => QL ds
  | .tup ds => QL ds
  | _ => False) E) : rItems a G QL E := h
theorem rd_enum (h : a G (fun d => match d with
  | .lst ds => QL (enumD 0 ds)
  | .tup ds => QL (enumD 0 ds)
  | _ => False) E) : rEnum a G QL E := h
theorem rd_range (h : l G (fun xs => match xs with
  | [.int j] => j < 4611686018427387904 ∧ -4611686018427387904 ≤ j ∧ QL ((List.range j.toNat).map fun (i : Nat) => .int ((i : Nat) : Int))
  | _ => False) E) : rRange l G QL E := h
theorem rd_lc {vs : List Nat} {it : XAp} (h : it G (fun ds => lcP g c a (wipeG G vs) ds [] QL) E) : rLc vs it g c a G QL E := h
theorem rd_lenSet (h : a G (fun d => match d with
  | .lst ds => ∃ xs, strsD ds = some xs ∧ xs.length ≤ 1000 ∧ Q (.int ((dd xs).length : Int))
  | .tup ds => ∃ xs, strsD ds = some xs ∧ xs.length ≤ 1000 ∧ Q (.int ((dd xs).length : Int))
  | _ => False) E) : rLenSet a G Q E := h
theorem lenSet_of {R : List Str → Prop} {xs : List Str} : itemsD d = some ds → strsD ds = some xs → xs.length ≤ 1000 → R xs → (match d with
  | .lst ds => ∃ xs, strsD ds = some xs ∧ xs.length ≤ 1000 ∧ R xs
  | .tup ds => ∃ xs, strsD ds = some xs ∧ xs.length ≤ 1000 ∧ R xs
  | _ => False) := by
  intro h h1 h2 q
  rcases items_seq h with rfl | rfl
  · exact ⟨xs, h1, h2, q⟩
  · exact ⟨xs, h1, h2, q⟩
theorem rd_fld (h : a G (fun d => match d with
  | .ins c ds => match m.lookup c with
    | some i => match ds[i]? with
      | some x => Q x
      | none => False
    | none => False
  | _ => False) E) : rFld m a G Q E := h
theorem rd_fldV {cc j : Nat} (hg : G[i]? = some (.d (.ins cc ds))) (hm : m.lookup cc = some j) (hd : ds[j]? = some d) (h : Q d) : rFld m (rVar i) G Q E := by
  refine rd_fld (rd_var hg ?_)
  dsimp only
  rw [hm]
  dsimp only
  rw [hd]
  exact h
theorem rd_methV {tbl : List (Nat × DFn)} {cc : Nat} {F : DFn} (hg : G[i]? = some (.d (.ins cc ds))) (hm : tbl.lookup cc = some F) (h : l G (fun xs => F (.ins cc ds :: xs) Q E) E) : rMeth tbl (rVar i) l G Q E := by
  show rVar i G _ E
  refine rd_var hg ?_
  dsimp only
  rw [hm]
  exact h
theorem rd_meth {tbl : List (Nat × DFn)} (h : a G (fun d => match d with
  | .ins c ds => match tbl.lookup c with
    | some F => l G (fun xs => F (.ins c ds :: xs) Q E) E
    | none => False
  | _ => False) E) : rMeth tbl a l G Q E := h
theorem rd_sl {lo hi : Option XP} (h : a G (fun x => rPo lo G (fun l => rPo hi G (fun h => oSl x l h Q) E) E) E) : rSl a lo hi G Q E := h
theorem rd_poN {QO : Option Int → Prop} (h : QO none) : rPo none G QO E := h
theorem rd_poS {QO : Option Int → Prop} (h : a G (fun d => match d with
  | .int i => QO (some i)
  | _ => False) E) : rPo (some a) G QO E := h
theorem rd_slT {lo hi : Option Int} (h : Q (.tup (cutD ds lo hi))) : oSl (.tup ds) lo hi Q := h
theorem rd_slL {lo hi : Option Int} (h : Q (.lst (cutD ds lo hi))) : oSl (.lst ds) lo hi Q := h
/-! targets -/
theorem rd_gN (h : QG (G.set i (.d d))) : gN i d G QG := h
theorem rd_gsN (h : QG G) : gsN [] G QG := h
theorem rd_gsC (h : g d G (fun G1 => gs ds G1 QG)) : gsC g gs (d :: ds) G QG := h
theorem rd_gUt (hg : ds.length = n) (h : gs ds G QG) : gU n gs (.tup ds) G QG := ⟨hg, h⟩
theorem rd_gUl (hg : ds.length = n) (h : gs ds G QG) : gU n gs (.lst ds) G QG := ⟨hg, h⟩
/-! operators -/
theorem rd_le {x y : Int} (h : Q (.bl (decide (x ≤ y)))) : oLe (.int x) (.int y) Q E := h
theorem rd_lt {x y : Int} (h : Q (.bl (decide (x < y)))) : oLt (.int x) (.int y) Q E := h
theorem rd_ge {x y : Int} (h : Q (.bl (decide (y ≤ x)))) : oGe (.int x) (.int y) Q E := h
theorem rd_gt {x y : Int} (h : Q (.bl (decide (y < x)))) : oGt (.int x) (.int y) Q E := h
theorem rd_addI {x y : Int} (h : Q (.int (x + y))) : oAdd (.int x) (.int y) Q E := h
theorem rd_subI {x y : Int} (h : Q (.int (x - y))) : oSub (.int x) (.int y) Q E := ⟨trivial, h⟩
theorem rd_negI {x : Int} (h : Q (.int (-x))) : oNeg (.int x) Q E := h
theorem rd_eqI {x y : Int} (h : Q (.bl (x == y))) : oEq (.int x) (.int y) Q E := ⟨rfl, rfl, by rw [deq_int]; exact h⟩
theorem rd_neI {x y : Int} (h : Q (.bl (!(x == y)))) : oNe (.int x) (.int y) Q E := ⟨rfl, rfl, by rw [deq_int]; exact h⟩
theorem rd_eqS {x y : Str} (h : Q (.bl (x == y))) : oEq (.str x) (.str y) Q E := ⟨rfl, rfl, by rw [deq_str]; exact h⟩
theorem rd_neS {x y : Str} (h : Q (.bl (!(x == y)))) : oNe (.str x) (.str y) Q E := ⟨rfl, rfl, by rw [deq_str]; exact h⟩
theorem rd_isN (h : Q (.bl (isNon d))) : oIsN false d .non Q E := h
theorem rd_notN (h : Q (.bl (!isNon d))) : oIsN true d .non Q E := h
theorem rd_isB {x y : Bool} (h : Q (.bl (decide (x = y)))) : oIsB (.bl x) (.bl y) Q E := h
theorem rd_lenL (h : Q (.int ds.length)) : oLen [.lst ds] Q E := h
theorem rd_lenT (h : Q (.int ds.length)) : oLen [.tup ds] Q E := h
theorem rd_lenI {items : List D} (hi : itemsD d = some items) (h : Q (.int items.length)) : oLen [d] Q E := len_items hi h
theorem rd_intI {x : Int} (h : Q (.int x)) : oInt [.int x] Q E := h
theorem rd_listL (h : Q (.lst ds)) : oList [.lst ds] Q E := h
theorem rd_listT (h : Q (.lst ds)) : oList [.tup ds] Q E := h
theorem rd_tupL (h : Q (.tup ds)) : oTup [.lst ds] Q E := h
theorem rd_tupT (h : Q (.tup ds)) : oTup [.tup ds] Q E := h
theorem rd_ftup (h : Q (.ftp ds)) : oFtup [.lst ds] Q E := h
theorem rd_inS {ne : Bool} {xs : List Str} {y : Str} (h : Q (.bl (if ne then !xs.any (· == y) else xs.any (· == y)))) : oIn ne (.str y) (.lst (xs.map D.str)) Q E := by
  refine ⟨rfl, pl_strs 50 xs, ?_⟩
  rw [any_strs]
  exact h
end
end Pu
namespace Pu
open PySem PySem.Spec PyProof.Rows L2
/-! ## more tools -/
theorem isT_seq {d : D} : [Ty.b "list", Ty.b "tuple"].any (isT d) = isSeq d := by
  cases d <;> first | rfl | decide | simp [isT, isSeq, tyn]
def isStrD : D → Bool
  | .str _ => true
  | _ => false
theorem isT_str {d : D} : [Ty.b "str"].any (isT d) = isStrD d := by
  cases d <;> first | rfl | decide | simp [isT, tyn, isStrD]
theorem hd_get {l : List Nat} {n : Nat} (h : 1 ≤ l.length) : l[0]? = some (l.headD n) := by
  cases l with
  | nil => simp at h
  | cons a l => rfl
theorem cast_le {a b : Nat} : decide ((a : Int) ≤ (b : Int)) = decide (a ≤ b) := by
  by_cases h : a ≤ b
  · rw [decide_eq_true h, decide_eq_true (by omega)]
  · rw [decide_eq_false h, decide_eq_false (by omega)]
theorem sz_list {z : Str} : z.cps.toList.length = z.length := by simp [Str.length]
theorem mul_ok {i j : Nat} (h1 : i ≤ 1000000) (h2 : j ≤ 1000000) : CMulW (i : Int) (j : Int) := by
  have l : ∀ {n : Nat}, n ≤ 1000000 → ((n : Int)).natAbs.log2 < 20 := fun {n} h => by
    rw [Int.natAbs_natCast]
    by_cases z : n = 0
    · subst z
      decide
    · exact (Nat.log2_lt z).mpr (by omega)
  have a := l h1
  have b := l h2
  unfold CMulW
  omega
theorem any_mem {l : List Str} {x : Str} : l.any (· == x) = true ↔ x ∈ l := by
  rw [List.any_eq_true]
  exact ⟨fun ⟨y, h, e⟩ => by rw [beq_iff_eq] at e; exact e ▸ h, fun h => ⟨x, h, by simp⟩⟩
theorem dd_nodup : ∀ n (l : List Str), l.length = n → ¬ (dd l).length < l.length → l.Nodup
  | 0, l, hn, _ => by
    cases l with
    | nil => exact List.nodup_nil
    | cons x l => simp at hn
  | n + 1, l, hn, h => by
    rcases List.eq_nil_or_concat l with rfl | ⟨l', x, e⟩
    · exact List.nodup_nil
    · have e : l = l' ++ [x] := by rw [e, List.concat_eq_append]
      subst e
      rw [dd_len_snoc, List.length_append, List.length_singleton] at h
      have hle := dd_le l'
      by_cases hx : l'.any (· == x) = true
      · rw [if_pos hx] at h
        omega
      · rw [if_neg hx] at h
        have ih := dd_nodup n l' (by simpa using hn) (by omega)
        rw [List.nodup_append]
        refine ⟨ih, by simp, fun a ha b hb z => ?_⟩
        rw [List.mem_singleton] at hb
        subst z hb
        exact hx (any_mem.mpr ha)
theorem rd_tupI {d : D} {ds : List D} {Q : D → Prop} {E : Exn → Prop} (hi : itemsD d = some ds) (h : Q (.tup ds)) : oTup [d] Q E := by
  rcases items_seq hi with rfl | rfl <;> exact h
def isIntD : D → Bool
  | .int _ => true
  | _ => false
theorem isT_int {d : D} : [Ty.b "int"].any (isT d) = (isIntD d || match d with | .bl _ => true | _ => false) := by
  cases d <;> first | rfl | decide | simp [isT, isIntD, tyn]
theorem isT_bool {d : D} : [Ty.b "bool"].any (isT d) = (match d with | .bl _ => true | _ => false) := by
  cases d <;> first | rfl | decide | simp [isT, tyn]
def isInsD : D → Bool
  | .ins _ _ => true
  | _ => false
mutual
theorem pl_up1 : ∀ (n : Nat) (d : D), pl n d = true → pl (n + 1) d = true
  | n, .non, _ => by cases n <;> rfl
  | n, .bl b, _ => by cases n <;> rfl
  | n, .int i, _ => by cases n <;> rfl
  | n, .str x, _ => by cases n <;> rfl
  | n + 1, .lst ds, h => pls_up1 n ds h
  | n + 1, .tup ds, h => pls_up1 n ds h
  | 0, .lst ds, h => by simp [pl] at h
  | 0, .tup ds, h => by simp [pl] at h
  | n, .ftp ds, h => by cases n <;> simp [pl] at h
  | n, .ins c ds, h => by cases n <;> simp [pl] at h
  | n, .dic k ds, h => by cases n <;> simp [pl] at h
  | n, .val v, h => by cases n <;> simp [pl] at h
  | n, .law, h => by cases n <;> simp [pl] at h
  | n, .exn c ds, h => by cases n <;> simp [pl] at h
theorem pls_up1 : ∀ (n : Nat) (ds : List D), ds.all (pl n) = true → ds.all (pl (n + 1)) = true
  | n, [], _ => rfl
  | n, d :: ds, h => by
    rw [List.all_cons, Bool.and_eq_true] at h ⊢
    exact ⟨pl_up1 n d h.1, pls_up1 n ds h.2⟩
end
theorem pl_up {n m : Nat} {d : D} (h : n ≤ m) (p : pl n d = true) : pl m d = true := by
  induction h with
  | refl => exact p
  | step _ ih => exact pl_up1 _ _ ih
theorem any_find {ds : List D} {x : D} : ds.any (fun d => deq d x) = (findD ds x).isSome := by
  unfold findD
  rw [Bool.eq_iff_iff, List.any_eq_true, Option.isSome_iff_ne_none, ne_eq, List.findIdx?_eq_none_iff]
  simp
theorem draw_nat {m : Nat} {Q : D → Prop} {E : Exn → Prop} (h0 : 0 < m) (h1 : m < 1073741824) (q : ∀ r : Nat, r < m → Q (.int r)) : oDraw [.law, .int m] Q E := by
  refine ⟨m, rfl, by omega, by omega, fun r h0 h1 => ?_⟩
  obtain ⟨n, rfl⟩ := Int.eq_ofNat_of_zero_le h0
  exact q n (by omega)
theorem cutD_mem {ds : List D} {lo hi : Option Int} {x : D} (h : x ∈ cutD ds lo hi) : x ∈ ds := List.mem_of_mem_drop (List.mem_of_mem_take h)
theorem cutD_len {ds : List D} {lo hi : Option Int} : (cutD ds lo hi).length ≤ ds.length := by
  unfold cutD
  rw [List.length_take, List.length_drop]
  omega
theorem cut_from {ds : List D} (k : Nat) : cutD ds (some (k : Int)) none = ds.drop k := by
  unfold cutD
  rw [HT.sIx_nat, HT.sIx_none]
  by_cases h : k ≤ ds.length
  · rw [Nat.min_eq_left h, List.take_of_length_le (by rw [List.length_drop]; omega)]
  · rw [Nat.min_eq_right (by omega), List.drop_eq_nil_of_le (by omega), List.drop_eq_nil_of_le (i := k) (by omega), List.take_nil]
theorem cut_to {ds : List D} (k : Nat) : cutD ds none (some (k : Int)) = ds.take k := by
  unfold cutD
  rw [HT.sIx_nat, HT.sIx_none, List.drop_zero, Nat.sub_zero]
  by_cases h : k ≤ ds.length
  · rw [Nat.min_eq_left h]
  · rw [Nat.min_eq_right (by omega), List.take_of_length_le (Nat.le_refl _), List.take_of_length_le (by omega)]
theorem pl_tup {n : Nat} {ds : List D} (h : ∀ x ∈ ds, pl n x = true) : pl (n + 1) (.tup ds) = true := List.all_eq_true.mpr h
theorem pl_lst {n : Nat} {ds : List D} (h : ∀ x ∈ ds, pl n x = true) : pl (n + 1) (.lst ds) = true := List.all_eq_true.mpr h
theorem pl_app {n : Nat} {a b : List D} (h1 : ∀ x ∈ a, pl n x = true) (h2 : ∀ x ∈ b, pl n x = true) : ∀ x ∈ a ++ b, pl n x = true := fun x h => (List.mem_append.mp h).elim (h1 x) (h2 x)
theorem pl_one {n : Nat} {d : D} (h : pl n d = true) : ∀ x ∈ [d], pl n x = true := fun x hx => by
  rw [List.mem_singleton] at hx
  subst hx
  exact h
theorem cutS_len {z : Str} {lo hi : Option Int} : (cutS z lo hi).length ≤ z.length := by
  unfold cutS Str.length
  simp
  omega
theorem forP_rng {g : XGp} {body : XSp} {P : Po} {I : Nat → List Sl → Prop} (n : Nat)
    (step : ∀ i G (K : List Sl → Prop), i < n → I i G → (∀ G2, I (i + 1) G2 → K G2) → g (.int (i : Int)) G (fun G1 => body G1 { P with nx := K, ct := K, bk := P.nx })) (fin : ∀ G, I n G → P.nx G) : ∀ G, I 0 G → forP g body ((List.range n).map fun (i : Nat) => D.int ((i : Nat) : Int)) G P := by
  intro G h
  refine forP_inv (I := fun es G => ∃ i m, i + m = n ∧ es = (List.range' i m).map (fun (i : Nat) => D.int ((i : Nat) : Int)) ∧ I i G) ?_ ?_ _ _ ⟨0, n, by omega, by rw [List.range_eq_range'], h⟩
  · rintro d ds G K ⟨i, m, e, e2, hI⟩ hK
    cases m with
    | zero => cases e2
    | succ m =>
      obtain ⟨rfl, rfl⟩ := List.cons.inj (show d :: ds = D.int ((i : Nat) : Int) :: (List.range' (i + 1) m).map (fun (i : Nat) => D.int ((i : Nat) : Int)) from e2)
      exact step i G K (by omega) hI fun G2 h2 => hK G2 ⟨i + 1, m, by omega, rfl, h2⟩
  · rintro G ⟨i, m, e, e2, hI⟩
    cases m with
    | zero =>
      obtain rfl : i = n := by omega
      exact fin G hI
    | succ m => cases e2
theorem erase_len : ∀ {l : List Str} {x : Str}, x ∈ l → (l.erase x).length + 1 = l.length
  | a :: l, x, h => by
    by_cases e : a = x
    · subst e
      simp
    · have h2 : x ∈ l := (List.mem_cons.mp h).resolve_left fun z => e z.symm
      rw [List.erase_cons_tail (by simpa using e), List.length_cons, List.length_cons, erase_len h2]
/-- more names than places -/
theorem pigeon : ∀ {xs l : List Str}, xs.Nodup → (∀ x ∈ xs, x ∈ l) → xs.length ≤ l.length
  | [], _, _, _ => Nat.zero_le _
  | x :: xs, l, nd, h => by
    have hx := h x List.mem_cons_self
    obtain ⟨n1, n2⟩ := List.nodup_cons.mp nd
    have := pigeon (xs := xs) (l := l.erase x) n2 fun y hy => by
      have hne : y ≠ x := fun z => n1 (z ▸ hy)
      exact (List.mem_erase_of_ne hne).mpr (h y (List.mem_cons_of_mem _ hy))
    have := erase_len hx
    simp only [List.length_cons]
    omega
end Pu
namespace Pu
open PySem PySem.Spec PyProof.Rows L2
/-! ## an empty dict, an own item appended, defs called within a suite -/
section
variable {B : Bs} {X : Cx} {Wx : WX} {a b c e tg : Expr} {es : List Expr} {pa pb pc : XP} {pos : Pos} {pas : XAp} {st : Stmt} {sts ats bts : List Stmt} {p p2 pp qq : XSp} {qt : XTp} {g : XGp} {gs : XGsp}
theorem xe_dnew : XE B X Wx (.Dict [] [] pos) (rC (.dic [] [])) := by
  refine ⟨_, pe_dnewK, fun S σ H G Q E k O q ke kx => fun d hd => ke _ _ _ (fut_new O.wok hd) ?_ q⟩
  simp only [Rep]
  exact ⟨d, [], rfl, O.wok.new hd, upd_same, rfl, Reps.nil⟩
/-- x.append(x[j]) -/
def rAppI (i : Nat) (j : Int) : XSp := fun G P => match G[i]? with
  | some (.own ds) => match atI ds j with
    | some d => ds.length < 100000 ∧ P.nx (G.set i (.own (ds ++ [d])))
    | none => False
  | _ => False
theorem xs_appI (i : Nat) (j : Int) {x : Str} {px px2 apos cpos ipos spos : Pos} {tj} (hN : X.N[i]? = some x := by rfl) (hv : Vis X.env.scope x := by first | exact Or.inl rfl | exact Or.inr (Or.inl rfl) | exact Or.inr (Or.inr rfl)) (hd : (x == ("__debug__" : Str)) = false := by decide)
    (hcd : (x == ("__classdict__" : Str)) = false := by decide) (hs0 : swapsWith (.Call (.Attribute (.Name x px) "append" apos) [.Subscript (.Name x px2) (.Constant (.int j) tj ipos) spos] [] cpos) none pos.line X.env = pure false := by rfl)
    (hbase : attributeBase (.Name x px) "append" X.env (eval (.Name x px) X.env) = eval (.Name x px) X.env := by rfl)
    (hfew : ((backTo cpos (starEach [.Subscript (.Name x px2) (.Constant (.int j) tj ipos) spos] X.env)).all (fun x => !x.1) && (backToKw cpos (keywordEach [] X.env)).all (fun x => x.1.isSome)
      && decide ([Expr.Subscript (.Name x px2) (.Constant (.int j) tj ipos) spos].length + ([] : List Keyword).length + (if ([] : List Keyword).isEmpty then 0 else 1) < 30)) = true := by rfl)
    (hline : (apos.endLine == cpos.line) = true := by rfl) (hs : starEach [.Subscript (.Name x px2) (.Constant (.int j) tj ipos) spos] X.env = (false, eval (.Subscript (.Name x px2) (.Constant (.int j) tj ipos) spos) X.env) :: starEach [] X.env := by rfl) (hplain : (backTo cpos (starEach [] X.env)).any (·.1) = false := by rfl) :
    XS B X Wx (.Expr (.Call (.Attribute (.Name x px) "append" apos) [.Subscript (.Name x px2) (.Constant (.int j) tj ipos) spos] [] cpos) pos) (rAppI i j) := by
  have hx := pe_ix (X := X) (pos := spos) ix_list (pe_var (pos := px2) hN hv hd hcd) (pe_int (i := j) (j := tj) (pos := ipos)) (fun _ _ => rfl)
  have hp := ps_expr (pe_bm PySem.F.plainAttrs_list PySem.F.slot_list_append PySem.F.type_list_append mt_append (pe_var hN hv hd hcd) (pa_cons hx pa_nil hs) hbase hfew hline hs hplain) hs0
  refine ⟨_, hp, fun S σ H G P D O q k => ?_⟩
  unfold rAppI at q
  cases hg : G[i]? with
  | none => rw [hg] at q; exact q.elim
  | some g =>
    rw [hg] at q
    cases g <;> first | exact False.elim q | skip
    rename_i ds
    dsimp only at q
    cases hx : atI ds j with
    | none => rw [hx] at q; exact q.elim
    | some d =>
      rw [hx] at q
      obtain ⟨o, eo, a, vs, rfl, s1, s2, s3, e1, rr⟩ := O.get hg
      obtain ⟨v, ev, rv⟩ := rr.atI hx
      refine ⟨_, eo, .inl ⟨rfl, vs, SqL.of e1⟩, _, eo, a, vs, j, v, rfl, rfl, SqL.of e1, ev, ?_⟩
      refine ⟨a, vs, v, rfl, rfl, e1, Nat.lt_of_lt_of_le (by rw [rr.len]; exact q.1) (le_line (Nat.le_refl _)), ?_⟩
      refine k.nx S σ _ _ (O.turn (g' := .own (ds ++ [d])) hg rfl eo ⟨a, vs ++ [v], rfl, s1, s2, s3, upd_same, ?_⟩ rfl) q.2
      have rr' := rr.app (Reps.cons rv Reps.nil)
      exact Reps.mono (W := B.W.at S) (S := S) (fun b u n z => ⟨by rw [upd_ne (show b ≠ a from fun y => n (by rw [y]; exact s1))]; exact z, n⟩) _ _ rr'
/-- an own list or a datum becomes a datum -/
def rsFrzL (i : Nat) (a : XSp) : XSp := fun G P => match G[i]? with
  | some (.own ds) => a (G.set i (.d (.lst ds))) P
  | some (.d _) => a G P
  | _ => False
theorem xss_frzL (i : Nat) (h : XSs B X Wx sts pp) : XSs B X Wx sts (rsFrzL i pp) := by
  obtain ⟨t, h, ev⟩ := h.ex
  refine ⟨t, h, fun S σ H G P D O q k => ?_⟩
  unfold rsFrzL at q
  cases hg : G[i]? with
  | none => rw [hg] at q; exact q.elim
  | some g =>
    rw [hg] at q
    cases g <;> first | exact False.elim q | skip
    · exact ev _ σ H _ P D O q k
    · obtain ⟨q', sq, O2⟩ := O.thaw hg
      exact ev _ σ H _ P D O2 q k
end
/-! ### a small def, called where an exception is handled: it raises nothing -/
open L2H in
structure FnC (P : Program) (w : World) (K : PySem.W.Frag) (mg : Str → Option Value) (base : Heap) (k : Nat) (f : Addr) (fd : FuncData) (ps : List Str) (sp : Sp) : Prop where
  len : ∀ vs H Q E, sp vs H Q E → vs.length = ps.length
  run : ∀ (A : Around) (outer : List Env) (s : Shared) (H : Hp) (args : Args) (us : List Value) (vs : List V) (Q : VK) (E : XK) (p : Addr × Obj), RoomH k A → PinOk outer H s p → Env0 P w K mg base A outer s H →
    BindsTo s fd args (ps.zip us) → Vals vs us → sp vs H Q E → codeAny (model P w) A (.call (.ref f) args) (CR CX0 outer P w H s Q E) s
section
variable {P : Program} {w : World} {K : PySem.W.Frag} {mg : Str → Option Value} {base : Heap} {CT : Nat → Addr} {lay : Nat → List Str}
open L2H in
theorem fn_okC {x qual : Str} {st : Stmt} {f : Addr} {fd : FuncData} {N ps : List Str} {k : Nat} {F : DFn} {pb : XSp} (Fn : FunG K x qual st f fd) (Sc : FnScope N ps (defScope st)) (hF : ∀ ds Q E, F ds Q E → ds.length = ps.length ∧ pb (init0 N ds) (fnPo Q fun _ => False))
    (body : ∀ (B : Bs) (cdv : Value) (A : Around) (outer : List Env) (s : Shared) (H : Hp) (E : XK) (p : Addr × Obj), B.W.CT = CT → B.W.lay = lay → B.cur = none → RoomH k (A.deeper (envOfC qual (defScope st) s.heap.objs.size f cdv)) →
      XSs B (cxH CX0 P w K mg base N qual (defScope st) f cdv A outer s H E p) (fun _ _ _ _ => False) (defBody st) pb) : FnC P w K mg base (k + 1) f fd ps (spP CT lay F) := by
  obtain ⟨oc, od, dV, kV, doc, pm, an, cdv, ct, osl, rfl, look, code⟩ := Fn.ex
  have hlen : ∀ vs H Q E, spP CT lay F vs H Q E → vs.length = ps.length := fun vs H Q E h => by
    obtain ⟨L, S, ds, Qd, Ed, _, r, hq, _⟩ := h
    rw [r.len]
    exact (hF ds Qd Ed hq).1
  refine ⟨hlen, fun A outer s H args us vs Q E p hr pin env0 hb r hsp => ?_⟩
  have kin : K.In s.heap := env0.mod.kin.keeps fun b o z => (env0.bs b o z).1
  have nlim : s.heap.NoLimit := env0.mod.nolimit.keeps fun b o z => (env0.bs b o z).1
  have hvl := hlen _ _ _ _ hsp
  refine codeAny_call_function hr.depth (kin _ _ look) rfl Sc.co Sc.gen rfl (PySem.W.codeRec_of kin code) (hb _ _ _ _ (wpAny_newFunctionEnv_cells Sc.kind (fun y hy => ?_) fun env he s1 hc => ?_))
  · rcases Sc.par y.1 (List.of_mem_zip hy).1 with q | q
    · exact .inl q
    · exact .inr ⟨q, PySem.W.cellsFrom_some _ _ _ (.inl q)⟩
  · subst he
    refine ⟨nlim.keeps hc.toInCall.keep, codeAny_func ?_⟩
    obtain ⟨L, S, ds, Qd, Ed, wk, rr, hq, ke, kx⟩ := hsp
    let B : Bs := { W := ⟨CT, lay, L, S⟩, H0 := H }
    obtain ⟨t, h1, h2⟩ := (body B cdv A outer s H E p rfl rfl rfl (hr.deeper _)).ex
    have I := inv_startH (CX := CX0) (E := E) Sc pin env0 hvl r hc
    have hq2 : t { nx := fun _ H' => Q .non H', rt := Q } (L2.start N vs) H := h2 S _ H _ (fnPo Qd fun _ => False) _ (ok_start (B := B) wk rfl rr) (hF ds Qd Ed hq).2 ⟨fun S' σ' H' G' O' q' => ke _ H' _ ⟨O'.ext, fun s l e => (O'.wok.law s l e).1⟩ mkN q', fun S' σ' H' G' v d O' r' q' =>
      ke _ H' _ ⟨O'.ext, fun s l e => (O'.wok.law s l e).1⟩ (Rep.sub (W := B.W.at S') (S := S) r' fun a h => O'.sub a h) q', fun _ _ _ _ _ z => z.elim, fun _ _ _ _ _ z => z.elim, fun _ _ _ _ _ _ _ _ _ z => z.elim⟩
    refine wpAny_mono (h1.run [] s1 (L2.start N vs) H _ I hq2) (fun fl s' hs => ?_) fun e s' hs => hs
    have out : ∀ {σ' : L2.St} {H' : Hp} {v : V} {u : Value}, Inv (cxH CX0 P w K mg base N qual (defScope st) f cdv A outer s H E p) [] σ' H' s' → RelV v u → Q v H' → CE outer P w H s Q u s' := fun {σ' H' v u} J rv q => ⟨v, H', J.os, J.bare, J.base, J.hok, rv, q⟩
    match fl, hs with
    | .ret u, ⟨v, σ', H', J, rv, q⟩ => exact out J rv q
    | .next, ⟨σ', H', J, q⟩ => exact out (v := V.non) (u := Value.none) J rfl q
    | .brk, ⟨_, _, _, q⟩ => exact q.elim
    | .cont, ⟨_, _, _, q⟩ => exact q.elim
structure FnAtC (P : Program) (w : World) (K : PySem.W.Frag) (mg : Str → Option Value) (base : Heap) (CT : Nat → Addr) (lay : Nat → List Str) (k : Nat) (x : Str) (ps : List Str) (F : DFn) : Prop where
  ex : ∃ f fd, FnC P w K mg base k f fd ps (spP CT lay F) ∧ mg x = some (.ref f) ∧ PySem.W.keepIn K (.ref f) = true ∧ Binds K fd ps []
end
section
open L2H
variable {B : Bs} {X : Cx} {Wx : WX} {e : Expr} {es : List Expr} {pos p : Pos} {pas : XAp} {k : Nat} {x : Str} {ps : List Str} {F : DFn}
theorem xe_callC {a : Addr} {oe : Obj} {cls : Value} {d : Option Addr} {pn : List (Addr × Obj)} (h : FnAtC X.prog X.w X.K X.mg X.base B.W.CT B.W.lay k x ps F) (hr : Room k X.A) (ha : XA (B.curr a cls d) (X.suite a ((a, oe) :: pn)) Wx (e :: es) pas)
    (hg : Gl X x := by rfl) (hdb : (x == ("__debug__" : Str)) = false := by decide) (he : starEach (e :: es) X.env = (false, eval e X.env) :: starEach es X.env := by rfl) (hpl : (backTo pos (starEach es X.env)).any (·.1) = false := by rfl) :
    XE (B.curr a cls d) (X.suite a ((a, oe) :: pn)) Wx (.Call (.Name x p) (e :: es) [] pos) (rFn F pas) := by
  obtain ⟨f, fd, F1, hm, hk, hb⟩ := h.ex
  obtain ⟨t, ha, ea⟩ := ha.ex
  refine ⟨tCallS (spP B.W.CT B.W.lay F) (fun σ => fun cls d H => Wx cls d σ H) t, ⟨fun pins s σ H Q I h => ?_⟩, fun S σ H G Q E kk O q ke kx => ea S σ H G _ E _ O q (fun vs H1 ds f1 r1 q1 => ?_) kx⟩
  · refine wpAny_Call_Name_kw (ld_glob I hg hm ?_ hdb)
    refine PySem.W.callWith_K (h₀ := X.base) I.ok.mod.kin hk (thn (ha.run pos pins s σ H _ I h) fun us s1 ⟨vs, H1, I1, rv, q⟩ => ⟨I1.kIn, ?_⟩) he hpl
    have hl : us.length = ps.length := by rw [← rv.length]; exact F1.len _ _ _ _ q
    have bb := hb s1 us I1.kIn (by rw [List.append_nil]; exact hl)
    rw [List.append_nil] at bb
    have pk := I1.pin (a, oe) (List.mem_append_left _ List.mem_cons_self)
    have pin : PinOk X.stack H1 s1 (a, oe) := ⟨pk.1, pk.2.1, fun z => (List.mem_cons.mp (I1.stkSub a z)).elim pk.2.2.1 pk.2.2.2.1, pk.2.2.2.2⟩
    refine wpAny_call (codeAny_mono (F1.run _ X.stack s1 H1 ⟨us, []⟩ us vs Q _ (a, oe) ⟨hr.dp, hr.un⟩ pin I1.env0 bb rv q) fun r s' hq => ?_)
    match r, hq with
    | .ok (.ret u), hq => exact I1.after hq
    | .ok .next, hq => exact hq.elim
    | .ok .brk, hq => exact hq.elim
    | .ok .cont, hq => exact hq.elim
    | .error _, hq => exact hq.elim
  · exact ⟨B.W.L, S, ds, Q, E, O.wok.fut f1, r1, q1, ke.fut f1, kx.fut f1⟩
end
end Pu
namespace Pu
open PySem PySem.Spec PyProof.Rows L2
/-! ## exceptions held as values -/
section
variable {B : Bs} {X : Cx} {Wx : WX} {a b c e o : Expr} {es : List Expr} {pa pb pc : XP} {pos p p2 apos : Pos} {pas : XAp} {k : Nat} {x m f n : Str} {ps : List Str} {F : DFn}
theorem repX {W : Wd} {H : Hp} {c : Nat} {ds : List D} {v : V} (h : Rep W H (.exn c ds) v) : ∃ a dd vs, v = .ref a ∧ ¬ W.S a ∧ H a = some (exo a (W.CT c) dd) ∧ vs.length = (W.lay c).length ∧ ((dd = none ∧ vs = []) ∨ ∃ dx fs, dd = some dx ∧ ¬ W.S dx ∧ H dx = some (exd dx fs) ∧ (∀ (i : Nat) (f : Str) (x : V), (W.lay c)[i]? = some f → vs[i]? = some x → fs.lookup f = some x) ∧ ∀ f, f ∉ W.lay c → fs.lookup f = none) ∧ Reps W H ds vs := by simpa only [Rep] using h
/-- at a: an exception of the class at C, as an object -/
def ExA (H : Hp) (a C : Addr) (fo : Option (List (Str × V))) : Prop := ∃ dd, H a = some (exo a C dd) ∧ ((dd = none ∧ fo = none) ∨ ∃ dx fs, dd = some dx ∧ H dx = some (exd dx fs) ∧ fo = some fs)
theorem ExA.inst {pins : List (Addr × Obj)} {σ : L2.St} {H : Hp} {s : Shared} {a C : Addr} {fo : Option (List (Str × V))} (I : Inv X pins σ H s) (h : ExA H a C fo) :
    ∃ ox od, PySem.W.InstAt s.heap a ox C od ∧ match fo, od with | none, none => True | some fs, some od => ∀ g, ∃ r, PySem.W.lookIn g od = some r ∧ RelO (fs.lookup g) r | _, _ => False := by
  obtain ⟨dd, e, q⟩ := h
  obtain ⟨t1, ho⟩ := exo_at I.hok e
  rcases q with ⟨rfl, rfl⟩ | ⟨dx, fs, rfl, e2, rfl⟩
  · exact ⟨_, none, ⟨ho, rfl, rfl, True.intro⟩, True.intro⟩
  · obtain ⟨mA, hns, rel⟩ := exd_at I.hok e2
    obtain ⟨od, hd, hl⟩ := lookIn_ns hns
    exact ⟨_, some od, ⟨ho, rfl, rfl, hd⟩, fun g => ⟨_, hl g, rel g⟩⟩
/-! made -/
def tMkV (C : Addr) (sp : Sp) (Wx : WX) (ta : TA) : TE := fun σ H Q => ta σ H fun vs H1 => vs.length ≤ 1000 ∧ ∀ a, H1 a = none → sp (.ref a :: vs) (upd H1 a (exo a C none)) (fun v H2 => v = .non ∧ Q (.ref a) H2) (WE Wx σ)
def rMkV (cn n : Nat) (as : XAp) : XP := fun G Q E => as G (fun ds => ds.length = n ∧ n ≤ 1000 ∧ Q (.exn cn ds)) E
theorem pe_mkV {CX : CXT} {C fI : Addr} {fd : FuncData} {sp : Sp} {ta : TA} (T : OexC X.K C) (iC : PySem.W.findIn X.K (.ref C) "__init__" = some (some (.ref fI))) (tI : PySem.W.typeIn X.K (.ref fI) = some (.type "function"))
    (F1 : FnOk X.prog X.w X.K X.mg X.base CX k fI fd ps sp) (hr : Room (k + 1) X.A) (hb : Binds X.K fd ps []) (hx : ∀ σ, PassesAt CX X σ (WE Wx σ)) (hg : Gl X x) (hm : X.mg x = some (.ref C)) (ha : PA X (e :: es) ta)
    (hdb : (x == ("__debug__" : Str)) = false := by decide) (he : starEach (e :: es) X.env = (false, eval e X.env) :: starEach es X.env := by rfl) (hpl : (backTo pos (starEach es X.env)).any (·.1) = false := by rfl) :
    PE X (.Call (.Name x p) (e :: es) [] pos) (tMkV C sp Wx ta) := by
  refine ⟨fun pins s σ H Q I h => ?_⟩
  obtain ⟨nm, q, N, bs, bm, sn, sub, ab, col, dd, k0, k1, k2, k3, k5, hC, hbm⟩ := T.cls
  refine wpAny_Call_Name_kw (ld_glob I hg hm ?_ hdb)
  refine PySem.W.callWith_K (h₀ := X.base) I.ok.mod.kin T.kC (thn (ha.run pos pins s σ H _ I h) fun us s1 ⟨vs, H1, I1, r1, hz, q1⟩ => ⟨I1.kIn, ?_⟩) he hpl
  show wpAny _ _ (call (.ref C) us) _ _ _
  obtain ⟨hp, g, dr, tk, os⟩ := s1
  have hsz : hp.objs.size ≤ hp.objs.size + 1 := Nat.le_succ _
  have hn : H1 (hp.objs.size + 1) = none := I1.hok.fresh hsz
  have hq := q1 (hp.objs.size + 1) hn
  have kk : ∀ b o, hp.get? b = some o → ((hp.push (PySem.W.kdv_tup us)).push (PySem.HandSPX.excO C hp.objs.size)).get? b = some o := fun b o e => Heap.get?_push_of_some _ (Heap.get?_push_of_some _ e)
  have hget : ((hp.push (PySem.W.kdv_tup us)).push (PySem.HandSPX.excO C hp.objs.size)).get? (hp.objs.size + 1) = some (PySem.HandSPX.excO C hp.objs.size) := by heap_get
  have I2 : Inv X pins σ (upd H1 (hp.objs.size + 1) (exo (hp.objs.size + 1) C none)) ⟨(hp.push (PySem.W.kdv_tup us)).push (PySem.HandSPX.excO C hp.objs.size), g, dr, tk, os⟩ :=
    I1.laid (t' := tk) (a := hp.objs.size + 1) (o := exo (hp.objs.size + 1) C none) (h' := (hp.push (PySem.W.kdv_tup us)).push (PySem.HandSPX.excO C hp.objs.size)) kk hsz (exo_ok hget)
  have r2 : Vals (V.ref (hp.objs.size + 1) :: vs) (Value.ref (hp.objs.size + 1) :: us) := .cons rfl r1
  have hl : (Value.ref (hp.objs.size + 1) :: us).length = ps.length := by
    have e := r2.length
    rw [F1.len _ _ _ _ hq] at e
    exact e.symm
  have hus : us.length ≤ sizeLine := by
    rw [← Paired.length r1, sizeLine_eq]
    omega
  have bb := hb (⟨(hp.push (PySem.W.kdv_tup us)).push (PySem.HandSPX.excO C hp.objs.size), g, dr, tk, os⟩ : Shared) (Value.ref (hp.objs.size + 1) :: us) I2.kIn (by rw [List.append_nil]; exact hl)
  rw [List.append_nil] at bb
  refine wpAny_call (PySem.HandSPX.call_own F.excBase_ValueError (fun Y => PySem.HandSPX.refsVE_contains Y bm hbm) (I1.kIn _ _ hC) (PySem.W.looks_findIn I1.kIn iC) (fun self => PySem.W.bind_fn I1.kIn self tI) hus
    (codeAny_mono (F1.run _ X.stack _ _ ⟨Value.ref (hp.objs.size + 1) :: us, []⟩ (Value.ref (hp.objs.size + 1) :: us) _ _ (WE Wx σ) (hr.make C us []) (I2.env0.make C us []) bb r2 hq) fun r s' hq' => ?_))
  cases r with
  | error er => exact hx σ pins _ _ er s' I2 hq'
  | ok fl =>
    cases fl with
    | ret u =>
      obtain ⟨v, H', I3, rv, ev, q3⟩ := I2.after hq'
      subst ev
      exact ⟨rv, ⟨V.ref (hp.objs.size + 1), H', I3, rfl, q3⟩⟩
    | next => exact False.elim hq'
    | brk => exact False.elim hq'
    | cont => exact False.elim hq'
theorem xe_mkV {cn n : Nat} (h : XnAt X.prog X.w X.K X.mg X.base B.W.CT B.W.lay k x cn ps) (hr : Room (k + 1) X.A) (hn : (B.W.lay cn).length = n) (tk : Takes X Wx) (ha : XA B X Wx (e :: es) pas) (hg : Gl X x := by rfl)
    (hdb : (x == ("__debug__" : Str)) = false := by decide) (he : starEach (e :: es) X.env = (false, eval e X.env) :: starEach es X.env := by rfl) (hpl : (backTo pos (starEach es X.env)).any (·.1) = false := by rfl) :
    XE B X Wx (.Call (.Name x p) (e :: es) [] pos) (rMkV cn n pas) := by
  obtain ⟨fI, fd, T, iC, tI, F1, b1, m1⟩ := h.ex
  obtain ⟨t, ha, ea⟩ := ha.ex
  refine ⟨tMkV (B.W.CT cn) (spX (B.W.CT cn) (B.W.lay cn)) Wx t, pe_mkV T iC tI F1 hr b1 (fun σ => passAt tk σ) hg m1 ha hdb he hpl, fun S σ H G Q E kk O q ke kx => ea S σ H G _ E _ O q (fun vs H1 ds f r h => ?_) kx⟩
  obtain ⟨h1, h2, h3⟩ := h
  have w1 := O.wok.fut f
  have hlen : vs.length = n := by rw [r.len]; exact h1
  refine ⟨by rw [hlen]; exact h2, fun a na => ⟨a, vs, rfl, by rw [hlen, hn], upd_same, fun H' dx fs sm ndx ne e1 e2 look nol => ?_⟩⟩
  have ndx' : H1 dx = none := by rw [upd_ne ne] at ndx; exact ndx
  have sm' : Same H1 H' := fun b o e => by
    have h2 : b ≠ a := ne_of_none e na
    exact sm b o (by rw [upd_ne h2]; exact e) h2
  have g := Fut.same w1 sm'
  refine ⟨rfl, ke _ H' (.exn cn ds) (f.trans g) ?_ h3⟩
  simp only [Rep]
  exact ⟨a, some dx, vs, rfl, w1.new na, e1, by show vs.length = (B.W.lay cn).length; rw [hlen, hn], .inr ⟨dx, fs, rfl, w1.new ndx', e2, look, nol⟩, r.fut w1 g⟩
theorem pe_mkV0 {C : Addr} {bmB : List Value} {Bn newId initId : String} (F : ExcBaseFacts Bn newId initId bmB) (q : PySem.W.excIn X.K C bmB newId = true) (gC : X.mg x = some (.ref C)) (kC : PySem.W.keepIn X.K (.ref C) = true) (hg : Gl X x)
    (hdb : (x == ("__debug__" : Str)) = false := by decide) : PE X (.Call (.Name x p) [] [] pos) (fun _ H Q => ∀ a, H a = none → Q (.ref a) (upd H a (exo a C none))) := by
  refine ⟨fun pins s σ H Q I h => ?_⟩
  refine wpAny_Call_Name_kw (ld_glob I hg gC ?_ hdb)
  refine PySem.W.callWith_K0 I.kIn kC ?_
  obtain ⟨bm, N, nm, qn, bs, hdct, sn, sub, ab, col, dd, k0, k1, k2, k3, k5, mN, hC, hN, hni, T⟩ := exc_obj I.kIn q
  refine wpAny_call_exc_subT F T hC hN hni (fun h' a hm => ?_) (by show 0 ≤ sizeLine; omega)
  have hn : H a = none := I.hok.gone hm.new
  obtain ⟨t, ht, _, _⟩ := hm.there
  exact ⟨.ref a, upd H a (exo a C none), I.laidN hm.keeps hm.new hn (exo_ok ht), rfl, h a hn⟩
theorem xe_mkV0 {cn : Nat} (h : XnAt0 X.K X.mg B.W.CT B.W.lay x cn) (hg : Gl X x := by rfl) (hdb : (x == ("__debug__" : Str)) = false := by decide) : XE B X Wx (.Call (.Name x p) [] [] pos) (rC (.exn cn [])) := by
  obtain ⟨bmB, Bn, n1, n2, F, q, m1, kc, s1, t1, hl⟩ := h.ex
  refine ⟨_, pe_mkV0 F q m1 kc hg hdb, fun S σ H G Q E kk O q ke kx => fun a na => ?_⟩
  have g : Fut (B.W.at S) H (upd H a (exo a (B.W.CT cn) none)) := fut_new O.wok na
  refine ke _ _ (.exn cn []) g ?_ q
  simp only [Rep]
  exact ⟨a, none, [], rfl, O.wok.new na, upd_same, by show 0 = (B.W.lay cn).length; rw [hl]; rfl, .inl ⟨rfl, rfl⟩, Reps.nil⟩
/-! a field -/
def rFX (tb : List (Nat × Nat)) (a : XP) : XP := fun G Q E => a G (fun d => match d with
  | .exn c ds => match tb.lookup c with
    | some j => match ds[j]? with
      | some x => Q x
      | none => False
    | none => False
  | _ => False) E
theorem pe_fxV {te : TE} (he : PE X e te) (hb : attributeBase e f X.env (eval e X.env) = eval e X.env := by rfl) :
    PE X (.Attribute e f pos) (fun σ H Q => te σ H fun x H1 => ∃ a C fs v, x = .ref a ∧ XfC X.K C ∧ PySem.W.findIn X.K (.ref C) f = some none ∧ ExA H1 a C (some fs) ∧ fs.lookup f = some v ∧ Q v H1) := by
  refine ⟨fun pins s σ H Q I h => ?_⟩
  refine attr_of hb (thn (he.run pins s σ H _ I h) fun u s1 hh => ?_)
  obtain ⟨x, H1, I1, rx, a, C, fs, v, ex, T, hno, ea, l, q⟩ := hh
  subst ex
  obtain rfl : u = Value.ref a := rx
  obtain ⟨ox, od, J, hl⟩ := ea.inst I1
  cases od with
  | none => exact hl.elim
  | some od =>
    obtain ⟨r, hr, rel⟩ := hl f
    obtain ⟨u, hu, ru⟩ := RelO.some_of (v := v) (o := r) (by rw [← l]; exact rel)
    exact HandSPX.exc_get I1.kIn J T.ga T.gg T.exC (PySem.W.findObj_own T.hdC hno rfl (by rw [hr, hu])) (handed_of ru) ⟨v, H1, I1.tok _, ru, q⟩
theorem xe_fxV {tb : List (Nat × Nat)} (T : XfOk X.K B.W.CT B.W.lay f tb) (ha : XE B X Wx e pa) (hb : attributeBase e f X.env (eval e X.env) = eval e X.env := by rfl) :
    XE B X Wx (.Attribute e f pos) (rFX tb pa) := by
  obtain ⟨t, ha, ea⟩ := ha.ex
  refine ⟨_, pe_fxV ha hb, fun S σ H G Q E k O q ke kx => ea S σ H G _ E _ O q (fun v H1 d f1 r1 q1 => ?_) kx⟩
  cases d <;> first | exact False.elim q1 | skip
  rename_i c ds
  dsimp only at q1
  cases hm : tb.lookup c with
  | none => rw [hm] at q1; exact q1.elim
  | some j =>
    rw [hm] at q1
    dsimp only at q1
    obtain ⟨k1, k2, k3⟩ := T _ (lookup_mem hm)
    cases hx : ds[j]? with
    | none => rw [hx] at q1; exact q1.elim
    | some y =>
      rw [hx] at q1
      obtain ⟨a, dd, vs, rfl, n, e1, l, e3, rr⟩ := repX r1
      obtain ⟨v, ev, rv⟩ := rr.get hx
      rcases e3 with ⟨_, rfl⟩ | ⟨dx, fs, ed, n2, eh, lk, _⟩
      · simp at ev
      · exact ⟨a, _, fs, v, rfl, k1, k2, ⟨dd, e1, .inr ⟨dx, fs, ed, eh, rfl⟩⟩, lk j f v k3 ev, ke v H1 y f1 rv q1⟩
/-! isinstance -/
def rIV (tb : List (Nat × Bool)) (a : XP) : XP := fun G Q E => a G (fun d => match d with
  | .exn c _ => match tb.lookup c with
    | some b => Q (.bl b)
    | none => False
  | _ => False) E
def rIsV (K : PySem.W.Frag) : List V → Hp → VK → Prop := fun xs H Q => ∃ (a : Addr) (c : V) (cv : Value) (b : Bool) (D : Addr) (fo : Option (List (Str × V))), xs = [.ref a, c] ∧ ExcC K D ∧ ExA H a D fo ∧ (∀ u, RelV c u → u = cv) ∧ PySem.W.kitOne K (.ref D) cv = some b ∧ Q (.bl b) H
theorem call_isV : CallR X (.builtin "isinstance") (rIsV X.K) := by
  intro pins s σ H xs us Q I r h
  obtain ⟨a, c, cv, b, D, fo, rfl, C, ea, hcv, e, q⟩ := h
  cases r with
  | cons rx rr =>
    cases rr with
    | cons rt rr =>
      cases rr
      cases rx
      have ec := hcv _ rt
      subst ec
      obtain ⟨ox, od, J, _⟩ := ea.inst I
      have hcl : (PySem.W.clsIn X.K D).isSome = true := by
        obtain ⟨cd, hc, _⟩ := PySem.W.any_some C.hd
        rw [hc]
        rfl
      exact PySem.W.kia_one (PySem.W.kitx_exc hcl C.hg C.hk C.hs C.ha C.hn C.ht C.hm) I.kIn J e (fun z => nomatch z) fun tk => ⟨.bl b, H, I.kept (t' := tk) fun _ _ z => z, rfl, q⟩
theorem ExA.of {W : Wd} {H : Hp} {c : Nat} {ds : List D} {v : V} (h : Rep W H (.exn c ds) v) : ∃ a fo, v = .ref a ∧ ExA H a (W.CT c) fo ∧ ∀ g, g ∉ W.lay c → ∀ fs, fo = some fs → fs.lookup g = none := by
  obtain ⟨a, dd, vs, rfl, n, e1, l, e3, rr⟩ := repX h
  rcases e3 with ⟨rfl, _⟩ | ⟨dx, fs, rfl, n2, eh, lk, no⟩
  · exact ⟨a, none, rfl, ⟨none, e1, .inl ⟨rfl, rfl⟩⟩, fun _ _ _ z => nomatch z⟩
  · exact ⟨a, some fs, rfl, ⟨some dx, e1, .inr ⟨dx, fs, rfl, eh, rfl⟩⟩, fun g hg fs' z => by cases z; exact no g hg⟩
theorem xe_isV {v : V} {cv : Value} {tb : List (Nat × Bool)} (T : IsxT X.K B.W.CT cv tb)
    (hm : X.mg n = none) (hbo : bootBuiltins n = some (.builtin "isinstance")) (hcv : ∀ u, RelV v u → u = cv) (ha : XE B X Wx a pa) (hb : XE B X Wx b (rC (.val v)))
    (hg : Gl X n := by rfl) (hn : n ≠ "__name__" := by decide) (hdb : (n == ("__debug__" : Str)) = false := by decide)
    (he : starEach [a, b] X.env = (false, eval a X.env) :: starEach [b] X.env := by rfl) (he2 : starEach [b] X.env = (false, eval b X.env) :: starEach [] X.env := by rfl) (hpl : (backTo pos (starEach [b] X.env)).any (·.1) = false := by rfl) :
    XE B X Wx (.Call (.Name n p2) [a, b] [] pos) (rIV tb pa) := by
  obtain ⟨ta, ha, ea⟩ := ha.ex
  obtain ⟨t2, hb, eb⟩ := hb.ex
  refine ⟨_, pe_callB call_isV hg hm hbo (pa_cons ha (pa_cons hb pa_nil he2) he) hn hdb he hpl, fun S σ H G Q E k O q ke kx => ea S σ H G _ E _ O q (fun u H1 d f1 r1 q1 => ?_) kx⟩
  cases d <;> first | exact False.elim q1 | skip
  rename_i c ds
  dsimp only at q1
  cases hm : tb.lookup c with
  | none => rw [hm] at q1; exact q1.elim
  | some bb =>
    rw [hm] at q1
    obtain ⟨k1, k2⟩ := T _ (lookup_mem hm)
    refine eb S σ H1 G (fun y => y = .val v) E _ (O.fut f1) rfl (fun w H2 dw f2 r2 q2 => ?_) (kx.fut f1)
    subst q2
    simp only [Rep] at r2
    subst r2
    obtain ⟨a', fo, rfl, x1, _⟩ := ExA.of (r1.fut (O.wok.fut f1) f2)
    exact ⟨a', _, cv, bb, _, fo, rfl, k1, x1, hcv, k2, ke _ H2 _ (f1.trans f2) mkB q1⟩
/-! a method without arguments -/
structure MXnt (P : Program) (w : World) (K : PySem.W.Frag) (mg : Str → Option Value) (base : Heap) (CT : Nat → Addr) (lay : Nat → List Str) (k : Nat) (m : Str) (n : Nat) (q : Nat × DFn) : Prop where
  ex : ∃ f fd ps, XfC K (CT q.1) ∧ Meth K (CT q.1) m f ∧ FnOk P w K mg base (L2.CX P w) k f fd ps (spP CT lay q.2) ∧ Binds K fd ps [] ∧ m ∉ lay q.1 ∧ ps.length = n + 1
def rMethX (tbl : List (Nat × DFn)) (a : XP) : XP := fun G Q E => a G (fun d => match d with
  | .exn c ds => match tbl.lookup c with
    | some F => F [.exn c ds] Q E
    | none => False
  | _ => False) E
theorem xe_methX0 {pl : Sem Bool} {tbl : List (Nat × DFn)} {n : Nat} (M : ∀ q ∈ tbl, MXnt X.prog X.w X.K X.mg X.base B.W.CT B.W.lay k m n q) (hr : Room k X.A) (tk : Takes X Wx) (ho : XE B X Wx o pa)
    (ht : eval (.Call (.Attribute o m apos) [] [] pos) X.env = (do
      let ov ← eval o X.env
      standAt apos.atName
      let (f, first) ← holding [ov] (getMethod ov m pl)
      callWith pos f first (backTo pos (starEach [] X.env)) (backToKw pos (keywordEach [] X.env))) := by rfl) :
    XE B X Wx (.Call (.Attribute o m apos) [] [] pos) (rMethX tbl pa) := by
  obtain ⟨ta, hta, ea⟩ := ho.ex
  refine ⟨fun σ H Q => ta σ H fun x H1 => ∃ a fo q, q ∈ tbl ∧ x = .ref a ∧ ExA H1 a (B.W.CT q.1) fo ∧ (∀ fs, fo = some fs → fs.lookup m = none) ∧ spP B.W.CT B.W.lay q.2 [x] H1 Q (WE Wx σ), ⟨fun pins s σ H Q I h => ?_⟩, fun S σ H G Q E kk O q ke kx => ea S σ H G _ E _ O q (fun v H1 d f1 r1 q1 => ?_) kx⟩
  · refine PySem.W.methodCall_KW (pl := pl) (thn (hta.run pins s σ H _ I h) fun u s1 ⟨x, H1, I1, rx, a, fo, q, hq, ex, ea, hno, q9⟩ => ?_) ht
    subst ex
    obtain rfl : u = Value.ref a := rx
    obtain ⟨f, fd, ps, c1, m1, F1, b1, _⟩ := (M q hq).ex
    obtain ⟨ox, od, J, hl⟩ := ea.inst I1
    obtain ⟨mm, fr⟩ := I1.fr
    refine PySem.W.method_exc fr I1.ok.mod.kin J c1.ga c1.gg m1.at_ m1.fn ?_ ?_
    · cases fo with
      | none =>
        cases od with
        | none => rfl
        | some _ => exact hl.elim
      | some fs =>
        cases od with
        | none => exact hl.elim
        | some od =>
          obtain ⟨r, hr, rel⟩ := hl m
          rw [hno fs rfl] at rel
          have : r = none := RelO.none_of rel
          show (PySem.W.lookIn m od).map (·.isSome) = some false
          rw [hr, this]
          rfl
    · exact PySem.W.callWith_K0 (first := [.ref a]) I1.kIn m1.kp (run_pass (us := [.ref a]) (vs := [.ref a]) (E := WE Wx) F1 hr b1 (passAt tk σ) I1 (.cons rfl .nil) q9)
  · cases d <;> first | exact False.elim q1 | skip
    rename_i cc ds
    dsimp only at q1
    cases hl : tbl.lookup cc with
    | none => rw [hl] at q1; exact q1.elim
    | some F =>
      rw [hl] at q1
      dsimp only at q1
      have hm := lookup_mem hl
      obtain ⟨f, fd, ps, c1, m1, F1, b1, nf, _⟩ := (M _ hm).ex
      obtain ⟨a, fo, rfl, x1, no⟩ := ExA.of r1
      exact ⟨a, fo, (cc, F), hm, rfl, x1, no m nf, B.W.L, S, [.exn cc ds], Q, E, O.wok.fut f1, Reps.cons r1 Reps.nil, q1, ke.fut f1, kx.fut f1⟩
/-! ## {x: i} -/
theorem xe_dict1 {x : Str} {i : Int} {j1 j2} {q1 q2 : Pos} : XE B X Wx (.Dict [some (.Constant (.str x) j1 q1)] [.Constant (.int i) j2 q2] pos) (rC (.dic [.inr x] [.int i])) := by
  refine ⟨_, pe_disp (pps_cons pe_str pe_int pps_nil) rfl rfl (by simp) (by show 1 ≤ 15; decide), fun S σ H G Q E k O q ke kx => ?_⟩
  intro a na
  refine ⟨upd_same, [(.inr x, .int i)], rfl, by show 1 ≤ 15; decide, ?_⟩
  have g : Fut (B.W.at S) H (upd (upd H a (.dK [])) a (.dK (mergeK [] [(.inr x, .int i)]))) := Fut.same O.wok fun b o e => by
    have n := ne_of_none e na
    rw [upd_ne n, upd_ne n]; exact e
  refine ke _ _ (.dic [.inr x] [.int i]) g ?_ q
  simp only [Rep]
  exact ⟨a, [.int i], rfl, O.wok.new na, upd_same, rfl, Reps.cons mkI Reps.nil⟩
/-! ## a dict of one text compared with another one of this text -/
def rEqDic (neg : Bool) : R2 := fun x y H Q => ∃ (a b : Addr) (k : Key) (u w : V) (W : Wd) (d e : D), x = .ref a ∧ y = .ref b ∧ H a = some (.dK [(k, u)]) ∧ H b = some (.dK [(k, w)]) ∧ pl 40 d = true ∧ pl 40 e = true ∧ Rep W H d u ∧ Rep W H e w ∧ Q (.bl (if neg then !deq d e else deq d e)) H
theorem dic1 {pins : List (Addr × Obj)} {σ : L2.St} {H : Hp} {s : Shared} {a : Addr} {k : Key} {u : V} (I : Inv X pins σ H s) (e : H a = some (.dK [(k, u)])) : (a == sysModules) = false ∧ ∃ u', RelV u u' ∧ s.heap.DictOf (mixKind X.prog X.w) a [(k, u')] := by
  obtain ⟨z, hd, vs, r, dd⟩ := dk_of I.hok e
  unfold KV at r
  cases r with
  | cons h t =>
    cases t
    rename_i q
    obtain ⟨k', u'⟩ := q
    obtain ⟨rfl, h2⟩ := h
    exact ⟨hd, u', h2, dd⟩
theorem op_eqDic (hu : X.A.units + 64 < cLine) : OpR X (compareOp .Eq) (rEqDic false) := by
  intro pins s σ H x y v u Q I rx ry h
  obtain ⟨a, b, k, u1, w1, W, d, e, rfl, rfl, e1, e2, p1, p2, r1, r2, q⟩ := h
  cases rx
  cases ry
  obtain ⟨n1, u', ru, D1⟩ := dic1 I e1
  obtain ⟨n2, w', rw', D2⟩ := dic1 I e2
  refine PySem.W.keq_eq (r := deq d e && true) n1 n2 D1 D2 (by omega) (fun _ => .hit (y := w') (by simp [valueAt]) (eqAtD I 40 d e X.A.in1 _ _ _ _ p1 p2 r1 r2 ru rw' (by show X.A.units + 1 + 40 < cLine; omega)) .nil) ?_
  refine ⟨.bl _, H, I, ?_, q⟩
  show Value.bool _ = Value.bool _
  simp
theorem op_neDic (hu : X.A.units + 64 < cLine) : OpR X (compareOp .NotEq) (rEqDic true) := by
  intro pins s σ H x y v u Q I rx ry h
  obtain ⟨a, b, k, u1, w1, W, d, e, rfl, rfl, e1, e2, p1, p2, r1, r2, q⟩ := h
  cases rx
  cases ry
  obtain ⟨n1, u', ru, D1⟩ := dic1 I e1
  obtain ⟨n2, w', rw', D2⟩ := dic1 I e2
  refine PySem.W.keq_ne (r := deq d e && true) n1 n2 D1 D2 (by omega) (fun _ => .hit (y := w') (by simp [valueAt]) (eqAtD I 40 d e X.A.in1 _ _ _ _ p1 p2 r1 r2 ru rw' (by show X.A.units + 1 + 40 < cLine; omega)) .nil) ?_
  refine ⟨.bl _, H, I, ?_, q⟩
  show Value.bool _ = Value.bool _
  simp
def oDic (neg : Bool) : DOp := fun x y Q _ => match x, y with
  | .dic [k] [d], .dic [k'] [e] => k = k' ∧ pl 40 d = true ∧ pl 40 e = true ∧ Q (.bl (if neg then !deq d e else deq d e))
  | _, _ => False
theorem oDic_elim {neg : Bool} {x y : D} {Q : D → Prop} {E : Exn → Prop} (h : oDic neg x y Q E) : ∃ k d e, x = .dic [k] [d] ∧ y = .dic [k] [e] ∧ pl 40 d = true ∧ pl 40 e = true ∧ Q (.bl (if neg then !deq d e else deq d e)) := by
  unfold oDic at h
  split at h
  · obtain ⟨rfl, h⟩ := h
    exact ⟨_, _, _, rfl, rfl, h⟩
  · exact h.elim
theorem repD1 {W : Wd} {H : Hp} {k : Key} {d : D} {v : V} (h : Rep W H (.dic [k] [d]) v) : ∃ a u, v = .ref a ∧ H a = some (.dK [(k, u)]) ∧ Rep W H d u := by
  simp only [Rep] at h
  obtain ⟨a, vs, rfl, n, e, l, r⟩ := h
  obtain ⟨u, rfl, r1⟩ := reps1 r
  exact ⟨a, u, rfl, e, r1⟩
theorem xo_dic {f : Value → Value → Sem Value} {neg : Bool} (h : OpR X f (rEqDic neg)) : XO B X Wx f (oDic neg) := .of h fun S H x y dx dy Q E k w r1 r2 q ke => by
  obtain ⟨kk, d, e, rfl, rfl, p1, p2, q⟩ := oDic_elim q
  obtain ⟨a, u, rfl, e1, q1⟩ := repD1 r1
  obtain ⟨b, w', rfl, e2, q2⟩ := repD1 r2
  exact ⟨a, b, kk, u, w', _, d, e, rfl, rfl, e1, e2, p1, p2, q1, q2, ke _ H _ (Fut.refl w) mkB q⟩
def oEqK : DOp := fun x y Q E => oEq x y Q E ∨ oDic false x y Q E
def oNeK : DOp := fun x y Q E => oNe x y Q E ∨ oDic true x y Q E
theorem xo_eqK {k : Nat} (hr : Room k X.A) : XO B X Wx (compareOp .Eq) oEqK := (xo_eq hr).or (xo_dic (op_eqDic hr.units))
theorem xo_neK {k : Nat} (hr : Room k X.A) : XO B X Wx (compareOp .NotEq) oNeK := (xo_ne hr).or (xo_dic (op_neDic hr.units))
/-! ## a list times an int -/
def oRep : DOp := fun x y Q _ => match x, y with
  | .lst ds, .int i => 0 ≤ i ∧ i < 1000 ∧ ds.length ≤ 100 ∧ Q (.lst (List.replicate i.toNat ds).flatten)
  | _, _ => False
theorem reps_rep {W : Wd} {H : Hp} {ds : List D} {vs : List V} (r : Reps W H ds vs) : ∀ n : Nat, Reps W H (List.replicate n ds).flatten (List.replicate n vs).flatten
  | 0 => Reps.nil
  | n + 1 => by
    rw [List.replicate_succ, List.replicate_succ, List.flatten_cons, List.flatten_cons]
    exact r.app (reps_rep r n)
theorem xo_rep : XO B X Wx (binaryOp .Mult) oRep := .of op_rep fun S H x y dx dy Q E k w r1 r2 q ke => by
  cases dx <;> cases dy <;> first | exact False.elim q | skip
  rename_i ds i
  obtain ⟨h1, h2, h3, q⟩ := q
  obtain ⟨a, vs, rfl, n, e, z⟩ := repL r1
  have hl : vs.length ≤ 100 := by rw [z.len]; exact h3
  refine ⟨a, i, vs, rfl, repI r2, e, by omega, by omega, ?_, fun p hp => ?_⟩
  · have h4 : i.toNat ≤ 1000 := by omega
    have := Nat.mul_le_mul hl h4
    rw [sizeLine_eq]
    omega
  · exact ke _ _ _ (fut_new w hp) (mkL (w.new hp) upd_same ((reps_rep z i.toNat).fut w (fut_new w hp))) q
end
end Pu
namespace Pu
open PySem PySem.Spec PyProof.Rows L2
/-! ## steps for exceptions held as values -/
section
variable {G : List Sl} {P : Po} {Q : D → Prop} {QL : List D → Prop} {E : Exn → Prop} {a b e : XP} {l : XAp} {i n c k : Nat} {d x y : D} {ds es : List D} {m : List (Nat × Nat)}
theorem rd_mkV1 (h : a G (fun x => Q (.exn c [x])) E) : rMkV c 1 (rCons a rNil) G Q E := by
  show a G _ E
  have e : (fun x => ([x] : List D).length = 1 ∧ 1 ≤ 1000 ∧ Q (.exn c [x])) = fun x => Q (.exn c [x]) := by
    funext x
    simp
  exact e ▸ h
theorem rd_mkV2 (h : a G (fun x => b G (fun y => Q (.exn c [x, y])) E) E) : rMkV c 2 (rCons a (rCons b rNil)) G Q E := by
  show a G (fun x => b G (fun y => ([x, y] : List D).length = 2 ∧ 2 ≤ 1000 ∧ Q (.exn c [x, y])) E) E
  have e : (fun x => b G (fun y => ([x, y] : List D).length = 2 ∧ 2 ≤ 1000 ∧ Q (.exn c [x, y])) E) = fun x => b G (fun y => Q (.exn c [x, y])) E := by
    funext x
    have e2 : (fun y => ([x, y] : List D).length = 2 ∧ 2 ≤ 1000 ∧ Q (.exn c [x, y])) = fun y => Q (.exn c [x, y]) := by
      funext y
      simp
    rw [e2]
  exact e ▸ h
theorem rd_ivV {tb : List (Nat × Bool)} {bb : Bool} (hg : G[i]? = some (.d (.exn c ds))) (hm : tb.lookup c = some bb) (h : Q (.bl bb)) : rIV tb (rVar i) G Q E := by
  show rVar i G _ E
  refine rd_var hg ?_
  dsimp only
  rw [hm]
  exact h
theorem rd_mxV {tbl : List (Nat × DFn)} {F : DFn} (hg : G[i]? = some (.d (.exn c ds))) (hm : tbl.lookup c = some F) (h : F [.exn c ds] Q E) : rMethX tbl (rVar i) G Q E := by
  show rVar i G _ E
  refine rd_var hg ?_
  dsimp only
  rw [hm]
  exact h
theorem rd_fxL {j : Int} (hg : G[i]? = some (.d (.lst es))) (hx : atI es j = some (.exn c ds)) (hm : m.lookup c = some k) (hd : ds[k]? = some d) (h : Q d) : rFX m (rBin oIx (rVar i) (rC (.int j))) G Q E := by
  show rVar i G _ E
  refine rd_var hg ?_
  show (match atI es j with | some d => _ | none => False)
  rw [hx]
  dsimp only
  rw [hm]
  dsimp only
  rw [hd]
  exact h
theorem rd_addL (hl : decide (ds.length + es.length ≤ 100000) = true) (h : Q (.lst (ds ++ es))) : oAdd (.lst ds) (.lst es) Q E := ⟨of_decide_eq_true hl, h⟩
theorem rd_addS {x y : Str} (hl : decide (x.length + y.length ≤ 100000) = true) (h : Q (.str (x ++ y))) : oAdd (.str x) (.str y) Q E := ⟨of_decide_eq_true hl, h⟩
theorem rd_k {R : Prop} (hl : decide (ds.length ≤ 1000) = true) (h : R) : ds.length ≤ 1000 ∧ R := ⟨of_decide_eq_true hl, h⟩
theorem rd_eqP (hp : pl 60 x = true) (hq : pl 60 y = true) (h : Q (.bl (deq x y))) : oEq x y Q E := ⟨hp, hq, h⟩
theorem rd_isS {x : Str} {cs : List Nat} (h : Q (.bl true)) : oIsi cs [.b "str"] (.str x) Q E := ⟨True.intro, h⟩
/-- data that is its own equal -/
def valOk (d : D) : Prop := pl 60 d = true ∨ ∃ k e, d = .dic [k] [e] ∧ pl 40 e = true
theorem rd_neK (hv : valOk x) (h : Q (.bl false)) : oNeK x x Q E := by
  rcases hv with hv | ⟨k, e, rfl, hv⟩
  · exact .inl ⟨hv, hv, by rw [deq_refl 60 x hv]; exact h⟩
  · refine .inr ⟨rfl, hv, hv, ?_⟩
    rw [deq_refl 40 e hv]
    exact h
theorem rd_eqK (hv : valOk x) (h : Q (.bl true)) : oEqK x x Q E := by
  rcases hv with hv | ⟨k, e, rfl, hv⟩
  · exact .inl ⟨hv, hv, by rw [deq_refl 60 x hv]; exact h⟩
  · refine .inr ⟨rfl, hv, hv, ?_⟩
    rw [deq_refl 40 e hv]
    exact h
theorem pl_bls (n : Nat) : ∀ (bs : List Bool), pl (n + 1) (.lst (bs.map D.bl)) = true := fun bs => pl_lst fun x hx => by
  obtain ⟨b, _, rfl⟩ := List.mem_map.mp hx
  cases n <;> rfl
theorem ne_bls {bs : List Bool} (h : Q (.bl false)) : oNe (.lst (bs.map D.bl)) (.lst (bs.map D.bl)) Q E := by
  have p := pl_bls 59 bs
  exact ⟨p, p, by rw [deq_refl 60 _ p]; exact h⟩
end
end Pu
namespace Pu
open PySem PySem.Spec PyProof.Rows L2
abbrev cSpace : Nat := 0
abbrev cRegion : Nat := 1
abbrev cTable : Nat := 2
abbrev cLinear : Nat := 3
abbrev cRatio : Nat := 4
abbrev cPartError : Nat := 20
abbrev cNoRatio : Nat := 21
abbrev cNoSpace : Nat := 22
abbrev cNoCell : Nat := 23
abbrev cNoAxis : Nat := 24
abbrev cNoMember : Nat := 25
abbrev cTwice : Nat := 26
abbrev cOtherSpace : Nat := 27
abbrev cNoTable : Nat := 28
abbrev cNoRows : Nat := 29
abbrev cNoLinear : Nat := 30
abbrev cNoQuotient : Nat := 31
abbrev cNoName : Nat := 32
abbrev cNoPart : Nat := 33
abbrev cFull : Nat := 34
abbrev cNoSuch : Nat := 35
abbrev cNoValues : Nat := 36
abbrev cNoOffer : Nat := 37
abbrev cNoAsked : Nat := 38
abbrev cNoTaking : Nat := 39
abbrev cNoMeasure : Nat := 40
abbrev cNotExtreme : Nat := 41
abbrev cNotConsistent : Nat := 42
abbrev cNoKind : Nat := 43
abbrev cNoRoll : Nat := 44
abbrev cBadText : Nat := 45
abbrev cBadLine : Nat := 46
abbrev cNoCommand : Nat := 47
abbrev cNoUndo : Nat := 48
abbrev cNoRedo : Nat := 49
abbrev csL : List Nat := []
end Pu
namespace Pu
open PySem PySem.Spec PyProof.Rows L2
/-! ## what the functions promise -/
abbrev tellS (x : Str) : DFn := fun ds Q _ => ∃ d, ds = [d] ∧ Q (.str x)
def S_NoName_told : DFn := tellS "refused noname"
def S_NoRatio_told : DFn := tellS "refused noratio"
def S_NoSpace_told : DFn := tellS "refused nospace"
def S_NoCell_told : DFn := tellS "refused nocell"
def S_NoAxis_told : DFn := tellS "refused noaxis"
def S_NoMember_told : DFn := tellS "refused nomember"
def S_Twice_told : DFn := tellS "refused twice"
def S_OtherSpace_told : DFn := tellS "refused otherspace"
def S_NoTable_told : DFn := tellS "refused notable"
def S_NoRows_told : DFn := tellS "refused norows"
def S_NoLinear_told : DFn := tellS "refused nolinear"
def S_NoQuotient_told : DFn := tellS "refused noquotient"
def S_NoPart_told : DFn := tellS "refused nopart"
def S_Full_told : DFn := tellS "refused full"
def S_NoSuch_told : DFn := tellS "refused nosuch"
def S_NoValues_told : DFn := tellS "refused novalues"
def S_PartError_told : DFn := tellS "refused parterror"
/-- the classes, in the order of the law: number, name in lowercase letters, place -/
abbrev kinds : List (Nat × Str × Nat) := [(cNoName, "noname", 0), (cNoRatio, "noratio", 1), (cNoSpace, "nospace", 2), (cNoCell, "nocell", 3), (cNoAxis, "noaxis", 4), (cNoMember, "nomember", 5), (cTwice, "twice", 6), (cOtherSpace, "otherspace", 7), (cNoTable, "notable", 8), (cNoRows, "norows", 9), (cNoLinear, "nolinear", 10), (cNoQuotient, "noquotient", 11), (cNoPart, "nopart", 12), (cFull, "full", 13), (cNoSuch, "nosuch", 14), (cNoValues, "novalues", 15), (cPartError, "parterror", 16)]
def valL : List D := [.non, .int 0, .int (-5), .int (10 ^ (40 : Int).toNat), .str "a", .str "", .lst [.str "a"], .tup [.str "a", .int 1], .dic [.inr "a"] [.int 1], .bl true]
def S__law_value : DFn := fun ds Q _ => ds = [.law] ∧ ∀ d ∈ valL, Q d
def S__law_base : DFn := fun ds Q _ => ∃ p ∈ kinds, ∃ fs, ds = [.exn p.1 fs, .str p.2.1] ∧ Q (.bl true)
abbrev kindL (k : Nat) : List D := ((List.range 16).map fun j : Nat => ((j : Int) == (k : Int))).map D.bl
def S__law_kinds : DFn := fun ds Q _ => ∃ p ∈ kinds, ∃ fs, ds = [.exn p.1 fs] ∧ Q (.lst (kindL p.2.2))
abbrev madeL (a b : D) : List D := [.exn cNoName [a], .exn cNoRatio [a], .exn cNoSpace [a, b], .exn cNoCell [a], .exn cNoAxis [a], .exn cNoMember [a], .exn cTwice [a], .exn cOtherSpace [], .exn cNoTable [a, b], .exn cNoRows [a, b], .exn cNoLinear [a], .exn cNoQuotient [], .exn cNoPart [], .exn cFull [a], .exn cNoSuch [a], .exn cNoValues [a]]
def nameL : List D := [.str "noname", .str "noratio", .str "nospace", .str "nocell", .str "noaxis", .str "nomember", .str "twice", .str "otherspace", .str "notable", .str "norows", .str "nolinear", .str "noquotient", .str "nopart", .str "full", .str "nosuch", .str "novalues"]
def S__law_alone : DFn := fun ds Q _ => ∃ a b, ds = [.lst (madeL a b)] ∧ Q (.bl true)
def S__law_fields : DFn := fun ds Q _ => ∃ a b, valOk a ∧ valOk b ∧ ds = [.lst (madeL a b), a, b] ∧ Q (.bl true)
end Pu
namespace Pu
open PySem PySem.Spec PyProof.Rows L2
abbrev is_PartError : List (Nat × Bool) := [(cNoName, true), (cNoRatio, true), (cNoSpace, true), (cNoCell, true), (cNoAxis, true), (cNoMember, true), (cTwice, true), (cOtherSpace, true), (cNoTable, true), (cNoRows, true), (cNoLinear, true), (cNoQuotient, true), (cNoPart, true), (cFull, true), (cNoSuch, true), (cNoValues, true), (cPartError, true)]
abbrev is_ValueError : List (Nat × Bool) := [(cNoName, true), (cNoRatio, true), (cNoSpace, true), (cNoCell, true), (cNoAxis, true), (cNoMember, true), (cTwice, true), (cOtherSpace, true), (cNoTable, true), (cNoRows, true), (cNoLinear, true), (cNoQuotient, true), (cNoPart, true), (cFull, true), (cNoSuch, true), (cNoValues, true), (cPartError, true)]
abbrev tb_told : List (Nat × DFn) := [(cNoName, S_NoName_told), (cNoRatio, S_NoRatio_told), (cNoSpace, S_NoSpace_told), (cNoCell, S_NoCell_told), (cNoAxis, S_NoAxis_told), (cNoMember, S_NoMember_told), (cTwice, S_Twice_told), (cOtherSpace, S_OtherSpace_told), (cNoTable, S_NoTable_told), (cNoRows, S_NoRows_told), (cNoLinear, S_NoLinear_told), (cNoQuotient, S_NoQuotient_told), (cNoPart, S_NoPart_told), (cFull, S_Full_told), (cNoSuch, S_NoSuch_told), (cNoValues, S_NoValues_told), (cPartError, S_PartError_told)]
abbrev is_NoCell : List (Nat × Bool) := [(cNoName, false), (cNoRatio, false), (cNoSpace, false), (cNoCell, true), (cNoAxis, false), (cNoMember, false), (cTwice, false), (cOtherSpace, false), (cNoTable, false), (cNoRows, false), (cNoLinear, false), (cNoQuotient, false), (cNoPart, false), (cFull, false), (cNoSuch, false), (cNoValues, false), (cPartError, false)]
abbrev is_NoSpace : List (Nat × Bool) := [(cNoName, false), (cNoRatio, false), (cNoSpace, true), (cNoCell, false), (cNoAxis, false), (cNoMember, false), (cTwice, false), (cOtherSpace, false), (cNoTable, false), (cNoRows, false), (cNoLinear, false), (cNoQuotient, false), (cNoPart, false), (cFull, false), (cNoSuch, false), (cNoValues, false), (cPartError, false)]
abbrev is_NoRatio : List (Nat × Bool) := [(cNoName, false), (cNoRatio, true), (cNoSpace, false), (cNoCell, false), (cNoAxis, false), (cNoMember, false), (cTwice, false), (cOtherSpace, false), (cNoTable, false), (cNoRows, false), (cNoLinear, false), (cNoQuotient, false), (cNoPart, false), (cFull, false), (cNoSuch, false), (cNoValues, false), (cPartError, false)]
abbrev is_NoName : List (Nat × Bool) := [(cNoName, true), (cNoRatio, false), (cNoSpace, false), (cNoCell, false), (cNoAxis, false), (cNoMember, false), (cTwice, false), (cOtherSpace, false), (cNoTable, false), (cNoRows, false), (cNoLinear, false), (cNoQuotient, false), (cNoPart, false), (cFull, false), (cNoSuch, false), (cNoValues, false), (cPartError, false)]
abbrev is_Twice : List (Nat × Bool) := [(cNoName, false), (cNoRatio, false), (cNoSpace, false), (cNoCell, false), (cNoAxis, false), (cNoMember, false), (cTwice, true), (cOtherSpace, false), (cNoTable, false), (cNoRows, false), (cNoLinear, false), (cNoQuotient, false), (cNoPart, false), (cFull, false), (cNoSuch, false), (cNoValues, false), (cPartError, false)]
abbrev is_NoMember : List (Nat × Bool) := [(cNoName, false), (cNoRatio, false), (cNoSpace, false), (cNoCell, false), (cNoAxis, false), (cNoMember, true), (cTwice, false), (cOtherSpace, false), (cNoTable, false), (cNoRows, false), (cNoLinear, false), (cNoQuotient, false), (cNoPart, false), (cFull, false), (cNoSuch, false), (cNoValues, false), (cPartError, false)]
abbrev is_NoAxis : List (Nat × Bool) := [(cNoName, false), (cNoRatio, false), (cNoSpace, false), (cNoCell, false), (cNoAxis, true), (cNoMember, false), (cTwice, false), (cOtherSpace, false), (cNoTable, false), (cNoRows, false), (cNoLinear, false), (cNoQuotient, false), (cNoPart, false), (cFull, false), (cNoSuch, false), (cNoValues, false), (cPartError, false)]
abbrev is_NoRows : List (Nat × Bool) := [(cNoName, false), (cNoRatio, false), (cNoSpace, false), (cNoCell, false), (cNoAxis, false), (cNoMember, false), (cTwice, false), (cOtherSpace, false), (cNoTable, false), (cNoRows, true), (cNoLinear, false), (cNoQuotient, false), (cNoPart, false), (cFull, false), (cNoSuch, false), (cNoValues, false), (cPartError, false)]
abbrev is_NoTable : List (Nat × Bool) := [(cNoName, false), (cNoRatio, false), (cNoSpace, false), (cNoCell, false), (cNoAxis, false), (cNoMember, false), (cTwice, false), (cOtherSpace, false), (cNoTable, true), (cNoRows, false), (cNoLinear, false), (cNoQuotient, false), (cNoPart, false), (cFull, false), (cNoSuch, false), (cNoValues, false), (cPartError, false)]
abbrev is_OtherSpace : List (Nat × Bool) := [(cNoName, false), (cNoRatio, false), (cNoSpace, false), (cNoCell, false), (cNoAxis, false), (cNoMember, false), (cTwice, false), (cOtherSpace, true), (cNoTable, false), (cNoRows, false), (cNoLinear, false), (cNoQuotient, false), (cNoPart, false), (cFull, false), (cNoSuch, false), (cNoValues, false), (cPartError, false)]
abbrev is_NoPart : List (Nat × Bool) := [(cNoName, false), (cNoRatio, false), (cNoSpace, false), (cNoCell, false), (cNoAxis, false), (cNoMember, false), (cTwice, false), (cOtherSpace, false), (cNoTable, false), (cNoRows, false), (cNoLinear, false), (cNoQuotient, false), (cNoPart, true), (cFull, false), (cNoSuch, false), (cNoValues, false), (cPartError, false)]
abbrev is_NoQuotient : List (Nat × Bool) := [(cNoName, false), (cNoRatio, false), (cNoSpace, false), (cNoCell, false), (cNoAxis, false), (cNoMember, false), (cTwice, false), (cOtherSpace, false), (cNoTable, false), (cNoRows, false), (cNoLinear, false), (cNoQuotient, true), (cNoPart, false), (cFull, false), (cNoSuch, false), (cNoValues, false), (cPartError, false)]
abbrev is_NoLinear : List (Nat × Bool) := [(cNoName, false), (cNoRatio, false), (cNoSpace, false), (cNoCell, false), (cNoAxis, false), (cNoMember, false), (cTwice, false), (cOtherSpace, false), (cNoTable, false), (cNoRows, false), (cNoLinear, true), (cNoQuotient, false), (cNoPart, false), (cFull, false), (cNoSuch, false), (cNoValues, false), (cPartError, false)]
abbrev is_NoValues : List (Nat × Bool) := [(cNoName, false), (cNoRatio, false), (cNoSpace, false), (cNoCell, false), (cNoAxis, false), (cNoMember, false), (cTwice, false), (cOtherSpace, false), (cNoTable, false), (cNoRows, false), (cNoLinear, false), (cNoQuotient, false), (cNoPart, false), (cFull, false), (cNoSuch, false), (cNoValues, true), (cPartError, false)]
abbrev is_NoSuch : List (Nat × Bool) := [(cNoName, false), (cNoRatio, false), (cNoSpace, false), (cNoCell, false), (cNoAxis, false), (cNoMember, false), (cTwice, false), (cOtherSpace, false), (cNoTable, false), (cNoRows, false), (cNoLinear, false), (cNoQuotient, false), (cNoPart, false), (cFull, false), (cNoSuch, true), (cNoValues, false), (cPartError, false)]
abbrev is_Full : List (Nat × Bool) := [(cNoName, false), (cNoRatio, false), (cNoSpace, false), (cNoCell, false), (cNoAxis, false), (cNoMember, false), (cTwice, false), (cOtherSpace, false), (cNoTable, false), (cNoRows, false), (cNoLinear, false), (cNoQuotient, false), (cNoPart, false), (cFull, true), (cNoSuch, false), (cNoValues, false), (cPartError, false)]
/-! _law_kinds: 0 _law_e, 1 _law_found -/
def rd__law_kinds : XSp := rSeq (rSet 1 (rLst (rCons (rIV is_NoName (rVar 0)) (rCons (rIV is_NoRatio (rVar 0)) (rCons (rIV is_NoSpace (rVar 0)) (rCons (rIV is_NoCell (rVar 0)) (rNil))))))) (rSeq (rSet 1 (rBin oAdd (rVar 1) (rLst (rCons (rIV is_NoAxis (rVar 0)) (rCons (rIV is_NoMember (rVar 0)) (rCons (rIV is_Twice (rVar 0)) (rNil))))))) (rSeq (rSet 1 (rBin oAdd (rVar 1) (rLst (rCons (rIV is_OtherSpace (rVar 0)) (rCons (rIV is_NoTable (rVar 0)) (rCons (rIV is_NoRows (rVar 0)) (rNil))))))) (rSeq (rSet 1 (rBin oAdd (rVar 1) (rLst (rCons (rIV is_NoLinear (rVar 0)) (rCons (rIV is_NoQuotient (rVar 0)) (rCons (rIV is_NoPart (rVar 0)) (rNil))))))) (rRet (rBin oAdd (rVar 1) (rLst (rCons (rIV is_Full (rVar 0)) (rCons (rIV is_NoSuch (rVar 0)) (rCons (rIV is_NoValues (rVar 0)) (rNil))))))))))
abbrev n__law_kinds : List Str := ["_law_e", "_law_found"]
/-! _law_alone: 0 _law_made, 1 _law_k, 2 _law_j -/
def rd__law_alone : XSp := rSeq (rFor (rRange (rCons (rFn oLen (rCons (rVar 0) (rNil))) (rNil))) (gN 1) (rIf (rTest (rBin oNe (rFn S__law_kinds (rCons (rBin oIx (rVar 0) (rVar 1)) (rNil))) (rNew (rLc [2] (rRange (rCons (rC (.int 16)) (rNil))) (gN 2) (rYes) (rBin oEq (rVar 2) (rVar 1)))))) (rRet (rC (.bl false))) (rNext))) (rRet (rBin oEq (rFn oLen (rCons (rVar 0) (rNil))) (rC (.int 16))))
abbrev n__law_alone : List Str := ["_law_made", "_law_k", "_law_j"]
/-! Full.told: 0 self -/
def rd_Full_told : XSp := rRet (rC (.str "refused full"))
abbrev n_Full_told : List Str := ["self"]
/-! NoAxis.told: 0 self -/
def rd_NoAxis_told : XSp := rRet (rC (.str "refused noaxis"))
abbrev n_NoAxis_told : List Str := ["self"]
/-! NoCell.told: 0 self -/
def rd_NoCell_told : XSp := rRet (rC (.str "refused nocell"))
abbrev n_NoCell_told : List Str := ["self"]
/-! NoLinear.told: 0 self -/
def rd_NoLinear_told : XSp := rRet (rC (.str "refused nolinear"))
abbrev n_NoLinear_told : List Str := ["self"]
/-! NoMember.told: 0 self -/
def rd_NoMember_told : XSp := rRet (rC (.str "refused nomember"))
abbrev n_NoMember_told : List Str := ["self"]
/-! NoName.told: 0 self -/
def rd_NoName_told : XSp := rRet (rC (.str "refused noname"))
abbrev n_NoName_told : List Str := ["self"]
/-! NoPart.told: 0 self -/
def rd_NoPart_told : XSp := rRet (rC (.str "refused nopart"))
abbrev n_NoPart_told : List Str := ["self"]
/-! NoQuotient.told: 0 self -/
def rd_NoQuotient_told : XSp := rRet (rC (.str "refused noquotient"))
abbrev n_NoQuotient_told : List Str := ["self"]
/-! NoRatio.told: 0 self -/
def rd_NoRatio_told : XSp := rRet (rC (.str "refused noratio"))
abbrev n_NoRatio_told : List Str := ["self"]
/-! NoRows.told: 0 self -/
def rd_NoRows_told : XSp := rRet (rC (.str "refused norows"))
abbrev n_NoRows_told : List Str := ["self"]
/-! NoSpace.told: 0 self -/
def rd_NoSpace_told : XSp := rRet (rC (.str "refused nospace"))
abbrev n_NoSpace_told : List Str := ["self"]
/-! NoSuch.told: 0 self -/
def rd_NoSuch_told : XSp := rRet (rC (.str "refused nosuch"))
abbrev n_NoSuch_told : List Str := ["self"]
/-! NoTable.told: 0 self -/
def rd_NoTable_told : XSp := rRet (rC (.str "refused notable"))
abbrev n_NoTable_told : List Str := ["self"]
/-! NoValues.told: 0 self -/
def rd_NoValues_told : XSp := rRet (rC (.str "refused novalues"))
abbrev n_NoValues_told : List Str := ["self"]
/-! OtherSpace.told: 0 self -/
def rd_OtherSpace_told : XSp := rRet (rC (.str "refused otherspace"))
abbrev n_OtherSpace_told : List Str := ["self"]
/-! PartError.told: 0 self -/
def rd_PartError_told : XSp := rRet (rC (.str "refused parterror"))
abbrev n_PartError_told : List Str := ["self"]
/-! Twice.told: 0 self -/
def rd_Twice_told : XSp := rRet (rC (.str "refused twice"))
abbrev n_Twice_told : List Str := ["self"]
/-! _law_base: 0 _law_e, 1 _law_name -/
def rd__law_base : XSp := rSeq (rIf (rTOr (rTNot (rTest (rIV is_PartError (rVar 0)))) (rTNot (rTest (rIV is_ValueError (rVar 0))))) (rRet (rC (.bl false))) (rNext)) (rRet (rAnd (rUn (oIsi csL [.b "str"]) (rMethX tb_told (rVar 0))) (rBin oEq (rMethX tb_told (rVar 0)) (rBin oAdd (rC (.str "refused ")) (rVar 1)))))
abbrev n__law_base : List Str := ["_law_e", "_law_name"]
/-! _law_fields: 0 _law_made, 1 _law_one, 2 _law_other -/
def rd__law_fields : XSp := rSeq (rIf (rTOr (rTest (rBin oNeK (rFX [(cNoName, 0), (cTwice, 0), (cNoSuch, 0), (cNoValues, 0)] (rBin oIx (rVar 0) (rC (.int 0)))) (rVar 1))) (rTOr (rTest (rBin oNeK (rFX [(cNoRatio, 0), (cNoSpace, 1), (cNoTable, 1), (cNoLinear, 0)] (rBin oIx (rVar 0) (rC (.int 1)))) (rVar 1))) (rTOr (rTest (rBin oNeK (rFX [(cNoSpace, 0), (cNoTable, 0)] (rBin oIx (rVar 0) (rC (.int 2)))) (rVar 1))) (rTest (rBin oNeK (rFX [(cNoRatio, 0), (cNoSpace, 1), (cNoTable, 1), (cNoLinear, 0)] (rBin oIx (rVar 0) (rC (.int 2)))) (rVar 2)))))) (rRet (rC (.bl false))) (rNext)) (rSeq (rIf (rTOr (rTest (rBin oNeK (rFX [(cNoCell, 0), (cNoRows, 0)] (rBin oIx (rVar 0) (rC (.int 3)))) (rVar 1))) (rTOr (rTest (rBin oNeK (rFX [(cNoAxis, 0)] (rBin oIx (rVar 0) (rC (.int 4)))) (rVar 1))) (rTOr (rTest (rBin oNeK (rFX [(cNoMember, 0)] (rBin oIx (rVar 0) (rC (.int 5)))) (rVar 1))) (rTest (rBin oNeK (rFX [(cNoName, 0), (cTwice, 0), (cNoSuch, 0), (cNoValues, 0)] (rBin oIx (rVar 0) (rC (.int 6)))) (rVar 1)))))) (rRet (rC (.bl false))) (rNext)) (rSeq (rIf (rTOr (rTest (rBin oNeK (rFX [(cNoSpace, 0), (cNoTable, 0)] (rBin oIx (rVar 0) (rC (.int 8)))) (rVar 1))) (rTOr (rTest (rBin oNeK (rFX [(cNoRatio, 0), (cNoSpace, 1), (cNoTable, 1), (cNoLinear, 0)] (rBin oIx (rVar 0) (rC (.int 8)))) (rVar 2))) (rTOr (rTest (rBin oNeK (rFX [(cNoCell, 0), (cNoRows, 0)] (rBin oIx (rVar 0) (rC (.int 9)))) (rVar 1))) (rTest (rBin oNeK (rFX [(cNoRows, 1)] (rBin oIx (rVar 0) (rC (.int 9)))) (rVar 2)))))) (rRet (rC (.bl false))) (rNext)) (rRet (rAnd (rBin oEqK (rFX [(cNoRatio, 0), (cNoSpace, 1), (cNoTable, 1), (cNoLinear, 0)] (rBin oIx (rVar 0) (rC (.int 10)))) (rVar 1)) (rAnd (rBin oEqK (rFX [(cFull, 0)] (rBin oIx (rVar 0) (rC (.int 13)))) (rVar 1)) (rAnd (rBin oEqK (rFX [(cNoName, 0), (cTwice, 0), (cNoSuch, 0), (cNoValues, 0)] (rBin oIx (rVar 0) (rC (.int 14)))) (rVar 1)) (rBin oEqK (rFX [(cNoName, 0), (cTwice, 0), (cNoSuch, 0), (cNoValues, 0)] (rBin oIx (rVar 0) (rC (.int 15)))) (rVar 1))))))))
abbrev n__law_fields : List Str := ["_law_made", "_law_one", "_law_other"]
/-! _law_value: 0 _law_state -/
def rd__law_value : XSp := rRet (rBin oIx (rLst (rCons (rC .non) (rCons (rC (.int 0)) (rCons (rUn oNeg (rC (.int 5))) (rCons (rBin oPow (rC (.int 10)) (rC (.int 40))) (rCons (rC (.str "a")) (rCons (rC (.str "")) (rCons (rLst (rCons (rC (.str "a")) (rNil))) (rCons (rTup (rCons (rC (.str "a")) (rCons (rC (.int 1)) (rNil)))) (rCons (rC (.dic [.inr "a"] [.int 1])) (rCons (rC (.bl true)) (rNil)))))))))))) (rFn oDraw (rCons (rVar 0) (rCons (rC (.int 10)) (rNil)))))
abbrev n__law_value : List Str := ["_law_state"]
/-! law: 0 _law_script, 1 _law_state, 2 _law_one, 3 _law_other, 4 _law_made, 5 _law_names, 6 _law_k, 7 _law_base_here -/
def rd_law : XSp := rSeq (rSet 2 (rFn S__law_value (rCons (rVar 1) (rNil)))) (rSeq (rSet 3 (rFn S__law_value (rCons (rVar 1) (rNil)))) (rSeq (rSet 4 (rLst (rCons (rMkV cNoName 1 (rCons (rVar 2) (rNil))) (rCons (rMkV cNoRatio 1 (rCons (rVar 2) (rNil))) (rCons (rMkV cNoSpace 2 (rCons (rVar 2) (rCons (rVar 3) (rNil)))) (rCons (rMkV cNoCell 1 (rCons (rVar 2) (rNil))) (rCons (rMkV cNoAxis 1 (rCons (rVar 2) (rNil))) (rCons (rMkV cNoMember 1 (rCons (rVar 2) (rNil))) (rCons (rMkV cTwice 1 (rCons (rVar 2) (rNil))) (rNil)))))))))) (rSeq (rSet 4 (rBin oAdd (rVar 4) (rLst (rCons (rC (.exn cOtherSpace [])) (rCons (rMkV cNoTable 2 (rCons (rVar 2) (rCons (rVar 3) (rNil)))) (rCons (rMkV cNoRows 2 (rCons (rVar 2) (rCons (rVar 3) (rNil)))) (rCons (rMkV cNoLinear 1 (rCons (rVar 2) (rNil))) (rCons (rC (.exn cNoQuotient [])) (rCons (rC (.exn cNoPart [])) (rNil)))))))))) (rSeq (rSet 4 (rBin oAdd (rVar 4) (rLst (rCons (rMkV cFull 1 (rCons (rVar 2) (rNil))) (rCons (rMkV cNoSuch 1 (rCons (rVar 2) (rNil))) (rCons (rMkV cNoValues 1 (rCons (rVar 2) (rNil))) (rNil))))))) (rSeq (rSet 5 (rLst (rCons (rC (.str "noname")) (rCons (rC (.str "noratio")) (rCons (rC (.str "nospace")) (rCons (rC (.str "nocell")) (rCons (rC (.str "noaxis")) (rCons (rC (.str "nomember")) (rCons (rC (.str "twice")) (rCons (rC (.str "otherspace")) (rCons (rC (.str "notable")) (rNil)))))))))))) (rSeq (rSet 5 (rBin oAdd (rVar 5) (rLst (rCons (rC (.str "norows")) (rCons (rC (.str "nolinear")) (rCons (rC (.str "noquotient")) (rCons (rC (.str "nopart")) (rCons (rC (.str "full")) (rCons (rC (.str "nosuch")) (rCons (rC (.str "novalues")) (rNil))))))))))) (rSeq (rFor (rRange (rCons (rC (.int 16)) (rNil))) (gN 6) (rIf (rTNot (rTest (rFn S__law_base (rCons (rBin oIx (rVar 4) (rVar 6)) (rCons (rBin oIx (rVar 5) (rVar 6)) (rNil)))))) (rRet (rC (.bl false))) (rNext))) (rSeq (rSet 7 (rC (.exn cPartError []))) (rSeq (rIf (rTOr (rTNot (rTest (rFn S__law_base (rCons (rVar 7) (rCons (rC (.str "parterror")) (rNil)))))) (rTest (rBin oNe (rFn S__law_kinds (rCons (rVar 7) (rNil))) (rBin oRep (rLst (rCons (rC (.bl false)) (rNil))) (rC (.int 16)))))) (rRet (rC (.bl false))) (rNext)) (rRet (rAnd (rFn S__law_alone (rCons (rVar 4) (rNil))) (rFn S__law_fields (rCons (rVar 4) (rCons (rVar 2) (rCons (rVar 3) (rNil))))))))))))))))
abbrev n_law : List Str := ["_law_script", "_law_state", "_law_one", "_law_other", "_law_made", "_law_names", "_law_k", "_law_base_here"]
end Pu
namespace Pu
open PySem PySem.Spec PyProof.Rows L2
local macro_rules | `(tactic| sizeOf_list_dec) => `(tactic| (repeat (first | (with_reducible apply rd_cons) | ((with_reducible apply rd_var); case hg => rfl) | (with_reducible apply rd_nil) | (with_reducible apply rd_c) | (with_reducible apply rd_fn) | (with_reducible apply rd_bin) | (with_reducible apply rd_seq) | (with_reducible apply rd_next) | (with_reducible apply rd_test) | (with_reducible apply rd_onB) | (with_reducible apply rd_if) | (with_reducible apply rd_or) | (with_reducible apply rd_not) | (with_reducible apply rd_ret) | (with_reducible apply rd_set) | (with_reducible apply rd_gN) | (with_reducible apply rd_gsC) | (with_reducible apply rd_gsN) | (with_reducible apply rd_un) | (with_reducible apply rd_tup) | (with_reducible apply rd_le) | (with_reducible apply rd_eqI) | (with_reducible apply rd_neI) | (with_reducible apply rd_retN) | (with_reducible apply rd_brk) | (with_reducible apply rd_cont) | (with_reducible apply rd_setN) | (with_reducible apply rd_ownSet) | (with_reducible apply rd_asg) | (with_reducible apply rd_drop) | (with_reducible apply rd_for) | (with_reducible apply rd_raise) | (with_reducible apply rd_exn) | (with_reducible apply rd_and) | (with_reducible apply rd_yes) | (with_reducible apply rd_eand) | (with_reducible apply rd_eor) | (with_reducible apply rd_enot) | (with_reducible apply rd_ifE) | (with_reducible apply rd_lst) | (with_reducible apply rd_sz) | (with_reducible apply rd_new) | (with_reducible apply rd_wk) | (with_reducible apply rd_chain) | (with_reducible apply rd_make) | (with_reducible apply rd_star) | (with_reducible apply rd_items) | (with_reducible apply rd_enum) | (with_reducible apply rd_range) | (with_reducible apply rd_lc) | (with_reducible apply rd_lenSet) | (with_reducible apply rd_meth) | (with_reducible apply rd_sl) | (with_reducible apply rd_poN) | (with_reducible apply rd_poS) | (with_reducible apply rd_slT) | (with_reducible apply rd_slL) | (with_reducible apply rd_lt) | (with_reducible apply rd_ge) | (with_reducible apply rd_gt) | (with_reducible apply rd_addI) | (with_reducible apply rd_subI) | (with_reducible apply rd_negI) | (with_reducible apply rd_eqS) | (with_reducible apply rd_neS) | (with_reducible apply rd_isN) | (with_reducible apply rd_notN) | (with_reducible apply rd_isB) | (with_reducible apply rd_lenL) | (with_reducible apply rd_lenT) | (with_reducible apply rd_intI) | (with_reducible apply rd_listL) | (with_reducible apply rd_listT) | (with_reducible apply rd_tupL) | (with_reducible apply rd_tupT) | (with_reducible apply rd_ftup) | (with_reducible apply rd_inS) | ((with_reducible apply rd_app); case hg => rfl) | ((with_reducible apply rd_appF); case hg => rfl) | ((with_reducible apply rd_sFrz); case hg => rfl) | ((with_reducible apply rd_frzE); case hg => rfl) | ((with_reducible apply rd_tFrz); case hg => rfl) | ((with_reducible apply rd_gUt); case hg => rfl) | ((with_reducible apply rd_gUl); case hg => rfl) | (with_reducible apply rd_mkV1) | (with_reducible apply rd_mkV2) | (with_reducible apply rd_isS) | ((with_reducible apply rd_ivV); (case hg => rfl); (case hm => first | assumption | rfl)) | ((with_reducible apply rd_mxV); (case hg => rfl); (case hm => rfl)) | ((with_reducible apply rd_fxL); (case hg => rfl); (case hx => rfl); (case hm => rfl); (case hd => rfl)) | ((with_reducible apply rd_addL); (case hl => rfl)) | ((with_reducible apply rd_addS); (case hl => first | rfl | decide +kernel)) | ((with_reducible apply rd_k); (case hl => rfl)) | ((with_reducible apply rd_neK); (case hv => assumption)) | ((with_reducible apply rd_eqK); (case hv => assumption)) | ((with_reducible apply rd_fldV); (case hg => rfl); (case hm => rfl); (case hd => rfl)) | ((with_reducible apply rd_methV); (case hg => rfl); (case hm => rfl)) | ((with_reducible apply iteY); case e => rfl) | ((with_reducible apply iteN); case e => rfl))))
theorem pure_tell {x : Str} {N : List Str} (ds : List D) (Q : D → Prop) (E : Exn → Prop) (h : tellS x ds Q E) : ds.length = 1 ∧ rRet (rC (.str x)) (init0 N ds) (fnPo Q E) := by
  obtain ⟨d, rfl, q⟩ := h
  exact ⟨rfl, q⟩
theorem pure_NoName_told (ds : List D) (Q : D → Prop) (E : Exn → Prop) (h : S_NoName_told ds Q E) : ds.length = 1 ∧ rd_NoName_told (init0 n_NoName_told ds) (fnPo Q E) := pure_tell ds Q E h
theorem pure_NoRatio_told (ds : List D) (Q : D → Prop) (E : Exn → Prop) (h : S_NoRatio_told ds Q E) : ds.length = 1 ∧ rd_NoRatio_told (init0 n_NoRatio_told ds) (fnPo Q E) := pure_tell ds Q E h
theorem pure_NoSpace_told (ds : List D) (Q : D → Prop) (E : Exn → Prop) (h : S_NoSpace_told ds Q E) : ds.length = 1 ∧ rd_NoSpace_told (init0 n_NoSpace_told ds) (fnPo Q E) := pure_tell ds Q E h
theorem pure_NoCell_told (ds : List D) (Q : D → Prop) (E : Exn → Prop) (h : S_NoCell_told ds Q E) : ds.length = 1 ∧ rd_NoCell_told (init0 n_NoCell_told ds) (fnPo Q E) := pure_tell ds Q E h
theorem pure_NoAxis_told (ds : List D) (Q : D → Prop) (E : Exn → Prop) (h : S_NoAxis_told ds Q E) : ds.length = 1 ∧ rd_NoAxis_told (init0 n_NoAxis_told ds) (fnPo Q E) := pure_tell ds Q E h
theorem pure_NoMember_told (ds : List D) (Q : D → Prop) (E : Exn → Prop) (h : S_NoMember_told ds Q E) : ds.length = 1 ∧ rd_NoMember_told (init0 n_NoMember_told ds) (fnPo Q E) := pure_tell ds Q E h
theorem pure_Twice_told (ds : List D) (Q : D → Prop) (E : Exn → Prop) (h : S_Twice_told ds Q E) : ds.length = 1 ∧ rd_Twice_told (init0 n_Twice_told ds) (fnPo Q E) := pure_tell ds Q E h
theorem pure_OtherSpace_told (ds : List D) (Q : D → Prop) (E : Exn → Prop) (h : S_OtherSpace_told ds Q E) : ds.length = 1 ∧ rd_OtherSpace_told (init0 n_OtherSpace_told ds) (fnPo Q E) := pure_tell ds Q E h
theorem pure_NoTable_told (ds : List D) (Q : D → Prop) (E : Exn → Prop) (h : S_NoTable_told ds Q E) : ds.length = 1 ∧ rd_NoTable_told (init0 n_NoTable_told ds) (fnPo Q E) := pure_tell ds Q E h
theorem pure_NoRows_told (ds : List D) (Q : D → Prop) (E : Exn → Prop) (h : S_NoRows_told ds Q E) : ds.length = 1 ∧ rd_NoRows_told (init0 n_NoRows_told ds) (fnPo Q E) := pure_tell ds Q E h
theorem pure_NoLinear_told (ds : List D) (Q : D → Prop) (E : Exn → Prop) (h : S_NoLinear_told ds Q E) : ds.length = 1 ∧ rd_NoLinear_told (init0 n_NoLinear_told ds) (fnPo Q E) := pure_tell ds Q E h
theorem pure_NoQuotient_told (ds : List D) (Q : D → Prop) (E : Exn → Prop) (h : S_NoQuotient_told ds Q E) : ds.length = 1 ∧ rd_NoQuotient_told (init0 n_NoQuotient_told ds) (fnPo Q E) := pure_tell ds Q E h
theorem pure_NoPart_told (ds : List D) (Q : D → Prop) (E : Exn → Prop) (h : S_NoPart_told ds Q E) : ds.length = 1 ∧ rd_NoPart_told (init0 n_NoPart_told ds) (fnPo Q E) := pure_tell ds Q E h
theorem pure_Full_told (ds : List D) (Q : D → Prop) (E : Exn → Prop) (h : S_Full_told ds Q E) : ds.length = 1 ∧ rd_Full_told (init0 n_Full_told ds) (fnPo Q E) := pure_tell ds Q E h
theorem pure_NoSuch_told (ds : List D) (Q : D → Prop) (E : Exn → Prop) (h : S_NoSuch_told ds Q E) : ds.length = 1 ∧ rd_NoSuch_told (init0 n_NoSuch_told ds) (fnPo Q E) := pure_tell ds Q E h
theorem pure_NoValues_told (ds : List D) (Q : D → Prop) (E : Exn → Prop) (h : S_NoValues_told ds Q E) : ds.length = 1 ∧ rd_NoValues_told (init0 n_NoValues_told ds) (fnPo Q E) := pure_tell ds Q E h
theorem pure_PartError_told (ds : List D) (Q : D → Prop) (E : Exn → Prop) (h : S_PartError_told ds Q E) : ds.length = 1 ∧ rd_PartError_told (init0 n_PartError_told ds) (fnPo Q E) := pure_tell ds Q E h
theorem valL_ok {d : D} (h : d ∈ valL) : valOk d := by
  have key : ∀ d ∈ valL, valOk d := by
    unfold valL
    refine List.forall_mem_cons.mpr ⟨.inl rfl, List.forall_mem_cons.mpr ⟨.inl rfl, List.forall_mem_cons.mpr ⟨.inl rfl, List.forall_mem_cons.mpr ⟨.inl rfl, List.forall_mem_cons.mpr ⟨.inl rfl, List.forall_mem_cons.mpr ⟨.inl rfl, List.forall_mem_cons.mpr ⟨.inl rfl, List.forall_mem_cons.mpr ⟨.inl rfl, List.forall_mem_cons.mpr ⟨.inr ⟨_, _, rfl, rfl⟩, List.forall_mem_cons.mpr ⟨.inl rfl, fun _ h => nomatch h⟩⟩⟩⟩⟩⟩⟩⟩⟩⟩
  exact key d h
theorem pure__law_value (ds : List D) (Q : D → Prop) (E : Exn → Prop) (h : S__law_value ds Q E) : ds.length = 1 ∧ rd__law_value (init0 n__law_value ds) (fnPo Q E) := by
  obtain ⟨rfl, q⟩ := h
  refine ⟨rfl, ?_⟩
  unfold rd__law_value
  sizeOf_list_dec
  refine ⟨⟨by decide, by decide, by decide⟩, ?_⟩
  sizeOf_list_dec
  refine draw_nat (m := 10) (by decide) (by decide) fun r hr => ?_
  have hl : r < valL.length := hr
  exact ix_lst (List.getElem?_eq_getElem hl) (q _ (List.getElem_mem hl))
theorem pure__law_base (ds : List D) (Q : D → Prop) (E : Exn → Prop) (h : S__law_base ds Q E) : ds.length = 2 ∧ rd__law_base (init0 n__law_base ds) (fnPo Q E) := by
  obtain ⟨p, hp, fs, rfl, q⟩ := h
  refine ⟨rfl, ?_⟩
  revert p
  have one : ∀ p : Nat × Str × Nat, (is_PartError.lookup p.1 = some true ∧ is_ValueError.lookup p.1 = some true ∧ ∃ x, tb_told.lookup p.1 = some (tellS x) ∧ ("refused " : Str).length + p.2.1.length ≤ 100000 ∧ x = ("refused " : Str) ++ p.2.1) → rd__law_base (init0 n__law_base [.exn p.1 fs, .str p.2.1]) (fnPo Q E) := by
    rintro p ⟨h1, h2, x, h3, h4, h5⟩
    unfold rd__law_base
    sizeOf_list_dec
    refine rd_mxV rfl h3 ⟨_, rfl, ?_⟩
    sizeOf_list_dec
    refine rd_mxV rfl h3 ⟨_, rfl, ?_⟩
    sizeOf_list_dec
    refine ⟨h4, ?_⟩
    sizeOf_list_dec
    rw [h5, beq_self_eq_true]
    exact q
  have all : ∀ p ∈ kinds, is_PartError.lookup p.1 = some true ∧ is_ValueError.lookup p.1 = some true ∧ ∃ x, tb_told.lookup p.1 = some (tellS x) ∧ ("refused " : Str).length + p.2.1.length ≤ 100000 ∧ x = ("refused " : Str) ++ p.2.1 := by
    unfold kinds
    repeat (refine List.forall_mem_cons.mpr ⟨⟨rfl, rfl, _, rfl, by decide +kernel, by decide +kernel⟩, ?_⟩)
    exact fun _ h => nomatch h
  exact fun p hp => one p (all p hp)
theorem pure__law_kinds (ds : List D) (Q : D → Prop) (E : Exn → Prop) (h : S__law_kinds ds Q E) : ds.length = 1 ∧ rd__law_kinds (init0 n__law_kinds ds) (fnPo Q E) := by
  obtain ⟨p, hp, fs, rfl, q⟩ := h
  refine ⟨rfl, ?_⟩
  have one : ∀ {c : Nat} {b0 b1 b2 b3 b4 b5 b6 b7 b8 b9 b10 b11 b12 b13 b14 b15 : Bool} (h0 : is_NoName.lookup c = some b0) (h1 : is_NoRatio.lookup c = some b1) (h2 : is_NoSpace.lookup c = some b2) (h3 : is_NoCell.lookup c = some b3) (h4 : is_NoAxis.lookup c = some b4) (h5 : is_NoMember.lookup c = some b5) (h6 : is_Twice.lookup c = some b6) (h7 : is_OtherSpace.lookup c = some b7) (h8 : is_NoTable.lookup c = some b8) (h9 : is_NoRows.lookup c = some b9) (h10 : is_NoLinear.lookup c = some b10) (h11 : is_NoQuotient.lookup c = some b11) (h12 : is_NoPart.lookup c = some b12) (h13 : is_Full.lookup c = some b13) (h14 : is_NoSuch.lookup c = some b14) (h15 : is_NoValues.lookup c = some b15), Q (.lst [.bl b0, .bl b1, .bl b2, .bl b3, .bl b4, .bl b5, .bl b6, .bl b7, .bl b8, .bl b9, .bl b10, .bl b11, .bl b12, .bl b13, .bl b14, .bl b15]) → rd__law_kinds (init0 n__law_kinds [.exn c fs]) (fnPo Q E) := by
    intro c b0 b1 b2 b3 b4 b5 b6 b7 b8 b9 b10 b11 b12 b13 b14 b15 h0 h1 h2 h3 h4 h5 h6 h7 h8 h9 h10 h11 h12 h13 h14 h15 q
    unfold rd__law_kinds
    sizeOf_list_dec
    exact q
  revert p
  unfold kinds
  repeat (refine List.forall_mem_cons.mpr ⟨fun q => one rfl rfl rfl rfl rfl rfl rfl rfl rfl rfl rfl rfl rfl rfl rfl rfl q, ?_⟩)
  exact fun _ h => nomatch h
theorem made_get (a b : D) : ∀ i (hi : i < 16), ∃ p ∈ kinds, ∃ fs, (madeL a b)[i]'hi = .exn p.1 fs ∧ p.2.2 = i ∧ nameL[i]? = some (.str p.2.1) := by
  intro i hi
  match i, hi with
  | 0, _ => exact ⟨(cNoName, "noname", 0), List.mem_of_getElem? (i := 0) rfl, _, rfl, rfl, rfl⟩
  | 1, _ => exact ⟨(cNoRatio, "noratio", 1), List.mem_of_getElem? (i := 1) rfl, _, rfl, rfl, rfl⟩
  | 2, _ => exact ⟨(cNoSpace, "nospace", 2), List.mem_of_getElem? (i := 2) rfl, _, rfl, rfl, rfl⟩
  | 3, _ => exact ⟨(cNoCell, "nocell", 3), List.mem_of_getElem? (i := 3) rfl, _, rfl, rfl, rfl⟩
  | 4, _ => exact ⟨(cNoAxis, "noaxis", 4), List.mem_of_getElem? (i := 4) rfl, _, rfl, rfl, rfl⟩
  | 5, _ => exact ⟨(cNoMember, "nomember", 5), List.mem_of_getElem? (i := 5) rfl, _, rfl, rfl, rfl⟩
  | 6, _ => exact ⟨(cTwice, "twice", 6), List.mem_of_getElem? (i := 6) rfl, _, rfl, rfl, rfl⟩
  | 7, _ => exact ⟨(cOtherSpace, "otherspace", 7), List.mem_of_getElem? (i := 7) rfl, _, rfl, rfl, rfl⟩
  | 8, _ => exact ⟨(cNoTable, "notable", 8), List.mem_of_getElem? (i := 8) rfl, _, rfl, rfl, rfl⟩
  | 9, _ => exact ⟨(cNoRows, "norows", 9), List.mem_of_getElem? (i := 9) rfl, _, rfl, rfl, rfl⟩
  | 10, _ => exact ⟨(cNoLinear, "nolinear", 10), List.mem_of_getElem? (i := 10) rfl, _, rfl, rfl, rfl⟩
  | 11, _ => exact ⟨(cNoQuotient, "noquotient", 11), List.mem_of_getElem? (i := 11) rfl, _, rfl, rfl, rfl⟩
  | 12, _ => exact ⟨(cNoPart, "nopart", 12), List.mem_of_getElem? (i := 12) rfl, _, rfl, rfl, rfl⟩
  | 13, _ => exact ⟨(cFull, "full", 13), List.mem_of_getElem? (i := 13) rfl, _, rfl, rfl, rfl⟩
  | 14, _ => exact ⟨(cNoSuch, "nosuch", 14), List.mem_of_getElem? (i := 14) rfl, _, rfl, rfl, rfl⟩
  | 15, _ => exact ⟨(cNoValues, "novalues", 15), List.mem_of_getElem? (i := 15) rfl, _, rfl, rfl, rfl⟩
  | n + 16, h => exact absurd h (by omega)
theorem pure__law_alone (ds : List D) (Q : D → Prop) (E : Exn → Prop) (h : S__law_alone ds Q E) : ds.length = 1 ∧ rd__law_alone (init0 n__law_alone ds) (fnPo Q E) := by
  obtain ⟨a, b, rfl, q⟩ := h
  refine ⟨rfl, ?_⟩
  unfold rd__law_alone
  sizeOf_list_dec
  refine ⟨by show (16 : Int) < _; decide, by show _ ≤ (16 : Int); decide, ?_⟩
  refine forP_rng (I := fun i G => ∃ g1 g2, G = [.d (.lst (madeL a b)), g1, g2]) 16 ?_ ?_ _ ⟨_, _, rfl⟩
  · rintro i G K hi ⟨g1, g2, rfl⟩ hK
    sizeOf_list_dec
    have hl : i < (madeL a b).length := hi
    refine ix_lst (List.getElem?_eq_getElem hl) ?_
    obtain ⟨p, hp, fs, e1, e2, _⟩ := made_get a b i hi
    rw [e1]
    sizeOf_list_dec
    refine ⟨p, hp, fs, rfl, ?_⟩
    sizeOf_list_dec
    refine ⟨by decide, by decide, ?_⟩
    refine lcP_map (f := fun d => match d with | .int j => .bl (j == (i : Int)) | _ => .non) _ _ (by simp) (fun d hd K => ?_) ?_
    · obtain ⟨j, _, rfl⟩ := List.mem_map.mp hd
      intro k
      sizeOf_list_dec
      exact k
    · have e : ([] : List D) ++ ((List.range (16 : Int).toNat).map fun (i : Nat) => D.int ((i : Nat) : Int)).map (fun d => match d with | .int j => .bl (j == (i : Int)) | _ => .non) = kindL p.2.2 := by
        rw [e2, List.nil_append, List.map_map, kindL, List.map_map]
        rfl
      rw [e]
      refine ne_bls ?_
      sizeOf_list_dec
      exact hK _ ⟨_, _, rfl⟩
  · rintro G ⟨g1, g2, rfl⟩
    sizeOf_list_dec
    exact q
theorem pure__law_fields (ds : List D) (Q : D → Prop) (E : Exn → Prop) (h : S__law_fields ds Q E) : ds.length = 3 ∧ rd__law_fields (init0 n__law_fields ds) (fnPo Q E) := by
  obtain ⟨a, b, ha, hb, rfl, q⟩ := h
  refine ⟨rfl, ?_⟩
  unfold rd__law_fields
  sizeOf_list_dec
  exact q
theorem pure_law : rd_law (.no :: .d .law :: List.replicate (n_law.length - 2) .no) lawPo := by
  unfold rd_law
  sizeOf_list_dec
  refine ⟨rfl, fun a ha => ?_⟩
  sizeOf_list_dec
  refine ⟨rfl, fun b hb => ?_⟩
  have ka := valL_ok ha
  have kb := valL_ok hb
  sizeOf_list_dec
  refine ⟨by decide, by decide, ?_⟩
  refine forP_rng (I := fun i G => ∃ g1 g2, G = [.no, .d .law, .d a, .d b, .d (.lst (madeL a b)), .d (.lst nameL), g1, g2]) 16 ?_ ?_ _ ⟨_, _, rfl⟩
  · rintro i G K hi ⟨g1, g2, rfl⟩ hK
    sizeOf_list_dec
    have hl : i < (madeL a b).length := hi
    refine ix_lst (List.getElem?_eq_getElem hl) ?_
    obtain ⟨p, hp, fs, e1, e2, e3⟩ := made_get a b i hi
    rw [e1]
    sizeOf_list_dec
    refine ix_lst e3 ?_
    sizeOf_list_dec
    refine ⟨p, hp, fs, rfl, ?_⟩
    sizeOf_list_dec
    exact hK _ ⟨_, _, rfl⟩
  · rintro G ⟨g1, g2, rfl⟩
    sizeOf_list_dec
    refine ⟨(cPartError, "parterror", 16), List.mem_of_getElem? (i := 16) rfl, _, rfl, ?_⟩
    sizeOf_list_dec
    refine ⟨(cPartError, "parterror", 16), List.mem_of_getElem? (i := 16) rfl, _, rfl, ?_⟩
    sizeOf_list_dec
    refine ⟨by decide, by decide, by decide, ?_⟩
    refine ne_bls (bs := (List.range 16).map fun j : Nat => ((j : Int) == ((16 : Nat) : Int))) ?_
    sizeOf_list_dec
    refine ⟨a, b, rfl, ?_⟩
    sizeOf_list_dec
    exact ⟨a, b, ka, kb, rfl, rfl⟩
end Pu
namespace Pu
open PySem PySem.Spec PyProof.Rows L2
def topS (i : Nat) : Stmt := PySem.Challenge.pw_partstell_k19_errors_told.main.body.getD i (.Pass ⟨0, 0, 0, 0⟩)
abbrev s__law_start : Stmt := topS 19
abbrev s__law_draw : Stmt := topS 20
abbrev s__law_kinds : Stmt := topS 23
abbrev s__law_alone : Stmt := topS 24
abbrev s_Full_told : Stmt := inClass (topS 15) 1
abbrev s_NoAxis_told : Stmt := inClass (topS 6) 1
abbrev s_NoCell_told : Stmt := inClass (topS 5) 1
abbrev s_NoLinear_told : Stmt := inClass (topS 12) 1
abbrev s_NoMember_told : Stmt := inClass (topS 7) 1
abbrev s_NoName_told : Stmt := inClass (topS 2) 1
abbrev s_NoPart_told : Stmt := inClass (topS 14) 0
abbrev s_NoQuotient_told : Stmt := inClass (topS 13) 0
abbrev s_NoRatio_told : Stmt := inClass (topS 3) 1
abbrev s_NoRows_told : Stmt := inClass (topS 11) 1
abbrev s_NoSpace_told : Stmt := inClass (topS 4) 1
abbrev s_NoSuch_told : Stmt := inClass (topS 16) 1
abbrev s_NoTable_told : Stmt := inClass (topS 10) 1
abbrev s_NoValues_told : Stmt := inClass (topS 17) 1
abbrev s_OtherSpace_told : Stmt := inClass (topS 9) 0
abbrev s_PartError_told : Stmt := inClass (topS 1) 0
abbrev s_Twice_told : Stmt := inClass (topS 8) 1
abbrev s__law_base : Stmt := topS 22
abbrev s__law_fields : Stmt := topS 25
abbrev s__law_value : Stmt := topS 21
abbrev s_law : Stmt := topS 26
abbrev s_Full_init : Stmt := inClass (topS 15) 0
abbrev s_NoAxis_init : Stmt := inClass (topS 6) 0
abbrev s_NoCell_init : Stmt := inClass (topS 5) 0
abbrev s_NoLinear_init : Stmt := inClass (topS 12) 0
abbrev s_NoMember_init : Stmt := inClass (topS 7) 0
abbrev s_NoName_init : Stmt := inClass (topS 2) 0
abbrev s_NoRatio_init : Stmt := inClass (topS 3) 0
abbrev s_NoRows_init : Stmt := inClass (topS 11) 0
abbrev s_NoSpace_init : Stmt := inClass (topS 4) 0
abbrev s_NoSuch_init : Stmt := inClass (topS 16) 0
abbrev s_NoTable_init : Stmt := inClass (topS 10) 0
abbrev s_NoValues_init : Stmt := inClass (topS 17) 0
abbrev s_Twice_init : Stmt := inClass (topS 8) 0
theorem sc__law_kinds : FnScope ["_law_e", "_law_found"] ["_law_e"] (defScope s__law_kinds) := ⟨rfl, rfl, rfl, by decide +kernel, rfl, by decide +kernel, by decide +kernel⟩
theorem sc__law_alone : FnScope ["_law_made", "_law_k", "_law_j"] ["_law_made"] (defScope s__law_alone) := ⟨rfl, rfl, rfl, by decide +kernel, rfl, by decide +kernel, by decide +kernel⟩
theorem sc_Full_told : FnScope ["self"] ["self"] (defScope s_Full_told) := ⟨rfl, rfl, rfl, by decide +kernel, rfl, by decide +kernel, by decide +kernel⟩
theorem sc_NoAxis_told : FnScope ["self"] ["self"] (defScope s_NoAxis_told) := ⟨rfl, rfl, rfl, by decide +kernel, rfl, by decide +kernel, by decide +kernel⟩
theorem sc_NoCell_told : FnScope ["self"] ["self"] (defScope s_NoCell_told) := ⟨rfl, rfl, rfl, by decide +kernel, rfl, by decide +kernel, by decide +kernel⟩
theorem sc_NoLinear_told : FnScope ["self"] ["self"] (defScope s_NoLinear_told) := ⟨rfl, rfl, rfl, by decide +kernel, rfl, by decide +kernel, by decide +kernel⟩
theorem sc_NoMember_told : FnScope ["self"] ["self"] (defScope s_NoMember_told) := ⟨rfl, rfl, rfl, by decide +kernel, rfl, by decide +kernel, by decide +kernel⟩
theorem sc_NoName_told : FnScope ["self"] ["self"] (defScope s_NoName_told) := ⟨rfl, rfl, rfl, by decide +kernel, rfl, by decide +kernel, by decide +kernel⟩
theorem sc_NoPart_told : FnScope ["self"] ["self"] (defScope s_NoPart_told) := ⟨rfl, rfl, rfl, by decide +kernel, rfl, by decide +kernel, by decide +kernel⟩
theorem sc_NoQuotient_told : FnScope ["self"] ["self"] (defScope s_NoQuotient_told) := ⟨rfl, rfl, rfl, by decide +kernel, rfl, by decide +kernel, by decide +kernel⟩
theorem sc_NoRatio_told : FnScope ["self"] ["self"] (defScope s_NoRatio_told) := ⟨rfl, rfl, rfl, by decide +kernel, rfl, by decide +kernel, by decide +kernel⟩
theorem sc_NoRows_told : FnScope ["self"] ["self"] (defScope s_NoRows_told) := ⟨rfl, rfl, rfl, by decide +kernel, rfl, by decide +kernel, by decide +kernel⟩
theorem sc_NoSpace_told : FnScope ["self"] ["self"] (defScope s_NoSpace_told) := ⟨rfl, rfl, rfl, by decide +kernel, rfl, by decide +kernel, by decide +kernel⟩
theorem sc_NoSuch_told : FnScope ["self"] ["self"] (defScope s_NoSuch_told) := ⟨rfl, rfl, rfl, by decide +kernel, rfl, by decide +kernel, by decide +kernel⟩
theorem sc_NoTable_told : FnScope ["self"] ["self"] (defScope s_NoTable_told) := ⟨rfl, rfl, rfl, by decide +kernel, rfl, by decide +kernel, by decide +kernel⟩
theorem sc_NoValues_told : FnScope ["self"] ["self"] (defScope s_NoValues_told) := ⟨rfl, rfl, rfl, by decide +kernel, rfl, by decide +kernel, by decide +kernel⟩
theorem sc_OtherSpace_told : FnScope ["self"] ["self"] (defScope s_OtherSpace_told) := ⟨rfl, rfl, rfl, by decide +kernel, rfl, by decide +kernel, by decide +kernel⟩
theorem sc_PartError_told : FnScope ["self"] ["self"] (defScope s_PartError_told) := ⟨rfl, rfl, rfl, by decide +kernel, rfl, by decide +kernel, by decide +kernel⟩
theorem sc_Twice_told : FnScope ["self"] ["self"] (defScope s_Twice_told) := ⟨rfl, rfl, rfl, by decide +kernel, rfl, by decide +kernel, by decide +kernel⟩
theorem sc__law_base : FnScope ["_law_e", "_law_name"] ["_law_e", "_law_name"] (defScope s__law_base) := ⟨rfl, rfl, rfl, by decide +kernel, rfl, by decide +kernel, by decide +kernel⟩
theorem sc__law_fields : FnScope ["_law_made", "_law_one", "_law_other"] ["_law_made", "_law_one", "_law_other"] (defScope s__law_fields) := ⟨rfl, rfl, rfl, by decide +kernel, rfl, by decide +kernel, by decide +kernel⟩
theorem sc__law_value : FnScope ["_law_state"] ["_law_state"] (defScope s__law_value) := ⟨rfl, rfl, rfl, by decide +kernel, rfl, by decide +kernel, by decide +kernel⟩
theorem sc_law : FnScope ["_law_script", "_law_state", "_law_one", "_law_other", "_law_made", "_law_names", "_law_k", "_law_base_here"] ["_law_script"] (defScope s_law) := ⟨rfl, rfl, rfl, by decide +kernel, rfl, by decide +kernel, by decide +kernel⟩
end Pu
namespace Pu
open PySem PySem.Spec PyProof.Rows L2
theorem ok__law_kinds {P : Program} {w : World} {K : PySem.W.Frag} {mg : Str → Option Value} {base : Heap} {CT : Nat → Addr} {lay : Nat → List Str} {f : Addr} {fd : FuncData} (Fn : FunG K "_law_kinds" "_law_kinds" s__law_kinds f fd) (z_isinstance : mg "isinstance" = none) (c_NoCell : mg "NoCell" = some (.ref (CT cNoCell))) (ix_NoCell : IsxT K CT (.ref (CT cNoCell)) is_NoCell) (c_NoSpace : mg "NoSpace" = some (.ref (CT cNoSpace))) (ix_NoSpace : IsxT K CT (.ref (CT cNoSpace)) is_NoSpace) (c_NoRatio : mg "NoRatio" = some (.ref (CT cNoRatio))) (ix_NoRatio : IsxT K CT (.ref (CT cNoRatio)) is_NoRatio) (c_NoName : mg "NoName" = some (.ref (CT cNoName))) (ix_NoName : IsxT K CT (.ref (CT cNoName)) is_NoName) (c_Twice : mg "Twice" = some (.ref (CT cTwice))) (ix_Twice : IsxT K CT (.ref (CT cTwice)) is_Twice) (c_NoMember : mg "NoMember" = some (.ref (CT cNoMember))) (ix_NoMember : IsxT K CT (.ref (CT cNoMember)) is_NoMember) (c_NoAxis : mg "NoAxis" = some (.ref (CT cNoAxis))) (ix_NoAxis : IsxT K CT (.ref (CT cNoAxis)) is_NoAxis) (c_NoRows : mg "NoRows" = some (.ref (CT cNoRows))) (ix_NoRows : IsxT K CT (.ref (CT cNoRows)) is_NoRows) (c_NoTable : mg "NoTable" = some (.ref (CT cNoTable))) (ix_NoTable : IsxT K CT (.ref (CT cNoTable)) is_NoTable) (c_OtherSpace : mg "OtherSpace" = some (.ref (CT cOtherSpace))) (ix_OtherSpace : IsxT K CT (.ref (CT cOtherSpace)) is_OtherSpace) (c_NoPart : mg "NoPart" = some (.ref (CT cNoPart))) (ix_NoPart : IsxT K CT (.ref (CT cNoPart)) is_NoPart) (c_NoQuotient : mg "NoQuotient" = some (.ref (CT cNoQuotient))) (ix_NoQuotient : IsxT K CT (.ref (CT cNoQuotient)) is_NoQuotient) (c_NoLinear : mg "NoLinear" = some (.ref (CT cNoLinear))) (ix_NoLinear : IsxT K CT (.ref (CT cNoLinear)) is_NoLinear) (c_NoValues : mg "NoValues" = some (.ref (CT cNoValues))) (ix_NoValues : IsxT K CT (.ref (CT cNoValues)) is_NoValues) (c_NoSuch : mg "NoSuch" = some (.ref (CT cNoSuch))) (ix_NoSuch : IsxT K CT (.ref (CT cNoSuch)) is_NoSuch) (c_Full : mg "Full" = some (.ref (CT cFull))) (ix_Full : IsxT K CT (.ref (CT cFull)) is_Full) : FnOk P w K mg base (L2.CX P w) 1 f fd ["_law_e"] (spP CT lay S__law_kinds) := by
  refine fn_okG (k := 0) Fn sc__law_kinds pure__law_kinds fun B cdv A outer s H E hCT hlay hcur hr => ?_
  subst hCT hlay
  exact xss_cons (xs_set 1 (xe_lst (xa_cons (xe_isV (v := (.ref (B.W.CT cNoName))) ix_NoName z_isinstance boot_isinstance (fun _ h => h) (xe_var 0) (xe_gref c_NoName)) (xa_cons (xe_isV (v := (.ref (B.W.CT cNoRatio))) ix_NoRatio z_isinstance boot_isinstance (fun _ h => h) (xe_var 0) (xe_gref c_NoRatio)) (xa_cons (xe_isV (v := (.ref (B.W.CT cNoSpace))) ix_NoSpace z_isinstance boot_isinstance (fun _ h => h) (xe_var 0) (xe_gref c_NoSpace)) (xa_cons (xe_isV (v := (.ref (B.W.CT cNoCell))) ix_NoCell z_isinstance boot_isinstance (fun _ h => h) (xe_var 0) (xe_gref c_NoCell)) (xa_nil)))))) sc__law_kinds.nd) (xss_cons (xs_set 1 (xe_bin xo_add (xe_var 1) (xe_lst (xa_cons (xe_isV (v := (.ref (B.W.CT cNoAxis))) ix_NoAxis z_isinstance boot_isinstance (fun _ h => h) (xe_var 0) (xe_gref c_NoAxis)) (xa_cons (xe_isV (v := (.ref (B.W.CT cNoMember))) ix_NoMember z_isinstance boot_isinstance (fun _ h => h) (xe_var 0) (xe_gref c_NoMember)) (xa_cons (xe_isV (v := (.ref (B.W.CT cTwice))) ix_Twice z_isinstance boot_isinstance (fun _ h => h) (xe_var 0) (xe_gref c_Twice)) (xa_nil)))))) sc__law_kinds.nd) (xss_cons (xs_set 1 (xe_bin xo_add (xe_var 1) (xe_lst (xa_cons (xe_isV (v := (.ref (B.W.CT cOtherSpace))) ix_OtherSpace z_isinstance boot_isinstance (fun _ h => h) (xe_var 0) (xe_gref c_OtherSpace)) (xa_cons (xe_isV (v := (.ref (B.W.CT cNoTable))) ix_NoTable z_isinstance boot_isinstance (fun _ h => h) (xe_var 0) (xe_gref c_NoTable)) (xa_cons (xe_isV (v := (.ref (B.W.CT cNoRows))) ix_NoRows z_isinstance boot_isinstance (fun _ h => h) (xe_var 0) (xe_gref c_NoRows)) (xa_nil)))))) sc__law_kinds.nd) (xss_cons (xs_set 1 (xe_bin xo_add (xe_var 1) (xe_lst (xa_cons (xe_isV (v := (.ref (B.W.CT cNoLinear))) ix_NoLinear z_isinstance boot_isinstance (fun _ h => h) (xe_var 0) (xe_gref c_NoLinear)) (xa_cons (xe_isV (v := (.ref (B.W.CT cNoQuotient))) ix_NoQuotient z_isinstance boot_isinstance (fun _ h => h) (xe_var 0) (xe_gref c_NoQuotient)) (xa_cons (xe_isV (v := (.ref (B.W.CT cNoPart))) ix_NoPart z_isinstance boot_isinstance (fun _ h => h) (xe_var 0) (xe_gref c_NoPart)) (xa_nil)))))) sc__law_kinds.nd) (xss_one (xs_ret (xe_bin xo_add (xe_var 1) (xe_lst (xa_cons (xe_isV (v := (.ref (B.W.CT cFull))) ix_Full z_isinstance boot_isinstance (fun _ h => h) (xe_var 0) (xe_gref c_Full)) (xa_cons (xe_isV (v := (.ref (B.W.CT cNoSuch))) ix_NoSuch z_isinstance boot_isinstance (fun _ h => h) (xe_var 0) (xe_gref c_NoSuch)) (xa_cons (xe_isV (v := (.ref (B.W.CT cNoValues))) ix_NoValues z_isinstance boot_isinstance (fun _ h => h) (xe_var 0) (xe_gref c_NoValues)) (xa_nil)))))))))))
theorem ok__law_alone {P : Program} {w : World} {K : PySem.W.Frag} {mg : Str → Option Value} {base : Heap} {CT : Nat → Addr} {lay : Nat → List Str} {f : Addr} {fd : FuncData} (Fn : FunG K "_law_alone" "_law_alone" s__law_alone f fd) (z_range : mg "range" = none) (z_len : mg "len" = none) (h__law_kinds : FnAt P w K mg base CT lay 1 "_law_kinds" ["_law_e"] S__law_kinds) : FnOk P w K mg base (L2.CX P w) 2 f fd ["_law_made"] (spP CT lay S__law_alone) := by
  refine fn_okG (k := 1) Fn sc__law_alone pure__law_alone fun B cdv A outer s H E hCT hlay hcur hr => ?_
  subst hCT hlay
  exact xss_cons (xs_for po_fn (xi_range z_range (xa_cons (xe_callB xf_len z_len boot_len (xa_cons (xe_var 0) (xa_nil))) (xa_nil))) (fun _ => xg_name 1 sc__law_alone.nd) (fun _ => xss_one (xs_if (xt_cmp (xo_ne hr) (xe_callA h__law_kinds (hr.mono (by decide)) tk_fn (xa_cons (xe_ix (xe_var 0) (xe_var 1)) (xa_nil))) ((xn_lc (own := [("_law_j", 2)]) rfl sc__law_alone.nd (xi_range z_range (xa_cons (xe_int) (xa_nil))) (blkOk_by (N := n__law_alone) (sc := defScope s__law_alone) (by decide +kernel)) (fun _ _ _ _ _ => xv_name 2 sc__law_alone.nd) (fun _ _ _ _ _ => xts_nil) (fun _ _ _ _ _ => xe_cmp (xo_eq hr) (xe_var 2) (xe_var 1))).xe)) (xss_one (xs_ret (xe_bl))) (xss_nil)))) (xss_one (xs_ret (xe_cmp (xo_eq hr) (xe_callB xf_len z_len boot_len (xa_cons (xe_var 0) (xa_nil))) (xe_int))))
theorem ok_Full_told {P : Program} {w : World} {K : PySem.W.Frag} {mg : Str → Option Value} {base : Heap} {CT : Nat → Addr} {lay : Nat → List Str} {f : Addr} {fd : FuncData} (Fn : FunG K "told" "Full.told" s_Full_told f fd)  : FnOk P w K mg base (L2.CX P w) 1 f fd ["self"] (spP CT lay S_Full_told) := by
  refine fn_okG (k := 0) Fn sc_Full_told pure_Full_told fun B cdv A outer s H E hCT hlay hcur hr => ?_
  subst hCT hlay
  exact xss_one (xs_ret (xe_str))
theorem ok_NoAxis_told {P : Program} {w : World} {K : PySem.W.Frag} {mg : Str → Option Value} {base : Heap} {CT : Nat → Addr} {lay : Nat → List Str} {f : Addr} {fd : FuncData} (Fn : FunG K "told" "NoAxis.told" s_NoAxis_told f fd)  : FnOk P w K mg base (L2.CX P w) 1 f fd ["self"] (spP CT lay S_NoAxis_told) := by
  refine fn_okG (k := 0) Fn sc_NoAxis_told pure_NoAxis_told fun B cdv A outer s H E hCT hlay hcur hr => ?_
  subst hCT hlay
  exact xss_one (xs_ret (xe_str))
theorem ok_NoCell_told {P : Program} {w : World} {K : PySem.W.Frag} {mg : Str → Option Value} {base : Heap} {CT : Nat → Addr} {lay : Nat → List Str} {f : Addr} {fd : FuncData} (Fn : FunG K "told" "NoCell.told" s_NoCell_told f fd)  : FnOk P w K mg base (L2.CX P w) 1 f fd ["self"] (spP CT lay S_NoCell_told) := by
  refine fn_okG (k := 0) Fn sc_NoCell_told pure_NoCell_told fun B cdv A outer s H E hCT hlay hcur hr => ?_
  subst hCT hlay
  exact xss_one (xs_ret (xe_str))
theorem ok_NoLinear_told {P : Program} {w : World} {K : PySem.W.Frag} {mg : Str → Option Value} {base : Heap} {CT : Nat → Addr} {lay : Nat → List Str} {f : Addr} {fd : FuncData} (Fn : FunG K "told" "NoLinear.told" s_NoLinear_told f fd)  : FnOk P w K mg base (L2.CX P w) 1 f fd ["self"] (spP CT lay S_NoLinear_told) := by
  refine fn_okG (k := 0) Fn sc_NoLinear_told pure_NoLinear_told fun B cdv A outer s H E hCT hlay hcur hr => ?_
  subst hCT hlay
  exact xss_one (xs_ret (xe_str))
theorem ok_NoMember_told {P : Program} {w : World} {K : PySem.W.Frag} {mg : Str → Option Value} {base : Heap} {CT : Nat → Addr} {lay : Nat → List Str} {f : Addr} {fd : FuncData} (Fn : FunG K "told" "NoMember.told" s_NoMember_told f fd)  : FnOk P w K mg base (L2.CX P w) 1 f fd ["self"] (spP CT lay S_NoMember_told) := by
  refine fn_okG (k := 0) Fn sc_NoMember_told pure_NoMember_told fun B cdv A outer s H E hCT hlay hcur hr => ?_
  subst hCT hlay
  exact xss_one (xs_ret (xe_str))
theorem ok_NoName_told {P : Program} {w : World} {K : PySem.W.Frag} {mg : Str → Option Value} {base : Heap} {CT : Nat → Addr} {lay : Nat → List Str} {f : Addr} {fd : FuncData} (Fn : FunG K "told" "NoName.told" s_NoName_told f fd)  : FnOk P w K mg base (L2.CX P w) 1 f fd ["self"] (spP CT lay S_NoName_told) := by
  refine fn_okG (k := 0) Fn sc_NoName_told pure_NoName_told fun B cdv A outer s H E hCT hlay hcur hr => ?_
  subst hCT hlay
  exact xss_one (xs_ret (xe_str))
theorem ok_NoPart_told {P : Program} {w : World} {K : PySem.W.Frag} {mg : Str → Option Value} {base : Heap} {CT : Nat → Addr} {lay : Nat → List Str} {f : Addr} {fd : FuncData} (Fn : FunG K "told" "NoPart.told" s_NoPart_told f fd)  : FnOk P w K mg base (L2.CX P w) 1 f fd ["self"] (spP CT lay S_NoPart_told) := by
  refine fn_okG (k := 0) Fn sc_NoPart_told pure_NoPart_told fun B cdv A outer s H E hCT hlay hcur hr => ?_
  subst hCT hlay
  exact xss_one (xs_ret (xe_str))
theorem ok_NoQuotient_told {P : Program} {w : World} {K : PySem.W.Frag} {mg : Str → Option Value} {base : Heap} {CT : Nat → Addr} {lay : Nat → List Str} {f : Addr} {fd : FuncData} (Fn : FunG K "told" "NoQuotient.told" s_NoQuotient_told f fd)  : FnOk P w K mg base (L2.CX P w) 1 f fd ["self"] (spP CT lay S_NoQuotient_told) := by
  refine fn_okG (k := 0) Fn sc_NoQuotient_told pure_NoQuotient_told fun B cdv A outer s H E hCT hlay hcur hr => ?_
  subst hCT hlay
  exact xss_one (xs_ret (xe_str))
theorem ok_NoRatio_told {P : Program} {w : World} {K : PySem.W.Frag} {mg : Str → Option Value} {base : Heap} {CT : Nat → Addr} {lay : Nat → List Str} {f : Addr} {fd : FuncData} (Fn : FunG K "told" "NoRatio.told" s_NoRatio_told f fd)  : FnOk P w K mg base (L2.CX P w) 1 f fd ["self"] (spP CT lay S_NoRatio_told) := by
  refine fn_okG (k := 0) Fn sc_NoRatio_told pure_NoRatio_told fun B cdv A outer s H E hCT hlay hcur hr => ?_
  subst hCT hlay
  exact xss_one (xs_ret (xe_str))
theorem ok_NoRows_told {P : Program} {w : World} {K : PySem.W.Frag} {mg : Str → Option Value} {base : Heap} {CT : Nat → Addr} {lay : Nat → List Str} {f : Addr} {fd : FuncData} (Fn : FunG K "told" "NoRows.told" s_NoRows_told f fd)  : FnOk P w K mg base (L2.CX P w) 1 f fd ["self"] (spP CT lay S_NoRows_told) := by
  refine fn_okG (k := 0) Fn sc_NoRows_told pure_NoRows_told fun B cdv A outer s H E hCT hlay hcur hr => ?_
  subst hCT hlay
  exact xss_one (xs_ret (xe_str))
theorem ok_NoSpace_told {P : Program} {w : World} {K : PySem.W.Frag} {mg : Str → Option Value} {base : Heap} {CT : Nat → Addr} {lay : Nat → List Str} {f : Addr} {fd : FuncData} (Fn : FunG K "told" "NoSpace.told" s_NoSpace_told f fd)  : FnOk P w K mg base (L2.CX P w) 1 f fd ["self"] (spP CT lay S_NoSpace_told) := by
  refine fn_okG (k := 0) Fn sc_NoSpace_told pure_NoSpace_told fun B cdv A outer s H E hCT hlay hcur hr => ?_
  subst hCT hlay
  exact xss_one (xs_ret (xe_str))
theorem ok_NoSuch_told {P : Program} {w : World} {K : PySem.W.Frag} {mg : Str → Option Value} {base : Heap} {CT : Nat → Addr} {lay : Nat → List Str} {f : Addr} {fd : FuncData} (Fn : FunG K "told" "NoSuch.told" s_NoSuch_told f fd)  : FnOk P w K mg base (L2.CX P w) 1 f fd ["self"] (spP CT lay S_NoSuch_told) := by
  refine fn_okG (k := 0) Fn sc_NoSuch_told pure_NoSuch_told fun B cdv A outer s H E hCT hlay hcur hr => ?_
  subst hCT hlay
  exact xss_one (xs_ret (xe_str))
theorem ok_NoTable_told {P : Program} {w : World} {K : PySem.W.Frag} {mg : Str → Option Value} {base : Heap} {CT : Nat → Addr} {lay : Nat → List Str} {f : Addr} {fd : FuncData} (Fn : FunG K "told" "NoTable.told" s_NoTable_told f fd)  : FnOk P w K mg base (L2.CX P w) 1 f fd ["self"] (spP CT lay S_NoTable_told) := by
  refine fn_okG (k := 0) Fn sc_NoTable_told pure_NoTable_told fun B cdv A outer s H E hCT hlay hcur hr => ?_
  subst hCT hlay
  exact xss_one (xs_ret (xe_str))
theorem ok_NoValues_told {P : Program} {w : World} {K : PySem.W.Frag} {mg : Str → Option Value} {base : Heap} {CT : Nat → Addr} {lay : Nat → List Str} {f : Addr} {fd : FuncData} (Fn : FunG K "told" "NoValues.told" s_NoValues_told f fd)  : FnOk P w K mg base (L2.CX P w) 1 f fd ["self"] (spP CT lay S_NoValues_told) := by
  refine fn_okG (k := 0) Fn sc_NoValues_told pure_NoValues_told fun B cdv A outer s H E hCT hlay hcur hr => ?_
  subst hCT hlay
  exact xss_one (xs_ret (xe_str))
theorem ok_OtherSpace_told {P : Program} {w : World} {K : PySem.W.Frag} {mg : Str → Option Value} {base : Heap} {CT : Nat → Addr} {lay : Nat → List Str} {f : Addr} {fd : FuncData} (Fn : FunG K "told" "OtherSpace.told" s_OtherSpace_told f fd)  : FnOk P w K mg base (L2.CX P w) 1 f fd ["self"] (spP CT lay S_OtherSpace_told) := by
  refine fn_okG (k := 0) Fn sc_OtherSpace_told pure_OtherSpace_told fun B cdv A outer s H E hCT hlay hcur hr => ?_
  subst hCT hlay
  exact xss_one (xs_ret (xe_str))
theorem ok_PartError_told {P : Program} {w : World} {K : PySem.W.Frag} {mg : Str → Option Value} {base : Heap} {CT : Nat → Addr} {lay : Nat → List Str} {f : Addr} {fd : FuncData} (Fn : FunG K "told" "PartError.told" s_PartError_told f fd)  : FnOk P w K mg base (L2.CX P w) 1 f fd ["self"] (spP CT lay S_PartError_told) := by
  refine fn_okG (k := 0) Fn sc_PartError_told pure_PartError_told fun B cdv A outer s H E hCT hlay hcur hr => ?_
  subst hCT hlay
  exact xss_one (xs_ret (xe_str))
theorem ok_Twice_told {P : Program} {w : World} {K : PySem.W.Frag} {mg : Str → Option Value} {base : Heap} {CT : Nat → Addr} {lay : Nat → List Str} {f : Addr} {fd : FuncData} (Fn : FunG K "told" "Twice.told" s_Twice_told f fd)  : FnOk P w K mg base (L2.CX P w) 1 f fd ["self"] (spP CT lay S_Twice_told) := by
  refine fn_okG (k := 0) Fn sc_Twice_told pure_Twice_told fun B cdv A outer s H E hCT hlay hcur hr => ?_
  subst hCT hlay
  exact xss_one (xs_ret (xe_str))
theorem ok__law_base {P : Program} {w : World} {K : PySem.W.Frag} {mg : Str → Option Value} {base : Heap} {CT : Nat → Addr} {lay : Nat → List Str} {f : Addr} {fd : FuncData} (Fn : FunG K "_law_base" "_law_base" s__law_base f fd) (z_isinstance : mg "isinstance" = none) (c_PartError : mg "PartError" = some (.ref (CT cPartError))) (ix_PartError : IsxT K CT (.ref (CT cPartError)) is_PartError) (z_ValueError : mg "ValueError" = none) (ix_ValueError : IsxT K CT (.type "ValueError") is_ValueError) (mx_told : ∀ q ∈ tb_told, MXnt P w K mg base CT lay 1 "told" 0 q) (clsX : ClsX K CT csL) (z_str : mg "str" = none) : FnOk P w K mg base (L2.CX P w) 2 f fd ["_law_e", "_law_name"] (spP CT lay S__law_base) := by
  refine fn_okG (k := 1) Fn sc__law_base pure__law_base fun B cdv A outer s H E hCT hlay hcur hr => ?_
  subst hCT hlay
  exact xss_cons (xs_if ((xw_or (xt_not (xt_val (xe_isV (v := (.ref (B.W.CT cPartError))) ix_PartError z_isinstance boot_isinstance (fun _ h => h) (xe_var 0) (xe_gref c_PartError)))) (xw_or1 (xt_not (xt_val (xe_isV (v := (.ty "ValueError")) ix_ValueError z_isinstance boot_isinstance (fun _ h => h) (xe_var 0) (xe_bty z_ValueError Boot.«ValueError»)))))).xt) (xss_one (xs_ret (xe_bl))) (xss_nil)) (xss_one (xs_ret (xe_and (xe_isi (cs := csL) (t := .b "str") clsX (tyOk_of (by decide)) z_isinstance boot_isinstance (xe_methX0 mx_told (hr.mono (by decide)) tk_fn (xe_var 0)) (xe_bty z_str boot_str)) (xe_one (xe_cmp (xo_eq hr) (xe_methX0 mx_told (hr.mono (by decide)) tk_fn (xe_var 0)) (xe_bin xo_add (xe_str) (xe_var 1)))))))
theorem ok__law_fields {P : Program} {w : World} {K : PySem.W.Frag} {mg : Str → Option Value} {base : Heap} {CT : Nat → Addr} {lay : Nat → List Str} {f : Addr} {fd : FuncData} (Fn : FunG K "_law_fields" "_law_fields" s__law_fields f fd) (xf_name_NoName_Twice_NoSuch_NoValues : XfOk K CT lay "name" [(cNoName, 0), (cTwice, 0), (cNoSuch, 0), (cNoValues, 0)]) (xf_word_NoRatio_NoSpace_NoTable_NoLinear : XfOk K CT lay "word" [(cNoRatio, 0), (cNoSpace, 1), (cNoTable, 1), (cNoLinear, 0)]) (xf_place_NoSpace_NoTable : XfOk K CT lay "place" [(cNoSpace, 0), (cNoTable, 0)]) (xf_cell_NoCell_NoRows : XfOk K CT lay "cell" [(cNoCell, 0), (cNoRows, 0)]) (xf_axis_NoAxis : XfOk K CT lay "axis" [(cNoAxis, 0)]) (xf_member_NoMember : XfOk K CT lay "member" [(cNoMember, 0)]) (xf_value_NoRows : XfOk K CT lay "value" [(cNoRows, 1)]) (xf_number_Full : XfOk K CT lay "number" [(cFull, 0)]) : FnOk P w K mg base (L2.CX P w) 1 f fd ["_law_made", "_law_one", "_law_other"] (spP CT lay S__law_fields) := by
  refine fn_okG (k := 0) Fn sc__law_fields pure__law_fields fun B cdv A outer s H E hCT hlay hcur hr => ?_
  subst hCT hlay
  exact xss_cons (xs_if ((xw_or (xt_cmp (xo_neK hr) (xe_fxV xf_name_NoName_Twice_NoSuch_NoValues (xe_ix (xe_var 0) (xe_int))) (xe_var 1)) (xw_or (xt_cmp (xo_neK hr) (xe_fxV xf_word_NoRatio_NoSpace_NoTable_NoLinear (xe_ix (xe_var 0) (xe_int))) (xe_var 1)) (xw_or (xt_cmp (xo_neK hr) (xe_fxV xf_place_NoSpace_NoTable (xe_ix (xe_var 0) (xe_int))) (xe_var 1)) (xw_or1 (xt_cmp (xo_neK hr) (xe_fxV xf_word_NoRatio_NoSpace_NoTable_NoLinear (xe_ix (xe_var 0) (xe_int))) (xe_var 2)))))).xt) (xss_one (xs_ret (xe_bl))) (xss_nil)) (xss_cons (xs_if ((xw_or (xt_cmp (xo_neK hr) (xe_fxV xf_cell_NoCell_NoRows (xe_ix (xe_var 0) (xe_int))) (xe_var 1)) (xw_or (xt_cmp (xo_neK hr) (xe_fxV xf_axis_NoAxis (xe_ix (xe_var 0) (xe_int))) (xe_var 1)) (xw_or (xt_cmp (xo_neK hr) (xe_fxV xf_member_NoMember (xe_ix (xe_var 0) (xe_int))) (xe_var 1)) (xw_or1 (xt_cmp (xo_neK hr) (xe_fxV xf_name_NoName_Twice_NoSuch_NoValues (xe_ix (xe_var 0) (xe_int))) (xe_var 1)))))).xt) (xss_one (xs_ret (xe_bl))) (xss_nil)) (xss_cons (xs_if ((xw_or (xt_cmp (xo_neK hr) (xe_fxV xf_place_NoSpace_NoTable (xe_ix (xe_var 0) (xe_int))) (xe_var 1)) (xw_or (xt_cmp (xo_neK hr) (xe_fxV xf_word_NoRatio_NoSpace_NoTable_NoLinear (xe_ix (xe_var 0) (xe_int))) (xe_var 2)) (xw_or (xt_cmp (xo_neK hr) (xe_fxV xf_cell_NoCell_NoRows (xe_ix (xe_var 0) (xe_int))) (xe_var 1)) (xw_or1 (xt_cmp (xo_neK hr) (xe_fxV xf_value_NoRows (xe_ix (xe_var 0) (xe_int))) (xe_var 2)))))).xt) (xss_one (xs_ret (xe_bl))) (xss_nil)) (xss_one (xs_ret (xe_and (xe_cmp (xo_eqK hr) (xe_fxV xf_word_NoRatio_NoSpace_NoTable_NoLinear (xe_ix (xe_var 0) (xe_int))) (xe_var 1)) (xe_and (xe_cmp (xo_eqK hr) (xe_fxV xf_number_Full (xe_ix (xe_var 0) (xe_int))) (xe_var 1)) (xe_and (xe_cmp (xo_eqK hr) (xe_fxV xf_name_NoName_Twice_NoSuch_NoValues (xe_ix (xe_var 0) (xe_int))) (xe_var 1)) (xe_one (xe_cmp (xo_eqK hr) (xe_fxV xf_name_NoName_Twice_NoSuch_NoValues (xe_ix (xe_var 0) (xe_int))) (xe_var 1))))))))))
theorem ok__law_value {P : Program} {w : World} {K : PySem.W.Frag} {mg : Str → Option Value} {base : Heap} {CT : Nat → Addr} {lay : Nat → List Str} {f : Addr} {fd : FuncData} (Fn : FunG K "_law_value" "_law_value" s__law_value f fd) (h__law_draw : FnAt P w K mg base CT lay 1 "_law_draw" ["_law_state", "_law_many"] oDraw) : FnOk P w K mg base (L2.CX P w) 2 f fd ["_law_state"] (spP CT lay S__law_value) := by
  refine fn_okG (k := 1) Fn sc__law_value pure__law_value fun B cdv A outer s H E hCT hlay hcur hr => ?_
  subst hCT hlay
  exact xss_one (xs_ret (xe_ix (xe_lst (xa_cons (xe_non) (xa_cons (xe_int) (xa_cons (xe_un xu_neg (xe_int)) (xa_cons (xe_bin xo_pow (xe_int) (xe_int)) (xa_cons (xe_str) (xa_cons (xe_str) (xa_cons (xe_lst (xa_cons (xe_str) (xa_nil))) (xa_cons (xe_tup (xa_cons (xe_str) (xa_cons (xe_int) (xa_nil)))) (xa_cons (xe_dict1) (xa_cons (xe_bl) (xa_nil)))))))))))) (xe_callA h__law_draw (hr.mono (by decide)) tk_fn (xa_cons (xe_var 0) (xa_cons (xe_int) (xa_nil))))))
theorem ok_law {P : Program} {w : World} {K : PySem.W.Frag} {mg : Str → Option Value} {base : Heap} {CT : Nat → Addr} {lay : Nat → List Str} {f : Addr} {fd : FuncData} (Fn : FunG K "law" "law" s_law f fd) (h__law_value : FnAt P w K mg base CT lay 2 "_law_value" ["_law_state"] S__law_value) (x_Twice : XnAt P w K mg base CT lay 1 "Twice" cTwice ["self", "name"]) (n_Twice : (lay cTwice).length = 1) (x_NoMember : XnAt P w K mg base CT lay 1 "NoMember" cNoMember ["self", "member"]) (n_NoMember : (lay cNoMember).length = 1) (x_NoAxis : XnAt P w K mg base CT lay 1 "NoAxis" cNoAxis ["self", "axis"]) (n_NoAxis : (lay cNoAxis).length = 1) (x_NoCell : XnAt P w K mg base CT lay 1 "NoCell" cNoCell ["self", "cell"]) (n_NoCell : (lay cNoCell).length = 1) (x_NoSpace : XnAt P w K mg base CT lay 1 "NoSpace" cNoSpace ["self", "place", "word"]) (n_NoSpace : (lay cNoSpace).length = 2) (x_NoRatio : XnAt P w K mg base CT lay 1 "NoRatio" cNoRatio ["self", "word"]) (n_NoRatio : (lay cNoRatio).length = 1) (x_NoName : XnAt P w K mg base CT lay 1 "NoName" cNoName ["self", "name"]) (n_NoName : (lay cNoName).length = 1) (x_NoPart : XnAt0 K mg CT lay "NoPart" cNoPart) (x_NoQuotient : XnAt0 K mg CT lay "NoQuotient" cNoQuotient) (x_NoLinear : XnAt P w K mg base CT lay 1 "NoLinear" cNoLinear ["self", "word"]) (n_NoLinear : (lay cNoLinear).length = 1) (x_NoRows : XnAt P w K mg base CT lay 1 "NoRows" cNoRows ["self", "cell", "value"]) (n_NoRows : (lay cNoRows).length = 2) (x_NoTable : XnAt P w K mg base CT lay 1 "NoTable" cNoTable ["self", "place", "word"]) (n_NoTable : (lay cNoTable).length = 2) (x_OtherSpace : XnAt0 K mg CT lay "OtherSpace" cOtherSpace) (x_NoValues : XnAt P w K mg base CT lay 1 "NoValues" cNoValues ["self", "name"]) (n_NoValues : (lay cNoValues).length = 1) (x_NoSuch : XnAt P w K mg base CT lay 1 "NoSuch" cNoSuch ["self", "name"]) (n_NoSuch : (lay cNoSuch).length = 1) (x_Full : XnAt P w K mg base CT lay 1 "Full" cFull ["self", "number"]) (n_Full : (lay cFull).length = 1) (z_range : mg "range" = none) (h__law_base : FnAt P w K mg base CT lay 2 "_law_base" ["_law_e", "_law_name"] S__law_base) (x_PartError : XnAt0 K mg CT lay "PartError" cPartError) (h__law_kinds : FnAt P w K mg base CT lay 1 "_law_kinds" ["_law_e"] S__law_kinds) (h__law_alone : FnAt P w K mg base CT lay 2 "_law_alone" ["_law_made"] S__law_alone) (h__law_fields : FnAt P w K mg base CT lay 1 "_law_fields" ["_law_made", "_law_one", "_law_other"] S__law_fields) {fS : Addr} {fdS : FuncData} (FS : FnOk P w K mg base (L2.CX P w) 1 fS fdS ["_law_script"] (spStart K)) (mS : mg "_law_start" = some (.ref fS)) (kpS : PySem.W.keepIn K (.ref fS) = true) (bS : Binds K fdS ["_law_script"] []) : FnOk P w K mg base (L2.CX P w) 3 f fd ["_law_script"] (spLaw K) := by
  refine law_ok (CT := CT) (lay := lay) (k := 2) (rest := (defBody s_law).tail) Fn sc_law rfl FS (by decide) mS kpS bS rfl rfl (fun _ _ _ => ⟨Or.inl rfl, Or.inl rfl, rfl, rfl, rfl⟩) (fun B cdv A outer s H E hCT hlay hcur h0 hr => ?_) pure_law
  subst hCT hlay
  exact xss_cons (xs_set 2 (xe_callA h__law_value (hr.mono (by decide)) tk_fn (xa_cons (xe_var 1) (xa_nil))) sc_law.nd) (xss_cons (xs_set 3 (xe_callA h__law_value (hr.mono (by decide)) tk_fn (xa_cons (xe_var 1) (xa_nil))) sc_law.nd) (xss_cons (xs_set 4 (xe_lst (xa_cons (xe_mkV x_NoName (hr.mono (by decide)) n_NoName tk_fn (xa_cons (xe_var 2) (xa_nil))) (xa_cons (xe_mkV x_NoRatio (hr.mono (by decide)) n_NoRatio tk_fn (xa_cons (xe_var 2) (xa_nil))) (xa_cons (xe_mkV x_NoSpace (hr.mono (by decide)) n_NoSpace tk_fn (xa_cons (xe_var 2) (xa_cons (xe_var 3) (xa_nil)))) (xa_cons (xe_mkV x_NoCell (hr.mono (by decide)) n_NoCell tk_fn (xa_cons (xe_var 2) (xa_nil))) (xa_cons (xe_mkV x_NoAxis (hr.mono (by decide)) n_NoAxis tk_fn (xa_cons (xe_var 2) (xa_nil))) (xa_cons (xe_mkV x_NoMember (hr.mono (by decide)) n_NoMember tk_fn (xa_cons (xe_var 2) (xa_nil))) (xa_cons (xe_mkV x_Twice (hr.mono (by decide)) n_Twice tk_fn (xa_cons (xe_var 2) (xa_nil))) (xa_nil))))))))) sc_law.nd) (xss_cons (xs_set 4 (xe_bin xo_add (xe_var 4) (xe_lst (xa_cons (xe_mkV0 x_OtherSpace) (xa_cons (xe_mkV x_NoTable (hr.mono (by decide)) n_NoTable tk_fn (xa_cons (xe_var 2) (xa_cons (xe_var 3) (xa_nil)))) (xa_cons (xe_mkV x_NoRows (hr.mono (by decide)) n_NoRows tk_fn (xa_cons (xe_var 2) (xa_cons (xe_var 3) (xa_nil)))) (xa_cons (xe_mkV x_NoLinear (hr.mono (by decide)) n_NoLinear tk_fn (xa_cons (xe_var 2) (xa_nil))) (xa_cons (xe_mkV0 x_NoQuotient) (xa_cons (xe_mkV0 x_NoPart) (xa_nil))))))))) sc_law.nd) (xss_cons (xs_set 4 (xe_bin xo_add (xe_var 4) (xe_lst (xa_cons (xe_mkV x_Full (hr.mono (by decide)) n_Full tk_fn (xa_cons (xe_var 2) (xa_nil))) (xa_cons (xe_mkV x_NoSuch (hr.mono (by decide)) n_NoSuch tk_fn (xa_cons (xe_var 2) (xa_nil))) (xa_cons (xe_mkV x_NoValues (hr.mono (by decide)) n_NoValues tk_fn (xa_cons (xe_var 2) (xa_nil))) (xa_nil)))))) sc_law.nd) (xss_cons (xs_set 5 (xe_lst (xa_cons (xe_str) (xa_cons (xe_str) (xa_cons (xe_str) (xa_cons (xe_str) (xa_cons (xe_str) (xa_cons (xe_str) (xa_cons (xe_str) (xa_cons (xe_str) (xa_cons (xe_str) (xa_nil))))))))))) sc_law.nd) (xss_cons (xs_set 5 (xe_bin xo_add (xe_var 5) (xe_lst (xa_cons (xe_str) (xa_cons (xe_str) (xa_cons (xe_str) (xa_cons (xe_str) (xa_cons (xe_str) (xa_cons (xe_str) (xa_cons (xe_str) (xa_nil)))))))))) sc_law.nd) (xss_cons (xs_for po_fn (xi_range z_range (xa_cons (xe_int) (xa_nil))) (fun _ => xg_name 6 sc_law.nd) (fun _ => xss_one (xs_if (xt_not (xt_val (xe_callA h__law_base (hr.mono (by decide)) tk_fn (xa_cons (xe_ix (xe_var 4) (xe_var 6)) (xa_cons (xe_ix (xe_var 5) (xe_var 6)) (xa_nil)))))) (xss_one (xs_ret (xe_bl))) (xss_nil)))) (xss_cons (xs_set 7 (xe_mkV0 x_PartError) sc_law.nd) (xss_cons (xs_if ((xw_or (xt_not (xt_val (xe_callA h__law_base (hr.mono (by decide)) tk_fn (xa_cons (xe_var 7) (xa_cons (xe_str) (xa_nil)))))) (xw_or1 (xt_cmp (xo_ne hr) (xe_callA h__law_kinds (hr.mono (by decide)) tk_fn (xa_cons (xe_var 7) (xa_nil))) (xe_bin xo_rep (xe_lst (xa_cons (xe_bl) (xa_nil))) (xe_int))))).xt) (xss_one (xs_ret (xe_bl))) (xss_nil)) (xss_one (xs_ret (xe_and (xe_callA h__law_alone (hr.mono (by decide)) tk_fn (xa_cons (xe_var 4) (xa_nil))) (xe_one (xe_callA h__law_fields (hr.mono (by decide)) tk_fn (xa_cons (xe_var 4) (xa_cons (xe_var 2) (xa_cons (xe_var 3) (xa_nil))))))))))))))))))
end Pu
namespace Pu
open PySem PySem.Spec PyProof.Rows L2
open PySem.W (findIn isFn kitOne)
/-! ## the law's start and draw -/
/-- the built-in names of the text -/
structure Bl (mg : Str → Option Value) : Prop where
  gInt : mg "int" = none
  gLen : mg "len" = none
section
variable {P : Program} {w : World} {K : PySem.W.Frag} {mg : Str → Option Value} {base : Heap}
theorem cut_ints (ns : List Int) (lo hi : Option Int) : ∃ cs : List Int, cutV (ns.map V.int) lo hi = cs.map V.int ∧ cs.length ≤ ns.length := by
  refine ⟨(ns.drop (HT.sIx (ns.map V.int).length 0 lo)).take (HT.sIx (ns.map V.int).length (ns.map V.int).length hi - HT.sIx (ns.map V.int).length 0 lo), ?_, ?_⟩
  · unfold cutV
    rw [List.map_take, List.map_drop]
  · rw [List.length_take, List.length_drop]
    omega
theorem scSt : FnScope ["_law_script", "_law_cell"] ["_law_script"] (defScope s__law_start) := ⟨rfl, rfl, rfl, by decide +kernel, rfl, by decide +kernel, by decide +kernel⟩
theorem ok_lstart {f : Addr} {fd : FuncData} (F : Fun K "_law_start" "_law_start" s__law_start f fd) (T : Bl mg) : FnOk P w K mg base CX0 1 f fd ["_law_script"] (spStart K) := by
  refine F.ok scSt (fun vs H Q E h => ?_) (fun cdv A outer s H vs Q E hr h => ?_)
  · obtain ⟨a, ns, rfl, _⟩ := h
    rfl
  · obtain ⟨a, ns, rfl, hS, hl, k⟩ := h
    refine ⟨_, pss_one (ps_ret (pe_lst (pa_cons (pe_op op_cat
        (pe_lc (own := [("_law_cell", 1)]) (g := gName 1) (tt := tYes) rfl scSt.nd (pi_list (pe_slice sl_list (pv 0) po_none (po_some pe_int))) (blkOk_by (N := ["_law_script", "_law_cell"]) (sc := defScope s__law_start) (by decide +kernel))
          (fun _ _ _ _ _ => pg_name (i := 1) scSt.nd rfl (Or.inl rfl)) (fun _ _ _ _ _ => pts_nil) (fun _ _ _ _ _ => pe_callTy call_int1 (by rfl) T.gInt PyProof.Rows.boot_int (pa_cons (pv 1) pa_nil)))
        (pe_lst (pa_cons (pe_callB call_len_seq (by rfl) T.gLen PySem.boot_len (pa_cons (pv 0) pa_nil)) pa_nil))) (pa_cons pe_int (pa_cons pe_int pa_nil))))), ?_⟩
    obtain ⟨cs, ec, hc⟩ := cut_ints ns none (some 63)
    refine ⟨_, rfl, _, rfl, a, _, rfl, hS, fun p np => ?_⟩
    rw [ec]
    refine ⟨p, rfl, ⟨_, SqL.of upd_same⟩, fun D nD => ?_⟩
    have npD : p ≠ D := fun z => by rw [z, upd_same] at nD; cases nD
    have hD0 : H D = none := by rw [upd_ne (Ne.symm npD)] at nD; exact nD
    refine lc_list (K := K) (a := p) (xs := cs.map V.int) (fun i H' => Same H H' ∧ H' p = some (.lst (cs.map V.int)) ∧ H' D = some (.lst ((cs.take i).map V.int))) ⟨fun c o e => ?_, by rw [upd_ne npD, upd_same], by rw [upd_same]; rfl⟩ (fun i H' _ h => SqL.of h.2.1) ?_ ?_
    · rw [upd_ne (ne_of_none e hD0), upd_ne (ne_of_none e np)]
      exact e
    · intro i x H' hx ⟨sm, hp, hD⟩
      rw [List.getElem?_map] at hx
      cases hz : cs[i]? with
      | none => rw [hz] at hx; cases hx
      | some z =>
        rw [hz] at hx
        obtain rfl : V.int z = x := Option.some.inj hx
        have hlt : i < cs.length := (List.getElem?_eq_some_iff.mp hz).1
        refine ⟨rfl, ?_⟩
        refine ⟨_, rfl, .inl ⟨z, rfl, _, hD, small1000 (by rw [List.length_map, List.length_take]; omega), fun c o e => ?_, ?_, ?_⟩⟩
        · rw [upd_ne (ne_of_none e hD0)]
          exact sm c o e
        · rw [upd_ne npD]
          exact hp
        · rw [upd_same, List.take_add_one, hz, List.map_append]
          rfl
    · rintro H' ⟨sm, hp, hD⟩
      rw [List.length_map, List.take_length] at hD
      refine ⟨_, rfl, a, _, rfl, .inl (sm.seq hS), (by show 1 ≤ sizeLine; decide), fun l2 n2 => ?_⟩
      have e1 : D ≠ l2 := ne_of_none hD n2
      refine ⟨D, l2, _, _, rfl, rfl, by rw [upd_ne e1]; exact hD, upd_same, ?_, fun q nq => ⟨(by show 3 ≤ sizeLine; decide), fun r nr => ?_⟩⟩
      · have := small1000 (n := cs.length + 1) (by omega)
        rw [List.length_map]
        exact Nat.le_of_lt this
      · have nq' : H' q = none := by
          have := ne_of_none (upd_same (H := H') (a := l2) (o := .lst [.int (List.map V.int ns).length])) nq
          rw [upd_ne (Ne.symm this)] at nq
          exact nq
        have nqr : q ≠ r := ne_of_none upd_same nr
        have nr' : H' r = none := by
          rw [upd_ne (Ne.symm nqr)] at nr
          have := ne_of_none (upd_same (H := H') (a := l2) (o := .lst [.int (List.map V.int ns).length])) nr
          rw [upd_ne (Ne.symm this)] at nr
          exact nr
        refine k _ r q (fun c o e => ?_) ⟨0, 0, cs ++ [((List.map V.int ns).length : Int)], upd_same, ?_, by simp, by simp; omega⟩
        · have h' := sm c o e
          rw [upd_ne (ne_of_none h' nr'), upd_ne (ne_of_none h' nq'), upd_ne (ne_of_none h' n2)]
          exact h'
        · rw [upd_ne nqr, upd_same, List.map_append]
          rfl
end
section
variable {P : Program} {w : World} {K : PySem.W.Frag} {mg : Str → Option Value} {base : Heap}
theorem ixN_nat {n j : Nat} (h : j < n) : ixN n (j : Int) = some j := by
  unfold ixN
  rw [if_pos (by omega), if_pos (by omega)]
  simp
theorem fmod_pos {a m : Int} (h : 0 < m) : 0 ≤ a.fmod m ∧ a.fmod m < m := ⟨Int.fmod_nonneg_of_pos a h, Int.fmod_lt_of_pos a h⟩
theorem emod_pos {a m : Int} (h : 0 < m) : 0 ≤ a % m ∧ a % m < m := ⟨Int.emod_nonneg a (by omega), Int.emod_lt_of_pos a h⟩
theorem scDr : FnScope ["_law_state", "_law_many", "_law_cells", "_law_at", "_law_cell", "_law_one"] ["_law_state", "_law_many"] (defScope s__law_draw) := ⟨rfl, rfl, rfl, by decide +kernel, rfl, by decide +kernel, by decide +kernel⟩
theorem ok_ldraw {f : Addr} {fd : FuncData} (F : Fun K "_law_draw" "_law_draw" s__law_draw f fd) (T : Bl mg) : FnOk P w K mg base CX0 1 f fd ["_law_state", "_law_many"] spDraw := by
  refine F.ok scDr (fun vs H Q E h => ?_) (fun cdv A outer s H vs Q E hr h => ?_)
  · obtain ⟨s, l, m, rfl, _⟩ := h
    rfl
  · obtain ⟨s, l, m, rfl, L, m0, m1, k⟩ := h
    have hne := L.ne
    obtain ⟨i, n, cs, e1, e2, c0, c1⟩ := id L
    refine ⟨_, pss_cons (ps_set (i := 2) scDr.nd rfl (Or.inl rfl) (pe_ix ix_list (pv 0) pe_int (fun _ _ => rfl)))
      (pss_cons (ps_set (i := 3) scDr.nd rfl (Or.inl rfl) (pe_op op_modN (pe_callTy call_int1 (by rfl) T.gInt PyProof.Rows.boot_int (pa_cons (pe_ix ix_list (pv 0) pe_int (fun _ _ => rfl)) pa_nil)) (pe_callB call_len_seq (by rfl) T.gLen PySem.boot_len (pa_cons (pv 2) pa_nil))))
      (pss_cons (ps_asg (pe_op op_add (pe_ix ix_list (pv 0) pe_int (fun _ _ => rfl)) pe_int) (pg_sub (pv 0) pe_int set_list))
      (pss_cons (ps_set (i := 4) scDr.nd rfl (Or.inl rfl) (pe_ix ix_list (pv 2) (pv 3) (fun _ _ => rfl)))
      (pss_cons (ps_if (pt_cmpR op_ge (pv 4) (pe_op op_pow pe_int pe_int) (nomark _))
        (pss_cons (ps_asg (pe_op op_fdiv (pv 4) (pv 1)) (pg_sub (pv 2) (pv 3) set_list))
        (pss_one (ps_ret (pe_op op_modN (pe_callTy call_int1 (by rfl) T.gInt PyProof.Rows.boot_int (pa_cons (pv 4) pa_nil)) (pv 1))))) pss_nil)
      (pss_cons (ps_asg (pe_op op_add (pv 3) pe_int) (pg_sub (pv 0) pe_int set_list))
      (pss_cons (ps_set (i := 5) scDr.nd rfl (Or.inl rfl) (pe_op op_mod (pe_callTy call_int1 (by rfl) T.gInt PyProof.Rows.boot_int (pa_cons (pe_op op_mul (pe_op op_add (pe_op op_add (pv 4) (pe_op op_mul pe_int (pe_ix ix_list (pv 0) pe_int (fun _ _ => rfl)))) pe_int) pe_int) pa_nil)) pe_int))
      (pss_cons (ps_set (i := 5) scDr.nd rfl (Or.inl rfl) (pe_op op_mod (pe_callTy call_int1 (by rfl) T.gInt PyProof.Rows.boot_int (pa_cons (pe_op op_mul (pv 5) (pe_op op_add (pe_op op_fdiv (pv 5) pe_int) pe_int)) pa_nil)) pe_int))
      (pss_cons (ps_set (i := 5) scDr.nd rfl (Or.inl rfl) (pe_op op_mod (pe_callTy call_int1 (by rfl) T.gInt PyProof.Rows.boot_int (pa_cons (pe_op op_mul (pv 5) (pe_op op_add (pe_op op_fdiv (pv 5) pe_int) pe_int)) pa_nil)) pe_int))
      (pss_one (ps_ret (pe_op op_modN (pe_callTy call_int1 (by rfl) T.gInt PyProof.Rows.boot_int (pa_cons (pe_op op_fdiv (pv 5) pe_int) pa_nil)) (pv 1)))))))))))), ?_⟩
    have hlen : 0 < ((cs.map V.int).length : Int) := by rw [List.length_map]; omega
    have hat := fmod_pos (a := i) hlen
    obtain ⟨j, hj⟩ : ∃ j : Nat, i.fmod ((cs.map V.int).length : Int) = (j : Int) := ⟨_, (Int.toNat_of_nonneg hat.1).symm⟩
    have hjl : j < cs.length := by
      have := hat.2
      rw [hj, List.length_map] at this
      omega
    obtain ⟨c, hc⟩ : ∃ c, cs[j]? = some c := ⟨_, List.getElem?_eq_getElem hjl⟩
    -- cells, at, the turn
    refine ⟨_, rfl, s, _, 0, _, rfl, rfl, SqL.of e1, rfl, ?_⟩
    refine ⟨_, rfl, s, _, 1, .int i, rfl, rfl, SqL.of e1, rfl, .inl ⟨i, rfl, _, rfl, l, _, rfl, .inl (SqL.of e2), _, _, rfl, rfl, (by omega), ?_⟩⟩
    dsimp only
    rw [hj]
    refine ⟨_, rfl, s, _, 2, .int n, rfl, rfl, SqL.of e1, rfl, _, _, rfl, rfl, _, rfl, s, _, 2, 2, rfl, rfl, e1, rfl, ?_⟩
    have e1' : upd H s (.lst (([.ref l, .int i, .int n] : List V).set 2 (.int (n + 1)))) s = some (.lst [.ref l, .int i, .int (n + 1)]) := upd_same
    generalize hH1 : upd H s (.lst (([.ref l, .int i, .int n] : List V).set 2 (.int (n + 1)))) = H1 at e1'
    have e2' : H1 l = some (.lst (cs.map V.int)) := by rw [← hH1, upd_ne (Ne.symm hne)]; exact e2
    have kp1 : Kp s l H H1 := fun c o e h1 h2 => by rw [← hH1, upd_ne h1]; exact e
    refine ⟨_, rfl, _, rfl, l, _, (j : Int), .int c, rfl, rfl, SqL.of e2', atI_nat (by rw [List.getElem?_map, hc]; rfl), ?_⟩
    refine ⟨_, rfl, 10, 18, rfl, rfl, ⟨by decide, by decide, by decide⟩, c, _, rfl, rfl, _, rfl, ?_⟩
    refine ite2 (fun _ => ?_) (fun _ => ?_)
    · -- a great cell
      refine ⟨_, rfl, _, rfl, c, m, rfl, rfl, ⟨m0, m1⟩, _, rfl, _, rfl, l, _, (j : Int), j, rfl, rfl, e2', ixN_nat (by rw [List.length_map]; exact hjl), ?_⟩
      refine ⟨_, rfl, .inl ⟨c, rfl, _, rfl, c, m, rfl, rfl, by omega, ?_⟩⟩
      have hm := fmod_pos (a := c) m0
      refine k _ _ (fun c' o e h1 h2 => by rw [upd_ne h2]; exact kp1 c' o e h1 h2) ⟨i, n + 1, cs.set j (c / m), by rw [upd_ne hne]; exact e1', ?_, by rw [List.length_set]; exact c0, by rw [List.length_set]; exact c1⟩ hm.1 hm.2
      rw [upd_same, List.map_set]
    · -- a small one
      refine ⟨_, rfl, _, _, rfl, rfl, _, rfl, s, _, 1, 1, rfl, rfl, e1', rfl, ?_⟩
      have e1'' : upd H1 s (.lst (([.ref l, .int i, .int (n + 1)] : List V).set 1 (.int ((j : Int) + 1)))) s = some (.lst [.ref l, .int ((j : Int) + 1), .int (n + 1)]) := upd_same
      have kp2 : Kp s l H (upd H1 s (.lst (([.ref l, .int i, .int (n + 1)] : List V).set 1 (.int ((j : Int) + 1))))) := fun c o e h1 h2 => by rw [upd_ne h1]; exact kp1 c o e h1 h2
      have e2'' : upd H1 s (.lst (([.ref l, .int i, .int (n + 1)] : List V).set 1 (.int ((j : Int) + 1)))) l = some (.lst (cs.map V.int)) := by rw [upd_ne (Ne.symm hne)]; exact e2'
      generalize upd H1 s (.lst (([.ref l, .int i, .int (n + 1)] : List V).set 1 (.int ((j : Int) + 1)))) = H2 at e1'' e2'' kp2
      refine ⟨_, rfl, _, rfl, s, _, 2, .int (n + 1), rfl, rfl, SqL.of e1'', rfl, _, _, rfl, rfl, .inl ⟨by decide, by decide⟩, _, _, rfl, rfl, _, _, rfl, rfl, _, _, rfl, rfl, .inr ⟨by decide, by decide⟩, .inl ⟨_, rfl, _, _, rfl, rfl, (by show (0 : Int) < 2147483647; decide), ?_⟩⟩
      generalize ((c + 7919 * (n + 1) + 1) * 48271) = z1
      have b1 := emod_pos (a := z1) (m := 2147483647) (by decide)
      generalize z1 % 2147483647 = o1 at b1
      refine ⟨_, rfl, _, rfl, _, _, rfl, rfl, ⟨by decide, by decide⟩, _, _, rfl, rfl, _, _, rfl, rfl, .inl ⟨by omega, by omega⟩, .inl ⟨_, rfl, _, _, rfl, rfl, (by show (0 : Int) < 2147483647; decide), ?_⟩⟩
      generalize o1 * (o1 / 1009 + 69621) = z2
      have b2 := emod_pos (a := z2) (m := 2147483647) (by decide)
      generalize z2 % 2147483647 = o2 at b2
      refine ⟨_, rfl, _, rfl, _, _, rfl, rfl, ⟨by decide, by decide⟩, _, _, rfl, rfl, _, _, rfl, rfl, .inl ⟨by omega, by omega⟩, .inl ⟨_, rfl, _, _, rfl, rfl, (by show (0 : Int) < 2147483399; decide), ?_⟩⟩
      generalize o2 * (o2 / 2003 + 40692) = z3
      refine ⟨_, rfl, _, _, rfl, rfl, ⟨by decide, by decide⟩, .inl ⟨_, rfl, _, rfl, _, m, rfl, rfl, by omega, ?_⟩⟩
      exact k _ _ kp2 ⟨_, _, cs, e1'', e2'', c0, c1⟩ (fmod_pos m0).1 (fmod_pos m0).2
end
end Pu
namespace Pu
open PySem PySem.Spec PyProof.Rows L2
open PySem.W (findIn isFn kitOne nsIn typeIn keepIn subIn codeIn clsIn)
theorem inj_of {CT : Nat → Addr} : ∀ {cs : List Nat}, (cs.map CT).Nodup → ∀ c ∈ cs, ∀ c' ∈ cs, CT c = CT c' → c = c'
  | [], _, _, h, _, _, _ => by cases h
  | a :: cs, nd, c, h, c', h', e => by
    rw [List.map_cons, List.nodup_cons] at nd
    rcases List.mem_cons.mp h with e1 | h1
    · rcases List.mem_cons.mp h' with e2 | h2
      · exact e1.trans e2.symm
      · subst e1
        exact absurd (List.mem_map.mpr ⟨c', h2, e.symm⟩) nd.1
    · rcases List.mem_cons.mp h' with e2 | h2
      · subst e2
        exact absurd (List.mem_map.mpr ⟨c, h1, e⟩) nd.1
      · exact inj_of nd.2 c h1 c' h2 e
def tabA (l : List (Nat × Addr)) : Nat → Addr := fun n => (l.lookup n).getD 0
def tabF (l : List (Nat × List Str)) : Nat → List Str := fun n => (l.lookup n).getD []
theorem exm_of {K : PySem.W.Frag} {C S : Addr} {b : Bool} (h1 : subIn K (.ref S) (.type "BaseException") = some true) (h2 : PySem.W.isClsIn K S = true) (h3 : typeIn K (.ref S) = some (.type "type")) (h4 : subIn K (.ref C) (.ref S) = some b) :
    PySem.W.exmOne K (.ref C) (.ref S) = some b := by
  have e1 : (subIn K (.ref S) (.type "BaseException") == some true) = true := by rw [h1] <;> rfl
  have e2 : ((clsIn K S).isSome && typeIn K (.ref S) == some (.type "type")) = true := by
    have h2' : (clsIn K S).isSome = true := h2
    rw [h2', h3] <;> rfl
  unfold PySem.W.exmOne
  rw [if_pos e1]
  unfold PySem.W.kitCls
  dsimp only
  rw [if_pos e2]
  exact h4
theorem kit_same {K : PySem.W.Frag} {C : Addr} : kitOne K (.ref C) (.ref C) = some true := if_pos (beq_self_eq_true _)
theorem kit_of {K : PySem.W.Frag} {C S : Addr} {b : Bool} (h2 : PySem.W.isClsIn K S = true) (h3 : typeIn K (.ref S) = some (.type "type")) (h4 : subIn K (.ref C) (.ref S) = some b) (h : C = S → b = true) :
    kitOne K (.ref C) (.ref S) = some b := by
  by_cases e : C = S
  · subst e
    rw [h rfl]
    exact kit_same
  · have e2 : ((clsIn K S).isSome && typeIn K (.ref S) == some (.type "type")) = true := by
      have h2' : (clsIn K S).isSome = true := h2
      rw [h2', h3] <;> rfl
    have e1 : ¬ ((Value.ref C == Value.ref S) = true) := fun he => e (by simpa using he)
    unfold kitOne
    rw [if_neg e1]
    unfold PySem.W.kitCls
    dsimp only
    rw [if_pos e2]
    exact h4
theorem kit_no {K : PySem.W.Frag} {C S : Addr} {b : Bool} (h : subIn K (.ref C) (.ref S) = some false) (h' : subIn K (.ref S) (.ref S) = some true) : C = S → b = true := by
  intro e
  subst e
  rw [h] at h'
  cases h'
theorem kit_bt {K : PySem.W.Frag} {C : Addr} {T : String} {b : Bool} (h : PySem.W.kitMeta T = true) (h4 : subIn K (.ref C) (.type T) = some b) : kitOne K (.ref C) (.type T) = some b := by
  have e1 : ¬ ((Value.ref C == Value.type T) = true) := fun he => by simp at he
  unfold kitOne
  rw [if_neg e1]
  unfold PySem.W.kitCls
  dsimp only
  rw [if_pos h]
  exact h4
theorem all_mk {l : PySem.W.OpenLaw} {w : World} {K : PySem.W.Frag} {h : Heap} {mg : Str → Option Value} {fa f__law_start f__law_draw f__law_kinds f__law_alone f_Full_told f_NoAxis_told f_NoCell_told f_NoLinear_told f_NoMember_told f_NoName_told f_NoPart_told f_NoQuotient_told f_NoRatio_told f_NoRows_told f_NoSpace_told f_NoSuch_told f_NoTable_told f_NoValues_told f_OtherSpace_told f_PartError_told f_Twice_told f__law_base f__law_fields f__law_value f_law f_Full_init f_NoAxis_init f_NoCell_init f_NoLinear_init f_NoMember_init f_NoName_init f_NoRatio_init f_NoRows_init f_NoSpace_init f_NoSuch_init f_NoTable_init f_NoValues_init f_Twice_init C_PartError C_NoRatio C_NoSpace C_NoCell C_NoAxis C_NoMember C_Twice C_OtherSpace C_NoTable C_NoRows C_NoLinear C_NoQuotient C_NoName C_NoPart C_Full C_NoSuch C_NoValues : Addr} (X : K.In h) (G : h.Ns mainGlobals mg) (hfa : mg "law" = some (.ref fa))
    {nm_NoRatio q_NoRatio : Str} {NN_NoRatio B0_NoRatio : Addr} {bs_NoRatio sub_NoRatio : List Value} {sn_NoRatio : List Str} {ab_NoRatio : Bool} {col_NoRatio : Option Bool} {dd_NoRatio : Option Addr} {k0_NoRatio k1_NoRatio k2_NoRatio k3_NoRatio k5_NoRatio : Option Value} {nm_NoSpace q_NoSpace : Str} {NN_NoSpace B0_NoSpace : Addr} {bs_NoSpace sub_NoSpace : List Value} {sn_NoSpace : List Str} {ab_NoSpace : Bool} {col_NoSpace : Option Bool} {dd_NoSpace : Option Addr} {k0_NoSpace k1_NoSpace k2_NoSpace k3_NoSpace k5_NoSpace : Option Value} {nm_NoCell q_NoCell : Str} {NN_NoCell B0_NoCell : Addr} {bs_NoCell sub_NoCell : List Value} {sn_NoCell : List Str} {ab_NoCell : Bool} {col_NoCell : Option Bool} {dd_NoCell : Option Addr} {k0_NoCell k1_NoCell k2_NoCell k3_NoCell k5_NoCell : Option Value} {nm_NoAxis q_NoAxis : Str} {NN_NoAxis B0_NoAxis : Addr} {bs_NoAxis sub_NoAxis : List Value} {sn_NoAxis : List Str} {ab_NoAxis : Bool} {col_NoAxis : Option Bool} {dd_NoAxis : Option Addr} {k0_NoAxis k1_NoAxis k2_NoAxis k3_NoAxis k5_NoAxis : Option Value} {nm_NoMember q_NoMember : Str} {NN_NoMember B0_NoMember : Addr} {bs_NoMember sub_NoMember : List Value} {sn_NoMember : List Str} {ab_NoMember : Bool} {col_NoMember : Option Bool} {dd_NoMember : Option Addr} {k0_NoMember k1_NoMember k2_NoMember k3_NoMember k5_NoMember : Option Value} {nm_Twice q_Twice : Str} {NN_Twice B0_Twice : Addr} {bs_Twice sub_Twice : List Value} {sn_Twice : List Str} {ab_Twice : Bool} {col_Twice : Option Bool} {dd_Twice : Option Addr} {k0_Twice k1_Twice k2_Twice k3_Twice k5_Twice : Option Value} {nm_NoTable q_NoTable : Str} {NN_NoTable B0_NoTable : Addr} {bs_NoTable sub_NoTable : List Value} {sn_NoTable : List Str} {ab_NoTable : Bool} {col_NoTable : Option Bool} {dd_NoTable : Option Addr} {k0_NoTable k1_NoTable k2_NoTable k3_NoTable k5_NoTable : Option Value} {nm_NoRows q_NoRows : Str} {NN_NoRows B0_NoRows : Addr} {bs_NoRows sub_NoRows : List Value} {sn_NoRows : List Str} {ab_NoRows : Bool} {col_NoRows : Option Bool} {dd_NoRows : Option Addr} {k0_NoRows k1_NoRows k2_NoRows k3_NoRows k5_NoRows : Option Value} {nm_NoLinear q_NoLinear : Str} {NN_NoLinear B0_NoLinear : Addr} {bs_NoLinear sub_NoLinear : List Value} {sn_NoLinear : List Str} {ab_NoLinear : Bool} {col_NoLinear : Option Bool} {dd_NoLinear : Option Addr} {k0_NoLinear k1_NoLinear k2_NoLinear k3_NoLinear k5_NoLinear : Option Value} {nm_NoName q_NoName : Str} {NN_NoName B0_NoName : Addr} {bs_NoName sub_NoName : List Value} {sn_NoName : List Str} {ab_NoName : Bool} {col_NoName : Option Bool} {dd_NoName : Option Addr} {k0_NoName k1_NoName k2_NoName k3_NoName k5_NoName : Option Value} {nm_Full q_Full : Str} {NN_Full B0_Full : Addr} {bs_Full sub_Full : List Value} {sn_Full : List Str} {ab_Full : Bool} {col_Full : Option Bool} {dd_Full : Option Addr} {k0_Full k1_Full k2_Full k3_Full k5_Full : Option Value} {nm_NoSuch q_NoSuch : Str} {NN_NoSuch B0_NoSuch : Addr} {bs_NoSuch sub_NoSuch : List Value} {sn_NoSuch : List Str} {ab_NoSuch : Bool} {col_NoSuch : Option Bool} {dd_NoSuch : Option Addr} {k0_NoSuch k1_NoSuch k2_NoSuch k3_NoSuch k5_NoSuch : Option Value} {nm_NoValues q_NoValues : Str} {NN_NoValues B0_NoValues : Addr} {bs_NoValues sub_NoValues : List Value} {sn_NoValues : List Str} {ab_NoValues : Bool} {col_NoValues : Option Bool} {dd_NoValues : Option Addr} {k0_NoValues k1_NoValues k2_NoValues k3_NoValues k5_NoValues : Option Value} {oc__law_start kV__law_start dc__law_start pm__law_start cd__law_start ct__law_start : Value} {od__law_start an__law_start : Option Addr} {sl__law_start : Array (Option Value)} {oc__law_draw kV__law_draw dc__law_draw pm__law_draw cd__law_draw ct__law_draw : Value} {od__law_draw an__law_draw : Option Addr} {sl__law_draw : Array (Option Value)} {oc__law_kinds kV__law_kinds dc__law_kinds pm__law_kinds cd__law_kinds ct__law_kinds : Value} {od__law_kinds an__law_kinds : Option Addr} {sl__law_kinds : Array (Option Value)} {oc__law_alone kV__law_alone dc__law_alone pm__law_alone cd__law_alone ct__law_alone : Value} {od__law_alone an__law_alone : Option Addr} {sl__law_alone : Array (Option Value)} {oc_Full_told kV_Full_told dc_Full_told pm_Full_told cd_Full_told ct_Full_told : Value} {od_Full_told an_Full_told : Option Addr} {sl_Full_told : Array (Option Value)} {oc_NoAxis_told kV_NoAxis_told dc_NoAxis_told pm_NoAxis_told cd_NoAxis_told ct_NoAxis_told : Value} {od_NoAxis_told an_NoAxis_told : Option Addr} {sl_NoAxis_told : Array (Option Value)} {oc_NoCell_told kV_NoCell_told dc_NoCell_told pm_NoCell_told cd_NoCell_told ct_NoCell_told : Value} {od_NoCell_told an_NoCell_told : Option Addr} {sl_NoCell_told : Array (Option Value)} {oc_NoLinear_told kV_NoLinear_told dc_NoLinear_told pm_NoLinear_told cd_NoLinear_told ct_NoLinear_told : Value} {od_NoLinear_told an_NoLinear_told : Option Addr} {sl_NoLinear_told : Array (Option Value)} {oc_NoMember_told kV_NoMember_told dc_NoMember_told pm_NoMember_told cd_NoMember_told ct_NoMember_told : Value} {od_NoMember_told an_NoMember_told : Option Addr} {sl_NoMember_told : Array (Option Value)} {oc_NoName_told kV_NoName_told dc_NoName_told pm_NoName_told cd_NoName_told ct_NoName_told : Value} {od_NoName_told an_NoName_told : Option Addr} {sl_NoName_told : Array (Option Value)} {oc_NoPart_told kV_NoPart_told dc_NoPart_told pm_NoPart_told cd_NoPart_told ct_NoPart_told : Value} {od_NoPart_told an_NoPart_told : Option Addr} {sl_NoPart_told : Array (Option Value)} {oc_NoQuotient_told kV_NoQuotient_told dc_NoQuotient_told pm_NoQuotient_told cd_NoQuotient_told ct_NoQuotient_told : Value} {od_NoQuotient_told an_NoQuotient_told : Option Addr} {sl_NoQuotient_told : Array (Option Value)} {oc_NoRatio_told kV_NoRatio_told dc_NoRatio_told pm_NoRatio_told cd_NoRatio_told ct_NoRatio_told : Value} {od_NoRatio_told an_NoRatio_told : Option Addr} {sl_NoRatio_told : Array (Option Value)} {oc_NoRows_told kV_NoRows_told dc_NoRows_told pm_NoRows_told cd_NoRows_told ct_NoRows_told : Value} {od_NoRows_told an_NoRows_told : Option Addr} {sl_NoRows_told : Array (Option Value)} {oc_NoSpace_told kV_NoSpace_told dc_NoSpace_told pm_NoSpace_told cd_NoSpace_told ct_NoSpace_told : Value} {od_NoSpace_told an_NoSpace_told : Option Addr} {sl_NoSpace_told : Array (Option Value)} {oc_NoSuch_told kV_NoSuch_told dc_NoSuch_told pm_NoSuch_told cd_NoSuch_told ct_NoSuch_told : Value} {od_NoSuch_told an_NoSuch_told : Option Addr} {sl_NoSuch_told : Array (Option Value)} {oc_NoTable_told kV_NoTable_told dc_NoTable_told pm_NoTable_told cd_NoTable_told ct_NoTable_told : Value} {od_NoTable_told an_NoTable_told : Option Addr} {sl_NoTable_told : Array (Option Value)} {oc_NoValues_told kV_NoValues_told dc_NoValues_told pm_NoValues_told cd_NoValues_told ct_NoValues_told : Value} {od_NoValues_told an_NoValues_told : Option Addr} {sl_NoValues_told : Array (Option Value)} {oc_OtherSpace_told kV_OtherSpace_told dc_OtherSpace_told pm_OtherSpace_told cd_OtherSpace_told ct_OtherSpace_told : Value} {od_OtherSpace_told an_OtherSpace_told : Option Addr} {sl_OtherSpace_told : Array (Option Value)} {oc_PartError_told kV_PartError_told dc_PartError_told pm_PartError_told cd_PartError_told ct_PartError_told : Value} {od_PartError_told an_PartError_told : Option Addr} {sl_PartError_told : Array (Option Value)} {oc_Twice_told kV_Twice_told dc_Twice_told pm_Twice_told cd_Twice_told ct_Twice_told : Value} {od_Twice_told an_Twice_told : Option Addr} {sl_Twice_told : Array (Option Value)} {oc__law_base kV__law_base dc__law_base pm__law_base cd__law_base ct__law_base : Value} {od__law_base an__law_base : Option Addr} {sl__law_base : Array (Option Value)} {oc__law_fields kV__law_fields dc__law_fields pm__law_fields cd__law_fields ct__law_fields : Value} {od__law_fields an__law_fields : Option Addr} {sl__law_fields : Array (Option Value)} {oc__law_value kV__law_value dc__law_value pm__law_value cd__law_value ct__law_value : Value} {od__law_value an__law_value : Option Addr} {sl__law_value : Array (Option Value)} {oc_law kV_law dc_law pm_law cd_law ct_law : Value} {od_law an_law : Option Addr} {sl_law : Array (Option Value)} {oc_Full_init kV_Full_init dc_Full_init pm_Full_init cd_Full_init ct_Full_init : Value} {od_Full_init an_Full_init : Option Addr} {sl_Full_init : Array (Option Value)} {oc_NoAxis_init kV_NoAxis_init dc_NoAxis_init pm_NoAxis_init cd_NoAxis_init ct_NoAxis_init : Value} {od_NoAxis_init an_NoAxis_init : Option Addr} {sl_NoAxis_init : Array (Option Value)} {oc_NoCell_init kV_NoCell_init dc_NoCell_init pm_NoCell_init cd_NoCell_init ct_NoCell_init : Value} {od_NoCell_init an_NoCell_init : Option Addr} {sl_NoCell_init : Array (Option Value)} {oc_NoLinear_init kV_NoLinear_init dc_NoLinear_init pm_NoLinear_init cd_NoLinear_init ct_NoLinear_init : Value} {od_NoLinear_init an_NoLinear_init : Option Addr} {sl_NoLinear_init : Array (Option Value)} {oc_NoMember_init kV_NoMember_init dc_NoMember_init pm_NoMember_init cd_NoMember_init ct_NoMember_init : Value} {od_NoMember_init an_NoMember_init : Option Addr} {sl_NoMember_init : Array (Option Value)} {oc_NoName_init kV_NoName_init dc_NoName_init pm_NoName_init cd_NoName_init ct_NoName_init : Value} {od_NoName_init an_NoName_init : Option Addr} {sl_NoName_init : Array (Option Value)} {oc_NoRatio_init kV_NoRatio_init dc_NoRatio_init pm_NoRatio_init cd_NoRatio_init ct_NoRatio_init : Value} {od_NoRatio_init an_NoRatio_init : Option Addr} {sl_NoRatio_init : Array (Option Value)} {oc_NoRows_init kV_NoRows_init dc_NoRows_init pm_NoRows_init cd_NoRows_init ct_NoRows_init : Value} {od_NoRows_init an_NoRows_init : Option Addr} {sl_NoRows_init : Array (Option Value)} {oc_NoSpace_init kV_NoSpace_init dc_NoSpace_init pm_NoSpace_init cd_NoSpace_init ct_NoSpace_init : Value} {od_NoSpace_init an_NoSpace_init : Option Addr} {sl_NoSpace_init : Array (Option Value)} {oc_NoSuch_init kV_NoSuch_init dc_NoSuch_init pm_NoSuch_init cd_NoSuch_init ct_NoSuch_init : Value} {od_NoSuch_init an_NoSuch_init : Option Addr} {sl_NoSuch_init : Array (Option Value)} {oc_NoTable_init kV_NoTable_init dc_NoTable_init pm_NoTable_init cd_NoTable_init ct_NoTable_init : Value} {od_NoTable_init an_NoTable_init : Option Addr} {sl_NoTable_init : Array (Option Value)} {oc_NoValues_init kV_NoValues_init dc_NoValues_init pm_NoValues_init cd_NoValues_init ct_NoValues_init : Value} {od_NoValues_init an_NoValues_init : Option Addr} {sl_NoValues_init : Array (Option Value)} {oc_Twice_init kV_Twice_init dc_Twice_init pm_Twice_init cd_Twice_init ct_Twice_init : Value} {od_Twice_init an_Twice_init : Option Addr} {sl_Twice_init : Array (Option Value)}
    (clN : PySem.W.specialIn K (.builtin "object.__class__") "__get__" = some (some (.builtin "getset_descriptor.__get__")))
    (clK : PySem.W.takesIn K (.builtin "object.__class__") = some true)
    (clD : ([] : List Addr).Nodup)
    (a_PartError : nsIn K mainGlobals "PartError" = some (some (.ref C_PartError)))
    (xi_PartError : PySem.W.excIn K C_PartError [.type "ValueError", .type "Exception", .type "BaseException", .type "object"] "ValueError.__new__" = true)
    (xe_PartError : subIn K (.ref C_PartError) (.type "BaseException") = some true)
    (xt_PartError : typeIn K (.ref C_PartError) = some (.type "type"))
    (xk_PartError : keepIn K (.ref C_PartError) = true)
    (a_NoRatio : nsIn K mainGlobals "NoRatio" = some (some (.ref C_NoRatio)))
    (xl_NoRatio : K.lookup C_NoRatio = some (excClassObj nm_NoRatio q_NoRatio C_NoRatio NN_NoRatio bs_NoRatio [.ref B0_NoRatio, .type "ValueError", .type "Exception", .type "BaseException", .type "object"] true sn_NoRatio sub_NoRatio ab_NoRatio col_NoRatio dd_NoRatio k0_NoRatio k1_NoRatio k2_NoRatio k3_NoRatio k5_NoRatio "ValueError.__new__"))
    (xsa_NoRatio : findIn K (.ref C_NoRatio) "__setattr__" = some (some (.builtin "object.__setattr__")))
    (xe_NoRatio : subIn K (.ref C_NoRatio) (.type "BaseException") = some true)
    (xt_NoRatio : typeIn K (.ref C_NoRatio) = some (.type "type"))
    (xk_NoRatio : keepIn K (.ref C_NoRatio) = true)
    (a_NoSpace : nsIn K mainGlobals "NoSpace" = some (some (.ref C_NoSpace)))
    (xl_NoSpace : K.lookup C_NoSpace = some (excClassObj nm_NoSpace q_NoSpace C_NoSpace NN_NoSpace bs_NoSpace [.ref B0_NoSpace, .type "ValueError", .type "Exception", .type "BaseException", .type "object"] true sn_NoSpace sub_NoSpace ab_NoSpace col_NoSpace dd_NoSpace k0_NoSpace k1_NoSpace k2_NoSpace k3_NoSpace k5_NoSpace "ValueError.__new__"))
    (xsa_NoSpace : findIn K (.ref C_NoSpace) "__setattr__" = some (some (.builtin "object.__setattr__")))
    (xe_NoSpace : subIn K (.ref C_NoSpace) (.type "BaseException") = some true)
    (xt_NoSpace : typeIn K (.ref C_NoSpace) = some (.type "type"))
    (xk_NoSpace : keepIn K (.ref C_NoSpace) = true)
    (a_NoCell : nsIn K mainGlobals "NoCell" = some (some (.ref C_NoCell)))
    (xl_NoCell : K.lookup C_NoCell = some (excClassObj nm_NoCell q_NoCell C_NoCell NN_NoCell bs_NoCell [.ref B0_NoCell, .type "ValueError", .type "Exception", .type "BaseException", .type "object"] true sn_NoCell sub_NoCell ab_NoCell col_NoCell dd_NoCell k0_NoCell k1_NoCell k2_NoCell k3_NoCell k5_NoCell "ValueError.__new__"))
    (xsa_NoCell : findIn K (.ref C_NoCell) "__setattr__" = some (some (.builtin "object.__setattr__")))
    (xe_NoCell : subIn K (.ref C_NoCell) (.type "BaseException") = some true)
    (xt_NoCell : typeIn K (.ref C_NoCell) = some (.type "type"))
    (xk_NoCell : keepIn K (.ref C_NoCell) = true)
    (a_NoAxis : nsIn K mainGlobals "NoAxis" = some (some (.ref C_NoAxis)))
    (xl_NoAxis : K.lookup C_NoAxis = some (excClassObj nm_NoAxis q_NoAxis C_NoAxis NN_NoAxis bs_NoAxis [.ref B0_NoAxis, .type "ValueError", .type "Exception", .type "BaseException", .type "object"] true sn_NoAxis sub_NoAxis ab_NoAxis col_NoAxis dd_NoAxis k0_NoAxis k1_NoAxis k2_NoAxis k3_NoAxis k5_NoAxis "ValueError.__new__"))
    (xsa_NoAxis : findIn K (.ref C_NoAxis) "__setattr__" = some (some (.builtin "object.__setattr__")))
    (xe_NoAxis : subIn K (.ref C_NoAxis) (.type "BaseException") = some true)
    (xt_NoAxis : typeIn K (.ref C_NoAxis) = some (.type "type"))
    (xk_NoAxis : keepIn K (.ref C_NoAxis) = true)
    (a_NoMember : nsIn K mainGlobals "NoMember" = some (some (.ref C_NoMember)))
    (xl_NoMember : K.lookup C_NoMember = some (excClassObj nm_NoMember q_NoMember C_NoMember NN_NoMember bs_NoMember [.ref B0_NoMember, .type "ValueError", .type "Exception", .type "BaseException", .type "object"] true sn_NoMember sub_NoMember ab_NoMember col_NoMember dd_NoMember k0_NoMember k1_NoMember k2_NoMember k3_NoMember k5_NoMember "ValueError.__new__"))
    (xsa_NoMember : findIn K (.ref C_NoMember) "__setattr__" = some (some (.builtin "object.__setattr__")))
    (xe_NoMember : subIn K (.ref C_NoMember) (.type "BaseException") = some true)
    (xt_NoMember : typeIn K (.ref C_NoMember) = some (.type "type"))
    (xk_NoMember : keepIn K (.ref C_NoMember) = true)
    (a_Twice : nsIn K mainGlobals "Twice" = some (some (.ref C_Twice)))
    (xl_Twice : K.lookup C_Twice = some (excClassObj nm_Twice q_Twice C_Twice NN_Twice bs_Twice [.ref B0_Twice, .type "ValueError", .type "Exception", .type "BaseException", .type "object"] true sn_Twice sub_Twice ab_Twice col_Twice dd_Twice k0_Twice k1_Twice k2_Twice k3_Twice k5_Twice "ValueError.__new__"))
    (xsa_Twice : findIn K (.ref C_Twice) "__setattr__" = some (some (.builtin "object.__setattr__")))
    (xe_Twice : subIn K (.ref C_Twice) (.type "BaseException") = some true)
    (xt_Twice : typeIn K (.ref C_Twice) = some (.type "type"))
    (xk_Twice : keepIn K (.ref C_Twice) = true)
    (a_OtherSpace : nsIn K mainGlobals "OtherSpace" = some (some (.ref C_OtherSpace)))
    (xi_OtherSpace : PySem.W.excIn K C_OtherSpace [.type "ValueError", .type "Exception", .type "BaseException", .type "object"] "ValueError.__new__" = true)
    (xe_OtherSpace : subIn K (.ref C_OtherSpace) (.type "BaseException") = some true)
    (xt_OtherSpace : typeIn K (.ref C_OtherSpace) = some (.type "type"))
    (xk_OtherSpace : keepIn K (.ref C_OtherSpace) = true)
    (a_NoTable : nsIn K mainGlobals "NoTable" = some (some (.ref C_NoTable)))
    (xl_NoTable : K.lookup C_NoTable = some (excClassObj nm_NoTable q_NoTable C_NoTable NN_NoTable bs_NoTable [.ref B0_NoTable, .type "ValueError", .type "Exception", .type "BaseException", .type "object"] true sn_NoTable sub_NoTable ab_NoTable col_NoTable dd_NoTable k0_NoTable k1_NoTable k2_NoTable k3_NoTable k5_NoTable "ValueError.__new__"))
    (xsa_NoTable : findIn K (.ref C_NoTable) "__setattr__" = some (some (.builtin "object.__setattr__")))
    (xe_NoTable : subIn K (.ref C_NoTable) (.type "BaseException") = some true)
    (xt_NoTable : typeIn K (.ref C_NoTable) = some (.type "type"))
    (xk_NoTable : keepIn K (.ref C_NoTable) = true)
    (a_NoRows : nsIn K mainGlobals "NoRows" = some (some (.ref C_NoRows)))
    (xl_NoRows : K.lookup C_NoRows = some (excClassObj nm_NoRows q_NoRows C_NoRows NN_NoRows bs_NoRows [.ref B0_NoRows, .type "ValueError", .type "Exception", .type "BaseException", .type "object"] true sn_NoRows sub_NoRows ab_NoRows col_NoRows dd_NoRows k0_NoRows k1_NoRows k2_NoRows k3_NoRows k5_NoRows "ValueError.__new__"))
    (xsa_NoRows : findIn K (.ref C_NoRows) "__setattr__" = some (some (.builtin "object.__setattr__")))
    (xe_NoRows : subIn K (.ref C_NoRows) (.type "BaseException") = some true)
    (xt_NoRows : typeIn K (.ref C_NoRows) = some (.type "type"))
    (xk_NoRows : keepIn K (.ref C_NoRows) = true)
    (a_NoLinear : nsIn K mainGlobals "NoLinear" = some (some (.ref C_NoLinear)))
    (xl_NoLinear : K.lookup C_NoLinear = some (excClassObj nm_NoLinear q_NoLinear C_NoLinear NN_NoLinear bs_NoLinear [.ref B0_NoLinear, .type "ValueError", .type "Exception", .type "BaseException", .type "object"] true sn_NoLinear sub_NoLinear ab_NoLinear col_NoLinear dd_NoLinear k0_NoLinear k1_NoLinear k2_NoLinear k3_NoLinear k5_NoLinear "ValueError.__new__"))
    (xsa_NoLinear : findIn K (.ref C_NoLinear) "__setattr__" = some (some (.builtin "object.__setattr__")))
    (xe_NoLinear : subIn K (.ref C_NoLinear) (.type "BaseException") = some true)
    (xt_NoLinear : typeIn K (.ref C_NoLinear) = some (.type "type"))
    (xk_NoLinear : keepIn K (.ref C_NoLinear) = true)
    (a_NoQuotient : nsIn K mainGlobals "NoQuotient" = some (some (.ref C_NoQuotient)))
    (xi_NoQuotient : PySem.W.excIn K C_NoQuotient [.type "ValueError", .type "Exception", .type "BaseException", .type "object"] "ValueError.__new__" = true)
    (xe_NoQuotient : subIn K (.ref C_NoQuotient) (.type "BaseException") = some true)
    (xt_NoQuotient : typeIn K (.ref C_NoQuotient) = some (.type "type"))
    (xk_NoQuotient : keepIn K (.ref C_NoQuotient) = true)
    (a_NoName : nsIn K mainGlobals "NoName" = some (some (.ref C_NoName)))
    (xl_NoName : K.lookup C_NoName = some (excClassObj nm_NoName q_NoName C_NoName NN_NoName bs_NoName [.ref B0_NoName, .type "ValueError", .type "Exception", .type "BaseException", .type "object"] true sn_NoName sub_NoName ab_NoName col_NoName dd_NoName k0_NoName k1_NoName k2_NoName k3_NoName k5_NoName "ValueError.__new__"))
    (xsa_NoName : findIn K (.ref C_NoName) "__setattr__" = some (some (.builtin "object.__setattr__")))
    (xe_NoName : subIn K (.ref C_NoName) (.type "BaseException") = some true)
    (xt_NoName : typeIn K (.ref C_NoName) = some (.type "type"))
    (xk_NoName : keepIn K (.ref C_NoName) = true)
    (a_NoPart : nsIn K mainGlobals "NoPart" = some (some (.ref C_NoPart)))
    (xi_NoPart : PySem.W.excIn K C_NoPart [.type "ValueError", .type "Exception", .type "BaseException", .type "object"] "ValueError.__new__" = true)
    (xe_NoPart : subIn K (.ref C_NoPart) (.type "BaseException") = some true)
    (xt_NoPart : typeIn K (.ref C_NoPart) = some (.type "type"))
    (xk_NoPart : keepIn K (.ref C_NoPart) = true)
    (a_Full : nsIn K mainGlobals "Full" = some (some (.ref C_Full)))
    (xl_Full : K.lookup C_Full = some (excClassObj nm_Full q_Full C_Full NN_Full bs_Full [.ref B0_Full, .type "ValueError", .type "Exception", .type "BaseException", .type "object"] true sn_Full sub_Full ab_Full col_Full dd_Full k0_Full k1_Full k2_Full k3_Full k5_Full "ValueError.__new__"))
    (xsa_Full : findIn K (.ref C_Full) "__setattr__" = some (some (.builtin "object.__setattr__")))
    (xe_Full : subIn K (.ref C_Full) (.type "BaseException") = some true)
    (xt_Full : typeIn K (.ref C_Full) = some (.type "type"))
    (xk_Full : keepIn K (.ref C_Full) = true)
    (a_NoSuch : nsIn K mainGlobals "NoSuch" = some (some (.ref C_NoSuch)))
    (xl_NoSuch : K.lookup C_NoSuch = some (excClassObj nm_NoSuch q_NoSuch C_NoSuch NN_NoSuch bs_NoSuch [.ref B0_NoSuch, .type "ValueError", .type "Exception", .type "BaseException", .type "object"] true sn_NoSuch sub_NoSuch ab_NoSuch col_NoSuch dd_NoSuch k0_NoSuch k1_NoSuch k2_NoSuch k3_NoSuch k5_NoSuch "ValueError.__new__"))
    (xsa_NoSuch : findIn K (.ref C_NoSuch) "__setattr__" = some (some (.builtin "object.__setattr__")))
    (xe_NoSuch : subIn K (.ref C_NoSuch) (.type "BaseException") = some true)
    (xt_NoSuch : typeIn K (.ref C_NoSuch) = some (.type "type"))
    (xk_NoSuch : keepIn K (.ref C_NoSuch) = true)
    (a_NoValues : nsIn K mainGlobals "NoValues" = some (some (.ref C_NoValues)))
    (xl_NoValues : K.lookup C_NoValues = some (excClassObj nm_NoValues q_NoValues C_NoValues NN_NoValues bs_NoValues [.ref B0_NoValues, .type "ValueError", .type "Exception", .type "BaseException", .type "object"] true sn_NoValues sub_NoValues ab_NoValues col_NoValues dd_NoValues k0_NoValues k1_NoValues k2_NoValues k3_NoValues k5_NoValues "ValueError.__new__"))
    (xsa_NoValues : findIn K (.ref C_NoValues) "__setattr__" = some (some (.builtin "object.__setattr__")))
    (xe_NoValues : subIn K (.ref C_NoValues) (.type "BaseException") = some true)
    (xt_NoValues : typeIn K (.ref C_NoValues) = some (.type "type"))
    (xk_NoValues : keepIn K (.ref C_NoValues) = true)
    (a__law_start : nsIn K mainGlobals "_law_start" = some (some (.ref f__law_start)))
    (l__law_start : K.lookup f__law_start = some ⟨oc__law_start, od__law_start, .func (PySem.W.fnOf "_law_start" "_law_start" (defArgs s__law_start) (defBody s__law_start) (defScope s__law_start) .none kV__law_start dc__law_start pm__law_start an__law_start cd__law_start ct__law_start), sl__law_start⟩)
    (c__law_start : codeIn K cd__law_start "_law_start" = true)
    (k__law_start : keepIn K (.ref f__law_start) = true)
    (a__law_draw : nsIn K mainGlobals "_law_draw" = some (some (.ref f__law_draw)))
    (l__law_draw : K.lookup f__law_draw = some ⟨oc__law_draw, od__law_draw, .func (PySem.W.fnOf "_law_draw" "_law_draw" (defArgs s__law_draw) (defBody s__law_draw) (defScope s__law_draw) .none kV__law_draw dc__law_draw pm__law_draw an__law_draw cd__law_draw ct__law_draw), sl__law_draw⟩)
    (c__law_draw : codeIn K cd__law_draw "_law_draw" = true)
    (k__law_draw : keepIn K (.ref f__law_draw) = true)
    (a__law_kinds : nsIn K mainGlobals "_law_kinds" = some (some (.ref f__law_kinds)))
    (l__law_kinds : K.lookup f__law_kinds = some ⟨oc__law_kinds, od__law_kinds, .func (PySem.W.fnOf "_law_kinds" "_law_kinds" (defArgs s__law_kinds) (defBody s__law_kinds) (defScope s__law_kinds) .none kV__law_kinds dc__law_kinds pm__law_kinds an__law_kinds cd__law_kinds ct__law_kinds), sl__law_kinds⟩)
    (c__law_kinds : codeIn K cd__law_kinds "_law_kinds" = true)
    (k__law_kinds : keepIn K (.ref f__law_kinds) = true)
    (a__law_alone : nsIn K mainGlobals "_law_alone" = some (some (.ref f__law_alone)))
    (l__law_alone : K.lookup f__law_alone = some ⟨oc__law_alone, od__law_alone, .func (PySem.W.fnOf "_law_alone" "_law_alone" (defArgs s__law_alone) (defBody s__law_alone) (defScope s__law_alone) .none kV__law_alone dc__law_alone pm__law_alone an__law_alone cd__law_alone ct__law_alone), sl__law_alone⟩)
    (c__law_alone : codeIn K cd__law_alone "_law_alone" = true)
    (k__law_alone : keepIn K (.ref f__law_alone) = true)
    (a_Full_told : findIn K (.ref C_Full) "told" = some (some (.ref f_Full_told)))
    (i_Full_told : isFn K (.ref f_Full_told) = true)
    (l_Full_told : K.lookup f_Full_told = some ⟨oc_Full_told, od_Full_told, .func (PySem.W.fnOf "told" "Full.told" (defArgs s_Full_told) (defBody s_Full_told) (defScope s_Full_told) .none kV_Full_told dc_Full_told pm_Full_told an_Full_told cd_Full_told ct_Full_told), sl_Full_told⟩)
    (c_Full_told : codeIn K cd_Full_told "Full.told" = true)
    (k_Full_told : keepIn K (.ref f_Full_told) = true)
    (a_NoAxis_told : findIn K (.ref C_NoAxis) "told" = some (some (.ref f_NoAxis_told)))
    (i_NoAxis_told : isFn K (.ref f_NoAxis_told) = true)
    (l_NoAxis_told : K.lookup f_NoAxis_told = some ⟨oc_NoAxis_told, od_NoAxis_told, .func (PySem.W.fnOf "told" "NoAxis.told" (defArgs s_NoAxis_told) (defBody s_NoAxis_told) (defScope s_NoAxis_told) .none kV_NoAxis_told dc_NoAxis_told pm_NoAxis_told an_NoAxis_told cd_NoAxis_told ct_NoAxis_told), sl_NoAxis_told⟩)
    (c_NoAxis_told : codeIn K cd_NoAxis_told "NoAxis.told" = true)
    (k_NoAxis_told : keepIn K (.ref f_NoAxis_told) = true)
    (a_NoCell_told : findIn K (.ref C_NoCell) "told" = some (some (.ref f_NoCell_told)))
    (i_NoCell_told : isFn K (.ref f_NoCell_told) = true)
    (l_NoCell_told : K.lookup f_NoCell_told = some ⟨oc_NoCell_told, od_NoCell_told, .func (PySem.W.fnOf "told" "NoCell.told" (defArgs s_NoCell_told) (defBody s_NoCell_told) (defScope s_NoCell_told) .none kV_NoCell_told dc_NoCell_told pm_NoCell_told an_NoCell_told cd_NoCell_told ct_NoCell_told), sl_NoCell_told⟩)
    (c_NoCell_told : codeIn K cd_NoCell_told "NoCell.told" = true)
    (k_NoCell_told : keepIn K (.ref f_NoCell_told) = true)
    (a_NoLinear_told : findIn K (.ref C_NoLinear) "told" = some (some (.ref f_NoLinear_told)))
    (i_NoLinear_told : isFn K (.ref f_NoLinear_told) = true)
    (l_NoLinear_told : K.lookup f_NoLinear_told = some ⟨oc_NoLinear_told, od_NoLinear_told, .func (PySem.W.fnOf "told" "NoLinear.told" (defArgs s_NoLinear_told) (defBody s_NoLinear_told) (defScope s_NoLinear_told) .none kV_NoLinear_told dc_NoLinear_told pm_NoLinear_told an_NoLinear_told cd_NoLinear_told ct_NoLinear_told), sl_NoLinear_told⟩)
    (c_NoLinear_told : codeIn K cd_NoLinear_told "NoLinear.told" = true)
    (k_NoLinear_told : keepIn K (.ref f_NoLinear_told) = true)
    (a_NoMember_told : findIn K (.ref C_NoMember) "told" = some (some (.ref f_NoMember_told)))
    (i_NoMember_told : isFn K (.ref f_NoMember_told) = true)
    (l_NoMember_told : K.lookup f_NoMember_told = some ⟨oc_NoMember_told, od_NoMember_told, .func (PySem.W.fnOf "told" "NoMember.told" (defArgs s_NoMember_told) (defBody s_NoMember_told) (defScope s_NoMember_told) .none kV_NoMember_told dc_NoMember_told pm_NoMember_told an_NoMember_told cd_NoMember_told ct_NoMember_told), sl_NoMember_told⟩)
    (c_NoMember_told : codeIn K cd_NoMember_told "NoMember.told" = true)
    (k_NoMember_told : keepIn K (.ref f_NoMember_told) = true)
    (a_NoName_told : findIn K (.ref C_NoName) "told" = some (some (.ref f_NoName_told)))
    (i_NoName_told : isFn K (.ref f_NoName_told) = true)
    (l_NoName_told : K.lookup f_NoName_told = some ⟨oc_NoName_told, od_NoName_told, .func (PySem.W.fnOf "told" "NoName.told" (defArgs s_NoName_told) (defBody s_NoName_told) (defScope s_NoName_told) .none kV_NoName_told dc_NoName_told pm_NoName_told an_NoName_told cd_NoName_told ct_NoName_told), sl_NoName_told⟩)
    (c_NoName_told : codeIn K cd_NoName_told "NoName.told" = true)
    (k_NoName_told : keepIn K (.ref f_NoName_told) = true)
    (a_NoPart_told : findIn K (.ref C_NoPart) "told" = some (some (.ref f_NoPart_told)))
    (i_NoPart_told : isFn K (.ref f_NoPart_told) = true)
    (l_NoPart_told : K.lookup f_NoPart_told = some ⟨oc_NoPart_told, od_NoPart_told, .func (PySem.W.fnOf "told" "NoPart.told" (defArgs s_NoPart_told) (defBody s_NoPart_told) (defScope s_NoPart_told) .none kV_NoPart_told dc_NoPart_told pm_NoPart_told an_NoPart_told cd_NoPart_told ct_NoPart_told), sl_NoPart_told⟩)
    (c_NoPart_told : codeIn K cd_NoPart_told "NoPart.told" = true)
    (k_NoPart_told : keepIn K (.ref f_NoPart_told) = true)
    (a_NoQuotient_told : findIn K (.ref C_NoQuotient) "told" = some (some (.ref f_NoQuotient_told)))
    (i_NoQuotient_told : isFn K (.ref f_NoQuotient_told) = true)
    (l_NoQuotient_told : K.lookup f_NoQuotient_told = some ⟨oc_NoQuotient_told, od_NoQuotient_told, .func (PySem.W.fnOf "told" "NoQuotient.told" (defArgs s_NoQuotient_told) (defBody s_NoQuotient_told) (defScope s_NoQuotient_told) .none kV_NoQuotient_told dc_NoQuotient_told pm_NoQuotient_told an_NoQuotient_told cd_NoQuotient_told ct_NoQuotient_told), sl_NoQuotient_told⟩)
    (c_NoQuotient_told : codeIn K cd_NoQuotient_told "NoQuotient.told" = true)
    (k_NoQuotient_told : keepIn K (.ref f_NoQuotient_told) = true)
    (a_NoRatio_told : findIn K (.ref C_NoRatio) "told" = some (some (.ref f_NoRatio_told)))
    (i_NoRatio_told : isFn K (.ref f_NoRatio_told) = true)
    (l_NoRatio_told : K.lookup f_NoRatio_told = some ⟨oc_NoRatio_told, od_NoRatio_told, .func (PySem.W.fnOf "told" "NoRatio.told" (defArgs s_NoRatio_told) (defBody s_NoRatio_told) (defScope s_NoRatio_told) .none kV_NoRatio_told dc_NoRatio_told pm_NoRatio_told an_NoRatio_told cd_NoRatio_told ct_NoRatio_told), sl_NoRatio_told⟩)
    (c_NoRatio_told : codeIn K cd_NoRatio_told "NoRatio.told" = true)
    (k_NoRatio_told : keepIn K (.ref f_NoRatio_told) = true)
    (a_NoRows_told : findIn K (.ref C_NoRows) "told" = some (some (.ref f_NoRows_told)))
    (i_NoRows_told : isFn K (.ref f_NoRows_told) = true)
    (l_NoRows_told : K.lookup f_NoRows_told = some ⟨oc_NoRows_told, od_NoRows_told, .func (PySem.W.fnOf "told" "NoRows.told" (defArgs s_NoRows_told) (defBody s_NoRows_told) (defScope s_NoRows_told) .none kV_NoRows_told dc_NoRows_told pm_NoRows_told an_NoRows_told cd_NoRows_told ct_NoRows_told), sl_NoRows_told⟩)
    (c_NoRows_told : codeIn K cd_NoRows_told "NoRows.told" = true)
    (k_NoRows_told : keepIn K (.ref f_NoRows_told) = true)
    (a_NoSpace_told : findIn K (.ref C_NoSpace) "told" = some (some (.ref f_NoSpace_told)))
    (i_NoSpace_told : isFn K (.ref f_NoSpace_told) = true)
    (l_NoSpace_told : K.lookup f_NoSpace_told = some ⟨oc_NoSpace_told, od_NoSpace_told, .func (PySem.W.fnOf "told" "NoSpace.told" (defArgs s_NoSpace_told) (defBody s_NoSpace_told) (defScope s_NoSpace_told) .none kV_NoSpace_told dc_NoSpace_told pm_NoSpace_told an_NoSpace_told cd_NoSpace_told ct_NoSpace_told), sl_NoSpace_told⟩)
    (c_NoSpace_told : codeIn K cd_NoSpace_told "NoSpace.told" = true)
    (k_NoSpace_told : keepIn K (.ref f_NoSpace_told) = true)
    (a_NoSuch_told : findIn K (.ref C_NoSuch) "told" = some (some (.ref f_NoSuch_told)))
    (i_NoSuch_told : isFn K (.ref f_NoSuch_told) = true)
    (l_NoSuch_told : K.lookup f_NoSuch_told = some ⟨oc_NoSuch_told, od_NoSuch_told, .func (PySem.W.fnOf "told" "NoSuch.told" (defArgs s_NoSuch_told) (defBody s_NoSuch_told) (defScope s_NoSuch_told) .none kV_NoSuch_told dc_NoSuch_told pm_NoSuch_told an_NoSuch_told cd_NoSuch_told ct_NoSuch_told), sl_NoSuch_told⟩)
    (c_NoSuch_told : codeIn K cd_NoSuch_told "NoSuch.told" = true)
    (k_NoSuch_told : keepIn K (.ref f_NoSuch_told) = true)
    (a_NoTable_told : findIn K (.ref C_NoTable) "told" = some (some (.ref f_NoTable_told)))
    (i_NoTable_told : isFn K (.ref f_NoTable_told) = true)
    (l_NoTable_told : K.lookup f_NoTable_told = some ⟨oc_NoTable_told, od_NoTable_told, .func (PySem.W.fnOf "told" "NoTable.told" (defArgs s_NoTable_told) (defBody s_NoTable_told) (defScope s_NoTable_told) .none kV_NoTable_told dc_NoTable_told pm_NoTable_told an_NoTable_told cd_NoTable_told ct_NoTable_told), sl_NoTable_told⟩)
    (c_NoTable_told : codeIn K cd_NoTable_told "NoTable.told" = true)
    (k_NoTable_told : keepIn K (.ref f_NoTable_told) = true)
    (a_NoValues_told : findIn K (.ref C_NoValues) "told" = some (some (.ref f_NoValues_told)))
    (i_NoValues_told : isFn K (.ref f_NoValues_told) = true)
    (l_NoValues_told : K.lookup f_NoValues_told = some ⟨oc_NoValues_told, od_NoValues_told, .func (PySem.W.fnOf "told" "NoValues.told" (defArgs s_NoValues_told) (defBody s_NoValues_told) (defScope s_NoValues_told) .none kV_NoValues_told dc_NoValues_told pm_NoValues_told an_NoValues_told cd_NoValues_told ct_NoValues_told), sl_NoValues_told⟩)
    (c_NoValues_told : codeIn K cd_NoValues_told "NoValues.told" = true)
    (k_NoValues_told : keepIn K (.ref f_NoValues_told) = true)
    (a_OtherSpace_told : findIn K (.ref C_OtherSpace) "told" = some (some (.ref f_OtherSpace_told)))
    (i_OtherSpace_told : isFn K (.ref f_OtherSpace_told) = true)
    (l_OtherSpace_told : K.lookup f_OtherSpace_told = some ⟨oc_OtherSpace_told, od_OtherSpace_told, .func (PySem.W.fnOf "told" "OtherSpace.told" (defArgs s_OtherSpace_told) (defBody s_OtherSpace_told) (defScope s_OtherSpace_told) .none kV_OtherSpace_told dc_OtherSpace_told pm_OtherSpace_told an_OtherSpace_told cd_OtherSpace_told ct_OtherSpace_told), sl_OtherSpace_told⟩)
    (c_OtherSpace_told : codeIn K cd_OtherSpace_told "OtherSpace.told" = true)
    (k_OtherSpace_told : keepIn K (.ref f_OtherSpace_told) = true)
    (a_PartError_told : findIn K (.ref C_PartError) "told" = some (some (.ref f_PartError_told)))
    (i_PartError_told : isFn K (.ref f_PartError_told) = true)
    (l_PartError_told : K.lookup f_PartError_told = some ⟨oc_PartError_told, od_PartError_told, .func (PySem.W.fnOf "told" "PartError.told" (defArgs s_PartError_told) (defBody s_PartError_told) (defScope s_PartError_told) .none kV_PartError_told dc_PartError_told pm_PartError_told an_PartError_told cd_PartError_told ct_PartError_told), sl_PartError_told⟩)
    (c_PartError_told : codeIn K cd_PartError_told "PartError.told" = true)
    (k_PartError_told : keepIn K (.ref f_PartError_told) = true)
    (a_Twice_told : findIn K (.ref C_Twice) "told" = some (some (.ref f_Twice_told)))
    (i_Twice_told : isFn K (.ref f_Twice_told) = true)
    (l_Twice_told : K.lookup f_Twice_told = some ⟨oc_Twice_told, od_Twice_told, .func (PySem.W.fnOf "told" "Twice.told" (defArgs s_Twice_told) (defBody s_Twice_told) (defScope s_Twice_told) .none kV_Twice_told dc_Twice_told pm_Twice_told an_Twice_told cd_Twice_told ct_Twice_told), sl_Twice_told⟩)
    (c_Twice_told : codeIn K cd_Twice_told "Twice.told" = true)
    (k_Twice_told : keepIn K (.ref f_Twice_told) = true)
    (a__law_base : nsIn K mainGlobals "_law_base" = some (some (.ref f__law_base)))
    (l__law_base : K.lookup f__law_base = some ⟨oc__law_base, od__law_base, .func (PySem.W.fnOf "_law_base" "_law_base" (defArgs s__law_base) (defBody s__law_base) (defScope s__law_base) .none kV__law_base dc__law_base pm__law_base an__law_base cd__law_base ct__law_base), sl__law_base⟩)
    (c__law_base : codeIn K cd__law_base "_law_base" = true)
    (k__law_base : keepIn K (.ref f__law_base) = true)
    (a__law_fields : nsIn K mainGlobals "_law_fields" = some (some (.ref f__law_fields)))
    (l__law_fields : K.lookup f__law_fields = some ⟨oc__law_fields, od__law_fields, .func (PySem.W.fnOf "_law_fields" "_law_fields" (defArgs s__law_fields) (defBody s__law_fields) (defScope s__law_fields) .none kV__law_fields dc__law_fields pm__law_fields an__law_fields cd__law_fields ct__law_fields), sl__law_fields⟩)
    (c__law_fields : codeIn K cd__law_fields "_law_fields" = true)
    (k__law_fields : keepIn K (.ref f__law_fields) = true)
    (a__law_value : nsIn K mainGlobals "_law_value" = some (some (.ref f__law_value)))
    (l__law_value : K.lookup f__law_value = some ⟨oc__law_value, od__law_value, .func (PySem.W.fnOf "_law_value" "_law_value" (defArgs s__law_value) (defBody s__law_value) (defScope s__law_value) .none kV__law_value dc__law_value pm__law_value an__law_value cd__law_value ct__law_value), sl__law_value⟩)
    (c__law_value : codeIn K cd__law_value "_law_value" = true)
    (k__law_value : keepIn K (.ref f__law_value) = true)
    (a_law : nsIn K mainGlobals "law" = some (some (.ref f_law)))
    (l_law : K.lookup f_law = some ⟨oc_law, od_law, .func (PySem.W.fnOf "law" "law" (defArgs s_law) (defBody s_law) (defScope s_law) .none kV_law dc_law pm_law an_law cd_law ct_law), sl_law⟩)
    (c_law : codeIn K cd_law "law" = true)
    (k_law : keepIn K (.ref f_law) = true)
    (a_Full_init : findIn K (.ref C_Full) "__init__" = some (some (.ref f_Full_init)))
    (t_Full_init : typeIn K (.ref f_Full_init) = some (.type "function"))
    (l_Full_init : K.lookup f_Full_init = some ⟨oc_Full_init, od_Full_init, .func (PySem.W.fnOf "__init__" "Full.__init__" (defArgs s_Full_init) (defBody s_Full_init) (defScope s_Full_init) .none kV_Full_init dc_Full_init pm_Full_init an_Full_init cd_Full_init ct_Full_init), sl_Full_init⟩)
    (c_Full_init : codeIn K cd_Full_init "Full.__init__" = true)
    (k_Full_init : keepIn K (.ref f_Full_init) = true)
    (nf_Full_number : findIn K (.ref C_Full) "number" = some none)
    (a_NoAxis_init : findIn K (.ref C_NoAxis) "__init__" = some (some (.ref f_NoAxis_init)))
    (t_NoAxis_init : typeIn K (.ref f_NoAxis_init) = some (.type "function"))
    (l_NoAxis_init : K.lookup f_NoAxis_init = some ⟨oc_NoAxis_init, od_NoAxis_init, .func (PySem.W.fnOf "__init__" "NoAxis.__init__" (defArgs s_NoAxis_init) (defBody s_NoAxis_init) (defScope s_NoAxis_init) .none kV_NoAxis_init dc_NoAxis_init pm_NoAxis_init an_NoAxis_init cd_NoAxis_init ct_NoAxis_init), sl_NoAxis_init⟩)
    (c_NoAxis_init : codeIn K cd_NoAxis_init "NoAxis.__init__" = true)
    (k_NoAxis_init : keepIn K (.ref f_NoAxis_init) = true)
    (nf_NoAxis_axis : findIn K (.ref C_NoAxis) "axis" = some none)
    (a_NoCell_init : findIn K (.ref C_NoCell) "__init__" = some (some (.ref f_NoCell_init)))
    (t_NoCell_init : typeIn K (.ref f_NoCell_init) = some (.type "function"))
    (l_NoCell_init : K.lookup f_NoCell_init = some ⟨oc_NoCell_init, od_NoCell_init, .func (PySem.W.fnOf "__init__" "NoCell.__init__" (defArgs s_NoCell_init) (defBody s_NoCell_init) (defScope s_NoCell_init) .none kV_NoCell_init dc_NoCell_init pm_NoCell_init an_NoCell_init cd_NoCell_init ct_NoCell_init), sl_NoCell_init⟩)
    (c_NoCell_init : codeIn K cd_NoCell_init "NoCell.__init__" = true)
    (k_NoCell_init : keepIn K (.ref f_NoCell_init) = true)
    (nf_NoCell_cell : findIn K (.ref C_NoCell) "cell" = some none)
    (a_NoLinear_init : findIn K (.ref C_NoLinear) "__init__" = some (some (.ref f_NoLinear_init)))
    (t_NoLinear_init : typeIn K (.ref f_NoLinear_init) = some (.type "function"))
    (l_NoLinear_init : K.lookup f_NoLinear_init = some ⟨oc_NoLinear_init, od_NoLinear_init, .func (PySem.W.fnOf "__init__" "NoLinear.__init__" (defArgs s_NoLinear_init) (defBody s_NoLinear_init) (defScope s_NoLinear_init) .none kV_NoLinear_init dc_NoLinear_init pm_NoLinear_init an_NoLinear_init cd_NoLinear_init ct_NoLinear_init), sl_NoLinear_init⟩)
    (c_NoLinear_init : codeIn K cd_NoLinear_init "NoLinear.__init__" = true)
    (k_NoLinear_init : keepIn K (.ref f_NoLinear_init) = true)
    (nf_NoLinear_word : findIn K (.ref C_NoLinear) "word" = some none)
    (a_NoMember_init : findIn K (.ref C_NoMember) "__init__" = some (some (.ref f_NoMember_init)))
    (t_NoMember_init : typeIn K (.ref f_NoMember_init) = some (.type "function"))
    (l_NoMember_init : K.lookup f_NoMember_init = some ⟨oc_NoMember_init, od_NoMember_init, .func (PySem.W.fnOf "__init__" "NoMember.__init__" (defArgs s_NoMember_init) (defBody s_NoMember_init) (defScope s_NoMember_init) .none kV_NoMember_init dc_NoMember_init pm_NoMember_init an_NoMember_init cd_NoMember_init ct_NoMember_init), sl_NoMember_init⟩)
    (c_NoMember_init : codeIn K cd_NoMember_init "NoMember.__init__" = true)
    (k_NoMember_init : keepIn K (.ref f_NoMember_init) = true)
    (nf_NoMember_member : findIn K (.ref C_NoMember) "member" = some none)
    (a_NoName_init : findIn K (.ref C_NoName) "__init__" = some (some (.ref f_NoName_init)))
    (t_NoName_init : typeIn K (.ref f_NoName_init) = some (.type "function"))
    (l_NoName_init : K.lookup f_NoName_init = some ⟨oc_NoName_init, od_NoName_init, .func (PySem.W.fnOf "__init__" "NoName.__init__" (defArgs s_NoName_init) (defBody s_NoName_init) (defScope s_NoName_init) .none kV_NoName_init dc_NoName_init pm_NoName_init an_NoName_init cd_NoName_init ct_NoName_init), sl_NoName_init⟩)
    (c_NoName_init : codeIn K cd_NoName_init "NoName.__init__" = true)
    (k_NoName_init : keepIn K (.ref f_NoName_init) = true)
    (nf_NoName_name : findIn K (.ref C_NoName) "name" = some none)
    (a_NoRatio_init : findIn K (.ref C_NoRatio) "__init__" = some (some (.ref f_NoRatio_init)))
    (t_NoRatio_init : typeIn K (.ref f_NoRatio_init) = some (.type "function"))
    (l_NoRatio_init : K.lookup f_NoRatio_init = some ⟨oc_NoRatio_init, od_NoRatio_init, .func (PySem.W.fnOf "__init__" "NoRatio.__init__" (defArgs s_NoRatio_init) (defBody s_NoRatio_init) (defScope s_NoRatio_init) .none kV_NoRatio_init dc_NoRatio_init pm_NoRatio_init an_NoRatio_init cd_NoRatio_init ct_NoRatio_init), sl_NoRatio_init⟩)
    (c_NoRatio_init : codeIn K cd_NoRatio_init "NoRatio.__init__" = true)
    (k_NoRatio_init : keepIn K (.ref f_NoRatio_init) = true)
    (nf_NoRatio_word : findIn K (.ref C_NoRatio) "word" = some none)
    (a_NoRows_init : findIn K (.ref C_NoRows) "__init__" = some (some (.ref f_NoRows_init)))
    (t_NoRows_init : typeIn K (.ref f_NoRows_init) = some (.type "function"))
    (l_NoRows_init : K.lookup f_NoRows_init = some ⟨oc_NoRows_init, od_NoRows_init, .func (PySem.W.fnOf "__init__" "NoRows.__init__" (defArgs s_NoRows_init) (defBody s_NoRows_init) (defScope s_NoRows_init) .none kV_NoRows_init dc_NoRows_init pm_NoRows_init an_NoRows_init cd_NoRows_init ct_NoRows_init), sl_NoRows_init⟩)
    (c_NoRows_init : codeIn K cd_NoRows_init "NoRows.__init__" = true)
    (k_NoRows_init : keepIn K (.ref f_NoRows_init) = true)
    (nf_NoRows_cell : findIn K (.ref C_NoRows) "cell" = some none)
    (nf_NoRows_value : findIn K (.ref C_NoRows) "value" = some none)
    (a_NoSpace_init : findIn K (.ref C_NoSpace) "__init__" = some (some (.ref f_NoSpace_init)))
    (t_NoSpace_init : typeIn K (.ref f_NoSpace_init) = some (.type "function"))
    (l_NoSpace_init : K.lookup f_NoSpace_init = some ⟨oc_NoSpace_init, od_NoSpace_init, .func (PySem.W.fnOf "__init__" "NoSpace.__init__" (defArgs s_NoSpace_init) (defBody s_NoSpace_init) (defScope s_NoSpace_init) .none kV_NoSpace_init dc_NoSpace_init pm_NoSpace_init an_NoSpace_init cd_NoSpace_init ct_NoSpace_init), sl_NoSpace_init⟩)
    (c_NoSpace_init : codeIn K cd_NoSpace_init "NoSpace.__init__" = true)
    (k_NoSpace_init : keepIn K (.ref f_NoSpace_init) = true)
    (nf_NoSpace_place : findIn K (.ref C_NoSpace) "place" = some none)
    (nf_NoSpace_word : findIn K (.ref C_NoSpace) "word" = some none)
    (a_NoSuch_init : findIn K (.ref C_NoSuch) "__init__" = some (some (.ref f_NoSuch_init)))
    (t_NoSuch_init : typeIn K (.ref f_NoSuch_init) = some (.type "function"))
    (l_NoSuch_init : K.lookup f_NoSuch_init = some ⟨oc_NoSuch_init, od_NoSuch_init, .func (PySem.W.fnOf "__init__" "NoSuch.__init__" (defArgs s_NoSuch_init) (defBody s_NoSuch_init) (defScope s_NoSuch_init) .none kV_NoSuch_init dc_NoSuch_init pm_NoSuch_init an_NoSuch_init cd_NoSuch_init ct_NoSuch_init), sl_NoSuch_init⟩)
    (c_NoSuch_init : codeIn K cd_NoSuch_init "NoSuch.__init__" = true)
    (k_NoSuch_init : keepIn K (.ref f_NoSuch_init) = true)
    (nf_NoSuch_name : findIn K (.ref C_NoSuch) "name" = some none)
    (a_NoTable_init : findIn K (.ref C_NoTable) "__init__" = some (some (.ref f_NoTable_init)))
    (t_NoTable_init : typeIn K (.ref f_NoTable_init) = some (.type "function"))
    (l_NoTable_init : K.lookup f_NoTable_init = some ⟨oc_NoTable_init, od_NoTable_init, .func (PySem.W.fnOf "__init__" "NoTable.__init__" (defArgs s_NoTable_init) (defBody s_NoTable_init) (defScope s_NoTable_init) .none kV_NoTable_init dc_NoTable_init pm_NoTable_init an_NoTable_init cd_NoTable_init ct_NoTable_init), sl_NoTable_init⟩)
    (c_NoTable_init : codeIn K cd_NoTable_init "NoTable.__init__" = true)
    (k_NoTable_init : keepIn K (.ref f_NoTable_init) = true)
    (nf_NoTable_place : findIn K (.ref C_NoTable) "place" = some none)
    (nf_NoTable_word : findIn K (.ref C_NoTable) "word" = some none)
    (a_NoValues_init : findIn K (.ref C_NoValues) "__init__" = some (some (.ref f_NoValues_init)))
    (t_NoValues_init : typeIn K (.ref f_NoValues_init) = some (.type "function"))
    (l_NoValues_init : K.lookup f_NoValues_init = some ⟨oc_NoValues_init, od_NoValues_init, .func (PySem.W.fnOf "__init__" "NoValues.__init__" (defArgs s_NoValues_init) (defBody s_NoValues_init) (defScope s_NoValues_init) .none kV_NoValues_init dc_NoValues_init pm_NoValues_init an_NoValues_init cd_NoValues_init ct_NoValues_init), sl_NoValues_init⟩)
    (c_NoValues_init : codeIn K cd_NoValues_init "NoValues.__init__" = true)
    (k_NoValues_init : keepIn K (.ref f_NoValues_init) = true)
    (nf_NoValues_name : findIn K (.ref C_NoValues) "name" = some none)
    (a_Twice_init : findIn K (.ref C_Twice) "__init__" = some (some (.ref f_Twice_init)))
    (t_Twice_init : typeIn K (.ref f_Twice_init) = some (.type "function"))
    (l_Twice_init : K.lookup f_Twice_init = some ⟨oc_Twice_init, od_Twice_init, .func (PySem.W.fnOf "__init__" "Twice.__init__" (defArgs s_Twice_init) (defBody s_Twice_init) (defScope s_Twice_init) .none kV_Twice_init dc_Twice_init pm_Twice_init an_Twice_init cd_Twice_init ct_Twice_init), sl_Twice_init⟩)
    (c_Twice_init : codeIn K cd_Twice_init "Twice.__init__" = true)
    (k_Twice_init : keepIn K (.ref f_Twice_init) = true)
    (nf_Twice_name : findIn K (.ref C_Twice) "name" = some none)
    (xc_NoCell : PySem.W.isClsIn K C_NoCell = true)
    (xs_NoName_NoCell : subIn K (.ref C_NoName) (.ref C_NoCell) = some false)
    (xs_NoCell_NoCell : subIn K (.ref C_NoCell) (.ref C_NoCell) = some true)
    (xs_NoRatio_NoCell : subIn K (.ref C_NoRatio) (.ref C_NoCell) = some false)
    (xs_NoSpace_NoCell : subIn K (.ref C_NoSpace) (.ref C_NoCell) = some false)
    (xs_NoAxis_NoCell : subIn K (.ref C_NoAxis) (.ref C_NoCell) = some false)
    (xs_NoMember_NoCell : subIn K (.ref C_NoMember) (.ref C_NoCell) = some false)
    (xs_Twice_NoCell : subIn K (.ref C_Twice) (.ref C_NoCell) = some false)
    (xs_OtherSpace_NoCell : subIn K (.ref C_OtherSpace) (.ref C_NoCell) = some false)
    (xs_NoTable_NoCell : subIn K (.ref C_NoTable) (.ref C_NoCell) = some false)
    (xs_NoRows_NoCell : subIn K (.ref C_NoRows) (.ref C_NoCell) = some false)
    (xs_NoLinear_NoCell : subIn K (.ref C_NoLinear) (.ref C_NoCell) = some false)
    (xs_NoQuotient_NoCell : subIn K (.ref C_NoQuotient) (.ref C_NoCell) = some false)
    (xs_NoPart_NoCell : subIn K (.ref C_NoPart) (.ref C_NoCell) = some false)
    (xs_Full_NoCell : subIn K (.ref C_Full) (.ref C_NoCell) = some false)
    (xs_NoSuch_NoCell : subIn K (.ref C_NoSuch) (.ref C_NoCell) = some false)
    (xs_NoValues_NoCell : subIn K (.ref C_NoValues) (.ref C_NoCell) = some false)
    (xs_PartError_NoCell : subIn K (.ref C_PartError) (.ref C_NoCell) = some false)
    (ga_NoName : findIn K (.ref C_NoName) "__getattribute__" = some (some (.builtin "BaseException.__getattribute__")))
    (gg_NoName : findIn K (.ref C_NoName) "__getattr__" = some none)
    (xh_NoName : PySem.W.hasDictIn K C_NoName = true)
    (cA_NoName : findIn K (.ref C_NoName) "__class__" = some (some (.builtin "object.__class__")))
    (no_NoName : PySem.W.mroIn K C_NoName (.type "object") = some true)
    (ga_NoRatio : findIn K (.ref C_NoRatio) "__getattribute__" = some (some (.builtin "BaseException.__getattribute__")))
    (gg_NoRatio : findIn K (.ref C_NoRatio) "__getattr__" = some none)
    (xh_NoRatio : PySem.W.hasDictIn K C_NoRatio = true)
    (cA_NoRatio : findIn K (.ref C_NoRatio) "__class__" = some (some (.builtin "object.__class__")))
    (no_NoRatio : PySem.W.mroIn K C_NoRatio (.type "object") = some true)
    (ga_NoSpace : findIn K (.ref C_NoSpace) "__getattribute__" = some (some (.builtin "BaseException.__getattribute__")))
    (gg_NoSpace : findIn K (.ref C_NoSpace) "__getattr__" = some none)
    (xh_NoSpace : PySem.W.hasDictIn K C_NoSpace = true)
    (cA_NoSpace : findIn K (.ref C_NoSpace) "__class__" = some (some (.builtin "object.__class__")))
    (no_NoSpace : PySem.W.mroIn K C_NoSpace (.type "object") = some true)
    (ga_NoCell : findIn K (.ref C_NoCell) "__getattribute__" = some (some (.builtin "BaseException.__getattribute__")))
    (gg_NoCell : findIn K (.ref C_NoCell) "__getattr__" = some none)
    (xh_NoCell : PySem.W.hasDictIn K C_NoCell = true)
    (cA_NoCell : findIn K (.ref C_NoCell) "__class__" = some (some (.builtin "object.__class__")))
    (no_NoCell : PySem.W.mroIn K C_NoCell (.type "object") = some true)
    (ga_NoAxis : findIn K (.ref C_NoAxis) "__getattribute__" = some (some (.builtin "BaseException.__getattribute__")))
    (gg_NoAxis : findIn K (.ref C_NoAxis) "__getattr__" = some none)
    (xh_NoAxis : PySem.W.hasDictIn K C_NoAxis = true)
    (cA_NoAxis : findIn K (.ref C_NoAxis) "__class__" = some (some (.builtin "object.__class__")))
    (no_NoAxis : PySem.W.mroIn K C_NoAxis (.type "object") = some true)
    (ga_NoMember : findIn K (.ref C_NoMember) "__getattribute__" = some (some (.builtin "BaseException.__getattribute__")))
    (gg_NoMember : findIn K (.ref C_NoMember) "__getattr__" = some none)
    (xh_NoMember : PySem.W.hasDictIn K C_NoMember = true)
    (cA_NoMember : findIn K (.ref C_NoMember) "__class__" = some (some (.builtin "object.__class__")))
    (no_NoMember : PySem.W.mroIn K C_NoMember (.type "object") = some true)
    (ga_Twice : findIn K (.ref C_Twice) "__getattribute__" = some (some (.builtin "BaseException.__getattribute__")))
    (gg_Twice : findIn K (.ref C_Twice) "__getattr__" = some none)
    (xh_Twice : PySem.W.hasDictIn K C_Twice = true)
    (cA_Twice : findIn K (.ref C_Twice) "__class__" = some (some (.builtin "object.__class__")))
    (no_Twice : PySem.W.mroIn K C_Twice (.type "object") = some true)
    (ga_OtherSpace : findIn K (.ref C_OtherSpace) "__getattribute__" = some (some (.builtin "BaseException.__getattribute__")))
    (gg_OtherSpace : findIn K (.ref C_OtherSpace) "__getattr__" = some none)
    (xh_OtherSpace : PySem.W.hasDictIn K C_OtherSpace = true)
    (cA_OtherSpace : findIn K (.ref C_OtherSpace) "__class__" = some (some (.builtin "object.__class__")))
    (no_OtherSpace : PySem.W.mroIn K C_OtherSpace (.type "object") = some true)
    (ga_NoTable : findIn K (.ref C_NoTable) "__getattribute__" = some (some (.builtin "BaseException.__getattribute__")))
    (gg_NoTable : findIn K (.ref C_NoTable) "__getattr__" = some none)
    (xh_NoTable : PySem.W.hasDictIn K C_NoTable = true)
    (cA_NoTable : findIn K (.ref C_NoTable) "__class__" = some (some (.builtin "object.__class__")))
    (no_NoTable : PySem.W.mroIn K C_NoTable (.type "object") = some true)
    (ga_NoRows : findIn K (.ref C_NoRows) "__getattribute__" = some (some (.builtin "BaseException.__getattribute__")))
    (gg_NoRows : findIn K (.ref C_NoRows) "__getattr__" = some none)
    (xh_NoRows : PySem.W.hasDictIn K C_NoRows = true)
    (cA_NoRows : findIn K (.ref C_NoRows) "__class__" = some (some (.builtin "object.__class__")))
    (no_NoRows : PySem.W.mroIn K C_NoRows (.type "object") = some true)
    (ga_NoLinear : findIn K (.ref C_NoLinear) "__getattribute__" = some (some (.builtin "BaseException.__getattribute__")))
    (gg_NoLinear : findIn K (.ref C_NoLinear) "__getattr__" = some none)
    (xh_NoLinear : PySem.W.hasDictIn K C_NoLinear = true)
    (cA_NoLinear : findIn K (.ref C_NoLinear) "__class__" = some (some (.builtin "object.__class__")))
    (no_NoLinear : PySem.W.mroIn K C_NoLinear (.type "object") = some true)
    (ga_NoQuotient : findIn K (.ref C_NoQuotient) "__getattribute__" = some (some (.builtin "BaseException.__getattribute__")))
    (gg_NoQuotient : findIn K (.ref C_NoQuotient) "__getattr__" = some none)
    (xh_NoQuotient : PySem.W.hasDictIn K C_NoQuotient = true)
    (cA_NoQuotient : findIn K (.ref C_NoQuotient) "__class__" = some (some (.builtin "object.__class__")))
    (no_NoQuotient : PySem.W.mroIn K C_NoQuotient (.type "object") = some true)
    (ga_NoPart : findIn K (.ref C_NoPart) "__getattribute__" = some (some (.builtin "BaseException.__getattribute__")))
    (gg_NoPart : findIn K (.ref C_NoPart) "__getattr__" = some none)
    (xh_NoPart : PySem.W.hasDictIn K C_NoPart = true)
    (cA_NoPart : findIn K (.ref C_NoPart) "__class__" = some (some (.builtin "object.__class__")))
    (no_NoPart : PySem.W.mroIn K C_NoPart (.type "object") = some true)
    (ga_Full : findIn K (.ref C_Full) "__getattribute__" = some (some (.builtin "BaseException.__getattribute__")))
    (gg_Full : findIn K (.ref C_Full) "__getattr__" = some none)
    (xh_Full : PySem.W.hasDictIn K C_Full = true)
    (cA_Full : findIn K (.ref C_Full) "__class__" = some (some (.builtin "object.__class__")))
    (no_Full : PySem.W.mroIn K C_Full (.type "object") = some true)
    (ga_NoSuch : findIn K (.ref C_NoSuch) "__getattribute__" = some (some (.builtin "BaseException.__getattribute__")))
    (gg_NoSuch : findIn K (.ref C_NoSuch) "__getattr__" = some none)
    (xh_NoSuch : PySem.W.hasDictIn K C_NoSuch = true)
    (cA_NoSuch : findIn K (.ref C_NoSuch) "__class__" = some (some (.builtin "object.__class__")))
    (no_NoSuch : PySem.W.mroIn K C_NoSuch (.type "object") = some true)
    (ga_NoValues : findIn K (.ref C_NoValues) "__getattribute__" = some (some (.builtin "BaseException.__getattribute__")))
    (gg_NoValues : findIn K (.ref C_NoValues) "__getattr__" = some none)
    (xh_NoValues : PySem.W.hasDictIn K C_NoValues = true)
    (cA_NoValues : findIn K (.ref C_NoValues) "__class__" = some (some (.builtin "object.__class__")))
    (no_NoValues : PySem.W.mroIn K C_NoValues (.type "object") = some true)
    (ga_PartError : findIn K (.ref C_PartError) "__getattribute__" = some (some (.builtin "BaseException.__getattribute__")))
    (gg_PartError : findIn K (.ref C_PartError) "__getattr__" = some none)
    (xh_PartError : PySem.W.hasDictIn K C_PartError = true)
    (cA_PartError : findIn K (.ref C_PartError) "__class__" = some (some (.builtin "object.__class__")))
    (no_PartError : PySem.W.mroIn K C_PartError (.type "object") = some true)
    (xc_NoSpace : PySem.W.isClsIn K C_NoSpace = true)
    (xs_NoName_NoSpace : subIn K (.ref C_NoName) (.ref C_NoSpace) = some false)
    (xs_NoSpace_NoSpace : subIn K (.ref C_NoSpace) (.ref C_NoSpace) = some true)
    (xs_NoRatio_NoSpace : subIn K (.ref C_NoRatio) (.ref C_NoSpace) = some false)
    (xs_NoCell_NoSpace : subIn K (.ref C_NoCell) (.ref C_NoSpace) = some false)
    (xs_NoAxis_NoSpace : subIn K (.ref C_NoAxis) (.ref C_NoSpace) = some false)
    (xs_NoMember_NoSpace : subIn K (.ref C_NoMember) (.ref C_NoSpace) = some false)
    (xs_Twice_NoSpace : subIn K (.ref C_Twice) (.ref C_NoSpace) = some false)
    (xs_OtherSpace_NoSpace : subIn K (.ref C_OtherSpace) (.ref C_NoSpace) = some false)
    (xs_NoTable_NoSpace : subIn K (.ref C_NoTable) (.ref C_NoSpace) = some false)
    (xs_NoRows_NoSpace : subIn K (.ref C_NoRows) (.ref C_NoSpace) = some false)
    (xs_NoLinear_NoSpace : subIn K (.ref C_NoLinear) (.ref C_NoSpace) = some false)
    (xs_NoQuotient_NoSpace : subIn K (.ref C_NoQuotient) (.ref C_NoSpace) = some false)
    (xs_NoPart_NoSpace : subIn K (.ref C_NoPart) (.ref C_NoSpace) = some false)
    (xs_Full_NoSpace : subIn K (.ref C_Full) (.ref C_NoSpace) = some false)
    (xs_NoSuch_NoSpace : subIn K (.ref C_NoSuch) (.ref C_NoSpace) = some false)
    (xs_NoValues_NoSpace : subIn K (.ref C_NoValues) (.ref C_NoSpace) = some false)
    (xs_PartError_NoSpace : subIn K (.ref C_PartError) (.ref C_NoSpace) = some false)
    (xc_NoRatio : PySem.W.isClsIn K C_NoRatio = true)
    (xs_NoName_NoRatio : subIn K (.ref C_NoName) (.ref C_NoRatio) = some false)
    (xs_NoRatio_NoRatio : subIn K (.ref C_NoRatio) (.ref C_NoRatio) = some true)
    (xs_NoSpace_NoRatio : subIn K (.ref C_NoSpace) (.ref C_NoRatio) = some false)
    (xs_NoCell_NoRatio : subIn K (.ref C_NoCell) (.ref C_NoRatio) = some false)
    (xs_NoAxis_NoRatio : subIn K (.ref C_NoAxis) (.ref C_NoRatio) = some false)
    (xs_NoMember_NoRatio : subIn K (.ref C_NoMember) (.ref C_NoRatio) = some false)
    (xs_Twice_NoRatio : subIn K (.ref C_Twice) (.ref C_NoRatio) = some false)
    (xs_OtherSpace_NoRatio : subIn K (.ref C_OtherSpace) (.ref C_NoRatio) = some false)
    (xs_NoTable_NoRatio : subIn K (.ref C_NoTable) (.ref C_NoRatio) = some false)
    (xs_NoRows_NoRatio : subIn K (.ref C_NoRows) (.ref C_NoRatio) = some false)
    (xs_NoLinear_NoRatio : subIn K (.ref C_NoLinear) (.ref C_NoRatio) = some false)
    (xs_NoQuotient_NoRatio : subIn K (.ref C_NoQuotient) (.ref C_NoRatio) = some false)
    (xs_NoPart_NoRatio : subIn K (.ref C_NoPart) (.ref C_NoRatio) = some false)
    (xs_Full_NoRatio : subIn K (.ref C_Full) (.ref C_NoRatio) = some false)
    (xs_NoSuch_NoRatio : subIn K (.ref C_NoSuch) (.ref C_NoRatio) = some false)
    (xs_NoValues_NoRatio : subIn K (.ref C_NoValues) (.ref C_NoRatio) = some false)
    (xs_PartError_NoRatio : subIn K (.ref C_PartError) (.ref C_NoRatio) = some false)
    (xc_NoName : PySem.W.isClsIn K C_NoName = true)
    (xs_NoRatio_NoName : subIn K (.ref C_NoRatio) (.ref C_NoName) = some false)
    (xs_NoName_NoName : subIn K (.ref C_NoName) (.ref C_NoName) = some true)
    (xs_NoSpace_NoName : subIn K (.ref C_NoSpace) (.ref C_NoName) = some false)
    (xs_NoCell_NoName : subIn K (.ref C_NoCell) (.ref C_NoName) = some false)
    (xs_NoAxis_NoName : subIn K (.ref C_NoAxis) (.ref C_NoName) = some false)
    (xs_NoMember_NoName : subIn K (.ref C_NoMember) (.ref C_NoName) = some false)
    (xs_Twice_NoName : subIn K (.ref C_Twice) (.ref C_NoName) = some false)
    (xs_OtherSpace_NoName : subIn K (.ref C_OtherSpace) (.ref C_NoName) = some false)
    (xs_NoTable_NoName : subIn K (.ref C_NoTable) (.ref C_NoName) = some false)
    (xs_NoRows_NoName : subIn K (.ref C_NoRows) (.ref C_NoName) = some false)
    (xs_NoLinear_NoName : subIn K (.ref C_NoLinear) (.ref C_NoName) = some false)
    (xs_NoQuotient_NoName : subIn K (.ref C_NoQuotient) (.ref C_NoName) = some false)
    (xs_NoPart_NoName : subIn K (.ref C_NoPart) (.ref C_NoName) = some false)
    (xs_Full_NoName : subIn K (.ref C_Full) (.ref C_NoName) = some false)
    (xs_NoSuch_NoName : subIn K (.ref C_NoSuch) (.ref C_NoName) = some false)
    (xs_NoValues_NoName : subIn K (.ref C_NoValues) (.ref C_NoName) = some false)
    (xs_PartError_NoName : subIn K (.ref C_PartError) (.ref C_NoName) = some false)
    (xc_Twice : PySem.W.isClsIn K C_Twice = true)
    (xs_NoName_Twice : subIn K (.ref C_NoName) (.ref C_Twice) = some false)
    (xs_Twice_Twice : subIn K (.ref C_Twice) (.ref C_Twice) = some true)
    (xs_NoRatio_Twice : subIn K (.ref C_NoRatio) (.ref C_Twice) = some false)
    (xs_NoSpace_Twice : subIn K (.ref C_NoSpace) (.ref C_Twice) = some false)
    (xs_NoCell_Twice : subIn K (.ref C_NoCell) (.ref C_Twice) = some false)
    (xs_NoAxis_Twice : subIn K (.ref C_NoAxis) (.ref C_Twice) = some false)
    (xs_NoMember_Twice : subIn K (.ref C_NoMember) (.ref C_Twice) = some false)
    (xs_OtherSpace_Twice : subIn K (.ref C_OtherSpace) (.ref C_Twice) = some false)
    (xs_NoTable_Twice : subIn K (.ref C_NoTable) (.ref C_Twice) = some false)
    (xs_NoRows_Twice : subIn K (.ref C_NoRows) (.ref C_Twice) = some false)
    (xs_NoLinear_Twice : subIn K (.ref C_NoLinear) (.ref C_Twice) = some false)
    (xs_NoQuotient_Twice : subIn K (.ref C_NoQuotient) (.ref C_Twice) = some false)
    (xs_NoPart_Twice : subIn K (.ref C_NoPart) (.ref C_Twice) = some false)
    (xs_Full_Twice : subIn K (.ref C_Full) (.ref C_Twice) = some false)
    (xs_NoSuch_Twice : subIn K (.ref C_NoSuch) (.ref C_Twice) = some false)
    (xs_NoValues_Twice : subIn K (.ref C_NoValues) (.ref C_Twice) = some false)
    (xs_PartError_Twice : subIn K (.ref C_PartError) (.ref C_Twice) = some false)
    (xc_NoMember : PySem.W.isClsIn K C_NoMember = true)
    (xs_NoName_NoMember : subIn K (.ref C_NoName) (.ref C_NoMember) = some false)
    (xs_NoMember_NoMember : subIn K (.ref C_NoMember) (.ref C_NoMember) = some true)
    (xs_NoRatio_NoMember : subIn K (.ref C_NoRatio) (.ref C_NoMember) = some false)
    (xs_NoSpace_NoMember : subIn K (.ref C_NoSpace) (.ref C_NoMember) = some false)
    (xs_NoCell_NoMember : subIn K (.ref C_NoCell) (.ref C_NoMember) = some false)
    (xs_NoAxis_NoMember : subIn K (.ref C_NoAxis) (.ref C_NoMember) = some false)
    (xs_Twice_NoMember : subIn K (.ref C_Twice) (.ref C_NoMember) = some false)
    (xs_OtherSpace_NoMember : subIn K (.ref C_OtherSpace) (.ref C_NoMember) = some false)
    (xs_NoTable_NoMember : subIn K (.ref C_NoTable) (.ref C_NoMember) = some false)
    (xs_NoRows_NoMember : subIn K (.ref C_NoRows) (.ref C_NoMember) = some false)
    (xs_NoLinear_NoMember : subIn K (.ref C_NoLinear) (.ref C_NoMember) = some false)
    (xs_NoQuotient_NoMember : subIn K (.ref C_NoQuotient) (.ref C_NoMember) = some false)
    (xs_NoPart_NoMember : subIn K (.ref C_NoPart) (.ref C_NoMember) = some false)
    (xs_Full_NoMember : subIn K (.ref C_Full) (.ref C_NoMember) = some false)
    (xs_NoSuch_NoMember : subIn K (.ref C_NoSuch) (.ref C_NoMember) = some false)
    (xs_NoValues_NoMember : subIn K (.ref C_NoValues) (.ref C_NoMember) = some false)
    (xs_PartError_NoMember : subIn K (.ref C_PartError) (.ref C_NoMember) = some false)
    (xc_NoAxis : PySem.W.isClsIn K C_NoAxis = true)
    (xs_NoName_NoAxis : subIn K (.ref C_NoName) (.ref C_NoAxis) = some false)
    (xs_NoAxis_NoAxis : subIn K (.ref C_NoAxis) (.ref C_NoAxis) = some true)
    (xs_NoRatio_NoAxis : subIn K (.ref C_NoRatio) (.ref C_NoAxis) = some false)
    (xs_NoSpace_NoAxis : subIn K (.ref C_NoSpace) (.ref C_NoAxis) = some false)
    (xs_NoCell_NoAxis : subIn K (.ref C_NoCell) (.ref C_NoAxis) = some false)
    (xs_NoMember_NoAxis : subIn K (.ref C_NoMember) (.ref C_NoAxis) = some false)
    (xs_Twice_NoAxis : subIn K (.ref C_Twice) (.ref C_NoAxis) = some false)
    (xs_OtherSpace_NoAxis : subIn K (.ref C_OtherSpace) (.ref C_NoAxis) = some false)
    (xs_NoTable_NoAxis : subIn K (.ref C_NoTable) (.ref C_NoAxis) = some false)
    (xs_NoRows_NoAxis : subIn K (.ref C_NoRows) (.ref C_NoAxis) = some false)
    (xs_NoLinear_NoAxis : subIn K (.ref C_NoLinear) (.ref C_NoAxis) = some false)
    (xs_NoQuotient_NoAxis : subIn K (.ref C_NoQuotient) (.ref C_NoAxis) = some false)
    (xs_NoPart_NoAxis : subIn K (.ref C_NoPart) (.ref C_NoAxis) = some false)
    (xs_Full_NoAxis : subIn K (.ref C_Full) (.ref C_NoAxis) = some false)
    (xs_NoSuch_NoAxis : subIn K (.ref C_NoSuch) (.ref C_NoAxis) = some false)
    (xs_NoValues_NoAxis : subIn K (.ref C_NoValues) (.ref C_NoAxis) = some false)
    (xs_PartError_NoAxis : subIn K (.ref C_PartError) (.ref C_NoAxis) = some false)
    (xc_NoRows : PySem.W.isClsIn K C_NoRows = true)
    (xs_NoName_NoRows : subIn K (.ref C_NoName) (.ref C_NoRows) = some false)
    (xs_NoRows_NoRows : subIn K (.ref C_NoRows) (.ref C_NoRows) = some true)
    (xs_NoRatio_NoRows : subIn K (.ref C_NoRatio) (.ref C_NoRows) = some false)
    (xs_NoSpace_NoRows : subIn K (.ref C_NoSpace) (.ref C_NoRows) = some false)
    (xs_NoCell_NoRows : subIn K (.ref C_NoCell) (.ref C_NoRows) = some false)
    (xs_NoAxis_NoRows : subIn K (.ref C_NoAxis) (.ref C_NoRows) = some false)
    (xs_NoMember_NoRows : subIn K (.ref C_NoMember) (.ref C_NoRows) = some false)
    (xs_Twice_NoRows : subIn K (.ref C_Twice) (.ref C_NoRows) = some false)
    (xs_OtherSpace_NoRows : subIn K (.ref C_OtherSpace) (.ref C_NoRows) = some false)
    (xs_NoTable_NoRows : subIn K (.ref C_NoTable) (.ref C_NoRows) = some false)
    (xs_NoLinear_NoRows : subIn K (.ref C_NoLinear) (.ref C_NoRows) = some false)
    (xs_NoQuotient_NoRows : subIn K (.ref C_NoQuotient) (.ref C_NoRows) = some false)
    (xs_NoPart_NoRows : subIn K (.ref C_NoPart) (.ref C_NoRows) = some false)
    (xs_Full_NoRows : subIn K (.ref C_Full) (.ref C_NoRows) = some false)
    (xs_NoSuch_NoRows : subIn K (.ref C_NoSuch) (.ref C_NoRows) = some false)
    (xs_NoValues_NoRows : subIn K (.ref C_NoValues) (.ref C_NoRows) = some false)
    (xs_PartError_NoRows : subIn K (.ref C_PartError) (.ref C_NoRows) = some false)
    (xc_NoTable : PySem.W.isClsIn K C_NoTable = true)
    (xs_NoName_NoTable : subIn K (.ref C_NoName) (.ref C_NoTable) = some false)
    (xs_NoTable_NoTable : subIn K (.ref C_NoTable) (.ref C_NoTable) = some true)
    (xs_NoRatio_NoTable : subIn K (.ref C_NoRatio) (.ref C_NoTable) = some false)
    (xs_NoSpace_NoTable : subIn K (.ref C_NoSpace) (.ref C_NoTable) = some false)
    (xs_NoCell_NoTable : subIn K (.ref C_NoCell) (.ref C_NoTable) = some false)
    (xs_NoAxis_NoTable : subIn K (.ref C_NoAxis) (.ref C_NoTable) = some false)
    (xs_NoMember_NoTable : subIn K (.ref C_NoMember) (.ref C_NoTable) = some false)
    (xs_Twice_NoTable : subIn K (.ref C_Twice) (.ref C_NoTable) = some false)
    (xs_OtherSpace_NoTable : subIn K (.ref C_OtherSpace) (.ref C_NoTable) = some false)
    (xs_NoRows_NoTable : subIn K (.ref C_NoRows) (.ref C_NoTable) = some false)
    (xs_NoLinear_NoTable : subIn K (.ref C_NoLinear) (.ref C_NoTable) = some false)
    (xs_NoQuotient_NoTable : subIn K (.ref C_NoQuotient) (.ref C_NoTable) = some false)
    (xs_NoPart_NoTable : subIn K (.ref C_NoPart) (.ref C_NoTable) = some false)
    (xs_Full_NoTable : subIn K (.ref C_Full) (.ref C_NoTable) = some false)
    (xs_NoSuch_NoTable : subIn K (.ref C_NoSuch) (.ref C_NoTable) = some false)
    (xs_NoValues_NoTable : subIn K (.ref C_NoValues) (.ref C_NoTable) = some false)
    (xs_PartError_NoTable : subIn K (.ref C_PartError) (.ref C_NoTable) = some false)
    (xc_OtherSpace : PySem.W.isClsIn K C_OtherSpace = true)
    (xs_NoName_OtherSpace : subIn K (.ref C_NoName) (.ref C_OtherSpace) = some false)
    (xs_OtherSpace_OtherSpace : subIn K (.ref C_OtherSpace) (.ref C_OtherSpace) = some true)
    (xs_NoRatio_OtherSpace : subIn K (.ref C_NoRatio) (.ref C_OtherSpace) = some false)
    (xs_NoSpace_OtherSpace : subIn K (.ref C_NoSpace) (.ref C_OtherSpace) = some false)
    (xs_NoCell_OtherSpace : subIn K (.ref C_NoCell) (.ref C_OtherSpace) = some false)
    (xs_NoAxis_OtherSpace : subIn K (.ref C_NoAxis) (.ref C_OtherSpace) = some false)
    (xs_NoMember_OtherSpace : subIn K (.ref C_NoMember) (.ref C_OtherSpace) = some false)
    (xs_Twice_OtherSpace : subIn K (.ref C_Twice) (.ref C_OtherSpace) = some false)
    (xs_NoTable_OtherSpace : subIn K (.ref C_NoTable) (.ref C_OtherSpace) = some false)
    (xs_NoRows_OtherSpace : subIn K (.ref C_NoRows) (.ref C_OtherSpace) = some false)
    (xs_NoLinear_OtherSpace : subIn K (.ref C_NoLinear) (.ref C_OtherSpace) = some false)
    (xs_NoQuotient_OtherSpace : subIn K (.ref C_NoQuotient) (.ref C_OtherSpace) = some false)
    (xs_NoPart_OtherSpace : subIn K (.ref C_NoPart) (.ref C_OtherSpace) = some false)
    (xs_Full_OtherSpace : subIn K (.ref C_Full) (.ref C_OtherSpace) = some false)
    (xs_NoSuch_OtherSpace : subIn K (.ref C_NoSuch) (.ref C_OtherSpace) = some false)
    (xs_NoValues_OtherSpace : subIn K (.ref C_NoValues) (.ref C_OtherSpace) = some false)
    (xs_PartError_OtherSpace : subIn K (.ref C_PartError) (.ref C_OtherSpace) = some false)
    (xc_NoPart : PySem.W.isClsIn K C_NoPart = true)
    (xs_NoName_NoPart : subIn K (.ref C_NoName) (.ref C_NoPart) = some false)
    (xs_NoPart_NoPart : subIn K (.ref C_NoPart) (.ref C_NoPart) = some true)
    (xs_NoRatio_NoPart : subIn K (.ref C_NoRatio) (.ref C_NoPart) = some false)
    (xs_NoSpace_NoPart : subIn K (.ref C_NoSpace) (.ref C_NoPart) = some false)
    (xs_NoCell_NoPart : subIn K (.ref C_NoCell) (.ref C_NoPart) = some false)
    (xs_NoAxis_NoPart : subIn K (.ref C_NoAxis) (.ref C_NoPart) = some false)
    (xs_NoMember_NoPart : subIn K (.ref C_NoMember) (.ref C_NoPart) = some false)
    (xs_Twice_NoPart : subIn K (.ref C_Twice) (.ref C_NoPart) = some false)
    (xs_OtherSpace_NoPart : subIn K (.ref C_OtherSpace) (.ref C_NoPart) = some false)
    (xs_NoTable_NoPart : subIn K (.ref C_NoTable) (.ref C_NoPart) = some false)
    (xs_NoRows_NoPart : subIn K (.ref C_NoRows) (.ref C_NoPart) = some false)
    (xs_NoLinear_NoPart : subIn K (.ref C_NoLinear) (.ref C_NoPart) = some false)
    (xs_NoQuotient_NoPart : subIn K (.ref C_NoQuotient) (.ref C_NoPart) = some false)
    (xs_Full_NoPart : subIn K (.ref C_Full) (.ref C_NoPart) = some false)
    (xs_NoSuch_NoPart : subIn K (.ref C_NoSuch) (.ref C_NoPart) = some false)
    (xs_NoValues_NoPart : subIn K (.ref C_NoValues) (.ref C_NoPart) = some false)
    (xs_PartError_NoPart : subIn K (.ref C_PartError) (.ref C_NoPart) = some false)
    (xc_NoQuotient : PySem.W.isClsIn K C_NoQuotient = true)
    (xs_NoName_NoQuotient : subIn K (.ref C_NoName) (.ref C_NoQuotient) = some false)
    (xs_NoQuotient_NoQuotient : subIn K (.ref C_NoQuotient) (.ref C_NoQuotient) = some true)
    (xs_NoRatio_NoQuotient : subIn K (.ref C_NoRatio) (.ref C_NoQuotient) = some false)
    (xs_NoSpace_NoQuotient : subIn K (.ref C_NoSpace) (.ref C_NoQuotient) = some false)
    (xs_NoCell_NoQuotient : subIn K (.ref C_NoCell) (.ref C_NoQuotient) = some false)
    (xs_NoAxis_NoQuotient : subIn K (.ref C_NoAxis) (.ref C_NoQuotient) = some false)
    (xs_NoMember_NoQuotient : subIn K (.ref C_NoMember) (.ref C_NoQuotient) = some false)
    (xs_Twice_NoQuotient : subIn K (.ref C_Twice) (.ref C_NoQuotient) = some false)
    (xs_OtherSpace_NoQuotient : subIn K (.ref C_OtherSpace) (.ref C_NoQuotient) = some false)
    (xs_NoTable_NoQuotient : subIn K (.ref C_NoTable) (.ref C_NoQuotient) = some false)
    (xs_NoRows_NoQuotient : subIn K (.ref C_NoRows) (.ref C_NoQuotient) = some false)
    (xs_NoLinear_NoQuotient : subIn K (.ref C_NoLinear) (.ref C_NoQuotient) = some false)
    (xs_NoPart_NoQuotient : subIn K (.ref C_NoPart) (.ref C_NoQuotient) = some false)
    (xs_Full_NoQuotient : subIn K (.ref C_Full) (.ref C_NoQuotient) = some false)
    (xs_NoSuch_NoQuotient : subIn K (.ref C_NoSuch) (.ref C_NoQuotient) = some false)
    (xs_NoValues_NoQuotient : subIn K (.ref C_NoValues) (.ref C_NoQuotient) = some false)
    (xs_PartError_NoQuotient : subIn K (.ref C_PartError) (.ref C_NoQuotient) = some false)
    (xc_NoLinear : PySem.W.isClsIn K C_NoLinear = true)
    (xs_NoName_NoLinear : subIn K (.ref C_NoName) (.ref C_NoLinear) = some false)
    (xs_NoLinear_NoLinear : subIn K (.ref C_NoLinear) (.ref C_NoLinear) = some true)
    (xs_NoRatio_NoLinear : subIn K (.ref C_NoRatio) (.ref C_NoLinear) = some false)
    (xs_NoSpace_NoLinear : subIn K (.ref C_NoSpace) (.ref C_NoLinear) = some false)
    (xs_NoCell_NoLinear : subIn K (.ref C_NoCell) (.ref C_NoLinear) = some false)
    (xs_NoAxis_NoLinear : subIn K (.ref C_NoAxis) (.ref C_NoLinear) = some false)
    (xs_NoMember_NoLinear : subIn K (.ref C_NoMember) (.ref C_NoLinear) = some false)
    (xs_Twice_NoLinear : subIn K (.ref C_Twice) (.ref C_NoLinear) = some false)
    (xs_OtherSpace_NoLinear : subIn K (.ref C_OtherSpace) (.ref C_NoLinear) = some false)
    (xs_NoTable_NoLinear : subIn K (.ref C_NoTable) (.ref C_NoLinear) = some false)
    (xs_NoRows_NoLinear : subIn K (.ref C_NoRows) (.ref C_NoLinear) = some false)
    (xs_NoQuotient_NoLinear : subIn K (.ref C_NoQuotient) (.ref C_NoLinear) = some false)
    (xs_NoPart_NoLinear : subIn K (.ref C_NoPart) (.ref C_NoLinear) = some false)
    (xs_Full_NoLinear : subIn K (.ref C_Full) (.ref C_NoLinear) = some false)
    (xs_NoSuch_NoLinear : subIn K (.ref C_NoSuch) (.ref C_NoLinear) = some false)
    (xs_NoValues_NoLinear : subIn K (.ref C_NoValues) (.ref C_NoLinear) = some false)
    (xs_PartError_NoLinear : subIn K (.ref C_PartError) (.ref C_NoLinear) = some false)
    (xc_NoValues : PySem.W.isClsIn K C_NoValues = true)
    (xs_NoName_NoValues : subIn K (.ref C_NoName) (.ref C_NoValues) = some false)
    (xs_NoValues_NoValues : subIn K (.ref C_NoValues) (.ref C_NoValues) = some true)
    (xs_NoRatio_NoValues : subIn K (.ref C_NoRatio) (.ref C_NoValues) = some false)
    (xs_NoSpace_NoValues : subIn K (.ref C_NoSpace) (.ref C_NoValues) = some false)
    (xs_NoCell_NoValues : subIn K (.ref C_NoCell) (.ref C_NoValues) = some false)
    (xs_NoAxis_NoValues : subIn K (.ref C_NoAxis) (.ref C_NoValues) = some false)
    (xs_NoMember_NoValues : subIn K (.ref C_NoMember) (.ref C_NoValues) = some false)
    (xs_Twice_NoValues : subIn K (.ref C_Twice) (.ref C_NoValues) = some false)
    (xs_OtherSpace_NoValues : subIn K (.ref C_OtherSpace) (.ref C_NoValues) = some false)
    (xs_NoTable_NoValues : subIn K (.ref C_NoTable) (.ref C_NoValues) = some false)
    (xs_NoRows_NoValues : subIn K (.ref C_NoRows) (.ref C_NoValues) = some false)
    (xs_NoLinear_NoValues : subIn K (.ref C_NoLinear) (.ref C_NoValues) = some false)
    (xs_NoQuotient_NoValues : subIn K (.ref C_NoQuotient) (.ref C_NoValues) = some false)
    (xs_NoPart_NoValues : subIn K (.ref C_NoPart) (.ref C_NoValues) = some false)
    (xs_Full_NoValues : subIn K (.ref C_Full) (.ref C_NoValues) = some false)
    (xs_NoSuch_NoValues : subIn K (.ref C_NoSuch) (.ref C_NoValues) = some false)
    (xs_PartError_NoValues : subIn K (.ref C_PartError) (.ref C_NoValues) = some false)
    (xc_NoSuch : PySem.W.isClsIn K C_NoSuch = true)
    (xs_NoName_NoSuch : subIn K (.ref C_NoName) (.ref C_NoSuch) = some false)
    (xs_NoSuch_NoSuch : subIn K (.ref C_NoSuch) (.ref C_NoSuch) = some true)
    (xs_NoRatio_NoSuch : subIn K (.ref C_NoRatio) (.ref C_NoSuch) = some false)
    (xs_NoSpace_NoSuch : subIn K (.ref C_NoSpace) (.ref C_NoSuch) = some false)
    (xs_NoCell_NoSuch : subIn K (.ref C_NoCell) (.ref C_NoSuch) = some false)
    (xs_NoAxis_NoSuch : subIn K (.ref C_NoAxis) (.ref C_NoSuch) = some false)
    (xs_NoMember_NoSuch : subIn K (.ref C_NoMember) (.ref C_NoSuch) = some false)
    (xs_Twice_NoSuch : subIn K (.ref C_Twice) (.ref C_NoSuch) = some false)
    (xs_OtherSpace_NoSuch : subIn K (.ref C_OtherSpace) (.ref C_NoSuch) = some false)
    (xs_NoTable_NoSuch : subIn K (.ref C_NoTable) (.ref C_NoSuch) = some false)
    (xs_NoRows_NoSuch : subIn K (.ref C_NoRows) (.ref C_NoSuch) = some false)
    (xs_NoLinear_NoSuch : subIn K (.ref C_NoLinear) (.ref C_NoSuch) = some false)
    (xs_NoQuotient_NoSuch : subIn K (.ref C_NoQuotient) (.ref C_NoSuch) = some false)
    (xs_NoPart_NoSuch : subIn K (.ref C_NoPart) (.ref C_NoSuch) = some false)
    (xs_Full_NoSuch : subIn K (.ref C_Full) (.ref C_NoSuch) = some false)
    (xs_NoValues_NoSuch : subIn K (.ref C_NoValues) (.ref C_NoSuch) = some false)
    (xs_PartError_NoSuch : subIn K (.ref C_PartError) (.ref C_NoSuch) = some false)
    (xc_Full : PySem.W.isClsIn K C_Full = true)
    (xs_NoName_Full : subIn K (.ref C_NoName) (.ref C_Full) = some false)
    (xs_Full_Full : subIn K (.ref C_Full) (.ref C_Full) = some true)
    (xs_NoRatio_Full : subIn K (.ref C_NoRatio) (.ref C_Full) = some false)
    (xs_NoSpace_Full : subIn K (.ref C_NoSpace) (.ref C_Full) = some false)
    (xs_NoCell_Full : subIn K (.ref C_NoCell) (.ref C_Full) = some false)
    (xs_NoAxis_Full : subIn K (.ref C_NoAxis) (.ref C_Full) = some false)
    (xs_NoMember_Full : subIn K (.ref C_NoMember) (.ref C_Full) = some false)
    (xs_Twice_Full : subIn K (.ref C_Twice) (.ref C_Full) = some false)
    (xs_OtherSpace_Full : subIn K (.ref C_OtherSpace) (.ref C_Full) = some false)
    (xs_NoTable_Full : subIn K (.ref C_NoTable) (.ref C_Full) = some false)
    (xs_NoRows_Full : subIn K (.ref C_NoRows) (.ref C_Full) = some false)
    (xs_NoLinear_Full : subIn K (.ref C_NoLinear) (.ref C_Full) = some false)
    (xs_NoQuotient_Full : subIn K (.ref C_NoQuotient) (.ref C_Full) = some false)
    (xs_NoPart_Full : subIn K (.ref C_NoPart) (.ref C_Full) = some false)
    (xs_NoSuch_Full : subIn K (.ref C_NoSuch) (.ref C_Full) = some false)
    (xs_NoValues_Full : subIn K (.ref C_NoValues) (.ref C_Full) = some false)
    (xs_PartError_Full : subIn K (.ref C_PartError) (.ref C_Full) = some false)
    (xc_PartError : PySem.W.isClsIn K C_PartError = true)
    (xs_NoName_PartError : subIn K (.ref C_NoName) (.ref C_PartError) = some true)
    (xs_NoRatio_PartError : subIn K (.ref C_NoRatio) (.ref C_PartError) = some true)
    (xs_NoSpace_PartError : subIn K (.ref C_NoSpace) (.ref C_PartError) = some true)
    (xs_NoCell_PartError : subIn K (.ref C_NoCell) (.ref C_PartError) = some true)
    (xs_NoAxis_PartError : subIn K (.ref C_NoAxis) (.ref C_PartError) = some true)
    (xs_NoMember_PartError : subIn K (.ref C_NoMember) (.ref C_PartError) = some true)
    (xs_Twice_PartError : subIn K (.ref C_Twice) (.ref C_PartError) = some true)
    (xs_OtherSpace_PartError : subIn K (.ref C_OtherSpace) (.ref C_PartError) = some true)
    (xs_NoTable_PartError : subIn K (.ref C_NoTable) (.ref C_PartError) = some true)
    (xs_NoRows_PartError : subIn K (.ref C_NoRows) (.ref C_PartError) = some true)
    (xs_NoLinear_PartError : subIn K (.ref C_NoLinear) (.ref C_PartError) = some true)
    (xs_NoQuotient_PartError : subIn K (.ref C_NoQuotient) (.ref C_PartError) = some true)
    (xs_NoPart_PartError : subIn K (.ref C_NoPart) (.ref C_PartError) = some true)
    (xs_Full_PartError : subIn K (.ref C_Full) (.ref C_PartError) = some true)
    (xs_NoSuch_PartError : subIn K (.ref C_NoSuch) (.ref C_PartError) = some true)
    (xs_NoValues_PartError : subIn K (.ref C_NoValues) (.ref C_PartError) = some true)
    (xb_NoName_ValueError : subIn K (.ref C_NoName) (.type "ValueError") = some true)
    (xb_NoRatio_ValueError : subIn K (.ref C_NoRatio) (.type "ValueError") = some true)
    (xb_NoSpace_ValueError : subIn K (.ref C_NoSpace) (.type "ValueError") = some true)
    (xb_NoCell_ValueError : subIn K (.ref C_NoCell) (.type "ValueError") = some true)
    (xb_NoAxis_ValueError : subIn K (.ref C_NoAxis) (.type "ValueError") = some true)
    (xb_NoMember_ValueError : subIn K (.ref C_NoMember) (.type "ValueError") = some true)
    (xb_Twice_ValueError : subIn K (.ref C_Twice) (.type "ValueError") = some true)
    (xb_OtherSpace_ValueError : subIn K (.ref C_OtherSpace) (.type "ValueError") = some true)
    (xb_NoTable_ValueError : subIn K (.ref C_NoTable) (.type "ValueError") = some true)
    (xb_NoRows_ValueError : subIn K (.ref C_NoRows) (.type "ValueError") = some true)
    (xb_NoLinear_ValueError : subIn K (.ref C_NoLinear) (.type "ValueError") = some true)
    (xb_NoQuotient_ValueError : subIn K (.ref C_NoQuotient) (.type "ValueError") = some true)
    (xb_NoPart_ValueError : subIn K (.ref C_NoPart) (.type "ValueError") = some true)
    (xb_Full_ValueError : subIn K (.ref C_Full) (.type "ValueError") = some true)
    (xb_NoSuch_ValueError : subIn K (.ref C_NoSuch) (.type "ValueError") = some true)
    (xb_NoValues_ValueError : subIn K (.ref C_NoValues) (.type "ValueError") = some true)
    (xb_PartError_ValueError : subIn K (.ref C_PartError) (.type "ValueError") = some true)
    (z_ValueError : nsIn K mainGlobals "ValueError" = some none)
    (z_int : nsIn K mainGlobals "int" = some none)
    (z_isinstance : nsIn K mainGlobals "isinstance" = some none)
    (z_len : nsIn K mainGlobals "len" = some none)
    (z_range : nsIn K mainGlobals "range" = some none)
    (z_str : nsIn K mainGlobals "str" = some none)
    : ∃ fd : FuncData, (∀ (s : Shared) (v : Value), BindsTo s fd ⟨[v], []⟩ [("_law_script", v)]) ∧ ∀ base : Heap, K.In base → base.Ns mainGlobals mg → FnOk l.prog w K mg base (L2.CX l.prog w) 3 fa fd ["_law_script"] (spLaw K) := by
  have e0 := hfa.symm.trans (PySem.W.mg_of X G a_law)
  cases e0
  refine ⟨PySem.W.fnOf "law" "law" (defArgs s_law) (defBody s_law) (defScope s_law) .none kV_law dc_law pm_law an_law cd_law ct_law, fun s v => ?_, fun base KB GB => ?_⟩
  · exact .of_eq rfl
  let CT : Nat → Addr := tabA [(20, C_PartError), (21, C_NoRatio), (22, C_NoSpace), (23, C_NoCell), (24, C_NoAxis), (25, C_NoMember), (26, C_Twice), (27, C_OtherSpace), (28, C_NoTable), (29, C_NoRows), (30, C_NoLinear), (31, C_NoQuotient), (32, C_NoName), (33, C_NoPart), (34, C_Full), (35, C_NoSuch), (36, C_NoValues)]
  let lay : Nat → List Str := tabF [(20, []), (21, ["word"]), (22, ["place", "word"]), (23, ["cell"]), (24, ["axis"]), (25, ["member"]), (26, ["name"]), (27, []), (28, ["place", "word"]), (29, ["cell", "value"]), (30, ["word"]), (31, []), (32, ["name"]), (33, []), (34, ["number"]), (35, ["name"]), (36, ["name"])]
  have Z_ValueError : mg "ValueError" = none := PySem.W.mg_none_of X G z_ValueError
  have Z_int : mg "int" = none := PySem.W.mg_none_of X G z_int
  have Z_isinstance : mg "isinstance" = none := PySem.W.mg_none_of X G z_isinstance
  have Z_len : mg "len" = none := PySem.W.mg_none_of X G z_len
  have Z_range : mg "range" = none := PySem.W.mg_none_of X G z_range
  have Z_str : mg "str" = none := PySem.W.mg_none_of X G z_str
  have B : Bl mg := ⟨Z_int, Z_len⟩
  have F__law_start := fun_mk (x := "_law_start") (qual := "_law_start") (st := s__law_start) l__law_start c__law_start k__law_start
  have b__law_start := F__law_start.binds (ps := ["_law_script"]) fun _ _ _ _ _ _ us hl => match us, hl with | [_], _ => rfl
  have m__law_start : mg "_law_start" = some (.ref f__law_start) := PySem.W.mg_of X G a__law_start
  have F__law_draw := fun_mk (x := "_law_draw") (qual := "_law_draw") (st := s__law_draw) l__law_draw c__law_draw k__law_draw
  have b__law_draw := F__law_draw.binds (ps := ["_law_state", "_law_many"]) fun _ _ _ _ _ _ us hl => match us, hl with | [_, _], _ => rfl
  have m__law_draw : mg "_law_draw" = some (.ref f__law_draw) := PySem.W.mg_of X G a__law_draw
  have F__law_kinds := fun_mk (x := "_law_kinds") (qual := "_law_kinds") (st := s__law_kinds) l__law_kinds c__law_kinds k__law_kinds
  have b__law_kinds := F__law_kinds.binds (ps := ["_law_e"]) fun _ _ _ _ _ _ us hl => match us, hl with | [_], _ => rfl
  have m__law_kinds : mg "_law_kinds" = some (.ref f__law_kinds) := PySem.W.mg_of X G a__law_kinds
  have F__law_alone := fun_mk (x := "_law_alone") (qual := "_law_alone") (st := s__law_alone) l__law_alone c__law_alone k__law_alone
  have b__law_alone := F__law_alone.binds (ps := ["_law_made"]) fun _ _ _ _ _ _ us hl => match us, hl with | [_], _ => rfl
  have m__law_alone : mg "_law_alone" = some (.ref f__law_alone) := PySem.W.mg_of X G a__law_alone
  have F_Full_told := fun_mk (x := "told") (qual := "Full.told") (st := s_Full_told) l_Full_told c_Full_told k_Full_told
  have b_Full_told := F_Full_told.binds (ps := ["self"]) fun _ _ _ _ _ _ us hl => match us, hl with | [_], _ => rfl
  have F_NoAxis_told := fun_mk (x := "told") (qual := "NoAxis.told") (st := s_NoAxis_told) l_NoAxis_told c_NoAxis_told k_NoAxis_told
  have b_NoAxis_told := F_NoAxis_told.binds (ps := ["self"]) fun _ _ _ _ _ _ us hl => match us, hl with | [_], _ => rfl
  have F_NoCell_told := fun_mk (x := "told") (qual := "NoCell.told") (st := s_NoCell_told) l_NoCell_told c_NoCell_told k_NoCell_told
  have b_NoCell_told := F_NoCell_told.binds (ps := ["self"]) fun _ _ _ _ _ _ us hl => match us, hl with | [_], _ => rfl
  have F_NoLinear_told := fun_mk (x := "told") (qual := "NoLinear.told") (st := s_NoLinear_told) l_NoLinear_told c_NoLinear_told k_NoLinear_told
  have b_NoLinear_told := F_NoLinear_told.binds (ps := ["self"]) fun _ _ _ _ _ _ us hl => match us, hl with | [_], _ => rfl
  have F_NoMember_told := fun_mk (x := "told") (qual := "NoMember.told") (st := s_NoMember_told) l_NoMember_told c_NoMember_told k_NoMember_told
  have b_NoMember_told := F_NoMember_told.binds (ps := ["self"]) fun _ _ _ _ _ _ us hl => match us, hl with | [_], _ => rfl
  have F_NoName_told := fun_mk (x := "told") (qual := "NoName.told") (st := s_NoName_told) l_NoName_told c_NoName_told k_NoName_told
  have b_NoName_told := F_NoName_told.binds (ps := ["self"]) fun _ _ _ _ _ _ us hl => match us, hl with | [_], _ => rfl
  have F_NoPart_told := fun_mk (x := "told") (qual := "NoPart.told") (st := s_NoPart_told) l_NoPart_told c_NoPart_told k_NoPart_told
  have b_NoPart_told := F_NoPart_told.binds (ps := ["self"]) fun _ _ _ _ _ _ us hl => match us, hl with | [_], _ => rfl
  have F_NoQuotient_told := fun_mk (x := "told") (qual := "NoQuotient.told") (st := s_NoQuotient_told) l_NoQuotient_told c_NoQuotient_told k_NoQuotient_told
  have b_NoQuotient_told := F_NoQuotient_told.binds (ps := ["self"]) fun _ _ _ _ _ _ us hl => match us, hl with | [_], _ => rfl
  have F_NoRatio_told := fun_mk (x := "told") (qual := "NoRatio.told") (st := s_NoRatio_told) l_NoRatio_told c_NoRatio_told k_NoRatio_told
  have b_NoRatio_told := F_NoRatio_told.binds (ps := ["self"]) fun _ _ _ _ _ _ us hl => match us, hl with | [_], _ => rfl
  have F_NoRows_told := fun_mk (x := "told") (qual := "NoRows.told") (st := s_NoRows_told) l_NoRows_told c_NoRows_told k_NoRows_told
  have b_NoRows_told := F_NoRows_told.binds (ps := ["self"]) fun _ _ _ _ _ _ us hl => match us, hl with | [_], _ => rfl
  have F_NoSpace_told := fun_mk (x := "told") (qual := "NoSpace.told") (st := s_NoSpace_told) l_NoSpace_told c_NoSpace_told k_NoSpace_told
  have b_NoSpace_told := F_NoSpace_told.binds (ps := ["self"]) fun _ _ _ _ _ _ us hl => match us, hl with | [_], _ => rfl
  have F_NoSuch_told := fun_mk (x := "told") (qual := "NoSuch.told") (st := s_NoSuch_told) l_NoSuch_told c_NoSuch_told k_NoSuch_told
  have b_NoSuch_told := F_NoSuch_told.binds (ps := ["self"]) fun _ _ _ _ _ _ us hl => match us, hl with | [_], _ => rfl
  have F_NoTable_told := fun_mk (x := "told") (qual := "NoTable.told") (st := s_NoTable_told) l_NoTable_told c_NoTable_told k_NoTable_told
  have b_NoTable_told := F_NoTable_told.binds (ps := ["self"]) fun _ _ _ _ _ _ us hl => match us, hl with | [_], _ => rfl
  have F_NoValues_told := fun_mk (x := "told") (qual := "NoValues.told") (st := s_NoValues_told) l_NoValues_told c_NoValues_told k_NoValues_told
  have b_NoValues_told := F_NoValues_told.binds (ps := ["self"]) fun _ _ _ _ _ _ us hl => match us, hl with | [_], _ => rfl
  have F_OtherSpace_told := fun_mk (x := "told") (qual := "OtherSpace.told") (st := s_OtherSpace_told) l_OtherSpace_told c_OtherSpace_told k_OtherSpace_told
  have b_OtherSpace_told := F_OtherSpace_told.binds (ps := ["self"]) fun _ _ _ _ _ _ us hl => match us, hl with | [_], _ => rfl
  have F_PartError_told := fun_mk (x := "told") (qual := "PartError.told") (st := s_PartError_told) l_PartError_told c_PartError_told k_PartError_told
  have b_PartError_told := F_PartError_told.binds (ps := ["self"]) fun _ _ _ _ _ _ us hl => match us, hl with | [_], _ => rfl
  have F_Twice_told := fun_mk (x := "told") (qual := "Twice.told") (st := s_Twice_told) l_Twice_told c_Twice_told k_Twice_told
  have b_Twice_told := F_Twice_told.binds (ps := ["self"]) fun _ _ _ _ _ _ us hl => match us, hl with | [_], _ => rfl
  have F__law_base := fun_mk (x := "_law_base") (qual := "_law_base") (st := s__law_base) l__law_base c__law_base k__law_base
  have b__law_base := F__law_base.binds (ps := ["_law_e", "_law_name"]) fun _ _ _ _ _ _ us hl => match us, hl with | [_, _], _ => rfl
  have m__law_base : mg "_law_base" = some (.ref f__law_base) := PySem.W.mg_of X G a__law_base
  have F__law_fields := fun_mk (x := "_law_fields") (qual := "_law_fields") (st := s__law_fields) l__law_fields c__law_fields k__law_fields
  have b__law_fields := F__law_fields.binds (ps := ["_law_made", "_law_one", "_law_other"]) fun _ _ _ _ _ _ us hl => match us, hl with | [_, _, _], _ => rfl
  have m__law_fields : mg "_law_fields" = some (.ref f__law_fields) := PySem.W.mg_of X G a__law_fields
  have F__law_value := fun_mk (x := "_law_value") (qual := "_law_value") (st := s__law_value) l__law_value c__law_value k__law_value
  have b__law_value := F__law_value.binds (ps := ["_law_state"]) fun _ _ _ _ _ _ us hl => match us, hl with | [_], _ => rfl
  have m__law_value : mg "_law_value" = some (.ref f__law_value) := PySem.W.mg_of X G a__law_value
  have F_law := fun_mk (x := "law") (qual := "law") (st := s_law) l_law c_law k_law
  have F_Full_init := fun_mk (x := "__init__") (qual := "Full.__init__") (st := s_Full_init) l_Full_init c_Full_init k_Full_init
  have b_Full_init := F_Full_init.binds (ps := ["self", "number"]) fun _ _ _ _ _ _ us hl => match us, hl with | [_, _], _ => rfl
  have Ox_Full : OexC K C_Full := ⟨⟨nm_Full, q_Full, NN_Full, bs_Full, _, sn_Full, sub_Full, ab_Full, col_Full, dd_Full, k0_Full, k1_Full, k2_Full, k3_Full, k5_Full, xl_Full, rfl⟩, xsa_Full, xe_Full, xt_Full, xk_Full⟩
  have Xi_Full := exn1_ok (P := l.prog) (w := w) (mg := mg) (base := base) (k := 0) (Fun.g F_Full_init) Ox_Full nf_Full_number rfl ⟨rfl, rfl, rfl, by decide +kernel, rfl, by decide +kernel, by decide +kernel⟩ (by decide) (by decide) (fun _ _ _ => ⟨Or.inl rfl, Or.inl rfl⟩) (fun _ _ _ => rfl)
  have F_NoAxis_init := fun_mk (x := "__init__") (qual := "NoAxis.__init__") (st := s_NoAxis_init) l_NoAxis_init c_NoAxis_init k_NoAxis_init
  have b_NoAxis_init := F_NoAxis_init.binds (ps := ["self", "axis"]) fun _ _ _ _ _ _ us hl => match us, hl with | [_, _], _ => rfl
  have Ox_NoAxis : OexC K C_NoAxis := ⟨⟨nm_NoAxis, q_NoAxis, NN_NoAxis, bs_NoAxis, _, sn_NoAxis, sub_NoAxis, ab_NoAxis, col_NoAxis, dd_NoAxis, k0_NoAxis, k1_NoAxis, k2_NoAxis, k3_NoAxis, k5_NoAxis, xl_NoAxis, rfl⟩, xsa_NoAxis, xe_NoAxis, xt_NoAxis, xk_NoAxis⟩
  have Xi_NoAxis := exn1_ok (P := l.prog) (w := w) (mg := mg) (base := base) (k := 0) (Fun.g F_NoAxis_init) Ox_NoAxis nf_NoAxis_axis rfl ⟨rfl, rfl, rfl, by decide +kernel, rfl, by decide +kernel, by decide +kernel⟩ (by decide) (by decide) (fun _ _ _ => ⟨Or.inl rfl, Or.inl rfl⟩) (fun _ _ _ => rfl)
  have F_NoCell_init := fun_mk (x := "__init__") (qual := "NoCell.__init__") (st := s_NoCell_init) l_NoCell_init c_NoCell_init k_NoCell_init
  have b_NoCell_init := F_NoCell_init.binds (ps := ["self", "cell"]) fun _ _ _ _ _ _ us hl => match us, hl with | [_, _], _ => rfl
  have Ox_NoCell : OexC K C_NoCell := ⟨⟨nm_NoCell, q_NoCell, NN_NoCell, bs_NoCell, _, sn_NoCell, sub_NoCell, ab_NoCell, col_NoCell, dd_NoCell, k0_NoCell, k1_NoCell, k2_NoCell, k3_NoCell, k5_NoCell, xl_NoCell, rfl⟩, xsa_NoCell, xe_NoCell, xt_NoCell, xk_NoCell⟩
  have Xi_NoCell := exn1_ok (P := l.prog) (w := w) (mg := mg) (base := base) (k := 0) (Fun.g F_NoCell_init) Ox_NoCell nf_NoCell_cell rfl ⟨rfl, rfl, rfl, by decide +kernel, rfl, by decide +kernel, by decide +kernel⟩ (by decide) (by decide) (fun _ _ _ => ⟨Or.inl rfl, Or.inl rfl⟩) (fun _ _ _ => rfl)
  have F_NoLinear_init := fun_mk (x := "__init__") (qual := "NoLinear.__init__") (st := s_NoLinear_init) l_NoLinear_init c_NoLinear_init k_NoLinear_init
  have b_NoLinear_init := F_NoLinear_init.binds (ps := ["self", "word"]) fun _ _ _ _ _ _ us hl => match us, hl with | [_, _], _ => rfl
  have Ox_NoLinear : OexC K C_NoLinear := ⟨⟨nm_NoLinear, q_NoLinear, NN_NoLinear, bs_NoLinear, _, sn_NoLinear, sub_NoLinear, ab_NoLinear, col_NoLinear, dd_NoLinear, k0_NoLinear, k1_NoLinear, k2_NoLinear, k3_NoLinear, k5_NoLinear, xl_NoLinear, rfl⟩, xsa_NoLinear, xe_NoLinear, xt_NoLinear, xk_NoLinear⟩
  have Xi_NoLinear := exn1_ok (P := l.prog) (w := w) (mg := mg) (base := base) (k := 0) (Fun.g F_NoLinear_init) Ox_NoLinear nf_NoLinear_word rfl ⟨rfl, rfl, rfl, by decide +kernel, rfl, by decide +kernel, by decide +kernel⟩ (by decide) (by decide) (fun _ _ _ => ⟨Or.inl rfl, Or.inl rfl⟩) (fun _ _ _ => rfl)
  have F_NoMember_init := fun_mk (x := "__init__") (qual := "NoMember.__init__") (st := s_NoMember_init) l_NoMember_init c_NoMember_init k_NoMember_init
  have b_NoMember_init := F_NoMember_init.binds (ps := ["self", "member"]) fun _ _ _ _ _ _ us hl => match us, hl with | [_, _], _ => rfl
  have Ox_NoMember : OexC K C_NoMember := ⟨⟨nm_NoMember, q_NoMember, NN_NoMember, bs_NoMember, _, sn_NoMember, sub_NoMember, ab_NoMember, col_NoMember, dd_NoMember, k0_NoMember, k1_NoMember, k2_NoMember, k3_NoMember, k5_NoMember, xl_NoMember, rfl⟩, xsa_NoMember, xe_NoMember, xt_NoMember, xk_NoMember⟩
  have Xi_NoMember := exn1_ok (P := l.prog) (w := w) (mg := mg) (base := base) (k := 0) (Fun.g F_NoMember_init) Ox_NoMember nf_NoMember_member rfl ⟨rfl, rfl, rfl, by decide +kernel, rfl, by decide +kernel, by decide +kernel⟩ (by decide) (by decide) (fun _ _ _ => ⟨Or.inl rfl, Or.inl rfl⟩) (fun _ _ _ => rfl)
  have F_NoName_init := fun_mk (x := "__init__") (qual := "NoName.__init__") (st := s_NoName_init) l_NoName_init c_NoName_init k_NoName_init
  have b_NoName_init := F_NoName_init.binds (ps := ["self", "name"]) fun _ _ _ _ _ _ us hl => match us, hl with | [_, _], _ => rfl
  have Ox_NoName : OexC K C_NoName := ⟨⟨nm_NoName, q_NoName, NN_NoName, bs_NoName, _, sn_NoName, sub_NoName, ab_NoName, col_NoName, dd_NoName, k0_NoName, k1_NoName, k2_NoName, k3_NoName, k5_NoName, xl_NoName, rfl⟩, xsa_NoName, xe_NoName, xt_NoName, xk_NoName⟩
  have Xi_NoName := exn1_ok (P := l.prog) (w := w) (mg := mg) (base := base) (k := 0) (Fun.g F_NoName_init) Ox_NoName nf_NoName_name rfl ⟨rfl, rfl, rfl, by decide +kernel, rfl, by decide +kernel, by decide +kernel⟩ (by decide) (by decide) (fun _ _ _ => ⟨Or.inl rfl, Or.inl rfl⟩) (fun _ _ _ => rfl)
  have F_NoRatio_init := fun_mk (x := "__init__") (qual := "NoRatio.__init__") (st := s_NoRatio_init) l_NoRatio_init c_NoRatio_init k_NoRatio_init
  have b_NoRatio_init := F_NoRatio_init.binds (ps := ["self", "word"]) fun _ _ _ _ _ _ us hl => match us, hl with | [_, _], _ => rfl
  have Ox_NoRatio : OexC K C_NoRatio := ⟨⟨nm_NoRatio, q_NoRatio, NN_NoRatio, bs_NoRatio, _, sn_NoRatio, sub_NoRatio, ab_NoRatio, col_NoRatio, dd_NoRatio, k0_NoRatio, k1_NoRatio, k2_NoRatio, k3_NoRatio, k5_NoRatio, xl_NoRatio, rfl⟩, xsa_NoRatio, xe_NoRatio, xt_NoRatio, xk_NoRatio⟩
  have Xi_NoRatio := exn1_ok (P := l.prog) (w := w) (mg := mg) (base := base) (k := 0) (Fun.g F_NoRatio_init) Ox_NoRatio nf_NoRatio_word rfl ⟨rfl, rfl, rfl, by decide +kernel, rfl, by decide +kernel, by decide +kernel⟩ (by decide) (by decide) (fun _ _ _ => ⟨Or.inl rfl, Or.inl rfl⟩) (fun _ _ _ => rfl)
  have F_NoRows_init := fun_mk (x := "__init__") (qual := "NoRows.__init__") (st := s_NoRows_init) l_NoRows_init c_NoRows_init k_NoRows_init
  have b_NoRows_init := F_NoRows_init.binds (ps := ["self", "cell", "value"]) fun _ _ _ _ _ _ us hl => match us, hl with | [_, _, _], _ => rfl
  have Ox_NoRows : OexC K C_NoRows := ⟨⟨nm_NoRows, q_NoRows, NN_NoRows, bs_NoRows, _, sn_NoRows, sub_NoRows, ab_NoRows, col_NoRows, dd_NoRows, k0_NoRows, k1_NoRows, k2_NoRows, k3_NoRows, k5_NoRows, xl_NoRows, rfl⟩, xsa_NoRows, xe_NoRows, xt_NoRows, xk_NoRows⟩
  have Xi_NoRows := exn2_ok (P := l.prog) (w := w) (mg := mg) (base := base) (k := 0) (Fun.g F_NoRows_init) Ox_NoRows nf_NoRows_cell nf_NoRows_value rfl ⟨rfl, rfl, rfl, by decide +kernel, rfl, by decide +kernel, by decide +kernel⟩ (by decide) (by decide) (by decide) (by decide) (by decide) (fun _ _ _ => ⟨Or.inl rfl, Or.inl rfl, Or.inl rfl⟩) (fun _ _ _ => ⟨rfl, rfl⟩)
  have F_NoSpace_init := fun_mk (x := "__init__") (qual := "NoSpace.__init__") (st := s_NoSpace_init) l_NoSpace_init c_NoSpace_init k_NoSpace_init
  have b_NoSpace_init := F_NoSpace_init.binds (ps := ["self", "place", "word"]) fun _ _ _ _ _ _ us hl => match us, hl with | [_, _, _], _ => rfl
  have Ox_NoSpace : OexC K C_NoSpace := ⟨⟨nm_NoSpace, q_NoSpace, NN_NoSpace, bs_NoSpace, _, sn_NoSpace, sub_NoSpace, ab_NoSpace, col_NoSpace, dd_NoSpace, k0_NoSpace, k1_NoSpace, k2_NoSpace, k3_NoSpace, k5_NoSpace, xl_NoSpace, rfl⟩, xsa_NoSpace, xe_NoSpace, xt_NoSpace, xk_NoSpace⟩
  have Xi_NoSpace := exn2_ok (P := l.prog) (w := w) (mg := mg) (base := base) (k := 0) (Fun.g F_NoSpace_init) Ox_NoSpace nf_NoSpace_place nf_NoSpace_word rfl ⟨rfl, rfl, rfl, by decide +kernel, rfl, by decide +kernel, by decide +kernel⟩ (by decide) (by decide) (by decide) (by decide) (by decide) (fun _ _ _ => ⟨Or.inl rfl, Or.inl rfl, Or.inl rfl⟩) (fun _ _ _ => ⟨rfl, rfl⟩)
  have F_NoSuch_init := fun_mk (x := "__init__") (qual := "NoSuch.__init__") (st := s_NoSuch_init) l_NoSuch_init c_NoSuch_init k_NoSuch_init
  have b_NoSuch_init := F_NoSuch_init.binds (ps := ["self", "name"]) fun _ _ _ _ _ _ us hl => match us, hl with | [_, _], _ => rfl
  have Ox_NoSuch : OexC K C_NoSuch := ⟨⟨nm_NoSuch, q_NoSuch, NN_NoSuch, bs_NoSuch, _, sn_NoSuch, sub_NoSuch, ab_NoSuch, col_NoSuch, dd_NoSuch, k0_NoSuch, k1_NoSuch, k2_NoSuch, k3_NoSuch, k5_NoSuch, xl_NoSuch, rfl⟩, xsa_NoSuch, xe_NoSuch, xt_NoSuch, xk_NoSuch⟩
  have Xi_NoSuch := exn1_ok (P := l.prog) (w := w) (mg := mg) (base := base) (k := 0) (Fun.g F_NoSuch_init) Ox_NoSuch nf_NoSuch_name rfl ⟨rfl, rfl, rfl, by decide +kernel, rfl, by decide +kernel, by decide +kernel⟩ (by decide) (by decide) (fun _ _ _ => ⟨Or.inl rfl, Or.inl rfl⟩) (fun _ _ _ => rfl)
  have F_NoTable_init := fun_mk (x := "__init__") (qual := "NoTable.__init__") (st := s_NoTable_init) l_NoTable_init c_NoTable_init k_NoTable_init
  have b_NoTable_init := F_NoTable_init.binds (ps := ["self", "place", "word"]) fun _ _ _ _ _ _ us hl => match us, hl with | [_, _, _], _ => rfl
  have Ox_NoTable : OexC K C_NoTable := ⟨⟨nm_NoTable, q_NoTable, NN_NoTable, bs_NoTable, _, sn_NoTable, sub_NoTable, ab_NoTable, col_NoTable, dd_NoTable, k0_NoTable, k1_NoTable, k2_NoTable, k3_NoTable, k5_NoTable, xl_NoTable, rfl⟩, xsa_NoTable, xe_NoTable, xt_NoTable, xk_NoTable⟩
  have Xi_NoTable := exn2_ok (P := l.prog) (w := w) (mg := mg) (base := base) (k := 0) (Fun.g F_NoTable_init) Ox_NoTable nf_NoTable_place nf_NoTable_word rfl ⟨rfl, rfl, rfl, by decide +kernel, rfl, by decide +kernel, by decide +kernel⟩ (by decide) (by decide) (by decide) (by decide) (by decide) (fun _ _ _ => ⟨Or.inl rfl, Or.inl rfl, Or.inl rfl⟩) (fun _ _ _ => ⟨rfl, rfl⟩)
  have F_NoValues_init := fun_mk (x := "__init__") (qual := "NoValues.__init__") (st := s_NoValues_init) l_NoValues_init c_NoValues_init k_NoValues_init
  have b_NoValues_init := F_NoValues_init.binds (ps := ["self", "name"]) fun _ _ _ _ _ _ us hl => match us, hl with | [_, _], _ => rfl
  have Ox_NoValues : OexC K C_NoValues := ⟨⟨nm_NoValues, q_NoValues, NN_NoValues, bs_NoValues, _, sn_NoValues, sub_NoValues, ab_NoValues, col_NoValues, dd_NoValues, k0_NoValues, k1_NoValues, k2_NoValues, k3_NoValues, k5_NoValues, xl_NoValues, rfl⟩, xsa_NoValues, xe_NoValues, xt_NoValues, xk_NoValues⟩
  have Xi_NoValues := exn1_ok (P := l.prog) (w := w) (mg := mg) (base := base) (k := 0) (Fun.g F_NoValues_init) Ox_NoValues nf_NoValues_name rfl ⟨rfl, rfl, rfl, by decide +kernel, rfl, by decide +kernel, by decide +kernel⟩ (by decide) (by decide) (fun _ _ _ => ⟨Or.inl rfl, Or.inl rfl⟩) (fun _ _ _ => rfl)
  have F_Twice_init := fun_mk (x := "__init__") (qual := "Twice.__init__") (st := s_Twice_init) l_Twice_init c_Twice_init k_Twice_init
  have b_Twice_init := F_Twice_init.binds (ps := ["self", "name"]) fun _ _ _ _ _ _ us hl => match us, hl with | [_, _], _ => rfl
  have Ox_Twice : OexC K C_Twice := ⟨⟨nm_Twice, q_Twice, NN_Twice, bs_Twice, _, sn_Twice, sub_Twice, ab_Twice, col_Twice, dd_Twice, k0_Twice, k1_Twice, k2_Twice, k3_Twice, k5_Twice, xl_Twice, rfl⟩, xsa_Twice, xe_Twice, xt_Twice, xk_Twice⟩
  have Xi_Twice := exn1_ok (P := l.prog) (w := w) (mg := mg) (base := base) (k := 0) (Fun.g F_Twice_init) Ox_Twice nf_Twice_name rfl ⟨rfl, rfl, rfl, by decide +kernel, rfl, by decide +kernel, by decide +kernel⟩ (by decide) (by decide) (fun _ _ _ => ⟨Or.inl rfl, Or.inl rfl⟩) (fun _ _ _ => rfl)
  have V0 : mg "isinstance" = none := Z_isinstance
  have V1 : mg "NoCell" = some (.ref (CT cNoCell)) := PySem.W.mg_of X G a_NoCell
  have V2 : IsxT K CT (.ref (CT cNoCell)) ([(cNoName, false), (cNoRatio, false), (cNoSpace, false), (cNoCell, true), (cNoAxis, false), (cNoMember, false), (cTwice, false), (cOtherSpace, false), (cNoTable, false), (cNoRows, false), (cNoLinear, false), (cNoQuotient, false), (cNoPart, false), (cFull, false), (cNoSuch, false), (cNoValues, false), (cPartError, false)] : List (Nat × Bool)) := List.forall_mem_cons.mpr ⟨⟨⟨ga_NoName, gg_NoName, xe_NoName, xh_NoName, cA_NoName, clN, clK, no_NoName⟩, kit_of xc_NoCell xt_NoCell xs_NoName_NoCell (kit_no xs_NoName_NoCell xs_NoCell_NoCell)⟩, List.forall_mem_cons.mpr ⟨⟨⟨ga_NoRatio, gg_NoRatio, xe_NoRatio, xh_NoRatio, cA_NoRatio, clN, clK, no_NoRatio⟩, kit_of xc_NoCell xt_NoCell xs_NoRatio_NoCell (kit_no xs_NoRatio_NoCell xs_NoCell_NoCell)⟩, List.forall_mem_cons.mpr ⟨⟨⟨ga_NoSpace, gg_NoSpace, xe_NoSpace, xh_NoSpace, cA_NoSpace, clN, clK, no_NoSpace⟩, kit_of xc_NoCell xt_NoCell xs_NoSpace_NoCell (kit_no xs_NoSpace_NoCell xs_NoCell_NoCell)⟩, List.forall_mem_cons.mpr ⟨⟨⟨ga_NoCell, gg_NoCell, xe_NoCell, xh_NoCell, cA_NoCell, clN, clK, no_NoCell⟩, kit_same⟩, List.forall_mem_cons.mpr ⟨⟨⟨ga_NoAxis, gg_NoAxis, xe_NoAxis, xh_NoAxis, cA_NoAxis, clN, clK, no_NoAxis⟩, kit_of xc_NoCell xt_NoCell xs_NoAxis_NoCell (kit_no xs_NoAxis_NoCell xs_NoCell_NoCell)⟩, List.forall_mem_cons.mpr ⟨⟨⟨ga_NoMember, gg_NoMember, xe_NoMember, xh_NoMember, cA_NoMember, clN, clK, no_NoMember⟩, kit_of xc_NoCell xt_NoCell xs_NoMember_NoCell (kit_no xs_NoMember_NoCell xs_NoCell_NoCell)⟩, List.forall_mem_cons.mpr ⟨⟨⟨ga_Twice, gg_Twice, xe_Twice, xh_Twice, cA_Twice, clN, clK, no_Twice⟩, kit_of xc_NoCell xt_NoCell xs_Twice_NoCell (kit_no xs_Twice_NoCell xs_NoCell_NoCell)⟩, List.forall_mem_cons.mpr ⟨⟨⟨ga_OtherSpace, gg_OtherSpace, xe_OtherSpace, xh_OtherSpace, cA_OtherSpace, clN, clK, no_OtherSpace⟩, kit_of xc_NoCell xt_NoCell xs_OtherSpace_NoCell (kit_no xs_OtherSpace_NoCell xs_NoCell_NoCell)⟩, List.forall_mem_cons.mpr ⟨⟨⟨ga_NoTable, gg_NoTable, xe_NoTable, xh_NoTable, cA_NoTable, clN, clK, no_NoTable⟩, kit_of xc_NoCell xt_NoCell xs_NoTable_NoCell (kit_no xs_NoTable_NoCell xs_NoCell_NoCell)⟩, List.forall_mem_cons.mpr ⟨⟨⟨ga_NoRows, gg_NoRows, xe_NoRows, xh_NoRows, cA_NoRows, clN, clK, no_NoRows⟩, kit_of xc_NoCell xt_NoCell xs_NoRows_NoCell (kit_no xs_NoRows_NoCell xs_NoCell_NoCell)⟩, List.forall_mem_cons.mpr ⟨⟨⟨ga_NoLinear, gg_NoLinear, xe_NoLinear, xh_NoLinear, cA_NoLinear, clN, clK, no_NoLinear⟩, kit_of xc_NoCell xt_NoCell xs_NoLinear_NoCell (kit_no xs_NoLinear_NoCell xs_NoCell_NoCell)⟩, List.forall_mem_cons.mpr ⟨⟨⟨ga_NoQuotient, gg_NoQuotient, xe_NoQuotient, xh_NoQuotient, cA_NoQuotient, clN, clK, no_NoQuotient⟩, kit_of xc_NoCell xt_NoCell xs_NoQuotient_NoCell (kit_no xs_NoQuotient_NoCell xs_NoCell_NoCell)⟩, List.forall_mem_cons.mpr ⟨⟨⟨ga_NoPart, gg_NoPart, xe_NoPart, xh_NoPart, cA_NoPart, clN, clK, no_NoPart⟩, kit_of xc_NoCell xt_NoCell xs_NoPart_NoCell (kit_no xs_NoPart_NoCell xs_NoCell_NoCell)⟩, List.forall_mem_cons.mpr ⟨⟨⟨ga_Full, gg_Full, xe_Full, xh_Full, cA_Full, clN, clK, no_Full⟩, kit_of xc_NoCell xt_NoCell xs_Full_NoCell (kit_no xs_Full_NoCell xs_NoCell_NoCell)⟩, List.forall_mem_cons.mpr ⟨⟨⟨ga_NoSuch, gg_NoSuch, xe_NoSuch, xh_NoSuch, cA_NoSuch, clN, clK, no_NoSuch⟩, kit_of xc_NoCell xt_NoCell xs_NoSuch_NoCell (kit_no xs_NoSuch_NoCell xs_NoCell_NoCell)⟩, List.forall_mem_cons.mpr ⟨⟨⟨ga_NoValues, gg_NoValues, xe_NoValues, xh_NoValues, cA_NoValues, clN, clK, no_NoValues⟩, kit_of xc_NoCell xt_NoCell xs_NoValues_NoCell (kit_no xs_NoValues_NoCell xs_NoCell_NoCell)⟩, List.forall_mem_cons.mpr ⟨⟨⟨ga_PartError, gg_PartError, xe_PartError, xh_PartError, cA_PartError, clN, clK, no_PartError⟩, kit_of xc_NoCell xt_NoCell xs_PartError_NoCell (kit_no xs_PartError_NoCell xs_NoCell_NoCell)⟩, (fun _ h => nomatch h)⟩⟩⟩⟩⟩⟩⟩⟩⟩⟩⟩⟩⟩⟩⟩⟩⟩
  have V3 : mg "NoSpace" = some (.ref (CT cNoSpace)) := PySem.W.mg_of X G a_NoSpace
  have V4 : IsxT K CT (.ref (CT cNoSpace)) ([(cNoName, false), (cNoRatio, false), (cNoSpace, true), (cNoCell, false), (cNoAxis, false), (cNoMember, false), (cTwice, false), (cOtherSpace, false), (cNoTable, false), (cNoRows, false), (cNoLinear, false), (cNoQuotient, false), (cNoPart, false), (cFull, false), (cNoSuch, false), (cNoValues, false), (cPartError, false)] : List (Nat × Bool)) := List.forall_mem_cons.mpr ⟨⟨⟨ga_NoName, gg_NoName, xe_NoName, xh_NoName, cA_NoName, clN, clK, no_NoName⟩, kit_of xc_NoSpace xt_NoSpace xs_NoName_NoSpace (kit_no xs_NoName_NoSpace xs_NoSpace_NoSpace)⟩, List.forall_mem_cons.mpr ⟨⟨⟨ga_NoRatio, gg_NoRatio, xe_NoRatio, xh_NoRatio, cA_NoRatio, clN, clK, no_NoRatio⟩, kit_of xc_NoSpace xt_NoSpace xs_NoRatio_NoSpace (kit_no xs_NoRatio_NoSpace xs_NoSpace_NoSpace)⟩, List.forall_mem_cons.mpr ⟨⟨⟨ga_NoSpace, gg_NoSpace, xe_NoSpace, xh_NoSpace, cA_NoSpace, clN, clK, no_NoSpace⟩, kit_same⟩, List.forall_mem_cons.mpr ⟨⟨⟨ga_NoCell, gg_NoCell, xe_NoCell, xh_NoCell, cA_NoCell, clN, clK, no_NoCell⟩, kit_of xc_NoSpace xt_NoSpace xs_NoCell_NoSpace (kit_no xs_NoCell_NoSpace xs_NoSpace_NoSpace)⟩, List.forall_mem_cons.mpr ⟨⟨⟨ga_NoAxis, gg_NoAxis, xe_NoAxis, xh_NoAxis, cA_NoAxis, clN, clK, no_NoAxis⟩, kit_of xc_NoSpace xt_NoSpace xs_NoAxis_NoSpace (kit_no xs_NoAxis_NoSpace xs_NoSpace_NoSpace)⟩, List.forall_mem_cons.mpr ⟨⟨⟨ga_NoMember, gg_NoMember, xe_NoMember, xh_NoMember, cA_NoMember, clN, clK, no_NoMember⟩, kit_of xc_NoSpace xt_NoSpace xs_NoMember_NoSpace (kit_no xs_NoMember_NoSpace xs_NoSpace_NoSpace)⟩, List.forall_mem_cons.mpr ⟨⟨⟨ga_Twice, gg_Twice, xe_Twice, xh_Twice, cA_Twice, clN, clK, no_Twice⟩, kit_of xc_NoSpace xt_NoSpace xs_Twice_NoSpace (kit_no xs_Twice_NoSpace xs_NoSpace_NoSpace)⟩, List.forall_mem_cons.mpr ⟨⟨⟨ga_OtherSpace, gg_OtherSpace, xe_OtherSpace, xh_OtherSpace, cA_OtherSpace, clN, clK, no_OtherSpace⟩, kit_of xc_NoSpace xt_NoSpace xs_OtherSpace_NoSpace (kit_no xs_OtherSpace_NoSpace xs_NoSpace_NoSpace)⟩, List.forall_mem_cons.mpr ⟨⟨⟨ga_NoTable, gg_NoTable, xe_NoTable, xh_NoTable, cA_NoTable, clN, clK, no_NoTable⟩, kit_of xc_NoSpace xt_NoSpace xs_NoTable_NoSpace (kit_no xs_NoTable_NoSpace xs_NoSpace_NoSpace)⟩, List.forall_mem_cons.mpr ⟨⟨⟨ga_NoRows, gg_NoRows, xe_NoRows, xh_NoRows, cA_NoRows, clN, clK, no_NoRows⟩, kit_of xc_NoSpace xt_NoSpace xs_NoRows_NoSpace (kit_no xs_NoRows_NoSpace xs_NoSpace_NoSpace)⟩, List.forall_mem_cons.mpr ⟨⟨⟨ga_NoLinear, gg_NoLinear, xe_NoLinear, xh_NoLinear, cA_NoLinear, clN, clK, no_NoLinear⟩, kit_of xc_NoSpace xt_NoSpace xs_NoLinear_NoSpace (kit_no xs_NoLinear_NoSpace xs_NoSpace_NoSpace)⟩, List.forall_mem_cons.mpr ⟨⟨⟨ga_NoQuotient, gg_NoQuotient, xe_NoQuotient, xh_NoQuotient, cA_NoQuotient, clN, clK, no_NoQuotient⟩, kit_of xc_NoSpace xt_NoSpace xs_NoQuotient_NoSpace (kit_no xs_NoQuotient_NoSpace xs_NoSpace_NoSpace)⟩, List.forall_mem_cons.mpr ⟨⟨⟨ga_NoPart, gg_NoPart, xe_NoPart, xh_NoPart, cA_NoPart, clN, clK, no_NoPart⟩, kit_of xc_NoSpace xt_NoSpace xs_NoPart_NoSpace (kit_no xs_NoPart_NoSpace xs_NoSpace_NoSpace)⟩, List.forall_mem_cons.mpr ⟨⟨⟨ga_Full, gg_Full, xe_Full, xh_Full, cA_Full, clN, clK, no_Full⟩, kit_of xc_NoSpace xt_NoSpace xs_Full_NoSpace (kit_no xs_Full_NoSpace xs_NoSpace_NoSpace)⟩, List.forall_mem_cons.mpr ⟨⟨⟨ga_NoSuch, gg_NoSuch, xe_NoSuch, xh_NoSuch, cA_NoSuch, clN, clK, no_NoSuch⟩, kit_of xc_NoSpace xt_NoSpace xs_NoSuch_NoSpace (kit_no xs_NoSuch_NoSpace xs_NoSpace_NoSpace)⟩, List.forall_mem_cons.mpr ⟨⟨⟨ga_NoValues, gg_NoValues, xe_NoValues, xh_NoValues, cA_NoValues, clN, clK, no_NoValues⟩, kit_of xc_NoSpace xt_NoSpace xs_NoValues_NoSpace (kit_no xs_NoValues_NoSpace xs_NoSpace_NoSpace)⟩, List.forall_mem_cons.mpr ⟨⟨⟨ga_PartError, gg_PartError, xe_PartError, xh_PartError, cA_PartError, clN, clK, no_PartError⟩, kit_of xc_NoSpace xt_NoSpace xs_PartError_NoSpace (kit_no xs_PartError_NoSpace xs_NoSpace_NoSpace)⟩, (fun _ h => nomatch h)⟩⟩⟩⟩⟩⟩⟩⟩⟩⟩⟩⟩⟩⟩⟩⟩⟩
  have V5 : mg "NoRatio" = some (.ref (CT cNoRatio)) := PySem.W.mg_of X G a_NoRatio
  have V6 : IsxT K CT (.ref (CT cNoRatio)) ([(cNoName, false), (cNoRatio, true), (cNoSpace, false), (cNoCell, false), (cNoAxis, false), (cNoMember, false), (cTwice, false), (cOtherSpace, false), (cNoTable, false), (cNoRows, false), (cNoLinear, false), (cNoQuotient, false), (cNoPart, false), (cFull, false), (cNoSuch, false), (cNoValues, false), (cPartError, false)] : List (Nat × Bool)) := List.forall_mem_cons.mpr ⟨⟨⟨ga_NoName, gg_NoName, xe_NoName, xh_NoName, cA_NoName, clN, clK, no_NoName⟩, kit_of xc_NoRatio xt_NoRatio xs_NoName_NoRatio (kit_no xs_NoName_NoRatio xs_NoRatio_NoRatio)⟩, List.forall_mem_cons.mpr ⟨⟨⟨ga_NoRatio, gg_NoRatio, xe_NoRatio, xh_NoRatio, cA_NoRatio, clN, clK, no_NoRatio⟩, kit_same⟩, List.forall_mem_cons.mpr ⟨⟨⟨ga_NoSpace, gg_NoSpace, xe_NoSpace, xh_NoSpace, cA_NoSpace, clN, clK, no_NoSpace⟩, kit_of xc_NoRatio xt_NoRatio xs_NoSpace_NoRatio (kit_no xs_NoSpace_NoRatio xs_NoRatio_NoRatio)⟩, List.forall_mem_cons.mpr ⟨⟨⟨ga_NoCell, gg_NoCell, xe_NoCell, xh_NoCell, cA_NoCell, clN, clK, no_NoCell⟩, kit_of xc_NoRatio xt_NoRatio xs_NoCell_NoRatio (kit_no xs_NoCell_NoRatio xs_NoRatio_NoRatio)⟩, List.forall_mem_cons.mpr ⟨⟨⟨ga_NoAxis, gg_NoAxis, xe_NoAxis, xh_NoAxis, cA_NoAxis, clN, clK, no_NoAxis⟩, kit_of xc_NoRatio xt_NoRatio xs_NoAxis_NoRatio (kit_no xs_NoAxis_NoRatio xs_NoRatio_NoRatio)⟩, List.forall_mem_cons.mpr ⟨⟨⟨ga_NoMember, gg_NoMember, xe_NoMember, xh_NoMember, cA_NoMember, clN, clK, no_NoMember⟩, kit_of xc_NoRatio xt_NoRatio xs_NoMember_NoRatio (kit_no xs_NoMember_NoRatio xs_NoRatio_NoRatio)⟩, List.forall_mem_cons.mpr ⟨⟨⟨ga_Twice, gg_Twice, xe_Twice, xh_Twice, cA_Twice, clN, clK, no_Twice⟩, kit_of xc_NoRatio xt_NoRatio xs_Twice_NoRatio (kit_no xs_Twice_NoRatio xs_NoRatio_NoRatio)⟩, List.forall_mem_cons.mpr ⟨⟨⟨ga_OtherSpace, gg_OtherSpace, xe_OtherSpace, xh_OtherSpace, cA_OtherSpace, clN, clK, no_OtherSpace⟩, kit_of xc_NoRatio xt_NoRatio xs_OtherSpace_NoRatio (kit_no xs_OtherSpace_NoRatio xs_NoRatio_NoRatio)⟩, List.forall_mem_cons.mpr ⟨⟨⟨ga_NoTable, gg_NoTable, xe_NoTable, xh_NoTable, cA_NoTable, clN, clK, no_NoTable⟩, kit_of xc_NoRatio xt_NoRatio xs_NoTable_NoRatio (kit_no xs_NoTable_NoRatio xs_NoRatio_NoRatio)⟩, List.forall_mem_cons.mpr ⟨⟨⟨ga_NoRows, gg_NoRows, xe_NoRows, xh_NoRows, cA_NoRows, clN, clK, no_NoRows⟩, kit_of xc_NoRatio xt_NoRatio xs_NoRows_NoRatio (kit_no xs_NoRows_NoRatio xs_NoRatio_NoRatio)⟩, List.forall_mem_cons.mpr ⟨⟨⟨ga_NoLinear, gg_NoLinear, xe_NoLinear, xh_NoLinear, cA_NoLinear, clN, clK, no_NoLinear⟩, kit_of xc_NoRatio xt_NoRatio xs_NoLinear_NoRatio (kit_no xs_NoLinear_NoRatio xs_NoRatio_NoRatio)⟩, List.forall_mem_cons.mpr ⟨⟨⟨ga_NoQuotient, gg_NoQuotient, xe_NoQuotient, xh_NoQuotient, cA_NoQuotient, clN, clK, no_NoQuotient⟩, kit_of xc_NoRatio xt_NoRatio xs_NoQuotient_NoRatio (kit_no xs_NoQuotient_NoRatio xs_NoRatio_NoRatio)⟩, List.forall_mem_cons.mpr ⟨⟨⟨ga_NoPart, gg_NoPart, xe_NoPart, xh_NoPart, cA_NoPart, clN, clK, no_NoPart⟩, kit_of xc_NoRatio xt_NoRatio xs_NoPart_NoRatio (kit_no xs_NoPart_NoRatio xs_NoRatio_NoRatio)⟩, List.forall_mem_cons.mpr ⟨⟨⟨ga_Full, gg_Full, xe_Full, xh_Full, cA_Full, clN, clK, no_Full⟩, kit_of xc_NoRatio xt_NoRatio xs_Full_NoRatio (kit_no xs_Full_NoRatio xs_NoRatio_NoRatio)⟩, List.forall_mem_cons.mpr ⟨⟨⟨ga_NoSuch, gg_NoSuch, xe_NoSuch, xh_NoSuch, cA_NoSuch, clN, clK, no_NoSuch⟩, kit_of xc_NoRatio xt_NoRatio xs_NoSuch_NoRatio (kit_no xs_NoSuch_NoRatio xs_NoRatio_NoRatio)⟩, List.forall_mem_cons.mpr ⟨⟨⟨ga_NoValues, gg_NoValues, xe_NoValues, xh_NoValues, cA_NoValues, clN, clK, no_NoValues⟩, kit_of xc_NoRatio xt_NoRatio xs_NoValues_NoRatio (kit_no xs_NoValues_NoRatio xs_NoRatio_NoRatio)⟩, List.forall_mem_cons.mpr ⟨⟨⟨ga_PartError, gg_PartError, xe_PartError, xh_PartError, cA_PartError, clN, clK, no_PartError⟩, kit_of xc_NoRatio xt_NoRatio xs_PartError_NoRatio (kit_no xs_PartError_NoRatio xs_NoRatio_NoRatio)⟩, (fun _ h => nomatch h)⟩⟩⟩⟩⟩⟩⟩⟩⟩⟩⟩⟩⟩⟩⟩⟩⟩
  have V7 : mg "NoName" = some (.ref (CT cNoName)) := PySem.W.mg_of X G a_NoName
  have V8 : IsxT K CT (.ref (CT cNoName)) ([(cNoName, true), (cNoRatio, false), (cNoSpace, false), (cNoCell, false), (cNoAxis, false), (cNoMember, false), (cTwice, false), (cOtherSpace, false), (cNoTable, false), (cNoRows, false), (cNoLinear, false), (cNoQuotient, false), (cNoPart, false), (cFull, false), (cNoSuch, false), (cNoValues, false), (cPartError, false)] : List (Nat × Bool)) := List.forall_mem_cons.mpr ⟨⟨⟨ga_NoName, gg_NoName, xe_NoName, xh_NoName, cA_NoName, clN, clK, no_NoName⟩, kit_same⟩, List.forall_mem_cons.mpr ⟨⟨⟨ga_NoRatio, gg_NoRatio, xe_NoRatio, xh_NoRatio, cA_NoRatio, clN, clK, no_NoRatio⟩, kit_of xc_NoName xt_NoName xs_NoRatio_NoName (kit_no xs_NoRatio_NoName xs_NoName_NoName)⟩, List.forall_mem_cons.mpr ⟨⟨⟨ga_NoSpace, gg_NoSpace, xe_NoSpace, xh_NoSpace, cA_NoSpace, clN, clK, no_NoSpace⟩, kit_of xc_NoName xt_NoName xs_NoSpace_NoName (kit_no xs_NoSpace_NoName xs_NoName_NoName)⟩, List.forall_mem_cons.mpr ⟨⟨⟨ga_NoCell, gg_NoCell, xe_NoCell, xh_NoCell, cA_NoCell, clN, clK, no_NoCell⟩, kit_of xc_NoName xt_NoName xs_NoCell_NoName (kit_no xs_NoCell_NoName xs_NoName_NoName)⟩, List.forall_mem_cons.mpr ⟨⟨⟨ga_NoAxis, gg_NoAxis, xe_NoAxis, xh_NoAxis, cA_NoAxis, clN, clK, no_NoAxis⟩, kit_of xc_NoName xt_NoName xs_NoAxis_NoName (kit_no xs_NoAxis_NoName xs_NoName_NoName)⟩, List.forall_mem_cons.mpr ⟨⟨⟨ga_NoMember, gg_NoMember, xe_NoMember, xh_NoMember, cA_NoMember, clN, clK, no_NoMember⟩, kit_of xc_NoName xt_NoName xs_NoMember_NoName (kit_no xs_NoMember_NoName xs_NoName_NoName)⟩, List.forall_mem_cons.mpr ⟨⟨⟨ga_Twice, gg_Twice, xe_Twice, xh_Twice, cA_Twice, clN, clK, no_Twice⟩, kit_of xc_NoName xt_NoName xs_Twice_NoName (kit_no xs_Twice_NoName xs_NoName_NoName)⟩, List.forall_mem_cons.mpr ⟨⟨⟨ga_OtherSpace, gg_OtherSpace, xe_OtherSpace, xh_OtherSpace, cA_OtherSpace, clN, clK, no_OtherSpace⟩, kit_of xc_NoName xt_NoName xs_OtherSpace_NoName (kit_no xs_OtherSpace_NoName xs_NoName_NoName)⟩, List.forall_mem_cons.mpr ⟨⟨⟨ga_NoTable, gg_NoTable, xe_NoTable, xh_NoTable, cA_NoTable, clN, clK, no_NoTable⟩, kit_of xc_NoName xt_NoName xs_NoTable_NoName (kit_no xs_NoTable_NoName xs_NoName_NoName)⟩, List.forall_mem_cons.mpr ⟨⟨⟨ga_NoRows, gg_NoRows, xe_NoRows, xh_NoRows, cA_NoRows, clN, clK, no_NoRows⟩, kit_of xc_NoName xt_NoName xs_NoRows_NoName (kit_no xs_NoRows_NoName xs_NoName_NoName)⟩, List.forall_mem_cons.mpr ⟨⟨⟨ga_NoLinear, gg_NoLinear, xe_NoLinear, xh_NoLinear, cA_NoLinear, clN, clK, no_NoLinear⟩, kit_of xc_NoName xt_NoName xs_NoLinear_NoName (kit_no xs_NoLinear_NoName xs_NoName_NoName)⟩, List.forall_mem_cons.mpr ⟨⟨⟨ga_NoQuotient, gg_NoQuotient, xe_NoQuotient, xh_NoQuotient, cA_NoQuotient, clN, clK, no_NoQuotient⟩, kit_of xc_NoName xt_NoName xs_NoQuotient_NoName (kit_no xs_NoQuotient_NoName xs_NoName_NoName)⟩, List.forall_mem_cons.mpr ⟨⟨⟨ga_NoPart, gg_NoPart, xe_NoPart, xh_NoPart, cA_NoPart, clN, clK, no_NoPart⟩, kit_of xc_NoName xt_NoName xs_NoPart_NoName (kit_no xs_NoPart_NoName xs_NoName_NoName)⟩, List.forall_mem_cons.mpr ⟨⟨⟨ga_Full, gg_Full, xe_Full, xh_Full, cA_Full, clN, clK, no_Full⟩, kit_of xc_NoName xt_NoName xs_Full_NoName (kit_no xs_Full_NoName xs_NoName_NoName)⟩, List.forall_mem_cons.mpr ⟨⟨⟨ga_NoSuch, gg_NoSuch, xe_NoSuch, xh_NoSuch, cA_NoSuch, clN, clK, no_NoSuch⟩, kit_of xc_NoName xt_NoName xs_NoSuch_NoName (kit_no xs_NoSuch_NoName xs_NoName_NoName)⟩, List.forall_mem_cons.mpr ⟨⟨⟨ga_NoValues, gg_NoValues, xe_NoValues, xh_NoValues, cA_NoValues, clN, clK, no_NoValues⟩, kit_of xc_NoName xt_NoName xs_NoValues_NoName (kit_no xs_NoValues_NoName xs_NoName_NoName)⟩, List.forall_mem_cons.mpr ⟨⟨⟨ga_PartError, gg_PartError, xe_PartError, xh_PartError, cA_PartError, clN, clK, no_PartError⟩, kit_of xc_NoName xt_NoName xs_PartError_NoName (kit_no xs_PartError_NoName xs_NoName_NoName)⟩, (fun _ h => nomatch h)⟩⟩⟩⟩⟩⟩⟩⟩⟩⟩⟩⟩⟩⟩⟩⟩⟩
  have V9 : mg "Twice" = some (.ref (CT cTwice)) := PySem.W.mg_of X G a_Twice
  have V10 : IsxT K CT (.ref (CT cTwice)) ([(cNoName, false), (cNoRatio, false), (cNoSpace, false), (cNoCell, false), (cNoAxis, false), (cNoMember, false), (cTwice, true), (cOtherSpace, false), (cNoTable, false), (cNoRows, false), (cNoLinear, false), (cNoQuotient, false), (cNoPart, false), (cFull, false), (cNoSuch, false), (cNoValues, false), (cPartError, false)] : List (Nat × Bool)) := List.forall_mem_cons.mpr ⟨⟨⟨ga_NoName, gg_NoName, xe_NoName, xh_NoName, cA_NoName, clN, clK, no_NoName⟩, kit_of xc_Twice xt_Twice xs_NoName_Twice (kit_no xs_NoName_Twice xs_Twice_Twice)⟩, List.forall_mem_cons.mpr ⟨⟨⟨ga_NoRatio, gg_NoRatio, xe_NoRatio, xh_NoRatio, cA_NoRatio, clN, clK, no_NoRatio⟩, kit_of xc_Twice xt_Twice xs_NoRatio_Twice (kit_no xs_NoRatio_Twice xs_Twice_Twice)⟩, List.forall_mem_cons.mpr ⟨⟨⟨ga_NoSpace, gg_NoSpace, xe_NoSpace, xh_NoSpace, cA_NoSpace, clN, clK, no_NoSpace⟩, kit_of xc_Twice xt_Twice xs_NoSpace_Twice (kit_no xs_NoSpace_Twice xs_Twice_Twice)⟩, List.forall_mem_cons.mpr ⟨⟨⟨ga_NoCell, gg_NoCell, xe_NoCell, xh_NoCell, cA_NoCell, clN, clK, no_NoCell⟩, kit_of xc_Twice xt_Twice xs_NoCell_Twice (kit_no xs_NoCell_Twice xs_Twice_Twice)⟩, List.forall_mem_cons.mpr ⟨⟨⟨ga_NoAxis, gg_NoAxis, xe_NoAxis, xh_NoAxis, cA_NoAxis, clN, clK, no_NoAxis⟩, kit_of xc_Twice xt_Twice xs_NoAxis_Twice (kit_no xs_NoAxis_Twice xs_Twice_Twice)⟩, List.forall_mem_cons.mpr ⟨⟨⟨ga_NoMember, gg_NoMember, xe_NoMember, xh_NoMember, cA_NoMember, clN, clK, no_NoMember⟩, kit_of xc_Twice xt_Twice xs_NoMember_Twice (kit_no xs_NoMember_Twice xs_Twice_Twice)⟩, List.forall_mem_cons.mpr ⟨⟨⟨ga_Twice, gg_Twice, xe_Twice, xh_Twice, cA_Twice, clN, clK, no_Twice⟩, kit_same⟩, List.forall_mem_cons.mpr ⟨⟨⟨ga_OtherSpace, gg_OtherSpace, xe_OtherSpace, xh_OtherSpace, cA_OtherSpace, clN, clK, no_OtherSpace⟩, kit_of xc_Twice xt_Twice xs_OtherSpace_Twice (kit_no xs_OtherSpace_Twice xs_Twice_Twice)⟩, List.forall_mem_cons.mpr ⟨⟨⟨ga_NoTable, gg_NoTable, xe_NoTable, xh_NoTable, cA_NoTable, clN, clK, no_NoTable⟩, kit_of xc_Twice xt_Twice xs_NoTable_Twice (kit_no xs_NoTable_Twice xs_Twice_Twice)⟩, List.forall_mem_cons.mpr ⟨⟨⟨ga_NoRows, gg_NoRows, xe_NoRows, xh_NoRows, cA_NoRows, clN, clK, no_NoRows⟩, kit_of xc_Twice xt_Twice xs_NoRows_Twice (kit_no xs_NoRows_Twice xs_Twice_Twice)⟩, List.forall_mem_cons.mpr ⟨⟨⟨ga_NoLinear, gg_NoLinear, xe_NoLinear, xh_NoLinear, cA_NoLinear, clN, clK, no_NoLinear⟩, kit_of xc_Twice xt_Twice xs_NoLinear_Twice (kit_no xs_NoLinear_Twice xs_Twice_Twice)⟩, List.forall_mem_cons.mpr ⟨⟨⟨ga_NoQuotient, gg_NoQuotient, xe_NoQuotient, xh_NoQuotient, cA_NoQuotient, clN, clK, no_NoQuotient⟩, kit_of xc_Twice xt_Twice xs_NoQuotient_Twice (kit_no xs_NoQuotient_Twice xs_Twice_Twice)⟩, List.forall_mem_cons.mpr ⟨⟨⟨ga_NoPart, gg_NoPart, xe_NoPart, xh_NoPart, cA_NoPart, clN, clK, no_NoPart⟩, kit_of xc_Twice xt_Twice xs_NoPart_Twice (kit_no xs_NoPart_Twice xs_Twice_Twice)⟩, List.forall_mem_cons.mpr ⟨⟨⟨ga_Full, gg_Full, xe_Full, xh_Full, cA_Full, clN, clK, no_Full⟩, kit_of xc_Twice xt_Twice xs_Full_Twice (kit_no xs_Full_Twice xs_Twice_Twice)⟩, List.forall_mem_cons.mpr ⟨⟨⟨ga_NoSuch, gg_NoSuch, xe_NoSuch, xh_NoSuch, cA_NoSuch, clN, clK, no_NoSuch⟩, kit_of xc_Twice xt_Twice xs_NoSuch_Twice (kit_no xs_NoSuch_Twice xs_Twice_Twice)⟩, List.forall_mem_cons.mpr ⟨⟨⟨ga_NoValues, gg_NoValues, xe_NoValues, xh_NoValues, cA_NoValues, clN, clK, no_NoValues⟩, kit_of xc_Twice xt_Twice xs_NoValues_Twice (kit_no xs_NoValues_Twice xs_Twice_Twice)⟩, List.forall_mem_cons.mpr ⟨⟨⟨ga_PartError, gg_PartError, xe_PartError, xh_PartError, cA_PartError, clN, clK, no_PartError⟩, kit_of xc_Twice xt_Twice xs_PartError_Twice (kit_no xs_PartError_Twice xs_Twice_Twice)⟩, (fun _ h => nomatch h)⟩⟩⟩⟩⟩⟩⟩⟩⟩⟩⟩⟩⟩⟩⟩⟩⟩
  have V11 : mg "NoMember" = some (.ref (CT cNoMember)) := PySem.W.mg_of X G a_NoMember
  have V12 : IsxT K CT (.ref (CT cNoMember)) ([(cNoName, false), (cNoRatio, false), (cNoSpace, false), (cNoCell, false), (cNoAxis, false), (cNoMember, true), (cTwice, false), (cOtherSpace, false), (cNoTable, false), (cNoRows, false), (cNoLinear, false), (cNoQuotient, false), (cNoPart, false), (cFull, false), (cNoSuch, false), (cNoValues, false), (cPartError, false)] : List (Nat × Bool)) := List.forall_mem_cons.mpr ⟨⟨⟨ga_NoName, gg_NoName, xe_NoName, xh_NoName, cA_NoName, clN, clK, no_NoName⟩, kit_of xc_NoMember xt_NoMember xs_NoName_NoMember (kit_no xs_NoName_NoMember xs_NoMember_NoMember)⟩, List.forall_mem_cons.mpr ⟨⟨⟨ga_NoRatio, gg_NoRatio, xe_NoRatio, xh_NoRatio, cA_NoRatio, clN, clK, no_NoRatio⟩, kit_of xc_NoMember xt_NoMember xs_NoRatio_NoMember (kit_no xs_NoRatio_NoMember xs_NoMember_NoMember)⟩, List.forall_mem_cons.mpr ⟨⟨⟨ga_NoSpace, gg_NoSpace, xe_NoSpace, xh_NoSpace, cA_NoSpace, clN, clK, no_NoSpace⟩, kit_of xc_NoMember xt_NoMember xs_NoSpace_NoMember (kit_no xs_NoSpace_NoMember xs_NoMember_NoMember)⟩, List.forall_mem_cons.mpr ⟨⟨⟨ga_NoCell, gg_NoCell, xe_NoCell, xh_NoCell, cA_NoCell, clN, clK, no_NoCell⟩, kit_of xc_NoMember xt_NoMember xs_NoCell_NoMember (kit_no xs_NoCell_NoMember xs_NoMember_NoMember)⟩, List.forall_mem_cons.mpr ⟨⟨⟨ga_NoAxis, gg_NoAxis, xe_NoAxis, xh_NoAxis, cA_NoAxis, clN, clK, no_NoAxis⟩, kit_of xc_NoMember xt_NoMember xs_NoAxis_NoMember (kit_no xs_NoAxis_NoMember xs_NoMember_NoMember)⟩, List.forall_mem_cons.mpr ⟨⟨⟨ga_NoMember, gg_NoMember, xe_NoMember, xh_NoMember, cA_NoMember, clN, clK, no_NoMember⟩, kit_same⟩, List.forall_mem_cons.mpr ⟨⟨⟨ga_Twice, gg_Twice, xe_Twice, xh_Twice, cA_Twice, clN, clK, no_Twice⟩, kit_of xc_NoMember xt_NoMember xs_Twice_NoMember (kit_no xs_Twice_NoMember xs_NoMember_NoMember)⟩, List.forall_mem_cons.mpr ⟨⟨⟨ga_OtherSpace, gg_OtherSpace, xe_OtherSpace, xh_OtherSpace, cA_OtherSpace, clN, clK, no_OtherSpace⟩, kit_of xc_NoMember xt_NoMember xs_OtherSpace_NoMember (kit_no xs_OtherSpace_NoMember xs_NoMember_NoMember)⟩, List.forall_mem_cons.mpr ⟨⟨⟨ga_NoTable, gg_NoTable, xe_NoTable, xh_NoTable, cA_NoTable, clN, clK, no_NoTable⟩, kit_of xc_NoMember xt_NoMember xs_NoTable_NoMember (kit_no xs_NoTable_NoMember xs_NoMember_NoMember)⟩, List.forall_mem_cons.mpr ⟨⟨⟨ga_NoRows, gg_NoRows, xe_NoRows, xh_NoRows, cA_NoRows, clN, clK, no_NoRows⟩, kit_of xc_NoMember xt_NoMember xs_NoRows_NoMember (kit_no xs_NoRows_NoMember xs_NoMember_NoMember)⟩, List.forall_mem_cons.mpr ⟨⟨⟨ga_NoLinear, gg_NoLinear, xe_NoLinear, xh_NoLinear, cA_NoLinear, clN, clK, no_NoLinear⟩, kit_of xc_NoMember xt_NoMember xs_NoLinear_NoMember (kit_no xs_NoLinear_NoMember xs_NoMember_NoMember)⟩, List.forall_mem_cons.mpr ⟨⟨⟨ga_NoQuotient, gg_NoQuotient, xe_NoQuotient, xh_NoQuotient, cA_NoQuotient, clN, clK, no_NoQuotient⟩, kit_of xc_NoMember xt_NoMember xs_NoQuotient_NoMember (kit_no xs_NoQuotient_NoMember xs_NoMember_NoMember)⟩, List.forall_mem_cons.mpr ⟨⟨⟨ga_NoPart, gg_NoPart, xe_NoPart, xh_NoPart, cA_NoPart, clN, clK, no_NoPart⟩, kit_of xc_NoMember xt_NoMember xs_NoPart_NoMember (kit_no xs_NoPart_NoMember xs_NoMember_NoMember)⟩, List.forall_mem_cons.mpr ⟨⟨⟨ga_Full, gg_Full, xe_Full, xh_Full, cA_Full, clN, clK, no_Full⟩, kit_of xc_NoMember xt_NoMember xs_Full_NoMember (kit_no xs_Full_NoMember xs_NoMember_NoMember)⟩, List.forall_mem_cons.mpr ⟨⟨⟨ga_NoSuch, gg_NoSuch, xe_NoSuch, xh_NoSuch, cA_NoSuch, clN, clK, no_NoSuch⟩, kit_of xc_NoMember xt_NoMember xs_NoSuch_NoMember (kit_no xs_NoSuch_NoMember xs_NoMember_NoMember)⟩, List.forall_mem_cons.mpr ⟨⟨⟨ga_NoValues, gg_NoValues, xe_NoValues, xh_NoValues, cA_NoValues, clN, clK, no_NoValues⟩, kit_of xc_NoMember xt_NoMember xs_NoValues_NoMember (kit_no xs_NoValues_NoMember xs_NoMember_NoMember)⟩, List.forall_mem_cons.mpr ⟨⟨⟨ga_PartError, gg_PartError, xe_PartError, xh_PartError, cA_PartError, clN, clK, no_PartError⟩, kit_of xc_NoMember xt_NoMember xs_PartError_NoMember (kit_no xs_PartError_NoMember xs_NoMember_NoMember)⟩, (fun _ h => nomatch h)⟩⟩⟩⟩⟩⟩⟩⟩⟩⟩⟩⟩⟩⟩⟩⟩⟩
  have V13 : mg "NoAxis" = some (.ref (CT cNoAxis)) := PySem.W.mg_of X G a_NoAxis
  have V14 : IsxT K CT (.ref (CT cNoAxis)) ([(cNoName, false), (cNoRatio, false), (cNoSpace, false), (cNoCell, false), (cNoAxis, true), (cNoMember, false), (cTwice, false), (cOtherSpace, false), (cNoTable, false), (cNoRows, false), (cNoLinear, false), (cNoQuotient, false), (cNoPart, false), (cFull, false), (cNoSuch, false), (cNoValues, false), (cPartError, false)] : List (Nat × Bool)) := List.forall_mem_cons.mpr ⟨⟨⟨ga_NoName, gg_NoName, xe_NoName, xh_NoName, cA_NoName, clN, clK, no_NoName⟩, kit_of xc_NoAxis xt_NoAxis xs_NoName_NoAxis (kit_no xs_NoName_NoAxis xs_NoAxis_NoAxis)⟩, List.forall_mem_cons.mpr ⟨⟨⟨ga_NoRatio, gg_NoRatio, xe_NoRatio, xh_NoRatio, cA_NoRatio, clN, clK, no_NoRatio⟩, kit_of xc_NoAxis xt_NoAxis xs_NoRatio_NoAxis (kit_no xs_NoRatio_NoAxis xs_NoAxis_NoAxis)⟩, List.forall_mem_cons.mpr ⟨⟨⟨ga_NoSpace, gg_NoSpace, xe_NoSpace, xh_NoSpace, cA_NoSpace, clN, clK, no_NoSpace⟩, kit_of xc_NoAxis xt_NoAxis xs_NoSpace_NoAxis (kit_no xs_NoSpace_NoAxis xs_NoAxis_NoAxis)⟩, List.forall_mem_cons.mpr ⟨⟨⟨ga_NoCell, gg_NoCell, xe_NoCell, xh_NoCell, cA_NoCell, clN, clK, no_NoCell⟩, kit_of xc_NoAxis xt_NoAxis xs_NoCell_NoAxis (kit_no xs_NoCell_NoAxis xs_NoAxis_NoAxis)⟩, List.forall_mem_cons.mpr ⟨⟨⟨ga_NoAxis, gg_NoAxis, xe_NoAxis, xh_NoAxis, cA_NoAxis, clN, clK, no_NoAxis⟩, kit_same⟩, List.forall_mem_cons.mpr ⟨⟨⟨ga_NoMember, gg_NoMember, xe_NoMember, xh_NoMember, cA_NoMember, clN, clK, no_NoMember⟩, kit_of xc_NoAxis xt_NoAxis xs_NoMember_NoAxis (kit_no xs_NoMember_NoAxis xs_NoAxis_NoAxis)⟩, List.forall_mem_cons.mpr ⟨⟨⟨ga_Twice, gg_Twice, xe_Twice, xh_Twice, cA_Twice, clN, clK, no_Twice⟩, kit_of xc_NoAxis xt_NoAxis xs_Twice_NoAxis (kit_no xs_Twice_NoAxis xs_NoAxis_NoAxis)⟩, List.forall_mem_cons.mpr ⟨⟨⟨ga_OtherSpace, gg_OtherSpace, xe_OtherSpace, xh_OtherSpace, cA_OtherSpace, clN, clK, no_OtherSpace⟩, kit_of xc_NoAxis xt_NoAxis xs_OtherSpace_NoAxis (kit_no xs_OtherSpace_NoAxis xs_NoAxis_NoAxis)⟩, List.forall_mem_cons.mpr ⟨⟨⟨ga_NoTable, gg_NoTable, xe_NoTable, xh_NoTable, cA_NoTable, clN, clK, no_NoTable⟩, kit_of xc_NoAxis xt_NoAxis xs_NoTable_NoAxis (kit_no xs_NoTable_NoAxis xs_NoAxis_NoAxis)⟩, List.forall_mem_cons.mpr ⟨⟨⟨ga_NoRows, gg_NoRows, xe_NoRows, xh_NoRows, cA_NoRows, clN, clK, no_NoRows⟩, kit_of xc_NoAxis xt_NoAxis xs_NoRows_NoAxis (kit_no xs_NoRows_NoAxis xs_NoAxis_NoAxis)⟩, List.forall_mem_cons.mpr ⟨⟨⟨ga_NoLinear, gg_NoLinear, xe_NoLinear, xh_NoLinear, cA_NoLinear, clN, clK, no_NoLinear⟩, kit_of xc_NoAxis xt_NoAxis xs_NoLinear_NoAxis (kit_no xs_NoLinear_NoAxis xs_NoAxis_NoAxis)⟩, List.forall_mem_cons.mpr ⟨⟨⟨ga_NoQuotient, gg_NoQuotient, xe_NoQuotient, xh_NoQuotient, cA_NoQuotient, clN, clK, no_NoQuotient⟩, kit_of xc_NoAxis xt_NoAxis xs_NoQuotient_NoAxis (kit_no xs_NoQuotient_NoAxis xs_NoAxis_NoAxis)⟩, List.forall_mem_cons.mpr ⟨⟨⟨ga_NoPart, gg_NoPart, xe_NoPart, xh_NoPart, cA_NoPart, clN, clK, no_NoPart⟩, kit_of xc_NoAxis xt_NoAxis xs_NoPart_NoAxis (kit_no xs_NoPart_NoAxis xs_NoAxis_NoAxis)⟩, List.forall_mem_cons.mpr ⟨⟨⟨ga_Full, gg_Full, xe_Full, xh_Full, cA_Full, clN, clK, no_Full⟩, kit_of xc_NoAxis xt_NoAxis xs_Full_NoAxis (kit_no xs_Full_NoAxis xs_NoAxis_NoAxis)⟩, List.forall_mem_cons.mpr ⟨⟨⟨ga_NoSuch, gg_NoSuch, xe_NoSuch, xh_NoSuch, cA_NoSuch, clN, clK, no_NoSuch⟩, kit_of xc_NoAxis xt_NoAxis xs_NoSuch_NoAxis (kit_no xs_NoSuch_NoAxis xs_NoAxis_NoAxis)⟩, List.forall_mem_cons.mpr ⟨⟨⟨ga_NoValues, gg_NoValues, xe_NoValues, xh_NoValues, cA_NoValues, clN, clK, no_NoValues⟩, kit_of xc_NoAxis xt_NoAxis xs_NoValues_NoAxis (kit_no xs_NoValues_NoAxis xs_NoAxis_NoAxis)⟩, List.forall_mem_cons.mpr ⟨⟨⟨ga_PartError, gg_PartError, xe_PartError, xh_PartError, cA_PartError, clN, clK, no_PartError⟩, kit_of xc_NoAxis xt_NoAxis xs_PartError_NoAxis (kit_no xs_PartError_NoAxis xs_NoAxis_NoAxis)⟩, (fun _ h => nomatch h)⟩⟩⟩⟩⟩⟩⟩⟩⟩⟩⟩⟩⟩⟩⟩⟩⟩
  have V15 : mg "NoRows" = some (.ref (CT cNoRows)) := PySem.W.mg_of X G a_NoRows
  have V16 : IsxT K CT (.ref (CT cNoRows)) ([(cNoName, false), (cNoRatio, false), (cNoSpace, false), (cNoCell, false), (cNoAxis, false), (cNoMember, false), (cTwice, false), (cOtherSpace, false), (cNoTable, false), (cNoRows, true), (cNoLinear, false), (cNoQuotient, false), (cNoPart, false), (cFull, false), (cNoSuch, false), (cNoValues, false), (cPartError, false)] : List (Nat × Bool)) := List.forall_mem_cons.mpr ⟨⟨⟨ga_NoName, gg_NoName, xe_NoName, xh_NoName, cA_NoName, clN, clK, no_NoName⟩, kit_of xc_NoRows xt_NoRows xs_NoName_NoRows (kit_no xs_NoName_NoRows xs_NoRows_NoRows)⟩, List.forall_mem_cons.mpr ⟨⟨⟨ga_NoRatio, gg_NoRatio, xe_NoRatio, xh_NoRatio, cA_NoRatio, clN, clK, no_NoRatio⟩, kit_of xc_NoRows xt_NoRows xs_NoRatio_NoRows (kit_no xs_NoRatio_NoRows xs_NoRows_NoRows)⟩, List.forall_mem_cons.mpr ⟨⟨⟨ga_NoSpace, gg_NoSpace, xe_NoSpace, xh_NoSpace, cA_NoSpace, clN, clK, no_NoSpace⟩, kit_of xc_NoRows xt_NoRows xs_NoSpace_NoRows (kit_no xs_NoSpace_NoRows xs_NoRows_NoRows)⟩, List.forall_mem_cons.mpr ⟨⟨⟨ga_NoCell, gg_NoCell, xe_NoCell, xh_NoCell, cA_NoCell, clN, clK, no_NoCell⟩, kit_of xc_NoRows xt_NoRows xs_NoCell_NoRows (kit_no xs_NoCell_NoRows xs_NoRows_NoRows)⟩, List.forall_mem_cons.mpr ⟨⟨⟨ga_NoAxis, gg_NoAxis, xe_NoAxis, xh_NoAxis, cA_NoAxis, clN, clK, no_NoAxis⟩, kit_of xc_NoRows xt_NoRows xs_NoAxis_NoRows (kit_no xs_NoAxis_NoRows xs_NoRows_NoRows)⟩, List.forall_mem_cons.mpr ⟨⟨⟨ga_NoMember, gg_NoMember, xe_NoMember, xh_NoMember, cA_NoMember, clN, clK, no_NoMember⟩, kit_of xc_NoRows xt_NoRows xs_NoMember_NoRows (kit_no xs_NoMember_NoRows xs_NoRows_NoRows)⟩, List.forall_mem_cons.mpr ⟨⟨⟨ga_Twice, gg_Twice, xe_Twice, xh_Twice, cA_Twice, clN, clK, no_Twice⟩, kit_of xc_NoRows xt_NoRows xs_Twice_NoRows (kit_no xs_Twice_NoRows xs_NoRows_NoRows)⟩, List.forall_mem_cons.mpr ⟨⟨⟨ga_OtherSpace, gg_OtherSpace, xe_OtherSpace, xh_OtherSpace, cA_OtherSpace, clN, clK, no_OtherSpace⟩, kit_of xc_NoRows xt_NoRows xs_OtherSpace_NoRows (kit_no xs_OtherSpace_NoRows xs_NoRows_NoRows)⟩, List.forall_mem_cons.mpr ⟨⟨⟨ga_NoTable, gg_NoTable, xe_NoTable, xh_NoTable, cA_NoTable, clN, clK, no_NoTable⟩, kit_of xc_NoRows xt_NoRows xs_NoTable_NoRows (kit_no xs_NoTable_NoRows xs_NoRows_NoRows)⟩, List.forall_mem_cons.mpr ⟨⟨⟨ga_NoRows, gg_NoRows, xe_NoRows, xh_NoRows, cA_NoRows, clN, clK, no_NoRows⟩, kit_same⟩, List.forall_mem_cons.mpr ⟨⟨⟨ga_NoLinear, gg_NoLinear, xe_NoLinear, xh_NoLinear, cA_NoLinear, clN, clK, no_NoLinear⟩, kit_of xc_NoRows xt_NoRows xs_NoLinear_NoRows (kit_no xs_NoLinear_NoRows xs_NoRows_NoRows)⟩, List.forall_mem_cons.mpr ⟨⟨⟨ga_NoQuotient, gg_NoQuotient, xe_NoQuotient, xh_NoQuotient, cA_NoQuotient, clN, clK, no_NoQuotient⟩, kit_of xc_NoRows xt_NoRows xs_NoQuotient_NoRows (kit_no xs_NoQuotient_NoRows xs_NoRows_NoRows)⟩, List.forall_mem_cons.mpr ⟨⟨⟨ga_NoPart, gg_NoPart, xe_NoPart, xh_NoPart, cA_NoPart, clN, clK, no_NoPart⟩, kit_of xc_NoRows xt_NoRows xs_NoPart_NoRows (kit_no xs_NoPart_NoRows xs_NoRows_NoRows)⟩, List.forall_mem_cons.mpr ⟨⟨⟨ga_Full, gg_Full, xe_Full, xh_Full, cA_Full, clN, clK, no_Full⟩, kit_of xc_NoRows xt_NoRows xs_Full_NoRows (kit_no xs_Full_NoRows xs_NoRows_NoRows)⟩, List.forall_mem_cons.mpr ⟨⟨⟨ga_NoSuch, gg_NoSuch, xe_NoSuch, xh_NoSuch, cA_NoSuch, clN, clK, no_NoSuch⟩, kit_of xc_NoRows xt_NoRows xs_NoSuch_NoRows (kit_no xs_NoSuch_NoRows xs_NoRows_NoRows)⟩, List.forall_mem_cons.mpr ⟨⟨⟨ga_NoValues, gg_NoValues, xe_NoValues, xh_NoValues, cA_NoValues, clN, clK, no_NoValues⟩, kit_of xc_NoRows xt_NoRows xs_NoValues_NoRows (kit_no xs_NoValues_NoRows xs_NoRows_NoRows)⟩, List.forall_mem_cons.mpr ⟨⟨⟨ga_PartError, gg_PartError, xe_PartError, xh_PartError, cA_PartError, clN, clK, no_PartError⟩, kit_of xc_NoRows xt_NoRows xs_PartError_NoRows (kit_no xs_PartError_NoRows xs_NoRows_NoRows)⟩, (fun _ h => nomatch h)⟩⟩⟩⟩⟩⟩⟩⟩⟩⟩⟩⟩⟩⟩⟩⟩⟩
  have V17 : mg "NoTable" = some (.ref (CT cNoTable)) := PySem.W.mg_of X G a_NoTable
  have V18 : IsxT K CT (.ref (CT cNoTable)) ([(cNoName, false), (cNoRatio, false), (cNoSpace, false), (cNoCell, false), (cNoAxis, false), (cNoMember, false), (cTwice, false), (cOtherSpace, false), (cNoTable, true), (cNoRows, false), (cNoLinear, false), (cNoQuotient, false), (cNoPart, false), (cFull, false), (cNoSuch, false), (cNoValues, false), (cPartError, false)] : List (Nat × Bool)) := List.forall_mem_cons.mpr ⟨⟨⟨ga_NoName, gg_NoName, xe_NoName, xh_NoName, cA_NoName, clN, clK, no_NoName⟩, kit_of xc_NoTable xt_NoTable xs_NoName_NoTable (kit_no xs_NoName_NoTable xs_NoTable_NoTable)⟩, List.forall_mem_cons.mpr ⟨⟨⟨ga_NoRatio, gg_NoRatio, xe_NoRatio, xh_NoRatio, cA_NoRatio, clN, clK, no_NoRatio⟩, kit_of xc_NoTable xt_NoTable xs_NoRatio_NoTable (kit_no xs_NoRatio_NoTable xs_NoTable_NoTable)⟩, List.forall_mem_cons.mpr ⟨⟨⟨ga_NoSpace, gg_NoSpace, xe_NoSpace, xh_NoSpace, cA_NoSpace, clN, clK, no_NoSpace⟩, kit_of xc_NoTable xt_NoTable xs_NoSpace_NoTable (kit_no xs_NoSpace_NoTable xs_NoTable_NoTable)⟩, List.forall_mem_cons.mpr ⟨⟨⟨ga_NoCell, gg_NoCell, xe_NoCell, xh_NoCell, cA_NoCell, clN, clK, no_NoCell⟩, kit_of xc_NoTable xt_NoTable xs_NoCell_NoTable (kit_no xs_NoCell_NoTable xs_NoTable_NoTable)⟩, List.forall_mem_cons.mpr ⟨⟨⟨ga_NoAxis, gg_NoAxis, xe_NoAxis, xh_NoAxis, cA_NoAxis, clN, clK, no_NoAxis⟩, kit_of xc_NoTable xt_NoTable xs_NoAxis_NoTable (kit_no xs_NoAxis_NoTable xs_NoTable_NoTable)⟩, List.forall_mem_cons.mpr ⟨⟨⟨ga_NoMember, gg_NoMember, xe_NoMember, xh_NoMember, cA_NoMember, clN, clK, no_NoMember⟩, kit_of xc_NoTable xt_NoTable xs_NoMember_NoTable (kit_no xs_NoMember_NoTable xs_NoTable_NoTable)⟩, List.forall_mem_cons.mpr ⟨⟨⟨ga_Twice, gg_Twice, xe_Twice, xh_Twice, cA_Twice, clN, clK, no_Twice⟩, kit_of xc_NoTable xt_NoTable xs_Twice_NoTable (kit_no xs_Twice_NoTable xs_NoTable_NoTable)⟩, List.forall_mem_cons.mpr ⟨⟨⟨ga_OtherSpace, gg_OtherSpace, xe_OtherSpace, xh_OtherSpace, cA_OtherSpace, clN, clK, no_OtherSpace⟩, kit_of xc_NoTable xt_NoTable xs_OtherSpace_NoTable (kit_no xs_OtherSpace_NoTable xs_NoTable_NoTable)⟩, List.forall_mem_cons.mpr ⟨⟨⟨ga_NoTable, gg_NoTable, xe_NoTable, xh_NoTable, cA_NoTable, clN, clK, no_NoTable⟩, kit_same⟩, List.forall_mem_cons.mpr ⟨⟨⟨ga_NoRows, gg_NoRows, xe_NoRows, xh_NoRows, cA_NoRows, clN, clK, no_NoRows⟩, kit_of xc_NoTable xt_NoTable xs_NoRows_NoTable (kit_no xs_NoRows_NoTable xs_NoTable_NoTable)⟩, List.forall_mem_cons.mpr ⟨⟨⟨ga_NoLinear, gg_NoLinear, xe_NoLinear, xh_NoLinear, cA_NoLinear, clN, clK, no_NoLinear⟩, kit_of xc_NoTable xt_NoTable xs_NoLinear_NoTable (kit_no xs_NoLinear_NoTable xs_NoTable_NoTable)⟩, List.forall_mem_cons.mpr ⟨⟨⟨ga_NoQuotient, gg_NoQuotient, xe_NoQuotient, xh_NoQuotient, cA_NoQuotient, clN, clK, no_NoQuotient⟩, kit_of xc_NoTable xt_NoTable xs_NoQuotient_NoTable (kit_no xs_NoQuotient_NoTable xs_NoTable_NoTable)⟩, List.forall_mem_cons.mpr ⟨⟨⟨ga_NoPart, gg_NoPart, xe_NoPart, xh_NoPart, cA_NoPart, clN, clK, no_NoPart⟩, kit_of xc_NoTable xt_NoTable xs_NoPart_NoTable (kit_no xs_NoPart_NoTable xs_NoTable_NoTable)⟩, List.forall_mem_cons.mpr ⟨⟨⟨ga_Full, gg_Full, xe_Full, xh_Full, cA_Full, clN, clK, no_Full⟩, kit_of xc_NoTable xt_NoTable xs_Full_NoTable (kit_no xs_Full_NoTable xs_NoTable_NoTable)⟩, List.forall_mem_cons.mpr ⟨⟨⟨ga_NoSuch, gg_NoSuch, xe_NoSuch, xh_NoSuch, cA_NoSuch, clN, clK, no_NoSuch⟩, kit_of xc_NoTable xt_NoTable xs_NoSuch_NoTable (kit_no xs_NoSuch_NoTable xs_NoTable_NoTable)⟩, List.forall_mem_cons.mpr ⟨⟨⟨ga_NoValues, gg_NoValues, xe_NoValues, xh_NoValues, cA_NoValues, clN, clK, no_NoValues⟩, kit_of xc_NoTable xt_NoTable xs_NoValues_NoTable (kit_no xs_NoValues_NoTable xs_NoTable_NoTable)⟩, List.forall_mem_cons.mpr ⟨⟨⟨ga_PartError, gg_PartError, xe_PartError, xh_PartError, cA_PartError, clN, clK, no_PartError⟩, kit_of xc_NoTable xt_NoTable xs_PartError_NoTable (kit_no xs_PartError_NoTable xs_NoTable_NoTable)⟩, (fun _ h => nomatch h)⟩⟩⟩⟩⟩⟩⟩⟩⟩⟩⟩⟩⟩⟩⟩⟩⟩
  have V19 : mg "OtherSpace" = some (.ref (CT cOtherSpace)) := PySem.W.mg_of X G a_OtherSpace
  have V20 : IsxT K CT (.ref (CT cOtherSpace)) ([(cNoName, false), (cNoRatio, false), (cNoSpace, false), (cNoCell, false), (cNoAxis, false), (cNoMember, false), (cTwice, false), (cOtherSpace, true), (cNoTable, false), (cNoRows, false), (cNoLinear, false), (cNoQuotient, false), (cNoPart, false), (cFull, false), (cNoSuch, false), (cNoValues, false), (cPartError, false)] : List (Nat × Bool)) := List.forall_mem_cons.mpr ⟨⟨⟨ga_NoName, gg_NoName, xe_NoName, xh_NoName, cA_NoName, clN, clK, no_NoName⟩, kit_of xc_OtherSpace xt_OtherSpace xs_NoName_OtherSpace (kit_no xs_NoName_OtherSpace xs_OtherSpace_OtherSpace)⟩, List.forall_mem_cons.mpr ⟨⟨⟨ga_NoRatio, gg_NoRatio, xe_NoRatio, xh_NoRatio, cA_NoRatio, clN, clK, no_NoRatio⟩, kit_of xc_OtherSpace xt_OtherSpace xs_NoRatio_OtherSpace (kit_no xs_NoRatio_OtherSpace xs_OtherSpace_OtherSpace)⟩, List.forall_mem_cons.mpr ⟨⟨⟨ga_NoSpace, gg_NoSpace, xe_NoSpace, xh_NoSpace, cA_NoSpace, clN, clK, no_NoSpace⟩, kit_of xc_OtherSpace xt_OtherSpace xs_NoSpace_OtherSpace (kit_no xs_NoSpace_OtherSpace xs_OtherSpace_OtherSpace)⟩, List.forall_mem_cons.mpr ⟨⟨⟨ga_NoCell, gg_NoCell, xe_NoCell, xh_NoCell, cA_NoCell, clN, clK, no_NoCell⟩, kit_of xc_OtherSpace xt_OtherSpace xs_NoCell_OtherSpace (kit_no xs_NoCell_OtherSpace xs_OtherSpace_OtherSpace)⟩, List.forall_mem_cons.mpr ⟨⟨⟨ga_NoAxis, gg_NoAxis, xe_NoAxis, xh_NoAxis, cA_NoAxis, clN, clK, no_NoAxis⟩, kit_of xc_OtherSpace xt_OtherSpace xs_NoAxis_OtherSpace (kit_no xs_NoAxis_OtherSpace xs_OtherSpace_OtherSpace)⟩, List.forall_mem_cons.mpr ⟨⟨⟨ga_NoMember, gg_NoMember, xe_NoMember, xh_NoMember, cA_NoMember, clN, clK, no_NoMember⟩, kit_of xc_OtherSpace xt_OtherSpace xs_NoMember_OtherSpace (kit_no xs_NoMember_OtherSpace xs_OtherSpace_OtherSpace)⟩, List.forall_mem_cons.mpr ⟨⟨⟨ga_Twice, gg_Twice, xe_Twice, xh_Twice, cA_Twice, clN, clK, no_Twice⟩, kit_of xc_OtherSpace xt_OtherSpace xs_Twice_OtherSpace (kit_no xs_Twice_OtherSpace xs_OtherSpace_OtherSpace)⟩, List.forall_mem_cons.mpr ⟨⟨⟨ga_OtherSpace, gg_OtherSpace, xe_OtherSpace, xh_OtherSpace, cA_OtherSpace, clN, clK, no_OtherSpace⟩, kit_same⟩, List.forall_mem_cons.mpr ⟨⟨⟨ga_NoTable, gg_NoTable, xe_NoTable, xh_NoTable, cA_NoTable, clN, clK, no_NoTable⟩, kit_of xc_OtherSpace xt_OtherSpace xs_NoTable_OtherSpace (kit_no xs_NoTable_OtherSpace xs_OtherSpace_OtherSpace)⟩, List.forall_mem_cons.mpr ⟨⟨⟨ga_NoRows, gg_NoRows, xe_NoRows, xh_NoRows, cA_NoRows, clN, clK, no_NoRows⟩, kit_of xc_OtherSpace xt_OtherSpace xs_NoRows_OtherSpace (kit_no xs_NoRows_OtherSpace xs_OtherSpace_OtherSpace)⟩, List.forall_mem_cons.mpr ⟨⟨⟨ga_NoLinear, gg_NoLinear, xe_NoLinear, xh_NoLinear, cA_NoLinear, clN, clK, no_NoLinear⟩, kit_of xc_OtherSpace xt_OtherSpace xs_NoLinear_OtherSpace (kit_no xs_NoLinear_OtherSpace xs_OtherSpace_OtherSpace)⟩, List.forall_mem_cons.mpr ⟨⟨⟨ga_NoQuotient, gg_NoQuotient, xe_NoQuotient, xh_NoQuotient, cA_NoQuotient, clN, clK, no_NoQuotient⟩, kit_of xc_OtherSpace xt_OtherSpace xs_NoQuotient_OtherSpace (kit_no xs_NoQuotient_OtherSpace xs_OtherSpace_OtherSpace)⟩, List.forall_mem_cons.mpr ⟨⟨⟨ga_NoPart, gg_NoPart, xe_NoPart, xh_NoPart, cA_NoPart, clN, clK, no_NoPart⟩, kit_of xc_OtherSpace xt_OtherSpace xs_NoPart_OtherSpace (kit_no xs_NoPart_OtherSpace xs_OtherSpace_OtherSpace)⟩, List.forall_mem_cons.mpr ⟨⟨⟨ga_Full, gg_Full, xe_Full, xh_Full, cA_Full, clN, clK, no_Full⟩, kit_of xc_OtherSpace xt_OtherSpace xs_Full_OtherSpace (kit_no xs_Full_OtherSpace xs_OtherSpace_OtherSpace)⟩, List.forall_mem_cons.mpr ⟨⟨⟨ga_NoSuch, gg_NoSuch, xe_NoSuch, xh_NoSuch, cA_NoSuch, clN, clK, no_NoSuch⟩, kit_of xc_OtherSpace xt_OtherSpace xs_NoSuch_OtherSpace (kit_no xs_NoSuch_OtherSpace xs_OtherSpace_OtherSpace)⟩, List.forall_mem_cons.mpr ⟨⟨⟨ga_NoValues, gg_NoValues, xe_NoValues, xh_NoValues, cA_NoValues, clN, clK, no_NoValues⟩, kit_of xc_OtherSpace xt_OtherSpace xs_NoValues_OtherSpace (kit_no xs_NoValues_OtherSpace xs_OtherSpace_OtherSpace)⟩, List.forall_mem_cons.mpr ⟨⟨⟨ga_PartError, gg_PartError, xe_PartError, xh_PartError, cA_PartError, clN, clK, no_PartError⟩, kit_of xc_OtherSpace xt_OtherSpace xs_PartError_OtherSpace (kit_no xs_PartError_OtherSpace xs_OtherSpace_OtherSpace)⟩, (fun _ h => nomatch h)⟩⟩⟩⟩⟩⟩⟩⟩⟩⟩⟩⟩⟩⟩⟩⟩⟩
  have V21 : mg "NoPart" = some (.ref (CT cNoPart)) := PySem.W.mg_of X G a_NoPart
  have V22 : IsxT K CT (.ref (CT cNoPart)) ([(cNoName, false), (cNoRatio, false), (cNoSpace, false), (cNoCell, false), (cNoAxis, false), (cNoMember, false), (cTwice, false), (cOtherSpace, false), (cNoTable, false), (cNoRows, false), (cNoLinear, false), (cNoQuotient, false), (cNoPart, true), (cFull, false), (cNoSuch, false), (cNoValues, false), (cPartError, false)] : List (Nat × Bool)) := List.forall_mem_cons.mpr ⟨⟨⟨ga_NoName, gg_NoName, xe_NoName, xh_NoName, cA_NoName, clN, clK, no_NoName⟩, kit_of xc_NoPart xt_NoPart xs_NoName_NoPart (kit_no xs_NoName_NoPart xs_NoPart_NoPart)⟩, List.forall_mem_cons.mpr ⟨⟨⟨ga_NoRatio, gg_NoRatio, xe_NoRatio, xh_NoRatio, cA_NoRatio, clN, clK, no_NoRatio⟩, kit_of xc_NoPart xt_NoPart xs_NoRatio_NoPart (kit_no xs_NoRatio_NoPart xs_NoPart_NoPart)⟩, List.forall_mem_cons.mpr ⟨⟨⟨ga_NoSpace, gg_NoSpace, xe_NoSpace, xh_NoSpace, cA_NoSpace, clN, clK, no_NoSpace⟩, kit_of xc_NoPart xt_NoPart xs_NoSpace_NoPart (kit_no xs_NoSpace_NoPart xs_NoPart_NoPart)⟩, List.forall_mem_cons.mpr ⟨⟨⟨ga_NoCell, gg_NoCell, xe_NoCell, xh_NoCell, cA_NoCell, clN, clK, no_NoCell⟩, kit_of xc_NoPart xt_NoPart xs_NoCell_NoPart (kit_no xs_NoCell_NoPart xs_NoPart_NoPart)⟩, List.forall_mem_cons.mpr ⟨⟨⟨ga_NoAxis, gg_NoAxis, xe_NoAxis, xh_NoAxis, cA_NoAxis, clN, clK, no_NoAxis⟩, kit_of xc_NoPart xt_NoPart xs_NoAxis_NoPart (kit_no xs_NoAxis_NoPart xs_NoPart_NoPart)⟩, List.forall_mem_cons.mpr ⟨⟨⟨ga_NoMember, gg_NoMember, xe_NoMember, xh_NoMember, cA_NoMember, clN, clK, no_NoMember⟩, kit_of xc_NoPart xt_NoPart xs_NoMember_NoPart (kit_no xs_NoMember_NoPart xs_NoPart_NoPart)⟩, List.forall_mem_cons.mpr ⟨⟨⟨ga_Twice, gg_Twice, xe_Twice, xh_Twice, cA_Twice, clN, clK, no_Twice⟩, kit_of xc_NoPart xt_NoPart xs_Twice_NoPart (kit_no xs_Twice_NoPart xs_NoPart_NoPart)⟩, List.forall_mem_cons.mpr ⟨⟨⟨ga_OtherSpace, gg_OtherSpace, xe_OtherSpace, xh_OtherSpace, cA_OtherSpace, clN, clK, no_OtherSpace⟩, kit_of xc_NoPart xt_NoPart xs_OtherSpace_NoPart (kit_no xs_OtherSpace_NoPart xs_NoPart_NoPart)⟩, List.forall_mem_cons.mpr ⟨⟨⟨ga_NoTable, gg_NoTable, xe_NoTable, xh_NoTable, cA_NoTable, clN, clK, no_NoTable⟩, kit_of xc_NoPart xt_NoPart xs_NoTable_NoPart (kit_no xs_NoTable_NoPart xs_NoPart_NoPart)⟩, List.forall_mem_cons.mpr ⟨⟨⟨ga_NoRows, gg_NoRows, xe_NoRows, xh_NoRows, cA_NoRows, clN, clK, no_NoRows⟩, kit_of xc_NoPart xt_NoPart xs_NoRows_NoPart (kit_no xs_NoRows_NoPart xs_NoPart_NoPart)⟩, List.forall_mem_cons.mpr ⟨⟨⟨ga_NoLinear, gg_NoLinear, xe_NoLinear, xh_NoLinear, cA_NoLinear, clN, clK, no_NoLinear⟩, kit_of xc_NoPart xt_NoPart xs_NoLinear_NoPart (kit_no xs_NoLinear_NoPart xs_NoPart_NoPart)⟩, List.forall_mem_cons.mpr ⟨⟨⟨ga_NoQuotient, gg_NoQuotient, xe_NoQuotient, xh_NoQuotient, cA_NoQuotient, clN, clK, no_NoQuotient⟩, kit_of xc_NoPart xt_NoPart xs_NoQuotient_NoPart (kit_no xs_NoQuotient_NoPart xs_NoPart_NoPart)⟩, List.forall_mem_cons.mpr ⟨⟨⟨ga_NoPart, gg_NoPart, xe_NoPart, xh_NoPart, cA_NoPart, clN, clK, no_NoPart⟩, kit_same⟩, List.forall_mem_cons.mpr ⟨⟨⟨ga_Full, gg_Full, xe_Full, xh_Full, cA_Full, clN, clK, no_Full⟩, kit_of xc_NoPart xt_NoPart xs_Full_NoPart (kit_no xs_Full_NoPart xs_NoPart_NoPart)⟩, List.forall_mem_cons.mpr ⟨⟨⟨ga_NoSuch, gg_NoSuch, xe_NoSuch, xh_NoSuch, cA_NoSuch, clN, clK, no_NoSuch⟩, kit_of xc_NoPart xt_NoPart xs_NoSuch_NoPart (kit_no xs_NoSuch_NoPart xs_NoPart_NoPart)⟩, List.forall_mem_cons.mpr ⟨⟨⟨ga_NoValues, gg_NoValues, xe_NoValues, xh_NoValues, cA_NoValues, clN, clK, no_NoValues⟩, kit_of xc_NoPart xt_NoPart xs_NoValues_NoPart (kit_no xs_NoValues_NoPart xs_NoPart_NoPart)⟩, List.forall_mem_cons.mpr ⟨⟨⟨ga_PartError, gg_PartError, xe_PartError, xh_PartError, cA_PartError, clN, clK, no_PartError⟩, kit_of xc_NoPart xt_NoPart xs_PartError_NoPart (kit_no xs_PartError_NoPart xs_NoPart_NoPart)⟩, (fun _ h => nomatch h)⟩⟩⟩⟩⟩⟩⟩⟩⟩⟩⟩⟩⟩⟩⟩⟩⟩
  have V23 : mg "NoQuotient" = some (.ref (CT cNoQuotient)) := PySem.W.mg_of X G a_NoQuotient
  have V24 : IsxT K CT (.ref (CT cNoQuotient)) ([(cNoName, false), (cNoRatio, false), (cNoSpace, false), (cNoCell, false), (cNoAxis, false), (cNoMember, false), (cTwice, false), (cOtherSpace, false), (cNoTable, false), (cNoRows, false), (cNoLinear, false), (cNoQuotient, true), (cNoPart, false), (cFull, false), (cNoSuch, false), (cNoValues, false), (cPartError, false)] : List (Nat × Bool)) := List.forall_mem_cons.mpr ⟨⟨⟨ga_NoName, gg_NoName, xe_NoName, xh_NoName, cA_NoName, clN, clK, no_NoName⟩, kit_of xc_NoQuotient xt_NoQuotient xs_NoName_NoQuotient (kit_no xs_NoName_NoQuotient xs_NoQuotient_NoQuotient)⟩, List.forall_mem_cons.mpr ⟨⟨⟨ga_NoRatio, gg_NoRatio, xe_NoRatio, xh_NoRatio, cA_NoRatio, clN, clK, no_NoRatio⟩, kit_of xc_NoQuotient xt_NoQuotient xs_NoRatio_NoQuotient (kit_no xs_NoRatio_NoQuotient xs_NoQuotient_NoQuotient)⟩, List.forall_mem_cons.mpr ⟨⟨⟨ga_NoSpace, gg_NoSpace, xe_NoSpace, xh_NoSpace, cA_NoSpace, clN, clK, no_NoSpace⟩, kit_of xc_NoQuotient xt_NoQuotient xs_NoSpace_NoQuotient (kit_no xs_NoSpace_NoQuotient xs_NoQuotient_NoQuotient)⟩, List.forall_mem_cons.mpr ⟨⟨⟨ga_NoCell, gg_NoCell, xe_NoCell, xh_NoCell, cA_NoCell, clN, clK, no_NoCell⟩, kit_of xc_NoQuotient xt_NoQuotient xs_NoCell_NoQuotient (kit_no xs_NoCell_NoQuotient xs_NoQuotient_NoQuotient)⟩, List.forall_mem_cons.mpr ⟨⟨⟨ga_NoAxis, gg_NoAxis, xe_NoAxis, xh_NoAxis, cA_NoAxis, clN, clK, no_NoAxis⟩, kit_of xc_NoQuotient xt_NoQuotient xs_NoAxis_NoQuotient (kit_no xs_NoAxis_NoQuotient xs_NoQuotient_NoQuotient)⟩, List.forall_mem_cons.mpr ⟨⟨⟨ga_NoMember, gg_NoMember, xe_NoMember, xh_NoMember, cA_NoMember, clN, clK, no_NoMember⟩, kit_of xc_NoQuotient xt_NoQuotient xs_NoMember_NoQuotient (kit_no xs_NoMember_NoQuotient xs_NoQuotient_NoQuotient)⟩, List.forall_mem_cons.mpr ⟨⟨⟨ga_Twice, gg_Twice, xe_Twice, xh_Twice, cA_Twice, clN, clK, no_Twice⟩, kit_of xc_NoQuotient xt_NoQuotient xs_Twice_NoQuotient (kit_no xs_Twice_NoQuotient xs_NoQuotient_NoQuotient)⟩, List.forall_mem_cons.mpr ⟨⟨⟨ga_OtherSpace, gg_OtherSpace, xe_OtherSpace, xh_OtherSpace, cA_OtherSpace, clN, clK, no_OtherSpace⟩, kit_of xc_NoQuotient xt_NoQuotient xs_OtherSpace_NoQuotient (kit_no xs_OtherSpace_NoQuotient xs_NoQuotient_NoQuotient)⟩, List.forall_mem_cons.mpr ⟨⟨⟨ga_NoTable, gg_NoTable, xe_NoTable, xh_NoTable, cA_NoTable, clN, clK, no_NoTable⟩, kit_of xc_NoQuotient xt_NoQuotient xs_NoTable_NoQuotient (kit_no xs_NoTable_NoQuotient xs_NoQuotient_NoQuotient)⟩, List.forall_mem_cons.mpr ⟨⟨⟨ga_NoRows, gg_NoRows, xe_NoRows, xh_NoRows, cA_NoRows, clN, clK, no_NoRows⟩, kit_of xc_NoQuotient xt_NoQuotient xs_NoRows_NoQuotient (kit_no xs_NoRows_NoQuotient xs_NoQuotient_NoQuotient)⟩, List.forall_mem_cons.mpr ⟨⟨⟨ga_NoLinear, gg_NoLinear, xe_NoLinear, xh_NoLinear, cA_NoLinear, clN, clK, no_NoLinear⟩, kit_of xc_NoQuotient xt_NoQuotient xs_NoLinear_NoQuotient (kit_no xs_NoLinear_NoQuotient xs_NoQuotient_NoQuotient)⟩, List.forall_mem_cons.mpr ⟨⟨⟨ga_NoQuotient, gg_NoQuotient, xe_NoQuotient, xh_NoQuotient, cA_NoQuotient, clN, clK, no_NoQuotient⟩, kit_same⟩, List.forall_mem_cons.mpr ⟨⟨⟨ga_NoPart, gg_NoPart, xe_NoPart, xh_NoPart, cA_NoPart, clN, clK, no_NoPart⟩, kit_of xc_NoQuotient xt_NoQuotient xs_NoPart_NoQuotient (kit_no xs_NoPart_NoQuotient xs_NoQuotient_NoQuotient)⟩, List.forall_mem_cons.mpr ⟨⟨⟨ga_Full, gg_Full, xe_Full, xh_Full, cA_Full, clN, clK, no_Full⟩, kit_of xc_NoQuotient xt_NoQuotient xs_Full_NoQuotient (kit_no xs_Full_NoQuotient xs_NoQuotient_NoQuotient)⟩, List.forall_mem_cons.mpr ⟨⟨⟨ga_NoSuch, gg_NoSuch, xe_NoSuch, xh_NoSuch, cA_NoSuch, clN, clK, no_NoSuch⟩, kit_of xc_NoQuotient xt_NoQuotient xs_NoSuch_NoQuotient (kit_no xs_NoSuch_NoQuotient xs_NoQuotient_NoQuotient)⟩, List.forall_mem_cons.mpr ⟨⟨⟨ga_NoValues, gg_NoValues, xe_NoValues, xh_NoValues, cA_NoValues, clN, clK, no_NoValues⟩, kit_of xc_NoQuotient xt_NoQuotient xs_NoValues_NoQuotient (kit_no xs_NoValues_NoQuotient xs_NoQuotient_NoQuotient)⟩, List.forall_mem_cons.mpr ⟨⟨⟨ga_PartError, gg_PartError, xe_PartError, xh_PartError, cA_PartError, clN, clK, no_PartError⟩, kit_of xc_NoQuotient xt_NoQuotient xs_PartError_NoQuotient (kit_no xs_PartError_NoQuotient xs_NoQuotient_NoQuotient)⟩, (fun _ h => nomatch h)⟩⟩⟩⟩⟩⟩⟩⟩⟩⟩⟩⟩⟩⟩⟩⟩⟩
  have V25 : mg "NoLinear" = some (.ref (CT cNoLinear)) := PySem.W.mg_of X G a_NoLinear
  have V26 : IsxT K CT (.ref (CT cNoLinear)) ([(cNoName, false), (cNoRatio, false), (cNoSpace, false), (cNoCell, false), (cNoAxis, false), (cNoMember, false), (cTwice, false), (cOtherSpace, false), (cNoTable, false), (cNoRows, false), (cNoLinear, true), (cNoQuotient, false), (cNoPart, false), (cFull, false), (cNoSuch, false), (cNoValues, false), (cPartError, false)] : List (Nat × Bool)) := List.forall_mem_cons.mpr ⟨⟨⟨ga_NoName, gg_NoName, xe_NoName, xh_NoName, cA_NoName, clN, clK, no_NoName⟩, kit_of xc_NoLinear xt_NoLinear xs_NoName_NoLinear (kit_no xs_NoName_NoLinear xs_NoLinear_NoLinear)⟩, List.forall_mem_cons.mpr ⟨⟨⟨ga_NoRatio, gg_NoRatio, xe_NoRatio, xh_NoRatio, cA_NoRatio, clN, clK, no_NoRatio⟩, kit_of xc_NoLinear xt_NoLinear xs_NoRatio_NoLinear (kit_no xs_NoRatio_NoLinear xs_NoLinear_NoLinear)⟩, List.forall_mem_cons.mpr ⟨⟨⟨ga_NoSpace, gg_NoSpace, xe_NoSpace, xh_NoSpace, cA_NoSpace, clN, clK, no_NoSpace⟩, kit_of xc_NoLinear xt_NoLinear xs_NoSpace_NoLinear (kit_no xs_NoSpace_NoLinear xs_NoLinear_NoLinear)⟩, List.forall_mem_cons.mpr ⟨⟨⟨ga_NoCell, gg_NoCell, xe_NoCell, xh_NoCell, cA_NoCell, clN, clK, no_NoCell⟩, kit_of xc_NoLinear xt_NoLinear xs_NoCell_NoLinear (kit_no xs_NoCell_NoLinear xs_NoLinear_NoLinear)⟩, List.forall_mem_cons.mpr ⟨⟨⟨ga_NoAxis, gg_NoAxis, xe_NoAxis, xh_NoAxis, cA_NoAxis, clN, clK, no_NoAxis⟩, kit_of xc_NoLinear xt_NoLinear xs_NoAxis_NoLinear (kit_no xs_NoAxis_NoLinear xs_NoLinear_NoLinear)⟩, List.forall_mem_cons.mpr ⟨⟨⟨ga_NoMember, gg_NoMember, xe_NoMember, xh_NoMember, cA_NoMember, clN, clK, no_NoMember⟩, kit_of xc_NoLinear xt_NoLinear xs_NoMember_NoLinear (kit_no xs_NoMember_NoLinear xs_NoLinear_NoLinear)⟩, List.forall_mem_cons.mpr ⟨⟨⟨ga_Twice, gg_Twice, xe_Twice, xh_Twice, cA_Twice, clN, clK, no_Twice⟩, kit_of xc_NoLinear xt_NoLinear xs_Twice_NoLinear (kit_no xs_Twice_NoLinear xs_NoLinear_NoLinear)⟩, List.forall_mem_cons.mpr ⟨⟨⟨ga_OtherSpace, gg_OtherSpace, xe_OtherSpace, xh_OtherSpace, cA_OtherSpace, clN, clK, no_OtherSpace⟩, kit_of xc_NoLinear xt_NoLinear xs_OtherSpace_NoLinear (kit_no xs_OtherSpace_NoLinear xs_NoLinear_NoLinear)⟩, List.forall_mem_cons.mpr ⟨⟨⟨ga_NoTable, gg_NoTable, xe_NoTable, xh_NoTable, cA_NoTable, clN, clK, no_NoTable⟩, kit_of xc_NoLinear xt_NoLinear xs_NoTable_NoLinear (kit_no xs_NoTable_NoLinear xs_NoLinear_NoLinear)⟩, List.forall_mem_cons.mpr ⟨⟨⟨ga_NoRows, gg_NoRows, xe_NoRows, xh_NoRows, cA_NoRows, clN, clK, no_NoRows⟩, kit_of xc_NoLinear xt_NoLinear xs_NoRows_NoLinear (kit_no xs_NoRows_NoLinear xs_NoLinear_NoLinear)⟩, List.forall_mem_cons.mpr ⟨⟨⟨ga_NoLinear, gg_NoLinear, xe_NoLinear, xh_NoLinear, cA_NoLinear, clN, clK, no_NoLinear⟩, kit_same⟩, List.forall_mem_cons.mpr ⟨⟨⟨ga_NoQuotient, gg_NoQuotient, xe_NoQuotient, xh_NoQuotient, cA_NoQuotient, clN, clK, no_NoQuotient⟩, kit_of xc_NoLinear xt_NoLinear xs_NoQuotient_NoLinear (kit_no xs_NoQuotient_NoLinear xs_NoLinear_NoLinear)⟩, List.forall_mem_cons.mpr ⟨⟨⟨ga_NoPart, gg_NoPart, xe_NoPart, xh_NoPart, cA_NoPart, clN, clK, no_NoPart⟩, kit_of xc_NoLinear xt_NoLinear xs_NoPart_NoLinear (kit_no xs_NoPart_NoLinear xs_NoLinear_NoLinear)⟩, List.forall_mem_cons.mpr ⟨⟨⟨ga_Full, gg_Full, xe_Full, xh_Full, cA_Full, clN, clK, no_Full⟩, kit_of xc_NoLinear xt_NoLinear xs_Full_NoLinear (kit_no xs_Full_NoLinear xs_NoLinear_NoLinear)⟩, List.forall_mem_cons.mpr ⟨⟨⟨ga_NoSuch, gg_NoSuch, xe_NoSuch, xh_NoSuch, cA_NoSuch, clN, clK, no_NoSuch⟩, kit_of xc_NoLinear xt_NoLinear xs_NoSuch_NoLinear (kit_no xs_NoSuch_NoLinear xs_NoLinear_NoLinear)⟩, List.forall_mem_cons.mpr ⟨⟨⟨ga_NoValues, gg_NoValues, xe_NoValues, xh_NoValues, cA_NoValues, clN, clK, no_NoValues⟩, kit_of xc_NoLinear xt_NoLinear xs_NoValues_NoLinear (kit_no xs_NoValues_NoLinear xs_NoLinear_NoLinear)⟩, List.forall_mem_cons.mpr ⟨⟨⟨ga_PartError, gg_PartError, xe_PartError, xh_PartError, cA_PartError, clN, clK, no_PartError⟩, kit_of xc_NoLinear xt_NoLinear xs_PartError_NoLinear (kit_no xs_PartError_NoLinear xs_NoLinear_NoLinear)⟩, (fun _ h => nomatch h)⟩⟩⟩⟩⟩⟩⟩⟩⟩⟩⟩⟩⟩⟩⟩⟩⟩
  have V27 : mg "NoValues" = some (.ref (CT cNoValues)) := PySem.W.mg_of X G a_NoValues
  have V28 : IsxT K CT (.ref (CT cNoValues)) ([(cNoName, false), (cNoRatio, false), (cNoSpace, false), (cNoCell, false), (cNoAxis, false), (cNoMember, false), (cTwice, false), (cOtherSpace, false), (cNoTable, false), (cNoRows, false), (cNoLinear, false), (cNoQuotient, false), (cNoPart, false), (cFull, false), (cNoSuch, false), (cNoValues, true), (cPartError, false)] : List (Nat × Bool)) := List.forall_mem_cons.mpr ⟨⟨⟨ga_NoName, gg_NoName, xe_NoName, xh_NoName, cA_NoName, clN, clK, no_NoName⟩, kit_of xc_NoValues xt_NoValues xs_NoName_NoValues (kit_no xs_NoName_NoValues xs_NoValues_NoValues)⟩, List.forall_mem_cons.mpr ⟨⟨⟨ga_NoRatio, gg_NoRatio, xe_NoRatio, xh_NoRatio, cA_NoRatio, clN, clK, no_NoRatio⟩, kit_of xc_NoValues xt_NoValues xs_NoRatio_NoValues (kit_no xs_NoRatio_NoValues xs_NoValues_NoValues)⟩, List.forall_mem_cons.mpr ⟨⟨⟨ga_NoSpace, gg_NoSpace, xe_NoSpace, xh_NoSpace, cA_NoSpace, clN, clK, no_NoSpace⟩, kit_of xc_NoValues xt_NoValues xs_NoSpace_NoValues (kit_no xs_NoSpace_NoValues xs_NoValues_NoValues)⟩, List.forall_mem_cons.mpr ⟨⟨⟨ga_NoCell, gg_NoCell, xe_NoCell, xh_NoCell, cA_NoCell, clN, clK, no_NoCell⟩, kit_of xc_NoValues xt_NoValues xs_NoCell_NoValues (kit_no xs_NoCell_NoValues xs_NoValues_NoValues)⟩, List.forall_mem_cons.mpr ⟨⟨⟨ga_NoAxis, gg_NoAxis, xe_NoAxis, xh_NoAxis, cA_NoAxis, clN, clK, no_NoAxis⟩, kit_of xc_NoValues xt_NoValues xs_NoAxis_NoValues (kit_no xs_NoAxis_NoValues xs_NoValues_NoValues)⟩, List.forall_mem_cons.mpr ⟨⟨⟨ga_NoMember, gg_NoMember, xe_NoMember, xh_NoMember, cA_NoMember, clN, clK, no_NoMember⟩, kit_of xc_NoValues xt_NoValues xs_NoMember_NoValues (kit_no xs_NoMember_NoValues xs_NoValues_NoValues)⟩, List.forall_mem_cons.mpr ⟨⟨⟨ga_Twice, gg_Twice, xe_Twice, xh_Twice, cA_Twice, clN, clK, no_Twice⟩, kit_of xc_NoValues xt_NoValues xs_Twice_NoValues (kit_no xs_Twice_NoValues xs_NoValues_NoValues)⟩, List.forall_mem_cons.mpr ⟨⟨⟨ga_OtherSpace, gg_OtherSpace, xe_OtherSpace, xh_OtherSpace, cA_OtherSpace, clN, clK, no_OtherSpace⟩, kit_of xc_NoValues xt_NoValues xs_OtherSpace_NoValues (kit_no xs_OtherSpace_NoValues xs_NoValues_NoValues)⟩, List.forall_mem_cons.mpr ⟨⟨⟨ga_NoTable, gg_NoTable, xe_NoTable, xh_NoTable, cA_NoTable, clN, clK, no_NoTable⟩, kit_of xc_NoValues xt_NoValues xs_NoTable_NoValues (kit_no xs_NoTable_NoValues xs_NoValues_NoValues)⟩, List.forall_mem_cons.mpr ⟨⟨⟨ga_NoRows, gg_NoRows, xe_NoRows, xh_NoRows, cA_NoRows, clN, clK, no_NoRows⟩, kit_of xc_NoValues xt_NoValues xs_NoRows_NoValues (kit_no xs_NoRows_NoValues xs_NoValues_NoValues)⟩, List.forall_mem_cons.mpr ⟨⟨⟨ga_NoLinear, gg_NoLinear, xe_NoLinear, xh_NoLinear, cA_NoLinear, clN, clK, no_NoLinear⟩, kit_of xc_NoValues xt_NoValues xs_NoLinear_NoValues (kit_no xs_NoLinear_NoValues xs_NoValues_NoValues)⟩, List.forall_mem_cons.mpr ⟨⟨⟨ga_NoQuotient, gg_NoQuotient, xe_NoQuotient, xh_NoQuotient, cA_NoQuotient, clN, clK, no_NoQuotient⟩, kit_of xc_NoValues xt_NoValues xs_NoQuotient_NoValues (kit_no xs_NoQuotient_NoValues xs_NoValues_NoValues)⟩, List.forall_mem_cons.mpr ⟨⟨⟨ga_NoPart, gg_NoPart, xe_NoPart, xh_NoPart, cA_NoPart, clN, clK, no_NoPart⟩, kit_of xc_NoValues xt_NoValues xs_NoPart_NoValues (kit_no xs_NoPart_NoValues xs_NoValues_NoValues)⟩, List.forall_mem_cons.mpr ⟨⟨⟨ga_Full, gg_Full, xe_Full, xh_Full, cA_Full, clN, clK, no_Full⟩, kit_of xc_NoValues xt_NoValues xs_Full_NoValues (kit_no xs_Full_NoValues xs_NoValues_NoValues)⟩, List.forall_mem_cons.mpr ⟨⟨⟨ga_NoSuch, gg_NoSuch, xe_NoSuch, xh_NoSuch, cA_NoSuch, clN, clK, no_NoSuch⟩, kit_of xc_NoValues xt_NoValues xs_NoSuch_NoValues (kit_no xs_NoSuch_NoValues xs_NoValues_NoValues)⟩, List.forall_mem_cons.mpr ⟨⟨⟨ga_NoValues, gg_NoValues, xe_NoValues, xh_NoValues, cA_NoValues, clN, clK, no_NoValues⟩, kit_same⟩, List.forall_mem_cons.mpr ⟨⟨⟨ga_PartError, gg_PartError, xe_PartError, xh_PartError, cA_PartError, clN, clK, no_PartError⟩, kit_of xc_NoValues xt_NoValues xs_PartError_NoValues (kit_no xs_PartError_NoValues xs_NoValues_NoValues)⟩, (fun _ h => nomatch h)⟩⟩⟩⟩⟩⟩⟩⟩⟩⟩⟩⟩⟩⟩⟩⟩⟩
  have V29 : mg "NoSuch" = some (.ref (CT cNoSuch)) := PySem.W.mg_of X G a_NoSuch
  have V30 : IsxT K CT (.ref (CT cNoSuch)) ([(cNoName, false), (cNoRatio, false), (cNoSpace, false), (cNoCell, false), (cNoAxis, false), (cNoMember, false), (cTwice, false), (cOtherSpace, false), (cNoTable, false), (cNoRows, false), (cNoLinear, false), (cNoQuotient, false), (cNoPart, false), (cFull, false), (cNoSuch, true), (cNoValues, false), (cPartError, false)] : List (Nat × Bool)) := List.forall_mem_cons.mpr ⟨⟨⟨ga_NoName, gg_NoName, xe_NoName, xh_NoName, cA_NoName, clN, clK, no_NoName⟩, kit_of xc_NoSuch xt_NoSuch xs_NoName_NoSuch (kit_no xs_NoName_NoSuch xs_NoSuch_NoSuch)⟩, List.forall_mem_cons.mpr ⟨⟨⟨ga_NoRatio, gg_NoRatio, xe_NoRatio, xh_NoRatio, cA_NoRatio, clN, clK, no_NoRatio⟩, kit_of xc_NoSuch xt_NoSuch xs_NoRatio_NoSuch (kit_no xs_NoRatio_NoSuch xs_NoSuch_NoSuch)⟩, List.forall_mem_cons.mpr ⟨⟨⟨ga_NoSpace, gg_NoSpace, xe_NoSpace, xh_NoSpace, cA_NoSpace, clN, clK, no_NoSpace⟩, kit_of xc_NoSuch xt_NoSuch xs_NoSpace_NoSuch (kit_no xs_NoSpace_NoSuch xs_NoSuch_NoSuch)⟩, List.forall_mem_cons.mpr ⟨⟨⟨ga_NoCell, gg_NoCell, xe_NoCell, xh_NoCell, cA_NoCell, clN, clK, no_NoCell⟩, kit_of xc_NoSuch xt_NoSuch xs_NoCell_NoSuch (kit_no xs_NoCell_NoSuch xs_NoSuch_NoSuch)⟩, List.forall_mem_cons.mpr ⟨⟨⟨ga_NoAxis, gg_NoAxis, xe_NoAxis, xh_NoAxis, cA_NoAxis, clN, clK, no_NoAxis⟩, kit_of xc_NoSuch xt_NoSuch xs_NoAxis_NoSuch (kit_no xs_NoAxis_NoSuch xs_NoSuch_NoSuch)⟩, List.forall_mem_cons.mpr ⟨⟨⟨ga_NoMember, gg_NoMember, xe_NoMember, xh_NoMember, cA_NoMember, clN, clK, no_NoMember⟩, kit_of xc_NoSuch xt_NoSuch xs_NoMember_NoSuch (kit_no xs_NoMember_NoSuch xs_NoSuch_NoSuch)⟩, List.forall_mem_cons.mpr ⟨⟨⟨ga_Twice, gg_Twice, xe_Twice, xh_Twice, cA_Twice, clN, clK, no_Twice⟩, kit_of xc_NoSuch xt_NoSuch xs_Twice_NoSuch (kit_no xs_Twice_NoSuch xs_NoSuch_NoSuch)⟩, List.forall_mem_cons.mpr ⟨⟨⟨ga_OtherSpace, gg_OtherSpace, xe_OtherSpace, xh_OtherSpace, cA_OtherSpace, clN, clK, no_OtherSpace⟩, kit_of xc_NoSuch xt_NoSuch xs_OtherSpace_NoSuch (kit_no xs_OtherSpace_NoSuch xs_NoSuch_NoSuch)⟩, List.forall_mem_cons.mpr ⟨⟨⟨ga_NoTable, gg_NoTable, xe_NoTable, xh_NoTable, cA_NoTable, clN, clK, no_NoTable⟩, kit_of xc_NoSuch xt_NoSuch xs_NoTable_NoSuch (kit_no xs_NoTable_NoSuch xs_NoSuch_NoSuch)⟩, List.forall_mem_cons.mpr ⟨⟨⟨ga_NoRows, gg_NoRows, xe_NoRows, xh_NoRows, cA_NoRows, clN, clK, no_NoRows⟩, kit_of xc_NoSuch xt_NoSuch xs_NoRows_NoSuch (kit_no xs_NoRows_NoSuch xs_NoSuch_NoSuch)⟩, List.forall_mem_cons.mpr ⟨⟨⟨ga_NoLinear, gg_NoLinear, xe_NoLinear, xh_NoLinear, cA_NoLinear, clN, clK, no_NoLinear⟩, kit_of xc_NoSuch xt_NoSuch xs_NoLinear_NoSuch (kit_no xs_NoLinear_NoSuch xs_NoSuch_NoSuch)⟩, List.forall_mem_cons.mpr ⟨⟨⟨ga_NoQuotient, gg_NoQuotient, xe_NoQuotient, xh_NoQuotient, cA_NoQuotient, clN, clK, no_NoQuotient⟩, kit_of xc_NoSuch xt_NoSuch xs_NoQuotient_NoSuch (kit_no xs_NoQuotient_NoSuch xs_NoSuch_NoSuch)⟩, List.forall_mem_cons.mpr ⟨⟨⟨ga_NoPart, gg_NoPart, xe_NoPart, xh_NoPart, cA_NoPart, clN, clK, no_NoPart⟩, kit_of xc_NoSuch xt_NoSuch xs_NoPart_NoSuch (kit_no xs_NoPart_NoSuch xs_NoSuch_NoSuch)⟩, List.forall_mem_cons.mpr ⟨⟨⟨ga_Full, gg_Full, xe_Full, xh_Full, cA_Full, clN, clK, no_Full⟩, kit_of xc_NoSuch xt_NoSuch xs_Full_NoSuch (kit_no xs_Full_NoSuch xs_NoSuch_NoSuch)⟩, List.forall_mem_cons.mpr ⟨⟨⟨ga_NoSuch, gg_NoSuch, xe_NoSuch, xh_NoSuch, cA_NoSuch, clN, clK, no_NoSuch⟩, kit_same⟩, List.forall_mem_cons.mpr ⟨⟨⟨ga_NoValues, gg_NoValues, xe_NoValues, xh_NoValues, cA_NoValues, clN, clK, no_NoValues⟩, kit_of xc_NoSuch xt_NoSuch xs_NoValues_NoSuch (kit_no xs_NoValues_NoSuch xs_NoSuch_NoSuch)⟩, List.forall_mem_cons.mpr ⟨⟨⟨ga_PartError, gg_PartError, xe_PartError, xh_PartError, cA_PartError, clN, clK, no_PartError⟩, kit_of xc_NoSuch xt_NoSuch xs_PartError_NoSuch (kit_no xs_PartError_NoSuch xs_NoSuch_NoSuch)⟩, (fun _ h => nomatch h)⟩⟩⟩⟩⟩⟩⟩⟩⟩⟩⟩⟩⟩⟩⟩⟩⟩
  have V31 : mg "Full" = some (.ref (CT cFull)) := PySem.W.mg_of X G a_Full
  have V32 : IsxT K CT (.ref (CT cFull)) ([(cNoName, false), (cNoRatio, false), (cNoSpace, false), (cNoCell, false), (cNoAxis, false), (cNoMember, false), (cTwice, false), (cOtherSpace, false), (cNoTable, false), (cNoRows, false), (cNoLinear, false), (cNoQuotient, false), (cNoPart, false), (cFull, true), (cNoSuch, false), (cNoValues, false), (cPartError, false)] : List (Nat × Bool)) := List.forall_mem_cons.mpr ⟨⟨⟨ga_NoName, gg_NoName, xe_NoName, xh_NoName, cA_NoName, clN, clK, no_NoName⟩, kit_of xc_Full xt_Full xs_NoName_Full (kit_no xs_NoName_Full xs_Full_Full)⟩, List.forall_mem_cons.mpr ⟨⟨⟨ga_NoRatio, gg_NoRatio, xe_NoRatio, xh_NoRatio, cA_NoRatio, clN, clK, no_NoRatio⟩, kit_of xc_Full xt_Full xs_NoRatio_Full (kit_no xs_NoRatio_Full xs_Full_Full)⟩, List.forall_mem_cons.mpr ⟨⟨⟨ga_NoSpace, gg_NoSpace, xe_NoSpace, xh_NoSpace, cA_NoSpace, clN, clK, no_NoSpace⟩, kit_of xc_Full xt_Full xs_NoSpace_Full (kit_no xs_NoSpace_Full xs_Full_Full)⟩, List.forall_mem_cons.mpr ⟨⟨⟨ga_NoCell, gg_NoCell, xe_NoCell, xh_NoCell, cA_NoCell, clN, clK, no_NoCell⟩, kit_of xc_Full xt_Full xs_NoCell_Full (kit_no xs_NoCell_Full xs_Full_Full)⟩, List.forall_mem_cons.mpr ⟨⟨⟨ga_NoAxis, gg_NoAxis, xe_NoAxis, xh_NoAxis, cA_NoAxis, clN, clK, no_NoAxis⟩, kit_of xc_Full xt_Full xs_NoAxis_Full (kit_no xs_NoAxis_Full xs_Full_Full)⟩, List.forall_mem_cons.mpr ⟨⟨⟨ga_NoMember, gg_NoMember, xe_NoMember, xh_NoMember, cA_NoMember, clN, clK, no_NoMember⟩, kit_of xc_Full xt_Full xs_NoMember_Full (kit_no xs_NoMember_Full xs_Full_Full)⟩, List.forall_mem_cons.mpr ⟨⟨⟨ga_Twice, gg_Twice, xe_Twice, xh_Twice, cA_Twice, clN, clK, no_Twice⟩, kit_of xc_Full xt_Full xs_Twice_Full (kit_no xs_Twice_Full xs_Full_Full)⟩, List.forall_mem_cons.mpr ⟨⟨⟨ga_OtherSpace, gg_OtherSpace, xe_OtherSpace, xh_OtherSpace, cA_OtherSpace, clN, clK, no_OtherSpace⟩, kit_of xc_Full xt_Full xs_OtherSpace_Full (kit_no xs_OtherSpace_Full xs_Full_Full)⟩, List.forall_mem_cons.mpr ⟨⟨⟨ga_NoTable, gg_NoTable, xe_NoTable, xh_NoTable, cA_NoTable, clN, clK, no_NoTable⟩, kit_of xc_Full xt_Full xs_NoTable_Full (kit_no xs_NoTable_Full xs_Full_Full)⟩, List.forall_mem_cons.mpr ⟨⟨⟨ga_NoRows, gg_NoRows, xe_NoRows, xh_NoRows, cA_NoRows, clN, clK, no_NoRows⟩, kit_of xc_Full xt_Full xs_NoRows_Full (kit_no xs_NoRows_Full xs_Full_Full)⟩, List.forall_mem_cons.mpr ⟨⟨⟨ga_NoLinear, gg_NoLinear, xe_NoLinear, xh_NoLinear, cA_NoLinear, clN, clK, no_NoLinear⟩, kit_of xc_Full xt_Full xs_NoLinear_Full (kit_no xs_NoLinear_Full xs_Full_Full)⟩, List.forall_mem_cons.mpr ⟨⟨⟨ga_NoQuotient, gg_NoQuotient, xe_NoQuotient, xh_NoQuotient, cA_NoQuotient, clN, clK, no_NoQuotient⟩, kit_of xc_Full xt_Full xs_NoQuotient_Full (kit_no xs_NoQuotient_Full xs_Full_Full)⟩, List.forall_mem_cons.mpr ⟨⟨⟨ga_NoPart, gg_NoPart, xe_NoPart, xh_NoPart, cA_NoPart, clN, clK, no_NoPart⟩, kit_of xc_Full xt_Full xs_NoPart_Full (kit_no xs_NoPart_Full xs_Full_Full)⟩, List.forall_mem_cons.mpr ⟨⟨⟨ga_Full, gg_Full, xe_Full, xh_Full, cA_Full, clN, clK, no_Full⟩, kit_same⟩, List.forall_mem_cons.mpr ⟨⟨⟨ga_NoSuch, gg_NoSuch, xe_NoSuch, xh_NoSuch, cA_NoSuch, clN, clK, no_NoSuch⟩, kit_of xc_Full xt_Full xs_NoSuch_Full (kit_no xs_NoSuch_Full xs_Full_Full)⟩, List.forall_mem_cons.mpr ⟨⟨⟨ga_NoValues, gg_NoValues, xe_NoValues, xh_NoValues, cA_NoValues, clN, clK, no_NoValues⟩, kit_of xc_Full xt_Full xs_NoValues_Full (kit_no xs_NoValues_Full xs_Full_Full)⟩, List.forall_mem_cons.mpr ⟨⟨⟨ga_PartError, gg_PartError, xe_PartError, xh_PartError, cA_PartError, clN, clK, no_PartError⟩, kit_of xc_Full xt_Full xs_PartError_Full (kit_no xs_PartError_Full xs_Full_Full)⟩, (fun _ h => nomatch h)⟩⟩⟩⟩⟩⟩⟩⟩⟩⟩⟩⟩⟩⟩⟩⟩⟩
  have G__law_kinds := ok__law_kinds (P := l.prog) (w := w) (mg := mg) (base := base) (CT := CT) (lay := lay) (Fn := Fun.g F__law_kinds) (z_isinstance := V0) (c_NoCell := V1) (ix_NoCell := V2) (c_NoSpace := V3) (ix_NoSpace := V4) (c_NoRatio := V5) (ix_NoRatio := V6) (c_NoName := V7) (ix_NoName := V8) (c_Twice := V9) (ix_Twice := V10) (c_NoMember := V11) (ix_NoMember := V12) (c_NoAxis := V13) (ix_NoAxis := V14) (c_NoRows := V15) (ix_NoRows := V16) (c_NoTable := V17) (ix_NoTable := V18) (c_OtherSpace := V19) (ix_OtherSpace := V20) (c_NoPart := V21) (ix_NoPart := V22) (c_NoQuotient := V23) (ix_NoQuotient := V24) (c_NoLinear := V25) (ix_NoLinear := V26) (c_NoValues := V27) (ix_NoValues := V28) (c_NoSuch := V29) (ix_NoSuch := V30) (c_Full := V31) (ix_Full := V32)
  have V33 : mg "range" = none := Z_range
  have V34 : mg "len" = none := Z_len
  have V35 : FnAt l.prog w K mg base CT lay 1 "_law_kinds" ["_law_e"] S__law_kinds := ⟨_, _, G__law_kinds, m__law_kinds, k__law_kinds, b__law_kinds⟩
  have G__law_alone := ok__law_alone (P := l.prog) (w := w) (mg := mg) (base := base) (CT := CT) (lay := lay) (Fn := Fun.g F__law_alone) (z_range := V33) (z_len := V34) (h__law_kinds := V35)
  have G_Full_told := ok_Full_told (P := l.prog) (w := w) (mg := mg) (base := base) (CT := CT) (lay := lay) (Fn := Fun.g F_Full_told) 
  have G_NoAxis_told := ok_NoAxis_told (P := l.prog) (w := w) (mg := mg) (base := base) (CT := CT) (lay := lay) (Fn := Fun.g F_NoAxis_told) 
  have G_NoCell_told := ok_NoCell_told (P := l.prog) (w := w) (mg := mg) (base := base) (CT := CT) (lay := lay) (Fn := Fun.g F_NoCell_told) 
  have G_NoLinear_told := ok_NoLinear_told (P := l.prog) (w := w) (mg := mg) (base := base) (CT := CT) (lay := lay) (Fn := Fun.g F_NoLinear_told) 
  have G_NoMember_told := ok_NoMember_told (P := l.prog) (w := w) (mg := mg) (base := base) (CT := CT) (lay := lay) (Fn := Fun.g F_NoMember_told) 
  have G_NoName_told := ok_NoName_told (P := l.prog) (w := w) (mg := mg) (base := base) (CT := CT) (lay := lay) (Fn := Fun.g F_NoName_told) 
  have G_NoPart_told := ok_NoPart_told (P := l.prog) (w := w) (mg := mg) (base := base) (CT := CT) (lay := lay) (Fn := Fun.g F_NoPart_told) 
  have G_NoQuotient_told := ok_NoQuotient_told (P := l.prog) (w := w) (mg := mg) (base := base) (CT := CT) (lay := lay) (Fn := Fun.g F_NoQuotient_told) 
  have G_NoRatio_told := ok_NoRatio_told (P := l.prog) (w := w) (mg := mg) (base := base) (CT := CT) (lay := lay) (Fn := Fun.g F_NoRatio_told) 
  have G_NoRows_told := ok_NoRows_told (P := l.prog) (w := w) (mg := mg) (base := base) (CT := CT) (lay := lay) (Fn := Fun.g F_NoRows_told) 
  have G_NoSpace_told := ok_NoSpace_told (P := l.prog) (w := w) (mg := mg) (base := base) (CT := CT) (lay := lay) (Fn := Fun.g F_NoSpace_told) 
  have G_NoSuch_told := ok_NoSuch_told (P := l.prog) (w := w) (mg := mg) (base := base) (CT := CT) (lay := lay) (Fn := Fun.g F_NoSuch_told) 
  have G_NoTable_told := ok_NoTable_told (P := l.prog) (w := w) (mg := mg) (base := base) (CT := CT) (lay := lay) (Fn := Fun.g F_NoTable_told) 
  have G_NoValues_told := ok_NoValues_told (P := l.prog) (w := w) (mg := mg) (base := base) (CT := CT) (lay := lay) (Fn := Fun.g F_NoValues_told) 
  have G_OtherSpace_told := ok_OtherSpace_told (P := l.prog) (w := w) (mg := mg) (base := base) (CT := CT) (lay := lay) (Fn := Fun.g F_OtherSpace_told) 
  have G_PartError_told := ok_PartError_told (P := l.prog) (w := w) (mg := mg) (base := base) (CT := CT) (lay := lay) (Fn := Fun.g F_PartError_told) 
  have G_Twice_told := ok_Twice_told (P := l.prog) (w := w) (mg := mg) (base := base) (CT := CT) (lay := lay) (Fn := Fun.g F_Twice_told) 
  have V36 : mg "PartError" = some (.ref (CT cPartError)) := PySem.W.mg_of X G a_PartError
  have V37 : IsxT K CT (.ref (CT cPartError)) ([(cNoName, true), (cNoRatio, true), (cNoSpace, true), (cNoCell, true), (cNoAxis, true), (cNoMember, true), (cTwice, true), (cOtherSpace, true), (cNoTable, true), (cNoRows, true), (cNoLinear, true), (cNoQuotient, true), (cNoPart, true), (cFull, true), (cNoSuch, true), (cNoValues, true), (cPartError, true)] : List (Nat × Bool)) := List.forall_mem_cons.mpr ⟨⟨⟨ga_NoName, gg_NoName, xe_NoName, xh_NoName, cA_NoName, clN, clK, no_NoName⟩, kit_of xc_PartError xt_PartError xs_NoName_PartError (fun _ => rfl)⟩, List.forall_mem_cons.mpr ⟨⟨⟨ga_NoRatio, gg_NoRatio, xe_NoRatio, xh_NoRatio, cA_NoRatio, clN, clK, no_NoRatio⟩, kit_of xc_PartError xt_PartError xs_NoRatio_PartError (fun _ => rfl)⟩, List.forall_mem_cons.mpr ⟨⟨⟨ga_NoSpace, gg_NoSpace, xe_NoSpace, xh_NoSpace, cA_NoSpace, clN, clK, no_NoSpace⟩, kit_of xc_PartError xt_PartError xs_NoSpace_PartError (fun _ => rfl)⟩, List.forall_mem_cons.mpr ⟨⟨⟨ga_NoCell, gg_NoCell, xe_NoCell, xh_NoCell, cA_NoCell, clN, clK, no_NoCell⟩, kit_of xc_PartError xt_PartError xs_NoCell_PartError (fun _ => rfl)⟩, List.forall_mem_cons.mpr ⟨⟨⟨ga_NoAxis, gg_NoAxis, xe_NoAxis, xh_NoAxis, cA_NoAxis, clN, clK, no_NoAxis⟩, kit_of xc_PartError xt_PartError xs_NoAxis_PartError (fun _ => rfl)⟩, List.forall_mem_cons.mpr ⟨⟨⟨ga_NoMember, gg_NoMember, xe_NoMember, xh_NoMember, cA_NoMember, clN, clK, no_NoMember⟩, kit_of xc_PartError xt_PartError xs_NoMember_PartError (fun _ => rfl)⟩, List.forall_mem_cons.mpr ⟨⟨⟨ga_Twice, gg_Twice, xe_Twice, xh_Twice, cA_Twice, clN, clK, no_Twice⟩, kit_of xc_PartError xt_PartError xs_Twice_PartError (fun _ => rfl)⟩, List.forall_mem_cons.mpr ⟨⟨⟨ga_OtherSpace, gg_OtherSpace, xe_OtherSpace, xh_OtherSpace, cA_OtherSpace, clN, clK, no_OtherSpace⟩, kit_of xc_PartError xt_PartError xs_OtherSpace_PartError (fun _ => rfl)⟩, List.forall_mem_cons.mpr ⟨⟨⟨ga_NoTable, gg_NoTable, xe_NoTable, xh_NoTable, cA_NoTable, clN, clK, no_NoTable⟩, kit_of xc_PartError xt_PartError xs_NoTable_PartError (fun _ => rfl)⟩, List.forall_mem_cons.mpr ⟨⟨⟨ga_NoRows, gg_NoRows, xe_NoRows, xh_NoRows, cA_NoRows, clN, clK, no_NoRows⟩, kit_of xc_PartError xt_PartError xs_NoRows_PartError (fun _ => rfl)⟩, List.forall_mem_cons.mpr ⟨⟨⟨ga_NoLinear, gg_NoLinear, xe_NoLinear, xh_NoLinear, cA_NoLinear, clN, clK, no_NoLinear⟩, kit_of xc_PartError xt_PartError xs_NoLinear_PartError (fun _ => rfl)⟩, List.forall_mem_cons.mpr ⟨⟨⟨ga_NoQuotient, gg_NoQuotient, xe_NoQuotient, xh_NoQuotient, cA_NoQuotient, clN, clK, no_NoQuotient⟩, kit_of xc_PartError xt_PartError xs_NoQuotient_PartError (fun _ => rfl)⟩, List.forall_mem_cons.mpr ⟨⟨⟨ga_NoPart, gg_NoPart, xe_NoPart, xh_NoPart, cA_NoPart, clN, clK, no_NoPart⟩, kit_of xc_PartError xt_PartError xs_NoPart_PartError (fun _ => rfl)⟩, List.forall_mem_cons.mpr ⟨⟨⟨ga_Full, gg_Full, xe_Full, xh_Full, cA_Full, clN, clK, no_Full⟩, kit_of xc_PartError xt_PartError xs_Full_PartError (fun _ => rfl)⟩, List.forall_mem_cons.mpr ⟨⟨⟨ga_NoSuch, gg_NoSuch, xe_NoSuch, xh_NoSuch, cA_NoSuch, clN, clK, no_NoSuch⟩, kit_of xc_PartError xt_PartError xs_NoSuch_PartError (fun _ => rfl)⟩, List.forall_mem_cons.mpr ⟨⟨⟨ga_NoValues, gg_NoValues, xe_NoValues, xh_NoValues, cA_NoValues, clN, clK, no_NoValues⟩, kit_of xc_PartError xt_PartError xs_NoValues_PartError (fun _ => rfl)⟩, List.forall_mem_cons.mpr ⟨⟨⟨ga_PartError, gg_PartError, xe_PartError, xh_PartError, cA_PartError, clN, clK, no_PartError⟩, kit_same⟩, (fun _ h => nomatch h)⟩⟩⟩⟩⟩⟩⟩⟩⟩⟩⟩⟩⟩⟩⟩⟩⟩
  have V38 : mg "ValueError" = none := Z_ValueError
  have V39 : IsxT K CT (.type "ValueError") ([(cNoName, true), (cNoRatio, true), (cNoSpace, true), (cNoCell, true), (cNoAxis, true), (cNoMember, true), (cTwice, true), (cOtherSpace, true), (cNoTable, true), (cNoRows, true), (cNoLinear, true), (cNoQuotient, true), (cNoPart, true), (cFull, true), (cNoSuch, true), (cNoValues, true), (cPartError, true)] : List (Nat × Bool)) := List.forall_mem_cons.mpr ⟨⟨⟨ga_NoName, gg_NoName, xe_NoName, xh_NoName, cA_NoName, clN, clK, no_NoName⟩, kit_bt rfl xb_NoName_ValueError⟩, List.forall_mem_cons.mpr ⟨⟨⟨ga_NoRatio, gg_NoRatio, xe_NoRatio, xh_NoRatio, cA_NoRatio, clN, clK, no_NoRatio⟩, kit_bt rfl xb_NoRatio_ValueError⟩, List.forall_mem_cons.mpr ⟨⟨⟨ga_NoSpace, gg_NoSpace, xe_NoSpace, xh_NoSpace, cA_NoSpace, clN, clK, no_NoSpace⟩, kit_bt rfl xb_NoSpace_ValueError⟩, List.forall_mem_cons.mpr ⟨⟨⟨ga_NoCell, gg_NoCell, xe_NoCell, xh_NoCell, cA_NoCell, clN, clK, no_NoCell⟩, kit_bt rfl xb_NoCell_ValueError⟩, List.forall_mem_cons.mpr ⟨⟨⟨ga_NoAxis, gg_NoAxis, xe_NoAxis, xh_NoAxis, cA_NoAxis, clN, clK, no_NoAxis⟩, kit_bt rfl xb_NoAxis_ValueError⟩, List.forall_mem_cons.mpr ⟨⟨⟨ga_NoMember, gg_NoMember, xe_NoMember, xh_NoMember, cA_NoMember, clN, clK, no_NoMember⟩, kit_bt rfl xb_NoMember_ValueError⟩, List.forall_mem_cons.mpr ⟨⟨⟨ga_Twice, gg_Twice, xe_Twice, xh_Twice, cA_Twice, clN, clK, no_Twice⟩, kit_bt rfl xb_Twice_ValueError⟩, List.forall_mem_cons.mpr ⟨⟨⟨ga_OtherSpace, gg_OtherSpace, xe_OtherSpace, xh_OtherSpace, cA_OtherSpace, clN, clK, no_OtherSpace⟩, kit_bt rfl xb_OtherSpace_ValueError⟩, List.forall_mem_cons.mpr ⟨⟨⟨ga_NoTable, gg_NoTable, xe_NoTable, xh_NoTable, cA_NoTable, clN, clK, no_NoTable⟩, kit_bt rfl xb_NoTable_ValueError⟩, List.forall_mem_cons.mpr ⟨⟨⟨ga_NoRows, gg_NoRows, xe_NoRows, xh_NoRows, cA_NoRows, clN, clK, no_NoRows⟩, kit_bt rfl xb_NoRows_ValueError⟩, List.forall_mem_cons.mpr ⟨⟨⟨ga_NoLinear, gg_NoLinear, xe_NoLinear, xh_NoLinear, cA_NoLinear, clN, clK, no_NoLinear⟩, kit_bt rfl xb_NoLinear_ValueError⟩, List.forall_mem_cons.mpr ⟨⟨⟨ga_NoQuotient, gg_NoQuotient, xe_NoQuotient, xh_NoQuotient, cA_NoQuotient, clN, clK, no_NoQuotient⟩, kit_bt rfl xb_NoQuotient_ValueError⟩, List.forall_mem_cons.mpr ⟨⟨⟨ga_NoPart, gg_NoPart, xe_NoPart, xh_NoPart, cA_NoPart, clN, clK, no_NoPart⟩, kit_bt rfl xb_NoPart_ValueError⟩, List.forall_mem_cons.mpr ⟨⟨⟨ga_Full, gg_Full, xe_Full, xh_Full, cA_Full, clN, clK, no_Full⟩, kit_bt rfl xb_Full_ValueError⟩, List.forall_mem_cons.mpr ⟨⟨⟨ga_NoSuch, gg_NoSuch, xe_NoSuch, xh_NoSuch, cA_NoSuch, clN, clK, no_NoSuch⟩, kit_bt rfl xb_NoSuch_ValueError⟩, List.forall_mem_cons.mpr ⟨⟨⟨ga_NoValues, gg_NoValues, xe_NoValues, xh_NoValues, cA_NoValues, clN, clK, no_NoValues⟩, kit_bt rfl xb_NoValues_ValueError⟩, List.forall_mem_cons.mpr ⟨⟨⟨ga_PartError, gg_PartError, xe_PartError, xh_PartError, cA_PartError, clN, clK, no_PartError⟩, kit_bt rfl xb_PartError_ValueError⟩, (fun _ h => nomatch h)⟩⟩⟩⟩⟩⟩⟩⟩⟩⟩⟩⟩⟩⟩⟩⟩⟩
  have V40 : ∀ q ∈ ([(cNoName, S_NoName_told), (cNoRatio, S_NoRatio_told), (cNoSpace, S_NoSpace_told), (cNoCell, S_NoCell_told), (cNoAxis, S_NoAxis_told), (cNoMember, S_NoMember_told), (cTwice, S_Twice_told), (cOtherSpace, S_OtherSpace_told), (cNoTable, S_NoTable_told), (cNoRows, S_NoRows_told), (cNoLinear, S_NoLinear_told), (cNoQuotient, S_NoQuotient_told), (cNoPart, S_NoPart_told), (cFull, S_Full_told), (cNoSuch, S_NoSuch_told), (cNoValues, S_NoValues_told), (cPartError, S_PartError_told)] : List (Nat × DFn)), MXnt l.prog w K mg base CT lay 1 "told" 0 q := List.forall_mem_cons.mpr ⟨⟨_, _, _, ⟨ga_NoName, gg_NoName, xe_NoName, xh_NoName⟩, ⟨a_NoName_told, i_NoName_told, k_NoName_told⟩, G_NoName_told, b_NoName_told, by show ("told" : Str) ∉ (["name"] : List Str); decide, rfl⟩, List.forall_mem_cons.mpr ⟨⟨_, _, _, ⟨ga_NoRatio, gg_NoRatio, xe_NoRatio, xh_NoRatio⟩, ⟨a_NoRatio_told, i_NoRatio_told, k_NoRatio_told⟩, G_NoRatio_told, b_NoRatio_told, by show ("told" : Str) ∉ (["word"] : List Str); decide, rfl⟩, List.forall_mem_cons.mpr ⟨⟨_, _, _, ⟨ga_NoSpace, gg_NoSpace, xe_NoSpace, xh_NoSpace⟩, ⟨a_NoSpace_told, i_NoSpace_told, k_NoSpace_told⟩, G_NoSpace_told, b_NoSpace_told, by show ("told" : Str) ∉ (["place", "word"] : List Str); decide, rfl⟩, List.forall_mem_cons.mpr ⟨⟨_, _, _, ⟨ga_NoCell, gg_NoCell, xe_NoCell, xh_NoCell⟩, ⟨a_NoCell_told, i_NoCell_told, k_NoCell_told⟩, G_NoCell_told, b_NoCell_told, by show ("told" : Str) ∉ (["cell"] : List Str); decide, rfl⟩, List.forall_mem_cons.mpr ⟨⟨_, _, _, ⟨ga_NoAxis, gg_NoAxis, xe_NoAxis, xh_NoAxis⟩, ⟨a_NoAxis_told, i_NoAxis_told, k_NoAxis_told⟩, G_NoAxis_told, b_NoAxis_told, by show ("told" : Str) ∉ (["axis"] : List Str); decide, rfl⟩, List.forall_mem_cons.mpr ⟨⟨_, _, _, ⟨ga_NoMember, gg_NoMember, xe_NoMember, xh_NoMember⟩, ⟨a_NoMember_told, i_NoMember_told, k_NoMember_told⟩, G_NoMember_told, b_NoMember_told, by show ("told" : Str) ∉ (["member"] : List Str); decide, rfl⟩, List.forall_mem_cons.mpr ⟨⟨_, _, _, ⟨ga_Twice, gg_Twice, xe_Twice, xh_Twice⟩, ⟨a_Twice_told, i_Twice_told, k_Twice_told⟩, G_Twice_told, b_Twice_told, by show ("told" : Str) ∉ (["name"] : List Str); decide, rfl⟩, List.forall_mem_cons.mpr ⟨⟨_, _, _, ⟨ga_OtherSpace, gg_OtherSpace, xe_OtherSpace, xh_OtherSpace⟩, ⟨a_OtherSpace_told, i_OtherSpace_told, k_OtherSpace_told⟩, G_OtherSpace_told, b_OtherSpace_told, by show ("told" : Str) ∉ ([] : List Str); decide, rfl⟩, List.forall_mem_cons.mpr ⟨⟨_, _, _, ⟨ga_NoTable, gg_NoTable, xe_NoTable, xh_NoTable⟩, ⟨a_NoTable_told, i_NoTable_told, k_NoTable_told⟩, G_NoTable_told, b_NoTable_told, by show ("told" : Str) ∉ (["place", "word"] : List Str); decide, rfl⟩, List.forall_mem_cons.mpr ⟨⟨_, _, _, ⟨ga_NoRows, gg_NoRows, xe_NoRows, xh_NoRows⟩, ⟨a_NoRows_told, i_NoRows_told, k_NoRows_told⟩, G_NoRows_told, b_NoRows_told, by show ("told" : Str) ∉ (["cell", "value"] : List Str); decide, rfl⟩, List.forall_mem_cons.mpr ⟨⟨_, _, _, ⟨ga_NoLinear, gg_NoLinear, xe_NoLinear, xh_NoLinear⟩, ⟨a_NoLinear_told, i_NoLinear_told, k_NoLinear_told⟩, G_NoLinear_told, b_NoLinear_told, by show ("told" : Str) ∉ (["word"] : List Str); decide, rfl⟩, List.forall_mem_cons.mpr ⟨⟨_, _, _, ⟨ga_NoQuotient, gg_NoQuotient, xe_NoQuotient, xh_NoQuotient⟩, ⟨a_NoQuotient_told, i_NoQuotient_told, k_NoQuotient_told⟩, G_NoQuotient_told, b_NoQuotient_told, by show ("told" : Str) ∉ ([] : List Str); decide, rfl⟩, List.forall_mem_cons.mpr ⟨⟨_, _, _, ⟨ga_NoPart, gg_NoPart, xe_NoPart, xh_NoPart⟩, ⟨a_NoPart_told, i_NoPart_told, k_NoPart_told⟩, G_NoPart_told, b_NoPart_told, by show ("told" : Str) ∉ ([] : List Str); decide, rfl⟩, List.forall_mem_cons.mpr ⟨⟨_, _, _, ⟨ga_Full, gg_Full, xe_Full, xh_Full⟩, ⟨a_Full_told, i_Full_told, k_Full_told⟩, G_Full_told, b_Full_told, by show ("told" : Str) ∉ (["number"] : List Str); decide, rfl⟩, List.forall_mem_cons.mpr ⟨⟨_, _, _, ⟨ga_NoSuch, gg_NoSuch, xe_NoSuch, xh_NoSuch⟩, ⟨a_NoSuch_told, i_NoSuch_told, k_NoSuch_told⟩, G_NoSuch_told, b_NoSuch_told, by show ("told" : Str) ∉ (["name"] : List Str); decide, rfl⟩, List.forall_mem_cons.mpr ⟨⟨_, _, _, ⟨ga_NoValues, gg_NoValues, xe_NoValues, xh_NoValues⟩, ⟨a_NoValues_told, i_NoValues_told, k_NoValues_told⟩, G_NoValues_told, b_NoValues_told, by show ("told" : Str) ∉ (["name"] : List Str); decide, rfl⟩, List.forall_mem_cons.mpr ⟨⟨_, _, _, ⟨ga_PartError, gg_PartError, xe_PartError, xh_PartError⟩, ⟨a_PartError_told, i_PartError_told, k_PartError_told⟩, G_PartError_told, b_PartError_told, by show ("told" : Str) ∉ ([] : List Str); decide, rfl⟩, (fun _ h => nomatch h)⟩⟩⟩⟩⟩⟩⟩⟩⟩⟩⟩⟩⟩⟩⟩⟩⟩
  have V41 : ClsX K CT csL := ⟨(fun _ h => nomatch h), clN, clK, inj_of clD⟩
  have V42 : mg "str" = none := Z_str
  have G__law_base := ok__law_base (P := l.prog) (w := w) (mg := mg) (base := base) (CT := CT) (lay := lay) (Fn := Fun.g F__law_base) (z_isinstance := V0) (c_PartError := V36) (ix_PartError := V37) (z_ValueError := V38) (ix_ValueError := V39) (mx_told := V40) (clsX := V41) (z_str := V42)
  have V43 : XfOk K CT lay "name" [(cNoName, 0), (cTwice, 0), (cNoSuch, 0), (cNoValues, 0)] := List.forall_mem_cons.mpr ⟨⟨⟨ga_NoName, gg_NoName, xe_NoName, xh_NoName⟩, nf_NoName_name, rfl⟩, List.forall_mem_cons.mpr ⟨⟨⟨ga_Twice, gg_Twice, xe_Twice, xh_Twice⟩, nf_Twice_name, rfl⟩, List.forall_mem_cons.mpr ⟨⟨⟨ga_NoSuch, gg_NoSuch, xe_NoSuch, xh_NoSuch⟩, nf_NoSuch_name, rfl⟩, List.forall_mem_cons.mpr ⟨⟨⟨ga_NoValues, gg_NoValues, xe_NoValues, xh_NoValues⟩, nf_NoValues_name, rfl⟩, (fun _ h => nomatch h)⟩⟩⟩⟩
  have V44 : XfOk K CT lay "word" [(cNoRatio, 0), (cNoSpace, 1), (cNoTable, 1), (cNoLinear, 0)] := List.forall_mem_cons.mpr ⟨⟨⟨ga_NoRatio, gg_NoRatio, xe_NoRatio, xh_NoRatio⟩, nf_NoRatio_word, rfl⟩, List.forall_mem_cons.mpr ⟨⟨⟨ga_NoSpace, gg_NoSpace, xe_NoSpace, xh_NoSpace⟩, nf_NoSpace_word, rfl⟩, List.forall_mem_cons.mpr ⟨⟨⟨ga_NoTable, gg_NoTable, xe_NoTable, xh_NoTable⟩, nf_NoTable_word, rfl⟩, List.forall_mem_cons.mpr ⟨⟨⟨ga_NoLinear, gg_NoLinear, xe_NoLinear, xh_NoLinear⟩, nf_NoLinear_word, rfl⟩, (fun _ h => nomatch h)⟩⟩⟩⟩
  have V45 : XfOk K CT lay "place" [(cNoSpace, 0), (cNoTable, 0)] := List.forall_mem_cons.mpr ⟨⟨⟨ga_NoSpace, gg_NoSpace, xe_NoSpace, xh_NoSpace⟩, nf_NoSpace_place, rfl⟩, List.forall_mem_cons.mpr ⟨⟨⟨ga_NoTable, gg_NoTable, xe_NoTable, xh_NoTable⟩, nf_NoTable_place, rfl⟩, (fun _ h => nomatch h)⟩⟩
  have V46 : XfOk K CT lay "cell" [(cNoCell, 0), (cNoRows, 0)] := List.forall_mem_cons.mpr ⟨⟨⟨ga_NoCell, gg_NoCell, xe_NoCell, xh_NoCell⟩, nf_NoCell_cell, rfl⟩, List.forall_mem_cons.mpr ⟨⟨⟨ga_NoRows, gg_NoRows, xe_NoRows, xh_NoRows⟩, nf_NoRows_cell, rfl⟩, (fun _ h => nomatch h)⟩⟩
  have V47 : XfOk K CT lay "axis" [(cNoAxis, 0)] := List.forall_mem_cons.mpr ⟨⟨⟨ga_NoAxis, gg_NoAxis, xe_NoAxis, xh_NoAxis⟩, nf_NoAxis_axis, rfl⟩, (fun _ h => nomatch h)⟩
  have V48 : XfOk K CT lay "member" [(cNoMember, 0)] := List.forall_mem_cons.mpr ⟨⟨⟨ga_NoMember, gg_NoMember, xe_NoMember, xh_NoMember⟩, nf_NoMember_member, rfl⟩, (fun _ h => nomatch h)⟩
  have V49 : XfOk K CT lay "value" [(cNoRows, 1)] := List.forall_mem_cons.mpr ⟨⟨⟨ga_NoRows, gg_NoRows, xe_NoRows, xh_NoRows⟩, nf_NoRows_value, rfl⟩, (fun _ h => nomatch h)⟩
  have V50 : XfOk K CT lay "number" [(cFull, 0)] := List.forall_mem_cons.mpr ⟨⟨⟨ga_Full, gg_Full, xe_Full, xh_Full⟩, nf_Full_number, rfl⟩, (fun _ h => nomatch h)⟩
  have G__law_fields := ok__law_fields (P := l.prog) (w := w) (mg := mg) (base := base) (CT := CT) (lay := lay) (Fn := Fun.g F__law_fields) (xf_name_NoName_Twice_NoSuch_NoValues := V43) (xf_word_NoRatio_NoSpace_NoTable_NoLinear := V44) (xf_place_NoSpace_NoTable := V45) (xf_cell_NoCell_NoRows := V46) (xf_axis_NoAxis := V47) (xf_member_NoMember := V48) (xf_value_NoRows := V49) (xf_number_Full := V50)
  have V51 : FnAt l.prog w K mg base CT lay 1 "_law_draw" ["_law_state", "_law_many"] oDraw := ⟨_, _, draw_of (ok_ldraw F__law_draw B), m__law_draw, k__law_draw, b__law_draw⟩
  have G__law_value := ok__law_value (P := l.prog) (w := w) (mg := mg) (base := base) (CT := CT) (lay := lay) (Fn := Fun.g F__law_value) (h__law_draw := V51)
  have V52 : FnAt l.prog w K mg base CT lay 2 "_law_value" ["_law_state"] S__law_value := ⟨_, _, G__law_value, m__law_value, k__law_value, b__law_value⟩
  have V53 : XnAt l.prog w K mg base CT lay 1 "Twice" cTwice ["self", "name"] := ⟨_, _, Ox_Twice, a_Twice_init, t_Twice_init, Xi_Twice, b_Twice_init, PySem.W.mg_of X G a_Twice⟩
  have V54 : (lay cTwice).length = 1 := rfl
  have V55 : XnAt l.prog w K mg base CT lay 1 "NoMember" cNoMember ["self", "member"] := ⟨_, _, Ox_NoMember, a_NoMember_init, t_NoMember_init, Xi_NoMember, b_NoMember_init, PySem.W.mg_of X G a_NoMember⟩
  have V56 : (lay cNoMember).length = 1 := rfl
  have V57 : XnAt l.prog w K mg base CT lay 1 "NoAxis" cNoAxis ["self", "axis"] := ⟨_, _, Ox_NoAxis, a_NoAxis_init, t_NoAxis_init, Xi_NoAxis, b_NoAxis_init, PySem.W.mg_of X G a_NoAxis⟩
  have V58 : (lay cNoAxis).length = 1 := rfl
  have V59 : XnAt l.prog w K mg base CT lay 1 "NoCell" cNoCell ["self", "cell"] := ⟨_, _, Ox_NoCell, a_NoCell_init, t_NoCell_init, Xi_NoCell, b_NoCell_init, PySem.W.mg_of X G a_NoCell⟩
  have V60 : (lay cNoCell).length = 1 := rfl
  have V61 : XnAt l.prog w K mg base CT lay 1 "NoSpace" cNoSpace ["self", "place", "word"] := ⟨_, _, Ox_NoSpace, a_NoSpace_init, t_NoSpace_init, Xi_NoSpace, b_NoSpace_init, PySem.W.mg_of X G a_NoSpace⟩
  have V62 : (lay cNoSpace).length = 2 := rfl
  have V63 : XnAt l.prog w K mg base CT lay 1 "NoRatio" cNoRatio ["self", "word"] := ⟨_, _, Ox_NoRatio, a_NoRatio_init, t_NoRatio_init, Xi_NoRatio, b_NoRatio_init, PySem.W.mg_of X G a_NoRatio⟩
  have V64 : (lay cNoRatio).length = 1 := rfl
  have V65 : XnAt l.prog w K mg base CT lay 1 "NoName" cNoName ["self", "name"] := ⟨_, _, Ox_NoName, a_NoName_init, t_NoName_init, Xi_NoName, b_NoName_init, PySem.W.mg_of X G a_NoName⟩
  have V66 : (lay cNoName).length = 1 := rfl
  have V67 : XnAt0 K mg CT lay "NoPart" cNoPart := ⟨_, _, _, _, PySem.F.excBase_ValueError, xi_NoPart, PySem.W.mg_of X G a_NoPart, xk_NoPart, xe_NoPart, xt_NoPart, rfl⟩
  have V68 : XnAt0 K mg CT lay "NoQuotient" cNoQuotient := ⟨_, _, _, _, PySem.F.excBase_ValueError, xi_NoQuotient, PySem.W.mg_of X G a_NoQuotient, xk_NoQuotient, xe_NoQuotient, xt_NoQuotient, rfl⟩
  have V69 : XnAt l.prog w K mg base CT lay 1 "NoLinear" cNoLinear ["self", "word"] := ⟨_, _, Ox_NoLinear, a_NoLinear_init, t_NoLinear_init, Xi_NoLinear, b_NoLinear_init, PySem.W.mg_of X G a_NoLinear⟩
  have V70 : (lay cNoLinear).length = 1 := rfl
  have V71 : XnAt l.prog w K mg base CT lay 1 "NoRows" cNoRows ["self", "cell", "value"] := ⟨_, _, Ox_NoRows, a_NoRows_init, t_NoRows_init, Xi_NoRows, b_NoRows_init, PySem.W.mg_of X G a_NoRows⟩
  have V72 : (lay cNoRows).length = 2 := rfl
  have V73 : XnAt l.prog w K mg base CT lay 1 "NoTable" cNoTable ["self", "place", "word"] := ⟨_, _, Ox_NoTable, a_NoTable_init, t_NoTable_init, Xi_NoTable, b_NoTable_init, PySem.W.mg_of X G a_NoTable⟩
  have V74 : (lay cNoTable).length = 2 := rfl
  have V75 : XnAt0 K mg CT lay "OtherSpace" cOtherSpace := ⟨_, _, _, _, PySem.F.excBase_ValueError, xi_OtherSpace, PySem.W.mg_of X G a_OtherSpace, xk_OtherSpace, xe_OtherSpace, xt_OtherSpace, rfl⟩
  have V76 : XnAt l.prog w K mg base CT lay 1 "NoValues" cNoValues ["self", "name"] := ⟨_, _, Ox_NoValues, a_NoValues_init, t_NoValues_init, Xi_NoValues, b_NoValues_init, PySem.W.mg_of X G a_NoValues⟩
  have V77 : (lay cNoValues).length = 1 := rfl
  have V78 : XnAt l.prog w K mg base CT lay 1 "NoSuch" cNoSuch ["self", "name"] := ⟨_, _, Ox_NoSuch, a_NoSuch_init, t_NoSuch_init, Xi_NoSuch, b_NoSuch_init, PySem.W.mg_of X G a_NoSuch⟩
  have V79 : (lay cNoSuch).length = 1 := rfl
  have V80 : XnAt l.prog w K mg base CT lay 1 "Full" cFull ["self", "number"] := ⟨_, _, Ox_Full, a_Full_init, t_Full_init, Xi_Full, b_Full_init, PySem.W.mg_of X G a_Full⟩
  have V81 : (lay cFull).length = 1 := rfl
  have V82 : FnAt l.prog w K mg base CT lay 2 "_law_base" ["_law_e", "_law_name"] S__law_base := ⟨_, _, G__law_base, m__law_base, k__law_base, b__law_base⟩
  have V83 : XnAt0 K mg CT lay "PartError" cPartError := ⟨_, _, _, _, PySem.F.excBase_ValueError, xi_PartError, PySem.W.mg_of X G a_PartError, xk_PartError, xe_PartError, xt_PartError, rfl⟩
  have V84 : FnAt l.prog w K mg base CT lay 2 "_law_alone" ["_law_made"] S__law_alone := ⟨_, _, G__law_alone, m__law_alone, k__law_alone, b__law_alone⟩
  have V85 : FnAt l.prog w K mg base CT lay 1 "_law_fields" ["_law_made", "_law_one", "_law_other"] S__law_fields := ⟨_, _, G__law_fields, m__law_fields, k__law_fields, b__law_fields⟩
  exact ok_law (Fun.g F_law) (h__law_value := V52) (x_Twice := V53) (n_Twice := V54) (x_NoMember := V55) (n_NoMember := V56) (x_NoAxis := V57) (n_NoAxis := V58) (x_NoCell := V59) (n_NoCell := V60) (x_NoSpace := V61) (n_NoSpace := V62) (x_NoRatio := V63) (n_NoRatio := V64) (x_NoName := V65) (n_NoName := V66) (x_NoPart := V67) (x_NoQuotient := V68) (x_NoLinear := V69) (n_NoLinear := V70) (x_NoRows := V71) (n_NoRows := V72) (x_NoTable := V73) (n_NoTable := V74) (x_OtherSpace := V75) (x_NoValues := V76) (n_NoValues := V77) (x_NoSuch := V78) (n_NoSuch := V79) (x_Full := V80) (n_Full := V81) (z_range := V33) (h__law_base := V82) (x_PartError := V83) (h__law_kinds := V35) (h__law_alone := V84) (h__law_fields := V85) (FS := FnOk.cx (ok_lstart F__law_start B)) (mS := m__law_start) (kpS := k__law_start) (bS := b__law_start)
end Pu
open PySem PySem.W PyProof.Rows
set_option maxRecDepth 100000 in
set_option maxHeartbeats 0 in
theorem PySem.Challenge.cw_partstell_k19_errors_told_holds : PySem.Challenge.rw_partstell_k19_errors_told.Holds := by
  w_on; o_law; k_head; (case hw => w_witness2)
  k_fill
  refine L2.walk_of (l := PySem.Challenge.rw_partstell_k19_errors_told) (n := 63) (k := 3) (x := "_law_script") (CX := fun w => L2.CX PySem.Challenge.rw_partstell_k19_errors_told.prog w) (sp := fun w => Pu.spLaw _) rfl (by decide) rfl ⟨rfl, by decide, by decide⟩ (fun w h Y => PySem.W.kIn_of Y) ?F (fun _ _ a ns hl _ hS => ⟨a, ns, rfl, hS, hl, fun _ => rfl⟩) (fun _ _ _ _ _ ⟨_, _, _, _, _, _, _, _, _, _, _, _, z⟩ => z)
  case F =>
    intro w mg fa h KX G hmg
    refine' Pu.all_mk KX G hmg ?clN ?clK ?clD ?a_PartError ?xi_PartError ?xe_PartError ?xt_PartError ?xk_PartError ?a_NoRatio ?xl_NoRatio ?xsa_NoRatio ?xe_NoRatio ?xt_NoRatio ?xk_NoRatio ?a_NoSpace ?xl_NoSpace ?xsa_NoSpace ?xe_NoSpace ?xt_NoSpace ?xk_NoSpace ?a_NoCell ?xl_NoCell ?xsa_NoCell ?xe_NoCell ?xt_NoCell ?xk_NoCell ?a_NoAxis ?xl_NoAxis ?xsa_NoAxis ?xe_NoAxis ?xt_NoAxis ?xk_NoAxis ?a_NoMember ?xl_NoMember ?xsa_NoMember ?xe_NoMember ?xt_NoMember ?xk_NoMember ?a_Twice ?xl_Twice ?xsa_Twice ?xe_Twice ?xt_Twice ?xk_Twice ?a_OtherSpace ?xi_OtherSpace ?xe_OtherSpace ?xt_OtherSpace ?xk_OtherSpace ?a_NoTable ?xl_NoTable ?xsa_NoTable ?xe_NoTable ?xt_NoTable ?xk_NoTable ?a_NoRows ?xl_NoRows ?xsa_NoRows ?xe_NoRows ?xt_NoRows ?xk_NoRows ?a_NoLinear ?xl_NoLinear ?xsa_NoLinear ?xe_NoLinear ?xt_NoLinear ?xk_NoLinear ?a_NoQuotient ?xi_NoQuotient ?xe_NoQuotient ?xt_NoQuotient ?xk_NoQuotient ?a_NoName ?xl_NoName ?xsa_NoName ?xe_NoName ?xt_NoName ?xk_NoName ?a_NoPart ?xi_NoPart ?xe_NoPart ?xt_NoPart ?xk_NoPart ?a_Full ?xl_Full ?xsa_Full ?xe_Full ?xt_Full ?xk_Full ?a_NoSuch ?xl_NoSuch ?xsa_NoSuch ?xe_NoSuch ?xt_NoSuch ?xk_NoSuch ?a_NoValues ?xl_NoValues ?xsa_NoValues ?xe_NoValues ?xt_NoValues ?xk_NoValues ?a__law_start ?l__law_start ?c__law_start ?k__law_start ?a__law_draw ?l__law_draw ?c__law_draw ?k__law_draw ?a__law_kinds ?l__law_kinds ?c__law_kinds ?k__law_kinds ?a__law_alone ?l__law_alone ?c__law_alone ?k__law_alone ?a_Full_told ?i_Full_told ?l_Full_told ?c_Full_told ?k_Full_told ?a_NoAxis_told ?i_NoAxis_told ?l_NoAxis_told ?c_NoAxis_told ?k_NoAxis_told ?a_NoCell_told ?i_NoCell_told ?l_NoCell_told ?c_NoCell_told ?k_NoCell_told ?a_NoLinear_told ?i_NoLinear_told ?l_NoLinear_told ?c_NoLinear_told ?k_NoLinear_told ?a_NoMember_told ?i_NoMember_told ?l_NoMember_told ?c_NoMember_told ?k_NoMember_told ?a_NoName_told ?i_NoName_told ?l_NoName_told ?c_NoName_told ?k_NoName_told ?a_NoPart_told ?i_NoPart_told ?l_NoPart_told ?c_NoPart_told ?k_NoPart_told ?a_NoQuotient_told ?i_NoQuotient_told ?l_NoQuotient_told ?c_NoQuotient_told ?k_NoQuotient_told ?a_NoRatio_told ?i_NoRatio_told ?l_NoRatio_told ?c_NoRatio_told ?k_NoRatio_told ?a_NoRows_told ?i_NoRows_told ?l_NoRows_told ?c_NoRows_told ?k_NoRows_told ?a_NoSpace_told ?i_NoSpace_told ?l_NoSpace_told ?c_NoSpace_told ?k_NoSpace_told ?a_NoSuch_told ?i_NoSuch_told ?l_NoSuch_told ?c_NoSuch_told ?k_NoSuch_told ?a_NoTable_told ?i_NoTable_told ?l_NoTable_told ?c_NoTable_told ?k_NoTable_told ?a_NoValues_told ?i_NoValues_told ?l_NoValues_told ?c_NoValues_told ?k_NoValues_told ?a_OtherSpace_told ?i_OtherSpace_told ?l_OtherSpace_told ?c_OtherSpace_told ?k_OtherSpace_told ?a_PartError_told ?i_PartError_told ?l_PartError_told ?c_PartError_told ?k_PartError_told ?a_Twice_told ?i_Twice_told ?l_Twice_told ?c_Twice_told ?k_Twice_told ?a__law_base ?l__law_base ?c__law_base ?k__law_base ?a__law_fields ?l__law_fields ?c__law_fields ?k__law_fields ?a__law_value ?l__law_value ?c__law_value ?k__law_value ?a_law ?l_law ?c_law ?k_law ?a_Full_init ?t_Full_init ?l_Full_init ?c_Full_init ?k_Full_init ?nf_Full_number ?a_NoAxis_init ?t_NoAxis_init ?l_NoAxis_init ?c_NoAxis_init ?k_NoAxis_init ?nf_NoAxis_axis ?a_NoCell_init ?t_NoCell_init ?l_NoCell_init ?c_NoCell_init ?k_NoCell_init ?nf_NoCell_cell ?a_NoLinear_init ?t_NoLinear_init ?l_NoLinear_init ?c_NoLinear_init ?k_NoLinear_init ?nf_NoLinear_word ?a_NoMember_init ?t_NoMember_init ?l_NoMember_init ?c_NoMember_init ?k_NoMember_init ?nf_NoMember_member ?a_NoName_init ?t_NoName_init ?l_NoName_init ?c_NoName_init ?k_NoName_init ?nf_NoName_name ?a_NoRatio_init ?t_NoRatio_init ?l_NoRatio_init ?c_NoRatio_init ?k_NoRatio_init ?nf_NoRatio_word ?a_NoRows_init ?t_NoRows_init ?l_NoRows_init ?c_NoRows_init ?k_NoRows_init ?nf_NoRows_cell ?nf_NoRows_value ?a_NoSpace_init ?t_NoSpace_init ?l_NoSpace_init ?c_NoSpace_init ?k_NoSpace_init ?nf_NoSpace_place ?nf_NoSpace_word ?a_NoSuch_init ?t_NoSuch_init ?l_NoSuch_init ?c_NoSuch_init ?k_NoSuch_init ?nf_NoSuch_name ?a_NoTable_init ?t_NoTable_init ?l_NoTable_init ?c_NoTable_init ?k_NoTable_init ?nf_NoTable_place ?nf_NoTable_word ?a_NoValues_init ?t_NoValues_init ?l_NoValues_init ?c_NoValues_init ?k_NoValues_init ?nf_NoValues_name ?a_Twice_init ?t_Twice_init ?l_Twice_init ?c_Twice_init ?k_Twice_init ?nf_Twice_name ?xc_NoCell ?xs_NoName_NoCell ?xs_NoCell_NoCell ?xs_NoRatio_NoCell ?xs_NoSpace_NoCell ?xs_NoAxis_NoCell ?xs_NoMember_NoCell ?xs_Twice_NoCell ?xs_OtherSpace_NoCell ?xs_NoTable_NoCell ?xs_NoRows_NoCell ?xs_NoLinear_NoCell ?xs_NoQuotient_NoCell ?xs_NoPart_NoCell ?xs_Full_NoCell ?xs_NoSuch_NoCell ?xs_NoValues_NoCell ?xs_PartError_NoCell ?ga_NoName ?gg_NoName ?xh_NoName ?cA_NoName ?no_NoName ?ga_NoRatio ?gg_NoRatio ?xh_NoRatio ?cA_NoRatio ?no_NoRatio ?ga_NoSpace ?gg_NoSpace ?xh_NoSpace ?cA_NoSpace ?no_NoSpace ?ga_NoCell ?gg_NoCell ?xh_NoCell ?cA_NoCell ?no_NoCell ?ga_NoAxis ?gg_NoAxis ?xh_NoAxis ?cA_NoAxis ?no_NoAxis ?ga_NoMember ?gg_NoMember ?xh_NoMember ?cA_NoMember ?no_NoMember ?ga_Twice ?gg_Twice ?xh_Twice ?cA_Twice ?no_Twice ?ga_OtherSpace ?gg_OtherSpace ?xh_OtherSpace ?cA_OtherSpace ?no_OtherSpace ?ga_NoTable ?gg_NoTable ?xh_NoTable ?cA_NoTable ?no_NoTable ?ga_NoRows ?gg_NoRows ?xh_NoRows ?cA_NoRows ?no_NoRows ?ga_NoLinear ?gg_NoLinear ?xh_NoLinear ?cA_NoLinear ?no_NoLinear ?ga_NoQuotient ?gg_NoQuotient ?xh_NoQuotient ?cA_NoQuotient ?no_NoQuotient ?ga_NoPart ?gg_NoPart ?xh_NoPart ?cA_NoPart ?no_NoPart ?ga_Full ?gg_Full ?xh_Full ?cA_Full ?no_Full ?ga_NoSuch ?gg_NoSuch ?xh_NoSuch ?cA_NoSuch ?no_NoSuch ?ga_NoValues ?gg_NoValues ?xh_NoValues ?cA_NoValues ?no_NoValues ?ga_PartError ?gg_PartError ?xh_PartError ?cA_PartError ?no_PartError ?xc_NoSpace ?xs_NoName_NoSpace ?xs_NoSpace_NoSpace ?xs_NoRatio_NoSpace ?xs_NoCell_NoSpace ?xs_NoAxis_NoSpace ?xs_NoMember_NoSpace ?xs_Twice_NoSpace ?xs_OtherSpace_NoSpace ?xs_NoTable_NoSpace ?xs_NoRows_NoSpace ?xs_NoLinear_NoSpace ?xs_NoQuotient_NoSpace ?xs_NoPart_NoSpace ?xs_Full_NoSpace ?xs_NoSuch_NoSpace ?xs_NoValues_NoSpace ?xs_PartError_NoSpace ?xc_NoRatio ?xs_NoName_NoRatio ?xs_NoRatio_NoRatio ?xs_NoSpace_NoRatio ?xs_NoCell_NoRatio ?xs_NoAxis_NoRatio ?xs_NoMember_NoRatio ?xs_Twice_NoRatio ?xs_OtherSpace_NoRatio ?xs_NoTable_NoRatio ?xs_NoRows_NoRatio ?xs_NoLinear_NoRatio ?xs_NoQuotient_NoRatio ?xs_NoPart_NoRatio ?xs_Full_NoRatio ?xs_NoSuch_NoRatio ?xs_NoValues_NoRatio ?xs_PartError_NoRatio ?xc_NoName ?xs_NoRatio_NoName ?xs_NoName_NoName ?xs_NoSpace_NoName ?xs_NoCell_NoName ?xs_NoAxis_NoName ?xs_NoMember_NoName ?xs_Twice_NoName ?xs_OtherSpace_NoName ?xs_NoTable_NoName ?xs_NoRows_NoName ?xs_NoLinear_NoName ?xs_NoQuotient_NoName ?xs_NoPart_NoName ?xs_Full_NoName ?xs_NoSuch_NoName ?xs_NoValues_NoName ?xs_PartError_NoName ?xc_Twice ?xs_NoName_Twice ?xs_Twice_Twice ?xs_NoRatio_Twice ?xs_NoSpace_Twice ?xs_NoCell_Twice ?xs_NoAxis_Twice ?xs_NoMember_Twice ?xs_OtherSpace_Twice ?xs_NoTable_Twice ?xs_NoRows_Twice ?xs_NoLinear_Twice ?xs_NoQuotient_Twice ?xs_NoPart_Twice ?xs_Full_Twice ?xs_NoSuch_Twice ?xs_NoValues_Twice ?xs_PartError_Twice ?xc_NoMember ?xs_NoName_NoMember ?xs_NoMember_NoMember ?xs_NoRatio_NoMember ?xs_NoSpace_NoMember ?xs_NoCell_NoMember ?xs_NoAxis_NoMember ?xs_Twice_NoMember ?xs_OtherSpace_NoMember ?xs_NoTable_NoMember ?xs_NoRows_NoMember ?xs_NoLinear_NoMember ?xs_NoQuotient_NoMember ?xs_NoPart_NoMember ?xs_Full_NoMember ?xs_NoSuch_NoMember ?xs_NoValues_NoMember ?xs_PartError_NoMember ?xc_NoAxis ?xs_NoName_NoAxis ?xs_NoAxis_NoAxis ?xs_NoRatio_NoAxis ?xs_NoSpace_NoAxis ?xs_NoCell_NoAxis ?xs_NoMember_NoAxis ?xs_Twice_NoAxis ?xs_OtherSpace_NoAxis ?xs_NoTable_NoAxis ?xs_NoRows_NoAxis ?xs_NoLinear_NoAxis ?xs_NoQuotient_NoAxis ?xs_NoPart_NoAxis ?xs_Full_NoAxis ?xs_NoSuch_NoAxis ?xs_NoValues_NoAxis ?xs_PartError_NoAxis ?xc_NoRows ?xs_NoName_NoRows ?xs_NoRows_NoRows ?xs_NoRatio_NoRows ?xs_NoSpace_NoRows ?xs_NoCell_NoRows ?xs_NoAxis_NoRows ?xs_NoMember_NoRows ?xs_Twice_NoRows ?xs_OtherSpace_NoRows ?xs_NoTable_NoRows ?xs_NoLinear_NoRows ?xs_NoQuotient_NoRows ?xs_NoPart_NoRows ?xs_Full_NoRows ?xs_NoSuch_NoRows ?xs_NoValues_NoRows ?xs_PartError_NoRows ?xc_NoTable ?xs_NoName_NoTable ?xs_NoTable_NoTable ?xs_NoRatio_NoTable ?xs_NoSpace_NoTable ?xs_NoCell_NoTable ?xs_NoAxis_NoTable ?xs_NoMember_NoTable ?xs_Twice_NoTable ?xs_OtherSpace_NoTable ?xs_NoRows_NoTable ?xs_NoLinear_NoTable ?xs_NoQuotient_NoTable ?xs_NoPart_NoTable ?xs_Full_NoTable ?xs_NoSuch_NoTable ?xs_NoValues_NoTable ?xs_PartError_NoTable ?xc_OtherSpace ?xs_NoName_OtherSpace ?xs_OtherSpace_OtherSpace ?xs_NoRatio_OtherSpace ?xs_NoSpace_OtherSpace ?xs_NoCell_OtherSpace ?xs_NoAxis_OtherSpace ?xs_NoMember_OtherSpace ?xs_Twice_OtherSpace ?xs_NoTable_OtherSpace ?xs_NoRows_OtherSpace ?xs_NoLinear_OtherSpace ?xs_NoQuotient_OtherSpace ?xs_NoPart_OtherSpace ?xs_Full_OtherSpace ?xs_NoSuch_OtherSpace ?xs_NoValues_OtherSpace ?xs_PartError_OtherSpace ?xc_NoPart ?xs_NoName_NoPart ?xs_NoPart_NoPart ?xs_NoRatio_NoPart ?xs_NoSpace_NoPart ?xs_NoCell_NoPart ?xs_NoAxis_NoPart ?xs_NoMember_NoPart ?xs_Twice_NoPart ?xs_OtherSpace_NoPart ?xs_NoTable_NoPart ?xs_NoRows_NoPart ?xs_NoLinear_NoPart ?xs_NoQuotient_NoPart ?xs_Full_NoPart ?xs_NoSuch_NoPart ?xs_NoValues_NoPart ?xs_PartError_NoPart ?xc_NoQuotient ?xs_NoName_NoQuotient ?xs_NoQuotient_NoQuotient ?xs_NoRatio_NoQuotient ?xs_NoSpace_NoQuotient ?xs_NoCell_NoQuotient ?xs_NoAxis_NoQuotient ?xs_NoMember_NoQuotient ?xs_Twice_NoQuotient ?xs_OtherSpace_NoQuotient ?xs_NoTable_NoQuotient ?xs_NoRows_NoQuotient ?xs_NoLinear_NoQuotient ?xs_NoPart_NoQuotient ?xs_Full_NoQuotient ?xs_NoSuch_NoQuotient ?xs_NoValues_NoQuotient ?xs_PartError_NoQuotient ?xc_NoLinear ?xs_NoName_NoLinear ?xs_NoLinear_NoLinear ?xs_NoRatio_NoLinear ?xs_NoSpace_NoLinear ?xs_NoCell_NoLinear ?xs_NoAxis_NoLinear ?xs_NoMember_NoLinear ?xs_Twice_NoLinear ?xs_OtherSpace_NoLinear ?xs_NoTable_NoLinear ?xs_NoRows_NoLinear ?xs_NoQuotient_NoLinear ?xs_NoPart_NoLinear ?xs_Full_NoLinear ?xs_NoSuch_NoLinear ?xs_NoValues_NoLinear ?xs_PartError_NoLinear ?xc_NoValues ?xs_NoName_NoValues ?xs_NoValues_NoValues ?xs_NoRatio_NoValues ?xs_NoSpace_NoValues ?xs_NoCell_NoValues ?xs_NoAxis_NoValues ?xs_NoMember_NoValues ?xs_Twice_NoValues ?xs_OtherSpace_NoValues ?xs_NoTable_NoValues ?xs_NoRows_NoValues ?xs_NoLinear_NoValues ?xs_NoQuotient_NoValues ?xs_NoPart_NoValues ?xs_Full_NoValues ?xs_NoSuch_NoValues ?xs_PartError_NoValues ?xc_NoSuch ?xs_NoName_NoSuch ?xs_NoSuch_NoSuch ?xs_NoRatio_NoSuch ?xs_NoSpace_NoSuch ?xs_NoCell_NoSuch ?xs_NoAxis_NoSuch ?xs_NoMember_NoSuch ?xs_Twice_NoSuch ?xs_OtherSpace_NoSuch ?xs_NoTable_NoSuch ?xs_NoRows_NoSuch ?xs_NoLinear_NoSuch ?xs_NoQuotient_NoSuch ?xs_NoPart_NoSuch ?xs_Full_NoSuch ?xs_NoValues_NoSuch ?xs_PartError_NoSuch ?xc_Full ?xs_NoName_Full ?xs_Full_Full ?xs_NoRatio_Full ?xs_NoSpace_Full ?xs_NoCell_Full ?xs_NoAxis_Full ?xs_NoMember_Full ?xs_Twice_Full ?xs_OtherSpace_Full ?xs_NoTable_Full ?xs_NoRows_Full ?xs_NoLinear_Full ?xs_NoQuotient_Full ?xs_NoPart_Full ?xs_NoSuch_Full ?xs_NoValues_Full ?xs_PartError_Full ?xc_PartError ?xs_NoName_PartError ?xs_NoRatio_PartError ?xs_NoSpace_PartError ?xs_NoCell_PartError ?xs_NoAxis_PartError ?xs_NoMember_PartError ?xs_Twice_PartError ?xs_OtherSpace_PartError ?xs_NoTable_PartError ?xs_NoRows_PartError ?xs_NoLinear_PartError ?xs_NoQuotient_PartError ?xs_NoPart_PartError ?xs_Full_PartError ?xs_NoSuch_PartError ?xs_NoValues_PartError ?xb_NoName_ValueError ?xb_NoRatio_ValueError ?xb_NoSpace_ValueError ?xb_NoCell_ValueError ?xb_NoAxis_ValueError ?xb_NoMember_ValueError ?xb_Twice_ValueError ?xb_OtherSpace_ValueError ?xb_NoTable_ValueError ?xb_NoRows_ValueError ?xb_NoLinear_ValueError ?xb_NoQuotient_ValueError ?xb_NoPart_ValueError ?xb_Full_ValueError ?xb_NoSuch_ValueError ?xb_NoValues_ValueError ?xb_PartError_ValueError ?z_ValueError ?z_int ?z_isinstance ?z_len ?z_range ?z_str
    (case clN => k_is)
    (case clK => k_is)
    (case clD => decide +kernel)
    (case a_PartError => k_is)
    (case xi_PartError => k_exc)
    (case xe_PartError => k_is)
    (case xt_PartError => k_is)
    (case xk_PartError => k_is)
    (case a_NoRatio => k_is)
    (case xl_NoRatio => k_is)
    (case xsa_NoRatio => k_is)
    (case xe_NoRatio => k_is)
    (case xt_NoRatio => k_is)
    (case xk_NoRatio => k_is)
    (case a_NoSpace => k_is)
    (case xl_NoSpace => k_is)
    (case xsa_NoSpace => k_is)
    (case xe_NoSpace => k_is)
    (case xt_NoSpace => k_is)
    (case xk_NoSpace => k_is)
    (case a_NoCell => k_is)
    (case xl_NoCell => k_is)
    (case xsa_NoCell => k_is)
    (case xe_NoCell => k_is)
    (case xt_NoCell => k_is)
    (case xk_NoCell => k_is)
    (case a_NoAxis => k_is)
    (case xl_NoAxis => k_is)
    (case xsa_NoAxis => k_is)
    (case xe_NoAxis => k_is)
    (case xt_NoAxis => k_is)
    (case xk_NoAxis => k_is)
    (case a_NoMember => k_is)
    (case xl_NoMember => k_is)
    (case xsa_NoMember => k_is)
    (case xe_NoMember => k_is)
    (case xt_NoMember => k_is)
    (case xk_NoMember => k_is)
    (case a_Twice => k_is)
    (case xl_Twice => k_is)
    (case xsa_Twice => k_is)
    (case xe_Twice => k_is)
    (case xt_Twice => k_is)
    (case xk_Twice => k_is)
    (case a_OtherSpace => k_is)
    (case xi_OtherSpace => k_exc)
    (case xe_OtherSpace => k_is)
    (case xt_OtherSpace => k_is)
    (case xk_OtherSpace => k_is)
    (case a_NoTable => k_is)
    (case xl_NoTable => k_is)
    (case xsa_NoTable => k_is)
    (case xe_NoTable => k_is)
    (case xt_NoTable => k_is)
    (case xk_NoTable => k_is)
    (case a_NoRows => k_is)
    (case xl_NoRows => k_is)
    (case xsa_NoRows => k_is)
    (case xe_NoRows => k_is)
    (case xt_NoRows => k_is)
    (case xk_NoRows => k_is)
    (case a_NoLinear => k_is)
    (case xl_NoLinear => k_is)
    (case xsa_NoLinear => k_is)
    (case xe_NoLinear => k_is)
    (case xt_NoLinear => k_is)
    (case xk_NoLinear => k_is)
    (case a_NoQuotient => k_is)
    (case xi_NoQuotient => k_exc)
    (case xe_NoQuotient => k_is)
    (case xt_NoQuotient => k_is)
    (case xk_NoQuotient => k_is)
    (case a_NoName => k_is)
    (case xl_NoName => k_is)
    (case xsa_NoName => k_is)
    (case xe_NoName => k_is)
    (case xt_NoName => k_is)
    (case xk_NoName => k_is)
    (case a_NoPart => k_is)
    (case xi_NoPart => k_exc)
    (case xe_NoPart => k_is)
    (case xt_NoPart => k_is)
    (case xk_NoPart => k_is)
    (case a_Full => k_is)
    (case xl_Full => k_is)
    (case xsa_Full => k_is)
    (case xe_Full => k_is)
    (case xt_Full => k_is)
    (case xk_Full => k_is)
    (case a_NoSuch => k_is)
    (case xl_NoSuch => k_is)
    (case xsa_NoSuch => k_is)
    (case xe_NoSuch => k_is)
    (case xt_NoSuch => k_is)
    (case xk_NoSuch => k_is)
    (case a_NoValues => k_is)
    (case xl_NoValues => k_is)
    (case xsa_NoValues => k_is)
    (case xe_NoValues => k_is)
    (case xt_NoValues => k_is)
    (case xk_NoValues => k_is)
    (case a__law_start => k_is)
    (case l__law_start => k_is)
    (case c__law_start => k_is)
    (case k__law_start => k_is)
    (case a__law_draw => k_is)
    (case l__law_draw => k_is)
    (case c__law_draw => k_is)
    (case k__law_draw => k_is)
    (case a__law_kinds => k_is)
    (case l__law_kinds => k_is)
    (case c__law_kinds => k_is)
    (case k__law_kinds => k_is)
    (case a__law_alone => k_is)
    (case l__law_alone => k_is)
    (case c__law_alone => k_is)
    (case k__law_alone => k_is)
    (case a_Full_told => k_is)
    (case i_Full_told => k_is)
    (case l_Full_told => k_is)
    (case c_Full_told => k_is)
    (case k_Full_told => k_is)
    (case a_NoAxis_told => k_is)
    (case i_NoAxis_told => k_is)
    (case l_NoAxis_told => k_is)
    (case c_NoAxis_told => k_is)
    (case k_NoAxis_told => k_is)
    (case a_NoCell_told => k_is)
    (case i_NoCell_told => k_is)
    (case l_NoCell_told => k_is)
    (case c_NoCell_told => k_is)
    (case k_NoCell_told => k_is)
    (case a_NoLinear_told => k_is)
    (case i_NoLinear_told => k_is)
    (case l_NoLinear_told => k_is)
    (case c_NoLinear_told => k_is)
    (case k_NoLinear_told => k_is)
    (case a_NoMember_told => k_is)
    (case i_NoMember_told => k_is)
    (case l_NoMember_told => k_is)
    (case c_NoMember_told => k_is)
    (case k_NoMember_told => k_is)
    (case a_NoName_told => k_is)
    (case i_NoName_told => k_is)
    (case l_NoName_told => k_is)
    (case c_NoName_told => k_is)
    (case k_NoName_told => k_is)
    (case a_NoPart_told => k_is)
    (case i_NoPart_told => k_is)
    (case l_NoPart_told => k_is)
    (case c_NoPart_told => k_is)
    (case k_NoPart_told => k_is)
    (case a_NoQuotient_told => k_is)
    (case i_NoQuotient_told => k_is)
    (case l_NoQuotient_told => k_is)
    (case c_NoQuotient_told => k_is)
    (case k_NoQuotient_told => k_is)
    (case a_NoRatio_told => k_is)
    (case i_NoRatio_told => k_is)
    (case l_NoRatio_told => k_is)
    (case c_NoRatio_told => k_is)
    (case k_NoRatio_told => k_is)
    (case a_NoRows_told => k_is)
    (case i_NoRows_told => k_is)
    (case l_NoRows_told => k_is)
    (case c_NoRows_told => k_is)
    (case k_NoRows_told => k_is)
    (case a_NoSpace_told => k_is)
    (case i_NoSpace_told => k_is)
    (case l_NoSpace_told => k_is)
    (case c_NoSpace_told => k_is)
    (case k_NoSpace_told => k_is)
    (case a_NoSuch_told => k_is)
    (case i_NoSuch_told => k_is)
    (case l_NoSuch_told => k_is)
    (case c_NoSuch_told => k_is)
    (case k_NoSuch_told => k_is)
    (case a_NoTable_told => k_is)
    (case i_NoTable_told => k_is)
    (case l_NoTable_told => k_is)
    (case c_NoTable_told => k_is)
    (case k_NoTable_told => k_is)
    (case a_NoValues_told => k_is)
    (case i_NoValues_told => k_is)
    (case l_NoValues_told => k_is)
    (case c_NoValues_told => k_is)
    (case k_NoValues_told => k_is)
    (case a_OtherSpace_told => k_is)
    (case i_OtherSpace_told => k_is)
    (case l_OtherSpace_told => k_is)
    (case c_OtherSpace_told => k_is)
    (case k_OtherSpace_told => k_is)
    (case a_PartError_told => k_is)
    (case i_PartError_told => k_is)
    (case l_PartError_told => k_is)
    (case c_PartError_told => k_is)
    (case k_PartError_told => k_is)
    (case a_Twice_told => k_is)
    (case i_Twice_told => k_is)
    (case l_Twice_told => k_is)
    (case c_Twice_told => k_is)
    (case k_Twice_told => k_is)
    (case a__law_base => k_is)
    (case l__law_base => k_is)
    (case c__law_base => k_is)
    (case k__law_base => k_is)
    (case a__law_fields => k_is)
    (case l__law_fields => k_is)
    (case c__law_fields => k_is)
    (case k__law_fields => k_is)
    (case a__law_value => k_is)
    (case l__law_value => k_is)
    (case c__law_value => k_is)
    (case k__law_value => k_is)
    (case a_law => k_is)
    (case l_law => k_is)
    (case c_law => k_is)
    (case k_law => k_is)
    (case a_Full_init => k_is)
    (case t_Full_init => k_is)
    (case l_Full_init => k_is)
    (case c_Full_init => k_is)
    (case k_Full_init => k_is)
    (case nf_Full_number => k_is)
    (case a_NoAxis_init => k_is)
    (case t_NoAxis_init => k_is)
    (case l_NoAxis_init => k_is)
    (case c_NoAxis_init => k_is)
    (case k_NoAxis_init => k_is)
    (case nf_NoAxis_axis => k_is)
    (case a_NoCell_init => k_is)
    (case t_NoCell_init => k_is)
    (case l_NoCell_init => k_is)
    (case c_NoCell_init => k_is)
    (case k_NoCell_init => k_is)
    (case nf_NoCell_cell => k_is)
    (case a_NoLinear_init => k_is)
    (case t_NoLinear_init => k_is)
    (case l_NoLinear_init => k_is)
    (case c_NoLinear_init => k_is)
    (case k_NoLinear_init => k_is)
    (case nf_NoLinear_word => k_is)
    (case a_NoMember_init => k_is)
    (case t_NoMember_init => k_is)
    (case l_NoMember_init => k_is)
    (case c_NoMember_init => k_is)
    (case k_NoMember_init => k_is)
    (case nf_NoMember_member => k_is)
    (case a_NoName_init => k_is)
    (case t_NoName_init => k_is)
    (case l_NoName_init => k_is)
    (case c_NoName_init => k_is)
    (case k_NoName_init => k_is)
    (case nf_NoName_name => k_is)
    (case a_NoRatio_init => k_is)
    (case t_NoRatio_init => k_is)
    (case l_NoRatio_init => k_is)
    (case c_NoRatio_init => k_is)
    (case k_NoRatio_init => k_is)
    (case nf_NoRatio_word => k_is)
    (case a_NoRows_init => k_is)
    (case t_NoRows_init => k_is)
    (case l_NoRows_init => k_is)
    (case c_NoRows_init => k_is)
    (case k_NoRows_init => k_is)
    (case nf_NoRows_cell => k_is)
    (case nf_NoRows_value => k_is)
    (case a_NoSpace_init => k_is)
    (case t_NoSpace_init => k_is)
    (case l_NoSpace_init => k_is)
    (case c_NoSpace_init => k_is)
    (case k_NoSpace_init => k_is)
    (case nf_NoSpace_place => k_is)
    (case nf_NoSpace_word => k_is)
    (case a_NoSuch_init => k_is)
    (case t_NoSuch_init => k_is)
    (case l_NoSuch_init => k_is)
    (case c_NoSuch_init => k_is)
    (case k_NoSuch_init => k_is)
    (case nf_NoSuch_name => k_is)
    (case a_NoTable_init => k_is)
    (case t_NoTable_init => k_is)
    (case l_NoTable_init => k_is)
    (case c_NoTable_init => k_is)
    (case k_NoTable_init => k_is)
    (case nf_NoTable_place => k_is)
    (case nf_NoTable_word => k_is)
    (case a_NoValues_init => k_is)
    (case t_NoValues_init => k_is)
    (case l_NoValues_init => k_is)
    (case c_NoValues_init => k_is)
    (case k_NoValues_init => k_is)
    (case nf_NoValues_name => k_is)
    (case a_Twice_init => k_is)
    (case t_Twice_init => k_is)
    (case l_Twice_init => k_is)
    (case c_Twice_init => k_is)
    (case k_Twice_init => k_is)
    (case nf_Twice_name => k_is)
    (case xc_NoCell => k_is)
    (case xs_NoName_NoCell => first | rfl | k_is)
    (case xs_NoCell_NoCell => first | rfl | k_is)
    (case xs_NoRatio_NoCell => first | rfl | k_is)
    (case xs_NoSpace_NoCell => first | rfl | k_is)
    (case xs_NoAxis_NoCell => first | rfl | k_is)
    (case xs_NoMember_NoCell => first | rfl | k_is)
    (case xs_Twice_NoCell => first | rfl | k_is)
    (case xs_OtherSpace_NoCell => first | rfl | k_is)
    (case xs_NoTable_NoCell => first | rfl | k_is)
    (case xs_NoRows_NoCell => first | rfl | k_is)
    (case xs_NoLinear_NoCell => first | rfl | k_is)
    (case xs_NoQuotient_NoCell => first | rfl | k_is)
    (case xs_NoPart_NoCell => first | rfl | k_is)
    (case xs_Full_NoCell => first | rfl | k_is)
    (case xs_NoSuch_NoCell => first | rfl | k_is)
    (case xs_NoValues_NoCell => first | rfl | k_is)
    (case xs_PartError_NoCell => first | rfl | k_is)
    (case ga_NoName => k_is)
    (case gg_NoName => k_is)
    (case xh_NoName => k_is)
    (case cA_NoName => k_is)
    (case no_NoName => k_is)
    (case ga_NoRatio => k_is)
    (case gg_NoRatio => k_is)
    (case xh_NoRatio => k_is)
    (case cA_NoRatio => k_is)
    (case no_NoRatio => k_is)
    (case ga_NoSpace => k_is)
    (case gg_NoSpace => k_is)
    (case xh_NoSpace => k_is)
    (case cA_NoSpace => k_is)
    (case no_NoSpace => k_is)
    (case ga_NoCell => k_is)
    (case gg_NoCell => k_is)
    (case xh_NoCell => k_is)
    (case cA_NoCell => k_is)
    (case no_NoCell => k_is)
    (case ga_NoAxis => k_is)
    (case gg_NoAxis => k_is)
    (case xh_NoAxis => k_is)
    (case cA_NoAxis => k_is)
    (case no_NoAxis => k_is)
    (case ga_NoMember => k_is)
    (case gg_NoMember => k_is)
    (case xh_NoMember => k_is)
    (case cA_NoMember => k_is)
    (case no_NoMember => k_is)
    (case ga_Twice => k_is)
    (case gg_Twice => k_is)
    (case xh_Twice => k_is)
    (case cA_Twice => k_is)
    (case no_Twice => k_is)
    (case ga_OtherSpace => k_is)
    (case gg_OtherSpace => k_is)
    (case xh_OtherSpace => k_is)
    (case cA_OtherSpace => k_is)
    (case no_OtherSpace => k_is)
    (case ga_NoTable => k_is)
    (case gg_NoTable => k_is)
    (case xh_NoTable => k_is)
    (case cA_NoTable => k_is)
    (case no_NoTable => k_is)
    (case ga_NoRows => k_is)
    (case gg_NoRows => k_is)
    (case xh_NoRows => k_is)
    (case cA_NoRows => k_is)
    (case no_NoRows => k_is)
    (case ga_NoLinear => k_is)
    (case gg_NoLinear => k_is)
    (case xh_NoLinear => k_is)
    (case cA_NoLinear => k_is)
    (case no_NoLinear => k_is)
    (case ga_NoQuotient => k_is)
    (case gg_NoQuotient => k_is)
    (case xh_NoQuotient => k_is)
    (case cA_NoQuotient => k_is)
    (case no_NoQuotient => k_is)
    (case ga_NoPart => k_is)
    (case gg_NoPart => k_is)
    (case xh_NoPart => k_is)
    (case cA_NoPart => k_is)
    (case no_NoPart => k_is)
    (case ga_Full => k_is)
    (case gg_Full => k_is)
    (case xh_Full => k_is)
    (case cA_Full => k_is)
    (case no_Full => k_is)
    (case ga_NoSuch => k_is)
    (case gg_NoSuch => k_is)
    (case xh_NoSuch => k_is)
    (case cA_NoSuch => k_is)
    (case no_NoSuch => k_is)
    (case ga_NoValues => k_is)
    (case gg_NoValues => k_is)
    (case xh_NoValues => k_is)
    (case cA_NoValues => k_is)
    (case no_NoValues => k_is)
    (case ga_PartError => k_is)
    (case gg_PartError => k_is)
    (case xh_PartError => k_is)
    (case cA_PartError => k_is)
    (case no_PartError => k_is)
    (case xc_NoSpace => k_is)
    (case xs_NoName_NoSpace => first | rfl | k_is)
    (case xs_NoSpace_NoSpace => first | rfl | k_is)
    (case xs_NoRatio_NoSpace => first | rfl | k_is)
    (case xs_NoCell_NoSpace => first | rfl | k_is)
    (case xs_NoAxis_NoSpace => first | rfl | k_is)
    (case xs_NoMember_NoSpace => first | rfl | k_is)
    (case xs_Twice_NoSpace => first | rfl | k_is)
    (case xs_OtherSpace_NoSpace => first | rfl | k_is)
    (case xs_NoTable_NoSpace => first | rfl | k_is)
    (case xs_NoRows_NoSpace => first | rfl | k_is)
    (case xs_NoLinear_NoSpace => first | rfl | k_is)
    (case xs_NoQuotient_NoSpace => first | rfl | k_is)
    (case xs_NoPart_NoSpace => first | rfl | k_is)
    (case xs_Full_NoSpace => first | rfl | k_is)
    (case xs_NoSuch_NoSpace => first | rfl | k_is)
    (case xs_NoValues_NoSpace => first | rfl | k_is)
    (case xs_PartError_NoSpace => first | rfl | k_is)
    (case xc_NoRatio => k_is)
    (case xs_NoName_NoRatio => first | rfl | k_is)
    (case xs_NoRatio_NoRatio => first | rfl | k_is)
    (case xs_NoSpace_NoRatio => first | rfl | k_is)
    (case xs_NoCell_NoRatio => first | rfl | k_is)
    (case xs_NoAxis_NoRatio => first | rfl | k_is)
    (case xs_NoMember_NoRatio => first | rfl | k_is)
    (case xs_Twice_NoRatio => first | rfl | k_is)
    (case xs_OtherSpace_NoRatio => first | rfl | k_is)
    (case xs_NoTable_NoRatio => first | rfl | k_is)
    (case xs_NoRows_NoRatio => first | rfl | k_is)
    (case xs_NoLinear_NoRatio => first | rfl | k_is)
    (case xs_NoQuotient_NoRatio => first | rfl | k_is)
    (case xs_NoPart_NoRatio => first | rfl | k_is)
    (case xs_Full_NoRatio => first | rfl | k_is)
    (case xs_NoSuch_NoRatio => first | rfl | k_is)
    (case xs_NoValues_NoRatio => first | rfl | k_is)
    (case xs_PartError_NoRatio => first | rfl | k_is)
    (case xc_NoName => k_is)
    (case xs_NoRatio_NoName => first | rfl | k_is)
    (case xs_NoName_NoName => first | rfl | k_is)
    (case xs_NoSpace_NoName => first | rfl | k_is)
    (case xs_NoCell_NoName => first | rfl | k_is)
    (case xs_NoAxis_NoName => first | rfl | k_is)
    (case xs_NoMember_NoName => first | rfl | k_is)
    (case xs_Twice_NoName => first | rfl | k_is)
    (case xs_OtherSpace_NoName => first | rfl | k_is)
    (case xs_NoTable_NoName => first | rfl | k_is)
    (case xs_NoRows_NoName => first | rfl | k_is)
    (case xs_NoLinear_NoName => first | rfl | k_is)
    (case xs_NoQuotient_NoName => first | rfl | k_is)
    (case xs_NoPart_NoName => first | rfl | k_is)
    (case xs_Full_NoName => first | rfl | k_is)
    (case xs_NoSuch_NoName => first | rfl | k_is)
    (case xs_NoValues_NoName => first | rfl | k_is)
    (case xs_PartError_NoName => first | rfl | k_is)
    (case xc_Twice => k_is)
    (case xs_NoName_Twice => first | rfl | k_is)
    (case xs_Twice_Twice => first | rfl | k_is)
    (case xs_NoRatio_Twice => first | rfl | k_is)
    (case xs_NoSpace_Twice => first | rfl | k_is)
    (case xs_NoCell_Twice => first | rfl | k_is)
    (case xs_NoAxis_Twice => first | rfl | k_is)
    (case xs_NoMember_Twice => first | rfl | k_is)
    (case xs_OtherSpace_Twice => first | rfl | k_is)
    (case xs_NoTable_Twice => first | rfl | k_is)
    (case xs_NoRows_Twice => first | rfl | k_is)
    (case xs_NoLinear_Twice => first | rfl | k_is)
    (case xs_NoQuotient_Twice => first | rfl | k_is)
    (case xs_NoPart_Twice => first | rfl | k_is)
    (case xs_Full_Twice => first | rfl | k_is)
    (case xs_NoSuch_Twice => first | rfl | k_is)
    (case xs_NoValues_Twice => first | rfl | k_is)
    (case xs_PartError_Twice => first | rfl | k_is)
    (case xc_NoMember => k_is)
    (case xs_NoName_NoMember => first | rfl | k_is)
    (case xs_NoMember_NoMember => first | rfl | k_is)
    (case xs_NoRatio_NoMember => first | rfl | k_is)
    (case xs_NoSpace_NoMember => first | rfl | k_is)
    (case xs_NoCell_NoMember => first | rfl | k_is)
    (case xs_NoAxis_NoMember => first | rfl | k_is)
    (case xs_Twice_NoMember => first | rfl | k_is)
    (case xs_OtherSpace_NoMember => first | rfl | k_is)
    (case xs_NoTable_NoMember => first | rfl | k_is)
    (case xs_NoRows_NoMember => first | rfl | k_is)
    (case xs_NoLinear_NoMember => first | rfl | k_is)
    (case xs_NoQuotient_NoMember => first | rfl | k_is)
    (case xs_NoPart_NoMember => first | rfl | k_is)
    (case xs_Full_NoMember => first | rfl | k_is)
    (case xs_NoSuch_NoMember => first | rfl | k_is)
    (case xs_NoValues_NoMember => first | rfl | k_is)
    (case xs_PartError_NoMember => first | rfl | k_is)
    (case xc_NoAxis => k_is)
    (case xs_NoName_NoAxis => first | rfl | k_is)
    (case xs_NoAxis_NoAxis => first | rfl | k_is)
    (case xs_NoRatio_NoAxis => first | rfl | k_is)
    (case xs_NoSpace_NoAxis => first | rfl | k_is)
    (case xs_NoCell_NoAxis => first | rfl | k_is)
    (case xs_NoMember_NoAxis => first | rfl | k_is)
    (case xs_Twice_NoAxis => first | rfl | k_is)
    (case xs_OtherSpace_NoAxis => first | rfl | k_is)
    (case xs_NoTable_NoAxis => first | rfl | k_is)
    (case xs_NoRows_NoAxis => first | rfl | k_is)
    (case xs_NoLinear_NoAxis => first | rfl | k_is)
    (case xs_NoQuotient_NoAxis => first | rfl | k_is)
    (case xs_NoPart_NoAxis => first | rfl | k_is)
    (case xs_Full_NoAxis => first | rfl | k_is)
    (case xs_NoSuch_NoAxis => first | rfl | k_is)
    (case xs_NoValues_NoAxis => first | rfl | k_is)
    (case xs_PartError_NoAxis => first | rfl | k_is)
    (case xc_NoRows => k_is)
    (case xs_NoName_NoRows => first | rfl | k_is)
    (case xs_NoRows_NoRows => first | rfl | k_is)
    (case xs_NoRatio_NoRows => first | rfl | k_is)
    (case xs_NoSpace_NoRows => first | rfl | k_is)
    (case xs_NoCell_NoRows => first | rfl | k_is)
    (case xs_NoAxis_NoRows => first | rfl | k_is)
    (case xs_NoMember_NoRows => first | rfl | k_is)
    (case xs_Twice_NoRows => first | rfl | k_is)
    (case xs_OtherSpace_NoRows => first | rfl | k_is)
    (case xs_NoTable_NoRows => first | rfl | k_is)
    (case xs_NoLinear_NoRows => first | rfl | k_is)
    (case xs_NoQuotient_NoRows => first | rfl | k_is)
    (case xs_NoPart_NoRows => first | rfl | k_is)
    (case xs_Full_NoRows => first | rfl | k_is)
    (case xs_NoSuch_NoRows => first | rfl | k_is)
    (case xs_NoValues_NoRows => first | rfl | k_is)
    (case xs_PartError_NoRows => first | rfl | k_is)
    (case xc_NoTable => k_is)
    (case xs_NoName_NoTable => first | rfl | k_is)
    (case xs_NoTable_NoTable => first | rfl | k_is)
    (case xs_NoRatio_NoTable => first | rfl | k_is)
    (case xs_NoSpace_NoTable => first | rfl | k_is)
    (case xs_NoCell_NoTable => first | rfl | k_is)
    (case xs_NoAxis_NoTable => first | rfl | k_is)
    (case xs_NoMember_NoTable => first | rfl | k_is)
    (case xs_Twice_NoTable => first | rfl | k_is)
    (case xs_OtherSpace_NoTable => first | rfl | k_is)
    (case xs_NoRows_NoTable => first | rfl | k_is)
    (case xs_NoLinear_NoTable => first | rfl | k_is)
    (case xs_NoQuotient_NoTable => first | rfl | k_is)
    (case xs_NoPart_NoTable => first | rfl | k_is)
    (case xs_Full_NoTable => first | rfl | k_is)
    (case xs_NoSuch_NoTable => first | rfl | k_is)
    (case xs_NoValues_NoTable => first | rfl | k_is)
    (case xs_PartError_NoTable => first | rfl | k_is)
    (case xc_OtherSpace => k_is)
    (case xs_NoName_OtherSpace => first | rfl | k_is)
    (case xs_OtherSpace_OtherSpace => first | rfl | k_is)
    (case xs_NoRatio_OtherSpace => first | rfl | k_is)
    (case xs_NoSpace_OtherSpace => first | rfl | k_is)
    (case xs_NoCell_OtherSpace => first | rfl | k_is)
    (case xs_NoAxis_OtherSpace => first | rfl | k_is)
    (case xs_NoMember_OtherSpace => first | rfl | k_is)
    (case xs_Twice_OtherSpace => first | rfl | k_is)
    (case xs_NoTable_OtherSpace => first | rfl | k_is)
    (case xs_NoRows_OtherSpace => first | rfl | k_is)
    (case xs_NoLinear_OtherSpace => first | rfl | k_is)
    (case xs_NoQuotient_OtherSpace => first | rfl | k_is)
    (case xs_NoPart_OtherSpace => first | rfl | k_is)
    (case xs_Full_OtherSpace => first | rfl | k_is)
    (case xs_NoSuch_OtherSpace => first | rfl | k_is)
    (case xs_NoValues_OtherSpace => first | rfl | k_is)
    (case xs_PartError_OtherSpace => first | rfl | k_is)
    (case xc_NoPart => k_is)
    (case xs_NoName_NoPart => first | rfl | k_is)
    (case xs_NoPart_NoPart => first | rfl | k_is)
    (case xs_NoRatio_NoPart => first | rfl | k_is)
    (case xs_NoSpace_NoPart => first | rfl | k_is)
    (case xs_NoCell_NoPart => first | rfl | k_is)
    (case xs_NoAxis_NoPart => first | rfl | k_is)
    (case xs_NoMember_NoPart => first | rfl | k_is)
    (case xs_Twice_NoPart => first | rfl | k_is)
    (case xs_OtherSpace_NoPart => first | rfl | k_is)
    (case xs_NoTable_NoPart => first | rfl | k_is)
    (case xs_NoRows_NoPart => first | rfl | k_is)
    (case xs_NoLinear_NoPart => first | rfl | k_is)
    (case xs_NoQuotient_NoPart => first | rfl | k_is)
    (case xs_Full_NoPart => first | rfl | k_is)
    (case xs_NoSuch_NoPart => first | rfl | k_is)
    (case xs_NoValues_NoPart => first | rfl | k_is)
    (case xs_PartError_NoPart => first | rfl | k_is)
    (case xc_NoQuotient => k_is)
    (case xs_NoName_NoQuotient => first | rfl | k_is)
    (case xs_NoQuotient_NoQuotient => first | rfl | k_is)
    (case xs_NoRatio_NoQuotient => first | rfl | k_is)
    (case xs_NoSpace_NoQuotient => first | rfl | k_is)
    (case xs_NoCell_NoQuotient => first | rfl | k_is)
    (case xs_NoAxis_NoQuotient => first | rfl | k_is)
    (case xs_NoMember_NoQuotient => first | rfl | k_is)
    (case xs_Twice_NoQuotient => first | rfl | k_is)
    (case xs_OtherSpace_NoQuotient => first | rfl | k_is)
    (case xs_NoTable_NoQuotient => first | rfl | k_is)
    (case xs_NoRows_NoQuotient => first | rfl | k_is)
    (case xs_NoLinear_NoQuotient => first | rfl | k_is)
    (case xs_NoPart_NoQuotient => first | rfl | k_is)
    (case xs_Full_NoQuotient => first | rfl | k_is)
    (case xs_NoSuch_NoQuotient => first | rfl | k_is)
    (case xs_NoValues_NoQuotient => first | rfl | k_is)
    (case xs_PartError_NoQuotient => first | rfl | k_is)
    (case xc_NoLinear => k_is)
    (case xs_NoName_NoLinear => first | rfl | k_is)
    (case xs_NoLinear_NoLinear => first | rfl | k_is)
    (case xs_NoRatio_NoLinear => first | rfl | k_is)
    (case xs_NoSpace_NoLinear => first | rfl | k_is)
    (case xs_NoCell_NoLinear => first | rfl | k_is)
    (case xs_NoAxis_NoLinear => first | rfl | k_is)
    (case xs_NoMember_NoLinear => first | rfl | k_is)
    (case xs_Twice_NoLinear => first | rfl | k_is)
    (case xs_OtherSpace_NoLinear => first | rfl | k_is)
    (case xs_NoTable_NoLinear => first | rfl | k_is)
    (case xs_NoRows_NoLinear => first | rfl | k_is)
    (case xs_NoQuotient_NoLinear => first | rfl | k_is)
    (case xs_NoPart_NoLinear => first | rfl | k_is)
    (case xs_Full_NoLinear => first | rfl | k_is)
    (case xs_NoSuch_NoLinear => first | rfl | k_is)
    (case xs_NoValues_NoLinear => first | rfl | k_is)
    (case xs_PartError_NoLinear => first | rfl | k_is)
    (case xc_NoValues => k_is)
    (case xs_NoName_NoValues => first | rfl | k_is)
    (case xs_NoValues_NoValues => first | rfl | k_is)
    (case xs_NoRatio_NoValues => first | rfl | k_is)
    (case xs_NoSpace_NoValues => first | rfl | k_is)
    (case xs_NoCell_NoValues => first | rfl | k_is)
    (case xs_NoAxis_NoValues => first | rfl | k_is)
    (case xs_NoMember_NoValues => first | rfl | k_is)
    (case xs_Twice_NoValues => first | rfl | k_is)
    (case xs_OtherSpace_NoValues => first | rfl | k_is)
    (case xs_NoTable_NoValues => first | rfl | k_is)
    (case xs_NoRows_NoValues => first | rfl | k_is)
    (case xs_NoLinear_NoValues => first | rfl | k_is)
    (case xs_NoQuotient_NoValues => first | rfl | k_is)
    (case xs_NoPart_NoValues => first | rfl | k_is)
    (case xs_Full_NoValues => first | rfl | k_is)
    (case xs_NoSuch_NoValues => first | rfl | k_is)
    (case xs_PartError_NoValues => first | rfl | k_is)
    (case xc_NoSuch => k_is)
    (case xs_NoName_NoSuch => first | rfl | k_is)
    (case xs_NoSuch_NoSuch => first | rfl | k_is)
    (case xs_NoRatio_NoSuch => first | rfl | k_is)
    (case xs_NoSpace_NoSuch => first | rfl | k_is)
    (case xs_NoCell_NoSuch => first | rfl | k_is)
    (case xs_NoAxis_NoSuch => first | rfl | k_is)
    (case xs_NoMember_NoSuch => first | rfl | k_is)
    (case xs_Twice_NoSuch => first | rfl | k_is)
    (case xs_OtherSpace_NoSuch => first | rfl | k_is)
    (case xs_NoTable_NoSuch => first | rfl | k_is)
    (case xs_NoRows_NoSuch => first | rfl | k_is)
    (case xs_NoLinear_NoSuch => first | rfl | k_is)
    (case xs_NoQuotient_NoSuch => first | rfl | k_is)
    (case xs_NoPart_NoSuch => first | rfl | k_is)
    (case xs_Full_NoSuch => first | rfl | k_is)
    (case xs_NoValues_NoSuch => first | rfl | k_is)
    (case xs_PartError_NoSuch => first | rfl | k_is)
    (case xc_Full => k_is)
    (case xs_NoName_Full => first | rfl | k_is)
    (case xs_Full_Full => first | rfl | k_is)
    (case xs_NoRatio_Full => first | rfl | k_is)
    (case xs_NoSpace_Full => first | rfl | k_is)
    (case xs_NoCell_Full => first | rfl | k_is)
    (case xs_NoAxis_Full => first | rfl | k_is)
    (case xs_NoMember_Full => first | rfl | k_is)
    (case xs_Twice_Full => first | rfl | k_is)
    (case xs_OtherSpace_Full => first | rfl | k_is)
    (case xs_NoTable_Full => first | rfl | k_is)
    (case xs_NoRows_Full => first | rfl | k_is)
    (case xs_NoLinear_Full => first | rfl | k_is)
    (case xs_NoQuotient_Full => first | rfl | k_is)
    (case xs_NoPart_Full => first | rfl | k_is)
    (case xs_NoSuch_Full => first | rfl | k_is)
    (case xs_NoValues_Full => first | rfl | k_is)
    (case xs_PartError_Full => first | rfl | k_is)
    (case xc_PartError => k_is)
    (case xs_NoName_PartError => first | rfl | k_is)
    (case xs_NoRatio_PartError => first | rfl | k_is)
    (case xs_NoSpace_PartError => first | rfl | k_is)
    (case xs_NoCell_PartError => first | rfl | k_is)
    (case xs_NoAxis_PartError => first | rfl | k_is)
    (case xs_NoMember_PartError => first | rfl | k_is)
    (case xs_Twice_PartError => first | rfl | k_is)
    (case xs_OtherSpace_PartError => first | rfl | k_is)
    (case xs_NoTable_PartError => first | rfl | k_is)
    (case xs_NoRows_PartError => first | rfl | k_is)
    (case xs_NoLinear_PartError => first | rfl | k_is)
    (case xs_NoQuotient_PartError => first | rfl | k_is)
    (case xs_NoPart_PartError => first | rfl | k_is)
    (case xs_Full_PartError => first | rfl | k_is)
    (case xs_NoSuch_PartError => first | rfl | k_is)
    (case xs_NoValues_PartError => first | rfl | k_is)
    (case xb_NoName_ValueError => first | rfl | k_is)
    (case xb_NoRatio_ValueError => first | rfl | k_is)
    (case xb_NoSpace_ValueError => first | rfl | k_is)
    (case xb_NoCell_ValueError => first | rfl | k_is)
    (case xb_NoAxis_ValueError => first | rfl | k_is)
    (case xb_NoMember_ValueError => first | rfl | k_is)
    (case xb_Twice_ValueError => first | rfl | k_is)
    (case xb_OtherSpace_ValueError => first | rfl | k_is)
    (case xb_NoTable_ValueError => first | rfl | k_is)
    (case xb_NoRows_ValueError => first | rfl | k_is)
    (case xb_NoLinear_ValueError => first | rfl | k_is)
    (case xb_NoQuotient_ValueError => first | rfl | k_is)
    (case xb_NoPart_ValueError => first | rfl | k_is)
    (case xb_Full_ValueError => first | rfl | k_is)
    (case xb_NoSuch_ValueError => first | rfl | k_is)
    (case xb_NoValues_ValueError => first | rfl | k_is)
    (case xb_PartError_ValueError => first | rfl | k_is)
    (case z_ValueError => k_is)
    (case z_int => k_is)
    (case z_isinstance => k_is)
    (case z_len => k_is)
    (case z_range => k_is)
    (case z_str => k_is)
#print axioms PySem.Challenge.cw_partstell_k19_errors_told_holds
