import PyProof.Rows.All
import Wide.All
import OpenK.AllK
import Wide.FinOn
import HandS.ForMost
import HandS.ForExc
import HandS.Wide
import HandS.IsInst
import HandS.Defaults
import HandS.ExcInit
import HandS.ExcField
import HandS.Flow
import HandS.Style
import HandS.OwnEq
import HandS.RaiseOp
import PyProof.ListMulRoad
import PyProof.FactsAll.int
import HandS.FStr
import PySem.Challenge.RW_partstell_k02_ratio_order
set_option Elab.async false
set_option linter.all false
set_option maxRecDepth 100000
set_option maxHeartbeats 4000000
set_option exponentiation.threshold 100000
/-! Operators of an own class, with ints on either side. -/
namespace Pt
open PySem PySem.Spec PyProof.Rows L2
open Builtin
/-- an object that is no int -/
def plainObj (C dx : Addr) : Obj := PySem.W.instObj C dx
section
variable (a : Int) (t : Tok) (l C dx : Addr)
abbrev Decl (B : Builtin) (a : Int) (t : Tok) (l C dx : Addr) : Prop := Meets (B ⟨[.int a t, .ref l], []⟩) (fun _ R s => s.heap.get? l = some (PySem.W.instObj C dx) ∧ R (.ok (.ret Value.notImplemented)) s)
theorem dec_add : Decl Builtin.«int.__add__» a t l C dx := .of_wp fun prog w A R s h => by
  obtain ⟨hp, g, d, tk, os⟩ := s; obtain ⟨hl, h⟩ := h; unfold PySem.W.instObj at hl; wp_walk; exact ⟨_, rfl, h⟩
theorem dec_sub : Decl Builtin.«int.__sub__» a t l C dx := .of_wp fun prog w A R s h => by
  obtain ⟨hp, g, d, tk, os⟩ := s; obtain ⟨hl, h⟩ := h; unfold PySem.W.instObj at hl; wp_walk; exact ⟨_, rfl, h⟩
theorem dec_mul : Decl Builtin.«int.__mul__» a t l C dx := .of_wp fun prog w A R s h => by
  obtain ⟨hp, g, d, tk, os⟩ := s; obtain ⟨hl, h⟩ := h; unfold PySem.W.instObj at hl; wp_walk; exact ⟨_, rfl, h⟩
theorem dec_mod : Decl Builtin.«int.__mod__» a t l C dx := .of_wp fun prog w A R s h => by
  obtain ⟨hp, g, d, tk, os⟩ := s; obtain ⟨hl, h⟩ := h; unfold PySem.W.instObj at hl; wp_walk; exact ⟨_, rfl, h⟩
theorem dec_floordiv : Decl Builtin.«int.__floordiv__» a t l C dx := .of_wp fun prog w A R s h => by
  obtain ⟨hp, g, d, tk, os⟩ := s; obtain ⟨hl, h⟩ := h; unfold PySem.W.instObj at hl; wp_walk; exact ⟨_, rfl, h⟩
theorem dec_lt : Decl Builtin.«int.__lt__» a t l C dx := .of_wp fun prog w A R s h => by
  obtain ⟨hp, g, d, tk, os⟩ := s; obtain ⟨hl, h⟩ := h; unfold PySem.W.instObj at hl; wp_walk; exact ⟨_, rfl, h⟩
theorem dec_le : Decl Builtin.«int.__le__» a t l C dx := .of_wp fun prog w A R s h => by
  obtain ⟨hp, g, d, tk, os⟩ := s; obtain ⟨hl, h⟩ := h; unfold PySem.W.instObj at hl; wp_walk; exact ⟨_, rfl, h⟩
theorem dec_gt : Decl Builtin.«int.__gt__» a t l C dx := .of_wp fun prog w A R s h => by
  obtain ⟨hp, g, d, tk, os⟩ := s; obtain ⟨hl, h⟩ := h; unfold PySem.W.instObj at hl; wp_walk; exact ⟨_, rfl, h⟩
theorem dec_ge : Decl Builtin.«int.__ge__» a t l C dx := .of_wp fun prog w A R s h => by
  obtain ⟨hp, g, d, tk, os⟩ := s; obtain ⟨hl, h⟩ := h; unfold PySem.W.instObj at hl; wp_walk; exact ⟨_, rfl, h⟩
theorem dec_eq : Decl Builtin.«int.__eq__» a t l C dx := .of_wp fun prog w A R s h => by
  obtain ⟨hp, g, d, tk, os⟩ := s; obtain ⟨hl, h⟩ := h; unfold PySem.W.instObj at hl; wp_walk; exact ⟨_, rfl, h⟩
theorem dec_ne : Decl Builtin.«int.__ne__» a t l C dx := .of_wp fun prog w A R s h => by
  obtain ⟨hp, g, d, tk, os⟩ := s; obtain ⟨hl, h⟩ := h; unfold PySem.W.instObj at hl; wp_walk; exact ⟨_, rfl, h⟩
end
end Pt

namespace Pt
open PySem PySem.Spec PyProof.Rows L2
open PySem.W (findIn isFn subIn selfFirst Looks looks_findIn looks_subIn looks_clsIn clsIn InstAt special_fn fills_K)
/-- what an int declines: the place of an operator's method in int -/
structure IntDec (nm : Str) (f : Str) where
  id : String
  B : Builtin
  slot : Slot "int" f id
  entry : entryFor table id = some B
  args : ∀ a b, argsOk id ⟨[a, b], []⟩
  dec : ∀ a t l C dx, Decl B a t l C dx
section
variable {prog : Program} {w : World} {A : Around} {E : Value → Shared → Prop} {s : Shared} {K : PySem.W.Frag} {x C f : Addr} {ox : Obj} {od : Option Obj} {nm : Str}
theorem int_declines {fn : Str} (D : IntDec nm fn) {i : Int} {t : Tok} {dx : Addr} {Q : Value → Shared → Prop} (h : s.heap.get? x = some (PySem.W.instObj C dx)) (q : Q .notImplemented s) :
    wpAny (model prog w) A (call (.builtin D.id) [.int i t, .ref x]) Q E s :=
  call_meets D.slot (typeIs_int s i t) D.entry (D.args _ _) (D.dec i t x C dx) ⟨h, q⟩

/-- what an operator of the class at C is: its own method g, the reflected one f -/
structure OwnBin (K : PySem.W.Frag) (C : Addr) (op : Operator) (g : Addr) (rc : Option Value) : Prop where
  first : selfFirst K C = true
  mro : ∃ cd, clsIn K C = some cd ∧ cd.mro = [.ref C, .type "object"]
  here : findIn K (.ref C) (PySem.dunder op.info.2) = some (some (.ref g))
  fn : isFn K (.ref g) = true
  refl : findIn K (.ref C) (dunderR op.info.2) = some rc
  kind : rc = none ∨ ∃ f : Addr, rc = some (.ref f) ∧ isFn K (.ref f) = true
  noI : findIn K (.ref C) (dunderI op.info.2) = some none
  sub1 : subIn K (.ref C) (.type "int") = some false
  sub2 : subIn K (.type "int") (.ref C) = some false
/-- int, as operand of it -/
structure IntBin (op : Operator) where
  D : IntDec op.info.2 (PySem.dunder op.info.2)
  fills : fillsNumberSlot (.type "int") op.info.2 = pure true
  noI : typeLookup (.type "int") (dunderI op.info.2) = pure none
  ro : Option Value
  refl : typeLookup (.type "int") (dunderR op.info.2) = pure ro
abbrev Gets (Q : Value → Shared → Prop) : Option Value → Shared → Prop := fun r s' => ∃ v, r = some v ∧ Q v s'
theorem bin1_own_own {op : Operator} {rc : Option Value} {b : Value} {Q : Value → Shared → Prop} (X : K.In s.heap) (I : InstAt s.heap x ox C od) (hb : Looks (model prog w) s.heap (typeOf b) (.ref C)) (T : OwnBin K C op g rc)
    (h : wpAny (model prog w) A (call (.ref g) [.ref x, b]) (PySem.W.CmpBack Q) E s) : wpAny (model prog w) A (binaryOp1 op.info.2 (.ref x) b) (Gets Q) E s := by
  obtain ⟨cd, rest, hcd, hm⟩ := PySem.W.ksp_first T.first
  have hs := T.here
  generalize op.info.2 = nm' at hs
  have one := PySem.W.ksp_try X I hs T.fn h
  obtain ⟨hh, g', d, tt, os⟩ := s
  have Ta : Looks (model prog w) hh (typeOf (.ref x)) (.ref C) := I.type
  have Fa : Looks (model prog w) hh (fillsNumberSlot (.ref C) nm') true := fills_K X hcd hm hs
  unfold binaryOp1
  refine wpAny_bind (Ta.at (wpAny_bind (hb.at (wpAny_bind (Fa.at ?_)))))
  simp only [beq_self_eq_true, if_true, pure_bind, Bool.and_false, Bool.false_eq_true, if_false, Bool.false_and]
  refine wpAny_bind (wpAny_mono one (fun r s' hr' => ?_) fun _ _ e => e)
  obtain ⟨v, rfl, hq⟩ := hr'
  exact wpAny_pure ⟨v, rfl, hq⟩
theorem bin1_own_int {op : Operator} {rc : Option Value} {i : Int} {t : Tok} {Q : Value → Shared → Prop} (X : K.In s.heap) (I : InstAt s.heap x ox C od) (T : OwnBin K C op g rc) (Z : IntBin op)
    (h : wpAny (model prog w) A (call (.ref g) [.ref x, .int i t]) (PySem.W.CmpBack Q) E s) : wpAny (model prog w) A (binaryOp1 op.info.2 (.ref x) (.int i t)) (Gets Q) E s := by
  obtain ⟨cd, rest, hcd, hm⟩ := PySem.W.ksp_first T.first
  have hs := T.here
  have hr := T.refl
  have hp : rc = none ∨ ∃ f : Addr, rc = some (.ref f) := T.kind.imp id fun ⟨f, e, _⟩ => ⟨f, e⟩
  have hfi := Z.fills
  have hro := Z.refl
  generalize Z.ro = ro at hro
  generalize op.info.2 = nm' at hs hr hfi hro
  have one := PySem.W.ksp_try X I hs T.fn h
  obtain ⟨hh, g', d, tt, os⟩ := s
  have Ta : Looks (model prog w) hh (typeOf (.ref x)) (.ref C) := I.type
  have Tb : Looks (model prog w) hh (typeOf (.int i t)) (.type "int") := Looks.of_pure rfl
  have Fa : Looks (model prog w) hh (fillsNumberSlot (.ref C) nm') true := fills_K X hcd hm hs
  have Fb : Looks (model prog w) hh (fillsNumberSlot (.type "int") nm') true := Looks.of_pure hfi
  have Sb : Looks (model prog w) hh (isSubtype (.type "int") (.ref C)) false := looks_subIn X T.sub2
  have Pa : Looks (model prog w) hh (numberSlotInPython (.ref C) nm') true := PySem.W.ksp_inPy X hs hr hp
  have Pb : Looks (model prog w) hh (numberSlotInPython (.type "int") nm') false := Looks.of_pure rfl
  have Rb : Looks (model prog w) hh (typeLookup (.type "int") (dunderR nm')) ro := Looks.of_pure hro
  have hne : (Value.ref C == Value.type "int") = false := Bool.eq_false_iff.mpr fun q => by cases beq_iff_eq.mp q
  unfold binaryOp1
  refine wpAny_bind (Ta.at (wpAny_bind (Tb.at (wpAny_bind (Fa.at ?_)))))
  simp only [hne, Bool.false_eq_true, if_false]
  refine wpAny_bind (Fb.at ?_)
  simp only [Bool.and_self, if_true]
  refine wpAny_bind (Sb.at ?_)
  simp only [Bool.false_eq_true, if_false, pure_bind, Bool.not_false, Bool.and_self, if_true]
  refine wpAny_bind (Pa.at ?_)
  simp only [if_true]
  refine wpAny_bind (Pb.at ?_)
  simp only [Bool.not_false, if_true]
  refine wpAny_bind (Rb.at ?_)
  refine wpAny_bind (wpAny_mono one (fun r s' hr' => ?_) fun _ _ e => e)
  obtain ⟨v, rfl, hq⟩ := hr'
  exact wpAny_pure ⟨v, rfl, hq⟩
theorem bin1_int_own {op : Operator} {i : Int} {t : Tok} {dx : Addr} {Q : Value → Shared → Prop} (X : K.In s.heap) (I : InstAt s.heap x (PySem.W.instObj C dx) C od) (T : OwnBin K C op g (some (.ref f))) (hf : isFn K (.ref f) = true) (Z : IntBin op)
    (h : wpAny (model prog w) A (call (.ref f) [.ref x, .int i t]) (PySem.W.CmpBack Q) E s) : wpAny (model prog w) A (binaryOp1 op.info.2 (.int i t) (.ref x)) (Gets Q) E s := by
  obtain ⟨cd, rest, hcd, hm⟩ := PySem.W.ksp_first T.first
  have hs := T.here
  have hr := T.refl
  have hfi := Z.fills
  obtain ⟨id, B, slot, entry, args, dec⟩ := Z.D
  generalize op.info.2 = nm' at hs hr hfi slot
  have one := PySem.W.ksp_try X I hr hf h
  have decl : ∀ {Q' : Option Value → Shared → Prop}, Q' none s → wpAny (model prog w) A (tryMethod (.int i t) (PySem.dunder nm') (.ref x)) Q' E s := fun {Q'} q =>
    wpAny_tryMethod_declines (typeIs_int s i t) slot (call_meets slot (typeIs_int s i t) entry (args _ _) (dec i t x C dx) ⟨I.at_, rfl, q⟩)
  obtain ⟨hh, g', d, tt, os⟩ := s
  have Tx : Looks (model prog w) hh (typeOf (.ref x)) (.ref C) := I.type
  have Ti : Looks (model prog w) hh (typeOf (.int i t)) (.type "int") := Looks.of_pure rfl
  have Fx : Looks (model prog w) hh (fillsNumberSlot (.ref C) nm') true := fills_K X hcd hm hs
  have Fi : Looks (model prog w) hh (fillsNumberSlot (.type "int") nm') true := Looks.of_pure hfi
  have Sx : Looks (model prog w) hh (isSubtype (.ref C) (.type "int")) false := looks_subIn X T.sub1
  have Pi : Looks (model prog w) hh (numberSlotInPython (.type "int") nm') false := Looks.of_pure rfl
  have hne : (Value.type "int" == Value.ref C) = false := Bool.eq_false_iff.mpr fun q => by cases beq_iff_eq.mp q
  unfold binaryOp1
  refine wpAny_bind (Ti.at (wpAny_bind (Tx.at (wpAny_bind (Fi.at ?_)))))
  simp only [hne, Bool.false_eq_true, if_false]
  refine wpAny_bind (Fx.at ?_)
  simp only [Bool.and_self, if_true]
  refine wpAny_bind (Sx.at ?_)
  simp only [Bool.false_eq_true, if_false, pure_bind, Bool.not_false, Bool.and_self, if_true]
  refine wpAny_bind (Pi.at ?_)
  simp only [Bool.false_eq_true, if_false, pure_bind]
  refine wpAny_bind (decl ?_)
  simp only [pure_bind, Bool.false_eq_true, if_false, if_true]
  refine wpAny_bind (wpAny_mono one (fun r s' hr' => ?_) fun _ _ e => e)
  obtain ⟨v, rfl, hq⟩ := hr'
  exact wpAny_bind (wpAny_rule (wpAny_pure ⟨v, rfl, hq⟩))
theorem bin_of1 {op : Operator} {a b : Value} {Q : Value → Shared → Prop} (h : wpAny (model prog w) A (binaryOp1 op.info.2 a b) (Gets Q) E s) : wpAny (model prog w) A (binaryOp op a b) Q E s := by
  rcases hi : op.info with ⟨sym, nm'⟩
  rw [hi] at h
  simp only [binaryOp, hi]
  refine wpAny_holding (wpAny_bind (wpAny_mono h (fun r s' hr' => ?_) fun _ _ e => e))
  obtain ⟨v, rfl, hq⟩ := hr'
  exact wpAny_pure hq
theorem inp_of1 {op : Operator} {a b ta : Value} {Q : Value → Shared → Prop} (Ta : Looks (model prog w) s.heap (typeOf a) ta) (Fi : Looks (model prog w) s.heap (fillsInplaceSlot ta op.info.2 (op == .Add)) false)
    (h : wpAny (model prog w) A (binaryOp1 op.info.2 a b) (Gets Q) E s) : wpAny (model prog w) A (inplaceOp op a b) Q E s := by
  obtain ⟨hh, g', d, tt, os⟩ := s
  unfold inplaceOp
  refine wpAny_holding (wpAny_bind (Ta.at (wpAny_bind (Fi.at ?_))))
  simp only [Bool.false_eq_true, if_false, pure_bind]
  refine wpAny_bind (wpAny_mono h (fun r s' hr' => ?_) fun _ _ e => e)
  obtain ⟨v, rfl, hq⟩ := hr'
  exact wpAny_pure hq
theorem noI_own {M : Model} {h : Heap} {op : Operator} {rc : Option Value} (X : K.In h) (T : OwnBin K C op g rc) (hO : typeLookup (.type "object") (dunderI op.info.2) = pure none) : Looks M h (fillsInplaceSlot (.ref C) op.info.2 (op == .Add)) false := by
  obtain ⟨cd, hcd, hm⟩ := T.mro
  intro A Q E s k q
  have Lm : Looks M h (mroOf (.ref C)) cd.mro := (looks_clsIn X hcd).andThen (f := fun cd => pure cd.mro) .now
  have Lm' := Lm.keeps k
  have L1 : Looks M h (typeLookup (.ref C) (dunderI op.info.2)) none := looks_findIn X T.noI
  have L1' := L1.keeps k
  have L2 : Looks M s.heap (typeLookup (.type "object") (dunderI op.info.2)) none := Looks.of_pure hO
  unfold fillsInplaceSlot
  refine wpAny_bind (Lm'.at ?_)
  rw [hm, List.anyM_cons]
  refine wpAny_bind (wpAny_bind (L1'.at ?_))
  refine wpAny_pure ?_
  simp only [Bool.false_eq_true, if_false]
  rw [List.anyM_cons]
  refine wpAny_bind (wpAny_bind (L2.at ?_))
  refine wpAny_pure ?_
  simp only [Bool.false_eq_true, if_false]
  exact wpAny_pure q
theorem noI_int {M : Model} {h : Heap} {op : Operator} (Z : IntBin op) : Looks M h (fillsInplaceSlot (.type "int") op.info.2 (op == .Add)) false := by
  refine Looks.of_pure ?_
  unfold fillsInplaceSlot
  show (typeLookup (.type "int") (dunderI op.info.2) >>= fun fi => pure (fi.isSome && !isSeqSlot fi)) = pure false
  rw [Z.noI]
  rfl
/-! comparisons -/
theorem cmp_int_own {op : CmpOp} {i : Int} {t : Tok} {dx : Addr} {Q : Value → Shared → Prop} (hu : A.units < cLine) (X : K.In s.heap) (I : InstAt s.heap x (PySem.W.instObj C dx) C od) (D : IntDec (cmpInfo op).2.1 (cmpInfo op).2.1)
    (hs : findIn K (.ref C) (cmpInfo op).2.2 = some (some (.ref f))) (hf : isFn K (.ref f) = true) (hsub : subIn K (.ref C) (.type "int") = some false)
    (h : wpAny (model prog w) A (call (.ref f) [.ref x, .int i t]) (PySem.W.CmpBack Q) E s) : wpAny (model prog w) A (richCompare op (.int i t) (.ref x)) Q E s := by
  have two : wpAny (model prog w) A (tryCompare (.ref x) (cmpInfo op).2.2 (.int i t)) (fun r s' => ∃ v, r = some v ∧ Q v s') E s := by
    unfold tryCompare
    refine wpAny_bind (PySem.W.ifBound_K X I hs hf (wpAny_mono h (fun v s' hv => ?_) fun _ _ e => e))
    cases v <;> first | exact hv.elim | exact wpAny_pure ⟨_, rfl, hv⟩
  have hs1 := D.slot
  have e1 := D.entry
  have a1 := D.args
  have d1 := D.dec
  rcases hi : cmpInfo op with ⟨sym, fa, fb⟩
  have decl : ∀ {Q' : Option Value → Shared → Prop}, Q' none s → wpAny (model prog w) A (tryCompare (.int i t) (cmpInfo op).2.1 (.ref x)) Q' E s := fun {Q'} q =>
    wpAny_tryCompare_declines (typeIs_int s i t) hs1 (call_meets hs1 (typeIs_int s i t) e1 (a1 _ _) (d1 i t x C dx) ⟨I.at_, rfl, q⟩)
  rw [hi] at decl two
  have Sx : Looks (model prog w) s.heap (isSubtype (.ref C) (.type "int")) false := looks_subIn X hsub
  have hne : (Value.type "int" != Value.ref C) = true := by
    show (!(Value.type "int" == Value.ref C)) = true
    rw [show (Value.type "int" == Value.ref C) = false from Bool.eq_false_iff.mpr fun q => by cases beq_iff_eq.mp q]
    rfl
  simp only [richCompare, hi, (typeIs_int s i t).oneThing_none]
  refine wpAny_holding (wpAny_bind (wpAny_cRoomFor hu ?_))
  refine wpAny_bind (wpAny_typeOf (typeIs_int s i t) (wpAny_bind (I.type.here ?_)))
  simp only [hne, if_true]
  refine wpAny_bind (Sx.here ?_)
  simp only [Bool.false_eq_true, if_false, Bool.not_false, if_true]
  refine wpAny_bind (decl ?_)
  refine wpAny_bind (wpAny_mono two (fun r s' z => ?_) fun _ _ e => e)
  obtain ⟨v, rfl, hq⟩ := z
  exact wpAny_pure hq
end
end Pt

namespace Pt
open PySem PySem.Spec PyProof.Rows L2
open PySem.W (findIn isFn subIn selfFirst Looks looks_findIn looks_subIn looks_clsIn clsIn InstAt special_fn fills_K)
/-! ints as operands -/
def intAdd : IntBin .Add := ⟨⟨_, _, F.slot_int_add, F.entry_int_add, F.args_int_add_2, dec_add⟩, F.fills_int_add, F.noI_int_add, _, F.slot_int_radd.lookup⟩
def intSub : IntBin .Sub := ⟨⟨_, _, F.slot_int_sub, F.entry_int_sub, F.args_int_sub_2, dec_sub⟩, F.fills_int_sub, F.noI_int_sub, _, F.slot_int_rsub.lookup⟩
def intMul : IntBin .Mult := ⟨⟨_, _, F.slot_int_mul, F.entry_int_mul, F.args_int_mul_2, dec_mul⟩, F.fills_int_mul, F.noI_int_mul, _, F.slot_int_rmul.lookup⟩
def intMod : IntBin .Mod := ⟨⟨_, _, F.slot_int_mod, F.entry_int_mod, F.args_int_mod_2, dec_mod⟩, F.fills_int_mod, F.noI_int_mod, _, F.slot_int_rmod.lookup⟩
def intFloor : IntBin .FloorDiv := ⟨⟨_, _, F.slot_int_floordiv, F.entry_int_floordiv, F.args_int_floordiv_2, dec_floordiv⟩, F.fills_int_floordiv, F.noI_int_floordiv, _, F.slot_int_rfloordiv.lookup⟩
def icLt : IntDec (cmpInfo .Lt).2.1 (cmpInfo .Lt).2.1 := ⟨_, _, F.slot_int_lt, F.entry_int_lt, F.args_int_lt_2, dec_lt⟩
def icLe : IntDec (cmpInfo .LtE).2.1 (cmpInfo .LtE).2.1 := ⟨_, _, F.slot_int_le, F.entry_int_le, F.args_int_le_2, dec_le⟩
def icGt : IntDec (cmpInfo .Gt).2.1 (cmpInfo .Gt).2.1 := ⟨_, _, F.slot_int_gt, F.entry_int_gt, F.args_int_gt_2, dec_gt⟩
def icGe : IntDec (cmpInfo .GtE).2.1 (cmpInfo .GtE).2.1 := ⟨_, _, F.slot_int_ge, F.entry_int_ge, F.args_int_ge_2, dec_ge⟩
def icEq : IntDec (cmpInfo .Eq).2.1 (cmpInfo .Eq).2.1 := ⟨_, _, F.slot_int_eq, F.entry_int_eq, F.args_int_eq_2, dec_eq⟩
/-! the rules -/
def OwnV (C : Addr) (H : Hp) (x : V) : Prop := ∃ a dx fs, x = V.ref a ∧ H a = some (.ins C dx fs)
structure BinOk (P : Program) (w : World) (K : PySem.W.Frag) (mg : Str → Option Value) (base : Heap) (C : Addr) (op : Operator) (CX : CXT) (k : Nat) (sp spr : Sp) : Prop where
  ex : ∃ (g f : Addr) (fd fdr : FuncData) (ps psr : List Str), OwnBin K C op g (some (.ref f)) ∧ isFn K (.ref f) = true ∧ FnOk P w K mg base CX k g fd ps sp ∧ Binds K fd ps [] ∧ FnOk P w K mg base CX k f fdr psr spr ∧ Binds K fdr psr []
section
variable {X : Cx} {C g f : Addr} {op : Operator} {CX : CXT} {k : Nat} {sp spr : Sp} {pins : List (Addr × Obj)} {σ : L2.St} {H : Hp} {s : Shared} {Q : VK} {E : XK} {x y : V} {u v : Value}
theorem vv1 (rx : RelV x u) : Vals [x] [u] := .cons rx .nil
theorem vv2 (rx : RelV x u) (ry : RelV y v) : Vals [x, y] [u, v] := .cons rx (.cons ry .nil)
theorem back_ep {z : Value} {s' : Shared} (h : EP X pins σ Q z s') : PySem.W.CmpBack (EP X pins σ Q) z s' := by
  cases z with
  | notImplemented =>
    obtain ⟨v, H', _, r, _⟩ := h
    cases v with
    | non => exact nomatch (show Value.notImplemented = Value.none from r)
    | bl b => exact nomatch (show Value.notImplemented = Value.bool b from r)
    | int i => obtain ⟨t, e⟩ := (show ∃ t, Value.notImplemented = Value.int i t from r); cases e
    | str i => obtain ⟨t, e⟩ := (show ∃ t, Value.notImplemented = Value.str i t from r); cases e
    | byt i => obtain ⟨t, e⟩ := (show ∃ t, Value.notImplemented = Value.bytes i t from r); cases e
    | flt i => obtain ⟨t, e⟩ := (show ∃ t, Value.notImplemented = Value.float i t from r); cases e
    | ref a => exact nomatch (show Value.notImplemented = Value.ref a from r)
    | ty n => exact nomatch (show Value.notImplemented = Value.type n from r)
  | _ => exact h
theorem run_back {fd : FuncData} {ps : List Str} {us : List Value} {vs : List V} (F : FnOk X.prog X.w X.K X.mg X.base CX k f fd ps sp) (hr : Room k X.A) (hb : Binds X.K fd ps []) (hx : PassesAt CX X σ E)
    (I : Inv X pins σ H s) (r : Vals vs us) (h : sp vs H Q E) : wpAny (model X.prog X.w) X.A (call (.ref f) us) (PySem.W.CmpBack (EP X pins σ Q)) X.xe s :=
  wpAny_mono (run_fnS (E := fun _ => E) F hr hb hx I r h) (fun _ _ z => back_ep z) fun _ _ z => z
theorem own_inst (I : Inv X pins σ H s) {a dx : Addr} {fs : List (Str × V)} (e : H a = some (.ins C dx fs)) : ∃ od, InstAt s.heap a (PySem.W.instObj C dx) C (some od) := by
  obtain ⟨mA, J, _⟩ := ins_get I.hok e
  obtain ⟨od, J, _⟩ := J.look
  exact ⟨od, J⟩
theorem run_bin1 (B : BinOk X.prog X.w X.K X.mg X.base C op CX k sp spr) (Z : IntBin op) (hr : Room k X.A) (hx : PassesAt CX X σ E) (I : Inv X pins σ H s) (rx : RelV x u) (ry : RelV y v)
    (h : (OwnV C H x ∧ (OwnV C H y ∨ ∃ j, y = .int j) ∧ sp [x, y] H Q E) ∨ ((∃ i, x = .int i) ∧ OwnV C H y ∧ spr [y, x] H Q E)) :
    wpAny (model X.prog X.w) X.A (binaryOp1 op.info.2 u v) (Gets (EP X pins σ Q)) X.xe s := by
  obtain ⟨g, f, fd, fdr, ps, psr, T, hf, Fg, bg, Ff, bf⟩ := B.ex
  rcases h with ⟨⟨a, dx, fs, rfl, ha⟩, hy, h⟩ | ⟨⟨i, rfl⟩, ⟨b, dy, gs, rfl, hb⟩, h⟩
  · obtain rfl : u = Value.ref a := rx
    obtain ⟨od, J⟩ := own_inst I ha
    rcases hy with ⟨b, dy, gs, rfl, hb⟩ | ⟨j, rfl⟩
    · obtain rfl : v = Value.ref b := ry
      obtain ⟨od', J'⟩ := own_inst I hb
      exact bin1_own_own I.kIn J J'.type T (run_back Fg hr bg hx I (vv2 (x := V.ref a) (y := V.ref b) rfl rfl) h)
    · obtain ⟨t, rfl⟩ : ∃ t, v = Value.int j t := ry
      exact bin1_own_int I.kIn J T Z (run_back Fg hr bg hx I (vv2 (x := V.ref a) (y := V.int j) rfl ⟨t, rfl⟩) h)
  · obtain rfl : v = Value.ref b := ry
    obtain ⟨t, rfl⟩ : ∃ t, u = Value.int i t := rx
    obtain ⟨od, J⟩ := own_inst I hb
    exact bin1_int_own I.kIn J T hf Z (run_back Ff hr bf hx I (vv2 (x := V.ref b) (y := V.int i) rfl ⟨t, rfl⟩) h)
def rBin (r : R2) (C : Addr) (sp spr : Sp) (E : XK) : R2 := fun x y H Q =>
  r x y H Q ∨ (OwnV C H x ∧ (OwnV C H y ∨ ∃ j, y = .int j) ∧ sp [x, y] H Q E) ∨ ((∃ i, x = .int i) ∧ OwnV C H y ∧ spr [y, x] H Q E)
def tBin (r : R2) (C : Addr) (sp spr : Sp) (E : L2.St → XK) (ta tb : TE) : TE := fun σ H Q => ta σ H fun x H1 => tb σ H1 fun y H2 => rBin r C sp spr (E σ) x y H2 Q
def rNo : R2 := fun _ _ _ _ => False
theorem op_no {fn : Value → Value → Sem Value} : OpR X fn rNo := fun _ _ _ _ _ _ _ _ _ _ _ _ h => h.elim
section
variable {r : R2} {a b : Expr} {ta tb : TE} {pos : Pos}
theorem pe_bin {E : L2.St → XK} (ho : OpR X (binaryOp op) r) (B : BinOk X.prog X.w X.K X.mg X.base C op CX k sp spr) (Z : IntBin op) (hr : Room k X.A) (hx : ∀ σ, PassesAt CX X σ (E σ)) (ha : PE X a ta) (hb : PE X b tb) : PE X (.BinOp a op b pos) (tBin r C sp spr E ta tb) := by
  refine ⟨fun pins s σ H Q I h => ?_⟩
  refine wpAny_BinOp (binT ha hb (R := fun x y H2 => rBin r C sp spr (E σ) x y H2 Q) I h fun v u s2 x y H2 I2 rx ry q => ?_)
  rcases q with q | q
  · exact ho pins s2 σ H2 x y v u Q I2 rx ry q
  · exact bin_of1 (run_bin1 B Z hr (hx σ) I2 rx ry q)
theorem objI (op : Operator) (h : typeLookup (.type "object") (dunderI op.info.2) = pure none) : typeLookup (.type "object") (dunderI op.info.2) = pure none := h
theorem ip_bin (hi : PIp X op r) (B : BinOk X.prog X.w X.K X.mg X.base C op CX k sp spr) (Z : IntBin op) (hO : typeLookup (.type "object") (dunderI op.info.2) = pure none) (hr : Room k X.A) (hx : ∀ σ, PassesAt CX X σ E) : PIp X op (rBin r C sp spr E) := by
  intro pins s σ H x y v u Q I rx ry q
  rcases q with q | q
  · exact hi pins s σ H x y v u Q I rx ry q
  · have go := run_bin1 B Z hr (hx σ) I rx ry q
    obtain ⟨g, f, fd, fdr, ps, psr, T, _⟩ := B.ex
    rcases q with ⟨⟨a, dx, fs, rfl, ha⟩, _⟩ | ⟨⟨i, rfl⟩, _⟩
    · obtain rfl : v = Value.ref a := rx
      obtain ⟨od, J⟩ := own_inst I ha
      exact inp_of1 J.type (noI_own I.kIn T hO) go
    · obtain ⟨t, rfl⟩ : ∃ t, v = Value.int i t := rx
      exact inp_of1 (Looks.of_pure rfl) (noI_int Z) go
theorem ip_no : PIp X op (fun _ _ _ _ => False) := fun _ _ _ _ _ _ _ _ _ _ _ _ h => h.elim
/-- -x, +x, ~x of the class -/
structure UnOk (P : Program) (w : World) (K : PySem.W.Frag) (mg : Str → Option Value) (base : Heap) (C : Addr) (nm : Str) (CX : CXT) (k : Nat) (sp : Sp) : Prop where
  ex : ∃ (g : Addr) (fd : FuncData) (ps : List Str), findIn K (.ref C) nm = some (some (.ref g)) ∧ isFn K (.ref g) = true ∧ FnOk P w K mg base CX k g fd ps sp ∧ Binds K fd ps []
def rUnO (C : Addr) (sp : Sp) (E : XK) : V → Hp → VK → Prop := fun x H Q => OwnV C H x ∧ sp [x] H Q E
theorem un_neg_own (B : UnOk X.prog X.w X.K X.mg X.base C "__neg__" CX k sp) (hr : Room k X.A) (hx : ∀ σ, PassesAt CX X σ E) : UnR X (unaryOp .USub) (rUnO C sp E) := by
  intro pins s σ H x v Q I rx ⟨⟨a, dx, fs, e, ha⟩, h⟩
  subst e
  obtain rfl : v = Value.ref a := rx
  obtain ⟨g, fd, ps, hs, hf, F, b⟩ := B.ex
  obtain ⟨od, J⟩ := own_inst I ha
  obtain ⟨m, hF⟩ := I.fr
  exact PySem.W.ksp_neg hF I.ok.mod.kin J hs hf (run_fnS (E := fun _ => E) F hr b (hx σ) I (vv1 (x := V.ref a) rfl) h)
theorem un_pos_own (B : UnOk X.prog X.w X.K X.mg X.base C "__pos__" CX k sp) (hr : Room k X.A) (hx : ∀ σ, PassesAt CX X σ E) : UnR X (unaryOp .UAdd) (rUnO C sp E) := by
  intro pins s σ H x v Q I rx ⟨⟨a, dx, fs, e, ha⟩, h⟩
  subst e
  obtain rfl : v = Value.ref a := rx
  obtain ⟨g, fd, ps, hs, hf, F, b⟩ := B.ex
  obtain ⟨od, J⟩ := own_inst I ha
  obtain ⟨m, hF⟩ := I.fr
  exact PySem.W.ksp_pos hF I.ok.mod.kin J hs hf (run_fnS (E := fun _ => E) F hr b (hx σ) I (vv1 (x := V.ref a) rfl) h)
/-- abs(x) of the class -/
theorem run_in1 {fd : FuncData} {ps : List Str} {us : List Value} {vs : List V} (F : FnOk X.prog X.w X.K X.mg X.base CX k f fd ps sp) (hr : Room (k + 1) X.A) (hb : Binds X.K fd ps []) (hx : PassesAt CX X σ E)
    (I : Inv X pins σ H s) (r : Vals vs us) (h : sp vs H Q E) : wpAny (model X.prog X.w) X.A.in1 (call (.ref f) us) (EP X pins σ Q) X.xe s := by
  have hl : us.length = ps.length := by rw [← r.length]; exact F.len _ _ _ _ h
  have b := hb s us I.kIn (by rw [List.append_nil]; exact hl)
  rw [List.append_nil] at b
  refine wpAny_call (codeAny_mono (F.run X.A.in1 X.stack s H ⟨us, []⟩ us vs Q E hr.in1 I.env0.in1 b r h) fun z s' hq => ?_)
  match z, hq with
  | .error e, hq => exact hx pins H s e s' I hq
  | .ok (.ret u), hq => exact I.after hq
  | .ok .next, hq => exact hq.elim
  | .ok .brk, hq => exact hq.elim
  | .ok .cont, hq => exact hq.elim
theorem call_abs_own (B : UnOk X.prog X.w X.K X.mg X.base C "__abs__" CX k sp) (hr : Room (k + 1) X.A) (hx : ∀ σ, PassesAt CX X σ E) :
    CallR X (.builtin "abs") (fun xs H Q => (∃ i, xs = [.int i] ∧ Q (.int (if i < 0 then -i else i)) H) ∨ ∃ x, xs = [x] ∧ OwnV C H x ∧ sp [x] H Q E) := by
  intro pins s σ H xs us Q I r h
  rcases h with h | ⟨x, e, ⟨a, dx, fs, ex, ha⟩, h⟩
  · exact call_abs pins s σ H xs us Q I r h
  subst e ex
  obtain ⟨u, rfl, ru⟩ := vals1 r
  obtain rfl : u = Value.ref a := ru
  obtain ⟨g, fd, ps, hs, hf, F, b⟩ := B.ex
  obtain ⟨od, J⟩ := own_inst I ha
  refine Calls.call_function_entry PyProof.Rows.kind_abs PyProof.Rows.plain_abs PyProof.Rows.entry_abs (PyProof.Rows.args_abs _) ?_
  unfold Builtin.«abs»
  refine wpAny_bind (m := oneArg "abs" _) (wpAny_pure ?_)
  refine wpAny_bind (m := callSpecial? (.ref a) (Str.ofString "__abs__")) (special_fn I.kIn J hs (beq_iff_eq.mp hf) (wpAny_mono (run_in1 F hr b (hx σ) I (vv1 (x := V.ref a) rfl) h) (fun v s' hv => ?_) fun _ _ e => e))
  exact wpAny_pure ⟨_, rfl, hv⟩
end
end
end Pt

namespace Pt
open PySem PySem.Spec PyProof.Rows L2
open PySem.W (findIn isFn subIn Looks InstAt)
structure CmpOk (P : Program) (w : World) (K : PySem.W.Frag) (mg : Str → Option Value) (base : Heap) (C : Addr) (op : CmpOp) (CX : CXT) (k : Nat) (sp : Sp) : Prop where
  ex : ∃ (g : Addr) (fd : FuncData) (ps : List Str), findIn K (.ref C) (cmpInfo op).2.1 = some (some (.ref g)) ∧ isFn K (.ref g) = true ∧ FnOk P w K mg base CX k g fd ps sp ∧ Binds K fd ps []
  sub : subIn K (.type "int") (.ref C) = some false
def rCmpO (C : Addr) (sp : Sp) (E : XK) : R2 := fun x y H Q => OwnV C H x ∧ (OwnV C H y ∨ ∃ j, y = .int j) ∧ sp [x, y] H Q E
section
variable {X : Cx} {C g f : Addr} {op : CmpOp} {CX : CXT} {k : Nat} {sp spr : Sp} {E : XK}
theorem op_cmp_own (hop : ∀ a b, compareOp op a b = richCompare op a b) (B : CmpOk X.prog X.w X.K X.mg X.base C op CX k sp) (hr : Room k X.A) (hx : ∀ σ, PassesAt CX X σ E) : OpR X (compareOp op) (rCmpO C sp E) := by
  intro pins s σ H x y v u Q I rx ry q
  obtain ⟨⟨a, dx, fs, ex, ha⟩, hy, h⟩ := q
  subst ex
  obtain rfl : v = Value.ref a := rx
  obtain ⟨g, fd, ps, hs, hf, F, b⟩ := B.ex
  obtain ⟨od, J⟩ := own_inst I ha
  obtain ⟨m, hF⟩ := I.fr
  rw [hop]
  rcases hy with ⟨c, dy, gs, ey, hc⟩ | ⟨j, ey⟩
  · subst ey
    obtain rfl : u = Value.ref c := ry
    obtain ⟨od', J'⟩ := own_inst I hc
    exact PySem.W.cmp_K (tb := .ref C) hr.units0 hF I.ok.mod.kin J J'.type (by simp [PySem.W.notFirst]) hs hf (run_back F hr b (hx σ) I (vv2 (x := V.ref a) (y := V.ref c) rfl rfl) h)
  · subst ey
    obtain ⟨t, rfl⟩ : ∃ t, u = Value.int j t := ry
    exact PySem.W.cmp_K (tb := .type "int") hr.units0 hF I.ok.mod.kin J (Looks.of_pure rfl) (by unfold PySem.W.notFirst; rw [B.sub]; rfl) hs hf (run_back F hr b (hx σ) I (vv2 (x := V.ref a) (y := V.int j) rfl ⟨t, rfl⟩) h)
end
end Pt

namespace Pt
open PySem PySem.Spec PyProof.Rows L2
open PySem.W (findIn isFn subIn Looks looks_findIn looks_subIn InstAt)
section
variable {prog : Program} {w : World} {A : Around} {E : Value → Shared → Prop} {s : Shared} {K : PySem.W.Frag} {x C f : Addr} {ox : Obj} {od : Option Obj}
/-- object.__ne__ of an instance with an own __eq__ -/
theorem try_ne {u : Value} {Q : Option Value → Shared → Prop} (hu : A.units + 1 < cLine) (X : K.In s.heap) (I : InstAt s.heap x ox C od) (hn : findIn K (.ref C) "__ne__" = some (some (.builtin "object.__ne__"))) (hm : PySem.W.mroIn K C (.type "object") = some true)
    (hs : findIn K (.ref C) "__eq__" = some (some (.ref f))) (hf : isFn K (.ref f) = true)
    (h : wpAny (model prog w) A.in1 (call (.ref f) [.ref x, u]) (fun v s' => ∃ b, v = .bool b ∧ Q (some (.bool (!b))) s') E s) : wpAny (model prog w) A (tryCompare (.ref x) "__ne__" u) Q E s := by
  have body : wpAny (model prog w) A (call (.builtin "object.__ne__") [.ref x, u]) (fun v s' => ∃ b, v = .bool b ∧ Q (some (.bool b)) s') E s := by
    refine wpAny_call (codeAny_call_builtin F.cmp_object.ne.plain F.cmpEntry_ne (PySem.W.check_slot F.cmpKind_ne F.cmpSplit_ne (I.type.andThen (PySem.W.looks_mroIn X hm)) (F.cmpArgs_ne _ _) ?_))
    unfold Builtin.«object.__ne__»
    have hu1 : A.in1.units < cLine := hu
    have ask : ∀ {Q' : Option Value → Shared → Prop} {E' : Value → Shared → Prop}, wpAny (model prog w) A.in1 (call (.ref f) [.ref x, u]) (fun v => Q' (some v)) E' s → wpAny (model prog w) A.in1 (callSpecialIfBound? (.ref x) "__eq__" [u]) Q' E' s :=
      fun {Q' E'} z => PySem.W.ifBound_K X I hs hf z
    refine wpAny_bind (m := slotArgs "__ne__" 1 _) (wpAny_pure ?_)
    dsimp only
    refine wpAny_bind (wpAny_cRoomFor hu1 ?_)
    refine wpAny_bind (ask (wpAny_mono h (fun v s' hv => ?_) fun _ _ e => e))
    obtain ⟨b, rfl, q⟩ := hv
    dsimp only
    refine wpAny_bind (wpAny_truthy_bool ?_)
    exact wpAny_pure ⟨!b, rfl, q⟩
  simp only [tryCompare, callSpecialIfBound?, bindSpecialIfBound?]
  have fin : wpAny (model prog w) A (call (.builtin "object.__ne__") ([.ref x] ++ [u]) >>= fun v => pure (some v)) (fun r s' => wpAny (model prog w) A (match r with | some .notImplemented | none => pure none | some v => pure (some v)) Q E s') E s := by
    refine wpAny_bind (wpAny_mono body (fun v s' hv => ?_) fun _ _ e => e)
    obtain ⟨b, rfl, q⟩ := hv
    exact wpAny_pure (wpAny_pure q)
  refine wpAny_bind (wpAny_holding (wpAny_bind (wpAny_bind (wpAny_bind (I.type.here ((looks_findIn X hn).here ?_))))))
  dsimp only
  rw [F.cmp_object.ne.bind]
  refine wpAny_bind (wpAny_askSetting (wpAny_ite ?_))
  split
  · exact wpAny_bind (wpAny_pure (wpAny_pure fin))
  · exact wpAny_tryCatch (wpAny_bind (wpAny_pure (wpAny_pure fin)))
end
end Pt

namespace Pt
open PySem PySem.Spec PyProof.Rows L2
open PySem.W (findIn isFn subIn Looks looks_findIn looks_subIn InstAt)
/-- the type of what stands beside an instance of the class -/
inductive OtherT (C : Addr) (H : Hp) : V → Value → Prop where
  | own {x : V} (h : OwnV C H x) : OtherT C H x (.ref C)
  | int (i : Int) : OtherT C H (.int i) (.type "int")
  | non : OtherT C H .non (.type "NoneType")
  | str (z : Str) : OtherT C H (.str z) (.type "str")
  | lst {a : Addr} {xs : List V} (e : H a = some (.lst xs)) : OtherT C H (.ref a) (.type "list")
  | tup {a : Addr} {xs : List V} (e : H a = some (.tup xs)) : OtherT C H (.ref a) (.type "tuple")
section
variable {X : Cx} {C g f : Addr} {op : CmpOp} {CX : CXT} {k : Nat} {sp spr : Sp} {E : XK}
theorem looks_other {M : Model} {pins : List (Addr × Obj)} {σ : L2.St} {H : Hp} {s : Shared} {y : V} {u tb : Value} (I : Inv X pins σ H s) (ry : RelV y u) (h : OtherT C H y tb) : Looks M s.heap (typeOf u) tb := by
  cases h with
  | own h =>
    obtain ⟨a, d, fs, rfl, e⟩ := h
    obtain rfl : u = Value.ref a := ry
    obtain ⟨od, J⟩ := own_inst I e
    exact J.type
  | int i => obtain ⟨t, rfl⟩ : ∃ t, u = Value.int i t := ry; exact Looks.of_pure rfl
  | non => obtain rfl : u = Value.none := ry; exact Looks.of_pure rfl
  | str z => obtain ⟨t, rfl⟩ : ∃ t, u = Value.str z t := ry; exact Looks.of_pure rfl
  | @lst a xs e =>
    obtain rfl : u = Value.ref a := ry
    obtain ⟨_, its, n, _, ho⟩ := (show ObjOk X.prog X.w H s.heap a (.lst xs) from I.hok a _ e)
    exact fun A Q E s k q => wpAny_typeOf_ref (k _ _ ho) q
  | @tup a xs e =>
    obtain rfl : u = Value.ref a := ry
    obtain ⟨_, its, _, ob, ho, hc, _⟩ := (show ObjOk X.prog X.w H s.heap a (.tup xs) from I.hok a _ e)
    exact fun A Q E s k q => wpAny_typeOf_ref (k _ _ ho) (by rw [hc]; exact q)
def NotFirstB (K : PySem.W.Frag) (C : Addr) : Prop := subIn K (.type "int") (.ref C) = some false ∧ subIn K (.type "NoneType") (.ref C) = some false ∧ subIn K (.type "str") (.ref C) = some false ∧ subIn K (.type "list") (.ref C) = some false ∧ subIn K (.type "tuple") (.ref C) = some false
theorem nf_of {K : PySem.W.Frag} {H : Hp} {y : V} {tb : Value} (n : NotFirstB K C) (h : OtherT C H y tb) : PySem.W.notFirst K C tb = true := by
  obtain ⟨h1, h2, h3, h4, h5⟩ := n
  unfold PySem.W.notFirst
  cases h with
  | own h => simp
  | int i => rw [h1]; rfl
  | non => rw [h2]; rfl
  | str z => rw [h3]; rfl
  | lst e => rw [h4]; rfl
  | tup e => rw [h5]; rfl
structure CmpOk2 (P : Program) (w : World) (K : PySem.W.Frag) (mg : Str → Option Value) (base : Heap) (C : Addr) (nm : Str) (CX : CXT) (k : Nat) (sp : Sp) : Prop where
  ex : ∃ (g : Addr) (fd : FuncData) (ps : List Str), findIn K (.ref C) nm = some (some (.ref g)) ∧ isFn K (.ref g) = true ∧ FnOk P w K mg base CX k g fd ps sp ∧ Binds K fd ps []
  nf : NotFirstB K C
  sub1 : subIn K (.ref C) (.type "int") = some false
def rOwnY (C : Addr) (sp : Sp) (E : XK) : R2 := fun x y H Q => OwnV C H x ∧ (∃ tb, OtherT C H y tb) ∧ sp [x, y] H Q E
def rIntY (C : Addr) (spr : Sp) (E : XK) : R2 := fun x y H Q => (∃ i, x = .int i) ∧ OwnV C H y ∧ spr [y, x] H Q E
theorem op_ownY (hop : ∀ a b, compareOp op a b = richCompare op a b) (B : CmpOk2 X.prog X.w X.K X.mg X.base C (cmpInfo op).2.1 CX k sp) (hr : Room k X.A) (hx : ∀ σ, PassesAt CX X σ E) : OpR X (compareOp op) (rOwnY C sp E) := by
  intro pins s σ H x y v u Q I rx ry q
  obtain ⟨⟨a, dx, fs, ex, ha⟩, ⟨tb, ho⟩, h⟩ := q
  subst ex
  obtain rfl : v = Value.ref a := rx
  obtain ⟨g, fd, ps, hs, hf, F, b⟩ := B.ex
  obtain ⟨od, J⟩ := own_inst I ha
  obtain ⟨m, hF⟩ := I.fr
  rw [hop]
  exact PySem.W.cmp_K (tb := tb) hr.units0 hF I.ok.mod.kin J (looks_other I ry ho) (nf_of B.nf ho) hs hf (run_back F hr b (hx σ) I (vv2 (x := V.ref a) rfl ry) h)
theorem op_intY (hop : ∀ a b, compareOp op a b = richCompare op a b) (D : IntDec (cmpInfo op).2.1 (cmpInfo op).2.1) (B : CmpOk2 X.prog X.w X.K X.mg X.base C (cmpInfo op).2.2 CX k spr) (hr : Room k X.A) (hx : ∀ σ, PassesAt CX X σ E) : OpR X (compareOp op) (rIntY C spr E) := by
  intro pins s σ H x y v u Q I rx ry q
  obtain ⟨⟨i, ex⟩, ⟨a, dx, fs, ey, ha⟩, h⟩ := q
  subst ex ey
  obtain rfl : u = Value.ref a := ry
  obtain ⟨t, rfl⟩ : ∃ t, v = Value.int i t := rx
  obtain ⟨g, fd, ps, hs, hf, F, b⟩ := B.ex
  obtain ⟨od, J⟩ := own_inst I ha
  rw [hop]
  exact cmp_int_own hr.units0 I.kIn J D hs hf B.sub1 (run_back F hr b (hx σ) I (vv2 (x := V.ref a) (y := V.int i) rfl ⟨t, rfl⟩) h)
/-! != -/
structure NeOk (K : PySem.W.Frag) (C : Addr) : Prop where
  ne : findIn K (.ref C) "__ne__" = some (some (.builtin "object.__ne__"))
  mo : PySem.W.mroIn K C (.type "object") = some true
def rNeY (C : Addr) (sp : Sp) (E : XK) : R2 := fun x y H Q => OwnV C H x ∧ (∃ tb, OtherT C H y tb) ∧ sp [x, y] H (fun v H' => ∃ b, v = .bl b ∧ Q (.bl (!b)) H') E
def rNeI (C : Addr) (sp : Sp) (E : XK) : R2 := fun x y H Q => (∃ i, x = .int i) ∧ OwnV C H y ∧ sp [y, x] H (fun v H' => ∃ b, v = .bl b ∧ Q (.bl (!b)) H') E
theorem try_neV {pins : List (Addr × Obj)} {σ : L2.St} {H : Hp} {s : Shared} {a dx : Addr} {fs : List (Str × V)} {y : V} {u : Value} {Q : VK} (N : NeOk X.K C) (B : CmpOk2 X.prog X.w X.K X.mg X.base C "__eq__" CX k sp) (hr : Room (k + 1) X.A) (hx : PassesAt CX X σ E)
    (I : Inv X pins σ H s) (e : H a = some (.ins C dx fs)) (ry : RelV y u) (h : sp [.ref a, y] H (fun v H' => ∃ b, v = .bl b ∧ Q (.bl (!b)) H') E) :
    wpAny (model X.prog X.w) X.A (tryCompare (.ref a) "__ne__" u) (fun r s' => ∃ v, r = some v ∧ EP X pins σ Q v s') X.xe s := by
  obtain ⟨g, fd, ps, hs, hf, F, b⟩ := B.ex
  obtain ⟨od, J⟩ := own_inst I e
  refine try_ne (by have := hr.units; omega) I.kIn J N.ne N.mo hs hf (wpAny_mono (run_in1 F hr b hx I (vv2 (x := V.ref a) rfl ry) h) (fun v s' hv => ?_) fun _ _ e => e)
  obtain ⟨z, H', I', rz, bb, ez, q⟩ := hv
  subst ez
  obtain rfl : v = Value.bool bb := rz
  exact ⟨bb, rfl, _, rfl, .bl (!bb), H', I', rfl, q⟩
theorem op_neY (N : NeOk X.K C) (B : CmpOk2 X.prog X.w X.K X.mg X.base C "__eq__" CX k sp) (hr : Room (k + 1) X.A) (hx : ∀ σ, PassesAt CX X σ E) : OpR X (compareOp .NotEq) (rNeY C sp E) := by
  intro pins s σ H x y v u Q I rx ry q
  obtain ⟨⟨a, dx, fs, ex, ha⟩, ⟨tb, ho⟩, h⟩ := q
  subst ex
  obtain rfl : v = Value.ref a := rx
  have one := try_neV N B hr (hx σ) I ha ry h
  obtain ⟨od, J⟩ := own_inst I ha
  have nf := nf_of B.nf ho
  have Tb := looks_other (M := model X.prog X.w) I ry ho
  show wpAny _ _ (richCompare .NotEq (.ref a) u) _ _ _
  unfold richCompare
  simp only [oneThing_ref]
  refine wpAny_holding (wpAny_bind (wpAny_cRoomFor hr.units0 ?_))
  refine wpAny_bind (J.type.here (wpAny_bind (Tb.here ?_)))
  rw [cmpInfo_NotEq]
  dsimp only
  split
  · rename_i q
    have e : subIn X.K tb (.ref C) = some false := by
      unfold PySem.W.notFirst at nf
      rcases Bool.or_eq_true_iff.mp nf with z | z
      · rw [beq_iff_eq.mp z] at q
        simp at q
      · exact beq_iff_eq.mp z
    refine wpAny_bind ((looks_subIn I.kIn e).here ?_)
    simp only [Bool.false_eq_true, if_false]
    refine wpAny_bind (wpAny_mono one (fun r s' z => ?_) fun _ _ e => e)
    obtain ⟨v, rfl, hq⟩ := z
    exact wpAny_pure hq
  · refine wpAny_bind (wpAny_pure ?_)
    simp only [Bool.false_eq_true, if_false]
    refine wpAny_bind (wpAny_mono one (fun r s' z => ?_) fun _ _ e => e)
    obtain ⟨v, rfl, hq⟩ := z
    exact wpAny_pure hq
def icNe : IntDec (cmpInfo .NotEq).2.1 (cmpInfo .NotEq).2.1 := ⟨_, _, F.slot_int_ne, F.entry_int_ne, F.args_int_ne_2, dec_ne⟩
theorem op_neI (N : NeOk X.K C) (B : CmpOk2 X.prog X.w X.K X.mg X.base C "__eq__" CX k sp) (hr : Room (k + 1) X.A) (hx : ∀ σ, PassesAt CX X σ E) : OpR X (compareOp .NotEq) (rNeI C sp E) := by
  intro pins s σ H x y v u Q I rx ry q
  obtain ⟨⟨i, ex⟩, ⟨a, dx, fs, ey, ha⟩, h⟩ := q
  subst ex ey
  obtain rfl : u = Value.ref a := ry
  obtain ⟨t, rfl⟩ : ∃ t, v = Value.int i t := rx
  have two := try_neV (y := V.int i) N B hr (hx σ) I ha ⟨t, rfl⟩ h
  obtain ⟨od, J⟩ := own_inst I ha
  have decl : ∀ {Q' : Option Value → Shared → Prop}, Q' none s → wpAny (model X.prog X.w) X.A (tryCompare (.int i t) (cmpInfo .NotEq).2.1 (.ref a)) Q' X.xe s := fun {Q'} q =>
    wpAny_tryCompare_declines (typeIs_int s i t) icNe.slot (call_meets icNe.slot (typeIs_int s i t) icNe.entry (icNe.args _ _) (icNe.dec i t a C dx) ⟨J.at_, rfl, q⟩)
  rw [cmpInfo_NotEq] at decl
  have Sx : Looks (model X.prog X.w) s.heap (isSubtype (.ref C) (.type "int")) false := looks_subIn I.kIn B.sub1
  have hne : (Value.type "int" != Value.ref C) = true := by
    show (!(Value.type "int" == Value.ref C)) = true
    rw [show (Value.type "int" == Value.ref C) = false from Bool.eq_false_iff.mpr fun q => by cases beq_iff_eq.mp q]
    rfl
  show wpAny _ _ (richCompare .NotEq (.int i t) (.ref a)) _ _ _
  simp only [richCompare, cmpInfo_NotEq, (typeIs_int s i t).oneThing_none]
  refine wpAny_holding (wpAny_bind (wpAny_cRoomFor hr.units0 ?_))
  refine wpAny_bind (wpAny_typeOf (typeIs_int s i t) (wpAny_bind (J.type.here ?_)))
  simp only [hne, if_true]
  refine wpAny_bind (Sx.here ?_)
  simp only [Bool.false_eq_true, if_false, Bool.not_false, if_true]
  refine wpAny_bind (decl ?_)
  refine wpAny_bind (wpAny_mono two (fun r s' z => ?_) fun _ _ e => e)
  obtain ⟨v, rfl, hq⟩ := z
  exact wpAny_pure hq
end
end Pt

/-! The mathematics of fractions. -/
namespace Pt
def rg (n d : Int) : Int := if d < 0 then -(Int.gcd n d : Int) else (Int.gcd n d : Int)
def rt (n d : Int) : Int := n.fdiv (rg n d)
def rb (n d : Int) : Int := d.fdiv (rg n d)
theorem gcd_turn (a b : Int) : Int.gcd b (a.fmod b) = Int.gcd a b := by
  rw [Int.fmod_def, Int.gcd_comm a b, Int.sub_eq_add_neg, ← Int.mul_neg]
  exact Int.gcd_add_mul_left_right b a (-(a.fdiv b)) |> fun h => by simpa using h
theorem fmod_less (a b : Int) (h : b ≠ 0) : (a.fmod b).natAbs < b.natAbs := by
  rcases Int.lt_or_gt_of_ne h with h | h
  · have e : (-a).fmod (-b) = -a.fmod b := Int.neg_fmod_neg a b
    have h1 := Int.fmod_nonneg_of_pos (-a) (b := -b) (by omega)
    have h2 := Int.fmod_lt_of_pos (-a) (b := -b) (by omega)
    omega
  · have h1 := Int.fmod_nonneg_of_pos a h
    have h2 := Int.fmod_lt_of_pos a h
    omega
theorem gcd_pos {n d : Int} (h : d ≠ 0) : 0 < (Int.gcd n d : Int) := by
  have : 0 < Int.gcd n d := Int.gcd_pos_of_ne_zero_right n h
  omega
/-- d = g * e, n = g * m, with the sign taken out -/
theorem r_form {n d : Int} (h : d ≠ 0) : ∃ m e : Int, rg n d ≠ 0 ∧ n = rg n d * m ∧ d = rg n d * e ∧ 1 ≤ e ∧ rt n d = m ∧ rb n d = e ∧ Int.gcd m e = 1 := by
  have hg := gcd_pos (n := n) h
  obtain ⟨m, hm⟩ : (Int.gcd n d : Int) ∣ n := Int.gcd_dvd_left n d
  obtain ⟨e, he⟩ : (Int.gcd n d : Int) ∣ d := Int.gcd_dvd_right n d
  have hc : Int.gcd m e = 1 := by
    have h2 : 0 < Int.gcd n d := by omega
    generalize hG : Int.gcd n d = G at hm he h2
    rw [hm, he, Int.gcd_mul_left, Int.natAbs_natCast] at hG
    exact Nat.eq_of_mul_eq_mul_left h2 (by omega)
  unfold rt rb
  by_cases hd : d < 0
  · have hr : rg n d = -(Int.gcd n d : Int) := by unfold rg; rw [if_pos hd]
    have hn1 : n = rg n d * (-m) := by rw [hr, Int.neg_mul_neg]; exact hm
    have hd1 : d = rg n d * (-e) := by rw [hr, Int.neg_mul_neg]; exact he
    have hr0 : rg n d ≠ 0 := by rw [hr]; omega
    have he0 : 1 ≤ -e := by
      by_cases q : e < 0
      · omega
      · have := Int.mul_nonneg (Int.le_of_lt hg) (show 0 ≤ e by omega)
        omega
    refine ⟨-m, -e, hr0, hn1, hd1, he0, ?_, ?_, ?_⟩
    · conv => lhs; lhs; rw [hn1]
      exact Int.mul_fdiv_cancel_left _ hr0
    · conv => lhs; lhs; rw [hd1]
      exact Int.mul_fdiv_cancel_left _ hr0
    · rw [Int.neg_gcd, Int.gcd_neg]
      exact hc
  · have hr : rg n d = (Int.gcd n d : Int) := by unfold rg; rw [if_neg hd]
    have hr0 : rg n d ≠ 0 := by rw [hr]; omega
    have he0 : 1 ≤ e := by
      by_cases q : 0 < e
      · omega
      · have := Int.mul_nonneg (Int.le_of_lt hg) (show 0 ≤ -e by omega)
        rw [Int.mul_neg] at this
        omega
    have hn1 : n = rg n d * m := by rw [hr]; exact hm
    have hd1 : d = rg n d * e := by rw [hr]; exact he
    refine ⟨m, e, hr0, hn1, hd1, he0, ?_, ?_, hc⟩
    · conv => lhs; lhs; rw [hn1]
      exact Int.mul_fdiv_cancel_left _ hr0
    · conv => lhs; lhs; rw [hd1]
      exact Int.mul_fdiv_cancel_left _ hr0
theorem rb_pos {n d : Int} (h : d ≠ 0) : 1 ≤ rb n d := by
  obtain ⟨m, e, _, _, _, he, _, hb, _⟩ := r_form (n := n) h
  omega
theorem r_gcd {n d : Int} (h : d ≠ 0) : Int.gcd (rt n d) (rb n d) = 1 := by
  obtain ⟨m, e, _, _, _, he, ht, hb, hc⟩ := r_form (n := n) h
  rw [ht, hb]
  exact hc
theorem r_cross {n d : Int} (h : d ≠ 0) : rt n d * d = n * rb n d := by
  obtain ⟨m, e, _, hn, hd, he, ht, hb, hc⟩ := r_form (n := n) h
  rw [ht, hb]
  generalize rg n d = g at hn hd
  grind
theorem natAbs_le_mul {g m : Int} (h : g ≠ 0) : m.natAbs ≤ (g * m).natAbs := by
  rw [Int.natAbs_mul]
  have : 0 < g.natAbs := by omega
  exact Nat.le_mul_of_pos_left _ this
theorem rt_le {n d : Int} (h : d ≠ 0) : (rt n d).natAbs ≤ n.natAbs := by
  obtain ⟨m, e, hg, hn, hd, he, ht, hb, hc⟩ := r_form (n := n) h
  rw [ht]
  conv => rhs; rw [hn]
  exact natAbs_le_mul hg
theorem rb_le {n d : Int} (h : d ≠ 0) : (rb n d).natAbs ≤ d.natAbs := by
  obtain ⟨m, e, hg, hn, hd, he, ht, hb, hc⟩ := r_form (n := n) h
  rw [hb]
  conv => rhs; rw [hd]
  exact natAbs_le_mul hg
theorem rg_le {n d : Int} (h : d ≠ 0) : (rg n d).natAbs ≤ d.natAbs := by
  obtain ⟨m, e, hg, hn, hd, he, ht, hb, hc⟩ := r_form (n := n) h
  conv => rhs; rw [hd]
  rw [Int.natAbs_mul]
  exact Nat.le_mul_of_pos_right _ (by omega)
theorem cancel {a b k : Int} (hk : k ≠ 0) (h : a * k = b * k) : a = b := Int.eq_of_mul_eq_mul_right hk h
/-- the value t / b is A / B -/
structure IsV (t b A B : Int) : Prop where
  b1 : 1 ≤ b
  gc : Int.gcd t b = 1
  B0 : B ≠ 0
  eq : t * B = A * b
theorem isV_new {n d : Int} (h : d ≠ 0) : IsV (rt n d) (rb n d) n d := ⟨rb_pos h, r_gcd h, h, r_cross h⟩
/-- another writing of the same value -/
theorem IsV.to {t b A B A' B' : Int} (v : IsV t b A B) (h0 : B' ≠ 0) (h : A * B' = A' * B) : IsV t b A' B' :=
  ⟨v.b1, v.gc, h0, cancel v.B0 (by have := v.eq; grind)⟩
theorem IsV.int (i : Int) : IsV i 1 i 1 := ⟨by omega, by simp, by omega, rfl⟩
section
variable {t b A B t' b' A' B' : Int}
theorem IsV.ne (v : IsV t b A B) : b ≠ 0 := by have := v.b1; omega
theorem mul_ne {x y : Int} (hx : x ≠ 0) (hy : y ≠ 0) : x * y ≠ 0 := Int.mul_ne_zero hx hy
theorem add_ok (v : IsV t b A B) (w : IsV t' b' A' B') : IsV (rt (t * b' + t' * b) (b * b')) (rb (t * b' + t' * b) (b * b')) (A * B' + A' * B) (B * B') :=
  (isV_new (mul_ne v.ne w.ne)).to (mul_ne v.B0 w.B0) (by have := v.eq; have := w.eq; grind)
theorem sub_ok (v : IsV t b A B) (w : IsV t' b' A' B') : IsV (rt (t * b' - t' * b) (b * b')) (rb (t * b' - t' * b) (b * b')) (A * B' - A' * B) (B * B') :=
  (isV_new (mul_ne v.ne w.ne)).to (mul_ne v.B0 w.B0) (by have := v.eq; have := w.eq; grind)
theorem mul_ok (v : IsV t b A B) (w : IsV t' b' A' B') : IsV (rt (t * t') (b * b')) (rb (t * t') (b * b')) (A * A') (B * B') :=
  (isV_new (mul_ne v.ne w.ne)).to (mul_ne v.B0 w.B0) (by have := v.eq; have := w.eq; grind)
theorem top_zero (w : IsV t b A B) : t = 0 ↔ A = 0 := by
  have e := w.eq
  constructor
  · intro h
    subst h
    rw [Int.zero_mul] at e
    rcases Int.mul_eq_zero.mp e.symm with h | h
    · exact h
    · exact absurd h w.ne
  · intro h
    subst h
    rw [Int.zero_mul] at e
    rcases Int.mul_eq_zero.mp e with h | h
    · exact h
    · exact absurd h w.B0
theorem over_ok (v : IsV t b A B) (w : IsV t' b' A' B') (h : A' ≠ 0) : IsV (rt (t * b') (b * t')) (rb (t * b') (b * t')) (A * B') (B * A') := by
  have h' : t' ≠ 0 := fun z => h ((top_zero w).mp z)
  exact (isV_new (mul_ne v.ne h')).to (mul_ne v.B0 h) (by have := v.eq; have := w.eq; grind)
theorem neg_ok (v : IsV t b A B) : IsV (rt (-t) b) (rb (-t) b) (-A) B :=
  (isV_new v.ne).to v.B0 (by have := v.eq; grind)
theorem pos_ok (v : IsV t b A B) : IsV (rt t b) (rb t b) A B := (isV_new v.ne).to v.B0 v.eq
theorem fdiv_scale {a b k : Int} (hk : k ≠ 0) : (k * a).fdiv (k * b) = a.fdiv b := by
  by_cases q : 0 < k
  · exact Int.mul_fdiv_mul_of_pos _ _ q
  · have e : (-(-k * a)).fdiv (-(-k * b)) = (-k * a).fdiv (-k * b) := Int.neg_fdiv_neg _ _
    rw [Int.neg_mul, Int.neg_mul, Int.neg_neg, Int.neg_neg] at e
    rw [e, ← Int.neg_mul, ← Int.neg_mul]
    exact Int.mul_fdiv_mul_of_pos _ _ (by omega)
theorem floor_same {p q P Q : Int} (hq : q ≠ 0) (hQ : Q ≠ 0) (h : p * Q = P * q) : p.fdiv q = P.fdiv Q := by
  have h1 : (p * Q).fdiv (q * Q) = p.fdiv q := by rw [Int.mul_comm p, Int.mul_comm q]; exact fdiv_scale hQ
  have h2 : (P * q).fdiv (Q * q) = P.fdiv Q := by rw [Int.mul_comm P, Int.mul_comm Q]; exact fdiv_scale hq
  rw [← h1, ← h2, h, Int.mul_comm q Q]
theorem floor_ok (v : IsV t b A B) (w : IsV t' b' A' B') (h : A' ≠ 0) : (t * b').fdiv (b * t') = (A * B').fdiv (B * A') := by
  have h' : t' ≠ 0 := fun z => h ((top_zero w).mp z)
  exact floor_same (mul_ne v.ne h') (mul_ne v.B0 h) (by have := v.eq; have := w.eq; grind)
end
end Pt

namespace Pt
theorem isV_unique {t b T B A D : Int} (v : IsV t b A D) (w : IsV T B A D) : t = T ∧ b = B := by
  have hb := v.b1
  have hB := w.b1
  have e : t * B = T * b := cancel v.B0 (by have := v.eq; have := w.eq; grind)
  have n1 : Nat.Coprime t.natAbs b.natAbs := v.gc
  have n2 : Nat.Coprime T.natAbs B.natAbs := w.gc
  have en : t.natAbs * B.natAbs = T.natAbs * b.natAbs := by rw [← Int.natAbs_mul, ← Int.natAbs_mul, e]
  have d1 : b.natAbs ∣ B.natAbs := n1.symm.dvd_of_dvd_mul_left (by rw [en]; exact Nat.dvd_mul_left _ _)
  have d2 : B.natAbs ∣ b.natAbs := n2.symm.dvd_of_dvd_mul_left (by rw [← en]; exact Nat.dvd_mul_left _ _)
  have h := Nat.dvd_antisymm d1 d2
  have hbB : b = B := by omega
  refine ⟨?_, hbB⟩
  subst hbB
  exact cancel v.ne e
theorem fdiv_le (n d : Int) : (n.fdiv d).natAbs ≤ n.natAbs := Int.natAbs_fdiv_le_natAbs n d
end Pt

namespace Pt
open PySem PySem.Spec L2
open PySem.W (findIn isFn kitOne)
/-! ### the text by places -/
def topS (i : Nat) : Stmt := PySem.Challenge.pw_partstell_k02_ratio_order.main.body.getD (i + 1) (.Pass ⟨0, 0, 0, 0⟩)
abbrev sNRi : Stmt := inClass (topS 2) 0
abbrev sIsInt : Stmt := topS 5
abbrev sInit : Stmt := inClass (topS 9) 0
abbrev sAdd : Stmt := inClass (topS 9) 1
abbrev sRadd : Stmt := inClass (topS 9) 2
abbrev sSub : Stmt := inClass (topS 9) 3
abbrev sRsub : Stmt := inClass (topS 9) 4
abbrev sMul : Stmt := inClass (topS 9) 5
abbrev sRmul : Stmt := inClass (topS 9) 6
abbrev sFloor : Stmt := inClass (topS 9) 7
abbrev sRfloor : Stmt := inClass (topS 9) 8
abbrev sMod : Stmt := inClass (topS 9) 9
abbrev sRmod : Stmt := inClass (topS 9) 10
abbrev sNeg : Stmt := inClass (topS 9) 11
abbrev sPos : Stmt := inClass (topS 9) 12
abbrev sAbs : Stmt := inClass (topS 9) 13
abbrev sEq : Stmt := inClass (topS 9) 15
abbrev sOver : Stmt := inClass (topS 9) 20
abbrev sIsOp : Stmt := topS 10
abbrev sAsR : Stmt := topS 11
abbrev sGcd : Stmt := topS 12
/-! ### fractions in the heap -/
theorem kTB : ¬ (("top" : Str) = "bottom") := by decide +kernel
def rflds (t b : Int) : List (Str × V) := putF "bottom" (.int b) (putF "top" (.int t) [])
theorem rflds_top (t b : Int) : (rflds t b).lookup ("top" : Str) = some (.int t) := by
  unfold rflds
  rw [lookup_putF, if_neg kTB, lookup_putF, if_pos rfl]
theorem rflds_bot (t b : Int) : (rflds t b).lookup ("bottom" : Str) = some (.int b) := by
  unfold rflds
  rw [lookup_putF, if_pos rfl]
theorem rflds_no (t b : Int) {m : Str} (h1 : ¬ m = "bottom") (h2 : ¬ m = "top") : (rflds t b).lookup m = none := by
  unfold rflds
  rw [lookup_putF, if_neg h1, lookup_putF, if_neg h2]
  all_goals rfl
def RatAt (C : Addr) (H : Hp) (p : Addr) (t b : Int) : Prop := ∃ dx, H p = some (.ins C dx (rflds t b))
theorem RatAt.own {C p : Addr} {H : Hp} {t b : Int} (h : RatAt C H p t b) : OwnV C H (.ref p) := let ⟨dx, e⟩ := h; ⟨p, dx, _, rfl, e⟩
theorem RatAt.same {C p : Addr} {H H' : Hp} {t b : Int} (h : RatAt C H p t b) (s : Same H H') : RatAt C H' p t b := let ⟨dx, e⟩ := h; ⟨dx, s _ _ e⟩
/-- a Ratio or an int, of value t / b -/
def Opd (C : Addr) (H : Hp) (x : V) (t b : Int) : Prop := (∃ p, x = .ref p ∧ RatAt C H p t b) ∨ (x = .int t ∧ b = 1)
theorem Opd.same {C : Addr} {H H' : Hp} {x : V} {t b : Int} (h : Opd C H x t b) (s : Same H H') : Opd C H' x t b := h.imp (fun ⟨p, e, r⟩ => ⟨p, e, r.same s⟩) id
/-- what the walk asks of the text -/
structure Txt (K : PySem.W.Frag) (mg : Str → Option Value) (C CN fI : Addr) : Prop where
  cl : Cls K C
  nT : NoAttr K C "top"
  nB : NoAttr K C "bottom"
  mgC : mg "Ratio" = some (.ref C)
  cA : findIn K (.ref C) "__class__" = some (some (.builtin "object.__class__"))
  cN : PySem.W.specialIn K (.builtin "object.__class__") "__get__" = some (some (.builtin "getset_descriptor.__get__"))
  cK : PySem.W.takesIn K (.builtin "object.__class__") = some true
  cM : PySem.W.mroIn K C (.type "object") = some true
  iCI : kitOne K (.ref C) (.type "int") = some false
  iIC : kitOne K (.type "int") (.ref C) = some false
  iCC : kitOne K (.ref C) (.ref C) = some true
  oex : OexC K CN
  xf : XfC K CN
  nW : findIn K (.ref CN) "word" = some none
  iN : findIn K (.ref CN) "__init__" = some (some (.ref fI))
  tN : PySem.W.typeIn K (.ref fI) = some (.type "function")
  mgN : mg "NoRatio" = some (.ref CN)
  eN : PySem.W.exmOne K (.ref CN) (.ref CN) = some true
  gIsi : mg "isinstance" = none
  gInt : mg "int" = none
  gBool : mg "bool" = none
  gAbs : mg "abs" = none
  gLen : mg "len" = none
  gRange : mg "range" = none
/-! ### promises -/
def spIsInt (C : Addr) : Sp := fun vs H Q _ => ∃ x, vs = [x] ∧ ((∃ i, x = .int i) ∧ Q (.bl true) H ∨ OwnV C H x ∧ Q (.bl false) H)
def spIsOp (C : Addr) : Sp := fun vs H Q _ => ∃ x, vs = [x] ∧ ((∃ i, x = .int i) ∨ OwnV C H x) ∧ Q (.bl true) H
def spGcd : Sp := fun vs H Q _ => ∃ a b : Int, vs = [.int a, .int b] ∧ Q (.int (Int.gcd a b : Int)) H
/-- NoRatio(word) leaves: the error's dict -/
def Zero (CN : Addr) (H : Hp) (E : XK) : Prop := ∀ d H', H d = none → Same H H' → H' d = some (.xd [(("word" : Str), V.str "zero")]) → E (.ref CN) (some d) H'
def spInit (C CN : Addr) : Sp := fun vs H Q E => ∃ (p dx : Addr) (t b : Int), vs = [.ref p, .int t, .int b] ∧ H p = some (.ins C dx []) ∧ t.natAbs < 2 ^ 4000 ∧ b.natAbs < 2 ^ 4000 ∧
  (b ≠ 0 → ∀ H', (∀ c o, H c = some o → c ≠ p → H' c = some o) → H' p = some (.ins C dx (rflds (rt t b) (rb t b))) → Q .non H') ∧
  (b = 0 → Zero CN H E)
def spNR (CN : Addr) : Sp := fun vs H Q _ => ∃ (a : Addr) (w : V), vs = [.ref a, w] ∧ H a = some (exo a CN none) ∧ ∀ dx, H dx = none → dx ≠ a → Q .non (upd (upd H dx (exd dx [(("word" : Str), w)])) a (exo a CN (some dx)))
section
variable {P : Program} {w : World} {K : PySem.W.Frag} {mg : Str → Option Value} {base : Heap} {C CN fI : Addr}
theorem op_fdivZ {X : Cx} : OpR X (binaryOp .FloorDiv) (rI (fun _ j => j ≠ 0 ∧ j.natAbs.log2 < 9000) fun i j => .int (i.fdiv j)) := opI fun i j _ _ _ _ _ hc q => PyProof.Rows.floordiv_int hc.1 q (.inl (PyProof.noPylong_of_log2 hc.2))
theorem Txt.ty (T : Txt K mg C CN fI) {H : Hp} {a dx : Addr} {fs : List (Str × V)} (e : H a = some (.ins C dx fs)) : TyX K H (.ref a) (.ref C) := .base (.ins e T.cl T.cA T.cN T.cK T.cM)
/-! ### is_integer -/
theorem scII : FnScope ["thing"] ["thing"] (defScope sIsInt) := ⟨rfl, rfl, rfl, by decide +kernel, rfl, by decide +kernel, by decide +kernel⟩
theorem ok_isint {f : Addr} {fd : FuncData} (F : Fun K "is_integer" "is_integer" sIsInt f fd) (T : Txt K mg C CN fI) : FnOk P w K mg base CX0 1 f fd ["thing"] (spIsInt C) := by
  refine F.ok scII (fun vs H Q E h => ?_) (fun cdv A outer s H vs Q E hr h => ?_)
  · obtain ⟨x, rfl, _⟩ := h
    rfl
  · obtain ⟨x, rfl, h⟩ := h
    refine ⟨_, pss_one (ps_ret (pe_and (pe_callB call_isi (by rfl) T.gIsi PyProof.Rows.boot_isinstance (pa_cons (pv 0) (pa_cons (pe_bltn (v := .ty "int") (by rfl) T.gInt PyProof.Rows.boot_int rfl) pa_nil)))
      (pe_one (pe_not (pe_callB call_isi (by rfl) T.gIsi PyProof.Rows.boot_isinstance (pa_cons (pv 0) (pa_cons (pe_bltn (v := .ty "bool") (by rfl) T.gBool PyProof.Rows.boot_bool rfl) pa_nil))))))), ?_⟩
    rcases h with ⟨⟨i, rfl⟩, q⟩ | ⟨⟨a, dx, fs, rfl, e⟩, q⟩
    · refine ⟨_, rfl, _, _, _, _, true, rfl, .ty _, .base (.int i), kit_ty (by decide +kernel), true, rfl, iteT ?_⟩
      exact ⟨_, rfl, _, _, _, _, false, rfl, .ty _, .base (.int i), kit_ty (by decide +kernel), false, rfl, q⟩
    · refine ⟨_, rfl, _, _, _, _, false, rfl, .ty _, T.ty e, T.iCI, false, rfl, iteF ?_⟩
      exact q
/-! ### common_divisor -/
theorem scG : FnScope ["one", "other"] ["one", "other"] (defScope sGcd) := ⟨rfl, rfl, rfl, by decide +kernel, rfl, by decide +kernel, by decide +kernel⟩
theorem ok_gcd {f : Addr} {fd : FuncData} (F : Fun K "common_divisor" "common_divisor" sGcd f fd) (T : Txt K mg C CN fI) : FnOk P w K mg base CX0 1 f fd ["one", "other"] spGcd := by
  refine F.ok scG (fun vs H Q E h => ?_) (fun cdv A outer s H vs Q E hr h => ?_)
  · obtain ⟨a, b, rfl, _⟩ := h
    rfl
  · obtain ⟨a, b, rfl, q⟩ := h
    refine ⟨_, pss_cons (ps_while PassesOwn.never (pt_cmpR op_ne (pv 1) pe_int (nomark _))
        (pss_one (ps_par (i := 0) (j := 1) (by rfl) scG.nd rfl rfl (by decide) rfl rfl (pa_cons (pv 1) (pa_cons (pe_op op_modN (pv 0) (pv 1)) pa_nil)) (by rfl))))
      (pss_one (ps_ret (pe_callB call_abs (by rfl) T.gAbs PyProof.Rows.boot_abs (pa_cons (pv 0) pa_nil)))), ?_⟩
    refine while_by (fun σ H' => ∃ x y : Int, σ = [some (.int x), some (.int y)] ∧ H' = H ∧ Int.gcd x y = Int.gcd a b) (fun σ _ => match σ with | [_, some (.int y)] => y.natAbs | _ => 0) ⟨a, b, rfl, rfl, rfl⟩ ?_ ?_
    · rintro σ H' ⟨x, y, rfl, rfl, e⟩
      refine ⟨_, rfl, rfl, _, rfl, ?_⟩
      by_cases hy : y = 0
      · subst hy
        refine iteNS rfl ?_
        refine ⟨_, rfl, x, rfl, ?_⟩
        have : (if x < 0 then -x else x) = (Int.gcd a b : Int) := by
          rw [← e, Int.gcd_zero_right]
          split <;> omega
        rw [this]
        exact q
      · rw [decide_eq_false (fun z => hy (V.int.inj z))]
        refine iteT ?_
        exact ⟨_, rfl, _, rfl, _, rfl, _, _, rfl, rfl, hy, _, _, rfl, ⟨y, x.fmod y, rfl, rfl, (gcd_turn x y).trans e⟩, fmod_less x y hy⟩
    · rintro σ H' Q1 Q2 m ⟨v, e1, h2⟩
      obtain ⟨h3, k, e2, h4⟩ := h2
      exact ⟨v, e1, h3, k, e2, m _ _ h4⟩
/-! ### NoRatio.__init__ -/
theorem scNR : FnScope ["self", "word"] ["self", "word"] (defScope sNRi) := ⟨rfl, rfl, rfl, by decide +kernel, rfl, by decide +kernel, by decide +kernel⟩
theorem ok_nr {f : Addr} {fd : FuncData} (F : Fun K "__init__" "NoRatio.__init__" sNRi f fd) (T : Txt K mg C CN fI) : FnOk P w K mg base CX0 1 f fd ["self", "word"] (spNR CN) := by
  refine F.ok scNR (fun vs H Q E h => ?_) (fun cdv A outer s H vs Q E hr h => ?_)
  · obtain ⟨a, w, rfl, _⟩ := h
    rfl
  · obtain ⟨a, w, rfl, e, q⟩ := h
    refine ⟨_, pss_one (ps_ost (pv 0) (pv 1)), ?_⟩
    exact ⟨_, rfl, _, rfl, a, CN, rfl, T.oex, T.nW, .inl ⟨e, q⟩⟩
end
end Pt

namespace Pt
open PySem PySem.Spec L2
open PySem.W (findIn isFn kitOne)
/-! ### sizes -/
def Sz (n : Nat) (t b : Int) : Prop := t.natAbs < 2 ^ n ∧ 1 ≤ b ∧ b.natAbs < 2 ^ n
theorem Sz.mono {n m : Nat} {t b : Int} (h : Sz n t b) (k : n ≤ m) : Sz m t b := ⟨Nat.lt_of_lt_of_le h.1 (Nat.pow_le_pow_right (by decide) k), h.2.1, Nat.lt_of_lt_of_le h.2.2 (Nat.pow_le_pow_right (by decide) k)⟩
theorem lt_mono {n m : Nat} {x : Int} (h : x.natAbs < 2 ^ n) (k : n ≤ m) : x.natAbs < 2 ^ m := Nat.lt_of_lt_of_le h (Nat.pow_le_pow_right (by decide) k)
theorem lt_add {n : Nat} {x y : Int} (h : x.natAbs < 2 ^ n) (k : y.natAbs < 2 ^ n) : (x + y).natAbs < 2 ^ (n + 1) := by
  rw [Nat.pow_succ]
  have := Int.natAbs_add_le x y
  omega
theorem lt_sub {n : Nat} {x y : Int} (h : x.natAbs < 2 ^ n) (k : y.natAbs < 2 ^ n) : (x - y).natAbs < 2 ^ (n + 1) := by
  rw [Int.sub_eq_add_neg]
  exact lt_add h (by rw [Int.natAbs_neg]; exact k)
theorem mulOk {n m : Nat} {x y : Int} (h : x.natAbs < 2 ^ n) (k : y.natAbs < 2 ^ m) (hn : 0 < n := by decide) (hm : 0 < m := by decide) (z : n + m ≤ 1000000 := by decide) : CMulW x y := wide_mul h k hn hm z
theorem divOk {x y : Int} {m : Nat} (h : y ≠ 0) (k : y.natAbs < 2 ^ m) (hm : 0 < m := by decide) (z : m ≤ 9000 := by decide) : y ≠ 0 ∧ y.natAbs.log2 < 9000 := ⟨h, Nat.lt_of_lt_of_le (PySem.Flt.log2_lt_of hm k) z⟩
theorem rt_one (t : Int) : rt t 1 = t := by
  unfold rt rg
  rw [if_neg (by decide)]
  simp
theorem rb_one (t : Int) : rb t 1 = 1 := by
  unfold rb rg
  rw [if_neg (by decide)]
  simp
/-! ### promises -/
abbrev G4 := Int → Int → Int → Int → Int
/-- a new Ratio of value N / D -/
def NewR (C : Addr) (H : Hp) (N D : Int) (Q : VK) : Prop := ∀ H' q, Same H H' → RatAt C H' q (rt N D) (rb N D) → Q (.ref q) H'
def spBin (C : Addr) (N D : G4) : Sp := fun vs H Q _ => ∃ (p : Addr) (y : V) (t b t' b' : Int), vs = [.ref p, y] ∧ RatAt C H p t b ∧ Opd C H y t' b' ∧ Sz 1000 t b ∧ Sz 1000 t' b' ∧ NewR C H (N t b t' b') (D t b t' b') Q
def spAsR (C : Addr) : Sp := fun vs H Q _ => ∃ (x : V) (t b : Int), vs = [x] ∧ Opd C H x t b ∧ Sz 1000 t b ∧ ∀ H' p, Same H H' → RatAt C H' p t b → Q (.ref p) H'
def aN : G4 := fun t b t' b' => t * b' + t' * b
def sN : G4 := fun t b t' b' => t * b' - t' * b
def mN : G4 := fun t _ t' _ => t * t'
def bD : G4 := fun _ b _ b' => b * b'
def rsN : G4 := fun t b t' b' => (rt (-t) b) * b' + t' * (rb (-t) b)
def rsD : G4 := fun t b _ b' => (rb (-t) b) * b'
def rmN : G4 := fun t _ t' _ => t * t'
/-- the negative, the same, the absolute value -/
def spUn (C : Addr) (N : Int → Int) : Sp := fun vs H Q _ => ∃ (p : Addr) (t b : Int), vs = [.ref p] ∧ RatAt C H p t b ∧ Sz 1000 t b ∧ NewR C H (N t) b Q
def spFloor (C CN : Addr) : Sp := fun vs H Q E => ∃ (p : Addr) (y : V) (t b t' b' : Int), vs = [.ref p, y] ∧ RatAt C H p t b ∧ Opd C H y t' b' ∧ Sz 1000 t b ∧ Sz 1000 t' b' ∧
  (t' ≠ 0 → ∀ H', Same H H' → Q (.int ((t * b').fdiv (b * t'))) H') ∧ (t' = 0 → ∀ H', Same H H' → Zero CN H' E)
def spRfloor (C CN : Addr) : Sp := fun vs H Q E => ∃ (p : Addr) (y : V) (t b t' b' : Int), vs = [.ref p, y] ∧ RatAt C H p t b ∧ Opd C H y t' b' ∧ Sz 1000 t b ∧ Sz 1000 t' b' ∧
  (t ≠ 0 → ∀ H', Same H H' → Q (.int ((t' * b).fdiv (b' * t))) H') ∧ (t = 0 → ∀ H', Same H H' → Zero CN H' E)
def spOver (C CN : Addr) : Sp := fun vs H Q E => ∃ (p : Addr) (y : V) (t b t' b' : Int), vs = [.ref p, y] ∧ RatAt C H p t b ∧ Opd C H y t' b' ∧ Sz 1000 t b ∧ Sz 1000 t' b' ∧
  (t' ≠ 0 → NewR C H (t * b') (b * t') Q) ∧ (t' = 0 → ∀ H', Same H H' → Zero CN H' E)
section
variable {P : Program} {w : World} {K : PySem.W.Frag} {mg : Str → Option Value} {base : Heap} {C CN fN : Addr}
theorem Zero.same {H H' : Hp} {E : XK} (z : Zero CN H E) (s : Same H H') : Zero CN H' E := fun d H2 n k e => z d H2 (s.free n) (s.trans k) e
/-- raise NoRatio("zero") -/
theorem zero_reads {H : Hp} {E : XK} {σ : L2.St} (z : Zero CN H E) : tMkO CN (spNR CN) [] (tCons (tC (.str "zero")) tNil) σ H (fun cls d H' => E cls d H') := by
  refine ⟨by decide, fun a na => ⟨a, _, rfl, upd_same, fun dx ndx ne => ⟨rfl, dx, _, upd_same, by rw [upd_ne ne, upd_same], ?_, ?_⟩⟩⟩
  · rw [upd_ne ne] at ndx
    exact ndx
  · rw [upd_ne ne] at ndx
    refine z dx _ ndx (fun b o e => ?_) upd_same
    have h1 : b ≠ dx := ne_of_none e ndx
    have h2 : b ≠ a := ne_of_none e na
    rw [upd_ne h1, del_ne h2, upd_ne h2, upd_ne h1, upd_ne h2]
    exact e
/-- the facts of the defs that all operators call -/
structure Core (P : Program) (w : World) (K : PySem.W.Frag) (mg : Str → Option Value) (base : Heap) (C CN fN : Addr) : Prop where
  T : Txt K mg C CN fN
  isI : ∃ f fd, FnOk P w K mg base CX0 1 f fd ["thing"] (spIsInt C) ∧ mg "is_integer" = some (.ref f) ∧ PySem.W.keepIn K (.ref f) = true ∧ Binds K fd ["thing"] []
  gcd : ∃ f fd, FnOk P w K mg base CX0 1 f fd ["one", "other"] spGcd ∧ mg "common_divisor" = some (.ref f) ∧ PySem.W.keepIn K (.ref f) = true ∧ Binds K fd ["one", "other"] []
  nr : ∃ fd, FnOk P w K mg base CX0 1 fN fd ["self", "word"] (spNR CN) ∧ Binds K fd ["self", "word"] []
theorem scIn : FnScope ["self", "top", "bottom", "shared"] ["self", "top", "bottom"] (defScope sInit) := ⟨rfl, rfl, rfl, by decide +kernel, rfl, by decide +kernel, by decide +kernel⟩
theorem ok_init {f : Addr} {fd : FuncData} (F : FunD K "__init__" "Ratio.__init__" (defArgs sInit) (defBody sInit) (defScope sInit) [.int 1] [] f fd) (O : Core P w K mg base C CN fN) :
    FnOk P w K mg base (L2.CX P w) 3 f fd ["self", "top", "bottom"] (spInit C CN) := by
  obtain ⟨T, ⟨fi, fdi, Gi, mi, ki, bi⟩, ⟨fg, fdg, Gg, mgg, kg, bg⟩, ⟨fdn, Gn, bn⟩⟩ := O
  refine F.ok scIn (fun vs H Q E h => ?_) (fun cdv A outer s H vs Q E hr h => ?_)
  · obtain ⟨p, dx, t, b, rfl, _⟩ := h
    rfl
  · obtain ⟨p, dx, t, b, rfl, hp, ht, hb, yes, no⟩ := h
    have hr1 : Room 1 _ := hr.mono (by decide)
    refine ⟨_, pss_cons (ps_if (pt_not (pt_val (pe_call Gi hr1 rfl mi ki bi .nil pass0 (pa_cons (pv 1) pa_nil)))) (pss_one ps_never) pss_nil)
      (pss_cons (ps_if (pt_not (pt_val (pe_call Gi hr1 rfl mi ki bi .nil pass0 (pa_cons (pv 2) pa_nil)))) (pss_one ps_never) pss_nil)
      (pss_cons (ps_if (pt_cmpR op_eq (pv 2) pe_int (nomark _)) (pss_one (ps_raise rfl (takes_of rfl rfl rfl rfl) (pmk_oex T.oex T.iN T.tN Gn hr bn .nil pass0 rfl T.mgN (pa_cons pe_str pa_nil)))) pss_nil)
      (pss_cons (ps_set (i := 3) scIn.nd rfl (Or.inl rfl) (pe_call Gg hr1 rfl mgg kg bg .nil pass0 (pa_cons (pv 1) (pa_cons (pv 2) pa_nil))))
      (pss_cons (ps_if (pt_cmpR op_lt (pv 2) pe_int (nomark _)) (pss_one (ps_set (i := 3) scIn.nd rfl (Or.inl rfl) (pe_un un_neg (pv 3)))) pss_nil)
      (pss_cons (ps_fld (pv 0) (pe_op op_fdivZ (pv 1) (pv 3)) rfl)
      (pss_one (ps_fld (pv 0) (pe_op op_fdivZ (pv 2) (pv 3)) rfl))))))), ?_⟩
    refine ⟨_, rfl, _, rfl, .inl ⟨⟨t, rfl⟩, _, rfl, iteF ?_⟩⟩
    refine ⟨_, rfl, _, rfl, .inl ⟨⟨b, rfl⟩, _, rfl, iteF ?_⟩⟩
    refine ⟨_, rfl, rfl, _, rfl, ?_⟩
    by_cases h0 : b = 0
    · subst h0
      rw [decide_eq_true rfl]
      exact iteT (zero_reads (no rfl))
    · rw [decide_eq_false (fun z => h0 (V.int.inj z))]
      refine iteF ?_
      refine ⟨_, rfl, _, rfl, t, b, rfl, ?_⟩
      have fin : ∀ g : Int, g = rg t b → ∀ v0 : V, (let σ : L2.St := [some (.ref p), some (.int t), some (.int b), some (.int g)]; sFld K (tVar 0) (tOp (rI (fun _ j => j ≠ 0 ∧ j.natAbs.log2 < 9000) fun i j => .int (i.fdiv j)) (tVar 1) (tVar 3)) "top"
          { nx := fun σ' H' => sFld K (tVar 0) (tOp (rI (fun _ j => j ≠ 0 ∧ j.natAbs.log2 < 9000) fun i j => .int (i.fdiv j)) (tVar 2) (tVar 3)) "bottom" { nx := fun _ H2 => Q .non H2, rt := Q } σ' H', rt := Q } σ H) := by
        rintro g rfl v0
        obtain ⟨m, e, hg, _⟩ := r_form (n := t) h0
        have hsz := lt_mono (Nat.lt_of_le_of_lt (rg_le (n := t) h0) hb) (m := 4000) (by decide)
        refine ⟨_, rfl, _, rfl, t, rg t b, rfl, rfl, divOk (x := t) hg hsz, _, rfl, p, C, dx, [], rfl, hp, T.cl, T.nT, by decide, ?_⟩
        refine ⟨_, rfl, _, rfl, b, rg t b, rfl, rfl, divOk (x := b) hg hsz, _, rfl, p, C, dx, _, rfl, upd_same, T.cl, T.nB, (by show 1 < 1000; decide), ?_⟩
        refine yes h0 _ (fun c o e hc => ?_) (by rw [upd_same] <;> rfl)
        rw [upd_ne hc, upd_ne hc]
        exact e
      refine ⟨_, rfl, _, _, rfl, rfl, _, rfl, ?_⟩
      by_cases hlt : b < 0
      · rw [decide_eq_true hlt]
        refine iteT ?_
        refine ⟨_, rfl, _, rfl, ?_⟩
        exact fin _ (by unfold rg; rw [if_pos hlt]) .non
      · rw [decide_eq_false hlt]
        refine iteF ?_
        exact fin _ (by unfold rg; rw [if_neg hlt]) .non
end
end Pt

namespace Pt
open PySem PySem.Spec L2
open PySem.W (findIn isFn kitOne)
section
variable {P : Program} {w : World} {K : PySem.W.Frag} {mg : Str → Option Value} {base : Heap} {C CN fN : Addr}
/-- what the operators call -/
structure Core2 (P : Program) (w : World) (K : PySem.W.Frag) (mg : Str → Option Value) (base : Heap) (C CN fN : Addr) : Prop where
  O : Core P w K mg base C CN fN
  init : ∃ f fd, FnOk P w K mg base (L2.CX P w) 3 f fd ["self", "top", "bottom"] (spInit C CN) ∧ Mk K C f ∧ Binds K fd ["self", "top", "bottom"] [] ∧ ∃ ds, Vals [.int 1] ds ∧ Binds K fd ["self", "top", "bottom"] ds
theorem new_same {H : Hp} {x dx : Addr} {o o' : HO} (nx : H x = none) (ndx : H dx = none) : Same H (upd (upd H dx o) x o') := fun b u e => by
  rw [upd_ne (ne_of_none e nx), upd_ne (ne_of_none e ndx)]
  exact e
/-- Ratio(n, d) is made -/
theorem made {H : Hp} {N D : Int} {Q : VK} {x dx : Addr} {E : XK} (hN : N.natAbs < 2 ^ 4000) (hD : D.natAbs < 2 ^ 4000) (h0 : D ≠ 0) (k : NewR C H N D Q) (nx : H x = none) (ndx : H dx = none) (ne : dx ≠ x) :
    spInit C CN [.ref x, .int N, .int D] (upd (upd H dx (.own x)) x (.ins C dx [])) (fun v H2 => v = .non ∧ Q (.ref x) H2) E :=
  ⟨x, dx, N, D, rfl, upd_same, hN, hD, fun _ H' kp e => ⟨rfl, k H' x (fun b o z => kp b o (new_same nx ndx b o z) (ne_of_none z nx)) ⟨dx, e⟩⟩, fun z => absurd z h0⟩
/-! ### is_operand, as_ratio -/
def spIsOp2 (C : Addr) : Sp := spIsOp C
theorem scIO : FnScope ["thing"] ["thing"] (defScope sIsOp) := ⟨rfl, rfl, rfl, by decide +kernel, rfl, by decide +kernel, by decide +kernel⟩
theorem ok_isop {f : Addr} {fd : FuncData} (F : Fun K "is_operand" "is_operand" sIsOp f fd) (O : Core P w K mg base C CN fN) : FnOk P w K mg base CX0 2 f fd ["thing"] (spIsOp C) := by
  obtain ⟨T, ⟨fi, fdi, Gi, mi, ki, bi⟩, _, _⟩ := O
  refine F.ok scIO (fun vs H Q E h => ?_) (fun cdv A outer s H vs Q E hr h => ?_)
  · obtain ⟨x, rfl, _⟩ := h
    rfl
  · obtain ⟨x, rfl, h, q⟩ := h
    refine ⟨_, pss_one (ps_ret (pe_or (pe_callB call_isi (by rfl) T.gIsi PyProof.Rows.boot_isinstance (pa_cons (pv 0) (pa_cons (pe_glob rfl T.mgC (v := .ref C) rfl) pa_nil)))
      (pe_one (pe_call Gi hr rfl mi ki bi .nil pass0 (pa_cons (pv 0) pa_nil))))), ?_⟩
    rcases h with ⟨i, rfl⟩ | ⟨a, dx, fs, rfl, e⟩
    · refine ⟨_, rfl, _, _, _, _, false, rfl, .own C, .base (.int i), T.iIC, false, rfl, iteF ?_⟩
      exact ⟨_, rfl, _, rfl, .inl ⟨⟨i, rfl⟩, q⟩⟩
    · exact ⟨_, rfl, _, _, _, _, true, rfl, .own C, T.ty e, T.iCC, true, rfl, iteT q⟩
theorem scAR : FnScope ["number"] ["number"] (defScope sAsR) := ⟨rfl, rfl, rfl, by decide +kernel, rfl, by decide +kernel, by decide +kernel⟩
theorem ok_asr {f : Addr} {fd : FuncData} (F : Fun K "as_ratio" "as_ratio" sAsR f fd) (O2 : Core2 P w K mg base C CN fN) : FnOk P w K mg base CX0 5 f fd ["number"] (spAsR C) := by
  obtain ⟨O, fi, fdi, Gi, M, b2, ds, vd, b1⟩ := O2
  have T := O.T
  refine F.ok scAR (fun vs H Q E h => ?_) (fun cdv A outer s H vs Q E hr h => ?_)
  · obtain ⟨x, t, b, rfl, _⟩ := h
    rfl
  · obtain ⟨x, t, b, rfl, hx, hz, q⟩ := h
    refine ⟨_, pss_cons (ps_if (pt_val (pe_callB call_isi (by rfl) T.gIsi PyProof.Rows.boot_isinstance (pa_cons (pv 0) (pa_cons (pe_glob rfl T.mgC (v := .ref C) rfl) pa_nil)))) (pss_one (ps_ret (pv 0))) pss_nil)
      (pss_one (ps_ret (pe_make M Gi hr rfl T.mgC b1 vd passL (pa_cons (pv 0) pa_nil)))), ?_⟩
    rcases hx with ⟨p, rfl, r⟩ | ⟨rfl, rfl⟩
    · obtain ⟨dx, e⟩ := id r
      refine ⟨_, rfl, _, _, _, _, true, rfl, .own C, T.ty e, T.iCC, true, rfl, iteT ?_⟩
      exact ⟨_, rfl, q H p (Same.refl H) r⟩
    · refine ⟨_, rfl, _, _, _, _, false, rfl, .own C, .base (.int t), T.iIC, false, rfl, iteF ?_⟩
      refine ⟨_, rfl, fun x dx nx ndx ne => made (lt_mono hz.1 (by decide)) (by decide) (by decide) (fun H' q' s r => ?_) nx ndx ne⟩
      rw [rt_one, rb_one] at r
      exact q H' q' s r
/-- the third layer -/
structure Core3 (P : Program) (w : World) (K : PySem.W.Frag) (mg : Str → Option Value) (base : Heap) (C CN fN : Addr) : Prop where
  O2 : Core2 P w K mg base C CN fN
  isO : ∃ f fd, FnOk P w K mg base CX0 2 f fd ["thing"] (spIsOp C) ∧ mg "is_operand" = some (.ref f) ∧ PySem.W.keepIn K (.ref f) = true ∧ Binds K fd ["thing"] []
  asR : ∃ f fd, FnOk P w K mg base CX0 5 f fd ["number"] (spAsR C) ∧ mg "as_ratio" = some (.ref f) ∧ PySem.W.keepIn K (.ref f) = true ∧ Binds K fd ["number"] []
theorem Opd.isop {H : Hp} {x : V} {t b : Int} (h : Opd C H x t b) : (∃ i, x = .int i) ∨ OwnV C H x := h.elim (fun ⟨p, e, r⟩ => .inr (by rw [e]; exact r.own)) fun ⟨e, _⟩ => .inl ⟨t, e⟩
/-! ### + - * -/
theorem scAdd : FnScope ["self", "other", "more"] ["self", "other"] (defScope sAdd) := ⟨rfl, rfl, rfl, by decide +kernel, rfl, by decide +kernel, by decide +kernel⟩
theorem scSub : FnScope ["self", "other", "less"] ["self", "other"] (defScope sSub) := ⟨rfl, rfl, rfl, by decide +kernel, rfl, by decide +kernel, by decide +kernel⟩
theorem scMul : FnScope ["self", "other", "factor"] ["self", "other"] (defScope sMul) := ⟨rfl, rfl, rfl, by decide +kernel, rfl, by decide +kernel, by decide +kernel⟩
theorem ok_add {f : Addr} {fd : FuncData} (F : Fun K "__add__" "Ratio.__add__" sAdd f fd) (O3 : Core3 P w K mg base C CN fN) : FnOk P w K mg base CX0 6 f fd ["self", "other"] (spBin C aN bD) := by
  obtain ⟨⟨O, fi, fdi, Gi, M, b2, _⟩, ⟨fo, fdo, Go, mo, ko, bo⟩, ⟨fa, fda, Ga, ma, ka, ba⟩⟩ := O3
  have T := O.T
  refine F.ok scAdd (fun vs H Q E h => ?_) (fun cdv A outer s H vs Q E hr h => ?_)
  · obtain ⟨p, y, t, b, t', b', rfl, _⟩ := h
    rfl
  · obtain ⟨p, y, t, b, t', b', rfl, hp, hy, z1, z2, k⟩ := h
    have hr2 : Room 2 _ := hr.mono (by decide)
    have hr4 : Room 4 _ := hr.mono (by decide)
    refine ⟨_, pss_cons (ps_if (pt_not (pt_val (pe_call Go hr2 rfl mo ko bo .nil pass0 (pa_cons (pv 1) pa_nil)))) (pss_one ps_never) pss_nil)
      (pss_cons (ps_set (i := 2) scAdd.nd rfl (Or.inl rfl) (pe_call Ga hr rfl ma ka ba .nil pass0 (pa_cons (pv 1) pa_nil)))
      (pss_one (ps_ret (pe_make M Gi hr4 rfl T.mgC b2 .nil passL (pa_cons (pe_op op_add (pe_op op_mulW (pe_fld (pv 0) rfl) (pe_fld (pv 2) rfl)) (pe_op op_mulW (pe_fld (pv 2) rfl) (pe_fld (pv 0) rfl))) (pa_cons (pe_op op_mulW (pe_fld (pv 0) rfl) (pe_fld (pv 2) rfl)) pa_nil)))))), ?_⟩
    refine ⟨_, rfl, y, rfl, hy.isop, _, rfl, iteF ?_⟩
    refine ⟨_, rfl, y, t', b', rfl, hy, z2, fun H1 q s1 hq => ?_⟩
    obtain ⟨dx, e1⟩ := hp.same s1
    obtain ⟨dy, e2⟩ := hq
    refine ⟨_, rfl, p, C, dx, _, _, rfl, e1, T.cl, T.nT, rflds_top _ _, _, rfl, q, C, dy, _, _, rfl, e2, T.cl, T.nB, rflds_bot _ _, t, b', rfl, rfl, mulOk z1.1 z2.2.2, ?_⟩
    refine ⟨_, rfl, q, C, dy, _, _, rfl, e2, T.cl, T.nT, rflds_top _ _, _, rfl, p, C, dx, _, _, rfl, e1, T.cl, T.nB, rflds_bot _ _, t', b, rfl, rfl, mulOk z2.1 z1.2.2, _, _, rfl, rfl, ?_⟩
    refine ⟨_, rfl, p, C, dx, _, _, rfl, e1, T.cl, T.nB, rflds_bot _ _, _, rfl, q, C, dy, _, _, rfl, e2, T.cl, T.nB, rflds_bot _ _, b, b', rfl, rfl, mulOk z1.2.2 z2.2.2, ?_⟩
    intro x dx' nx ndx ne
    refine made (lt_mono (lt_add (wide_lt z1.1 z2.2.2) (wide_lt z2.1 z1.2.2)) (by decide)) (lt_mono (wide_lt z1.2.2 z2.2.2) (by decide)) (mul_ne (by have := z1.2.1; omega) (by have := z2.2.1; omega)) (fun H' q' s r => k H' q' (s1.trans s) r) nx ndx ne
theorem ok_sub {f : Addr} {fd : FuncData} (F : Fun K "__sub__" "Ratio.__sub__" sSub f fd) (O3 : Core3 P w K mg base C CN fN) : FnOk P w K mg base CX0 6 f fd ["self", "other"] (spBin C sN bD) := by
  obtain ⟨⟨O, fi, fdi, Gi, M, b2, _⟩, ⟨fo, fdo, Go, mo, ko, bo⟩, ⟨fa, fda, Ga, ma, ka, ba⟩⟩ := O3
  have T := O.T
  refine F.ok scSub (fun vs H Q E h => ?_) (fun cdv A outer s H vs Q E hr h => ?_)
  · obtain ⟨p, y, t, b, t', b', rfl, _⟩ := h
    rfl
  · obtain ⟨p, y, t, b, t', b', rfl, hp, hy, z1, z2, k⟩ := h
    have hr2 : Room 2 _ := hr.mono (by decide)
    have hr4 : Room 4 _ := hr.mono (by decide)
    refine ⟨_, pss_cons (ps_if (pt_not (pt_val (pe_call Go hr2 rfl mo ko bo .nil pass0 (pa_cons (pv 1) pa_nil)))) (pss_one ps_never) pss_nil)
      (pss_cons (ps_set (i := 2) scSub.nd rfl (Or.inl rfl) (pe_call Ga hr rfl ma ka ba .nil pass0 (pa_cons (pv 1) pa_nil)))
      (pss_one (ps_ret (pe_make M Gi hr4 rfl T.mgC b2 .nil passL (pa_cons (pe_op op_sub (pe_op op_mulW (pe_fld (pv 0) rfl) (pe_fld (pv 2) rfl)) (pe_op op_mulW (pe_fld (pv 2) rfl) (pe_fld (pv 0) rfl))) (pa_cons (pe_op op_mulW (pe_fld (pv 0) rfl) (pe_fld (pv 2) rfl)) pa_nil)))))), ?_⟩
    refine ⟨_, rfl, y, rfl, hy.isop, _, rfl, iteF ?_⟩
    refine ⟨_, rfl, y, t', b', rfl, hy, z2, fun H1 q s1 hq => ?_⟩
    obtain ⟨dx, e1⟩ := hp.same s1
    obtain ⟨dy, e2⟩ := hq
    refine ⟨_, rfl, p, C, dx, _, _, rfl, e1, T.cl, T.nT, rflds_top _ _, _, rfl, q, C, dy, _, _, rfl, e2, T.cl, T.nB, rflds_bot _ _, t, b', rfl, rfl, mulOk z1.1 z2.2.2, ?_⟩
    refine ⟨_, rfl, q, C, dy, _, _, rfl, e2, T.cl, T.nT, rflds_top _ _, _, rfl, p, C, dx, _, _, rfl, e1, T.cl, T.nB, rflds_bot _ _, t', b, rfl, rfl, mulOk z2.1 z1.2.2, _, _, rfl, rfl, ?_⟩
    refine ⟨_, rfl, p, C, dx, _, _, rfl, e1, T.cl, T.nB, rflds_bot _ _, _, rfl, q, C, dy, _, _, rfl, e2, T.cl, T.nB, rflds_bot _ _, b, b', rfl, rfl, mulOk z1.2.2 z2.2.2, ?_⟩
    intro x dx' nx ndx ne
    refine made (lt_mono (lt_sub (wide_lt z1.1 z2.2.2) (wide_lt z2.1 z1.2.2)) (by decide)) (lt_mono (wide_lt z1.2.2 z2.2.2) (by decide)) (mul_ne (by have := z1.2.1; omega) (by have := z2.2.1; omega)) (fun H' q' s r => k H' q' (s1.trans s) r) nx ndx ne
theorem ok_mul {f : Addr} {fd : FuncData} (F : Fun K "__mul__" "Ratio.__mul__" sMul f fd) (O3 : Core3 P w K mg base C CN fN) : FnOk P w K mg base CX0 6 f fd ["self", "other"] (spBin C mN bD) := by
  obtain ⟨⟨O, fi, fdi, Gi, M, b2, _⟩, ⟨fo, fdo, Go, mo, ko, bo⟩, ⟨fa, fda, Ga, ma, ka, ba⟩⟩ := O3
  have T := O.T
  refine F.ok scMul (fun vs H Q E h => ?_) (fun cdv A outer s H vs Q E hr h => ?_)
  · obtain ⟨p, y, t, b, t', b', rfl, _⟩ := h
    rfl
  · obtain ⟨p, y, t, b, t', b', rfl, hp, hy, z1, z2, k⟩ := h
    have hr2 : Room 2 _ := hr.mono (by decide)
    have hr4 : Room 4 _ := hr.mono (by decide)
    refine ⟨_, pss_cons (ps_if (pt_not (pt_val (pe_call Go hr2 rfl mo ko bo .nil pass0 (pa_cons (pv 1) pa_nil)))) (pss_one ps_never) pss_nil)
      (pss_cons (ps_set (i := 2) scMul.nd rfl (Or.inl rfl) (pe_call Ga hr rfl ma ka ba .nil pass0 (pa_cons (pv 1) pa_nil)))
      (pss_one (ps_ret (pe_make M Gi hr4 rfl T.mgC b2 .nil passL (pa_cons (pe_op op_mulW (pe_fld (pv 0) rfl) (pe_fld (pv 2) rfl)) (pa_cons (pe_op op_mulW (pe_fld (pv 0) rfl) (pe_fld (pv 2) rfl)) pa_nil)))))), ?_⟩
    refine ⟨_, rfl, y, rfl, hy.isop, _, rfl, iteF ?_⟩
    refine ⟨_, rfl, y, t', b', rfl, hy, z2, fun H1 q s1 hq => ?_⟩
    obtain ⟨dx, e1⟩ := hp.same s1
    obtain ⟨dy, e2⟩ := hq
    refine ⟨_, rfl, p, C, dx, _, _, rfl, e1, T.cl, T.nT, rflds_top _ _, _, rfl, q, C, dy, _, _, rfl, e2, T.cl, T.nT, rflds_top _ _, t, t', rfl, rfl, mulOk z1.1 z2.1, ?_⟩
    refine ⟨_, rfl, p, C, dx, _, _, rfl, e1, T.cl, T.nB, rflds_bot _ _, _, rfl, q, C, dy, _, _, rfl, e2, T.cl, T.nB, rflds_bot _ _, b, b', rfl, rfl, mulOk z1.2.2 z2.2.2, ?_⟩
    intro x dx' nx ndx ne
    refine made (lt_mono (wide_lt z1.1 z2.1) (by decide)) (lt_mono (wide_lt z1.2.2 z2.2.2) (by decide)) (mul_ne (by have := z1.2.1; omega) (by have := z2.2.1; omega)) (fun H' q' s r => k H' q' (s1.trans s) r) nx ndx ne
end
end Pt

namespace Pt
open PySem PySem.Spec L2
open PySem.W (findIn isFn kitOne)
abbrev sStart : Stmt := topS 16
abbrev sDraw : Stmt := topS 17
/-! ### the law's draws -/
/-- the state at s, its cells at l -/
def LSt (H : Hp) (s l : Addr) : Prop := ∃ (i n : Int) (cs : List Int), H s = some (.lst [.ref l, .int i, .int n]) ∧ H l = some (.lst (cs.map V.int)) ∧ 0 < cs.length ∧ cs.length ≤ 64
/-- all but the state is kept -/
def Kp (s l : Addr) (H H' : Hp) : Prop := ∀ c o, H c = some o → c ≠ s → c ≠ l → H' c = some o
theorem Kp.refl (s l : Addr) (H : Hp) : Kp s l H H := fun _ _ e _ _ => e
theorem Kp.trans {s l : Addr} {H H1 H2 : Hp} (a : Kp s l H H1) (b : Kp s l H1 H2) : Kp s l H H2 := fun c o e h1 h2 => b c o (a c o e h1 h2) h1 h2
theorem Same.kp {s l : Addr} {H H' : Hp} (a : Same H H') : Kp s l H H' := fun c o e _ _ => a c o e
theorem LSt.same {H H' : Hp} {s l : Addr} (h : LSt H s l) (k : Same H H') : LSt H' s l := let ⟨i, n, cs, e1, e2, h⟩ := h; ⟨i, n, cs, k _ _ e1, k _ _ e2, h⟩
theorem LSt.ne {H : Hp} {s l : Addr} (h : LSt H s l) : s ≠ l := by
  obtain ⟨i, n, cs, e1, e2, _⟩ := h
  refine ne_of e1 e2 fun z => ?_
  have z2 := HO.lst.inj z
  cases cs with
  | nil => cases z2
  | cons c r =>
    have z3 := (List.cons.inj z2).1
    cases z3
theorem LSt.apart {H : Hp} {s l p C dx : Addr} {fs : List (Str × V)} (h : LSt H s l) (e : H p = some (.ins C dx fs)) : p ≠ s ∧ p ≠ l := by
  obtain ⟨i, n, cs, e1, e2, _⟩ := h
  exact ⟨ne_of e e1 (fun z => by cases z), ne_of e e2 (fun z => by cases z)⟩
theorem RatAt.kp {C p s l : Addr} {H H' : Hp} {t b : Int} (h : RatAt C H p t b) (L : LSt H s l) (k : Kp s l H H') : RatAt C H' p t b := by
  obtain ⟨dx, e⟩ := h
  obtain ⟨h1, h2⟩ := L.apart e
  exact ⟨dx, k _ _ e h1 h2⟩
theorem Opd.kp {C s l : Addr} {H H' : Hp} {x : V} {t b : Int} (h : Opd C H x t b) (L : LSt H s l) (k : Kp s l H H') : Opd C H' x t b := h.imp (fun ⟨p, e, r⟩ => ⟨p, e, r.kp L k⟩) id
def spStart (K : PySem.W.Frag) : Sp := fun vs H Q _ => ∃ (a : Addr) (ns : List Int), vs = [.ref a] ∧ SqL K H a (ns.map V.int) ∧ ns.length ≤ 63 ∧ ∀ H' s l, Same H H' → LSt H' s l → Q (.ref s) H'
def spDraw : Sp := fun vs H Q _ => ∃ (s l : Addr) (m : Int), vs = [.ref s, .int m] ∧ LSt H s l ∧ 0 < m ∧ m < 1073741824 ∧ ∀ H' r, Kp s l H H' → LSt H' s l → 0 ≤ r → r < m → Q (.int r) H'
/-- the built-in names of the text -/
structure Bl (mg : Str → Option Value) : Prop where
  gInt : mg "int" = none
  gLen : mg "len" = none
section
variable {P : Program} {w : World} {K : PySem.W.Frag} {mg : Str → Option Value} {base : Heap}
theorem cut_ints (ns : List Int) (lo hi : Option Int) : ∃ cs : List Int, cutV (ns.map V.int) lo hi = cs.map V.int ∧ cs.length ≤ ns.length := by
  refine ⟨(ns.drop (HT.sIx (ns.map V.int).length 0 lo)).take (HT.sIx (ns.map V.int).length (ns.map V.int).length hi - HT.sIx (ns.map V.int).length 0 lo), ?_, ?_⟩
  · unfold cutV
    rw [List.map_take, List.map_drop]
  · rw [List.length_take, List.length_drop]
    omega
theorem scSt : FnScope ["_law_script", "_law_cell"] ["_law_script"] (defScope sStart) := ⟨rfl, rfl, rfl, by decide +kernel, rfl, by decide +kernel, by decide +kernel⟩
theorem ok_start {f : Addr} {fd : FuncData} (F : Fun K "_law_start" "_law_start" sStart f fd) (T : Bl mg) : FnOk P w K mg base CX0 1 f fd ["_law_script"] (spStart K) := by
  refine F.ok scSt (fun vs H Q E h => ?_) (fun cdv A outer s H vs Q E hr h => ?_)
  · obtain ⟨a, ns, rfl, _⟩ := h
    rfl
  · obtain ⟨a, ns, rfl, hS, hl, k⟩ := h
    refine ⟨_, pss_one (ps_ret (pe_lst (pa_cons (pe_op op_cat
        (pe_lc (own := [("_law_cell", 1)]) (g := gName 1) (tt := tYes) rfl scSt.nd (pi_list (pe_slice sl_list (pv 0) po_none (po_some pe_int))) (blkOk_by (N := ["_law_script", "_law_cell"]) (sc := defScope sStart) (by decide +kernel))
          (fun _ _ _ _ _ => pg_name (i := 1) scSt.nd rfl (Or.inl rfl)) (fun _ _ _ _ _ => pts_nil) (fun _ _ _ _ _ => pe_callTy call_int1 (by rfl) T.gInt PyProof.Rows.boot_int (pa_cons (pv 1) pa_nil)))
        (pe_lst (pa_cons (pe_callB call_len_seq (by rfl) T.gLen PySem.boot_len (pa_cons (pv 0) pa_nil)) pa_nil))) (pa_cons pe_int (pa_cons pe_int pa_nil))))), ?_⟩
    obtain ⟨cs, ec, hc⟩ := cut_ints ns none (some 63)
    refine ⟨_, rfl, _, rfl, a, _, rfl, hS, fun p np => ?_⟩
    rw [ec]
    refine ⟨p, rfl, ⟨_, SqL.of upd_same⟩, fun D nD => ?_⟩
    have npD : p ≠ D := fun z => by rw [z, upd_same] at nD; cases nD
    have hD0 : H D = none := by rw [upd_ne (Ne.symm npD)] at nD; exact nD
    refine lc_list (K := K) (a := p) (xs := cs.map V.int) (fun i H' => Same H H' ∧ H' p = some (.lst (cs.map V.int)) ∧ H' D = some (.lst ((cs.take i).map V.int))) ⟨fun c o e => ?_, by rw [upd_ne npD, upd_same], by rw [upd_same]; rfl⟩ (fun i H' _ h => SqL.of h.2.1) ?_ ?_
    · rw [upd_ne (ne_of_none e hD0), upd_ne (ne_of_none e np)]
      exact e
    · intro i x H' hx ⟨sm, hp, hD⟩
      rw [List.getElem?_map] at hx
      cases hz : cs[i]? with
      | none => rw [hz] at hx; cases hx
      | some z =>
        rw [hz] at hx
        obtain rfl : V.int z = x := Option.some.inj hx
        have hlt : i < cs.length := (List.getElem?_eq_some_iff.mp hz).1
        refine ⟨rfl, ?_⟩
        refine ⟨_, rfl, .inl ⟨z, rfl, _, hD, small1000 (by rw [List.length_map, List.length_take]; omega), fun c o e => ?_, ?_, ?_⟩⟩
        · rw [upd_ne (ne_of_none e hD0)]
          exact sm c o e
        · rw [upd_ne npD]
          exact hp
        · rw [upd_same, List.take_add_one, hz, List.map_append]
          rfl
    · rintro H' ⟨sm, hp, hD⟩
      rw [List.length_map, List.take_length] at hD
      refine ⟨_, rfl, a, _, rfl, .inl (sm.seq hS), (by show 1 ≤ sizeLine; decide), fun l2 n2 => ?_⟩
      have e1 : D ≠ l2 := ne_of_none hD n2
      refine ⟨D, l2, _, _, rfl, rfl, by rw [upd_ne e1]; exact hD, upd_same, ?_, fun q nq => ⟨(by show 3 ≤ sizeLine; decide), fun r nr => ?_⟩⟩
      · have := small1000 (n := cs.length + 1) (by omega)
        rw [List.length_map]
        exact Nat.le_of_lt this
      · have nq' : H' q = none := by
          have := ne_of_none (upd_same (H := H') (a := l2) (o := .lst [.int (List.map V.int ns).length])) nq
          rw [upd_ne (Ne.symm this)] at nq
          exact nq
        have nqr : q ≠ r := ne_of_none upd_same nr
        have nr' : H' r = none := by
          rw [upd_ne (Ne.symm nqr)] at nr
          have := ne_of_none (upd_same (H := H') (a := l2) (o := .lst [.int (List.map V.int ns).length])) nr
          rw [upd_ne (Ne.symm this)] at nr
          exact nr
        refine k _ r q (fun c o e => ?_) ⟨0, 0, cs ++ [((List.map V.int ns).length : Int)], upd_same, ?_, by simp, by simp; omega⟩
        · have h' := sm c o e
          rw [upd_ne (ne_of_none h' nr'), upd_ne (ne_of_none h' nq'), upd_ne (ne_of_none h' n2)]
          exact h'
        · rw [upd_ne nqr, upd_same, List.map_append]
          rfl
end
end Pt

namespace Pt
open PySem PySem.Spec L2
open PySem.W (findIn isFn kitOne)
section
variable {P : Program} {w : World} {K : PySem.W.Frag} {mg : Str → Option Value} {base : Heap}
theorem ixN_nat {n j : Nat} (h : j < n) : ixN n (j : Int) = some j := by
  unfold ixN
  rw [if_pos (by omega), if_pos (by omega)]
  simp
theorem fmod_pos {a m : Int} (h : 0 < m) : 0 ≤ a.fmod m ∧ a.fmod m < m := ⟨Int.fmod_nonneg_of_pos a h, Int.fmod_lt_of_pos a h⟩
theorem emod_pos {a m : Int} (h : 0 < m) : 0 ≤ a % m ∧ a % m < m := ⟨Int.emod_nonneg a (by omega), Int.emod_lt_of_pos a h⟩
theorem scDr : FnScope ["_law_state", "_law_many", "_law_cells", "_law_at", "_law_cell", "_law_one"] ["_law_state", "_law_many"] (defScope sDraw) := ⟨rfl, rfl, rfl, by decide +kernel, rfl, by decide +kernel, by decide +kernel⟩
theorem ok_draw {f : Addr} {fd : FuncData} (F : Fun K "_law_draw" "_law_draw" sDraw f fd) (T : Bl mg) : FnOk P w K mg base CX0 1 f fd ["_law_state", "_law_many"] spDraw := by
  refine F.ok scDr (fun vs H Q E h => ?_) (fun cdv A outer s H vs Q E hr h => ?_)
  · obtain ⟨s, l, m, rfl, _⟩ := h
    rfl
  · obtain ⟨s, l, m, rfl, L, m0, m1, k⟩ := h
    have hne := L.ne
    obtain ⟨i, n, cs, e1, e2, c0, c1⟩ := id L
    refine ⟨_, pss_cons (ps_set (i := 2) scDr.nd rfl (Or.inl rfl) (pe_ix ix_list (pv 0) pe_int (fun _ _ => rfl)))
      (pss_cons (ps_set (i := 3) scDr.nd rfl (Or.inl rfl) (pe_op op_modN (pe_callTy call_int1 (by rfl) T.gInt PyProof.Rows.boot_int (pa_cons (pe_ix ix_list (pv 0) pe_int (fun _ _ => rfl)) pa_nil)) (pe_callB call_len_seq (by rfl) T.gLen PySem.boot_len (pa_cons (pv 2) pa_nil))))
      (pss_cons (ps_asg (pe_op op_add (pe_ix ix_list (pv 0) pe_int (fun _ _ => rfl)) pe_int) (pg_sub (pv 0) pe_int set_list))
      (pss_cons (ps_set (i := 4) scDr.nd rfl (Or.inl rfl) (pe_ix ix_list (pv 2) (pv 3) (fun _ _ => rfl)))
      (pss_cons (ps_if (pt_cmpR op_ge (pv 4) (pe_op op_pow pe_int pe_int) (nomark _))
        (pss_cons (ps_asg (pe_op op_fdiv (pv 4) (pv 1)) (pg_sub (pv 2) (pv 3) set_list))
        (pss_one (ps_ret (pe_op op_modN (pe_callTy call_int1 (by rfl) T.gInt PyProof.Rows.boot_int (pa_cons (pv 4) pa_nil)) (pv 1))))) pss_nil)
      (pss_cons (ps_asg (pe_op op_add (pv 3) pe_int) (pg_sub (pv 0) pe_int set_list))
      (pss_cons (ps_set (i := 5) scDr.nd rfl (Or.inl rfl) (pe_op op_mod (pe_callTy call_int1 (by rfl) T.gInt PyProof.Rows.boot_int (pa_cons (pe_op op_mul (pe_op op_add (pe_op op_add (pv 4) (pe_op op_mul pe_int (pe_ix ix_list (pv 0) pe_int (fun _ _ => rfl)))) pe_int) pe_int) pa_nil)) pe_int))
      (pss_cons (ps_set (i := 5) scDr.nd rfl (Or.inl rfl) (pe_op op_mod (pe_callTy call_int1 (by rfl) T.gInt PyProof.Rows.boot_int (pa_cons (pe_op op_mul (pv 5) (pe_op op_add (pe_op op_fdiv (pv 5) pe_int) pe_int)) pa_nil)) pe_int))
      (pss_cons (ps_set (i := 5) scDr.nd rfl (Or.inl rfl) (pe_op op_mod (pe_callTy call_int1 (by rfl) T.gInt PyProof.Rows.boot_int (pa_cons (pe_op op_mul (pv 5) (pe_op op_add (pe_op op_fdiv (pv 5) pe_int) pe_int)) pa_nil)) pe_int))
      (pss_one (ps_ret (pe_op op_modN (pe_callTy call_int1 (by rfl) T.gInt PyProof.Rows.boot_int (pa_cons (pe_op op_fdiv (pv 5) pe_int) pa_nil)) (pv 1)))))))))))), ?_⟩
    have hlen : 0 < ((cs.map V.int).length : Int) := by rw [List.length_map]; omega
    have hat := fmod_pos (a := i) hlen
    obtain ⟨j, hj⟩ : ∃ j : Nat, i.fmod ((cs.map V.int).length : Int) = (j : Int) := ⟨_, (Int.toNat_of_nonneg hat.1).symm⟩
    have hjl : j < cs.length := by
      have := hat.2
      rw [hj, List.length_map] at this
      omega
    obtain ⟨c, hc⟩ : ∃ c, cs[j]? = some c := ⟨_, List.getElem?_eq_getElem hjl⟩
    -- cells, at, the turn
    refine ⟨_, rfl, s, _, 0, _, rfl, rfl, SqL.of e1, rfl, ?_⟩
    refine ⟨_, rfl, s, _, 1, .int i, rfl, rfl, SqL.of e1, rfl, .inl ⟨i, rfl, _, rfl, l, _, rfl, .inl (SqL.of e2), _, _, rfl, rfl, (by omega), ?_⟩⟩
    dsimp only
    rw [hj]
    refine ⟨_, rfl, s, _, 2, .int n, rfl, rfl, SqL.of e1, rfl, _, _, rfl, rfl, _, rfl, s, _, 2, 2, rfl, rfl, e1, rfl, ?_⟩
    have e1' : upd H s (.lst (([.ref l, .int i, .int n] : List V).set 2 (.int (n + 1)))) s = some (.lst [.ref l, .int i, .int (n + 1)]) := upd_same
    generalize hH1 : upd H s (.lst (([.ref l, .int i, .int n] : List V).set 2 (.int (n + 1)))) = H1 at e1'
    have e2' : H1 l = some (.lst (cs.map V.int)) := by rw [← hH1, upd_ne (Ne.symm hne)]; exact e2
    have kp1 : Kp s l H H1 := fun c o e h1 h2 => by rw [← hH1, upd_ne h1]; exact e
    refine ⟨_, rfl, _, rfl, l, _, (j : Int), .int c, rfl, rfl, SqL.of e2', atI_nat (by rw [List.getElem?_map, hc]; rfl), ?_⟩
    refine ⟨_, rfl, 10, 18, rfl, rfl, ⟨by decide, by decide, by decide⟩, c, _, rfl, rfl, _, rfl, ?_⟩
    refine ite2 (fun _ => ?_) (fun _ => ?_)
    · -- a great cell
      refine ⟨_, rfl, _, rfl, c, m, rfl, rfl, ⟨m0, m1⟩, _, rfl, _, rfl, l, _, (j : Int), j, rfl, rfl, e2', ixN_nat (by rw [List.length_map]; exact hjl), ?_⟩
      refine ⟨_, rfl, .inl ⟨c, rfl, _, rfl, c, m, rfl, rfl, by omega, ?_⟩⟩
      have hm := fmod_pos (a := c) m0
      refine k _ _ (fun c' o e h1 h2 => by rw [upd_ne h2]; exact kp1 c' o e h1 h2) ⟨i, n + 1, cs.set j (c / m), by rw [upd_ne hne]; exact e1', ?_, by rw [List.length_set]; exact c0, by rw [List.length_set]; exact c1⟩ hm.1 hm.2
      rw [upd_same, List.map_set]
    · -- a small one
      refine ⟨_, rfl, _, _, rfl, rfl, _, rfl, s, _, 1, 1, rfl, rfl, e1', rfl, ?_⟩
      have e1'' : upd H1 s (.lst (([.ref l, .int i, .int (n + 1)] : List V).set 1 (.int ((j : Int) + 1)))) s = some (.lst [.ref l, .int ((j : Int) + 1), .int (n + 1)]) := upd_same
      have kp2 : Kp s l H (upd H1 s (.lst (([.ref l, .int i, .int (n + 1)] : List V).set 1 (.int ((j : Int) + 1))))) := fun c o e h1 h2 => by rw [upd_ne h1]; exact kp1 c o e h1 h2
      have e2'' : upd H1 s (.lst (([.ref l, .int i, .int (n + 1)] : List V).set 1 (.int ((j : Int) + 1)))) l = some (.lst (cs.map V.int)) := by rw [upd_ne (Ne.symm hne)]; exact e2'
      generalize upd H1 s (.lst (([.ref l, .int i, .int (n + 1)] : List V).set 1 (.int ((j : Int) + 1)))) = H2 at e1'' e2'' kp2
      refine ⟨_, rfl, _, rfl, s, _, 2, .int (n + 1), rfl, rfl, SqL.of e1'', rfl, _, _, rfl, rfl, .inl ⟨by decide, by decide⟩, _, _, rfl, rfl, _, _, rfl, rfl, _, _, rfl, rfl, .inr ⟨by decide, by decide⟩, .inl ⟨_, rfl, _, _, rfl, rfl, (by show (0 : Int) < 2147483647; decide), ?_⟩⟩
      generalize ((c + 7919 * (n + 1) + 1) * 48271) = z1
      have b1 := emod_pos (a := z1) (m := 2147483647) (by decide)
      generalize z1 % 2147483647 = o1 at b1
      refine ⟨_, rfl, _, rfl, _, _, rfl, rfl, ⟨by decide, by decide⟩, _, _, rfl, rfl, _, _, rfl, rfl, .inl ⟨by omega, by omega⟩, .inl ⟨_, rfl, _, _, rfl, rfl, (by show (0 : Int) < 2147483647; decide), ?_⟩⟩
      generalize o1 * (o1 / 1009 + 69621) = z2
      have b2 := emod_pos (a := z2) (m := 2147483647) (by decide)
      generalize z2 % 2147483647 = o2 at b2
      refine ⟨_, rfl, _, rfl, _, _, rfl, rfl, ⟨by decide, by decide⟩, _, _, rfl, rfl, _, _, rfl, rfl, .inl ⟨by omega, by omega⟩, .inl ⟨_, rfl, _, _, rfl, rfl, (by show (0 : Int) < 2147483399; decide), ?_⟩⟩
      generalize o2 * (o2 / 2003 + 40692) = z3
      refine ⟨_, rfl, _, _, rfl, rfl, ⟨by decide, by decide⟩, .inl ⟨_, rfl, _, rfl, _, m, rfl, rfl, by omega, ?_⟩⟩
      exact k _ _ kp2 ⟨_, _, cs, e1'', e2'', c0, c1⟩ (fmod_pos m0).1 (fmod_pos m0).2
end
end Pt

namespace Pt
open PySem PySem.Spec L2
open PySem.W (findIn isFn kitOne)
abbrev sFar : Stmt := topS 18
def spFar : Sp := fun vs H Q _ => ∃ (s l : Addr) (B : Int), vs = [.ref s, .int B] ∧ LSt H s l ∧ 3 ≤ B ∧ ∀ H' r, Kp s l H H' → LSt H' s l → r.natAbs ≤ B.natAbs → Q (.int r) H'
def spIsR (C : Addr) : Sp := fun vs H Q _ => ∃ (p : Addr) (t b A B : Int), vs = [.ref p, .int A, .int B] ∧ RatAt C H p t b ∧ IsV t b A B ∧ Sz 4000 t b ∧ A.natAbs < 2 ^ 4000 ∧ B.natAbs < 2 ^ 4000 ∧ Q (.bl true) H
structure LawD (P : Program) (w : World) (K : PySem.W.Frag) (mg : Str → Option Value) (base : Heap) : Prop where
  bl : Bl mg
  draw : ∃ f fd, FnOk P w K mg base CX0 1 f fd ["_law_state", "_law_many"] spDraw ∧ mg "_law_draw" = some (.ref f) ∧ PySem.W.keepIn K (.ref f) = true ∧ Binds K fd ["_law_state", "_law_many"] []
section
variable {P : Program} {w : World} {K : PySem.W.Frag} {mg : Str → Option Value} {base : Heap} {C CN fN : Addr}
theorem scFar : FnScope ["_law_state", "_law_bound", "_law_kind", "_law_number_here", "_law_k"] ["_law_state", "_law_bound"] (defScope sFar) := ⟨rfl, rfl, rfl, by decide +kernel, rfl, by decide +kernel, by decide +kernel⟩
theorem ok_far {f : Addr} {fd : FuncData} (F : Fun K "_law_far" "_law_far" sFar f fd) (D : LawD P w K mg base) (gR : mg "range" = none) : FnOk P w K mg base CX0 2 f fd ["_law_state", "_law_bound"] spFar := by
  obtain ⟨T, fd1, fdd, Gd, md, kd, bd⟩ := D
  refine F.ok scFar (fun vs H Q E h => ?_) (fun cdv A outer s0 H vs Q E hr h => ?_)
  · obtain ⟨s, l, B, rfl, _⟩ := h
    rfl
  · obtain ⟨s, l, B, rfl, L, hB, k⟩ := h
    refine ⟨_, pss_cons (ps_set (i := 2) scFar.nd rfl (Or.inl rfl) (pe_call Gd hr rfl md kd bd .nil pass0 (pa_cons (pv 0) (pa_cons pe_int pa_nil))))
      (pss_cons (ps_if (pt_cmpR op_eq (pv 2) pe_int (nomark _)) (pss_one (ps_ret (pe_op op_sub (pe_call Gd hr rfl md kd bd .nil pass0 (pa_cons (pv 0) (pa_cons pe_int pa_nil))) pe_int))) pss_nil)
      (pss_cons (ps_if (pt_cmpR op_eq (pv 2) pe_int (nomark _)) (pss_one (ps_ret (pe_op op_sub (pv 1) (pe_call Gd hr rfl md kd bd .nil pass0 (pa_cons (pv 0) (pa_cons pe_int pa_nil)))))) pss_nil)
      (pss_cons (ps_if (pt_cmpR op_eq (pv 2) pe_int (nomark _)) (pss_one (ps_ret (pe_op op_sub (pe_call Gd hr rfl md kd bd .nil pass0 (pa_cons (pv 0) (pa_cons pe_int pa_nil))) (pv 1)))) pss_nil)
      (pss_cons (ps_set (i := 3) scFar.nd rfl (Or.inl rfl) pe_int)
      (pss_cons (ps_for PassesOwn.never rfl (pi_range1 rfl gR (pa_cons pe_int pa_nil)) (pg_name (i := 4) scFar.nd rfl (Or.inl rfl))
        (pss_one (ps_set (i := 3) scFar.nd rfl (Or.inl rfl) (pe_op op_add (pe_op op_mul (pv 3) (pe_op op_pow pe_int pe_int)) (pe_call Gd hr rfl md kd bd .nil pass0 (pa_cons (pv 0) (pa_cons (pe_op op_pow pe_int pe_int) pa_nil)))))))
      (pss_one (ps_ret (pe_op op_sub (pe_op op_modN (pe_callTy call_int1 (by rfl) T.gInt PyProof.Rows.boot_int (pa_cons (pv 3) pa_nil)) (pe_op op_add (pe_op op_mul pe_int (pv 1)) pe_int)) (pv 1))))))))), ?_⟩
    refine ⟨_, rfl, s, l, 4, rfl, L, by decide, by decide, fun H1 r0 k1 L1 r00 r01 => ?_⟩
    refine ⟨_, rfl, rfl, _, rfl, ite2 (fun _ => ?_) (fun _ => ?_)⟩
    · refine ⟨_, rfl, s, l, 7, rfl, L1, by decide, by decide, fun H2 r k2 L2 r0 r1 => ⟨_, _, rfl, rfl, ?_⟩⟩
      exact k H2 _ (k1.trans k2) L2 (by omega)
    refine ⟨_, rfl, rfl, _, rfl, ite2 (fun _ => ?_) (fun _ => ?_)⟩
    · refine ⟨_, rfl, _, rfl, s, l, 3, rfl, L1, by decide, by decide, fun H2 r k2 L2 r0 r1 => ⟨_, _, rfl, rfl, ?_⟩⟩
      exact k H2 _ (k1.trans k2) L2 (by omega)
    refine ⟨_, rfl, rfl, _, rfl, ite2 (fun _ => ?_) (fun _ => ?_)⟩
    · refine ⟨_, rfl, s, l, 3, rfl, L1, by decide, by decide, fun H2 r k2 L2 r0 r1 => ⟨_, rfl, _, _, rfl, rfl, ?_⟩⟩
      exact k H2 _ (k1.trans k2) L2 (by omega)
    refine ⟨4, rfl, by decide, by decide, for_range (n := 4) (fun i σ H' => ∃ (v : Option V) (n : Int), σ = [some (.ref s), some (.int B), some (.int r0), some (.int n), v] ∧ Kp s l H H' ∧ LSt H' s l) ⟨none, 0, rfl, k1, L1⟩ ?_ ?_⟩
    · rintro i σ H' hi ⟨v, n, rfl, k2, L2⟩
      refine ⟨_, rfl, 10, 9, rfl, rfl, ⟨by decide, by decide, by decide⟩, n, _, rfl, rfl, .inr ⟨by decide, by decide⟩, ?_⟩
      refine ⟨_, rfl, 10, 9, rfl, rfl, ⟨by decide, by decide, by decide⟩, s, l, 10 ^ 9, rfl, L2, by decide, by decide, fun H3 r k3 L3 _ _ => ⟨_, _, rfl, rfl, ?_⟩⟩
      exact ⟨_, _, rfl, k2.trans k3, L3⟩
    · rintro σ H' ⟨v, n, rfl, k2, L2⟩
      refine ⟨_, rfl, .inl ⟨n, rfl, _, rfl, 2, B, rfl, rfl, .inl ⟨by decide, by decide⟩, _, _, rfl, rfl, n, _, rfl, rfl, by omega, _, rfl, _, _, rfl, rfl, ?_⟩⟩
      have hm := fmod_pos (a := n) (m := 2 * B + 1) (by omega)
      exact k H' _ k2 L2 (by omega)
end
end Pt

namespace Pt
open PySem PySem.Spec L2
open PySem.W (findIn isFn kitOne)
abbrev sLt : Stmt := inClass (topS 9) 16
abbrev sLe : Stmt := inClass (topS 9) 17
abbrev sGt : Stmt := inClass (topS 9) 18
abbrev sGe : Stmt := inClass (topS 9) 19
abbrev sText : Stmt := inClass (topS 9) 22
/-- what else is asked of the classes -/
structure Oth (K : PySem.W.Frag) (C : Addr) : Prop where
  non : kitOne K (.type "NoneType") (.ref C) = some false
  str : kitOne K (.type "str") (.ref C) = some false
  lst : kitOne K (.type "list") (.ref C) = some false
  tup : kitOne K (.type "tuple") (.ref C) = some false
/-- a thing that is no number -/
inductive Odd (H : Hp) : V → String → Prop where
  | non : Odd H .non "NoneType"
  | str (z : Str) : Odd H (.str z) "str"
  | lst {a : Addr} {xs : List V} (e : H a = some (.lst xs)) : Odd H (.ref a) "list"
  | tup {a : Addr} {xs : List V} (e : H a = some (.tup xs)) : Odd H (.ref a) "tuple"
section
variable {P : Program} {w : World} {K : PySem.W.Frag} {mg : Str → Option Value} {base : Heap} {C CN fN : Addr}
theorem Odd.ty {H : Hp} {x : V} {t : String} (h : Odd H x t) : TyX K H x (.type t) := by
  cases h with
  | non => exact .base .non
  | str z => exact .base (.str z)
  | lst e => exact .base (.lst e)
  | tup e => exact .base (.tup e)
theorem Odd.int {H : Hp} {x : V} {t : String} (h : Odd H x t) : kitOne K (.type t) (.type "int") = some false := by
  cases h with
  | non => exact kit_ty (by decide +kernel)
  | str z => exact kit_ty (by decide +kernel)
  | lst e => exact kit_ty (by decide +kernel)
  | tup e => exact kit_ty (by decide +kernel)
theorem Odd.own {H : Hp} {x : V} {t : String} (O : Oth K C) (h : Odd H x t) : kitOne K (.type t) (.ref C) = some false := by
  cases h with
  | non => exact O.non
  | str z => exact O.str
  | lst e => exact O.lst
  | tup e => exact O.tup
theorem Odd.other {H : Hp} {x : V} {t : String} (h : Odd H x t) : OtherT C H x (.type t) := by
  cases h with
  | non => exact .non
  | str z => exact .str z
  | lst e => exact .lst e
  | tup e => exact .tup e
def spIsInt2 : Sp := fun vs H Q _ => ∃ x, vs = [x] ∧ ((∃ i, x = .int i) ∧ Q (.bl true) H ∨ (∃ t, Odd H x t) ∧ Q (.bl false) H)
theorem ok_isint2 {f : Addr} {fd : FuncData} (F : Fun K "is_integer" "is_integer" sIsInt f fd) (T : Txt K mg C CN fN) : FnOk P w K mg base CX0 1 f fd ["thing"] spIsInt2 := by
  refine F.ok scII (fun vs H Q E h => ?_) (fun cdv A outer s H vs Q E hr h => ?_)
  · obtain ⟨x, rfl, _⟩ := h
    rfl
  · obtain ⟨x, rfl, h⟩ := h
    refine ⟨_, pss_one (ps_ret (pe_and (pe_callB call_isi (by rfl) T.gIsi PyProof.Rows.boot_isinstance (pa_cons (pv 0) (pa_cons (pe_bltn (v := .ty "int") (by rfl) T.gInt PyProof.Rows.boot_int rfl) pa_nil)))
      (pe_one (pe_not (pe_callB call_isi (by rfl) T.gIsi PyProof.Rows.boot_isinstance (pa_cons (pv 0) (pa_cons (pe_bltn (v := .ty "bool") (by rfl) T.gBool PyProof.Rows.boot_bool rfl) pa_nil))))))), ?_⟩
    rcases h with ⟨⟨i, rfl⟩, q⟩ | ⟨⟨t, o⟩, q⟩
    · refine ⟨_, rfl, _, _, _, _, true, rfl, .ty _, .base (.int i), kit_ty (by decide +kernel), true, rfl, iteT ?_⟩
      exact ⟨_, rfl, _, _, _, _, false, rfl, .ty _, .base (.int i), kit_ty (by decide +kernel), false, rfl, q⟩
    · refine ⟨_, rfl, _, _, _, _, false, rfl, .ty _, o.ty, o.int, false, rfl, iteF ?_⟩
      exact q
/-! ### == and the order -/
def spEqR (C : Addr) : Sp := fun vs H Q _ => ∃ (p : Addr) (y : V) (t b : Int), vs = [.ref p, y] ∧ RatAt C H p t b ∧ ((∃ t' b', Opd C H y t' b' ∧ Q (.bl (decide (t = t') && decide (b = b'))) H) ∨ (∃ ty, Odd H y ty) ∧ Q (.bl false) H)
theorem scEq : FnScope ["self", "other"] ["self", "other"] (defScope sEq) := ⟨rfl, rfl, rfl, by decide +kernel, rfl, by decide +kernel, by decide +kernel⟩
theorem dec_int_v (a b : Int) : decide (V.int a = V.int b) = decide (a = b) := by
  by_cases h : a = b
  · rw [h, decide_eq_true rfl, decide_eq_true rfl]
  · rw [decide_eq_false h, decide_eq_false (fun z => h (V.int.inj z))]
theorem ok_eq {f : Addr} {fd : FuncData} (F : Fun K "__eq__" "Ratio.__eq__" sEq f fd) (T : Txt K mg C CN fN) (O : Oth K C)
    (ii : ∃ f fd, FnOk P w K mg base CX0 1 f fd ["thing"] spIsInt2 ∧ mg "is_integer" = some (.ref f) ∧ PySem.W.keepIn K (.ref f) = true ∧ Binds K fd ["thing"] []) : FnOk P w K mg base CX0 2 f fd ["self", "other"] (spEqR C) := by
  obtain ⟨fi, fdi, Gi, mi, ki, bi⟩ := ii
  refine F.ok scEq (fun vs H Q E h => ?_) (fun cdv A outer s H vs Q E hr h => ?_)
  · obtain ⟨p, y, t, b, rfl, _⟩ := h
    rfl
  · obtain ⟨p, y, t, b, rfl, ⟨dx, e⟩, h⟩ := h
    refine ⟨_, pss_cons (ps_if (pt_val (pe_callB call_isi (by rfl) T.gIsi PyProof.Rows.boot_isinstance (pa_cons (pv 1) (pa_cons (pe_glob rfl T.mgC (v := .ref C) rfl) pa_nil))))
        (pss_one (ps_ret (pe_and (pe_cmpR op_eq (pe_fld (pv 0) rfl) (pe_fld (pv 1) rfl) (nomark _)) (pe_one (pe_cmpR op_eq (pe_fld (pv 0) rfl) (pe_fld (pv 1) rfl) (nomark _)))))) pss_nil)
      (pss_one (ps_ret (pe_and (pe_call Gi hr rfl mi ki bi .nil pass0 (pa_cons (pv 1) pa_nil)) (pe_and (pe_cmpR op_eq (pe_fld (pv 0) rfl) pe_int (nomark _)) (pe_one (pe_cmpR op_eq (pe_fld (pv 0) rfl) (pv 1) (nomark _))))))), ?_⟩
    rcases h with ⟨t', b', ⟨p2, rfl, dy, e2⟩ | ⟨rfl, rfl⟩, q⟩ | ⟨⟨ty, o⟩, q⟩
    · refine ⟨_, rfl, _, _, _, _, true, rfl, .own C, T.ty e2, T.iCC, true, rfl, iteT ?_⟩
      refine ⟨_, rfl, p, C, dx, _, _, rfl, e, T.cl, T.nT, rflds_top _ _, _, rfl, p2, C, dy, _, _, rfl, e2, T.cl, T.nT, rflds_top _ _, rfl, _, rfl, ?_⟩
      rw [dec_int_v]
      by_cases h1 : t = t'
      · rw [decide_eq_true h1] at q ⊢
        refine iteT ?_
        refine ⟨_, rfl, p, C, dx, _, _, rfl, e, T.cl, T.nB, rflds_bot _ _, _, rfl, p2, C, dy, _, _, rfl, e2, T.cl, T.nB, rflds_bot _ _, rfl, ?_⟩
        rw [dec_int_v]
        rw [Bool.true_and] at q
        exact q
      · rw [decide_eq_false h1] at q ⊢
        refine iteF ?_
        rw [Bool.false_and] at q
        exact q
    · refine ⟨_, rfl, _, _, _, _, false, rfl, .own C, .base (.int t'), T.iIC, false, rfl, iteF ?_⟩
      refine ⟨_, rfl, _, rfl, .inl ⟨⟨t', rfl⟩, true, rfl, iteT ?_⟩⟩
      refine ⟨_, rfl, p, C, dx, _, _, rfl, e, T.cl, T.nB, rflds_bot _ _, rfl, _, rfl, ?_⟩
      rw [dec_int_v]
      by_cases h1 : b = 1
      · rw [decide_eq_true h1] at q ⊢
        refine iteT ?_
        refine ⟨_, rfl, p, C, dx, _, _, rfl, e, T.cl, T.nT, rflds_top _ _, _, rfl, rfl, ?_⟩
        rw [dec_int_v]
        rw [Bool.and_true] at q
        exact q
      · rw [decide_eq_false h1] at q ⊢
        refine iteF ?_
        rw [Bool.and_false] at q
        exact q
    · refine ⟨_, rfl, _, _, _, _, false, rfl, .own C, o.ty, o.own O, false, rfl, iteF ?_⟩
      refine ⟨_, rfl, _, rfl, .inr ⟨⟨ty, o⟩, false, rfl, iteF ?_⟩⟩
      exact q
def spCmp (C : Addr) (g : Int → Int → Int → Int → Bool) : Sp := fun vs H Q _ => ∃ (p : Addr) (y : V) (t b t' b' : Int), vs = [.ref p, y] ∧ RatAt C H p t b ∧ Opd C H y t' b' ∧ Sz 1000 t b ∧ Sz 1000 t' b' ∧ ∀ H', Same H H' → Q (.bl (g t b t' b')) H'
abbrev gLt : Int → Int → Int → Int → Bool := fun t b t' b' => decide (t * b' < t' * b)
abbrev gLe : Int → Int → Int → Int → Bool := fun t b t' b' => decide (t * b' ≤ t' * b)
abbrev gGt : Int → Int → Int → Int → Bool := fun t b t' b' => decide (t' * b < t * b')
abbrev gGe : Int → Int → Int → Int → Bool := fun t b t' b' => decide (t' * b ≤ t * b')
theorem scLt : FnScope ["self", "other", "right"] ["self", "other"] (defScope sLt) := ⟨rfl, rfl, rfl, by decide +kernel, rfl, by decide +kernel, by decide +kernel⟩
theorem scLe : FnScope ["self", "other", "right"] ["self", "other"] (defScope sLe) := ⟨rfl, rfl, rfl, by decide +kernel, rfl, by decide +kernel, by decide +kernel⟩
theorem scGt : FnScope ["self", "other"] ["self", "other"] (defScope sGt) := ⟨rfl, rfl, rfl, by decide +kernel, rfl, by decide +kernel, by decide +kernel⟩
theorem scGe : FnScope ["self", "other"] ["self", "other"] (defScope sGe) := ⟨rfl, rfl, rfl, by decide +kernel, rfl, by decide +kernel, by decide +kernel⟩
theorem ok_lt {f : Addr} {fd : FuncData} (F : Fun K "__lt__" "Ratio.__lt__" sLt f fd) (O3 : Core3 P w K mg base C CN fN) : FnOk P w K mg base CX0 6 f fd ["self", "other"] (spCmp C gLt) := by
  obtain ⟨⟨O, _⟩, ⟨fo, fdo, Go, mo, ko, bo⟩, ⟨fa, fda, Ga, ma, ka, ba⟩⟩ := O3
  have T := O.T
  refine F.ok scLt (fun vs H Q E h => ?_) (fun cdv A outer s H vs Q E hr h => ?_)
  · obtain ⟨p, y, t, b, t', b', rfl, _⟩ := h
    rfl
  · obtain ⟨p, y, t, b, t', b', rfl, hp, hy, z1, z2, k⟩ := h
    have hr2 : Room 2 _ := hr.mono (by decide)
    refine ⟨_, pss_cons (ps_if (pt_not (pt_val (pe_call Go hr2 rfl mo ko bo .nil pass0 (pa_cons (pv 1) pa_nil)))) (pss_one ps_never) pss_nil)
      (pss_cons (ps_set (i := 2) scLt.nd rfl (Or.inl rfl) (pe_call Ga hr rfl ma ka ba .nil pass0 (pa_cons (pv 1) pa_nil)))
      (pss_one (ps_ret (pe_cmpR op_lt (pe_op op_mulW (pe_fld (pv 0) rfl) (pe_fld (pv 2) rfl)) (pe_op op_mulW (pe_fld (pv 2) rfl) (pe_fld (pv 0) rfl)) (nomark _))))), ?_⟩
    refine ⟨_, rfl, y, rfl, hy.isop, _, rfl, iteF ?_⟩
    refine ⟨_, rfl, y, t', b', rfl, hy, z2, fun H1 q s1 hq => ?_⟩
    obtain ⟨dx, e1⟩ := hp.same s1
    obtain ⟨dy, e2⟩ := hq
    refine ⟨_, rfl, p, C, dx, _, _, rfl, e1, T.cl, T.nT, rflds_top _ _, _, rfl, q, C, dy, _, _, rfl, e2, T.cl, T.nB, rflds_bot _ _, t, b', rfl, rfl, mulOk z1.1 z2.2.2, ?_⟩
    exact ⟨_, rfl, q, C, dy, _, _, rfl, e2, T.cl, T.nT, rflds_top _ _, _, rfl, p, C, dx, _, _, rfl, e1, T.cl, T.nB, rflds_bot _ _, t', b, rfl, rfl, mulOk z2.1 z1.2.2, _, _, rfl, rfl, k H1 s1⟩
theorem ok_le {f : Addr} {fd : FuncData} (F : Fun K "__le__" "Ratio.__le__" sLe f fd) (O3 : Core3 P w K mg base C CN fN) : FnOk P w K mg base CX0 6 f fd ["self", "other"] (spCmp C gLe) := by
  obtain ⟨⟨O, _⟩, ⟨fo, fdo, Go, mo, ko, bo⟩, ⟨fa, fda, Ga, ma, ka, ba⟩⟩ := O3
  have T := O.T
  refine F.ok scLe (fun vs H Q E h => ?_) (fun cdv A outer s H vs Q E hr h => ?_)
  · obtain ⟨p, y, t, b, t', b', rfl, _⟩ := h
    rfl
  · obtain ⟨p, y, t, b, t', b', rfl, hp, hy, z1, z2, k⟩ := h
    have hr2 : Room 2 _ := hr.mono (by decide)
    refine ⟨_, pss_cons (ps_if (pt_not (pt_val (pe_call Go hr2 rfl mo ko bo .nil pass0 (pa_cons (pv 1) pa_nil)))) (pss_one ps_never) pss_nil)
      (pss_cons (ps_set (i := 2) scLe.nd rfl (Or.inl rfl) (pe_call Ga hr rfl ma ka ba .nil pass0 (pa_cons (pv 1) pa_nil)))
      (pss_one (ps_ret (pe_cmpR op_le (pe_op op_mulW (pe_fld (pv 0) rfl) (pe_fld (pv 2) rfl)) (pe_op op_mulW (pe_fld (pv 2) rfl) (pe_fld (pv 0) rfl)) (nomark _))))), ?_⟩
    refine ⟨_, rfl, y, rfl, hy.isop, _, rfl, iteF ?_⟩
    refine ⟨_, rfl, y, t', b', rfl, hy, z2, fun H1 q s1 hq => ?_⟩
    obtain ⟨dx, e1⟩ := hp.same s1
    obtain ⟨dy, e2⟩ := hq
    refine ⟨_, rfl, p, C, dx, _, _, rfl, e1, T.cl, T.nT, rflds_top _ _, _, rfl, q, C, dy, _, _, rfl, e2, T.cl, T.nB, rflds_bot _ _, t, b', rfl, rfl, mulOk z1.1 z2.2.2, ?_⟩
    exact ⟨_, rfl, q, C, dy, _, _, rfl, e2, T.cl, T.nT, rflds_top _ _, _, rfl, p, C, dx, _, _, rfl, e1, T.cl, T.nB, rflds_bot _ _, t', b, rfl, rfl, mulOk z2.1 z1.2.2, _, _, rfl, rfl, k H1 s1⟩
theorem ok_gt {f : Addr} {fd : FuncData} (F : Fun K "__gt__" "Ratio.__gt__" sGt f fd) (O3 : Core3 P w K mg base C CN fN) (B : CmpOk2 P w K mg base C (cmpInfo .Lt).2.1 CX0 6 (spCmp C gLt)) : FnOk P w K mg base CX0 7 f fd ["self", "other"] (spCmp C gGt) := by
  obtain ⟨⟨O, _⟩, ⟨fo, fdo, Go, mo, ko, bo⟩, ⟨fa, fda, Ga, ma, ka, ba⟩⟩ := O3
  refine F.ok scGt (fun vs H Q E h => ?_) (fun cdv A outer s H vs Q E hr h => ?_)
  · obtain ⟨p, y, t, b, t', b', rfl, _⟩ := h
    rfl
  · obtain ⟨p, y, t, b, t', b', rfl, hp, hy, z1, z2, k⟩ := h
    have hr2 : Room 2 _ := hr.mono (by decide)
    have hr5 : Room 5 _ := hr.mono (by decide)
    refine ⟨_, pss_cons (ps_if (pt_not (pt_val (pe_call Go hr2 rfl mo ko bo .nil pass0 (pa_cons (pv 1) pa_nil)))) (pss_one ps_never) pss_nil)
      (pss_one (ps_ret (pe_cmpR (op_ownY (op := .Lt) (E := E0) (fun _ _ => rfl) B hr (fun _ _ _ _ _ _ _ h => h.elim)) (pe_call Ga hr5 rfl ma ka ba .nil pass0 (pa_cons (pv 1) pa_nil)) (pv 0) (nomark _)))), ?_⟩
    refine ⟨_, rfl, y, rfl, hy.isop, _, rfl, iteF ?_⟩
    refine ⟨_, rfl, y, t', b', rfl, hy, z2, fun H1 q s1 hq => ?_⟩
    have rp := hp.same s1
    exact ⟨_, rfl, hq.own, ⟨_, .own rp.own⟩, q, .ref p, t', b', t, b, rfl, hq, .inl ⟨p, rfl, rp⟩, z2, z1, fun H' s2 => k H' (s1.trans s2)⟩
theorem ok_ge {f : Addr} {fd : FuncData} (F : Fun K "__ge__" "Ratio.__ge__" sGe f fd) (O3 : Core3 P w K mg base C CN fN) (B : CmpOk2 P w K mg base C (cmpInfo .LtE).2.1 CX0 6 (spCmp C gLe)) : FnOk P w K mg base CX0 7 f fd ["self", "other"] (spCmp C gGe) := by
  obtain ⟨⟨O, _⟩, ⟨fo, fdo, Go, mo, ko, bo⟩, ⟨fa, fda, Ga, ma, ka, ba⟩⟩ := O3
  refine F.ok scGe (fun vs H Q E h => ?_) (fun cdv A outer s H vs Q E hr h => ?_)
  · obtain ⟨p, y, t, b, t', b', rfl, _⟩ := h
    rfl
  · obtain ⟨p, y, t, b, t', b', rfl, hp, hy, z1, z2, k⟩ := h
    have hr2 : Room 2 _ := hr.mono (by decide)
    have hr5 : Room 5 _ := hr.mono (by decide)
    refine ⟨_, pss_cons (ps_if (pt_not (pt_val (pe_call Go hr2 rfl mo ko bo .nil pass0 (pa_cons (pv 1) pa_nil)))) (pss_one ps_never) pss_nil)
      (pss_one (ps_ret (pe_cmpR (op_ownY (op := .LtE) (E := E0) (fun _ _ => rfl) B hr (fun _ _ _ _ _ _ _ h => h.elim)) (pe_call Ga hr5 rfl ma ka ba .nil pass0 (pa_cons (pv 1) pa_nil)) (pv 0) (nomark _)))), ?_⟩
    refine ⟨_, rfl, y, rfl, hy.isop, _, rfl, iteF ?_⟩
    refine ⟨_, rfl, y, t', b', rfl, hy, z2, fun H1 q s1 hq => ?_⟩
    have rp := hp.same s1
    exact ⟨_, rfl, hq.own, ⟨_, .own rp.own⟩, q, .ref p, t', b', t, b, rfl, hq, .inl ⟨p, rfl, rp⟩, z2, z1, fun H' s2 => k H' (s1.trans s2)⟩
/-! ### text -/
def spText (C : Addr) : Sp := fun vs H Q _ => ∃ (p : Addr) (t b : Int), vs = [.ref p] ∧ RatAt C H p t b ∧ Sz 1000 t b ∧ ∀ z, Q (.str z) H
theorem log_lt {n : Int} (h : n.natAbs < 2 ^ 1000) : n.natAbs.log2 < 1920 := Nat.lt_of_lt_of_le (PySem.Flt.log2_lt_of (by decide) h) (by decide)
theorem scTx : FnScope ["self"] ["self"] (defScope sText) := ⟨rfl, rfl, rfl, by decide +kernel, rfl, by decide +kernel, by decide +kernel⟩
theorem ok_text {f : Addr} {fd : FuncData} (F : Fun K "text" "Ratio.text" sText f fd) (T : Txt K mg C CN fN) (gS : mg "str" = none) : FnOk P w K mg base CX0 1 f fd ["self"] (spText C) := by
  refine F.ok scTx (fun vs H Q E h => ?_) (fun cdv A outer s H vs Q E hr h => ?_)
  · obtain ⟨p, t, b, rfl, _⟩ := h
    rfl
  · obtain ⟨p, t, b, rfl, ⟨dx, e⟩, z, k⟩ := h
    refine ⟨_, pss_cons (ps_if (pt_cmpR op_eq (pe_fld (pv 0) rfl) pe_int (nomark _)) (pss_one (ps_ret (pe_callTy call_str_int (by rfl) gS (by decide +kernel) (pa_cons (pe_fld (pv 0) rfl) pa_nil)))) pss_nil)
      (pss_one (ps_ret (pe_joined (.cons (pe_fmt (pe_fld (pv 0) rfl)) (.cons pe_str (.cons (pe_fmt (pe_fld (pv 0) rfl)) .nil)))))), ?_⟩
    refine ⟨_, rfl, p, C, dx, _, _, rfl, e, T.cl, T.nB, rflds_bot _ _, rfl, _, rfl, ite2 (fun _ => ?_) (fun _ => ?_)⟩
    · exact ⟨_, rfl, p, C, dx, _, _, rfl, e, T.cl, T.nT, rflds_top _ _, t, rfl, log_lt z.1, k _⟩
    · have l1 := PyProof.Rows.int_text_len_1921 (log_lt z.1)
      have l2 := PyProof.Rows.int_text_len_1921 (log_lt z.2.2)
      have hz : (16777216 : Nat) = sizeLine := sizeLine_eq.symm
      refine ⟨_, rfl, p, C, dx, _, _, rfl, e, T.cl, T.nT, rflds_top _ _, .inr ⟨t, rfl, log_lt z.1, _, rfl, ?_, ?_⟩⟩
      · rw [Str.length_append, ← hz]
        have : Str.empty.length = 0 := rfl
        omega
      refine ⟨_, rfl, ?_, ?_⟩
      · rw [Str.length_append, Str.length_append, ← hz]
        have : Str.empty.length = 0 := rfl
        have : (Str.ofString "/").length = 1 := by decide +kernel
        omega
      refine ⟨_, rfl, p, C, dx, _, _, rfl, e, T.cl, T.nB, rflds_bot _ _, .inr ⟨b, rfl, log_lt z.2.2, _, rfl, ?_, k _⟩⟩
      rw [Str.length_append, Str.length_append, Str.length_append, ← hz]
      have : Str.empty.length = 0 := rfl
      have : (Str.ofString "/").length = 1 := by decide +kernel
      omega
end
end Pt

namespace Pt
open PySem PySem.Spec L2
open PySem.W (findIn isFn kitOne)
abbrev sNum : Stmt := topS 19
abbrev sMade : Stmt := topS 20
abbrev sFlag : Stmt := topS 21
abbrev sPair : Stmt := topS 22
abbrev sAlone : Stmt := topS 23
abbrev sLaw : Stmt := topS 24
/-! ### values compared -/
theorem scale {x y X Y k K : Int} (hk : 0 < k) (hK : 0 < K) (hx : x * K = X * k) (hy : y * K = Y * k) : (x < y ↔ X < Y) := by
  constructor
  · intro h
    have h1 := Int.mul_lt_mul_of_pos_right h hK
    rw [hx, hy] at h1
    exact Int.lt_of_mul_lt_mul_right h1 (Int.le_of_lt hk)
  · intro h
    have h1 := Int.mul_lt_mul_of_pos_right h hk
    rw [← hx, ← hy] at h1
    exact Int.lt_of_mul_lt_mul_right h1 (Int.le_of_lt hK)
section
variable {t b A B t' b' A' B' : Int}
theorem lt_val (v : IsV t b A B) (w : IsV t' b' A' B') (h : 1 ≤ B) (h' : 1 ≤ B') : (t * b' < t' * b ↔ A * B' < A' * B) := by
  have e1 := v.eq
  have e2 := w.eq
  exact scale (k := b * b') (K := B * B') (Int.mul_pos (by have := v.b1; omega) (by have := w.b1; omega)) (Int.mul_pos (by omega) (by omega)) (by grind) (by grind)
theorem gt_val (v : IsV t b A B) (w : IsV t' b' A' B') (h : 1 ≤ B) (h' : 1 ≤ B') : (t' * b < t * b' ↔ A' * B < A * B') := lt_val w v h' h
theorem eq_val (v : IsV t b A B) (w : IsV t' b' A' B') : (t = t' ∧ b = b') ↔ A * B' = A' * B := by
  constructor
  · rintro ⟨rfl, rfl⟩
    have e1 := v.eq
    have e2 := w.eq
    exact cancel v.ne (by grind)
  · intro h
    exact isV_unique v (w.to v.B0 (by grind))
end
/-- a Ratio or an int of value A / B, as the law holds it -/
structure Num (C : Addr) (H : Hp) (x : V) (A B : Int) : Prop where
  ex : ∃ t b, Opd C H x t b ∧ IsV t b A B ∧ Sz 200 t b
  hA : A.natAbs < 2 ^ 200
  hB : B.natAbs < 2 ^ 200
  pos : 1 ≤ B
theorem Num.same {C : Addr} {H H' : Hp} {x : V} {A B : Int} (h : Num C H x A B) (s : Same H H') : Num C H' x A B := ⟨let ⟨t, b, o, v, z⟩ := h.ex; ⟨t, b, o.same s, v, z⟩, h.hA, h.hB, h.pos⟩
def OneR (C : Addr) (H : Hp) (x y : V) : Prop := OwnV C H x ∨ OwnV C H y
section
variable {P : Program} {w : World} {K : PySem.W.Frag} {mg : Str → Option Value} {base : Heap} {C CN fN : Addr}
theorem OwnV.same {H H' : Hp} {x : V} (h : OwnV C H x) (s : Same H H') : OwnV C H' x := let ⟨a, d, f, e, q⟩ := h; ⟨a, d, f, e, s _ _ q⟩
theorem same_up {q : Addr} {H : Hp} {o : HO} (n : H q = none) : Same H (upd H q o) := fun c u e => by rw [upd_ne (ne_of_none e n)]; exact e
theorem own_ref {H : Hp} {x : V} {t b : Int} (o : Opd C H x t b) (h : OwnV C H x) : ∃ p, x = .ref p ∧ RatAt C H p t b := by
  rcases o with o | ⟨rfl, _⟩
  · exact o
  · obtain ⟨a, _, _, e, _⟩ := h
    cases e
theorem not_own_int {H : Hp} {x : V} {t b : Int} (o : Opd C H x t b) : OwnV C H x ∨ x = .int t ∧ b = 1 := o.imp (fun ⟨p, e, r⟩ => by rw [e]; exact r.own) id
theorem Opd.oth {H : Hp} {x : V} {t b : Int} (o : Opd C H x t b) : ∃ tb, OtherT C H x tb := (not_own_int o).elim (fun h => ⟨_, .own h⟩) fun ⟨e, _⟩ => ⟨_, by rw [e]; exact .int t⟩
theorem sz1 {t b : Int} (z : Sz 200 t b) : Sz 1000 t b := z.mono (by decide)
theorem passA0 {X : Cx} : ∀ σ, PassesAt CX0 X σ E0 := fun _ _ _ _ _ _ _ h => h.elim
section
variable {H : Hp} {x y : V} {A B A' B' : Int} {Q : VK}
theorem ord_reads {g gr : Int → Int → Int → Int → Bool} (sym : ∀ t b t' b', g t b t' b' = gr t' b' t b) (h : Num C H x A B) (h' : Num C H y A' B') (o : OneR C H x y)
    (k : ∀ t b t' b', IsV t b A B → IsV t' b' A' B' → ∀ H', Same H H' → Q (.bl (g t b t' b')) H') : rOwnY C (spCmp C g) E0 x y H Q ∨ rIntY C (spCmp C gr) E0 x y H Q := by
  obtain ⟨⟨t, b, ox, v, z⟩, _, _, _⟩ := h
  obtain ⟨⟨t', b', oy, v', z'⟩, _, _, _⟩ := h'
  rcases not_own_int ox with hx | ⟨rfl, rfl⟩
  · obtain ⟨p, rfl, r⟩ := own_ref ox hx
    exact .inl ⟨hx, oy.oth, p, y, t, b, t', b', rfl, r, oy, sz1 z, sz1 z', fun H' s => k t b t' b' v v' H' s⟩
  · have hy : OwnV C H y := o.resolve_left fun ⟨a, _, _, e, _⟩ => by cases e
    obtain ⟨p, rfl, r⟩ := own_ref oy hy
    refine .inr ⟨⟨t, rfl⟩, hy, p, .int t, t', b', t, 1, rfl, r, ox, sz1 z', sz1 z, fun H' s => ?_⟩
    rw [← sym]
    exact k t 1 t' b' v v' H' s
theorem eq_both (h : Num C H x A B) (h' : Num C H y A' B') (o : OneR C H x y) {R : V → Hp → Prop} (k : R (.bl (decide (A * B' = A' * B))) H) :
    (OwnV C H x ∧ (∃ tb, OtherT C H y tb) ∧ spEqR C [x, y] H R E0) ∨ ((∃ i, x = .int i) ∧ OwnV C H y ∧ spEqR C [y, x] H R E0) := by
  obtain ⟨⟨t, b, ox, v, z⟩, _, _, _⟩ := h
  obtain ⟨⟨t', b', oy, v', z'⟩, _, _, _⟩ := h'
  have ev := eq_val v v'
  have d1 : (decide (t = t') && decide (b = b')) = decide (A * B' = A' * B) := by
    rw [← Bool.decide_and]
    exact decide_eq_decide.mpr ev
  have d2 : (decide (t' = t) && decide (b' = b)) = decide (A * B' = A' * B) := by
    rw [← Bool.decide_and]
    exact decide_eq_decide.mpr ⟨fun ⟨e1, e2⟩ => ev.mp ⟨e1.symm, e2.symm⟩, fun e => ⟨(ev.mpr e).1.symm, (ev.mpr e).2.symm⟩⟩
  rcases not_own_int ox with hx | ⟨rfl, rfl⟩
  · obtain ⟨p, rfl, r⟩ := own_ref ox hx
    exact .inl ⟨hx, oy.oth, p, y, t, b, rfl, r, .inl ⟨t', b', oy, by rw [d1]; exact k⟩⟩
  · have hy : OwnV C H y := o.resolve_left fun ⟨a, _, _, e, _⟩ => by cases e
    obtain ⟨p, rfl, r⟩ := own_ref oy hy
    exact .inr ⟨⟨t, rfl⟩, hy, p, .int t, t', b', rfl, r, .inl ⟨t, 1, ox, by rw [d2]; exact k⟩⟩
end
/-! ### _law_flag -/
def spFlag : Sp := fun vs H Q _ => ∃ v d : Bool, vs = [.bl v, .bl d] ∧ v = d ∧ Q (.bl true) H
theorem scFl : FnScope ["_law_value", "_law_due"] ["_law_value", "_law_due"] (defScope sFlag) := ⟨rfl, rfl, rfl, by decide +kernel, rfl, by decide +kernel, by decide +kernel⟩
theorem ok_flag {f : Addr} {fd : FuncData} (F : Fun K "_law_flag" "_law_flag" sFlag f fd) : FnOk P w K mg base CX0 1 f fd ["_law_value", "_law_due"] spFlag := by
  refine F.ok scFl (fun vs H Q E h => ?_) (fun cdv A outer s H vs Q E hr h => ?_)
  · obtain ⟨v, d, rfl, _⟩ := h
    rfl
  · obtain ⟨v, d, rfl, rfl, q⟩ := h
    refine ⟨_, pss_cons (ps_if (pt_val (pv 1)) (pss_one (ps_ret (pe_cmpR op_isBl (pv 0) pe_bl (nomark _)))) pss_nil) (pss_one (ps_ret (pe_cmpR op_isBl (pv 0) pe_bl (nomark _)))), ?_⟩
    refine ⟨_, rfl, v, rfl, ?_⟩
    cases v with
    | true =>
      refine iteT ?_
      exact ⟨_, rfl, true, true, rfl, rfl, q⟩
    | false =>
      refine iteF ?_
      exact ⟨_, rfl, false, false, rfl, rfl, q⟩
/-! ### _law_pair -/
structure Cmps (P : Program) (w : World) (K : PySem.W.Frag) (mg : Str → Option Value) (base : Heap) (C CN fN : Addr) : Prop where
  T : Txt K mg C CN fN
  lt : CmpOk2 P w K mg base C (cmpInfo .Lt).2.1 CX0 7 (spCmp C gLt)
  le : CmpOk2 P w K mg base C (cmpInfo .LtE).2.1 CX0 7 (spCmp C gLe)
  gt : CmpOk2 P w K mg base C (cmpInfo .Gt).2.1 CX0 7 (spCmp C gGt)
  ge : CmpOk2 P w K mg base C (cmpInfo .GtE).2.1 CX0 7 (spCmp C gGe)
  eq : CmpOk2 P w K mg base C "__eq__" CX0 2 (spEqR C)
  ne : NeOk K C
  flag : ∃ f fd, FnOk P w K mg base CX0 1 f fd ["_law_value", "_law_due"] spFlag ∧ mg "_law_flag" = some (.ref f) ∧ PySem.W.keepIn K (.ref f) = true ∧ Binds K fd ["_law_value", "_law_due"] []
def spPair (C : Addr) : Sp := fun vs H Q _ => ∃ (x y : V) (A B A' B' : Int), vs = [x, y, .int (A * B' - A' * B)] ∧ Num C H x A B ∧ Num C H y A' B' ∧ OneR C H x y ∧ ∀ H', Same H H' → Q (.bl true) H'
theorem scPa : FnScope ["_law_one", "_law_other", "_law_sign"] ["_law_one", "_law_other", "_law_sign"] (defScope sPair) := ⟨rfl, rfl, rfl, by decide +kernel, rfl, by decide +kernel, by decide +kernel⟩
theorem ok_pair {f : Addr} {fd : FuncData} (F : Fun K "_law_pair" "_law_pair" sPair f fd) (O : Cmps P w K mg base C CN fN) : FnOk P w K mg base CX0 8 f fd ["_law_one", "_law_other", "_law_sign"] (spPair C) := by
  obtain ⟨T, Blt, Ble, Bgt, Bge, Beq, Bne, ⟨ff, fdf, Gf, mf, kf, bf⟩⟩ := O
  refine F.ok scPa (fun vs H Q E h => ?_) (fun cdv AA outer s H vs Q E hr h => ?_)
  · obtain ⟨x, y, A, B, A', B', rfl, _⟩ := h
    rfl
  · obtain ⟨x, y, A, B, A', B', rfl, hx, hy, o, k⟩ := h
    have hr1 : Room 1 _ := hr.mono (by decide)
    have hr2 : Room 2 _ := hr.mono (by decide)
    have hr3 : Room 3 _ := hr.mono (by decide)
    refine ⟨_, pss_cons (ps_if (PW.pt (pw_or
          (pt_not (pt_val (pe_call Gf hr1 rfl mf kf bf .nil pass0 (pa_cons (pe_cmpR (OpR.or (op_ownY (op := .Lt) (E := E0) (fun _ _ => rfl) Blt hr passA0) (op_intY (op := .Lt) (E := E0) (fun _ _ => rfl) icLt Bgt hr passA0)) (pv 0) (pv 1) (nomark _)) (pa_cons (pe_cmpR op_lt (pv 2) pe_int (nomark _)) pa_nil)))))
          (pw_or1 (pt_not (pt_val (pe_call Gf hr1 rfl mf kf bf .nil pass0 (pa_cons (pe_cmpR (OpR.or (op_ownY (op := .LtE) (E := E0) (fun _ _ => rfl) Ble hr passA0) (op_intY (op := .LtE) (E := E0) (fun _ _ => rfl) icLe Bge hr passA0)) (pv 0) (pv 1) (nomark _)) (pa_cons (pe_cmpR op_le (pv 2) pe_int (nomark _)) pa_nil)))))))) (pss_one ps_never) pss_nil)
      (pss_cons (ps_if (PW.pt (pw_or
          (pt_not (pt_val (pe_call Gf hr1 rfl mf kf bf .nil pass0 (pa_cons (pe_cmpR (OpR.or (op_ownY (op := .Gt) (E := E0) (fun _ _ => rfl) Bgt hr passA0) (op_intY (op := .Gt) (E := E0) (fun _ _ => rfl) icGt Blt hr passA0)) (pv 0) (pv 1) (nomark _)) (pa_cons (pe_cmpR op_gt (pv 2) pe_int (nomark _)) pa_nil)))))
          (pw_or1 (pt_not (pt_val (pe_call Gf hr1 rfl mf kf bf .nil pass0 (pa_cons (pe_cmpR (OpR.or (op_ownY (op := .GtE) (E := E0) (fun _ _ => rfl) Bge hr passA0) (op_intY (op := .GtE) (E := E0) (fun _ _ => rfl) icGe Ble hr passA0)) (pv 0) (pv 1) (nomark _)) (pa_cons (pe_cmpR op_ge (pv 2) pe_int (nomark _)) pa_nil)))))))) (pss_one ps_never) pss_nil)
      (pss_one (ps_ret (pe_and
          (pe_call Gf hr1 rfl mf kf bf .nil pass0 (pa_cons (pe_cmpR (OpR.or (op_ownY (op := .Eq) (E := E0) (fun _ _ => rfl) Beq hr2 passA0) (op_intY (op := .Eq) (E := E0) (fun _ _ => rfl) icEq Beq hr2 passA0)) (pv 0) (pv 1) (nomark _)) (pa_cons (pe_cmpR op_eq (pv 2) pe_int (nomark _)) pa_nil)))
          (pe_one (pe_call Gf hr1 rfl mf kf bf .nil pass0 (pa_cons (pe_cmpR (OpR.or (op_neY (E := E0) Bne Beq hr3 passA0) (op_neI (E := E0) Bne Beq hr3 passA0)) (pv 0) (pv 1) (nomark _)) (pa_cons (pe_cmpR op_ne (pv 2) pe_int (nomark _)) pa_nil)))))))), ?_⟩
    have p1 := hx.pos
    have p2 := hy.pos
    refine ⟨_, rfl, _, rfl, ord_reads (g := gLt) (gr := gGt) (fun _ _ _ _ => rfl) hx hy o fun t b t' b' v v' H1 s1 => ?_⟩
    refine ⟨_, rfl, _, _, rfl, rfl, _, _, rfl, decide_eq_decide.mpr ((lt_val v v' p1 p2).trans (by omega)), true, rfl, iteF ?_⟩
    refine ⟨_, rfl, _, rfl, ord_reads (g := gLe) (gr := gGe) (fun _ _ _ _ => rfl) (hx.same s1) (hy.same s1) (o.imp (·.same s1) (·.same s1)) fun t b t' b' v v' H2 s2 => ?_⟩
    refine ⟨_, rfl, _, _, rfl, rfl, _, _, rfl, decide_eq_decide.mpr (by have := gt_val v v' p1 p2; omega), true, rfl, iteF ?_⟩
    have s12 := s1.trans s2
    refine ⟨_, rfl, _, rfl, ord_reads (g := gGt) (gr := gLt) (fun _ _ _ _ => rfl) (hx.same s12) (hy.same s12) (o.imp (·.same s12) (·.same s12)) fun t b t' b' v v' H3 s3 => ?_⟩
    refine ⟨_, rfl, _, _, rfl, rfl, _, _, rfl, decide_eq_decide.mpr ((gt_val v v' p1 p2).trans (by omega)), true, rfl, iteF ?_⟩
    have s123 := s12.trans s3
    refine ⟨_, rfl, _, rfl, ord_reads (g := gGe) (gr := gLe) (fun _ _ _ _ => rfl) (hx.same s123) (hy.same s123) (o.imp (·.same s123) (·.same s123)) fun t b t' b' v v' H4 s4 => ?_⟩
    refine ⟨_, rfl, _, _, rfl, rfl, _, _, rfl, decide_eq_decide.mpr (by have := lt_val v v' p1 p2; omega), true, rfl, iteF ?_⟩
    have s1234 := s123.trans s4
    refine ⟨_, rfl, _, rfl, eq_both (hx.same s1234) (hy.same s1234) (o.imp (·.same s1234) (·.same s1234)) ?_⟩
    have dz : decide (A * B' = A' * B) = decide (V.int (A * B' - A' * B) = V.int 0) := by
      rw [dec_int_v]
      exact decide_eq_decide.mpr (by omega)
    refine ⟨_, rfl, rfl, _, _, rfl, dz, true, rfl, iteT ?_⟩
    refine ⟨_, rfl, _, rfl, eq_both (hx.same s1234) (hy.same s1234) (o.imp (·.same s1234) (·.same s1234)) ⟨_, rfl, ?_⟩⟩
    exact ⟨_, rfl, rfl, _, _, rfl, by rw [dz], k _ s1234⟩
end
end Pt

namespace Pt
open PySem PySem.Spec L2
open PySem.W (findIn isFn kitOne)
section
variable {P : Program} {w : World} {K : PySem.W.Frag} {mg : Str → Option Value} {base : Heap} {C CN fN : Addr}
/-! ### _law_alone -/
def spAlone (C : Addr) : Sp := fun vs H Q _ => ∃ (p : Addr) (t b : Int), vs = [.ref p, .non] ∧ RatAt C H p t b ∧ Sz 200 t b ∧ ∀ H', Same H H' → Q (.bl true) H'
theorem scAl : FnScope ["_law_one", "_law_empty"] ["_law_one", "_law_empty"] (defScope sAlone) := ⟨rfl, rfl, rfl, by decide +kernel, rfl, by decide +kernel, by decide +kernel⟩
theorem ok_alone {f : Addr} {fd : FuncData} (F : Fun K "_law_alone" "_law_alone" sAlone f fd) (O : Cmps P w K mg base C CN fN)
    (tx : ∃ f fd, Meth K C "text" f ∧ FnOk P w K mg base CX0 1 f fd ["self"] (spText C) ∧ Binds K fd ["self"] []) : FnOk P w K mg base CX0 4 f fd ["_law_one", "_law_empty"] (spAlone C) := by
  obtain ⟨T, _, _, _, _, Beq, Bne, _⟩ := O
  obtain ⟨ft, fdt, mt, Gt, bt⟩ := tx
  refine F.ok scAl (fun vs H Q E h => ?_) (fun cdv AA outer s H vs Q E hr h => ?_)
  · obtain ⟨p, t, b, rfl, _⟩ := h
    rfl
  · obtain ⟨p, t, b, rfl, hp, z, k⟩ := h
    have hr1 : Room 1 _ := hr.mono (by decide)
    have hr2 : Room 2 _ := hr.mono (by decide)
    refine ⟨_, pss_cons (ps_if (PW.pt (pw_or (pt_cmpR (op_ownY (op := .Eq) (E := E0) (fun _ _ => rfl) Beq hr2 passA0) (pv 0) (pv 1) (nomark _))
        (pw_or (pt_cmpR (op_ownY (op := .Eq) (E := E0) (fun _ _ => rfl) Beq hr2 passA0) (pv 0) (pe_tup (pa_cons (pe_fld (pv 0) rfl) (pa_cons (pe_fld (pv 0) rfl) pa_nil))) (nomark _))
        (pw_or1 (pt_cmpR (op_ownY (op := .Eq) (E := E0) (fun _ _ => rfl) Beq hr2 passA0) (pv 0) (pe_meth0 (pv 0) T.cl mt Gt hr1 bt .nil pass0) (nomark _)))))) (pss_one ps_never) pss_nil)
      (pss_one (ps_ret (pe_and (pe_cmpR (op_neY (E := E0) Bne Beq hr passA0) (pv 0) (pv 1) (nomark _)) (pe_one (pe_cmpR (op_neY (E := E0) Bne Beq hr passA0) (pv 0) (pe_lst (pa_cons (pe_fld (pv 0) rfl) (pa_cons (pe_fld (pv 0) rfl) pa_nil))) (nomark _)))))), ?_⟩
    obtain ⟨dx, e⟩ := id hp
    refine ⟨_, rfl, _, rfl, hp.own, ⟨_, .non⟩, p, .non, t, b, rfl, hp, .inr ⟨⟨_, .non⟩, false, rfl, iteF ?_⟩⟩
    refine ⟨_, rfl, _, rfl, p, C, dx, _, _, rfl, e, T.cl, T.nT, rflds_top _ _, _, rfl, p, C, dx, _, _, rfl, e, T.cl, T.nB, rflds_bot _ _, (by show 2 ≤ sizeLine; decide), fun q nq => ?_⟩
    have s1 := same_up (o := .tup [.int t, .int b]) nq
    have hp1 := hp.same s1
    refine ⟨hp1.own, ⟨_, (Odd.tup upd_same).other⟩, p, .ref q, t, b, rfl, hp1, .inr ⟨⟨_, .tup upd_same⟩, false, rfl, iteF ?_⟩⟩
    obtain ⟨dx1, e1⟩ := id hp1
    refine ⟨_, rfl, _, rfl, p, dx1, _, rfl, e1, rflds_no _ _ (by decide +kernel) (by decide +kernel), p, t, b, rfl, hp1, sz1 z, fun zz => ?_⟩
    refine ⟨hp1.own, ⟨_, .str zz⟩, p, .str zz, t, b, rfl, hp1, .inr ⟨⟨_, .str zz⟩, false, rfl, iteF ?_⟩⟩
    refine ⟨_, rfl, _, rfl, hp1.own, ⟨_, .non⟩, p, .non, t, b, rfl, hp1, .inr ⟨⟨_, .non⟩, false, rfl, true, rfl, iteT ?_⟩⟩
    refine ⟨_, rfl, _, rfl, p, C, dx1, _, _, rfl, e1, T.cl, T.nT, rflds_top _ _, _, rfl, p, C, dx1, _, _, rfl, e1, T.cl, T.nB, rflds_bot _ _, (by show 2 ≤ sizeLine; decide), fun l nl => ?_⟩
    have s2 := same_up (o := .lst [.int t, .int b]) nl
    have hp2 := hp1.same s2
    exact ⟨hp2.own, ⟨_, (Odd.lst upd_same).other⟩, p, .ref l, t, b, rfl, hp2, .inr ⟨⟨_, .lst upd_same⟩, false, rfl, k _ (s1.trans s2)⟩⟩
/-! ### _law_made -/
/-- a number of the law: top, bottom, whether it is whole -/
structure NumAt (H : Hp) (q : Addr) (n : Nat) (A B : Int) (wh : Bool) : Prop where
  at_ : H q = some (.tup [.int A, .int B, .bl wh])
  hA : A.natAbs < 2 ^ n
  hB : B.natAbs < 2 ^ n
  pos : 1 ≤ B
  one : wh = true → B = 1
def spMade (C : Addr) : Sp := fun vs H Q _ => ∃ (q : Addr) (tn : Bool) (A B : Int) (wh : Bool), vs = [.ref q, .bl tn] ∧ NumAt H q 200 A B wh ∧ ∀ H' x, Same H H' → Num C H' x A B → (wh = false → OwnV C H' x) → Q x H'
theorem made1 {H : Hp} {N D : Int} {R : Hp → Prop} {x dx : Addr} {E : XK} (hN : N.natAbs < 2 ^ 4000) (hD : D.natAbs < 2 ^ 4000) (h0 : D ≠ 0) (k : ∀ H', Same H H' → RatAt C H' x (rt N D) (rb N D) → R H') (nx : H x = none) (ndx : H dx = none) (ne : dx ≠ x) :
    spInit C CN [.ref x, .int N, .int D] (upd (upd H dx (.own x)) x (.ins C dx [])) (fun v H2 => v = .non ∧ R H2) E :=
  ⟨x, dx, N, D, rfl, upd_same, hN, hD, fun _ H' kp e => ⟨rfl, k H' (fun b o z => kp b o (new_same nx ndx b o z) (ne_of_none z nx)) ⟨dx, e⟩⟩, fun z => absurd z h0⟩
theorem numOf {H : Hp} {p : Addr} {N D A B : Int} (h0 : D ≠ 0) (hN : N.natAbs < 2 ^ 200) (hD : D.natAbs < 2 ^ 200) (hA : A.natAbs < 2 ^ 200) (hB : B.natAbs < 2 ^ 200) (b0 : 1 ≤ B) (e : N * B = A * D) (r : RatAt C H p (rt N D) (rb N D)) : Num C H (.ref p) A B :=
  ⟨⟨_, _, .inl ⟨p, rfl, r⟩, (isV_new h0).to (by omega) e, Nat.lt_of_le_of_lt (rt_le h0) hN, rb_pos h0, Nat.lt_of_le_of_lt (rb_le h0) hD⟩, hA, hB, b0⟩
theorem scMa : FnScope ["_law_number_here", "_law_turned"] ["_law_number_here", "_law_turned"] (defScope sMade) := ⟨rfl, rfl, rfl, by decide +kernel, rfl, by decide +kernel, by decide +kernel⟩
theorem ok_made {f : Addr} {fd : FuncData} (F : Fun K "_law_made" "_law_made" sMade f fd) (O2 : Core2 P w K mg base C CN fN) : FnOk P w K mg base CX0 5 f fd ["_law_number_here", "_law_turned"] (spMade C) := by
  obtain ⟨O, fi, fdi, Gi, M, b2, ds, vd, b1⟩ := O2
  have T := O.T
  refine F.ok scMa (fun vs H Q E h => ?_) (fun cdv AA outer s H vs Q E hr h => ?_)
  · obtain ⟨q, tn, A, B, wh, rfl, _⟩ := h
    rfl
  · obtain ⟨q, tn, A, B, wh, rfl, ⟨e, hA, hB, pos, one⟩, k⟩ := h
    refine ⟨_, pss_cons (ps_if (pt_val (pe_ix ix_tup (pv 0) pe_int (fun _ _ => rfl))) (pss_one (ps_ret (pe_ix ix_tup (pv 0) pe_int (fun _ _ => rfl)))) pss_nil)
      (pss_cons (ps_if (pt_val (pv 1)) (pss_one (ps_ret (pe_make M Gi hr rfl T.mgC b2 .nil passL (pa_cons (pe_un un_neg (pe_ix ix_tup (pv 0) pe_int (fun _ _ => rfl))) (pa_cons (pe_un un_neg (pe_ix ix_tup (pv 0) pe_int (fun _ _ => rfl))) pa_nil))))) pss_nil)
      (pss_one (ps_ret (pe_make M Gi hr rfl T.mgC b2 .nil passL (pa_cons (pe_ix ix_tup (pv 0) pe_int (fun _ _ => rfl)) (pa_cons (pe_ix ix_tup (pv 0) pe_int (fun _ _ => rfl)) pa_nil)))))), ?_⟩
    refine ⟨_, rfl, q, _, 2, .bl wh, rfl, rfl, SqT.of e, rfl, wh, rfl, ?_⟩
    cases wh with
    | true =>
      refine iteT ?_
      refine ⟨_, rfl, q, _, 0, .int A, rfl, rfl, SqT.of e, rfl, ?_⟩
      obtain rfl := one rfl
      exact k H (.int A) (Same.refl H) ⟨⟨A, 1, .inr ⟨rfl, rfl⟩, .int A, hA, by decide, by decide⟩, hA, by decide, by decide⟩ (fun z => by cases z)
    | false =>
      refine iteF ?_
      have b0 : B ≠ 0 := by omega
      refine ⟨_, rfl, tn, rfl, ?_⟩
      cases tn with
      | true =>
        refine iteT ?_
        refine ⟨_, rfl, q, _, 0, .int A, rfl, rfl, SqT.of e, rfl, A, rfl, _, rfl, q, _, 1, .int B, rfl, rfl, SqT.of e, rfl, B, rfl, ?_⟩
        intro x dx nx ndx ne
        refine made1 (N := -A) (D := -B) (lt_mono (by rw [Int.natAbs_neg]; exact hA) (by decide)) (lt_mono (by rw [Int.natAbs_neg]; exact hB) (by decide)) (by omega) (fun H' s r => ?_) nx ndx ne
        exact k H' (.ref x) s (numOf (N := -A) (D := -B) (by omega) (by rw [Int.natAbs_neg]; exact hA) (by rw [Int.natAbs_neg]; exact hB) hA hB pos (by rw [Int.neg_mul, Int.mul_neg]) r) (fun _ => r.own)
      | false =>
        refine iteF ?_
        refine ⟨_, rfl, q, _, 0, .int A, rfl, rfl, SqT.of e, rfl, _, rfl, q, _, 1, .int B, rfl, rfl, SqT.of e, rfl, ?_⟩
        intro x dx nx ndx ne
        refine made1 (N := A) (D := B) (lt_mono hA (by decide)) (lt_mono hB (by decide)) b0 (fun H' s r => ?_) nx ndx ne
        exact k H' (.ref x) s (numOf (N := A) (D := B) b0 hA hB hA hB pos rfl r) (fun _ => r.own)
/-! ### _law_number -/
/-- the numbers so far: the list at e, of n tuples -/
def Earlier (H : Hp) (e : Addr) (n : Nat) : Prop := ∃ qs : List Addr, H e = some (.lst (qs.map V.ref)) ∧ qs.length = n ∧ ∀ q ∈ qs, ∃ A B wh, NumAt H q (140 + 3 * n) A B wh
def spNum : Sp := fun vs H Q _ => ∃ (s l e : Addr) (n : Nat), vs = [.ref s, .ref e] ∧ LSt H s l ∧ e ≠ s ∧ e ≠ l ∧ Earlier H e n ∧ n ≤ 8 ∧
  ∀ H' q A B wh, Kp s l H H' → LSt H' s l → NumAt H' q (140 + 3 * (n + 1)) A B wh → Q (.ref q) H'
theorem NumAt.mono {H : Hp} {q : Addr} {n m : Nat} {A B : Int} {wh : Bool} (h : NumAt H q n A B wh) (k : n ≤ m) : NumAt H q m A B wh := ⟨h.at_, lt_mono h.hA k, lt_mono h.hB k, h.pos, h.one⟩
theorem NumAt.same {H H' : Hp} {q : Addr} {n : Nat} {A B : Int} {wh : Bool} (h : NumAt H q n A B wh) (s : Same H H') : NumAt H' q n A B wh := ⟨s _ _ h.at_, h.hA, h.hB, h.pos, h.one⟩
theorem LSt.apartT {H : Hp} {s l p : Addr} {xs : List V} (h : LSt H s l) (e : H p = some (.tup xs)) : p ≠ s ∧ p ≠ l := by
  obtain ⟨i, n, cs, e1, e2, _⟩ := h
  exact ⟨ne_of e e1 (fun z => by cases z), ne_of e e2 (fun z => by cases z)⟩
theorem NumAt.kp {H H' : Hp} {s l q : Addr} {n : Nat} {A B : Int} {wh : Bool} (h : NumAt H q n A B wh) (L : LSt H s l) (k : Kp s l H H') : NumAt H' q n A B wh := by
  obtain ⟨n1, n2⟩ := L.apartT h.at_
  exact ⟨k _ _ h.at_ n1 n2, h.hA, h.hB, h.pos, h.one⟩
theorem Earlier.kp {H H' : Hp} {s l e : Addr} {n : Nat} (h : Earlier H e n) (L : LSt H s l) (k : Kp s l H H') (n1 : e ≠ s) (n2 : e ≠ l) : Earlier H' e n := by
  obtain ⟨qs, h1, h2, h3⟩ := h
  refine ⟨qs, k _ _ h1 n1 n2, h2, fun q hq => ?_⟩
  obtain ⟨A, B, wh, x⟩ := h3 q hq
  exact ⟨A, B, wh, x.kp L k⟩
theorem Kp.up {s l q : Addr} {H H' : Hp} {o : HO} (k : Kp s l H H') (n : H' q = none) : Kp s l H (upd H' q o) := fun c u e h1 h2 => by
  have := k c u e h1 h2
  rw [upd_ne (ne_of_none this n)]
  exact this
theorem LSt.up {s l q : Addr} {H : Hp} {o : HO} (L : LSt H s l) (n : H q = none) : LSt (upd H q o) s l := L.same fun c u e => by rw [upd_ne (ne_of_none e n)]; exact e
theorem scNm : FnScope ["_law_state", "_law_earlier", "_law_kind", "_law_top", "_law_bottom", "_law_whole"] ["_law_state", "_law_earlier"] (defScope sNum) := ⟨rfl, rfl, rfl, by decide +kernel, rfl, by decide +kernel, by decide +kernel⟩
theorem pow_up {n : Nat} {x : Int} (a c : Int) (h : x.natAbs < 2 ^ n) (ha : 0 ≤ a ∧ a ≤ 1) (hc : c.natAbs < 2 ^ n) : (x * 3 + c * a).natAbs < 2 ^ (n + 3) := by
  rw [Nat.pow_add]
  have : a = 0 ∨ a = 1 := by omega
  rcases this with rfl | rfl <;> omega
theorem ok_num {f : Addr} {fd : FuncData} (F : Fun K "_law_number" "_law_number" sNum f fd) (T : Txt K mg C CN fN) (LD : LawD P w K mg base)
    (far : ∃ f fd, FnOk P w K mg base CX0 2 f fd ["_law_state", "_law_bound"] spFar ∧ mg "_law_far" = some (.ref f) ∧ PySem.W.keepIn K (.ref f) = true ∧ Binds K fd ["_law_state", "_law_bound"] []) : FnOk P w K mg base CX0 3 f fd ["_law_state", "_law_earlier"] spNum := by
  obtain ⟨ff, fdf, Gf, mf, kf, bf⟩ := far
  obtain ⟨BL, fd1, fdd, Gd, md, kd, bd⟩ := LD
  refine F.ok scNm (fun vs H Q E h => ?_) (fun cdv AA outer s0 H vs Q E hr h => ?_)
  · obtain ⟨s, l, e, n, rfl, _⟩ := h
    rfl
  · obtain ⟨s, l, e, n, rfl, L, n1, n2, EE, hn, k⟩ := h
    have hr1 : Room 1 _ := hr.mono (by decide)
    have hr2 : Room 2 _ := hr.mono (by decide)
    refine ⟨_, pss_cons (ps_set (i := 2) scNm.nd rfl (Or.inl rfl) (pe_call Gd hr1 rfl md kd bd .nil pass0 (pa_cons (pv 0) (pa_cons pe_int pa_nil))))
      (pss_cons (ps_if (PW.pt (pw_and (pt_cmpR op_eq (pv 2) pe_int (nomark _)) (pw_and1 (pt_cmpR op_gt (pe_callB call_len_seq (by rfl) BL.gLen PySem.boot_len (pa_cons (pv 1) pa_nil)) pe_int (nomark _)))))
        (pss_cons (ps_asg (pe_ix ix_list (pv 1) (pe_call Gd hr1 rfl md kd bd .nil pass0 (pa_cons (pv 0) (pa_cons (pe_callB call_len_seq (by rfl) BL.gLen PySem.boot_len (pa_cons (pv 1) pa_nil)) pa_nil))) (fun _ _ => rfl))
            (pg_tup (by rfl) (pgs_cons (pg_name (i := 3) scNm.nd rfl (Or.inl rfl)) (pgs_cons (pg_name (i := 4) scNm.nd rfl (Or.inl rfl)) (pgs_cons (pg_name (i := 5) scNm.nd rfl (Or.inl rfl)) pgs_nil)))))
          (pss_one (ps_ret (pe_tup (pa_cons (pe_op op_add (pe_op op_mul (pv 3) pe_int) (pe_op op_mulW (pv 4) (pe_call Gd hr1 rfl md kd bd .nil pass0 (pa_cons (pv 0) (pa_cons pe_int pa_nil))))) (pa_cons (pe_op op_mul (pv 4) pe_int) (pa_cons pe_bl pa_nil))))))) pss_nil)
      (pss_cons (ps_if (pt_cmpR op_eq (pv 2) pe_int (nomark _)) (pss_one (ps_ret (pe_tup (pa_cons (pe_call Gf hr2 rfl mf kf bf .nil pass0 (pa_cons (pv 0) (pa_cons (pe_op op_pow pe_int pe_int) pa_nil))) (pa_cons pe_int (pa_cons pe_bl pa_nil)))))) pss_nil)
      (pss_cons (ps_set (i := 3) scNm.nd rfl (Or.inl rfl) (pe_call Gf hr2 rfl mf kf bf .nil pass0 (pa_cons (pv 0) (pa_cons (pe_op op_pow pe_int pe_int) pa_nil))))
      (pss_cons (ps_set (i := 4) scNm.nd rfl (Or.inl rfl) (pe_op op_add pe_int (pe_callB call_abs (by rfl) T.gAbs PyProof.Rows.boot_abs (pa_cons (pe_call Gf hr2 rfl mf kf bf .nil pass0 (pa_cons (pv 0) (pa_cons (pe_op op_pow pe_int pe_int) pa_nil))) pa_nil))))
      (pss_cons (ps_if (pt_cmpR op_eq (pe_call Gd hr1 rfl md kd bd .nil pass0 (pa_cons (pv 0) (pa_cons pe_int pa_nil))) pe_int (nomark _))
        (pss_cons (ps_set (i := 3) scNm.nd rfl (Or.inl rfl) (pe_op op_sub (pe_call Gd hr1 rfl md kd bd .nil pass0 (pa_cons (pv 0) (pa_cons pe_int pa_nil))) pe_int))
        (pss_one (ps_set (i := 4) scNm.nd rfl (Or.inl rfl) (pe_op op_add pe_int (pe_call Gd hr1 rfl md kd bd .nil pass0 (pa_cons (pv 0) (pa_cons pe_int pa_nil))))))) pss_nil)
      (pss_one (ps_ret (pe_tup (pa_cons (pv 3) (pa_cons (pv 4) (pa_cons pe_bl pa_nil))))))))))), ?_⟩
    have p140 : (2 : Nat) ^ 140 ≤ 2 ^ (140 + 3 * (n + 1)) := Nat.pow_le_pow_right (by decide) (by omega)
    refine ⟨_, rfl, s, l, 4, rfl, L, by decide, by decide, fun H1 d k1 L1 d0 d1 => ?_⟩
    have E1 := EE.kp L k1 n1 n2
    obtain ⟨qs, h1, h2, h3⟩ := id E1
    have rest : ((tSeq (tIfS (tTest (tOp rEq (tVar 2) (tC (.int 1)))) (tRet (tTup (tCons (tCall spFar [] E0 (tCons (tVar 0) (tCons (tOp (rI CPow fun i j => .int (i ^ j.toNat)) (tC (.int 10)) (tC (.int 6))) tNil))) (tCons (tC (.int 1)) (tCons (tC (.bl true)) tNil))))) tNext)
        (tSeq (tAsg (tCall spFar [] E0 (tCons (tVar 0) (tCons (tOp (rI CPow fun i j => .int (i ^ j.toNat)) (tC (.int 10)) (tC (.int 40))) tNil))) (gName 3))
        (tSeq (tAsg (tOp (rI0 fun i j => .int (i + j)) (tC (.int 1)) (tCB (fun xs H Q => ∃ i, xs = [.int i] ∧ Q (.int (if i < 0 then -i else i)) H) (tCons (tCall spFar [] E0 (tCons (tVar 0) (tCons (tOp (rI CPow fun i j => .int (i ^ j.toNat)) (tC (.int 10)) (tC (.int 40))) tNil))) tNil))) (gName 4))
        (tSeq (tIfS (tTest (tOp rEq (tCall spDraw [] E0 (tCons (tVar 0) (tCons (tC (.int 2)) tNil))) (tC (.int 0))))
          (tSeq (tAsg (tOp (rI0 fun i j => .int (i - j)) (tCall spDraw [] E0 (tCons (tVar 0) (tCons (tC (.int 9)) tNil))) (tC (.int 4))) (gName 3)) (tAsg (tOp (rI0 fun i j => .int (i + j)) (tC (.int 1)) (tCall spDraw [] E0 (tCons (tVar 0) (tCons (tC (.int 4)) tNil)))) (gName 4))) tNext)
        (tRet (tTup (tCons (tVar 3) (tCons (tVar 4) (tCons (tC (.bl false)) tNil)))))))))
          { nx := fun _ H' => Q .non H', rt := Q } [some (.ref s), some (.ref e), some (.int d), none, none, none] H1) := by
      refine ⟨_, rfl, rfl, _, rfl, ite2 (fun _ => ?_) (fun _ => ?_)⟩
      · refine ⟨_, rfl, 10, 6, rfl, rfl, ⟨by decide, by decide, by decide⟩, s, l, _, rfl, L1, by decide, fun H2 t k2 M2 ht => ?_⟩
        refine ⟨(by show 3 ≤ sizeLine; decide), fun q nq => ?_⟩
        exact k _ q t 1 true ((k1.trans k2).up nq) (M2.up nq) ⟨upd_same, Nat.lt_of_lt_of_le (Nat.lt_of_le_of_lt ht (by decide)) p140, Nat.lt_of_lt_of_le (by decide : (1 : Int).natAbs < 2 ^ 140) p140, by decide, fun _ => rfl⟩
      refine ⟨_, rfl, 10, 40, rfl, rfl, ⟨by decide, by decide, by decide⟩, s, l, _, rfl, L1, by decide, fun H2 t k2 M2 ht => ?_⟩
      have ht' : t.natAbs < 2 ^ 140 := Nat.lt_of_le_of_lt ht (by decide)
      refine ⟨_, rfl, 10, 40, rfl, rfl, ⟨by decide, by decide, by decide⟩, s, l, _, rfl, M2, by decide, fun H3 b0 k3 M3 hb => ⟨b0, rfl, _, _, rfl, rfl, ?_⟩⟩
      have hb' : b0.natAbs < 2 ^ 139 := Nat.lt_of_le_of_lt hb (by decide)
      have hbb : (1 + (if b0 < 0 then -b0 else b0)).natAbs < 2 ^ 140 := by
        have e : (2 : Nat) ^ 140 = 2 ^ 139 + 2 ^ 139 := by decide
        have e1 : 1 < (2 : Nat) ^ 139 := by decide
        split <;> omega
      have hpos : 1 ≤ (1 + (if b0 < 0 then -b0 else b0)) := by split <;> omega
      generalize hbd : (1 + (if b0 < 0 then -b0 else b0)) = b at hbb hpos
      dsimp only
      rw [hbd]
      have k123 := (k1.trans k2).trans k3
      refine ⟨_, rfl, s, l, 2, rfl, M3, by decide, by decide, fun H4 r k4 M4 _ _ => ⟨rfl, _, rfl, ite2 (fun _ => ?_) (fun _ => ?_)⟩⟩
      · refine ⟨_, rfl, s, l, 9, rfl, M4, by decide, by decide, fun H5 r5 k5 M5 r50 r51 => ⟨_, _, rfl, rfl, ?_⟩⟩
        refine ⟨_, rfl, s, l, 4, rfl, M5, by decide, by decide, fun H6 r6 k6 M6 r60 r61 => ⟨_, _, rfl, rfl, ?_⟩⟩
        refine ⟨_, rfl, _, rfl, (by show 3 ≤ sizeLine; decide), fun q nq => ?_⟩
        have e1 : 9 < (2 : Nat) ^ 140 := by decide
        exact k _ q _ _ false ((((k123.trans k4).trans k5).trans k6).up nq) (M6.up nq) ⟨upd_same, Nat.lt_of_lt_of_le (by omega) p140, Nat.lt_of_lt_of_le (by omega) p140, by omega, fun z => by cases z⟩
      · refine ⟨_, rfl, _, rfl, (by show 3 ≤ sizeLine; decide), fun q nq => ?_⟩
        exact k _ q t b false ((k123.trans k4).up nq) (M4.up nq) ⟨upd_same, Nat.lt_of_lt_of_le ht' p140, Nat.lt_of_lt_of_le hbb p140, hpos, fun z => by cases z⟩
    refine ⟨_, rfl, rfl, _, rfl, ite2 (fun _ => ?_) (fun _ => rest)⟩
    refine ⟨_, rfl, e, _, rfl, .inl (SqL.of h1), _, _, rfl, rfl, _, rfl, ite2 (fun hq => ?_) (fun _ => rest)⟩
    have hlen : 0 < ((qs.map V.ref).length : Int) := by simpa using hq
    have hlen2 : (qs.map V.ref).length ≤ 8 := by rw [List.length_map]; omega
    refine ⟨_, rfl, _, rfl, _, rfl, e, _, rfl, .inl (SqL.of h1), s, l, _, rfl, L1, hlen, by omega, fun H2 r k2 M2 r0 r1 => ?_⟩
    have h1' := k2 _ _ h1 n1 n2
    obtain ⟨j, rfl⟩ : ∃ j : Nat, r = (j : Int) := ⟨r.toNat, (Int.toNat_of_nonneg r0).symm⟩
    have hj : j < qs.length := by rw [List.length_map] at r1; omega
    obtain ⟨A, B, wh, NA⟩ := h3 _ (List.getElem_mem hj)
    have NA2 := NA.kp L1 k2
    refine ⟨e, _, (j : Int), .ref qs[j], rfl, rfl, SqL.of h1', atI_nat (by rw [List.getElem?_map, List.getElem?_eq_getElem hj]; rfl), ?_⟩
    refine ⟨qs[j], _, rfl, SqT.of NA2.at_, rfl, _, _, rfl, _, _, rfl, _, _, rfl, rfl, ?_⟩
    have bnd : ∀ m : Nat, n ≤ 8 → (2 : Nat) ^ (140 + 3 * n) ≤ 2 ^ 200 := fun _ h => Nat.pow_le_pow_right (by decide) (by omega)
    refine ⟨_, rfl, A, 3, rfl, rfl, .inr ⟨by decide, by decide⟩, _, rfl, _, rfl, s, l, 2, rfl, M2, by decide, by decide, fun H3 r3 k3 M3 r30 r31 => ?_⟩
    have r3lt : r3.natAbs < 2 ^ 200 := by
      have e1 : 2 < (2 : Nat) ^ 200 := by decide
      omega
    refine ⟨B, r3, rfl, rfl, mulOk (n := 200) (m := 200) (Nat.lt_of_lt_of_le NA.hB (bnd 0 hn)) r3lt, _, _, rfl, rfl, _, rfl, B, 3, rfl, rfl, .inr ⟨by decide, by decide⟩, (by show 3 ≤ sizeLine; decide), fun q nq => ?_⟩
    have NP := NA.pos
    refine k _ q _ _ false (((k1.trans k2).trans k3).up nq) (M3.up nq) ⟨upd_same, ?_, ?_, by omega, fun z => by cases z⟩
    · exact pow_up r3 B NA.hA ⟨r30, by omega⟩ NA.hB
    · have := pow_up (x := B) 0 0 NA.hB ⟨by decide, by decide⟩ (Nat.lt_of_le_of_lt (Nat.zero_le _) NA.hB)
      rw [show 140 + 3 * (n + 1) = 140 + 3 * n + 3 by omega]
      simpa using this
end
end Pt

namespace Pt
open PySem PySem.Spec L2
open PySem.W (findIn isFn kitOne)
def spLaw (K : PySem.W.Frag) : Sp := fun vs H Q _ => ∃ (a : Addr) (ns : List Int), vs = [.ref a] ∧ SqL K H a (ns.map V.int) ∧ ns.length ≤ 63 ∧ ∀ H', Q (.bl true) H'
structure Laws (P : Program) (w : World) (K : PySem.W.Frag) (mg : Str → Option Value) (base : Heap) (C CN fN : Addr) : Prop where
  T : Txt K mg C CN fN
  start : ∃ f fd, FnOk P w K mg base CX0 1 f fd ["_law_script"] (spStart K) ∧ mg "_law_start" = some (.ref f) ∧ PySem.W.keepIn K (.ref f) = true ∧ Binds K fd ["_law_script"] []
  draw : ∃ f fd, FnOk P w K mg base CX0 1 f fd ["_law_state", "_law_many"] spDraw ∧ mg "_law_draw" = some (.ref f) ∧ PySem.W.keepIn K (.ref f) = true ∧ Binds K fd ["_law_state", "_law_many"] []
  num : ∃ f fd, FnOk P w K mg base CX0 3 f fd ["_law_state", "_law_earlier"] spNum ∧ mg "_law_number" = some (.ref f) ∧ PySem.W.keepIn K (.ref f) = true ∧ Binds K fd ["_law_state", "_law_earlier"] []
  made : ∃ f fd, FnOk P w K mg base CX0 5 f fd ["_law_number_here", "_law_turned"] (spMade C) ∧ mg "_law_made" = some (.ref f) ∧ PySem.W.keepIn K (.ref f) = true ∧ Binds K fd ["_law_number_here", "_law_turned"] []
  pair : ∃ f fd, FnOk P w K mg base CX0 8 f fd ["_law_one", "_law_other", "_law_sign"] (spPair C) ∧ mg "_law_pair" = some (.ref f) ∧ PySem.W.keepIn K (.ref f) = true ∧ Binds K fd ["_law_one", "_law_other", "_law_sign"] []
  alone : ∃ f fd, FnOk P w K mg base CX0 4 f fd ["_law_one", "_law_empty"] (spAlone C) ∧ mg "_law_alone" = some (.ref f) ∧ PySem.W.keepIn K (.ref f) = true ∧ Binds K fd ["_law_one", "_law_empty"] []
/-- a number and what was made of it -/
def Row (C : Addr) (H : Hp) (q : Addr) (x : V) : Prop := ∃ A B wh, NumAt H q 200 A B wh ∧ Num C H x A B ∧ (wh = false → OwnV C H x)
/-- what is no list is kept -/
def KeepN (H H' : Hp) : Prop := ∀ c o, H c = some o → (∀ xs, o ≠ .lst xs) → H' c = some o
section
variable {P : Program} {w : World} {K : PySem.W.Frag} {mg : Str → Option Value} {base : Heap} {C CN fN : Addr}
theorem KeepN.of_same {H H' : Hp} (s : Same H H') : KeepN H H' := fun c o e _ => s c o e
theorem KeepN.of_kp {H H' : Hp} {s l : Addr} (L : LSt H s l) (k : Kp s l H H') : KeepN H H' := fun c o e n => by
  obtain ⟨i, m, cs, e1, e2, _⟩ := L
  exact k c o e (fun z => by rw [z, e1] at e; exact n _ (Option.some.inj e).symm) (fun z => by rw [z, e2] at e; exact n _ (Option.some.inj e).symm)
theorem KeepN.up {H : Hp} {p : Addr} {xs : List V} {o : HO} (e : H p = some (.lst xs)) : KeepN H (upd H p o) := fun c u h n => by
  rw [upd_ne (fun z => by rw [z, e] at h; exact n _ (Option.some.inj h).symm)]
  exact h
theorem KeepN.trans {H H1 H2 : Hp} (a : KeepN H H1) (b : KeepN H1 H2) : KeepN H H2 := fun c o e n => b c o (a c o e n) n
theorem NumAt.kn {H H' : Hp} {q : Addr} {n : Nat} {A B : Int} {wh : Bool} (h : NumAt H q n A B wh) (k : KeepN H H') : NumAt H' q n A B wh := ⟨k _ _ h.at_ (fun _ z => by cases z), h.hA, h.hB, h.pos, h.one⟩
theorem OwnV.kn {H H' : Hp} {x : V} (h : OwnV C H x) (k : KeepN H H') : OwnV C H' x := let ⟨a, d, f, e, q⟩ := h; ⟨a, d, f, e, k _ _ q (fun _ z => by cases z)⟩
theorem Opd.kn {H H' : Hp} {x : V} {t b : Int} (h : Opd C H x t b) (k : KeepN H H') : Opd C H' x t b := h.imp (fun ⟨p, e, dx, r⟩ => ⟨p, e, dx, k _ _ r (fun _ z => by cases z)⟩) id
theorem Num.kn {H H' : Hp} {x : V} {A B : Int} (h : Num C H x A B) (k : KeepN H H') : Num C H' x A B := ⟨let ⟨t, b, o, v, z⟩ := h.ex; ⟨t, b, Opd.kn o k, v, z⟩, h.hA, h.hB, h.pos⟩
theorem Row.kn {H H' : Hp} {q : Addr} {x : V} (h : Row C H q x) (k : KeepN H H') : Row C H' q x := let ⟨A, B, wh, a, b, c⟩ := h; ⟨A, B, wh, a.kn k, b.kn k, fun z => (c z).kn k⟩
theorem LSt.up2 {s l e : Addr} {H : Hp} {o : HO} (L : LSt H s l) (n1 : e ≠ s) (n2 : e ≠ l) : LSt (upd H e o) s l := by
  obtain ⟨i, m, cs, e1, e2, h⟩ := L
  exact ⟨i, m, cs, by rw [upd_ne (Ne.symm n1)]; exact e1, by rw [upd_ne (Ne.symm n2)]; exact e2, h⟩
theorem LSt.here {H : Hp} {s l : Addr} (L : LSt H s l) : (∃ o, H s = some o) ∧ ∃ o, H l = some o := by
  obtain ⟨i, m, cs, e1, e2, h⟩ := L
  exact ⟨⟨_, e1⟩, ⟨_, e2⟩⟩
theorem scLaw : FnScope ["_law_script", "_law_state", "_law_numbers", "_law_k", "_law_made_here", "_law_j", "_law_first", "_law_second", "_law_number_here"] ["_law_script"] (defScope sLaw) := ⟨rfl, rfl, rfl, by decide +kernel, rfl, by decide +kernel, by decide +kernel⟩
theorem ok_law {f : Addr} {fd : FuncData} (F : Fun K "law" "law" sLaw f fd) (W : Laws P w K mg base C CN fN) : FnOk P w K mg base CX0 9 f fd ["_law_script"] (spLaw K) := by
  obtain ⟨T, ⟨f1, fd1, G1, m1, k1, b1⟩, ⟨f2, fd2, G2, m2, k2, b2⟩, ⟨f3, fd3, G3, m3, k3, b3⟩, ⟨f4, fd4, G4, m4, k4, b4⟩, ⟨f5, fd5, G5, m5, k5, b5⟩, ⟨f6, fd6, G6, m6, k6, b6⟩⟩ := W
  refine F.ok scLaw (fun vs H Q E h => ?_) (fun cdv AA outer s0 H vs Q E hr h => ?_)
  · obtain ⟨a, ns, rfl, _⟩ := h
    rfl
  · obtain ⟨a, ns, rfl, hS, hl, k⟩ := h
    have hr1 : Room 1 _ := hr.mono (by decide)
    have hr3 : Room 3 _ := hr.mono (by decide)
    have hr4 : Room 4 _ := hr.mono (by decide)
    have hr5 : Room 5 _ := hr.mono (by decide)
    refine ⟨_, pss_cons (ps_set (i := 1) scLaw.nd rfl (Or.inr rfl) (pe_call G1 hr1 rfl m1 k1 b1 .nil pass0 (pa_cons (pv 0) pa_nil)))
      (pss_cons (ps_set (i := 2) scLaw.nd rfl (Or.inl rfl) (pe_lst pa_nil))
      (pss_cons (ps_for PassesOwn.never rfl (pi_range1 rfl T.gRange (pa_cons (pe_op op_add pe_int (pe_call G2 hr1 rfl m2 k2 b2 .nil pass0 (pa_cons (pv 1) (pa_cons pe_int pa_nil)))) pa_nil)) (pg_name (i := 3) scLaw.nd rfl (Or.inl rfl))
        (pss_one (ps_expr (pe_bm PySem.F.plainAttrs_list PySem.F.slot_list_append PySem.F.type_list_append mt_append (pv 2) (pa_cons (pe_call G3 hr3 rfl m3 k3 b3 .nil pass0 (pa_cons (pv 1) (pa_cons (pv 2) pa_nil))) pa_nil)))))
      (pss_cons (ps_setLc (i := 4) (own := [("_law_number_here", 8)]) (g := gName 8) (tt := tYes) rfl scLaw.nd rfl rfl (sw_true rfl rfl rfl (by decide +kernel)) (pi_list (pv 2))
          (blkOk_by (N := ["_law_script", "_law_state", "_law_numbers", "_law_k", "_law_made_here", "_law_j", "_law_first", "_law_second", "_law_number_here"]) (sc := defScope sLaw) (by decide +kernel))
          (fun _ _ _ _ _ => pg_name (i := 8) scLaw.nd rfl (Or.inl rfl)) (fun _ _ _ _ _ => pts_nil)
          (fun _ _ _ _ _ => pe_call G4 hr5 rfl m4 k4 b4 .nil pass0 (pa_cons (pv 8) (pa_cons (pe_cmpR op_eq (pe_call G2 hr1 rfl m2 k2 b2 .nil pass0 (pa_cons (pv 1) (pa_cons pe_int pa_nil))) pe_int (nomark _)) pa_nil))))
      (pss_cons (ps_for PassesOwn.never rfl (pi_range1 rfl T.gRange (pa_cons (pe_callB call_len_seq (by rfl) T.gLen PySem.boot_len (pa_cons (pv 2) pa_nil)) pa_nil)) (pg_name (i := 3) scLaw.nd rfl (Or.inl rfl))
        (pss_cons (ps_for PassesOwn.never rfl (pi_range1 rfl T.gRange (pa_cons (pe_callB call_len_seq (by rfl) T.gLen PySem.boot_len (pa_cons (pv 2) pa_nil)) pa_nil)) (pg_name (i := 5) scLaw.nd rfl (Or.inl rfl))
          (pss_cons (ps_set (i := 6) scLaw.nd rfl (Or.inl rfl) (pe_ix ix_list (pv 2) (pv 3) (fun _ _ => rfl)))
          (pss_cons (ps_set (i := 7) scLaw.nd rfl (Or.inl rfl) (pe_ix ix_list (pv 2) (pv 5) (fun _ _ => rfl)))
          (pss_one (ps_if (PW.pt (pw_or (pt_not (pt_val (pe_ix ix_tup (pv 6) pe_int (fun _ _ => rfl)))) (pw_or1 (pt_not (pt_val (pe_ix ix_tup (pv 7) pe_int (fun _ _ => rfl)))))))
            (pss_one (ps_if (pt_not (pt_val (pe_call G5 hr rfl m5 k5 b5 .nil pass0 (pa_cons (pe_ix ix_list (pv 4) (pv 3) (fun _ _ => rfl)) (pa_cons (pe_ix ix_list (pv 4) (pv 5) (fun _ _ => rfl))
              (pa_cons (pe_op op_sub (pe_op op_mulW (pe_ix ix_tup (pv 6) pe_int (fun _ _ => rfl)) (pe_ix ix_tup (pv 7) pe_int (fun _ _ => rfl))) (pe_op op_mulW (pe_ix ix_tup (pv 7) pe_int (fun _ _ => rfl)) (pe_ix ix_tup (pv 6) pe_int (fun _ _ => rfl)))) pa_nil)))))) (pss_one ps_never) pss_nil)) pss_nil)))))
        (pss_one (ps_if (PW.pt (pw_and (pt_not (pt_val (pe_ix ix_tup (pe_ix ix_list (pv 2) (pv 3) (fun _ _ => rfl)) pe_int (fun _ _ => rfl)))) (pw_and1 (pt_not (pt_val (pe_call G6 hr4 rfl m6 k6 b6 .nil pass0 (pa_cons (pe_ix ix_list (pv 4) (pv 3) (fun _ _ => rfl)) (pa_cons pe_non pa_nil)))))))) (pss_one ps_never) pss_nil))))
      (pss_one (ps_ret pe_bl)))))), ?_⟩
    refine ⟨_, rfl, a, ns, rfl, hS, hl, fun H1 s l s1 M1 => ?_⟩
    refine ⟨(by show 0 ≤ sizeLine; decide), fun e ne => ?_⟩
    obtain ⟨⟨_, es⟩, ⟨_, el⟩⟩ := M1.here
    have n1 : e ≠ s := Ne.symm (ne_of_none es ne)
    have n2 : e ≠ l := Ne.symm (ne_of_none el ne)
    have M2 := M1.up (o := .lst []) ne
    have e0 : (upd H1 e (.lst [])) e = some (.lst []) := upd_same
    generalize upd H1 e (.lst []) = H2 at M2 e0
    refine ⟨_, rfl, s, l, 7, rfl, M2, by decide, by decide, fun H3 r kp3 M3 r0 r1 => ⟨_, _, rfl, rfl, ?_⟩⟩
    have e3 := kp3 _ _ e0 n1 n2
    obtain ⟨n, hn⟩ : ∃ n : Nat, (2 + r).toNat = n := ⟨_, rfl⟩
    have hn8 : n ≤ 8 := by omega
    refine ⟨2 + r, rfl, by omega, by omega, ?_⟩
    rw [hn]
    refine for_range (n := n) (fun i σ H' => ∃ v : Option V, σ = [some (.ref a), some (.ref s), some (.ref e), v, none, none, none, none, none] ∧ LSt H' s l ∧ Earlier H' e i) ⟨none, rfl, M3, [], e3, rfl, fun q hq => by cases hq⟩ ?_ ?_
    · rintro i σ H' hi ⟨v, rfl, M, EE⟩
      obtain ⟨qs, h1, h2, h3⟩ := id EE
      refine ⟨_, rfl, .inl ⟨rfl, _, SqL.of h1⟩, _, rfl, _, rfl, s, l, e, i, rfl, M, n1, n2, EE, by omega, fun H4 q A B wh kp4 M4 NA => ?_⟩
      have h1' := kp4 _ _ h1 n1 n2
      refine ⟨e, _, _, rfl, rfl, h1', small1000 (by rw [List.length_map]; omega), ?_⟩
      refine ⟨_, rfl, M4.up2 n1 n2, qs ++ [q], by rw [upd_same, List.map_append]; rfl, by rw [List.length_append, h2]; rfl, fun q' hq => ?_⟩
      have kn := KeepN.up (o := .lst (qs.map V.ref ++ [.ref q])) h1'
      rcases List.mem_append.mp hq with hq | hq
      · obtain ⟨A', B', wh', x⟩ := h3 q' hq
        exact ⟨A', B', wh', ((x.kp M kp4).kn kn).mono (by omega)⟩
      · obtain rfl := List.mem_singleton.mp hq
        exact ⟨A, B, wh, NA.kn kn⟩
    rintro σ H4 ⟨v, rfl, M4, qs, h1, h2, h3⟩
    have h3' : ∀ q ∈ qs, ∃ A B wh, NumAt H4 q 200 A B wh := fun q hq => by
      obtain ⟨A, B, wh, x⟩ := h3 q hq
      exact ⟨A, B, wh, x.mono (by omega)⟩
    have hqs : qs.length ≤ 8 := by omega
    -- the numbers made
    refine ⟨_, rfl, e, rfl, ⟨_, SqL.of h1⟩, fun D nD => ?_⟩
    obtain ⟨⟨_, es4⟩, ⟨_, el4⟩⟩ := M4.here
    have d1 : D ≠ s := Ne.symm (ne_of_none es4 nD)
    have d2 : D ≠ l := Ne.symm (ne_of_none el4 nD)
    have d3 : D ≠ e := Ne.symm (ne_of_none h1 nD)
    have kD := same_up (o := .lst []) nD
    refine lc_list (K := K) (a := e) (xs := qs.map V.ref) (fun i H' => ∃ ms : List V, H' D = some (.lst ms) ∧ ms.length = i ∧ LSt H' s l ∧ H' e = some (.lst (qs.map V.ref)) ∧ (∀ q ∈ qs, ∃ A B wh, NumAt H' q 200 A B wh) ∧ ∀ (j : Nat) (q : Addr) (x : V), qs[j]? = some q → ms[j]? = some x → Row C H' q x)
      ⟨[], upd_same, rfl, M4.same kD, kD _ _ h1, fun q hq => let ⟨A, B, wh, x⟩ := h3' q hq; ⟨A, B, wh, x.same kD⟩, fun j q x _ hx => by cases hx⟩ (fun i H' _ ⟨ms, _, _, _, h, _⟩ => SqL.of h) ?_ ?_
    · rintro i x H5 hx ⟨ms, hD, hm, M5, h5, hN, hR⟩
      rw [List.getElem?_map] at hx
      cases hq : qs[i]? with
      | none => rw [hq] at hx; cases hx
      | some q =>
        rw [hq] at hx
        obtain rfl : V.ref q = x := Option.some.inj hx
        have hil : i < qs.length := (List.getElem?_eq_some_iff.mp hq).1
        obtain ⟨A, B, wh, NA⟩ := hN q (List.mem_of_getElem? hq)
        refine ⟨rfl, ?_⟩
        refine ⟨_, rfl, _, rfl, s, l, 2, rfl, M5, by decide, by decide, fun H6 r6 kp6 M6 _ _ => ?_⟩
        have NA6 := NA.kp M5 kp6
        refine ⟨rfl, q, _, A, B, wh, rfl, NA6, fun H7 x s7 hx7 ox7 => ?_⟩
        have hD7 : H7 D = some (.lst ms) := s7 _ _ (kp6 _ _ hD d1 d2)
        have kn7 : KeepN H5 H7 := (KeepN.of_kp M5 kp6).trans (KeepN.of_same s7)
        have knD := KeepN.up (o := .lst (ms ++ [x])) hD7
        refine ⟨ms, hD7, small1000 (by omega), ms ++ [x], upd_same, by rw [List.length_append, hm]; rfl, (M6.same s7).up2 d1 d2, ?_, fun q' hq' => ?_, fun j q' x' hj hx' => ?_⟩
        · rw [upd_ne (Ne.symm d3)]
          exact s7 _ _ (kp6 _ _ h5 n1 n2)
        · obtain ⟨A', B', wh', z⟩ := hN q' hq'
          exact ⟨A', B', wh', (z.kn kn7).kn knD⟩
        · by_cases hji : j < ms.length
          · rw [List.getElem?_append_left hji] at hx'
            exact ((hR j q' x' hj hx').kn kn7).kn knD
          · have e1 : j = i := by
              have := (List.getElem?_eq_some_iff.mp hx').1
              rw [List.length_append] at this
              simp only [List.length_cons, List.length_nil] at this
              omega
            subst e1
            rw [List.getElem?_append_right (by omega)] at hx'
            have e2 : x' = x := by
              rw [show j - ms.length = 0 by omega] at hx'
              exact (Option.some.inj hx').symm
            subst e2
            rw [hq] at hj
            obtain rfl := Option.some.inj hj
            exact ⟨A, B, wh, (NA6.same s7).kn knD, hx7.kn knD, fun z => (ox7 z).kn knD⟩
    rintro H5 ⟨ms, hD, hm, M5, h5, hN, hR⟩
    rw [List.length_map] at hm
    -- the pairs
    have row : ∀ (H' : Hp) (j : Nat), Same H5 H' → j < qs.length → ∃ q x, (qs.map V.ref)[j]? = some (.ref q) ∧ ms[j]? = some x ∧ Row C H' q x := fun H' j s' hj => by
      have hjm : j < ms.length := by omega
      exact ⟨qs[j], ms[j], by rw [List.getElem?_map, List.getElem?_eq_getElem hj]; rfl, List.getElem?_eq_getElem hjm, (hR j _ _ (List.getElem?_eq_getElem hj) (List.getElem?_eq_getElem hjm)).kn (KeepN.of_same s')⟩
    have at0 : ∀ {xs : List V} {j : Nat} {v : V}, xs[j]? = some v → atI xs (0 + (j : Int)) = some v := fun {xs j v} h => by
      rw [Int.zero_add]
      exact atI_nat h
    refine ⟨_, rfl, e, _, rfl, .inl (SqL.of h5), _, rfl, by omega, by rw [List.length_map]; omega, ?_⟩
    rw [List.length_map, Int.toNat_natCast]
    refine for_range (n := qs.length) (fun i σ H' => ∃ v3 v5 v6 v7 : Option V, σ = [some (.ref a), some (.ref s), some (.ref e), v3, some (.ref D), v5, v6, v7, none] ∧ Same H5 H') ⟨_, _, _, _, rfl, Same.refl H5⟩ ?_ ?_
    · rintro i σ H6 hi ⟨v3, v5, v6, v7, rfl, s6⟩
      have h6 := s6 _ _ h5
      refine ⟨_, rfl, e, _, rfl, .inl (SqL.of h6), _, rfl, by omega, by rw [List.length_map]; omega, ?_⟩
      rw [List.length_map, Int.toNat_natCast]
      refine for_range (n := qs.length) (fun j σ H' => ∃ v5 v6 v7 : Option V, σ = [some (.ref a), some (.ref s), some (.ref e), some (.int (0 + (i : Int))), some (.ref D), v5, v6, v7, none] ∧ Same H5 H') ⟨_, _, _, rfl, s6⟩ ?_ ?_
      · rintro j σ H7 hj ⟨v5, v6, v7, rfl, s7⟩
        obtain ⟨q, x, hq, hx, A, B, wh, NA, NX, OX⟩ := row H7 i s7 hi
        obtain ⟨q', x', hq', hx', A', B', wh', NA', NX', OX'⟩ := row H7 j s7 hj
        have h7 := s7 _ _ h5
        have D7 := s7 _ _ hD
        refine ⟨_, rfl, _, rfl, e, _, _, .ref q, rfl, rfl, SqL.of h7, at0 hq, ?_⟩
        refine ⟨_, rfl, _, rfl, e, _, _, .ref q', rfl, rfl, SqL.of h7, at0 hq', ?_⟩
        have done : ∀ H8, Same H7 H8 → ∃ v5 v6 v7 : Option V, [some (V.ref a), some (.ref s), some (.ref e), some (.int (0 + (i : Int))), some (.ref D), some (.int (0 + (j : Int))), some (.ref q), some (.ref q'), none] = [some (V.ref a), some (.ref s), some (.ref e), some (.int (0 + (i : Int))), some (.ref D), v5, v6, v7, none] ∧ Same H5 H8 :=
          fun H8 s8 => ⟨_, _, _, rfl, s7.trans s8⟩
        have ask : OneR C H7 x x' → (tIfS (tNot (tB (tCall (spPair C) [] E0 (tCons (tOp (rIxL K) (tVar 4) (tVar 3)) (tCons (tOp (rIxL K) (tVar 4) (tVar 5)) (tCons (tOp (rI0 fun i j => .int (i - j)) (tOp (rI CMulW fun i j => .int (i * j)) (tOp (rIxT K) (tVar 6) (tC (.int 0))) (tOp (rIxT K) (tVar 7) (tC (.int 1)))) (tOp (rI CMulW fun i j => .int (i * j)) (tOp (rIxT K) (tVar 7) (tC (.int 0))) (tOp (rIxT K) (tVar 6) (tC (.int 1))))) tNil)))))) tNever tNext)
            { nx := fun σ' H' => ∃ v5 v6 v7 : Option V, σ' = [some (V.ref a), some (.ref s), some (.ref e), some (.int (0 + (i : Int))), some (.ref D), v5, v6, v7, none] ∧ Same H5 H', rt := Q } [some (V.ref a), some (.ref s), some (.ref e), some (.int (0 + (i : Int))), some (.ref D), some (.int (0 + (j : Int))), some (.ref q), some (.ref q'), none] H7 := fun one => by
          refine ⟨_, rfl, _, rfl, D, _, _, x, rfl, rfl, SqL.of D7, at0 hx, ?_⟩
          refine ⟨_, rfl, _, rfl, D, _, _, x', rfl, rfl, SqL.of D7, at0 hx', ?_⟩
          refine ⟨_, rfl, q, _, 0, .int A, rfl, rfl, SqT.of NA.at_, rfl, _, rfl, q', _, 1, .int B', rfl, rfl, SqT.of NA'.at_, rfl, A, B', rfl, rfl, mulOk NA.hA NA'.hB, ?_⟩
          refine ⟨_, rfl, q', _, 0, .int A', rfl, rfl, SqT.of NA'.at_, rfl, _, rfl, q, _, 1, .int B, rfl, rfl, SqT.of NA.at_, rfl, A', B, rfl, rfl, mulOk NA'.hA NA.hB, _, _, rfl, rfl, ?_⟩
          refine ⟨x, x', A, B, A', B', rfl, NX, NX', one, fun H8 s8 => ?_⟩
          refine ⟨true, rfl, iteF ?_⟩
          exact done H8 s8
        refine ⟨_, rfl, q, _, 2, .bl wh, rfl, rfl, SqT.of NA.at_, rfl, wh, rfl, ?_⟩
        cases wh with
        | false => exact ask (.inl (OX rfl))
        | true =>
          refine iteF ?_
          refine ⟨_, rfl, q', _, 2, .bl wh', rfl, rfl, SqT.of NA'.at_, rfl, wh', rfl, ?_⟩
          cases wh' with
          | false => exact ask (.inr (OX' rfl))
          | true =>
            refine iteF ?_
            exact done H7 (Same.refl H7)
      · rintro σ H7 ⟨v5, v6, v7, rfl, s7⟩
        obtain ⟨q, x, hq, hx, A, B, wh, NA, NX, OX⟩ := row H7 i s7 hi
        have h7 := s7 _ _ h5
        have D7 := s7 _ _ hD
        refine ⟨_, rfl, _, rfl, e, _, _, .ref q, rfl, rfl, SqL.of h7, at0 hq, q, _, 2, .bl wh, rfl, rfl, SqT.of NA.at_, rfl, wh, rfl, ?_⟩
        cases wh with
        | true =>
          refine iteF ?_
          exact ⟨_, _, _, _, rfl, s7⟩
        | false =>
          refine iteT ?_
          obtain ⟨⟨t, b, oo, v, z⟩, _, _, _⟩ := NX
          obtain ⟨p, rfl, r⟩ := own_ref oo (OX rfl)
          refine ⟨_, rfl, _, rfl, D, _, _, .ref p, rfl, rfl, SqL.of D7, at0 hx, ?_⟩
          refine ⟨p, t, b, rfl, r, z, fun H8 s8 => ?_⟩
          refine ⟨true, rfl, iteF ?_⟩
          exact ⟨_, _, _, _, rfl, s7.trans s8⟩
    · rintro σ H6 ⟨v3, v5, v6, v7, rfl, s6⟩
      exact k H6
end
end Pt

namespace Pt
open PySem PySem.Spec L2
open PySem.W (findIn isFn kitOne nsIn typeIn keepIn subIn codeIn clsIn)
theorem exm_own {K : PySem.W.Frag} {S : Addr} (h1 : subIn K (.ref S) (.type "BaseException") = some true) (h2 : PySem.W.isClsIn K S = true) (h3 : typeIn K (.ref S) = some (.type "type")) (h4 : subIn K (.ref S) (.ref S) = some true) :
    PySem.W.exmOne K (.ref S) (.ref S) = some true := by
  have e1 : (subIn K (.ref S) (.type "BaseException") == some true) = true := by rw [h1] <;> rfl
  have e2 : ((clsIn K S).isSome && typeIn K (.ref S) == some (.type "type")) = true := by
    have h2' : (clsIn K S).isSome = true := h2
    rw [h2', h3] <;> rfl
  unfold PySem.W.exmOne
  rw [if_pos e1]
  unfold PySem.W.kitCls
  dsimp only
  rw [if_pos e2]
  exact h4
theorem all_mk {l : PySem.W.OpenLaw} {w : World} {K : PySem.W.Frag} {h : Heap} {mg : Str → Option Value} {fa C CN fN : Addr} {fIn fsIsInt fsIsOp fsAsR fsGcd fsStart fsDraw fsFar fsNum fsMade fsFlag fsPair fsAlone fsLaw fsEq fsLt fsLe fsGt fsGe fsText : Addr} (X : K.In h) (G : h.Ns mainGlobals mg) (hfa : mg "law" = some (.ref fa))
    {cdC : ClassData} {nmN qN : Str} {NN CP : Addr} {bsN subN : List Value} {snN : List Str} {abN : Bool} {colN : Option Bool} {ddN : Option Addr} {nm0 nm1 nm2 nm3 nm5 : Option Value} {ocNR kVNR dcNR pmNR cdNR ctNR : Value} {odNR anNR : Option Addr} {slNR : Array (Option Value)} {TD : Addr} {tcD : Value} {tdD : Option Addr} {tkD : Tok} {tnD : Nat} {tslD : Array (Option Value)} {ocIn kVIn dcIn pmIn cdIn ctIn : Value} {odIn anIn : Option Addr} {slIn : Array (Option Value)} {ocsIsInt kVsIsInt dcsIsInt pmsIsInt cdsIsInt ctsIsInt : Value} {odsIsInt ansIsInt : Option Addr} {slsIsInt : Array (Option Value)} {ocsIsOp kVsIsOp dcsIsOp pmsIsOp cdsIsOp ctsIsOp : Value} {odsIsOp ansIsOp : Option Addr} {slsIsOp : Array (Option Value)} {ocsAsR kVsAsR dcsAsR pmsAsR cdsAsR ctsAsR : Value} {odsAsR ansAsR : Option Addr} {slsAsR : Array (Option Value)} {ocsGcd kVsGcd dcsGcd pmsGcd cdsGcd ctsGcd : Value} {odsGcd ansGcd : Option Addr} {slsGcd : Array (Option Value)} {ocsStart kVsStart dcsStart pmsStart cdsStart ctsStart : Value} {odsStart ansStart : Option Addr} {slsStart : Array (Option Value)} {ocsDraw kVsDraw dcsDraw pmsDraw cdsDraw ctsDraw : Value} {odsDraw ansDraw : Option Addr} {slsDraw : Array (Option Value)} {ocsFar kVsFar dcsFar pmsFar cdsFar ctsFar : Value} {odsFar ansFar : Option Addr} {slsFar : Array (Option Value)} {ocsNum kVsNum dcsNum pmsNum cdsNum ctsNum : Value} {odsNum ansNum : Option Addr} {slsNum : Array (Option Value)} {ocsMade kVsMade dcsMade pmsMade cdsMade ctsMade : Value} {odsMade ansMade : Option Addr} {slsMade : Array (Option Value)} {ocsFlag kVsFlag dcsFlag pmsFlag cdsFlag ctsFlag : Value} {odsFlag ansFlag : Option Addr} {slsFlag : Array (Option Value)} {ocsPair kVsPair dcsPair pmsPair cdsPair ctsPair : Value} {odsPair ansPair : Option Addr} {slsPair : Array (Option Value)} {ocsAlone kVsAlone dcsAlone pmsAlone cdsAlone ctsAlone : Value} {odsAlone ansAlone : Option Addr} {slsAlone : Array (Option Value)} {ocsLaw kVsLaw dcsLaw pmsLaw cdsLaw ctsLaw : Value} {odsLaw ansLaw : Option Addr} {slsLaw : Array (Option Value)} {ocsEq kVsEq dcsEq pmsEq cdsEq ctsEq : Value} {odsEq ansEq : Option Addr} {slsEq : Array (Option Value)} {ocsLt kVsLt dcsLt pmsLt cdsLt ctsLt : Value} {odsLt ansLt : Option Addr} {slsLt : Array (Option Value)} {ocsLe kVsLe dcsLe pmsLe cdsLe ctsLe : Value} {odsLe ansLe : Option Addr} {slsLe : Array (Option Value)} {ocsGt kVsGt dcsGt pmsGt cdsGt ctsGt : Value} {odsGt ansGt : Option Addr} {slsGt : Array (Option Value)} {ocsGe kVsGe dcsGe pmsGe cdsGe ctsGe : Value} {odsGe ansGe : Option Addr} {slsGe : Array (Option Value)} {ocsText kVsText dcsText pmsText cdsText ctsText : Value} {odsText ansText : Option Addr} {slsText : Array (Option Value)}
    (aC : nsIn K mainGlobals "Ratio" = some (some (.ref C)))
    (pg : PySem.W.plainGet K C Str.empty = true)
    (hd : PySem.W.hasDictIn K C = true)
    (po : PySem.W.plainOver K C = true)
    (sa : findIn K (.ref C) "__setattr__" = some (some (.builtin "object.__setattr__")))
    (mk : PySem.W.makesIn K C = true)
    (kc : keepIn K (.ref C) = true)
    (nT : findIn K (.ref C) "top" = some none)
    (nB : findIn K (.ref C) "bottom" = some none)
    (cA : findIn K (.ref C) "__class__" = some (some (.builtin "object.__class__")))
    (cN : PySem.W.specialIn K (.builtin "object.__class__") "__get__" = some (some (.builtin "getset_descriptor.__get__")))
    (cK : PySem.W.takesIn K (.builtin "object.__class__") = some true)
    (cM : PySem.W.mroIn K C (.type "object") = some true)
    (sF : PySem.W.selfFirst K C = true)
    (hcd : clsIn K C = some cdC)
    (hmro : cdC.mro = [.ref C, .type "object"])
    (sb1 : subIn K (.ref C) (.type "int") = some false)
    (sb2 : subIn K (.type "int") (.ref C) = some false)
    (iCI : kitOne K (.ref C) (.type "int") = some false)
    (iIC : kitOne K (.type "int") (.ref C) = some false)
    (iCC : kitOne K (.ref C) (.ref C) = some true)
    (aN : nsIn K mainGlobals "NoRatio" = some (some (.ref CN)))
    (xL : K.lookup CN = some (excClassObj nmN qN CN NN bsN [.ref CP, .type "ValueError", .type "Exception", .type "BaseException", .type "object"] true snN subN abN colN ddN nm0 nm1 nm2 nm3 nm5 "ValueError.__new__"))
    (saN : findIn K (.ref CN) "__setattr__" = some (some (.builtin "object.__setattr__")))
    (gaN : findIn K (.ref CN) "__getattribute__" = some (some (.builtin "BaseException.__getattribute__")))
    (ggN : findIn K (.ref CN) "__getattr__" = some none)
    (nwN : findIn K (.ref CN) "word" = some none)
    (iiN : findIn K (.ref CN) "__init__" = some (some (.ref fN)))
    (tiN : typeIn K (.ref fN) = some (.type "function"))
    (kCN : keepIn K (.ref CN) = true)
    (eCN : subIn K (.ref CN) (.type "BaseException") = some true)
    (tCN : typeIn K (.ref CN) = some (.type "type"))
    (hCN : PySem.W.hasDictIn K CN = true)
    (iCN : PySem.W.isClsIn K CN = true)
    (sCN : subIn K (.ref CN) (.ref CN) = some true)
    (lNR : K.lookup fN = some ⟨ocNR, odNR, .func (PySem.W.fnOf "__init__" "NoRatio.__init__" (defArgs sNRi) (defBody sNRi) (defScope sNRi) .none kVNR dcNR pmNR anNR cdNR ctNR), slNR⟩)
    (cNR : codeIn K cdNR "NoRatio.__init__" = true)
    (kNR : keepIn K (.ref fN) = true)
    (aIn : findIn K (.ref C) "__init__" = some (some (.ref fIn)))
    (iIn : isFn K (.ref fIn) = true)
    (lIn : K.lookup fIn = some ⟨ocIn, odIn, .func (PySem.W.fnOf "__init__" "Ratio.__init__" (defArgs sInit) (defBody sInit) (defScope sInit) (.ref TD) kVIn dcIn pmIn anIn cdIn ctIn), slIn⟩)
    (cIn : codeIn K cdIn "Ratio.__init__" = true)
    (kIn : keepIn K (.ref fIn) = true)
    (lTD : K.lookup TD = some ⟨tcD, tdD, .seq #[Value.int 1 tkD] tnD, tslD⟩)
    (asIsInt : nsIn K mainGlobals "is_integer" = some (some (.ref fsIsInt)))
    (lsIsInt : K.lookup fsIsInt = some ⟨ocsIsInt, odsIsInt, .func (PySem.W.fnOf "is_integer" "is_integer" (defArgs sIsInt) (defBody sIsInt) (defScope sIsInt) .none kVsIsInt dcsIsInt pmsIsInt ansIsInt cdsIsInt ctsIsInt), slsIsInt⟩)
    (csIsInt : codeIn K cdsIsInt "is_integer" = true)
    (ksIsInt : keepIn K (.ref fsIsInt) = true)
    (asIsOp : nsIn K mainGlobals "is_operand" = some (some (.ref fsIsOp)))
    (lsIsOp : K.lookup fsIsOp = some ⟨ocsIsOp, odsIsOp, .func (PySem.W.fnOf "is_operand" "is_operand" (defArgs sIsOp) (defBody sIsOp) (defScope sIsOp) .none kVsIsOp dcsIsOp pmsIsOp ansIsOp cdsIsOp ctsIsOp), slsIsOp⟩)
    (csIsOp : codeIn K cdsIsOp "is_operand" = true)
    (ksIsOp : keepIn K (.ref fsIsOp) = true)
    (asAsR : nsIn K mainGlobals "as_ratio" = some (some (.ref fsAsR)))
    (lsAsR : K.lookup fsAsR = some ⟨ocsAsR, odsAsR, .func (PySem.W.fnOf "as_ratio" "as_ratio" (defArgs sAsR) (defBody sAsR) (defScope sAsR) .none kVsAsR dcsAsR pmsAsR ansAsR cdsAsR ctsAsR), slsAsR⟩)
    (csAsR : codeIn K cdsAsR "as_ratio" = true)
    (ksAsR : keepIn K (.ref fsAsR) = true)
    (asGcd : nsIn K mainGlobals "common_divisor" = some (some (.ref fsGcd)))
    (lsGcd : K.lookup fsGcd = some ⟨ocsGcd, odsGcd, .func (PySem.W.fnOf "common_divisor" "common_divisor" (defArgs sGcd) (defBody sGcd) (defScope sGcd) .none kVsGcd dcsGcd pmsGcd ansGcd cdsGcd ctsGcd), slsGcd⟩)
    (csGcd : codeIn K cdsGcd "common_divisor" = true)
    (ksGcd : keepIn K (.ref fsGcd) = true)
    (asStart : nsIn K mainGlobals "_law_start" = some (some (.ref fsStart)))
    (lsStart : K.lookup fsStart = some ⟨ocsStart, odsStart, .func (PySem.W.fnOf "_law_start" "_law_start" (defArgs sStart) (defBody sStart) (defScope sStart) .none kVsStart dcsStart pmsStart ansStart cdsStart ctsStart), slsStart⟩)
    (csStart : codeIn K cdsStart "_law_start" = true)
    (ksStart : keepIn K (.ref fsStart) = true)
    (asDraw : nsIn K mainGlobals "_law_draw" = some (some (.ref fsDraw)))
    (lsDraw : K.lookup fsDraw = some ⟨ocsDraw, odsDraw, .func (PySem.W.fnOf "_law_draw" "_law_draw" (defArgs sDraw) (defBody sDraw) (defScope sDraw) .none kVsDraw dcsDraw pmsDraw ansDraw cdsDraw ctsDraw), slsDraw⟩)
    (csDraw : codeIn K cdsDraw "_law_draw" = true)
    (ksDraw : keepIn K (.ref fsDraw) = true)
    (asFar : nsIn K mainGlobals "_law_far" = some (some (.ref fsFar)))
    (lsFar : K.lookup fsFar = some ⟨ocsFar, odsFar, .func (PySem.W.fnOf "_law_far" "_law_far" (defArgs sFar) (defBody sFar) (defScope sFar) .none kVsFar dcsFar pmsFar ansFar cdsFar ctsFar), slsFar⟩)
    (csFar : codeIn K cdsFar "_law_far" = true)
    (ksFar : keepIn K (.ref fsFar) = true)
    (asNum : nsIn K mainGlobals "_law_number" = some (some (.ref fsNum)))
    (lsNum : K.lookup fsNum = some ⟨ocsNum, odsNum, .func (PySem.W.fnOf "_law_number" "_law_number" (defArgs sNum) (defBody sNum) (defScope sNum) .none kVsNum dcsNum pmsNum ansNum cdsNum ctsNum), slsNum⟩)
    (csNum : codeIn K cdsNum "_law_number" = true)
    (ksNum : keepIn K (.ref fsNum) = true)
    (asMade : nsIn K mainGlobals "_law_made" = some (some (.ref fsMade)))
    (lsMade : K.lookup fsMade = some ⟨ocsMade, odsMade, .func (PySem.W.fnOf "_law_made" "_law_made" (defArgs sMade) (defBody sMade) (defScope sMade) .none kVsMade dcsMade pmsMade ansMade cdsMade ctsMade), slsMade⟩)
    (csMade : codeIn K cdsMade "_law_made" = true)
    (ksMade : keepIn K (.ref fsMade) = true)
    (asFlag : nsIn K mainGlobals "_law_flag" = some (some (.ref fsFlag)))
    (lsFlag : K.lookup fsFlag = some ⟨ocsFlag, odsFlag, .func (PySem.W.fnOf "_law_flag" "_law_flag" (defArgs sFlag) (defBody sFlag) (defScope sFlag) .none kVsFlag dcsFlag pmsFlag ansFlag cdsFlag ctsFlag), slsFlag⟩)
    (csFlag : codeIn K cdsFlag "_law_flag" = true)
    (ksFlag : keepIn K (.ref fsFlag) = true)
    (asPair : nsIn K mainGlobals "_law_pair" = some (some (.ref fsPair)))
    (lsPair : K.lookup fsPair = some ⟨ocsPair, odsPair, .func (PySem.W.fnOf "_law_pair" "_law_pair" (defArgs sPair) (defBody sPair) (defScope sPair) .none kVsPair dcsPair pmsPair ansPair cdsPair ctsPair), slsPair⟩)
    (csPair : codeIn K cdsPair "_law_pair" = true)
    (ksPair : keepIn K (.ref fsPair) = true)
    (asAlone : nsIn K mainGlobals "_law_alone" = some (some (.ref fsAlone)))
    (lsAlone : K.lookup fsAlone = some ⟨ocsAlone, odsAlone, .func (PySem.W.fnOf "_law_alone" "_law_alone" (defArgs sAlone) (defBody sAlone) (defScope sAlone) .none kVsAlone dcsAlone pmsAlone ansAlone cdsAlone ctsAlone), slsAlone⟩)
    (csAlone : codeIn K cdsAlone "_law_alone" = true)
    (ksAlone : keepIn K (.ref fsAlone) = true)
    (asLaw : nsIn K mainGlobals "law" = some (some (.ref fsLaw)))
    (lsLaw : K.lookup fsLaw = some ⟨ocsLaw, odsLaw, .func (PySem.W.fnOf "law" "law" (defArgs sLaw) (defBody sLaw) (defScope sLaw) .none kVsLaw dcsLaw pmsLaw ansLaw cdsLaw ctsLaw), slsLaw⟩)
    (csLaw : codeIn K cdsLaw "law" = true)
    (ksLaw : keepIn K (.ref fsLaw) = true)
    (asEq : findIn K (.ref C) "__eq__" = some (some (.ref fsEq)))
    (isEq : isFn K (.ref fsEq) = true)
    (lsEq : K.lookup fsEq = some ⟨ocsEq, odsEq, .func (PySem.W.fnOf "__eq__" "Ratio.__eq__" (defArgs sEq) (defBody sEq) (defScope sEq) .none kVsEq dcsEq pmsEq ansEq cdsEq ctsEq), slsEq⟩)
    (csEq : codeIn K cdsEq "Ratio.__eq__" = true)
    (ksEq : keepIn K (.ref fsEq) = true)
    (asLt : findIn K (.ref C) "__lt__" = some (some (.ref fsLt)))
    (isLt : isFn K (.ref fsLt) = true)
    (lsLt : K.lookup fsLt = some ⟨ocsLt, odsLt, .func (PySem.W.fnOf "__lt__" "Ratio.__lt__" (defArgs sLt) (defBody sLt) (defScope sLt) .none kVsLt dcsLt pmsLt ansLt cdsLt ctsLt), slsLt⟩)
    (csLt : codeIn K cdsLt "Ratio.__lt__" = true)
    (ksLt : keepIn K (.ref fsLt) = true)
    (asLe : findIn K (.ref C) "__le__" = some (some (.ref fsLe)))
    (isLe : isFn K (.ref fsLe) = true)
    (lsLe : K.lookup fsLe = some ⟨ocsLe, odsLe, .func (PySem.W.fnOf "__le__" "Ratio.__le__" (defArgs sLe) (defBody sLe) (defScope sLe) .none kVsLe dcsLe pmsLe ansLe cdsLe ctsLe), slsLe⟩)
    (csLe : codeIn K cdsLe "Ratio.__le__" = true)
    (ksLe : keepIn K (.ref fsLe) = true)
    (asGt : findIn K (.ref C) "__gt__" = some (some (.ref fsGt)))
    (isGt : isFn K (.ref fsGt) = true)
    (lsGt : K.lookup fsGt = some ⟨ocsGt, odsGt, .func (PySem.W.fnOf "__gt__" "Ratio.__gt__" (defArgs sGt) (defBody sGt) (defScope sGt) .none kVsGt dcsGt pmsGt ansGt cdsGt ctsGt), slsGt⟩)
    (csGt : codeIn K cdsGt "Ratio.__gt__" = true)
    (ksGt : keepIn K (.ref fsGt) = true)
    (asGe : findIn K (.ref C) "__ge__" = some (some (.ref fsGe)))
    (isGe : isFn K (.ref fsGe) = true)
    (lsGe : K.lookup fsGe = some ⟨ocsGe, odsGe, .func (PySem.W.fnOf "__ge__" "Ratio.__ge__" (defArgs sGe) (defBody sGe) (defScope sGe) .none kVsGe dcsGe pmsGe ansGe cdsGe ctsGe), slsGe⟩)
    (csGe : codeIn K cdsGe "Ratio.__ge__" = true)
    (ksGe : keepIn K (.ref fsGe) = true)
    (asText : findIn K (.ref C) "text" = some (some (.ref fsText)))
    (isText : isFn K (.ref fsText) = true)
    (lsText : K.lookup fsText = some ⟨ocsText, odsText, .func (PySem.W.fnOf "text" "Ratio.text" (defArgs sText) (defBody sText) (defScope sText) .none kVsText dcsText pmsText ansText cdsText ctsText), slsText⟩)
    (csText : codeIn K cdsText "Ratio.text" = true)
    (ksText : keepIn K (.ref fsText) = true)
    (oNe : findIn K (.ref C) "__ne__" = some (some (.builtin "object.__ne__")))
    (sbn : subIn K (.type "NoneType") (.ref C) = some false)
    (kin : kitOne K (.type "NoneType") (.ref C) = some false)
    (sbs : subIn K (.type "str") (.ref C) = some false)
    (kis : kitOne K (.type "str") (.ref C) = some false)
    (sbl : subIn K (.type "list") (.ref C) = some false)
    (kil : kitOne K (.type "list") (.ref C) = some false)
    (sbt : subIn K (.type "tuple") (.ref C) = some false)
    (kit : kitOne K (.type "tuple") (.ref C) = some false)
    (zstr : nsIn K mainGlobals "str" = some none)
    (zint : nsIn K mainGlobals "int" = some none)
    (zbool : nsIn K mainGlobals "bool" = some none)
    (zisinstance : nsIn K mainGlobals "isinstance" = some none)
    (zabs : nsIn K mainGlobals "abs" = some none)
    (zlen : nsIn K mainGlobals "len" = some none)
    (zrange : nsIn K mainGlobals "range" = some none)
    : ∃ fd : FuncData, (∀ (s : Shared) (v : Value), BindsTo s fd ⟨[v], []⟩ [("_law_script", v)]) ∧ ∀ base : Heap, K.In base → base.Ns mainGlobals mg → FnOk l.prog w K mg base CX0 9 fa fd ["_law_script"] (spLaw K) := by
  have e := hfa.symm.trans (PySem.W.mg_of X G asLaw)
  cases e
  have T : Txt K mg C CN fN := {
    cl := ⟨pg, hd, po, sa⟩, nT := nT, nB := nB, mgC := PySem.W.mg_of X G aC, cA := cA, cN := cN, cK := cK, cM := cM, iCI := iCI, iIC := iIC, iCC := iCC
    oex := ⟨⟨nmN, qN, NN, bsN, _, snN, subN, abN, colN, ddN, nm0, nm1, nm2, nm3, nm5, xL, rfl⟩, saN, eCN, tCN, kCN⟩
    xf := ⟨gaN, ggN, eCN, hCN⟩, nW := nwN, iN := iiN, tN := tiN, mgN := PySem.W.mg_of X G aN, eN := exm_own eCN iCN tCN sCN
    gIsi := PySem.W.mg_none_of X G zisinstance, gInt := PySem.W.mg_none_of X G zint, gBool := PySem.W.mg_none_of X G zbool, gAbs := PySem.W.mg_none_of X G zabs, gLen := PySem.W.mg_none_of X G zlen, gRange := PySem.W.mg_none_of X G zrange }
  have B : Bl mg := ⟨PySem.W.mg_none_of X G zint, PySem.W.mg_none_of X G zlen⟩
  have FsIsInt := fun_mk (x := "is_integer") (qual := "is_integer") (st := sIsInt) lsIsInt csIsInt ksIsInt
  have bsIsInt := FsIsInt.binds (ps := ["thing"]) fun _ _ _ _ _ _ us hl => match us, hl with | [_], _ => rfl
  have msIsInt := PySem.W.mg_of X G asIsInt
  have FsIsOp := fun_mk (x := "is_operand") (qual := "is_operand") (st := sIsOp) lsIsOp csIsOp ksIsOp
  have bsIsOp := FsIsOp.binds (ps := ["thing"]) fun _ _ _ _ _ _ us hl => match us, hl with | [_], _ => rfl
  have msIsOp := PySem.W.mg_of X G asIsOp
  have FsAsR := fun_mk (x := "as_ratio") (qual := "as_ratio") (st := sAsR) lsAsR csAsR ksAsR
  have bsAsR := FsAsR.binds (ps := ["number"]) fun _ _ _ _ _ _ us hl => match us, hl with | [_], _ => rfl
  have msAsR := PySem.W.mg_of X G asAsR
  have FsGcd := fun_mk (x := "common_divisor") (qual := "common_divisor") (st := sGcd) lsGcd csGcd ksGcd
  have bsGcd := FsGcd.binds (ps := ["one", "other"]) fun _ _ _ _ _ _ us hl => match us, hl with | [_, _], _ => rfl
  have msGcd := PySem.W.mg_of X G asGcd
  have FsStart := fun_mk (x := "_law_start") (qual := "_law_start") (st := sStart) lsStart csStart ksStart
  have bsStart := FsStart.binds (ps := ["_law_script"]) fun _ _ _ _ _ _ us hl => match us, hl with | [_], _ => rfl
  have msStart := PySem.W.mg_of X G asStart
  have FsDraw := fun_mk (x := "_law_draw") (qual := "_law_draw") (st := sDraw) lsDraw csDraw ksDraw
  have bsDraw := FsDraw.binds (ps := ["_law_state", "_law_many"]) fun _ _ _ _ _ _ us hl => match us, hl with | [_, _], _ => rfl
  have msDraw := PySem.W.mg_of X G asDraw
  have FsFar := fun_mk (x := "_law_far") (qual := "_law_far") (st := sFar) lsFar csFar ksFar
  have bsFar := FsFar.binds (ps := ["_law_state", "_law_bound"]) fun _ _ _ _ _ _ us hl => match us, hl with | [_, _], _ => rfl
  have msFar := PySem.W.mg_of X G asFar
  have FsNum := fun_mk (x := "_law_number") (qual := "_law_number") (st := sNum) lsNum csNum ksNum
  have bsNum := FsNum.binds (ps := ["_law_state", "_law_earlier"]) fun _ _ _ _ _ _ us hl => match us, hl with | [_, _], _ => rfl
  have msNum := PySem.W.mg_of X G asNum
  have FsMade := fun_mk (x := "_law_made") (qual := "_law_made") (st := sMade) lsMade csMade ksMade
  have bsMade := FsMade.binds (ps := ["_law_number_here", "_law_turned"]) fun _ _ _ _ _ _ us hl => match us, hl with | [_, _], _ => rfl
  have msMade := PySem.W.mg_of X G asMade
  have FsFlag := fun_mk (x := "_law_flag") (qual := "_law_flag") (st := sFlag) lsFlag csFlag ksFlag
  have bsFlag := FsFlag.binds (ps := ["_law_value", "_law_due"]) fun _ _ _ _ _ _ us hl => match us, hl with | [_, _], _ => rfl
  have msFlag := PySem.W.mg_of X G asFlag
  have FsPair := fun_mk (x := "_law_pair") (qual := "_law_pair") (st := sPair) lsPair csPair ksPair
  have bsPair := FsPair.binds (ps := ["_law_one", "_law_other", "_law_sign"]) fun _ _ _ _ _ _ us hl => match us, hl with | [_, _, _], _ => rfl
  have msPair := PySem.W.mg_of X G asPair
  have FsAlone := fun_mk (x := "_law_alone") (qual := "_law_alone") (st := sAlone) lsAlone csAlone ksAlone
  have bsAlone := FsAlone.binds (ps := ["_law_one", "_law_empty"]) fun _ _ _ _ _ _ us hl => match us, hl with | [_, _], _ => rfl
  have msAlone := PySem.W.mg_of X G asAlone
  have FsLaw := fun_mk (x := "law") (qual := "law") (st := sLaw) lsLaw csLaw ksLaw
  have msLaw := PySem.W.mg_of X G asLaw
  have FsEq := fun_mk (x := "__eq__") (qual := "Ratio.__eq__") (st := sEq) lsEq csEq ksEq
  have bsEq := FsEq.binds (ps := ["self", "other"]) fun _ _ _ _ _ _ us hl => match us, hl with | [_, _], _ => rfl
  have FsLt := fun_mk (x := "__lt__") (qual := "Ratio.__lt__") (st := sLt) lsLt csLt ksLt
  have bsLt := FsLt.binds (ps := ["self", "other"]) fun _ _ _ _ _ _ us hl => match us, hl with | [_, _], _ => rfl
  have FsLe := fun_mk (x := "__le__") (qual := "Ratio.__le__") (st := sLe) lsLe csLe ksLe
  have bsLe := FsLe.binds (ps := ["self", "other"]) fun _ _ _ _ _ _ us hl => match us, hl with | [_, _], _ => rfl
  have FsGt := fun_mk (x := "__gt__") (qual := "Ratio.__gt__") (st := sGt) lsGt csGt ksGt
  have bsGt := FsGt.binds (ps := ["self", "other"]) fun _ _ _ _ _ _ us hl => match us, hl with | [_, _], _ => rfl
  have FsGe := fun_mk (x := "__ge__") (qual := "Ratio.__ge__") (st := sGe) lsGe csGe ksGe
  have bsGe := FsGe.binds (ps := ["self", "other"]) fun _ _ _ _ _ _ us hl => match us, hl with | [_, _], _ => rfl
  have FsText := fun_mk (x := "text") (qual := "Ratio.text") (st := sText) lsText csText ksText
  have bsText := FsText.binds (ps := ["self"]) fun _ _ _ _ _ _ us hl => match us, hl with | [_], _ => rfl
  have FNR := fun_mk (x := "__init__") (qual := "NoRatio.__init__") (st := sNRi) lNR cNR kNR
  have bNR := FNR.binds (ps := ["self", "word"]) fun _ _ _ _ _ _ us hl => match us, hl with | [_, _], _ => rfl
  have FIn : FunD K "__init__" "Ratio.__init__" (defArgs sInit) (defBody sInit) (defScope sInit) [.int 1] [] fIn (PySem.W.fnOf "__init__" "Ratio.__init__" (defArgs sInit) (defBody sInit) (defScope sInit) (.ref TD) kVIn dcIn pmIn anIn cdIn ctIn) :=
    ⟨⟨ocIn, odIn, .ref TD, kVIn, dcIn, pmIn, anIn, cdIn, ctIn, slIn, rfl, lIn, cIn, .inr ⟨(fun z => nomatch z), TD, _, [Value.int 1 tkD], tnD, rfl, lTD, rfl, .cons ⟨tkD, rfl⟩ .nil⟩, .inl rfl⟩, kIn⟩
  have bIn3 : Binds K (PySem.W.fnOf "__init__" "Ratio.__init__" (defArgs sInit) (defBody sInit) (defScope sInit) (.ref TD) kVIn dcIn pmIn anIn cdIn ctIn) ["self", "top", "bottom"] [] := by
    obtain ⟨ds, v, b⟩ := FIn.binds1 (ps := ["self", "top", "bottom"]) 3 1 (fun z => nomatch z) rfl fun T kV doc pm an cdv ct us its hu hi => match us, its, hu, hi with | [_, _, _], [_], _, _ => ⟨_, rfl, rfl⟩
    cases v
    exact b
  have bIn2 := FIn.binds1 (ps := ["self", "top", "bottom"]) 2 0 (fun z => nomatch z) rfl fun T kV doc pm an cdv ct us its hu hi => match us, its, hu, hi with | [_, _], [_], _, _ => ⟨_, rfl, rfl⟩
  refine ⟨PySem.W.fnOf "law" "law" (defArgs sLaw) (defBody sLaw) (defScope sLaw) .none kVsLaw dcsLaw pmsLaw ansLaw cdsLaw ctsLaw, fun s v => ?_, fun base KB GB => ?_⟩
  rotate_left
  · have O : Core l.prog w K mg base C CN fN := ⟨T, ⟨_, _, ok_isint FsIsInt T, msIsInt, ksIsInt, bsIsInt⟩, ⟨_, _, ok_gcd FsGcd T, msGcd, ksGcd, bsGcd⟩, ⟨_, ok_nr FNR T, bNR⟩⟩
    have O2 : Core2 l.prog w K mg base C CN fN := ⟨O, _, _, ok_init FIn O, ⟨mk, aIn, iIn, kc⟩, bIn3, bIn2⟩
    have O3 : Core3 l.prog w K mg base C CN fN := ⟨O2, ⟨_, _, ok_isop FsIsOp O, msIsOp, ksIsOp, bsIsOp⟩, ⟨_, _, ok_asr FsAsR O2, msAsR, ksAsR, bsAsR⟩⟩
    have D : LawD l.prog w K mg base := ⟨B, _, _, ok_draw FsDraw B, msDraw, ksDraw, bsDraw⟩
    have nf : NotFirstB K C := ⟨sb2, sbn, sbs, sbl, sbt⟩
    have oth : Oth K C := ⟨kin, kis, kil, kit⟩
    have gLt' := ok_lt (P := l.prog) (w := w) (base := base) FsLt O3
    have gLe' := ok_le (P := l.prog) (w := w) (base := base) FsLe O3
    have cLt : CmpOk2 l.prog w K mg base C (cmpInfo .Lt).2.1 CX0 6 (spCmp C gLt) := ⟨⟨_, _, _, asLt, isLt, gLt', bsLt⟩, nf, sb1⟩
    have cLe : CmpOk2 l.prog w K mg base C (cmpInfo .LtE).2.1 CX0 6 (spCmp C gLe) := ⟨⟨_, _, _, asLe, isLe, gLe', bsLe⟩, nf, sb1⟩
    have S : Cmps l.prog w K mg base C CN fN := {
      T := T
      lt := ⟨⟨_, _, _, asLt, isLt, gLt'.mono (by decide), bsLt⟩, nf, sb1⟩
      le := ⟨⟨_, _, _, asLe, isLe, gLe'.mono (by decide), bsLe⟩, nf, sb1⟩
      gt := ⟨⟨_, _, _, asGt, isGt, ok_gt FsGt O3 cLt, bsGt⟩, nf, sb1⟩
      ge := ⟨⟨_, _, _, asGe, isGe, ok_ge FsGe O3 cLe, bsGe⟩, nf, sb1⟩
      eq := ⟨⟨_, _, _, asEq, isEq, ok_eq FsEq T oth ⟨_, _, ok_isint2 FsIsInt T, msIsInt, ksIsInt, bsIsInt⟩, bsEq⟩, nf, sb1⟩
      ne := ⟨oNe, cM⟩
      flag := ⟨_, _, ok_flag FsFlag, msFlag, ksFlag, bsFlag⟩ }
    have far : ∃ f fd, FnOk l.prog w K mg base CX0 2 f fd ["_law_state", "_law_bound"] spFar ∧ mg "_law_far" = some (.ref f) ∧ PySem.W.keepIn K (.ref f) = true ∧ Binds K fd ["_law_state", "_law_bound"] [] := ⟨_, _, ok_far FsFar D T.gRange, msFar, ksFar, bsFar⟩
    exact ok_law FsLaw {
      T := T
      start := ⟨_, _, ok_start FsStart B, msStart, ksStart, bsStart⟩
      draw := D.draw
      num := ⟨_, _, ok_num FsNum T D far, msNum, ksNum, bsNum⟩
      made := ⟨_, _, ok_made FsMade O2, msMade, ksMade, bsMade⟩
      pair := ⟨_, _, ok_pair FsPair S, msPair, ksPair, bsPair⟩
      alone := ⟨_, _, ok_alone FsAlone S ⟨_, _, ⟨asText, isText, ksText⟩, ok_text FsText T (PySem.W.mg_none_of X G zstr), bsText⟩, msAlone, ksAlone, bsAlone⟩ }
  · exact .of_eq rfl
end Pt
open PySem PySem.W PyProof.Rows
set_option maxRecDepth 100000 in
set_option maxHeartbeats 0 in
theorem PySem.Challenge.cw_partstell_k02_ratio_order_holds : PySem.Challenge.rw_partstell_k02_ratio_order.Holds := by
  w_on; o_law; k_head; (case hw => w_witness2)
  k_fill
  refine L2.walk_of (l := PySem.Challenge.rw_partstell_k02_ratio_order) (n := 63) (k := 9) (x := "_law_script") (CX := fun _ => L2.CX0) (sp := fun w => Pt.spLaw _) rfl (by decide) rfl ⟨rfl, by decide, by decide⟩ (fun w h Y => PySem.W.kIn_of Y) ?F (fun _ _ a ns hl _ hS => ⟨a, ns, rfl, hS, hl, fun _ => rfl⟩) (fun _ _ _ _ _ z => z)
  case F =>
    intro w mg fa h KX G hmg
    refine' Pt.all_mk KX G hmg ?aC ?pg ?hd ?po ?sa ?mk ?kc ?nT ?nB ?cA ?cN ?cK ?cM ?sF ?hcd ?hmro ?sb1 ?sb2 ?iCI ?iIC ?iCC ?aN ?xL ?saN ?gaN ?ggN ?nwN ?iiN ?tiN ?kCN ?eCN ?tCN ?hCN ?iCN ?sCN ?lNR ?cNR ?kNR ?aIn ?iIn ?lIn ?cIn ?kIn ?lTD ?asIsInt ?lsIsInt ?csIsInt ?ksIsInt ?asIsOp ?lsIsOp ?csIsOp ?ksIsOp ?asAsR ?lsAsR ?csAsR ?ksAsR ?asGcd ?lsGcd ?csGcd ?ksGcd ?asStart ?lsStart ?csStart ?ksStart ?asDraw ?lsDraw ?csDraw ?ksDraw ?asFar ?lsFar ?csFar ?ksFar ?asNum ?lsNum ?csNum ?ksNum ?asMade ?lsMade ?csMade ?ksMade ?asFlag ?lsFlag ?csFlag ?ksFlag ?asPair ?lsPair ?csPair ?ksPair ?asAlone ?lsAlone ?csAlone ?ksAlone ?asLaw ?lsLaw ?csLaw ?ksLaw ?asEq ?isEq ?lsEq ?csEq ?ksEq ?asLt ?isLt ?lsLt ?csLt ?ksLt ?asLe ?isLe ?lsLe ?csLe ?ksLe ?asGt ?isGt ?lsGt ?csGt ?ksGt ?asGe ?isGe ?lsGe ?csGe ?ksGe ?asText ?isText ?lsText ?csText ?ksText ?oNe ?sbn ?kin ?sbs ?kis ?sbl ?kil ?sbt ?kit ?zstr ?zint ?zbool ?zisinstance ?zabs ?zlen ?zrange
    (case aC => k_is)
    (case pg => k_is)
    (case hd => k_is)
    (case po => k_is)
    (case sa => k_is)
    (case mk => k_is)
    (case kc => k_is)
    (case nT => k_is)
    (case nB => k_is)
    (case cA => k_is)
    (case cN => k_is)
    (case cK => k_is)
    (case cM => k_is)
    (case sF => k_is)
    (case hcd => k_is)
    (case hmro => exact rfl)
    (case sb1 => k_is)
    (case sb2 => k_is)
    (case iCI => kit_is)
    (case iIC => kit_is)
    (case iCC => kit_is)
    (case aN => k_is)
    (case xL => k_is)
    (case saN => k_is)
    (case gaN => k_is)
    (case ggN => k_is)
    (case nwN => k_is)
    (case iiN => k_is)
    (case tiN => k_is)
    (case kCN => k_is)
    (case eCN => k_is)
    (case tCN => k_is)
    (case hCN => k_is)
    (case iCN => k_is)
    (case sCN => first | rfl | k_is)
    (case lNR => k_is)
    (case cNR => k_is)
    (case kNR => k_is)
    (case aIn => k_is)
    (case iIn => k_is)
    (case lIn => k_is)
    (case cIn => k_is)
    (case kIn => k_is)
    (case lTD => k_is)
    (case asIsInt => k_is)
    (case lsIsInt => k_is)
    (case csIsInt => k_is)
    (case ksIsInt => k_is)
    (case asIsOp => k_is)
    (case lsIsOp => k_is)
    (case csIsOp => k_is)
    (case ksIsOp => k_is)
    (case asAsR => k_is)
    (case lsAsR => k_is)
    (case csAsR => k_is)
    (case ksAsR => k_is)
    (case asGcd => k_is)
    (case lsGcd => k_is)
    (case csGcd => k_is)
    (case ksGcd => k_is)
    (case asStart => k_is)
    (case lsStart => k_is)
    (case csStart => k_is)
    (case ksStart => k_is)
    (case asDraw => k_is)
    (case lsDraw => k_is)
    (case csDraw => k_is)
    (case ksDraw => k_is)
    (case asFar => k_is)
    (case lsFar => k_is)
    (case csFar => k_is)
    (case ksFar => k_is)
    (case asNum => k_is)
    (case lsNum => k_is)
    (case csNum => k_is)
    (case ksNum => k_is)
    (case asMade => k_is)
    (case lsMade => k_is)
    (case csMade => k_is)
    (case ksMade => k_is)
    (case asFlag => k_is)
    (case lsFlag => k_is)
    (case csFlag => k_is)
    (case ksFlag => k_is)
    (case asPair => k_is)
    (case lsPair => k_is)
    (case csPair => k_is)
    (case ksPair => k_is)
    (case asAlone => k_is)
    (case lsAlone => k_is)
    (case csAlone => k_is)
    (case ksAlone => k_is)
    (case asLaw => k_is)
    (case lsLaw => k_is)
    (case csLaw => k_is)
    (case ksLaw => k_is)
    (case asEq => k_is)
    (case isEq => k_is)
    (case lsEq => k_is)
    (case csEq => k_is)
    (case ksEq => k_is)
    (case asLt => k_is)
    (case isLt => k_is)
    (case lsLt => k_is)
    (case csLt => k_is)
    (case ksLt => k_is)
    (case asLe => k_is)
    (case isLe => k_is)
    (case lsLe => k_is)
    (case csLe => k_is)
    (case ksLe => k_is)
    (case asGt => k_is)
    (case isGt => k_is)
    (case lsGt => k_is)
    (case csGt => k_is)
    (case ksGt => k_is)
    (case asGe => k_is)
    (case isGe => k_is)
    (case lsGe => k_is)
    (case csGe => k_is)
    (case ksGe => k_is)
    (case asText => k_is)
    (case isText => k_is)
    (case lsText => k_is)
    (case csText => k_is)
    (case ksText => k_is)
    (case oNe => k_is)
    (case sbn => k_is)
    (case kin => kit_is)
    (case sbs => k_is)
    (case kis => kit_is)
    (case sbl => k_is)
    (case kil => kit_is)
    (case sbt => k_is)
    (case kit => kit_is)
    (case zstr => k_is)
    (case zint => k_is)
    (case zbool => k_is)
    (case zisinstance => k_is)
    (case zabs => k_is)
    (case zlen => k_is)
    (case zrange => k_is)
#print axioms PySem.Challenge.cw_partstell_k02_ratio_order_holds

