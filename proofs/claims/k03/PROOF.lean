import PyProof.Rows.All
import Wide.All
import OpenK.AllK
import Wide.FinOn
import HandS.ForMost
import HandS.ForExc
import HandS.Wide
import HandS.IsInst
import HandS.Defaults
import HandS.ExcInit
import HandS.ExcField
import HandS.Flow
import HandS.Style
import HandS.OwnEq
import HandS.RaiseOp
import PyProof.ListMulRoad
import PyProof.FactsAll.int
import PySem.Challenge.RW_partstell_k03_ratio_remainder
set_option Elab.async false
set_option linter.all false
set_option maxRecDepth 100000
set_option maxHeartbeats 4000000
set_option exponentiation.threshold 100000
/-! Operators of an own class, with ints on either side. -/
namespace Pt
open PySem PySem.Spec PyProof.Rows L2
open Builtin
/-- an object that is no int -/
def plainObj (C dx : Addr) : Obj := PySem.W.instObj C dx
section
variable (a : Int) (t : Tok) (l C dx : Addr)
abbrev Decl (B : Builtin) (a : Int) (t : Tok) (l C dx : Addr) : Prop := Meets (B ⟨[.int a t, .ref l], []⟩) (fun _ R s => s.heap.get? l = some (PySem.W.instObj C dx) ∧ R (.ok (.ret Value.notImplemented)) s)
theorem dec_add : Decl Builtin.«int.__add__» a t l C dx := .of_wp fun prog w A R s h => by
  obtain ⟨hp, g, d, tk, os⟩ := s; obtain ⟨hl, h⟩ := h; unfold PySem.W.instObj at hl; wp_walk; exact ⟨_, rfl, h⟩
theorem dec_sub : Decl Builtin.«int.__sub__» a t l C dx := .of_wp fun prog w A R s h => by
  obtain ⟨hp, g, d, tk, os⟩ := s; obtain ⟨hl, h⟩ := h; unfold PySem.W.instObj at hl; wp_walk; exact ⟨_, rfl, h⟩
theorem dec_mul : Decl Builtin.«int.__mul__» a t l C dx := .of_wp fun prog w A R s h => by
  obtain ⟨hp, g, d, tk, os⟩ := s; obtain ⟨hl, h⟩ := h; unfold PySem.W.instObj at hl; wp_walk; exact ⟨_, rfl, h⟩
theorem dec_mod : Decl Builtin.«int.__mod__» a t l C dx := .of_wp fun prog w A R s h => by
  obtain ⟨hp, g, d, tk, os⟩ := s; obtain ⟨hl, h⟩ := h; unfold PySem.W.instObj at hl; wp_walk; exact ⟨_, rfl, h⟩
theorem dec_floordiv : Decl Builtin.«int.__floordiv__» a t l C dx := .of_wp fun prog w A R s h => by
  obtain ⟨hp, g, d, tk, os⟩ := s; obtain ⟨hl, h⟩ := h; unfold PySem.W.instObj at hl; wp_walk; exact ⟨_, rfl, h⟩
theorem dec_lt : Decl Builtin.«int.__lt__» a t l C dx := .of_wp fun prog w A R s h => by
  obtain ⟨hp, g, d, tk, os⟩ := s; obtain ⟨hl, h⟩ := h; unfold PySem.W.instObj at hl; wp_walk; exact ⟨_, rfl, h⟩
theorem dec_le : Decl Builtin.«int.__le__» a t l C dx := .of_wp fun prog w A R s h => by
  obtain ⟨hp, g, d, tk, os⟩ := s; obtain ⟨hl, h⟩ := h; unfold PySem.W.instObj at hl; wp_walk; exact ⟨_, rfl, h⟩
theorem dec_gt : Decl Builtin.«int.__gt__» a t l C dx := .of_wp fun prog w A R s h => by
  obtain ⟨hp, g, d, tk, os⟩ := s; obtain ⟨hl, h⟩ := h; unfold PySem.W.instObj at hl; wp_walk; exact ⟨_, rfl, h⟩
theorem dec_ge : Decl Builtin.«int.__ge__» a t l C dx := .of_wp fun prog w A R s h => by
  obtain ⟨hp, g, d, tk, os⟩ := s; obtain ⟨hl, h⟩ := h; unfold PySem.W.instObj at hl; wp_walk; exact ⟨_, rfl, h⟩
theorem dec_eq : Decl Builtin.«int.__eq__» a t l C dx := .of_wp fun prog w A R s h => by
  obtain ⟨hp, g, d, tk, os⟩ := s; obtain ⟨hl, h⟩ := h; unfold PySem.W.instObj at hl; wp_walk; exact ⟨_, rfl, h⟩
theorem dec_ne : Decl Builtin.«int.__ne__» a t l C dx := .of_wp fun prog w A R s h => by
  obtain ⟨hp, g, d, tk, os⟩ := s; obtain ⟨hl, h⟩ := h; unfold PySem.W.instObj at hl; wp_walk; exact ⟨_, rfl, h⟩
end
end Pt

namespace Pt
open PySem PySem.Spec PyProof.Rows L2
open PySem.W (findIn isFn subIn selfFirst Looks looks_findIn looks_subIn looks_clsIn clsIn InstAt special_fn fills_K)
/-- what an int declines: the place of an operator's method in int -/
structure IntDec (nm : Str) (f : Str) where
  id : String
  B : Builtin
  slot : Slot "int" f id
  entry : entryFor table id = some B
  args : ∀ a b, argsOk id ⟨[a, b], []⟩
  dec : ∀ a t l C dx, Decl B a t l C dx
section
variable {prog : Program} {w : World} {A : Around} {E : Value → Shared → Prop} {s : Shared} {K : PySem.W.Frag} {x C f : Addr} {ox : Obj} {od : Option Obj} {nm : Str}
theorem int_declines {fn : Str} (D : IntDec nm fn) {i : Int} {t : Tok} {dx : Addr} {Q : Value → Shared → Prop} (h : s.heap.get? x = some (PySem.W.instObj C dx)) (q : Q .notImplemented s) :
    wpAny (model prog w) A (call (.builtin D.id) [.int i t, .ref x]) Q E s :=
  call_meets D.slot (typeIs_int s i t) D.entry (D.args _ _) (D.dec i t x C dx) ⟨h, q⟩

/-- what an operator of the class at C is: its own method g, the reflected one f -/
structure OwnBin (K : PySem.W.Frag) (C : Addr) (op : Operator) (g : Addr) (rc : Option Value) : Prop where
  first : selfFirst K C = true
  mro : ∃ cd, clsIn K C = some cd ∧ cd.mro = [.ref C, .type "object"]
  here : findIn K (.ref C) (PySem.dunder op.info.2) = some (some (.ref g))
  fn : isFn K (.ref g) = true
  refl : findIn K (.ref C) (dunderR op.info.2) = some rc
  kind : rc = none ∨ ∃ f : Addr, rc = some (.ref f) ∧ isFn K (.ref f) = true
  noI : findIn K (.ref C) (dunderI op.info.2) = some none
  sub1 : subIn K (.ref C) (.type "int") = some false
  sub2 : subIn K (.type "int") (.ref C) = some false
/-- int, as operand of it -/
structure IntBin (op : Operator) where
  D : IntDec op.info.2 (PySem.dunder op.info.2)
  fills : fillsNumberSlot (.type "int") op.info.2 = pure true
  noI : typeLookup (.type "int") (dunderI op.info.2) = pure none
  ro : Option Value
  refl : typeLookup (.type "int") (dunderR op.info.2) = pure ro
abbrev Gets (Q : Value → Shared → Prop) : Option Value → Shared → Prop := fun r s' => ∃ v, r = some v ∧ Q v s'
theorem bin1_own_own {op : Operator} {rc : Option Value} {b : Value} {Q : Value → Shared → Prop} (X : K.In s.heap) (I : InstAt s.heap x ox C od) (hb : Looks (model prog w) s.heap (typeOf b) (.ref C)) (T : OwnBin K C op g rc)
    (h : wpAny (model prog w) A (call (.ref g) [.ref x, b]) (PySem.W.CmpBack Q) E s) : wpAny (model prog w) A (binaryOp1 op.info.2 (.ref x) b) (Gets Q) E s := by
  obtain ⟨cd, rest, hcd, hm⟩ := PySem.W.ksp_first T.first
  have hs := T.here
  generalize op.info.2 = nm' at hs
  have one := PySem.W.ksp_try X I hs T.fn h
  obtain ⟨hh, g', d, tt, os⟩ := s
  have Ta : Looks (model prog w) hh (typeOf (.ref x)) (.ref C) := I.type
  have Fa : Looks (model prog w) hh (fillsNumberSlot (.ref C) nm') true := fills_K X hcd hm hs
  unfold binaryOp1
  refine wpAny_bind (Ta.at (wpAny_bind (hb.at (wpAny_bind (Fa.at ?_)))))
  simp only [beq_self_eq_true, if_true, pure_bind, Bool.and_false, Bool.false_eq_true, if_false, Bool.false_and]
  refine wpAny_bind (wpAny_mono one (fun r s' hr' => ?_) fun _ _ e => e)
  obtain ⟨v, rfl, hq⟩ := hr'
  exact wpAny_pure ⟨v, rfl, hq⟩
theorem bin1_own_int {op : Operator} {rc : Option Value} {i : Int} {t : Tok} {Q : Value → Shared → Prop} (X : K.In s.heap) (I : InstAt s.heap x ox C od) (T : OwnBin K C op g rc) (Z : IntBin op)
    (h : wpAny (model prog w) A (call (.ref g) [.ref x, .int i t]) (PySem.W.CmpBack Q) E s) : wpAny (model prog w) A (binaryOp1 op.info.2 (.ref x) (.int i t)) (Gets Q) E s := by
  obtain ⟨cd, rest, hcd, hm⟩ := PySem.W.ksp_first T.first
  have hs := T.here
  have hr := T.refl
  have hp : rc = none ∨ ∃ f : Addr, rc = some (.ref f) := T.kind.imp id fun ⟨f, e, _⟩ => ⟨f, e⟩
  have hfi := Z.fills
  have hro := Z.refl
  generalize Z.ro = ro at hro
  generalize op.info.2 = nm' at hs hr hfi hro
  have one := PySem.W.ksp_try X I hs T.fn h
  obtain ⟨hh, g', d, tt, os⟩ := s
  have Ta : Looks (model prog w) hh (typeOf (.ref x)) (.ref C) := I.type
  have Tb : Looks (model prog w) hh (typeOf (.int i t)) (.type "int") := Looks.of_pure rfl
  have Fa : Looks (model prog w) hh (fillsNumberSlot (.ref C) nm') true := fills_K X hcd hm hs
  have Fb : Looks (model prog w) hh (fillsNumberSlot (.type "int") nm') true := Looks.of_pure hfi
  have Sb : Looks (model prog w) hh (isSubtype (.type "int") (.ref C)) false := looks_subIn X T.sub2
  have Pa : Looks (model prog w) hh (numberSlotInPython (.ref C) nm') true := PySem.W.ksp_inPy X hs hr hp
  have Pb : Looks (model prog w) hh (numberSlotInPython (.type "int") nm') false := Looks.of_pure rfl
  have Rb : Looks (model prog w) hh (typeLookup (.type "int") (dunderR nm')) ro := Looks.of_pure hro
  have hne : (Value.ref C == Value.type "int") = false := Bool.eq_false_iff.mpr fun q => by cases beq_iff_eq.mp q
  unfold binaryOp1
  refine wpAny_bind (Ta.at (wpAny_bind (Tb.at (wpAny_bind (Fa.at ?_)))))
  simp only [hne, Bool.false_eq_true, if_false]
  refine wpAny_bind (Fb.at ?_)
  simp only [Bool.and_self, if_true]
  refine wpAny_bind (Sb.at ?_)
  simp only [Bool.false_eq_true, if_false, pure_bind, Bool.not_false, Bool.and_self, if_true]
  refine wpAny_bind (Pa.at ?_)
  simp only [if_true]
  refine wpAny_bind (Pb.at ?_)
  simp only [Bool.not_false, if_true]
  refine wpAny_bind (Rb.at ?_)
  refine wpAny_bind (wpAny_mono one (fun r s' hr' => ?_) fun _ _ e => e)
  obtain ⟨v, rfl, hq⟩ := hr'
  exact wpAny_pure ⟨v, rfl, hq⟩
theorem bin1_int_own {op : Operator} {i : Int} {t : Tok} {dx : Addr} {Q : Value → Shared → Prop} (X : K.In s.heap) (I : InstAt s.heap x (PySem.W.instObj C dx) C od) (T : OwnBin K C op g (some (.ref f))) (hf : isFn K (.ref f) = true) (Z : IntBin op)
    (h : wpAny (model prog w) A (call (.ref f) [.ref x, .int i t]) (PySem.W.CmpBack Q) E s) : wpAny (model prog w) A (binaryOp1 op.info.2 (.int i t) (.ref x)) (Gets Q) E s := by
  obtain ⟨cd, rest, hcd, hm⟩ := PySem.W.ksp_first T.first
  have hs := T.here
  have hr := T.refl
  have hfi := Z.fills
  obtain ⟨id, B, slot, entry, args, dec⟩ := Z.D
  generalize op.info.2 = nm' at hs hr hfi slot
  have one := PySem.W.ksp_try X I hr hf h
  have decl : ∀ {Q' : Option Value → Shared → Prop}, Q' none s → wpAny (model prog w) A (tryMethod (.int i t) (PySem.dunder nm') (.ref x)) Q' E s := fun {Q'} q =>
    wpAny_tryMethod_declines (typeIs_int s i t) slot (call_meets slot (typeIs_int s i t) entry (args _ _) (dec i t x C dx) ⟨I.at_, rfl, q⟩)
  obtain ⟨hh, g', d, tt, os⟩ := s
  have Tx : Looks (model prog w) hh (typeOf (.ref x)) (.ref C) := I.type
  have Ti : Looks (model prog w) hh (typeOf (.int i t)) (.type "int") := Looks.of_pure rfl
  have Fx : Looks (model prog w) hh (fillsNumberSlot (.ref C) nm') true := fills_K X hcd hm hs
  have Fi : Looks (model prog w) hh (fillsNumberSlot (.type "int") nm') true := Looks.of_pure hfi
  have Sx : Looks (model prog w) hh (isSubtype (.ref C) (.type "int")) false := looks_subIn X T.sub1
  have Pi : Looks (model prog w) hh (numberSlotInPython (.type "int") nm') false := Looks.of_pure rfl
  have hne : (Value.type "int" == Value.ref C) = false := Bool.eq_false_iff.mpr fun q => by cases beq_iff_eq.mp q
  unfold binaryOp1
  refine wpAny_bind (Ti.at (wpAny_bind (Tx.at (wpAny_bind (Fi.at ?_)))))
  simp only [hne, Bool.false_eq_true, if_false]
  refine wpAny_bind (Fx.at ?_)
  simp only [Bool.and_self, if_true]
  refine wpAny_bind (Sx.at ?_)
  simp only [Bool.false_eq_true, if_false, pure_bind, Bool.not_false, Bool.and_self, if_true]
  refine wpAny_bind (Pi.at ?_)
  simp only [Bool.false_eq_true, if_false, pure_bind]
  refine wpAny_bind (decl ?_)
  simp only [pure_bind, Bool.false_eq_true, if_false, if_true]
  refine wpAny_bind (wpAny_mono one (fun r s' hr' => ?_) fun _ _ e => e)
  obtain ⟨v, rfl, hq⟩ := hr'
  exact wpAny_bind (wpAny_rule (wpAny_pure ⟨v, rfl, hq⟩))
theorem bin_of1 {op : Operator} {a b : Value} {Q : Value → Shared → Prop} (h : wpAny (model prog w) A (binaryOp1 op.info.2 a b) (Gets Q) E s) : wpAny (model prog w) A (binaryOp op a b) Q E s := by
  rcases hi : op.info with ⟨sym, nm'⟩
  rw [hi] at h
  simp only [binaryOp, hi]
  refine wpAny_holding (wpAny_bind (wpAny_mono h (fun r s' hr' => ?_) fun _ _ e => e))
  obtain ⟨v, rfl, hq⟩ := hr'
  exact wpAny_pure hq
theorem inp_of1 {op : Operator} {a b ta : Value} {Q : Value → Shared → Prop} (Ta : Looks (model prog w) s.heap (typeOf a) ta) (Fi : Looks (model prog w) s.heap (fillsInplaceSlot ta op.info.2 (op == .Add)) false)
    (h : wpAny (model prog w) A (binaryOp1 op.info.2 a b) (Gets Q) E s) : wpAny (model prog w) A (inplaceOp op a b) Q E s := by
  obtain ⟨hh, g', d, tt, os⟩ := s
  unfold inplaceOp
  refine wpAny_holding (wpAny_bind (Ta.at (wpAny_bind (Fi.at ?_))))
  simp only [Bool.false_eq_true, if_false, pure_bind]
  refine wpAny_bind (wpAny_mono h (fun r s' hr' => ?_) fun _ _ e => e)
  obtain ⟨v, rfl, hq⟩ := hr'
  exact wpAny_pure hq
theorem noI_own {M : Model} {h : Heap} {op : Operator} {rc : Option Value} (X : K.In h) (T : OwnBin K C op g rc) (hO : typeLookup (.type "object") (dunderI op.info.2) = pure none) : Looks M h (fillsInplaceSlot (.ref C) op.info.2 (op == .Add)) false := by
  obtain ⟨cd, hcd, hm⟩ := T.mro
  intro A Q E s k q
  have Lm : Looks M h (mroOf (.ref C)) cd.mro := (looks_clsIn X hcd).andThen (f := fun cd => pure cd.mro) .now
  have Lm' := Lm.keeps k
  have L1 : Looks M h (typeLookup (.ref C) (dunderI op.info.2)) none := looks_findIn X T.noI
  have L1' := L1.keeps k
  have L2 : Looks M s.heap (typeLookup (.type "object") (dunderI op.info.2)) none := Looks.of_pure hO
  unfold fillsInplaceSlot
  refine wpAny_bind (Lm'.at ?_)
  rw [hm, List.anyM_cons]
  refine wpAny_bind (wpAny_bind (L1'.at ?_))
  refine wpAny_pure ?_
  simp only [Bool.false_eq_true, if_false]
  rw [List.anyM_cons]
  refine wpAny_bind (wpAny_bind (L2.at ?_))
  refine wpAny_pure ?_
  simp only [Bool.false_eq_true, if_false]
  exact wpAny_pure q
theorem noI_int {M : Model} {h : Heap} {op : Operator} (Z : IntBin op) : Looks M h (fillsInplaceSlot (.type "int") op.info.2 (op == .Add)) false := by
  refine Looks.of_pure ?_
  unfold fillsInplaceSlot
  show (typeLookup (.type "int") (dunderI op.info.2) >>= fun fi => pure (fi.isSome && !isSeqSlot fi)) = pure false
  rw [Z.noI]
  rfl
/-! comparisons -/
theorem cmp_int_own {op : CmpOp} {i : Int} {t : Tok} {dx : Addr} {Q : Value → Shared → Prop} (hu : A.units < cLine) (X : K.In s.heap) (I : InstAt s.heap x (PySem.W.instObj C dx) C od) (D : IntDec (cmpInfo op).2.1 (cmpInfo op).2.1)
    (hs : findIn K (.ref C) (cmpInfo op).2.2 = some (some (.ref f))) (hf : isFn K (.ref f) = true) (hsub : subIn K (.ref C) (.type "int") = some false)
    (h : wpAny (model prog w) A (call (.ref f) [.ref x, .int i t]) (PySem.W.CmpBack Q) E s) : wpAny (model prog w) A (richCompare op (.int i t) (.ref x)) Q E s := by
  have two : wpAny (model prog w) A (tryCompare (.ref x) (cmpInfo op).2.2 (.int i t)) (fun r s' => ∃ v, r = some v ∧ Q v s') E s := by
    unfold tryCompare
    refine wpAny_bind (PySem.W.ifBound_K X I hs hf (wpAny_mono h (fun v s' hv => ?_) fun _ _ e => e))
    cases v <;> first | exact hv.elim | exact wpAny_pure ⟨_, rfl, hv⟩
  have hs1 := D.slot
  have e1 := D.entry
  have a1 := D.args
  have d1 := D.dec
  rcases hi : cmpInfo op with ⟨sym, fa, fb⟩
  have decl : ∀ {Q' : Option Value → Shared → Prop}, Q' none s → wpAny (model prog w) A (tryCompare (.int i t) (cmpInfo op).2.1 (.ref x)) Q' E s := fun {Q'} q =>
    wpAny_tryCompare_declines (typeIs_int s i t) hs1 (call_meets hs1 (typeIs_int s i t) e1 (a1 _ _) (d1 i t x C dx) ⟨I.at_, rfl, q⟩)
  rw [hi] at decl two
  have Sx : Looks (model prog w) s.heap (isSubtype (.ref C) (.type "int")) false := looks_subIn X hsub
  have hne : (Value.type "int" != Value.ref C) = true := by
    show (!(Value.type "int" == Value.ref C)) = true
    rw [show (Value.type "int" == Value.ref C) = false from Bool.eq_false_iff.mpr fun q => by cases beq_iff_eq.mp q]
    rfl
  simp only [richCompare, hi, (typeIs_int s i t).oneThing_none]
  refine wpAny_holding (wpAny_bind (wpAny_cRoomFor hu ?_))
  refine wpAny_bind (wpAny_typeOf (typeIs_int s i t) (wpAny_bind (I.type.here ?_)))
  simp only [hne, if_true]
  refine wpAny_bind (Sx.here ?_)
  simp only [Bool.false_eq_true, if_false, Bool.not_false, if_true]
  refine wpAny_bind (decl ?_)
  refine wpAny_bind (wpAny_mono two (fun r s' z => ?_) fun _ _ e => e)
  obtain ⟨v, rfl, hq⟩ := z
  exact wpAny_pure hq
end
end Pt

namespace Pt
open PySem PySem.Spec PyProof.Rows L2
open PySem.W (findIn isFn subIn selfFirst Looks looks_findIn looks_subIn looks_clsIn clsIn InstAt special_fn fills_K)
/-! ints as operands -/
def intAdd : IntBin .Add := ⟨⟨_, _, F.slot_int_add, F.entry_int_add, F.args_int_add_2, dec_add⟩, F.fills_int_add, F.noI_int_add, _, F.slot_int_radd.lookup⟩
def intSub : IntBin .Sub := ⟨⟨_, _, F.slot_int_sub, F.entry_int_sub, F.args_int_sub_2, dec_sub⟩, F.fills_int_sub, F.noI_int_sub, _, F.slot_int_rsub.lookup⟩
def intMul : IntBin .Mult := ⟨⟨_, _, F.slot_int_mul, F.entry_int_mul, F.args_int_mul_2, dec_mul⟩, F.fills_int_mul, F.noI_int_mul, _, F.slot_int_rmul.lookup⟩
def intMod : IntBin .Mod := ⟨⟨_, _, F.slot_int_mod, F.entry_int_mod, F.args_int_mod_2, dec_mod⟩, F.fills_int_mod, F.noI_int_mod, _, F.slot_int_rmod.lookup⟩
def intFloor : IntBin .FloorDiv := ⟨⟨_, _, F.slot_int_floordiv, F.entry_int_floordiv, F.args_int_floordiv_2, dec_floordiv⟩, F.fills_int_floordiv, F.noI_int_floordiv, _, F.slot_int_rfloordiv.lookup⟩
def icLt : IntDec (cmpInfo .Lt).2.1 (cmpInfo .Lt).2.1 := ⟨_, _, F.slot_int_lt, F.entry_int_lt, F.args_int_lt_2, dec_lt⟩
def icLe : IntDec (cmpInfo .LtE).2.1 (cmpInfo .LtE).2.1 := ⟨_, _, F.slot_int_le, F.entry_int_le, F.args_int_le_2, dec_le⟩
def icGt : IntDec (cmpInfo .Gt).2.1 (cmpInfo .Gt).2.1 := ⟨_, _, F.slot_int_gt, F.entry_int_gt, F.args_int_gt_2, dec_gt⟩
def icGe : IntDec (cmpInfo .GtE).2.1 (cmpInfo .GtE).2.1 := ⟨_, _, F.slot_int_ge, F.entry_int_ge, F.args_int_ge_2, dec_ge⟩
def icEq : IntDec (cmpInfo .Eq).2.1 (cmpInfo .Eq).2.1 := ⟨_, _, F.slot_int_eq, F.entry_int_eq, F.args_int_eq_2, dec_eq⟩
/-! the rules -/
def OwnV (C : Addr) (H : Hp) (x : V) : Prop := ∃ a dx fs, x = V.ref a ∧ H a = some (.ins C dx fs)
structure BinOk (P : Program) (w : World) (K : PySem.W.Frag) (mg : Str → Option Value) (base : Heap) (C : Addr) (op : Operator) (CX : CXT) (k : Nat) (sp spr : Sp) : Prop where
  ex : ∃ (g f : Addr) (fd fdr : FuncData) (ps psr : List Str), OwnBin K C op g (some (.ref f)) ∧ isFn K (.ref f) = true ∧ FnOk P w K mg base CX k g fd ps sp ∧ Binds K fd ps [] ∧ FnOk P w K mg base CX k f fdr psr spr ∧ Binds K fdr psr []
section
variable {X : Cx} {C g f : Addr} {op : Operator} {CX : CXT} {k : Nat} {sp spr : Sp} {pins : List (Addr × Obj)} {σ : L2.St} {H : Hp} {s : Shared} {Q : VK} {E : XK} {x y : V} {u v : Value}
theorem vv1 (rx : RelV x u) : Vals [x] [u] := .cons rx .nil
theorem vv2 (rx : RelV x u) (ry : RelV y v) : Vals [x, y] [u, v] := .cons rx (.cons ry .nil)
theorem back_ep {z : Value} {s' : Shared} (h : EP X pins σ Q z s') : PySem.W.CmpBack (EP X pins σ Q) z s' := by
  cases z with
  | notImplemented =>
    obtain ⟨v, H', _, r, _⟩ := h
    cases v with
    | non => exact nomatch (show Value.notImplemented = Value.none from r)
    | bl b => exact nomatch (show Value.notImplemented = Value.bool b from r)
    | int i => obtain ⟨t, e⟩ := (show ∃ t, Value.notImplemented = Value.int i t from r); cases e
    | str i => obtain ⟨t, e⟩ := (show ∃ t, Value.notImplemented = Value.str i t from r); cases e
    | byt i => obtain ⟨t, e⟩ := (show ∃ t, Value.notImplemented = Value.bytes i t from r); cases e
    | flt i => obtain ⟨t, e⟩ := (show ∃ t, Value.notImplemented = Value.float i t from r); cases e
    | ref a => exact nomatch (show Value.notImplemented = Value.ref a from r)
    | ty n => exact nomatch (show Value.notImplemented = Value.type n from r)
  | _ => exact h
theorem run_back {fd : FuncData} {ps : List Str} {us : List Value} {vs : List V} (F : FnOk X.prog X.w X.K X.mg X.base CX k f fd ps sp) (hr : Room k X.A) (hb : Binds X.K fd ps []) (hx : PassesAt CX X σ E)
    (I : Inv X pins σ H s) (r : Vals vs us) (h : sp vs H Q E) : wpAny (model X.prog X.w) X.A (call (.ref f) us) (PySem.W.CmpBack (EP X pins σ Q)) X.xe s :=
  wpAny_mono (run_fnS (E := fun _ => E) F hr hb hx I r h) (fun _ _ z => back_ep z) fun _ _ z => z
theorem own_inst (I : Inv X pins σ H s) {a dx : Addr} {fs : List (Str × V)} (e : H a = some (.ins C dx fs)) : ∃ od, InstAt s.heap a (PySem.W.instObj C dx) C (some od) := by
  obtain ⟨mA, J, _⟩ := ins_get I.hok e
  obtain ⟨od, J, _⟩ := J.look
  exact ⟨od, J⟩
theorem run_bin1 (B : BinOk X.prog X.w X.K X.mg X.base C op CX k sp spr) (Z : IntBin op) (hr : Room k X.A) (hx : PassesAt CX X σ E) (I : Inv X pins σ H s) (rx : RelV x u) (ry : RelV y v)
    (h : (OwnV C H x ∧ (OwnV C H y ∨ ∃ j, y = .int j) ∧ sp [x, y] H Q E) ∨ ((∃ i, x = .int i) ∧ OwnV C H y ∧ spr [y, x] H Q E)) :
    wpAny (model X.prog X.w) X.A (binaryOp1 op.info.2 u v) (Gets (EP X pins σ Q)) X.xe s := by
  obtain ⟨g, f, fd, fdr, ps, psr, T, hf, Fg, bg, Ff, bf⟩ := B.ex
  rcases h with ⟨⟨a, dx, fs, rfl, ha⟩, hy, h⟩ | ⟨⟨i, rfl⟩, ⟨b, dy, gs, rfl, hb⟩, h⟩
  · obtain rfl : u = Value.ref a := rx
    obtain ⟨od, J⟩ := own_inst I ha
    rcases hy with ⟨b, dy, gs, rfl, hb⟩ | ⟨j, rfl⟩
    · obtain rfl : v = Value.ref b := ry
      obtain ⟨od', J'⟩ := own_inst I hb
      exact bin1_own_own I.kIn J J'.type T (run_back Fg hr bg hx I (vv2 (x := V.ref a) (y := V.ref b) rfl rfl) h)
    · obtain ⟨t, rfl⟩ : ∃ t, v = Value.int j t := ry
      exact bin1_own_int I.kIn J T Z (run_back Fg hr bg hx I (vv2 (x := V.ref a) (y := V.int j) rfl ⟨t, rfl⟩) h)
  · obtain rfl : v = Value.ref b := ry
    obtain ⟨t, rfl⟩ : ∃ t, u = Value.int i t := rx
    obtain ⟨od, J⟩ := own_inst I hb
    exact bin1_int_own I.kIn J T hf Z (run_back Ff hr bf hx I (vv2 (x := V.ref b) (y := V.int i) rfl ⟨t, rfl⟩) h)
def rBin (r : R2) (C : Addr) (sp spr : Sp) (E : XK) : R2 := fun x y H Q =>
  r x y H Q ∨ (OwnV C H x ∧ (OwnV C H y ∨ ∃ j, y = .int j) ∧ sp [x, y] H Q E) ∨ ((∃ i, x = .int i) ∧ OwnV C H y ∧ spr [y, x] H Q E)
def tBin (r : R2) (C : Addr) (sp spr : Sp) (E : L2.St → XK) (ta tb : TE) : TE := fun σ H Q => ta σ H fun x H1 => tb σ H1 fun y H2 => rBin r C sp spr (E σ) x y H2 Q
def rNo : R2 := fun _ _ _ _ => False
theorem op_no {fn : Value → Value → Sem Value} : OpR X fn rNo := fun _ _ _ _ _ _ _ _ _ _ _ _ h => h.elim
section
variable {r : R2} {a b : Expr} {ta tb : TE} {pos : Pos}
theorem pe_bin {E : L2.St → XK} (ho : OpR X (binaryOp op) r) (B : BinOk X.prog X.w X.K X.mg X.base C op CX k sp spr) (Z : IntBin op) (hr : Room k X.A) (hx : ∀ σ, PassesAt CX X σ (E σ)) (ha : PE X a ta) (hb : PE X b tb) : PE X (.BinOp a op b pos) (tBin r C sp spr E ta tb) := by
  refine ⟨fun pins s σ H Q I h => ?_⟩
  refine wpAny_BinOp (binT ha hb (R := fun x y H2 => rBin r C sp spr (E σ) x y H2 Q) I h fun v u s2 x y H2 I2 rx ry q => ?_)
  rcases q with q | q
  · exact ho pins s2 σ H2 x y v u Q I2 rx ry q
  · exact bin_of1 (run_bin1 B Z hr (hx σ) I2 rx ry q)
theorem objI (op : Operator) (h : typeLookup (.type "object") (dunderI op.info.2) = pure none) : typeLookup (.type "object") (dunderI op.info.2) = pure none := h
theorem ip_bin (hi : PIp X op r) (B : BinOk X.prog X.w X.K X.mg X.base C op CX k sp spr) (Z : IntBin op) (hO : typeLookup (.type "object") (dunderI op.info.2) = pure none) (hr : Room k X.A) (hx : ∀ σ, PassesAt CX X σ E) : PIp X op (rBin r C sp spr E) := by
  intro pins s σ H x y v u Q I rx ry q
  rcases q with q | q
  · exact hi pins s σ H x y v u Q I rx ry q
  · have go := run_bin1 B Z hr (hx σ) I rx ry q
    obtain ⟨g, f, fd, fdr, ps, psr, T, _⟩ := B.ex
    rcases q with ⟨⟨a, dx, fs, rfl, ha⟩, _⟩ | ⟨⟨i, rfl⟩, _⟩
    · obtain rfl : v = Value.ref a := rx
      obtain ⟨od, J⟩ := own_inst I ha
      exact inp_of1 J.type (noI_own I.kIn T hO) go
    · obtain ⟨t, rfl⟩ : ∃ t, v = Value.int i t := rx
      exact inp_of1 (Looks.of_pure rfl) (noI_int Z) go
theorem ip_no : PIp X op (fun _ _ _ _ => False) := fun _ _ _ _ _ _ _ _ _ _ _ _ h => h.elim
/-- -x, +x, ~x of the class -/
structure UnOk (P : Program) (w : World) (K : PySem.W.Frag) (mg : Str → Option Value) (base : Heap) (C : Addr) (nm : Str) (CX : CXT) (k : Nat) (sp : Sp) : Prop where
  ex : ∃ (g : Addr) (fd : FuncData) (ps : List Str), findIn K (.ref C) nm = some (some (.ref g)) ∧ isFn K (.ref g) = true ∧ FnOk P w K mg base CX k g fd ps sp ∧ Binds K fd ps []
def rUnO (C : Addr) (sp : Sp) (E : XK) : V → Hp → VK → Prop := fun x H Q => OwnV C H x ∧ sp [x] H Q E
theorem un_neg_own (B : UnOk X.prog X.w X.K X.mg X.base C "__neg__" CX k sp) (hr : Room k X.A) (hx : ∀ σ, PassesAt CX X σ E) : UnR X (unaryOp .USub) (rUnO C sp E) := by
  intro pins s σ H x v Q I rx ⟨⟨a, dx, fs, e, ha⟩, h⟩
  subst e
  obtain rfl : v = Value.ref a := rx
  obtain ⟨g, fd, ps, hs, hf, F, b⟩ := B.ex
  obtain ⟨od, J⟩ := own_inst I ha
  obtain ⟨m, hF⟩ := I.fr
  exact PySem.W.ksp_neg hF I.ok.mod.kin J hs hf (run_fnS (E := fun _ => E) F hr b (hx σ) I (vv1 (x := V.ref a) rfl) h)
theorem un_pos_own (B : UnOk X.prog X.w X.K X.mg X.base C "__pos__" CX k sp) (hr : Room k X.A) (hx : ∀ σ, PassesAt CX X σ E) : UnR X (unaryOp .UAdd) (rUnO C sp E) := by
  intro pins s σ H x v Q I rx ⟨⟨a, dx, fs, e, ha⟩, h⟩
  subst e
  obtain rfl : v = Value.ref a := rx
  obtain ⟨g, fd, ps, hs, hf, F, b⟩ := B.ex
  obtain ⟨od, J⟩ := own_inst I ha
  obtain ⟨m, hF⟩ := I.fr
  exact PySem.W.ksp_pos hF I.ok.mod.kin J hs hf (run_fnS (E := fun _ => E) F hr b (hx σ) I (vv1 (x := V.ref a) rfl) h)
/-- abs(x) of the class -/
theorem run_in1 {fd : FuncData} {ps : List Str} {us : List Value} {vs : List V} (F : FnOk X.prog X.w X.K X.mg X.base CX k f fd ps sp) (hr : Room (k + 1) X.A) (hb : Binds X.K fd ps []) (hx : PassesAt CX X σ E)
    (I : Inv X pins σ H s) (r : Vals vs us) (h : sp vs H Q E) : wpAny (model X.prog X.w) X.A.in1 (call (.ref f) us) (EP X pins σ Q) X.xe s := by
  have hl : us.length = ps.length := by rw [← r.length]; exact F.len _ _ _ _ h
  have b := hb s us I.kIn (by rw [List.append_nil]; exact hl)
  rw [List.append_nil] at b
  refine wpAny_call (codeAny_mono (F.run X.A.in1 X.stack s H ⟨us, []⟩ us vs Q E hr.in1 I.env0.in1 b r h) fun z s' hq => ?_)
  match z, hq with
  | .error e, hq => exact hx pins H s e s' I hq
  | .ok (.ret u), hq => exact I.after hq
  | .ok .next, hq => exact hq.elim
  | .ok .brk, hq => exact hq.elim
  | .ok .cont, hq => exact hq.elim
theorem call_abs_own (B : UnOk X.prog X.w X.K X.mg X.base C "__abs__" CX k sp) (hr : Room (k + 1) X.A) (hx : ∀ σ, PassesAt CX X σ E) :
    CallR X (.builtin "abs") (fun xs H Q => (∃ i, xs = [.int i] ∧ Q (.int (if i < 0 then -i else i)) H) ∨ ∃ x, xs = [x] ∧ OwnV C H x ∧ sp [x] H Q E) := by
  intro pins s σ H xs us Q I r h
  rcases h with h | ⟨x, e, ⟨a, dx, fs, ex, ha⟩, h⟩
  · exact call_abs pins s σ H xs us Q I r h
  subst e ex
  obtain ⟨u, rfl, ru⟩ := vals1 r
  obtain rfl : u = Value.ref a := ru
  obtain ⟨g, fd, ps, hs, hf, F, b⟩ := B.ex
  obtain ⟨od, J⟩ := own_inst I ha
  refine Calls.call_function_entry PyProof.Rows.kind_abs PyProof.Rows.plain_abs PyProof.Rows.entry_abs (PyProof.Rows.args_abs _) ?_
  unfold Builtin.«abs»
  refine wpAny_bind (m := oneArg "abs" _) (wpAny_pure ?_)
  refine wpAny_bind (m := callSpecial? (.ref a) (Str.ofString "__abs__")) (special_fn I.kIn J hs (beq_iff_eq.mp hf) (wpAny_mono (run_in1 F hr b (hx σ) I (vv1 (x := V.ref a) rfl) h) (fun v s' hv => ?_) fun _ _ e => e))
  exact wpAny_pure ⟨_, rfl, hv⟩
end
end
end Pt

namespace Pt
open PySem PySem.Spec PyProof.Rows L2
open PySem.W (findIn isFn subIn Looks InstAt)
structure CmpOk (P : Program) (w : World) (K : PySem.W.Frag) (mg : Str → Option Value) (base : Heap) (C : Addr) (op : CmpOp) (CX : CXT) (k : Nat) (sp : Sp) : Prop where
  ex : ∃ (g : Addr) (fd : FuncData) (ps : List Str), findIn K (.ref C) (cmpInfo op).2.1 = some (some (.ref g)) ∧ isFn K (.ref g) = true ∧ FnOk P w K mg base CX k g fd ps sp ∧ Binds K fd ps []
  sub : subIn K (.type "int") (.ref C) = some false
def rCmpO (C : Addr) (sp : Sp) (E : XK) : R2 := fun x y H Q => OwnV C H x ∧ (OwnV C H y ∨ ∃ j, y = .int j) ∧ sp [x, y] H Q E
section
variable {X : Cx} {C g f : Addr} {op : CmpOp} {CX : CXT} {k : Nat} {sp spr : Sp} {E : XK}
theorem op_cmp_own (hop : ∀ a b, compareOp op a b = richCompare op a b) (B : CmpOk X.prog X.w X.K X.mg X.base C op CX k sp) (hr : Room k X.A) (hx : ∀ σ, PassesAt CX X σ E) : OpR X (compareOp op) (rCmpO C sp E) := by
  intro pins s σ H x y v u Q I rx ry q
  obtain ⟨⟨a, dx, fs, ex, ha⟩, hy, h⟩ := q
  subst ex
  obtain rfl : v = Value.ref a := rx
  obtain ⟨g, fd, ps, hs, hf, F, b⟩ := B.ex
  obtain ⟨od, J⟩ := own_inst I ha
  obtain ⟨m, hF⟩ := I.fr
  rw [hop]
  rcases hy with ⟨c, dy, gs, ey, hc⟩ | ⟨j, ey⟩
  · subst ey
    obtain rfl : u = Value.ref c := ry
    obtain ⟨od', J'⟩ := own_inst I hc
    exact PySem.W.cmp_K (tb := .ref C) hr.units0 hF I.ok.mod.kin J J'.type (by simp [PySem.W.notFirst]) hs hf (run_back F hr b (hx σ) I (vv2 (x := V.ref a) (y := V.ref c) rfl rfl) h)
  · subst ey
    obtain ⟨t, rfl⟩ : ∃ t, u = Value.int j t := ry
    exact PySem.W.cmp_K (tb := .type "int") hr.units0 hF I.ok.mod.kin J (Looks.of_pure rfl) (by unfold PySem.W.notFirst; rw [B.sub]; rfl) hs hf (run_back F hr b (hx σ) I (vv2 (x := V.ref a) (y := V.int j) rfl ⟨t, rfl⟩) h)
end
end Pt

/-! The mathematics of fractions. -/
namespace Pt
def rg (n d : Int) : Int := if d < 0 then -(Int.gcd n d : Int) else (Int.gcd n d : Int)
def rt (n d : Int) : Int := n.fdiv (rg n d)
def rb (n d : Int) : Int := d.fdiv (rg n d)
theorem gcd_turn (a b : Int) : Int.gcd b (a.fmod b) = Int.gcd a b := by
  rw [Int.fmod_def, Int.gcd_comm a b, Int.sub_eq_add_neg, ← Int.mul_neg]
  exact Int.gcd_add_mul_left_right b a (-(a.fdiv b)) |> fun h => by simpa using h
theorem fmod_less (a b : Int) (h : b ≠ 0) : (a.fmod b).natAbs < b.natAbs := by
  rcases Int.lt_or_gt_of_ne h with h | h
  · have e : (-a).fmod (-b) = -a.fmod b := Int.neg_fmod_neg a b
    have h1 := Int.fmod_nonneg_of_pos (-a) (b := -b) (by omega)
    have h2 := Int.fmod_lt_of_pos (-a) (b := -b) (by omega)
    omega
  · have h1 := Int.fmod_nonneg_of_pos a h
    have h2 := Int.fmod_lt_of_pos a h
    omega
theorem gcd_pos {n d : Int} (h : d ≠ 0) : 0 < (Int.gcd n d : Int) := by
  have : 0 < Int.gcd n d := Int.gcd_pos_of_ne_zero_right n h
  omega
/-- d = g * e, n = g * m, with the sign taken out -/
theorem r_form {n d : Int} (h : d ≠ 0) : ∃ m e : Int, rg n d ≠ 0 ∧ n = rg n d * m ∧ d = rg n d * e ∧ 1 ≤ e ∧ rt n d = m ∧ rb n d = e ∧ Int.gcd m e = 1 := by
  have hg := gcd_pos (n := n) h
  obtain ⟨m, hm⟩ : (Int.gcd n d : Int) ∣ n := Int.gcd_dvd_left n d
  obtain ⟨e, he⟩ : (Int.gcd n d : Int) ∣ d := Int.gcd_dvd_right n d
  have hc : Int.gcd m e = 1 := by
    have h2 : 0 < Int.gcd n d := by omega
    generalize hG : Int.gcd n d = G at hm he h2
    rw [hm, he, Int.gcd_mul_left, Int.natAbs_natCast] at hG
    exact Nat.eq_of_mul_eq_mul_left h2 (by omega)
  unfold rt rb
  by_cases hd : d < 0
  · have hr : rg n d = -(Int.gcd n d : Int) := by unfold rg; rw [if_pos hd]
    have hn1 : n = rg n d * (-m) := by rw [hr, Int.neg_mul_neg]; exact hm
    have hd1 : d = rg n d * (-e) := by rw [hr, Int.neg_mul_neg]; exact he
    have hr0 : rg n d ≠ 0 := by rw [hr]; omega
    have he0 : 1 ≤ -e := by
      by_cases q : e < 0
      · omega
      · have := Int.mul_nonneg (Int.le_of_lt hg) (show 0 ≤ e by omega)
        omega
    refine ⟨-m, -e, hr0, hn1, hd1, he0, ?_, ?_, ?_⟩
    · conv => lhs; lhs; rw [hn1]
      exact Int.mul_fdiv_cancel_left _ hr0
    · conv => lhs; lhs; rw [hd1]
      exact Int.mul_fdiv_cancel_left _ hr0
    · rw [Int.neg_gcd, Int.gcd_neg]
      exact hc
  · have hr : rg n d = (Int.gcd n d : Int) := by unfold rg; rw [if_neg hd]
    have hr0 : rg n d ≠ 0 := by rw [hr]; omega
    have he0 : 1 ≤ e := by
      by_cases q : 0 < e
      · omega
      · have := Int.mul_nonneg (Int.le_of_lt hg) (show 0 ≤ -e by omega)
        rw [Int.mul_neg] at this
        omega
    have hn1 : n = rg n d * m := by rw [hr]; exact hm
    have hd1 : d = rg n d * e := by rw [hr]; exact he
    refine ⟨m, e, hr0, hn1, hd1, he0, ?_, ?_, hc⟩
    · conv => lhs; lhs; rw [hn1]
      exact Int.mul_fdiv_cancel_left _ hr0
    · conv => lhs; lhs; rw [hd1]
      exact Int.mul_fdiv_cancel_left _ hr0
theorem rb_pos {n d : Int} (h : d ≠ 0) : 1 ≤ rb n d := by
  obtain ⟨m, e, _, _, _, he, _, hb, _⟩ := r_form (n := n) h
  omega
theorem r_gcd {n d : Int} (h : d ≠ 0) : Int.gcd (rt n d) (rb n d) = 1 := by
  obtain ⟨m, e, _, _, _, he, ht, hb, hc⟩ := r_form (n := n) h
  rw [ht, hb]
  exact hc
theorem r_cross {n d : Int} (h : d ≠ 0) : rt n d * d = n * rb n d := by
  obtain ⟨m, e, _, hn, hd, he, ht, hb, hc⟩ := r_form (n := n) h
  rw [ht, hb]
  generalize rg n d = g at hn hd
  grind
theorem natAbs_le_mul {g m : Int} (h : g ≠ 0) : m.natAbs ≤ (g * m).natAbs := by
  rw [Int.natAbs_mul]
  have : 0 < g.natAbs := by omega
  exact Nat.le_mul_of_pos_left _ this
theorem rt_le {n d : Int} (h : d ≠ 0) : (rt n d).natAbs ≤ n.natAbs := by
  obtain ⟨m, e, hg, hn, hd, he, ht, hb, hc⟩ := r_form (n := n) h
  rw [ht]
  conv => rhs; rw [hn]
  exact natAbs_le_mul hg
theorem rb_le {n d : Int} (h : d ≠ 0) : (rb n d).natAbs ≤ d.natAbs := by
  obtain ⟨m, e, hg, hn, hd, he, ht, hb, hc⟩ := r_form (n := n) h
  rw [hb]
  conv => rhs; rw [hd]
  exact natAbs_le_mul hg
theorem rg_le {n d : Int} (h : d ≠ 0) : (rg n d).natAbs ≤ d.natAbs := by
  obtain ⟨m, e, hg, hn, hd, he, ht, hb, hc⟩ := r_form (n := n) h
  conv => rhs; rw [hd]
  rw [Int.natAbs_mul]
  exact Nat.le_mul_of_pos_right _ (by omega)
theorem cancel {a b k : Int} (hk : k ≠ 0) (h : a * k = b * k) : a = b := Int.eq_of_mul_eq_mul_right hk h
/-- the value t / b is A / B -/
structure IsV (t b A B : Int) : Prop where
  b1 : 1 ≤ b
  gc : Int.gcd t b = 1
  B0 : B ≠ 0
  eq : t * B = A * b
theorem isV_new {n d : Int} (h : d ≠ 0) : IsV (rt n d) (rb n d) n d := ⟨rb_pos h, r_gcd h, h, r_cross h⟩
/-- another writing of the same value -/
theorem IsV.to {t b A B A' B' : Int} (v : IsV t b A B) (h0 : B' ≠ 0) (h : A * B' = A' * B) : IsV t b A' B' :=
  ⟨v.b1, v.gc, h0, cancel v.B0 (by have := v.eq; grind)⟩
theorem IsV.int (i : Int) : IsV i 1 i 1 := ⟨by omega, by simp, by omega, rfl⟩
section
variable {t b A B t' b' A' B' : Int}
theorem IsV.ne (v : IsV t b A B) : b ≠ 0 := by have := v.b1; omega
theorem mul_ne {x y : Int} (hx : x ≠ 0) (hy : y ≠ 0) : x * y ≠ 0 := Int.mul_ne_zero hx hy
theorem add_ok (v : IsV t b A B) (w : IsV t' b' A' B') : IsV (rt (t * b' + t' * b) (b * b')) (rb (t * b' + t' * b) (b * b')) (A * B' + A' * B) (B * B') :=
  (isV_new (mul_ne v.ne w.ne)).to (mul_ne v.B0 w.B0) (by have := v.eq; have := w.eq; grind)
theorem sub_ok (v : IsV t b A B) (w : IsV t' b' A' B') : IsV (rt (t * b' - t' * b) (b * b')) (rb (t * b' - t' * b) (b * b')) (A * B' - A' * B) (B * B') :=
  (isV_new (mul_ne v.ne w.ne)).to (mul_ne v.B0 w.B0) (by have := v.eq; have := w.eq; grind)
theorem mul_ok (v : IsV t b A B) (w : IsV t' b' A' B') : IsV (rt (t * t') (b * b')) (rb (t * t') (b * b')) (A * A') (B * B') :=
  (isV_new (mul_ne v.ne w.ne)).to (mul_ne v.B0 w.B0) (by have := v.eq; have := w.eq; grind)
theorem top_zero (w : IsV t b A B) : t = 0 ↔ A = 0 := by
  have e := w.eq
  constructor
  · intro h
    subst h
    rw [Int.zero_mul] at e
    rcases Int.mul_eq_zero.mp e.symm with h | h
    · exact h
    · exact absurd h w.ne
  · intro h
    subst h
    rw [Int.zero_mul] at e
    rcases Int.mul_eq_zero.mp e with h | h
    · exact h
    · exact absurd h w.B0
theorem over_ok (v : IsV t b A B) (w : IsV t' b' A' B') (h : A' ≠ 0) : IsV (rt (t * b') (b * t')) (rb (t * b') (b * t')) (A * B') (B * A') := by
  have h' : t' ≠ 0 := fun z => h ((top_zero w).mp z)
  exact (isV_new (mul_ne v.ne h')).to (mul_ne v.B0 h) (by have := v.eq; have := w.eq; grind)
theorem neg_ok (v : IsV t b A B) : IsV (rt (-t) b) (rb (-t) b) (-A) B :=
  (isV_new v.ne).to v.B0 (by have := v.eq; grind)
theorem pos_ok (v : IsV t b A B) : IsV (rt t b) (rb t b) A B := (isV_new v.ne).to v.B0 v.eq
theorem fdiv_scale {a b k : Int} (hk : k ≠ 0) : (k * a).fdiv (k * b) = a.fdiv b := by
  by_cases q : 0 < k
  · exact Int.mul_fdiv_mul_of_pos _ _ q
  · have e : (-(-k * a)).fdiv (-(-k * b)) = (-k * a).fdiv (-k * b) := Int.neg_fdiv_neg _ _
    rw [Int.neg_mul, Int.neg_mul, Int.neg_neg, Int.neg_neg] at e
    rw [e, ← Int.neg_mul, ← Int.neg_mul]
    exact Int.mul_fdiv_mul_of_pos _ _ (by omega)
theorem floor_same {p q P Q : Int} (hq : q ≠ 0) (hQ : Q ≠ 0) (h : p * Q = P * q) : p.fdiv q = P.fdiv Q := by
  have h1 : (p * Q).fdiv (q * Q) = p.fdiv q := by rw [Int.mul_comm p, Int.mul_comm q]; exact fdiv_scale hQ
  have h2 : (P * q).fdiv (Q * q) = P.fdiv Q := by rw [Int.mul_comm P, Int.mul_comm Q]; exact fdiv_scale hq
  rw [← h1, ← h2, h, Int.mul_comm q Q]
theorem floor_ok (v : IsV t b A B) (w : IsV t' b' A' B') (h : A' ≠ 0) : (t * b').fdiv (b * t') = (A * B').fdiv (B * A') := by
  have h' : t' ≠ 0 := fun z => h ((top_zero w).mp z)
  exact floor_same (mul_ne v.ne h') (mul_ne v.B0 h) (by have := v.eq; have := w.eq; grind)
end
end Pt

namespace Pt
theorem isV_unique {t b T B A D : Int} (v : IsV t b A D) (w : IsV T B A D) : t = T ∧ b = B := by
  have hb := v.b1
  have hB := w.b1
  have e : t * B = T * b := cancel v.B0 (by have := v.eq; have := w.eq; grind)
  have n1 : Nat.Coprime t.natAbs b.natAbs := v.gc
  have n2 : Nat.Coprime T.natAbs B.natAbs := w.gc
  have en : t.natAbs * B.natAbs = T.natAbs * b.natAbs := by rw [← Int.natAbs_mul, ← Int.natAbs_mul, e]
  have d1 : b.natAbs ∣ B.natAbs := n1.symm.dvd_of_dvd_mul_left (by rw [en]; exact Nat.dvd_mul_left _ _)
  have d2 : B.natAbs ∣ b.natAbs := n2.symm.dvd_of_dvd_mul_left (by rw [← en]; exact Nat.dvd_mul_left _ _)
  have h := Nat.dvd_antisymm d1 d2
  have hbB : b = B := by omega
  refine ⟨?_, hbB⟩
  subst hbB
  exact cancel v.ne e
theorem fdiv_le (n d : Int) : (n.fdiv d).natAbs ≤ n.natAbs := Int.natAbs_fdiv_le_natAbs n d
end Pt

namespace Pt
open PySem PySem.Spec L2
open PySem.W (findIn isFn kitOne)
/-! ### the text by places -/
def topS (i : Nat) : Stmt := PySem.Challenge.pw_partstell_k03_ratio_remainder.main.body.getD (i + 1) (.Pass ⟨0, 0, 0, 0⟩)
abbrev sNRi : Stmt := inClass (topS 2) 0
abbrev sIsInt : Stmt := topS 5
abbrev sInit : Stmt := inClass (topS 9) 0
abbrev sAdd : Stmt := inClass (topS 9) 1
abbrev sRadd : Stmt := inClass (topS 9) 2
abbrev sSub : Stmt := inClass (topS 9) 3
abbrev sRsub : Stmt := inClass (topS 9) 4
abbrev sMul : Stmt := inClass (topS 9) 5
abbrev sRmul : Stmt := inClass (topS 9) 6
abbrev sFloor : Stmt := inClass (topS 9) 7
abbrev sRfloor : Stmt := inClass (topS 9) 8
abbrev sMod : Stmt := inClass (topS 9) 9
abbrev sRmod : Stmt := inClass (topS 9) 10
abbrev sNeg : Stmt := inClass (topS 9) 11
abbrev sPos : Stmt := inClass (topS 9) 12
abbrev sAbs : Stmt := inClass (topS 9) 13
abbrev sEq : Stmt := inClass (topS 9) 15
abbrev sOver : Stmt := inClass (topS 9) 20
abbrev sIsOp : Stmt := topS 10
abbrev sAsR : Stmt := topS 11
abbrev sGcd : Stmt := topS 12
/-! ### fractions in the heap -/
theorem kTB : ¬ (("top" : Str) = "bottom") := by decide +kernel
def rflds (t b : Int) : List (Str × V) := putF "bottom" (.int b) (putF "top" (.int t) [])
theorem rflds_top (t b : Int) : (rflds t b).lookup ("top" : Str) = some (.int t) := by
  unfold rflds
  rw [lookup_putF, if_neg kTB, lookup_putF, if_pos rfl]
theorem rflds_bot (t b : Int) : (rflds t b).lookup ("bottom" : Str) = some (.int b) := by
  unfold rflds
  rw [lookup_putF, if_pos rfl]
theorem rflds_no (t b : Int) {m : Str} (h1 : ¬ m = "bottom") (h2 : ¬ m = "top") : (rflds t b).lookup m = none := by
  unfold rflds
  rw [lookup_putF, if_neg h1, lookup_putF, if_neg h2]
  all_goals rfl
def RatAt (C : Addr) (H : Hp) (p : Addr) (t b : Int) : Prop := ∃ dx, H p = some (.ins C dx (rflds t b))
theorem RatAt.own {C p : Addr} {H : Hp} {t b : Int} (h : RatAt C H p t b) : OwnV C H (.ref p) := let ⟨dx, e⟩ := h; ⟨p, dx, _, rfl, e⟩
theorem RatAt.same {C p : Addr} {H H' : Hp} {t b : Int} (h : RatAt C H p t b) (s : Same H H') : RatAt C H' p t b := let ⟨dx, e⟩ := h; ⟨dx, s _ _ e⟩
/-- a Ratio or an int, of value t / b -/
def Opd (C : Addr) (H : Hp) (x : V) (t b : Int) : Prop := (∃ p, x = .ref p ∧ RatAt C H p t b) ∨ (x = .int t ∧ b = 1)
theorem Opd.same {C : Addr} {H H' : Hp} {x : V} {t b : Int} (h : Opd C H x t b) (s : Same H H') : Opd C H' x t b := h.imp (fun ⟨p, e, r⟩ => ⟨p, e, r.same s⟩) id
/-- what the walk asks of the text -/
structure Txt (K : PySem.W.Frag) (mg : Str → Option Value) (C CN fI : Addr) : Prop where
  cl : Cls K C
  nT : NoAttr K C "top"
  nB : NoAttr K C "bottom"
  mgC : mg "Ratio" = some (.ref C)
  cA : findIn K (.ref C) "__class__" = some (some (.builtin "object.__class__"))
  cN : PySem.W.specialIn K (.builtin "object.__class__") "__get__" = some (some (.builtin "getset_descriptor.__get__"))
  cK : PySem.W.takesIn K (.builtin "object.__class__") = some true
  cM : PySem.W.mroIn K C (.type "object") = some true
  iCI : kitOne K (.ref C) (.type "int") = some false
  iIC : kitOne K (.type "int") (.ref C) = some false
  iCC : kitOne K (.ref C) (.ref C) = some true
  oex : OexC K CN
  xf : XfC K CN
  nW : findIn K (.ref CN) "word" = some none
  iN : findIn K (.ref CN) "__init__" = some (some (.ref fI))
  tN : PySem.W.typeIn K (.ref fI) = some (.type "function")
  mgN : mg "NoRatio" = some (.ref CN)
  eN : PySem.W.exmOne K (.ref CN) (.ref CN) = some true
  gIsi : mg "isinstance" = none
  gInt : mg "int" = none
  gBool : mg "bool" = none
  gAbs : mg "abs" = none
  gLen : mg "len" = none
  gRange : mg "range" = none
/-! ### promises -/
def spIsInt (C : Addr) : Sp := fun vs H Q _ => ∃ x, vs = [x] ∧ ((∃ i, x = .int i) ∧ Q (.bl true) H ∨ OwnV C H x ∧ Q (.bl false) H)
def spIsOp (C : Addr) : Sp := fun vs H Q _ => ∃ x, vs = [x] ∧ ((∃ i, x = .int i) ∨ OwnV C H x) ∧ Q (.bl true) H
def spGcd : Sp := fun vs H Q _ => ∃ a b : Int, vs = [.int a, .int b] ∧ Q (.int (Int.gcd a b : Int)) H
/-- NoRatio(word) leaves: the error's dict -/
def Zero (CN : Addr) (H : Hp) (E : XK) : Prop := ∀ d H', H d = none → Same H H' → H' d = some (.xd [(("word" : Str), V.str "zero")]) → E (.ref CN) (some d) H'
def spInit (C CN : Addr) : Sp := fun vs H Q E => ∃ (p dx : Addr) (t b : Int), vs = [.ref p, .int t, .int b] ∧ H p = some (.ins C dx []) ∧ t.natAbs < 2 ^ 4000 ∧ b.natAbs < 2 ^ 4000 ∧
  (b ≠ 0 → ∀ H', (∀ c o, H c = some o → c ≠ p → H' c = some o) → H' p = some (.ins C dx (rflds (rt t b) (rb t b))) → Q .non H') ∧
  (b = 0 → Zero CN H E)
def spNR (CN : Addr) : Sp := fun vs H Q _ => ∃ (a : Addr) (w : V), vs = [.ref a, w] ∧ H a = some (exo a CN none) ∧ ∀ dx, H dx = none → dx ≠ a → Q .non (upd (upd H dx (exd dx [(("word" : Str), w)])) a (exo a CN (some dx)))
section
variable {P : Program} {w : World} {K : PySem.W.Frag} {mg : Str → Option Value} {base : Heap} {C CN fI : Addr}
theorem op_fdivZ {X : Cx} : OpR X (binaryOp .FloorDiv) (rI (fun _ j => j ≠ 0 ∧ j.natAbs.log2 < 9000) fun i j => .int (i.fdiv j)) := opI fun i j _ _ _ _ _ hc q => PyProof.Rows.floordiv_int hc.1 q (.inl (PyProof.noPylong_of_log2 hc.2))
theorem Txt.ty (T : Txt K mg C CN fI) {H : Hp} {a dx : Addr} {fs : List (Str × V)} (e : H a = some (.ins C dx fs)) : TyX K H (.ref a) (.ref C) := .base (.ins e T.cl T.cA T.cN T.cK T.cM)
/-! ### is_integer -/
theorem scII : FnScope ["thing"] ["thing"] (defScope sIsInt) := ⟨rfl, rfl, rfl, by decide +kernel, rfl, by decide +kernel, by decide +kernel⟩
theorem ok_isint {f : Addr} {fd : FuncData} (F : Fun K "is_integer" "is_integer" sIsInt f fd) (T : Txt K mg C CN fI) : FnOk P w K mg base CX0 1 f fd ["thing"] (spIsInt C) := by
  refine F.ok scII (fun vs H Q E h => ?_) (fun cdv A outer s H vs Q E hr h => ?_)
  · obtain ⟨x, rfl, _⟩ := h
    rfl
  · obtain ⟨x, rfl, h⟩ := h
    refine ⟨_, pss_one (ps_ret (pe_and (pe_callB call_isi (by rfl) T.gIsi PyProof.Rows.boot_isinstance (pa_cons (pv 0) (pa_cons (pe_bltn (v := .ty "int") (by rfl) T.gInt PyProof.Rows.boot_int rfl) pa_nil)))
      (pe_one (pe_not (pe_callB call_isi (by rfl) T.gIsi PyProof.Rows.boot_isinstance (pa_cons (pv 0) (pa_cons (pe_bltn (v := .ty "bool") (by rfl) T.gBool PyProof.Rows.boot_bool rfl) pa_nil))))))), ?_⟩
    rcases h with ⟨⟨i, rfl⟩, q⟩ | ⟨⟨a, dx, fs, rfl, e⟩, q⟩
    · refine ⟨_, rfl, _, _, _, _, true, rfl, .ty _, .base (.int i), kit_ty (by decide +kernel), true, rfl, iteT ?_⟩
      exact ⟨_, rfl, _, _, _, _, false, rfl, .ty _, .base (.int i), kit_ty (by decide +kernel), false, rfl, q⟩
    · refine ⟨_, rfl, _, _, _, _, false, rfl, .ty _, T.ty e, T.iCI, false, rfl, iteF ?_⟩
      exact q
/-! ### common_divisor -/
theorem scG : FnScope ["one", "other"] ["one", "other"] (defScope sGcd) := ⟨rfl, rfl, rfl, by decide +kernel, rfl, by decide +kernel, by decide +kernel⟩
theorem ok_gcd {f : Addr} {fd : FuncData} (F : Fun K "common_divisor" "common_divisor" sGcd f fd) (T : Txt K mg C CN fI) : FnOk P w K mg base CX0 1 f fd ["one", "other"] spGcd := by
  refine F.ok scG (fun vs H Q E h => ?_) (fun cdv A outer s H vs Q E hr h => ?_)
  · obtain ⟨a, b, rfl, _⟩ := h
    rfl
  · obtain ⟨a, b, rfl, q⟩ := h
    refine ⟨_, pss_cons (ps_while PassesOwn.never (pt_cmpR op_ne (pv 1) pe_int (nomark _))
        (pss_one (ps_par (i := 0) (j := 1) (by rfl) scG.nd rfl rfl (by decide) rfl rfl (pa_cons (pv 1) (pa_cons (pe_op op_modN (pv 0) (pv 1)) pa_nil)) (by rfl))))
      (pss_one (ps_ret (pe_callB call_abs (by rfl) T.gAbs PyProof.Rows.boot_abs (pa_cons (pv 0) pa_nil)))), ?_⟩
    refine while_by (fun σ H' => ∃ x y : Int, σ = [some (.int x), some (.int y)] ∧ H' = H ∧ Int.gcd x y = Int.gcd a b) (fun σ _ => match σ with | [_, some (.int y)] => y.natAbs | _ => 0) ⟨a, b, rfl, rfl, rfl⟩ ?_ ?_
    · rintro σ H' ⟨x, y, rfl, rfl, e⟩
      refine ⟨_, rfl, rfl, _, rfl, ?_⟩
      by_cases hy : y = 0
      · subst hy
        refine iteNS rfl ?_
        refine ⟨_, rfl, x, rfl, ?_⟩
        have : (if x < 0 then -x else x) = (Int.gcd a b : Int) := by
          rw [← e, Int.gcd_zero_right]
          split <;> omega
        rw [this]
        exact q
      · rw [decide_eq_false (fun z => hy (V.int.inj z))]
        refine iteT ?_
        exact ⟨_, rfl, _, rfl, _, rfl, _, _, rfl, rfl, hy, _, _, rfl, ⟨y, x.fmod y, rfl, rfl, (gcd_turn x y).trans e⟩, fmod_less x y hy⟩
    · rintro σ H' Q1 Q2 m ⟨v, e1, h2⟩
      obtain ⟨h3, k, e2, h4⟩ := h2
      exact ⟨v, e1, h3, k, e2, m _ _ h4⟩
/-! ### NoRatio.__init__ -/
theorem scNR : FnScope ["self", "word"] ["self", "word"] (defScope sNRi) := ⟨rfl, rfl, rfl, by decide +kernel, rfl, by decide +kernel, by decide +kernel⟩
theorem ok_nr {f : Addr} {fd : FuncData} (F : Fun K "__init__" "NoRatio.__init__" sNRi f fd) (T : Txt K mg C CN fI) : FnOk P w K mg base CX0 1 f fd ["self", "word"] (spNR CN) := by
  refine F.ok scNR (fun vs H Q E h => ?_) (fun cdv A outer s H vs Q E hr h => ?_)
  · obtain ⟨a, w, rfl, _⟩ := h
    rfl
  · obtain ⟨a, w, rfl, e, q⟩ := h
    refine ⟨_, pss_one (ps_ost (pv 0) (pv 1)), ?_⟩
    exact ⟨_, rfl, _, rfl, a, CN, rfl, T.oex, T.nW, .inl ⟨e, q⟩⟩
end
end Pt

namespace Pt
open PySem PySem.Spec L2
open PySem.W (findIn isFn kitOne)
/-! ### sizes -/
def Sz (n : Nat) (t b : Int) : Prop := t.natAbs < 2 ^ n ∧ 1 ≤ b ∧ b.natAbs < 2 ^ n
theorem Sz.mono {n m : Nat} {t b : Int} (h : Sz n t b) (k : n ≤ m) : Sz m t b := ⟨Nat.lt_of_lt_of_le h.1 (Nat.pow_le_pow_right (by decide) k), h.2.1, Nat.lt_of_lt_of_le h.2.2 (Nat.pow_le_pow_right (by decide) k)⟩
theorem lt_mono {n m : Nat} {x : Int} (h : x.natAbs < 2 ^ n) (k : n ≤ m) : x.natAbs < 2 ^ m := Nat.lt_of_lt_of_le h (Nat.pow_le_pow_right (by decide) k)
theorem lt_add {n : Nat} {x y : Int} (h : x.natAbs < 2 ^ n) (k : y.natAbs < 2 ^ n) : (x + y).natAbs < 2 ^ (n + 1) := by
  rw [Nat.pow_succ]
  have := Int.natAbs_add_le x y
  omega
theorem lt_sub {n : Nat} {x y : Int} (h : x.natAbs < 2 ^ n) (k : y.natAbs < 2 ^ n) : (x - y).natAbs < 2 ^ (n + 1) := by
  rw [Int.sub_eq_add_neg]
  exact lt_add h (by rw [Int.natAbs_neg]; exact k)
theorem mulOk {n m : Nat} {x y : Int} (h : x.natAbs < 2 ^ n) (k : y.natAbs < 2 ^ m) (hn : 0 < n := by decide) (hm : 0 < m := by decide) (z : n + m ≤ 1000000 := by decide) : CMulW x y := wide_mul h k hn hm z
theorem divOk {x y : Int} {m : Nat} (h : y ≠ 0) (k : y.natAbs < 2 ^ m) (hm : 0 < m := by decide) (z : m ≤ 9000 := by decide) : y ≠ 0 ∧ y.natAbs.log2 < 9000 := ⟨h, Nat.lt_of_lt_of_le (PySem.Flt.log2_lt_of hm k) z⟩
theorem rt_one (t : Int) : rt t 1 = t := by
  unfold rt rg
  rw [if_neg (by decide)]
  simp
theorem rb_one (t : Int) : rb t 1 = 1 := by
  unfold rb rg
  rw [if_neg (by decide)]
  simp
/-! ### promises -/
abbrev G4 := Int → Int → Int → Int → Int
/-- a new Ratio of value N / D -/
def NewR (C : Addr) (H : Hp) (N D : Int) (Q : VK) : Prop := ∀ H' q, Same H H' → RatAt C H' q (rt N D) (rb N D) → Q (.ref q) H'
def spBin (C : Addr) (N D : G4) : Sp := fun vs H Q _ => ∃ (p : Addr) (y : V) (t b t' b' : Int), vs = [.ref p, y] ∧ RatAt C H p t b ∧ Opd C H y t' b' ∧ Sz 1000 t b ∧ Sz 1000 t' b' ∧ NewR C H (N t b t' b') (D t b t' b') Q
def spAsR (C : Addr) : Sp := fun vs H Q _ => ∃ (x : V) (t b : Int), vs = [x] ∧ Opd C H x t b ∧ Sz 1000 t b ∧ ∀ H' p, Same H H' → RatAt C H' p t b → Q (.ref p) H'
def aN : G4 := fun t b t' b' => t * b' + t' * b
def sN : G4 := fun t b t' b' => t * b' - t' * b
def mN : G4 := fun t _ t' _ => t * t'
def bD : G4 := fun _ b _ b' => b * b'
def rsN : G4 := fun t b t' b' => (rt (-t) b) * b' + t' * (rb (-t) b)
def rsD : G4 := fun t b _ b' => (rb (-t) b) * b'
def rmN : G4 := fun t _ t' _ => t * t'
/-- the negative, the same, the absolute value -/
def spUn (C : Addr) (N : Int → Int) : Sp := fun vs H Q _ => ∃ (p : Addr) (t b : Int), vs = [.ref p] ∧ RatAt C H p t b ∧ Sz 1000 t b ∧ NewR C H (N t) b Q
def spFloor (C CN : Addr) : Sp := fun vs H Q E => ∃ (p : Addr) (y : V) (t b t' b' : Int), vs = [.ref p, y] ∧ RatAt C H p t b ∧ Opd C H y t' b' ∧ Sz 1000 t b ∧ Sz 1000 t' b' ∧
  (t' ≠ 0 → ∀ H', Same H H' → Q (.int ((t * b').fdiv (b * t'))) H') ∧ (t' = 0 → ∀ H', Same H H' → Zero CN H' E)
def spRfloor (C CN : Addr) : Sp := fun vs H Q E => ∃ (p : Addr) (y : V) (t b t' b' : Int), vs = [.ref p, y] ∧ RatAt C H p t b ∧ Opd C H y t' b' ∧ Sz 1000 t b ∧ Sz 1000 t' b' ∧
  (t ≠ 0 → ∀ H', Same H H' → Q (.int ((t' * b).fdiv (b' * t))) H') ∧ (t = 0 → ∀ H', Same H H' → Zero CN H' E)
def spOver (C CN : Addr) : Sp := fun vs H Q E => ∃ (p : Addr) (y : V) (t b t' b' : Int), vs = [.ref p, y] ∧ RatAt C H p t b ∧ Opd C H y t' b' ∧ Sz 1000 t b ∧ Sz 1000 t' b' ∧
  (t' ≠ 0 → NewR C H (t * b') (b * t') Q) ∧ (t' = 0 → ∀ H', Same H H' → Zero CN H' E)
section
variable {P : Program} {w : World} {K : PySem.W.Frag} {mg : Str → Option Value} {base : Heap} {C CN fN : Addr}
theorem Zero.same {H H' : Hp} {E : XK} (z : Zero CN H E) (s : Same H H') : Zero CN H' E := fun d H2 n k e => z d H2 (s.free n) (s.trans k) e
/-- raise NoRatio("zero") -/
theorem zero_reads {H : Hp} {E : XK} {σ : L2.St} (z : Zero CN H E) : tMkO CN (spNR CN) [] (tCons (tC (.str "zero")) tNil) σ H (fun cls d H' => E cls d H') := by
  refine ⟨by decide, fun a na => ⟨a, _, rfl, upd_same, fun dx ndx ne => ⟨rfl, dx, _, upd_same, by rw [upd_ne ne, upd_same], ?_, ?_⟩⟩⟩
  · rw [upd_ne ne] at ndx
    exact ndx
  · rw [upd_ne ne] at ndx
    refine z dx _ ndx (fun b o e => ?_) upd_same
    have h1 : b ≠ dx := ne_of_none e ndx
    have h2 : b ≠ a := ne_of_none e na
    rw [upd_ne h1, del_ne h2, upd_ne h2, upd_ne h1, upd_ne h2]
    exact e
/-- the facts of the defs that all operators call -/
structure Core (P : Program) (w : World) (K : PySem.W.Frag) (mg : Str → Option Value) (base : Heap) (C CN fN : Addr) : Prop where
  T : Txt K mg C CN fN
  isI : ∃ f fd, FnOk P w K mg base CX0 1 f fd ["thing"] (spIsInt C) ∧ mg "is_integer" = some (.ref f) ∧ PySem.W.keepIn K (.ref f) = true ∧ Binds K fd ["thing"] []
  gcd : ∃ f fd, FnOk P w K mg base CX0 1 f fd ["one", "other"] spGcd ∧ mg "common_divisor" = some (.ref f) ∧ PySem.W.keepIn K (.ref f) = true ∧ Binds K fd ["one", "other"] []
  nr : ∃ fd, FnOk P w K mg base CX0 1 fN fd ["self", "word"] (spNR CN) ∧ Binds K fd ["self", "word"] []
theorem scIn : FnScope ["self", "top", "bottom", "shared"] ["self", "top", "bottom"] (defScope sInit) := ⟨rfl, rfl, rfl, by decide +kernel, rfl, by decide +kernel, by decide +kernel⟩
theorem ok_init {f : Addr} {fd : FuncData} (F : FunD K "__init__" "Ratio.__init__" (defArgs sInit) (defBody sInit) (defScope sInit) [.int 1] [] f fd) (O : Core P w K mg base C CN fN) :
    FnOk P w K mg base (L2.CX P w) 3 f fd ["self", "top", "bottom"] (spInit C CN) := by
  obtain ⟨T, ⟨fi, fdi, Gi, mi, ki, bi⟩, ⟨fg, fdg, Gg, mgg, kg, bg⟩, ⟨fdn, Gn, bn⟩⟩ := O
  refine F.ok scIn (fun vs H Q E h => ?_) (fun cdv A outer s H vs Q E hr h => ?_)
  · obtain ⟨p, dx, t, b, rfl, _⟩ := h
    rfl
  · obtain ⟨p, dx, t, b, rfl, hp, ht, hb, yes, no⟩ := h
    have hr1 : Room 1 _ := hr.mono (by decide)
    refine ⟨_, pss_cons (ps_if (pt_not (pt_val (pe_call Gi hr1 rfl mi ki bi .nil pass0 (pa_cons (pv 1) pa_nil)))) (pss_one ps_never) pss_nil)
      (pss_cons (ps_if (pt_not (pt_val (pe_call Gi hr1 rfl mi ki bi .nil pass0 (pa_cons (pv 2) pa_nil)))) (pss_one ps_never) pss_nil)
      (pss_cons (ps_if (pt_cmpR op_eq (pv 2) pe_int (nomark _)) (pss_one (ps_raise rfl (takes_of rfl rfl rfl rfl) (pmk_oex T.oex T.iN T.tN Gn hr bn .nil pass0 rfl T.mgN (pa_cons pe_str pa_nil)))) pss_nil)
      (pss_cons (ps_set (i := 3) scIn.nd rfl (Or.inl rfl) (pe_call Gg hr1 rfl mgg kg bg .nil pass0 (pa_cons (pv 1) (pa_cons (pv 2) pa_nil))))
      (pss_cons (ps_if (pt_cmpR op_lt (pv 2) pe_int (nomark _)) (pss_one (ps_set (i := 3) scIn.nd rfl (Or.inl rfl) (pe_un un_neg (pv 3)))) pss_nil)
      (pss_cons (ps_fld (pv 0) (pe_op op_fdivZ (pv 1) (pv 3)) rfl)
      (pss_one (ps_fld (pv 0) (pe_op op_fdivZ (pv 2) (pv 3)) rfl))))))), ?_⟩
    refine ⟨_, rfl, _, rfl, .inl ⟨⟨t, rfl⟩, _, rfl, iteF ?_⟩⟩
    refine ⟨_, rfl, _, rfl, .inl ⟨⟨b, rfl⟩, _, rfl, iteF ?_⟩⟩
    refine ⟨_, rfl, rfl, _, rfl, ?_⟩
    by_cases h0 : b = 0
    · subst h0
      rw [decide_eq_true rfl]
      exact iteT (zero_reads (no rfl))
    · rw [decide_eq_false (fun z => h0 (V.int.inj z))]
      refine iteF ?_
      refine ⟨_, rfl, _, rfl, t, b, rfl, ?_⟩
      have fin : ∀ g : Int, g = rg t b → ∀ v0 : V, (let σ : L2.St := [some (.ref p), some (.int t), some (.int b), some (.int g)]; sFld K (tVar 0) (tOp (rI (fun _ j => j ≠ 0 ∧ j.natAbs.log2 < 9000) fun i j => .int (i.fdiv j)) (tVar 1) (tVar 3)) "top"
          { nx := fun σ' H' => sFld K (tVar 0) (tOp (rI (fun _ j => j ≠ 0 ∧ j.natAbs.log2 < 9000) fun i j => .int (i.fdiv j)) (tVar 2) (tVar 3)) "bottom" { nx := fun _ H2 => Q .non H2, rt := Q } σ' H', rt := Q } σ H) := by
        rintro g rfl v0
        obtain ⟨m, e, hg, _⟩ := r_form (n := t) h0
        have hsz := lt_mono (Nat.lt_of_le_of_lt (rg_le (n := t) h0) hb) (m := 4000) (by decide)
        refine ⟨_, rfl, _, rfl, t, rg t b, rfl, rfl, divOk (x := t) hg hsz, _, rfl, p, C, dx, [], rfl, hp, T.cl, T.nT, by decide, ?_⟩
        refine ⟨_, rfl, _, rfl, b, rg t b, rfl, rfl, divOk (x := b) hg hsz, _, rfl, p, C, dx, _, rfl, upd_same, T.cl, T.nB, (by show 1 < 1000; decide), ?_⟩
        refine yes h0 _ (fun c o e hc => ?_) (by rw [upd_same] <;> rfl)
        rw [upd_ne hc, upd_ne hc]
        exact e
      refine ⟨_, rfl, _, _, rfl, rfl, _, rfl, ?_⟩
      by_cases hlt : b < 0
      · rw [decide_eq_true hlt]
        refine iteT ?_
        refine ⟨_, rfl, _, rfl, ?_⟩
        exact fin _ (by unfold rg; rw [if_pos hlt]) .non
      · rw [decide_eq_false hlt]
        refine iteF ?_
        exact fin _ (by unfold rg; rw [if_neg hlt]) .non
end
end Pt

namespace Pt
open PySem PySem.Spec L2
open PySem.W (findIn isFn kitOne)
section
variable {P : Program} {w : World} {K : PySem.W.Frag} {mg : Str → Option Value} {base : Heap} {C CN fN : Addr}
/-- what the operators call -/
structure Core2 (P : Program) (w : World) (K : PySem.W.Frag) (mg : Str → Option Value) (base : Heap) (C CN fN : Addr) : Prop where
  O : Core P w K mg base C CN fN
  init : ∃ f fd, FnOk P w K mg base (L2.CX P w) 3 f fd ["self", "top", "bottom"] (spInit C CN) ∧ Mk K C f ∧ Binds K fd ["self", "top", "bottom"] [] ∧ ∃ ds, Vals [.int 1] ds ∧ Binds K fd ["self", "top", "bottom"] ds
theorem new_same {H : Hp} {x dx : Addr} {o o' : HO} (nx : H x = none) (ndx : H dx = none) : Same H (upd (upd H dx o) x o') := fun b u e => by
  rw [upd_ne (ne_of_none e nx), upd_ne (ne_of_none e ndx)]
  exact e
/-- Ratio(n, d) is made -/
theorem made {H : Hp} {N D : Int} {Q : VK} {x dx : Addr} {E : XK} (hN : N.natAbs < 2 ^ 4000) (hD : D.natAbs < 2 ^ 4000) (h0 : D ≠ 0) (k : NewR C H N D Q) (nx : H x = none) (ndx : H dx = none) (ne : dx ≠ x) :
    spInit C CN [.ref x, .int N, .int D] (upd (upd H dx (.own x)) x (.ins C dx [])) (fun v H2 => v = .non ∧ Q (.ref x) H2) E :=
  ⟨x, dx, N, D, rfl, upd_same, hN, hD, fun _ H' kp e => ⟨rfl, k H' x (fun b o z => kp b o (new_same nx ndx b o z) (ne_of_none z nx)) ⟨dx, e⟩⟩, fun z => absurd z h0⟩
/-! ### is_operand, as_ratio -/
def spIsOp2 (C : Addr) : Sp := spIsOp C
theorem scIO : FnScope ["thing"] ["thing"] (defScope sIsOp) := ⟨rfl, rfl, rfl, by decide +kernel, rfl, by decide +kernel, by decide +kernel⟩
theorem ok_isop {f : Addr} {fd : FuncData} (F : Fun K "is_operand" "is_operand" sIsOp f fd) (O : Core P w K mg base C CN fN) : FnOk P w K mg base CX0 2 f fd ["thing"] (spIsOp C) := by
  obtain ⟨T, ⟨fi, fdi, Gi, mi, ki, bi⟩, _, _⟩ := O
  refine F.ok scIO (fun vs H Q E h => ?_) (fun cdv A outer s H vs Q E hr h => ?_)
  · obtain ⟨x, rfl, _⟩ := h
    rfl
  · obtain ⟨x, rfl, h, q⟩ := h
    refine ⟨_, pss_one (ps_ret (pe_or (pe_callB call_isi (by rfl) T.gIsi PyProof.Rows.boot_isinstance (pa_cons (pv 0) (pa_cons (pe_glob rfl T.mgC (v := .ref C) rfl) pa_nil)))
      (pe_one (pe_call Gi hr rfl mi ki bi .nil pass0 (pa_cons (pv 0) pa_nil))))), ?_⟩
    rcases h with ⟨i, rfl⟩ | ⟨a, dx, fs, rfl, e⟩
    · refine ⟨_, rfl, _, _, _, _, false, rfl, .own C, .base (.int i), T.iIC, false, rfl, iteF ?_⟩
      exact ⟨_, rfl, _, rfl, .inl ⟨⟨i, rfl⟩, q⟩⟩
    · exact ⟨_, rfl, _, _, _, _, true, rfl, .own C, T.ty e, T.iCC, true, rfl, iteT q⟩
theorem scAR : FnScope ["number"] ["number"] (defScope sAsR) := ⟨rfl, rfl, rfl, by decide +kernel, rfl, by decide +kernel, by decide +kernel⟩
theorem ok_asr {f : Addr} {fd : FuncData} (F : Fun K "as_ratio" "as_ratio" sAsR f fd) (O2 : Core2 P w K mg base C CN fN) : FnOk P w K mg base CX0 5 f fd ["number"] (spAsR C) := by
  obtain ⟨O, fi, fdi, Gi, M, b2, ds, vd, b1⟩ := O2
  have T := O.T
  refine F.ok scAR (fun vs H Q E h => ?_) (fun cdv A outer s H vs Q E hr h => ?_)
  · obtain ⟨x, t, b, rfl, _⟩ := h
    rfl
  · obtain ⟨x, t, b, rfl, hx, hz, q⟩ := h
    refine ⟨_, pss_cons (ps_if (pt_val (pe_callB call_isi (by rfl) T.gIsi PyProof.Rows.boot_isinstance (pa_cons (pv 0) (pa_cons (pe_glob rfl T.mgC (v := .ref C) rfl) pa_nil)))) (pss_one (ps_ret (pv 0))) pss_nil)
      (pss_one (ps_ret (pe_make M Gi hr rfl T.mgC b1 vd passL (pa_cons (pv 0) pa_nil)))), ?_⟩
    rcases hx with ⟨p, rfl, r⟩ | ⟨rfl, rfl⟩
    · obtain ⟨dx, e⟩ := id r
      refine ⟨_, rfl, _, _, _, _, true, rfl, .own C, T.ty e, T.iCC, true, rfl, iteT ?_⟩
      exact ⟨_, rfl, q H p (Same.refl H) r⟩
    · refine ⟨_, rfl, _, _, _, _, false, rfl, .own C, .base (.int t), T.iIC, false, rfl, iteF ?_⟩
      refine ⟨_, rfl, fun x dx nx ndx ne => made (lt_mono hz.1 (by decide)) (by decide) (by decide) (fun H' q' s r => ?_) nx ndx ne⟩
      rw [rt_one, rb_one] at r
      exact q H' q' s r
/-- the third layer -/
structure Core3 (P : Program) (w : World) (K : PySem.W.Frag) (mg : Str → Option Value) (base : Heap) (C CN fN : Addr) : Prop where
  O2 : Core2 P w K mg base C CN fN
  isO : ∃ f fd, FnOk P w K mg base CX0 2 f fd ["thing"] (spIsOp C) ∧ mg "is_operand" = some (.ref f) ∧ PySem.W.keepIn K (.ref f) = true ∧ Binds K fd ["thing"] []
  asR : ∃ f fd, FnOk P w K mg base CX0 5 f fd ["number"] (spAsR C) ∧ mg "as_ratio" = some (.ref f) ∧ PySem.W.keepIn K (.ref f) = true ∧ Binds K fd ["number"] []
theorem Opd.isop {H : Hp} {x : V} {t b : Int} (h : Opd C H x t b) : (∃ i, x = .int i) ∨ OwnV C H x := h.elim (fun ⟨p, e, r⟩ => .inr (by rw [e]; exact r.own)) fun ⟨e, _⟩ => .inl ⟨t, e⟩
/-! ### + - * -/
theorem scAdd : FnScope ["self", "other", "more"] ["self", "other"] (defScope sAdd) := ⟨rfl, rfl, rfl, by decide +kernel, rfl, by decide +kernel, by decide +kernel⟩
theorem scSub : FnScope ["self", "other", "less"] ["self", "other"] (defScope sSub) := ⟨rfl, rfl, rfl, by decide +kernel, rfl, by decide +kernel, by decide +kernel⟩
theorem scMul : FnScope ["self", "other", "factor"] ["self", "other"] (defScope sMul) := ⟨rfl, rfl, rfl, by decide +kernel, rfl, by decide +kernel, by decide +kernel⟩
theorem ok_add {f : Addr} {fd : FuncData} (F : Fun K "__add__" "Ratio.__add__" sAdd f fd) (O3 : Core3 P w K mg base C CN fN) : FnOk P w K mg base CX0 6 f fd ["self", "other"] (spBin C aN bD) := by
  obtain ⟨⟨O, fi, fdi, Gi, M, b2, _⟩, ⟨fo, fdo, Go, mo, ko, bo⟩, ⟨fa, fda, Ga, ma, ka, ba⟩⟩ := O3
  have T := O.T
  refine F.ok scAdd (fun vs H Q E h => ?_) (fun cdv A outer s H vs Q E hr h => ?_)
  · obtain ⟨p, y, t, b, t', b', rfl, _⟩ := h
    rfl
  · obtain ⟨p, y, t, b, t', b', rfl, hp, hy, z1, z2, k⟩ := h
    have hr2 : Room 2 _ := hr.mono (by decide)
    have hr4 : Room 4 _ := hr.mono (by decide)
    refine ⟨_, pss_cons (ps_if (pt_not (pt_val (pe_call Go hr2 rfl mo ko bo .nil pass0 (pa_cons (pv 1) pa_nil)))) (pss_one ps_never) pss_nil)
      (pss_cons (ps_set (i := 2) scAdd.nd rfl (Or.inl rfl) (pe_call Ga hr rfl ma ka ba .nil pass0 (pa_cons (pv 1) pa_nil)))
      (pss_one (ps_ret (pe_make M Gi hr4 rfl T.mgC b2 .nil passL (pa_cons (pe_op op_add (pe_op op_mulW (pe_fld (pv 0) rfl) (pe_fld (pv 2) rfl)) (pe_op op_mulW (pe_fld (pv 2) rfl) (pe_fld (pv 0) rfl))) (pa_cons (pe_op op_mulW (pe_fld (pv 0) rfl) (pe_fld (pv 2) rfl)) pa_nil)))))), ?_⟩
    refine ⟨_, rfl, y, rfl, hy.isop, _, rfl, iteF ?_⟩
    refine ⟨_, rfl, y, t', b', rfl, hy, z2, fun H1 q s1 hq => ?_⟩
    obtain ⟨dx, e1⟩ := hp.same s1
    obtain ⟨dy, e2⟩ := hq
    refine ⟨_, rfl, p, C, dx, _, _, rfl, e1, T.cl, T.nT, rflds_top _ _, _, rfl, q, C, dy, _, _, rfl, e2, T.cl, T.nB, rflds_bot _ _, t, b', rfl, rfl, mulOk z1.1 z2.2.2, ?_⟩
    refine ⟨_, rfl, q, C, dy, _, _, rfl, e2, T.cl, T.nT, rflds_top _ _, _, rfl, p, C, dx, _, _, rfl, e1, T.cl, T.nB, rflds_bot _ _, t', b, rfl, rfl, mulOk z2.1 z1.2.2, _, _, rfl, rfl, ?_⟩
    refine ⟨_, rfl, p, C, dx, _, _, rfl, e1, T.cl, T.nB, rflds_bot _ _, _, rfl, q, C, dy, _, _, rfl, e2, T.cl, T.nB, rflds_bot _ _, b, b', rfl, rfl, mulOk z1.2.2 z2.2.2, ?_⟩
    intro x dx' nx ndx ne
    refine made (lt_mono (lt_add (wide_lt z1.1 z2.2.2) (wide_lt z2.1 z1.2.2)) (by decide)) (lt_mono (wide_lt z1.2.2 z2.2.2) (by decide)) (mul_ne (by have := z1.2.1; omega) (by have := z2.2.1; omega)) (fun H' q' s r => k H' q' (s1.trans s) r) nx ndx ne
theorem ok_sub {f : Addr} {fd : FuncData} (F : Fun K "__sub__" "Ratio.__sub__" sSub f fd) (O3 : Core3 P w K mg base C CN fN) : FnOk P w K mg base CX0 6 f fd ["self", "other"] (spBin C sN bD) := by
  obtain ⟨⟨O, fi, fdi, Gi, M, b2, _⟩, ⟨fo, fdo, Go, mo, ko, bo⟩, ⟨fa, fda, Ga, ma, ka, ba⟩⟩ := O3
  have T := O.T
  refine F.ok scSub (fun vs H Q E h => ?_) (fun cdv A outer s H vs Q E hr h => ?_)
  · obtain ⟨p, y, t, b, t', b', rfl, _⟩ := h
    rfl
  · obtain ⟨p, y, t, b, t', b', rfl, hp, hy, z1, z2, k⟩ := h
    have hr2 : Room 2 _ := hr.mono (by decide)
    have hr4 : Room 4 _ := hr.mono (by decide)
    refine ⟨_, pss_cons (ps_if (pt_not (pt_val (pe_call Go hr2 rfl mo ko bo .nil pass0 (pa_cons (pv 1) pa_nil)))) (pss_one ps_never) pss_nil)
      (pss_cons (ps_set (i := 2) scSub.nd rfl (Or.inl rfl) (pe_call Ga hr rfl ma ka ba .nil pass0 (pa_cons (pv 1) pa_nil)))
      (pss_one (ps_ret (pe_make M Gi hr4 rfl T.mgC b2 .nil passL (pa_cons (pe_op op_sub (pe_op op_mulW (pe_fld (pv 0) rfl) (pe_fld (pv 2) rfl)) (pe_op op_mulW (pe_fld (pv 2) rfl) (pe_fld (pv 0) rfl))) (pa_cons (pe_op op_mulW (pe_fld (pv 0) rfl) (pe_fld (pv 2) rfl)) pa_nil)))))), ?_⟩
    refine ⟨_, rfl, y, rfl, hy.isop, _, rfl, iteF ?_⟩
    refine ⟨_, rfl, y, t', b', rfl, hy, z2, fun H1 q s1 hq => ?_⟩
    obtain ⟨dx, e1⟩ := hp.same s1
    obtain ⟨dy, e2⟩ := hq
    refine ⟨_, rfl, p, C, dx, _, _, rfl, e1, T.cl, T.nT, rflds_top _ _, _, rfl, q, C, dy, _, _, rfl, e2, T.cl, T.nB, rflds_bot _ _, t, b', rfl, rfl, mulOk z1.1 z2.2.2, ?_⟩
    refine ⟨_, rfl, q, C, dy, _, _, rfl, e2, T.cl, T.nT, rflds_top _ _, _, rfl, p, C, dx, _, _, rfl, e1, T.cl, T.nB, rflds_bot _ _, t', b, rfl, rfl, mulOk z2.1 z1.2.2, _, _, rfl, rfl, ?_⟩
    refine ⟨_, rfl, p, C, dx, _, _, rfl, e1, T.cl, T.nB, rflds_bot _ _, _, rfl, q, C, dy, _, _, rfl, e2, T.cl, T.nB, rflds_bot _ _, b, b', rfl, rfl, mulOk z1.2.2 z2.2.2, ?_⟩
    intro x dx' nx ndx ne
    refine made (lt_mono (lt_sub (wide_lt z1.1 z2.2.2) (wide_lt z2.1 z1.2.2)) (by decide)) (lt_mono (wide_lt z1.2.2 z2.2.2) (by decide)) (mul_ne (by have := z1.2.1; omega) (by have := z2.2.1; omega)) (fun H' q' s r => k H' q' (s1.trans s) r) nx ndx ne
theorem ok_mul {f : Addr} {fd : FuncData} (F : Fun K "__mul__" "Ratio.__mul__" sMul f fd) (O3 : Core3 P w K mg base C CN fN) : FnOk P w K mg base CX0 6 f fd ["self", "other"] (spBin C mN bD) := by
  obtain ⟨⟨O, fi, fdi, Gi, M, b2, _⟩, ⟨fo, fdo, Go, mo, ko, bo⟩, ⟨fa, fda, Ga, ma, ka, ba⟩⟩ := O3
  have T := O.T
  refine F.ok scMul (fun vs H Q E h => ?_) (fun cdv A outer s H vs Q E hr h => ?_)
  · obtain ⟨p, y, t, b, t', b', rfl, _⟩ := h
    rfl
  · obtain ⟨p, y, t, b, t', b', rfl, hp, hy, z1, z2, k⟩ := h
    have hr2 : Room 2 _ := hr.mono (by decide)
    have hr4 : Room 4 _ := hr.mono (by decide)
    refine ⟨_, pss_cons (ps_if (pt_not (pt_val (pe_call Go hr2 rfl mo ko bo .nil pass0 (pa_cons (pv 1) pa_nil)))) (pss_one ps_never) pss_nil)
      (pss_cons (ps_set (i := 2) scMul.nd rfl (Or.inl rfl) (pe_call Ga hr rfl ma ka ba .nil pass0 (pa_cons (pv 1) pa_nil)))
      (pss_one (ps_ret (pe_make M Gi hr4 rfl T.mgC b2 .nil passL (pa_cons (pe_op op_mulW (pe_fld (pv 0) rfl) (pe_fld (pv 2) rfl)) (pa_cons (pe_op op_mulW (pe_fld (pv 0) rfl) (pe_fld (pv 2) rfl)) pa_nil)))))), ?_⟩
    refine ⟨_, rfl, y, rfl, hy.isop, _, rfl, iteF ?_⟩
    refine ⟨_, rfl, y, t', b', rfl, hy, z2, fun H1 q s1 hq => ?_⟩
    obtain ⟨dx, e1⟩ := hp.same s1
    obtain ⟨dy, e2⟩ := hq
    refine ⟨_, rfl, p, C, dx, _, _, rfl, e1, T.cl, T.nT, rflds_top _ _, _, rfl, q, C, dy, _, _, rfl, e2, T.cl, T.nT, rflds_top _ _, t, t', rfl, rfl, mulOk z1.1 z2.1, ?_⟩
    refine ⟨_, rfl, p, C, dx, _, _, rfl, e1, T.cl, T.nB, rflds_bot _ _, _, rfl, q, C, dy, _, _, rfl, e2, T.cl, T.nB, rflds_bot _ _, b, b', rfl, rfl, mulOk z1.2.2 z2.2.2, ?_⟩
    intro x dx' nx ndx ne
    refine made (lt_mono (wide_lt z1.1 z2.1) (by decide)) (lt_mono (wide_lt z1.2.2 z2.2.2) (by decide)) (mul_ne (by have := z1.2.1; omega) (by have := z2.2.1; omega)) (fun H' q' s r => k H' q' (s1.trans s) r) nx ndx ne
end
end Pt

namespace Pt
open PySem PySem.Spec L2
open PySem.W (findIn isFn kitOne)
section
variable {P : Program} {w : World} {K : PySem.W.Frag} {mg : Str → Option Value} {base : Heap} {C CN fN : Addr}
theorem BinOk.only {op : Operator} {CX : CXT} {k : Nat} {sp : Sp} {g f : Addr} {fd : FuncData} {ps : List Str} (T : OwnBin K C op g (some (.ref f))) (hf : isFn K (.ref f) = true) (F : FnOk P w K mg base CX k g fd ps sp) (b : Binds K fd ps []) :
    BinOk P w K mg base C op CX k sp (fun _ _ _ _ => False) := ⟨g, f, fd, fd, ps, ps, T, hf, F, b, ⟨fun _ _ _ _ h => h.elim, fun _ _ _ _ _ _ _ _ _ _ _ _ _ h => h.elim⟩, b⟩
theorem BinOk.both {op : Operator} {CX : CXT} {k : Nat} {sp spr : Sp} {g f : Addr} {fd fdr : FuncData} {ps psr : List Str} (T : OwnBin K C op g (some (.ref f))) (hf : isFn K (.ref f) = true) (F : FnOk P w K mg base CX k g fd ps sp) (b : Binds K fd ps [])
    (Fr : FnOk P w K mg base CX k f fdr psr spr) (br : Binds K fdr psr []) : BinOk P w K mg base C op CX k sp spr := ⟨g, f, fd, fdr, ps, psr, T, hf, F, b, Fr, br⟩
abbrev spNo : Sp := fun _ _ _ _ => False
theorem passA0 {X : Cx} : ∀ σ, PassesAt CX0 X σ E0 := fun _ _ _ _ _ _ _ h => h.elim
theorem passK {X : Cx} {W : WX} {E : XK} (tk : Takes X W) (h : ∀ cls d σ H, E cls d H → W cls d σ H) : ∀ σ, PassesAt (L2.CX X.prog X.w) X σ E := fun σ pins H s e s' I c => passes_call tk h pins σ H s e s' I c
theorem passKK {X : Cx} {W : WX} {E : XK} (tk : Takes X W) (h : ∀ cls d σ H, E cls d H → W cls d σ H) : Passes (L2.CX X.prog X.w) X E := passes_call tk h
theorem made0 {H : Hp} {N D : Int} {Q : VK} {x dx : Addr} {E : XK} (hN : N.natAbs < 2 ^ 4000) (hD : D.natAbs < 2 ^ 4000) (k : D ≠ 0 → NewR C H N D Q) (z : D = 0 → Zero CN H E) (nx : H x = none) (ndx : H dx = none) (ne : dx ≠ x) :
    spInit C CN [.ref x, .int N, .int D] (upd (upd H dx (.own x)) x (.ins C dx [])) (fun v H2 => v = .non ∧ Q (.ref x) H2) E :=
  ⟨x, dx, N, D, rfl, upd_same, hN, hD, fun h0 H' kp e => ⟨rfl, k h0 H' x (fun b o z => kp b o (new_same nx ndx b o z) (ne_of_none z nx)) ⟨dx, e⟩⟩, fun h0 => (z h0).same (new_same nx ndx)⟩
/-! ### -a, +a, abs(a) -/
theorem scNeg : FnScope ["self"] ["self"] (defScope sNeg) := ⟨rfl, rfl, rfl, by decide +kernel, rfl, by decide +kernel, by decide +kernel⟩
theorem scPos : FnScope ["self"] ["self"] (defScope sPos) := ⟨rfl, rfl, rfl, by decide +kernel, rfl, by decide +kernel, by decide +kernel⟩
theorem scAbs : FnScope ["self"] ["self"] (defScope sAbs) := ⟨rfl, rfl, rfl, by decide +kernel, rfl, by decide +kernel, by decide +kernel⟩
theorem b_ne {n : Nat} {t b : Int} (z : Sz n t b) : b ≠ 0 := by have := z.2.1; omega
theorem ok_neg {f : Addr} {fd : FuncData} (F : Fun K "__neg__" "Ratio.__neg__" sNeg f fd) (O2 : Core2 P w K mg base C CN fN) : FnOk P w K mg base CX0 5 f fd ["self"] (spUn C fun t => -t) := by
  obtain ⟨O, fi, fdi, Gi, M, b2, _⟩ := O2
  have T := O.T
  refine F.ok scNeg (fun vs H Q E h => ?_) (fun cdv A outer s H vs Q E hr h => ?_)
  · obtain ⟨p, t, b, rfl, _⟩ := h
    rfl
  · obtain ⟨p, t, b, rfl, ⟨dx, e⟩, z, k⟩ := h
    refine ⟨_, pss_one (ps_ret (pe_make M Gi hr rfl T.mgC b2 .nil passL (pa_cons (pe_un un_neg (pe_fld (pv 0) rfl)) (pa_cons (pe_fld (pv 0) rfl) pa_nil)))), ?_⟩
    refine ⟨_, rfl, p, C, dx, _, _, rfl, e, T.cl, T.nT, rflds_top _ _, t, rfl, _, rfl, p, C, dx, _, _, rfl, e, T.cl, T.nB, rflds_bot _ _, ?_⟩
    intro x dx' nx ndx ne
    exact made (lt_mono (by rw [Int.natAbs_neg]; exact z.1) (by decide)) (lt_mono z.2.2 (by decide)) (b_ne z) k nx ndx ne
theorem ok_pos {f : Addr} {fd : FuncData} (F : Fun K "__pos__" "Ratio.__pos__" sPos f fd) (O2 : Core2 P w K mg base C CN fN) : FnOk P w K mg base CX0 5 f fd ["self"] (spUn C fun t => t) := by
  obtain ⟨O, fi, fdi, Gi, M, b2, _⟩ := O2
  have T := O.T
  refine F.ok scPos (fun vs H Q E h => ?_) (fun cdv A outer s H vs Q E hr h => ?_)
  · obtain ⟨p, t, b, rfl, _⟩ := h
    rfl
  · obtain ⟨p, t, b, rfl, ⟨dx, e⟩, z, k⟩ := h
    refine ⟨_, pss_one (ps_ret (pe_make M Gi hr rfl T.mgC b2 .nil passL (pa_cons (pe_fld (pv 0) rfl) (pa_cons (pe_fld (pv 0) rfl) pa_nil)))), ?_⟩
    refine ⟨_, rfl, p, C, dx, _, _, rfl, e, T.cl, T.nT, rflds_top _ _, _, rfl, p, C, dx, _, _, rfl, e, T.cl, T.nB, rflds_bot _ _, ?_⟩
    intro x dx' nx ndx ne
    exact made (lt_mono z.1 (by decide)) (lt_mono z.2.2 (by decide)) (b_ne z) k nx ndx ne
theorem ok_abs {f : Addr} {fd : FuncData} (F : Fun K "__abs__" "Ratio.__abs__" sAbs f fd) (O2 : Core2 P w K mg base C CN fN) : FnOk P w K mg base CX0 5 f fd ["self"] (spUn C fun t => if t < 0 then -t else t) := by
  obtain ⟨O, fi, fdi, Gi, M, b2, _⟩ := O2
  have T := O.T
  refine F.ok scAbs (fun vs H Q E h => ?_) (fun cdv A outer s H vs Q E hr h => ?_)
  · obtain ⟨p, t, b, rfl, _⟩ := h
    rfl
  · obtain ⟨p, t, b, rfl, ⟨dx, e⟩, z, k⟩ := h
    refine ⟨_, pss_one (ps_ret (pe_make M Gi hr rfl T.mgC b2 .nil passL (pa_cons (pe_callB call_abs (by rfl) T.gAbs PyProof.Rows.boot_abs (pa_cons (pe_fld (pv 0) rfl) pa_nil)) (pa_cons (pe_fld (pv 0) rfl) pa_nil)))), ?_⟩
    refine ⟨_, rfl, p, C, dx, _, _, rfl, e, T.cl, T.nT, rflds_top _ _, t, rfl, _, rfl, p, C, dx, _, _, rfl, e, T.cl, T.nB, rflds_bot _ _, ?_⟩
    intro x dx' nx ndx ne
    refine made (lt_mono (n := 1000) ?_ (by decide)) (lt_mono z.2.2 (by decide)) (b_ne z) k nx ndx ne
    have := z.1
    split <;> omega
/-! ### the reflected ones of + - * -/
theorem scRadd : FnScope ["self", "other"] ["self", "other"] (defScope sRadd) := ⟨rfl, rfl, rfl, by decide +kernel, rfl, by decide +kernel, by decide +kernel⟩
theorem scRsub : FnScope ["self", "other"] ["self", "other"] (defScope sRsub) := ⟨rfl, rfl, rfl, by decide +kernel, rfl, by decide +kernel, by decide +kernel⟩
theorem scRmul : FnScope ["self", "other"] ["self", "other"] (defScope sRmul) := ⟨rfl, rfl, rfl, by decide +kernel, rfl, by decide +kernel, by decide +kernel⟩
theorem Opd.own {H : Hp} {x : V} {t b : Int} (h : Opd C H x t b) : OwnV C H x ∨ ∃ j, x = .int j := h.elim (fun ⟨p, e, r⟩ => .inl (by rw [e]; exact r.own)) fun ⟨e, _⟩ => .inr ⟨t, e⟩
theorem ok_radd {f : Addr} {fd : FuncData} (F : Fun K "__radd__" "Ratio.__radd__" sRadd f fd) (B : BinOk P w K mg base C .Add CX0 6 (spBin C aN bD) spNo) : FnOk P w K mg base CX0 7 f fd ["self", "other"] (spBin C aN bD) := by
  refine F.ok scRadd (fun vs H Q E h => ?_) (fun cdv A outer s H vs Q E hr h => ?_)
  · obtain ⟨p, y, t, b, t', b', rfl, _⟩ := h
    rfl
  · obtain ⟨p, y, t, b, t', b', rfl, hp, hy, z1, z2, k⟩ := h
    refine ⟨_, pss_one (ps_ret (pe_bin (E := fun _ => E0) op_no B intAdd hr passA0 (pv 0) (pv 1))), ?_⟩
    exact ⟨_, rfl, _, rfl, .inr (.inl ⟨hp.own, hy.own, p, y, t, b, t', b', rfl, hp, hy, z1, z2, k⟩)⟩
theorem ok_rmul {f : Addr} {fd : FuncData} (F : Fun K "__rmul__" "Ratio.__rmul__" sRmul f fd) (B : BinOk P w K mg base C .Mult CX0 6 (spBin C mN bD) spNo) : FnOk P w K mg base CX0 7 f fd ["self", "other"] (spBin C mN bD) := by
  refine F.ok scRmul (fun vs H Q E h => ?_) (fun cdv A outer s H vs Q E hr h => ?_)
  · obtain ⟨p, y, t, b, t', b', rfl, _⟩ := h
    rfl
  · obtain ⟨p, y, t, b, t', b', rfl, hp, hy, z1, z2, k⟩ := h
    refine ⟨_, pss_one (ps_ret (pe_bin (E := fun _ => E0) op_no B intMul hr passA0 (pv 0) (pv 1))), ?_⟩
    exact ⟨_, rfl, _, rfl, .inr (.inl ⟨hp.own, hy.own, p, y, t, b, t', b', rfl, hp, hy, z1, z2, k⟩)⟩
theorem ok_rsub {f : Addr} {fd : FuncData} (F : Fun K "__rsub__" "Ratio.__rsub__" sRsub f fd) (B : BinOk P w K mg base C .Add CX0 6 (spBin C aN bD) spNo) (U : UnOk P w K mg base C "__neg__" CX0 5 (spUn C fun t => -t)) :
    FnOk P w K mg base CX0 7 f fd ["self", "other"] (spBin C rsN rsD) := by
  refine F.ok scRsub (fun vs H Q E h => ?_) (fun cdv A outer s H vs Q E hr h => ?_)
  · obtain ⟨p, y, t, b, t', b', rfl, _⟩ := h
    rfl
  · obtain ⟨p, y, t, b, t', b', rfl, hp, hy, z1, z2, k⟩ := h
    have hr5 : Room 5 _ := hr.mono (by decide)
    refine ⟨_, pss_one (ps_ret (pe_bin (E := fun _ => E0) op_no B intAdd hr passA0 (pe_un (un_neg_own (E := E0) U hr5 passA0) (pv 0)) (pv 1))), ?_⟩
    refine ⟨_, rfl, hp.own, p, t, b, rfl, hp, z1, fun H1 q s1 r => ?_⟩
    have z3 : Sz 1000 (rt (-t) b) (rb (-t) b) := ⟨Nat.lt_of_le_of_lt (rt_le (b_ne z1)) (by rw [Int.natAbs_neg]; exact z1.1), rb_pos (b_ne z1), Nat.lt_of_le_of_lt (rb_le (b_ne z1)) z1.2.2⟩
    exact ⟨_, rfl, .inr (.inl ⟨r.own, (hy.same s1).own, q, y, _, _, t', b', rfl, r, hy.same s1, z3, z2, fun H' q' s2 r' => k H' q' (s1.trans s2) r'⟩)⟩
/-! ### // and over -/
theorem scFl : FnScope ["self", "other", "divisor"] ["self", "other"] (defScope sFloor) := ⟨rfl, rfl, rfl, by decide +kernel, rfl, by decide +kernel, by decide +kernel⟩
theorem scRfl : FnScope ["self", "other"] ["self", "other"] (defScope sRfloor) := ⟨rfl, rfl, rfl, by decide +kernel, rfl, by decide +kernel, by decide +kernel⟩
theorem ok_floor {f : Addr} {fd : FuncData} (F : Fun K "__floordiv__" "Ratio.__floordiv__" sFloor f fd) (O3 : Core3 P w K mg base C CN fN) : FnOk P w K mg base (L2.CX P w) 6 f fd ["self", "other"] (spFloor C CN) := by
  obtain ⟨⟨O, _⟩, ⟨fo, fdo, Go, mo, ko, bo⟩, ⟨fa, fda, Ga, ma, ka, ba⟩⟩ := O3
  have T := O.T
  obtain ⟨fdn, Gn, bn⟩ := O.nr
  refine F.okX scFl (fun vs H Q E h => ?_) (fun cdv A outer s H vs Q E hr h => ?_)
  · obtain ⟨p, y, t, b, t', b', rfl, _⟩ := h
    rfl
  · obtain ⟨p, y, t, b, t', b', rfl, hp, hy, z1, z2, yes, no⟩ := h
    have hr2 : Room 2 _ := hr.mono (by decide)
    refine ⟨_, pss_cons (ps_if (pt_not (pt_val (pe_call Go hr2 rfl mo ko bo .nil pass0 (pa_cons (pv 1) pa_nil)))) (pss_one ps_never) pss_nil)
      (pss_cons (ps_set (i := 2) scFl.nd rfl (Or.inl rfl) (pe_call Ga hr rfl ma ka ba .nil pass0 (pa_cons (pv 1) pa_nil)))
      (pss_cons (ps_if (pt_cmpR op_eq (pe_fld (pv 2) rfl) pe_int (nomark _)) (pss_one (ps_raise rfl (takes_of rfl rfl rfl rfl) (pmk_oex T.oex T.iN T.tN Gn hr2 bn .nil pass0 rfl T.mgN (pa_cons pe_str pa_nil)))) pss_nil)
      (pss_one (ps_ret (pe_op op_fdivZ (pe_op op_mulW (pe_fld (pv 0) rfl) (pe_fld (pv 2) rfl)) (pe_op op_mulW (pe_fld (pv 0) rfl) (pe_fld (pv 2) rfl))))))), ?_⟩
    refine ⟨_, rfl, y, rfl, hy.isop, _, rfl, iteF ?_⟩
    refine ⟨_, rfl, y, t', b', rfl, hy, z2, fun H1 q s1 hq => ?_⟩
    obtain ⟨dx, e1⟩ := hp.same s1
    obtain ⟨dy, e2⟩ := hq
    refine ⟨_, rfl, q, C, dy, _, _, rfl, e2, T.cl, T.nT, rflds_top _ _, rfl, _, rfl, ?_⟩
    by_cases h0 : t' = 0
    · subst h0
      rw [decide_eq_true rfl]
      exact iteT (zero_reads (no rfl H1 s1))
    · rw [decide_eq_false (fun z => h0 (V.int.inj z))]
      refine iteF ?_
      refine ⟨_, rfl, p, C, dx, _, _, rfl, e1, T.cl, T.nT, rflds_top _ _, _, rfl, q, C, dy, _, _, rfl, e2, T.cl, T.nB, rflds_bot _ _, t, b', rfl, rfl, mulOk z1.1 z2.2.2, ?_⟩
      refine ⟨_, rfl, p, C, dx, _, _, rfl, e1, T.cl, T.nB, rflds_bot _ _, _, rfl, q, C, dy, _, _, rfl, e2, T.cl, T.nT, rflds_top _ _, b, t', rfl, rfl, mulOk z1.2.2 z2.1, ?_⟩
      exact ⟨_, _, rfl, rfl, divOk (x := t * b') (mul_ne (b_ne z1) h0) (wide_lt z1.2.2 z2.1), yes h0 H1 s1⟩
theorem ok_rfloor {f : Addr} {fd : FuncData} (F : Fun K "__rfloordiv__" "Ratio.__rfloordiv__" sRfloor f fd) (O3 : Core3 P w K mg base C CN fN) (B : BinOk P w K mg base C .FloorDiv (L2.CX P w) 6 (spFloor C CN) spNo) :
    FnOk P w K mg base (L2.CX P w) 7 f fd ["self", "other"] (spRfloor C CN) := by
  obtain ⟨⟨O, _⟩, ⟨fo, fdo, Go, mo, ko, bo⟩, ⟨fa, fda, Ga, ma, ka, ba⟩⟩ := O3
  refine F.okX scRfl (fun vs H Q E h => ?_) (fun cdv A outer s H vs Q E hr h => ?_)
  · obtain ⟨p, y, t, b, t', b', rfl, _⟩ := h
    rfl
  · obtain ⟨p, y, t, b, t', b', rfl, hp, hy, z1, z2, yes, no⟩ := h
    have hr2 : Room 2 _ := hr.mono (by decide)
    have hr5 : Room 5 _ := hr.mono (by decide)
    refine ⟨_, pss_cons (ps_if (pt_not (pt_val (pe_call Go hr2 rfl mo ko bo .nil pass0 (pa_cons (pv 1) pa_nil)))) (pss_one ps_never) pss_nil)
      (pss_one (ps_ret (pe_bin (E := fun _ => E) op_no B intFloor hr (passK (takes_of rfl rfl rfl rfl) (fun _ _ _ _ h => h)) (pe_call Ga hr5 rfl ma ka ba .nil pass0 (pa_cons (pv 1) pa_nil)) (pv 0)))), ?_⟩
    refine ⟨_, rfl, y, rfl, hy.isop, _, rfl, iteF ?_⟩
    refine ⟨_, rfl, y, t', b', rfl, hy, z2, fun H1 q s1 hq => ?_⟩
    exact ⟨_, rfl, .inr (.inl ⟨hq.own, .inl (hp.same s1).own, q, .ref p, t', b', t, b, rfl, hq, .inl ⟨p, rfl, hp.same s1⟩, z2, z1, fun h0 H' s2 => yes h0 H' (s1.trans s2), fun h0 H' s2 => no h0 H' (s1.trans s2)⟩)⟩
end
end Pt

namespace Pt
open PySem PySem.Spec L2
open PySem.W (findIn isFn kitOne)
abbrev sStart : Stmt := topS 16
abbrev sDraw : Stmt := topS 17
/-! ### the law's draws -/
/-- the state at s, its cells at l -/
def LSt (H : Hp) (s l : Addr) : Prop := ∃ (i n : Int) (cs : List Int), H s = some (.lst [.ref l, .int i, .int n]) ∧ H l = some (.lst (cs.map V.int)) ∧ 0 < cs.length ∧ cs.length ≤ 64
/-- all but the state is kept -/
def Kp (s l : Addr) (H H' : Hp) : Prop := ∀ c o, H c = some o → c ≠ s → c ≠ l → H' c = some o
theorem Kp.refl (s l : Addr) (H : Hp) : Kp s l H H := fun _ _ e _ _ => e
theorem Kp.trans {s l : Addr} {H H1 H2 : Hp} (a : Kp s l H H1) (b : Kp s l H1 H2) : Kp s l H H2 := fun c o e h1 h2 => b c o (a c o e h1 h2) h1 h2
theorem Same.kp {s l : Addr} {H H' : Hp} (a : Same H H') : Kp s l H H' := fun c o e _ _ => a c o e
theorem LSt.same {H H' : Hp} {s l : Addr} (h : LSt H s l) (k : Same H H') : LSt H' s l := let ⟨i, n, cs, e1, e2, h⟩ := h; ⟨i, n, cs, k _ _ e1, k _ _ e2, h⟩
theorem LSt.ne {H : Hp} {s l : Addr} (h : LSt H s l) : s ≠ l := by
  obtain ⟨i, n, cs, e1, e2, _⟩ := h
  refine ne_of e1 e2 fun z => ?_
  have z2 := HO.lst.inj z
  cases cs with
  | nil => cases z2
  | cons c r =>
    have z3 := (List.cons.inj z2).1
    cases z3
theorem LSt.apart {H : Hp} {s l p C dx : Addr} {fs : List (Str × V)} (h : LSt H s l) (e : H p = some (.ins C dx fs)) : p ≠ s ∧ p ≠ l := by
  obtain ⟨i, n, cs, e1, e2, _⟩ := h
  exact ⟨ne_of e e1 (fun z => by cases z), ne_of e e2 (fun z => by cases z)⟩
theorem RatAt.kp {C p s l : Addr} {H H' : Hp} {t b : Int} (h : RatAt C H p t b) (L : LSt H s l) (k : Kp s l H H') : RatAt C H' p t b := by
  obtain ⟨dx, e⟩ := h
  obtain ⟨h1, h2⟩ := L.apart e
  exact ⟨dx, k _ _ e h1 h2⟩
theorem Opd.kp {C s l : Addr} {H H' : Hp} {x : V} {t b : Int} (h : Opd C H x t b) (L : LSt H s l) (k : Kp s l H H') : Opd C H' x t b := h.imp (fun ⟨p, e, r⟩ => ⟨p, e, r.kp L k⟩) id
def spStart (K : PySem.W.Frag) : Sp := fun vs H Q _ => ∃ (a : Addr) (ns : List Int), vs = [.ref a] ∧ SqL K H a (ns.map V.int) ∧ ns.length ≤ 63 ∧ ∀ H' s l, Same H H' → LSt H' s l → Q (.ref s) H'
def spDraw : Sp := fun vs H Q _ => ∃ (s l : Addr) (m : Int), vs = [.ref s, .int m] ∧ LSt H s l ∧ 0 < m ∧ m < 1073741824 ∧ ∀ H' r, Kp s l H H' → LSt H' s l → 0 ≤ r → r < m → Q (.int r) H'
/-- the built-in names of the text -/
structure Bl (mg : Str → Option Value) : Prop where
  gInt : mg "int" = none
  gLen : mg "len" = none
section
variable {P : Program} {w : World} {K : PySem.W.Frag} {mg : Str → Option Value} {base : Heap}
theorem cut_ints (ns : List Int) (lo hi : Option Int) : ∃ cs : List Int, cutV (ns.map V.int) lo hi = cs.map V.int ∧ cs.length ≤ ns.length := by
  refine ⟨(ns.drop (HT.sIx (ns.map V.int).length 0 lo)).take (HT.sIx (ns.map V.int).length (ns.map V.int).length hi - HT.sIx (ns.map V.int).length 0 lo), ?_, ?_⟩
  · unfold cutV
    rw [List.map_take, List.map_drop]
  · rw [List.length_take, List.length_drop]
    omega
theorem scSt : FnScope ["_law_script", "_law_cell"] ["_law_script"] (defScope sStart) := ⟨rfl, rfl, rfl, by decide +kernel, rfl, by decide +kernel, by decide +kernel⟩
theorem ok_start {f : Addr} {fd : FuncData} (F : Fun K "_law_start" "_law_start" sStart f fd) (T : Bl mg) : FnOk P w K mg base CX0 1 f fd ["_law_script"] (spStart K) := by
  refine F.ok scSt (fun vs H Q E h => ?_) (fun cdv A outer s H vs Q E hr h => ?_)
  · obtain ⟨a, ns, rfl, _⟩ := h
    rfl
  · obtain ⟨a, ns, rfl, hS, hl, k⟩ := h
    refine ⟨_, pss_one (ps_ret (pe_lst (pa_cons (pe_op op_cat
        (pe_lc (own := [("_law_cell", 1)]) (g := gName 1) (tt := tYes) rfl scSt.nd (pi_list (pe_slice sl_list (pv 0) po_none (po_some pe_int))) (blkOk_by (N := ["_law_script", "_law_cell"]) (sc := defScope sStart) (by decide +kernel))
          (fun _ _ _ _ _ => pg_name (i := 1) scSt.nd rfl (Or.inl rfl)) (fun _ _ _ _ _ => pts_nil) (fun _ _ _ _ _ => pe_callTy call_int1 (by rfl) T.gInt PyProof.Rows.boot_int (pa_cons (pv 1) pa_nil)))
        (pe_lst (pa_cons (pe_callB call_len_seq (by rfl) T.gLen PySem.boot_len (pa_cons (pv 0) pa_nil)) pa_nil))) (pa_cons pe_int (pa_cons pe_int pa_nil))))), ?_⟩
    obtain ⟨cs, ec, hc⟩ := cut_ints ns none (some 63)
    refine ⟨_, rfl, _, rfl, a, _, rfl, hS, fun p np => ?_⟩
    rw [ec]
    refine ⟨p, rfl, ⟨_, SqL.of upd_same⟩, fun D nD => ?_⟩
    have npD : p ≠ D := fun z => by rw [z, upd_same] at nD; cases nD
    have hD0 : H D = none := by rw [upd_ne (Ne.symm npD)] at nD; exact nD
    refine lc_list (K := K) (a := p) (xs := cs.map V.int) (fun i H' => Same H H' ∧ H' p = some (.lst (cs.map V.int)) ∧ H' D = some (.lst ((cs.take i).map V.int))) ⟨fun c o e => ?_, by rw [upd_ne npD, upd_same], by rw [upd_same]; rfl⟩ (fun i H' _ h => SqL.of h.2.1) ?_ ?_
    · rw [upd_ne (ne_of_none e hD0), upd_ne (ne_of_none e np)]
      exact e
    · intro i x H' hx ⟨sm, hp, hD⟩
      rw [List.getElem?_map] at hx
      cases hz : cs[i]? with
      | none => rw [hz] at hx; cases hx
      | some z =>
        rw [hz] at hx
        obtain rfl : V.int z = x := Option.some.inj hx
        have hlt : i < cs.length := (List.getElem?_eq_some_iff.mp hz).1
        refine ⟨rfl, ?_⟩
        refine ⟨_, rfl, .inl ⟨z, rfl, _, hD, small1000 (by rw [List.length_map, List.length_take]; omega), fun c o e => ?_, ?_, ?_⟩⟩
        · rw [upd_ne (ne_of_none e hD0)]
          exact sm c o e
        · rw [upd_ne npD]
          exact hp
        · rw [upd_same, List.take_add_one, hz, List.map_append]
          rfl
    · rintro H' ⟨sm, hp, hD⟩
      rw [List.length_map, List.take_length] at hD
      refine ⟨_, rfl, a, _, rfl, .inl (sm.seq hS), (by show 1 ≤ sizeLine; decide), fun l2 n2 => ?_⟩
      have e1 : D ≠ l2 := ne_of_none hD n2
      refine ⟨D, l2, _, _, rfl, rfl, by rw [upd_ne e1]; exact hD, upd_same, ?_, fun q nq => ⟨(by show 3 ≤ sizeLine; decide), fun r nr => ?_⟩⟩
      · have := small1000 (n := cs.length + 1) (by omega)
        rw [List.length_map]
        exact Nat.le_of_lt this
      · have nq' : H' q = none := by
          have := ne_of_none (upd_same (H := H') (a := l2) (o := .lst [.int (List.map V.int ns).length])) nq
          rw [upd_ne (Ne.symm this)] at nq
          exact nq
        have nqr : q ≠ r := ne_of_none upd_same nr
        have nr' : H' r = none := by
          rw [upd_ne (Ne.symm nqr)] at nr
          have := ne_of_none (upd_same (H := H') (a := l2) (o := .lst [.int (List.map V.int ns).length])) nr
          rw [upd_ne (Ne.symm this)] at nr
          exact nr
        refine k _ r q (fun c o e => ?_) ⟨0, 0, cs ++ [((List.map V.int ns).length : Int)], upd_same, ?_, by simp, by simp; omega⟩
        · have h' := sm c o e
          rw [upd_ne (ne_of_none h' nr'), upd_ne (ne_of_none h' nq'), upd_ne (ne_of_none h' n2)]
          exact h'
        · rw [upd_ne nqr, upd_same, List.map_append]
          rfl
end
end Pt

namespace Pt
open PySem PySem.Spec L2
open PySem.W (findIn isFn kitOne)
section
variable {P : Program} {w : World} {K : PySem.W.Frag} {mg : Str → Option Value} {base : Heap}
theorem ixN_nat {n j : Nat} (h : j < n) : ixN n (j : Int) = some j := by
  unfold ixN
  rw [if_pos (by omega), if_pos (by omega)]
  simp
theorem fmod_pos {a m : Int} (h : 0 < m) : 0 ≤ a.fmod m ∧ a.fmod m < m := ⟨Int.fmod_nonneg_of_pos a h, Int.fmod_lt_of_pos a h⟩
theorem emod_pos {a m : Int} (h : 0 < m) : 0 ≤ a % m ∧ a % m < m := ⟨Int.emod_nonneg a (by omega), Int.emod_lt_of_pos a h⟩
theorem scDr : FnScope ["_law_state", "_law_many", "_law_cells", "_law_at", "_law_cell", "_law_one"] ["_law_state", "_law_many"] (defScope sDraw) := ⟨rfl, rfl, rfl, by decide +kernel, rfl, by decide +kernel, by decide +kernel⟩
theorem ok_draw {f : Addr} {fd : FuncData} (F : Fun K "_law_draw" "_law_draw" sDraw f fd) (T : Bl mg) : FnOk P w K mg base CX0 1 f fd ["_law_state", "_law_many"] spDraw := by
  refine F.ok scDr (fun vs H Q E h => ?_) (fun cdv A outer s H vs Q E hr h => ?_)
  · obtain ⟨s, l, m, rfl, _⟩ := h
    rfl
  · obtain ⟨s, l, m, rfl, L, m0, m1, k⟩ := h
    have hne := L.ne
    obtain ⟨i, n, cs, e1, e2, c0, c1⟩ := id L
    refine ⟨_, pss_cons (ps_set (i := 2) scDr.nd rfl (Or.inl rfl) (pe_ix ix_list (pv 0) pe_int (fun _ _ => rfl)))
      (pss_cons (ps_set (i := 3) scDr.nd rfl (Or.inl rfl) (pe_op op_modN (pe_callTy call_int1 (by rfl) T.gInt PyProof.Rows.boot_int (pa_cons (pe_ix ix_list (pv 0) pe_int (fun _ _ => rfl)) pa_nil)) (pe_callB call_len_seq (by rfl) T.gLen PySem.boot_len (pa_cons (pv 2) pa_nil))))
      (pss_cons (ps_asg (pe_op op_add (pe_ix ix_list (pv 0) pe_int (fun _ _ => rfl)) pe_int) (pg_sub (pv 0) pe_int set_list))
      (pss_cons (ps_set (i := 4) scDr.nd rfl (Or.inl rfl) (pe_ix ix_list (pv 2) (pv 3) (fun _ _ => rfl)))
      (pss_cons (ps_if (pt_cmpR op_ge (pv 4) (pe_op op_pow pe_int pe_int) (nomark _))
        (pss_cons (ps_asg (pe_op op_fdiv (pv 4) (pv 1)) (pg_sub (pv 2) (pv 3) set_list))
        (pss_one (ps_ret (pe_op op_modN (pe_callTy call_int1 (by rfl) T.gInt PyProof.Rows.boot_int (pa_cons (pv 4) pa_nil)) (pv 1))))) pss_nil)
      (pss_cons (ps_asg (pe_op op_add (pv 3) pe_int) (pg_sub (pv 0) pe_int set_list))
      (pss_cons (ps_set (i := 5) scDr.nd rfl (Or.inl rfl) (pe_op op_mod (pe_callTy call_int1 (by rfl) T.gInt PyProof.Rows.boot_int (pa_cons (pe_op op_mul (pe_op op_add (pe_op op_add (pv 4) (pe_op op_mul pe_int (pe_ix ix_list (pv 0) pe_int (fun _ _ => rfl)))) pe_int) pe_int) pa_nil)) pe_int))
      (pss_cons (ps_set (i := 5) scDr.nd rfl (Or.inl rfl) (pe_op op_mod (pe_callTy call_int1 (by rfl) T.gInt PyProof.Rows.boot_int (pa_cons (pe_op op_mul (pv 5) (pe_op op_add (pe_op op_fdiv (pv 5) pe_int) pe_int)) pa_nil)) pe_int))
      (pss_cons (ps_set (i := 5) scDr.nd rfl (Or.inl rfl) (pe_op op_mod (pe_callTy call_int1 (by rfl) T.gInt PyProof.Rows.boot_int (pa_cons (pe_op op_mul (pv 5) (pe_op op_add (pe_op op_fdiv (pv 5) pe_int) pe_int)) pa_nil)) pe_int))
      (pss_one (ps_ret (pe_op op_modN (pe_callTy call_int1 (by rfl) T.gInt PyProof.Rows.boot_int (pa_cons (pe_op op_fdiv (pv 5) pe_int) pa_nil)) (pv 1)))))))))))), ?_⟩
    have hlen : 0 < ((cs.map V.int).length : Int) := by rw [List.length_map]; omega
    have hat := fmod_pos (a := i) hlen
    obtain ⟨j, hj⟩ : ∃ j : Nat, i.fmod ((cs.map V.int).length : Int) = (j : Int) := ⟨_, (Int.toNat_of_nonneg hat.1).symm⟩
    have hjl : j < cs.length := by
      have := hat.2
      rw [hj, List.length_map] at this
      omega
    obtain ⟨c, hc⟩ : ∃ c, cs[j]? = some c := ⟨_, List.getElem?_eq_getElem hjl⟩
    -- cells, at, the turn
    refine ⟨_, rfl, s, _, 0, _, rfl, rfl, SqL.of e1, rfl, ?_⟩
    refine ⟨_, rfl, s, _, 1, .int i, rfl, rfl, SqL.of e1, rfl, .inl ⟨i, rfl, _, rfl, l, _, rfl, .inl (SqL.of e2), _, _, rfl, rfl, (by omega), ?_⟩⟩
    dsimp only
    rw [hj]
    refine ⟨_, rfl, s, _, 2, .int n, rfl, rfl, SqL.of e1, rfl, _, _, rfl, rfl, _, rfl, s, _, 2, 2, rfl, rfl, e1, rfl, ?_⟩
    have e1' : upd H s (.lst (([.ref l, .int i, .int n] : List V).set 2 (.int (n + 1)))) s = some (.lst [.ref l, .int i, .int (n + 1)]) := upd_same
    generalize hH1 : upd H s (.lst (([.ref l, .int i, .int n] : List V).set 2 (.int (n + 1)))) = H1 at e1'
    have e2' : H1 l = some (.lst (cs.map V.int)) := by rw [← hH1, upd_ne (Ne.symm hne)]; exact e2
    have kp1 : Kp s l H H1 := fun c o e h1 h2 => by rw [← hH1, upd_ne h1]; exact e
    refine ⟨_, rfl, _, rfl, l, _, (j : Int), .int c, rfl, rfl, SqL.of e2', atI_nat (by rw [List.getElem?_map, hc]; rfl), ?_⟩
    refine ⟨_, rfl, 10, 18, rfl, rfl, ⟨by decide, by decide, by decide⟩, c, _, rfl, rfl, _, rfl, ?_⟩
    refine ite2 (fun _ => ?_) (fun _ => ?_)
    · -- a great cell
      refine ⟨_, rfl, _, rfl, c, m, rfl, rfl, ⟨m0, m1⟩, _, rfl, _, rfl, l, _, (j : Int), j, rfl, rfl, e2', ixN_nat (by rw [List.length_map]; exact hjl), ?_⟩
      refine ⟨_, rfl, .inl ⟨c, rfl, _, rfl, c, m, rfl, rfl, by omega, ?_⟩⟩
      have hm := fmod_pos (a := c) m0
      refine k _ _ (fun c' o e h1 h2 => by rw [upd_ne h2]; exact kp1 c' o e h1 h2) ⟨i, n + 1, cs.set j (c / m), by rw [upd_ne hne]; exact e1', ?_, by rw [List.length_set]; exact c0, by rw [List.length_set]; exact c1⟩ hm.1 hm.2
      rw [upd_same, List.map_set]
    · -- a small one
      refine ⟨_, rfl, _, _, rfl, rfl, _, rfl, s, _, 1, 1, rfl, rfl, e1', rfl, ?_⟩
      have e1'' : upd H1 s (.lst (([.ref l, .int i, .int (n + 1)] : List V).set 1 (.int ((j : Int) + 1)))) s = some (.lst [.ref l, .int ((j : Int) + 1), .int (n + 1)]) := upd_same
      have kp2 : Kp s l H (upd H1 s (.lst (([.ref l, .int i, .int (n + 1)] : List V).set 1 (.int ((j : Int) + 1))))) := fun c o e h1 h2 => by rw [upd_ne h1]; exact kp1 c o e h1 h2
      have e2'' : upd H1 s (.lst (([.ref l, .int i, .int (n + 1)] : List V).set 1 (.int ((j : Int) + 1)))) l = some (.lst (cs.map V.int)) := by rw [upd_ne (Ne.symm hne)]; exact e2'
      generalize upd H1 s (.lst (([.ref l, .int i, .int (n + 1)] : List V).set 1 (.int ((j : Int) + 1)))) = H2 at e1'' e2'' kp2
      refine ⟨_, rfl, _, rfl, s, _, 2, .int (n + 1), rfl, rfl, SqL.of e1'', rfl, _, _, rfl, rfl, .inl ⟨by decide, by decide⟩, _, _, rfl, rfl, _, _, rfl, rfl, _, _, rfl, rfl, .inr ⟨by decide, by decide⟩, .inl ⟨_, rfl, _, _, rfl, rfl, (by show (0 : Int) < 2147483647; decide), ?_⟩⟩
      generalize ((c + 7919 * (n + 1) + 1) * 48271) = z1
      have b1 := emod_pos (a := z1) (m := 2147483647) (by decide)
      generalize z1 % 2147483647 = o1 at b1
      refine ⟨_, rfl, _, rfl, _, _, rfl, rfl, ⟨by decide, by decide⟩, _, _, rfl, rfl, _, _, rfl, rfl, .inl ⟨by omega, by omega⟩, .inl ⟨_, rfl, _, _, rfl, rfl, (by show (0 : Int) < 2147483647; decide), ?_⟩⟩
      generalize o1 * (o1 / 1009 + 69621) = z2
      have b2 := emod_pos (a := z2) (m := 2147483647) (by decide)
      generalize z2 % 2147483647 = o2 at b2
      refine ⟨_, rfl, _, rfl, _, _, rfl, rfl, ⟨by decide, by decide⟩, _, _, rfl, rfl, _, _, rfl, rfl, .inl ⟨by omega, by omega⟩, .inl ⟨_, rfl, _, _, rfl, rfl, (by show (0 : Int) < 2147483399; decide), ?_⟩⟩
      generalize o2 * (o2 / 2003 + 40692) = z3
      refine ⟨_, rfl, _, _, rfl, rfl, ⟨by decide, by decide⟩, .inl ⟨_, rfl, _, rfl, _, m, rfl, rfl, by omega, ?_⟩⟩
      exact k _ _ kp2 ⟨_, _, cs, e1'', e2'', c0, c1⟩ (fmod_pos m0).1 (fmod_pos m0).2
end
end Pt

namespace Pt
open PySem PySem.Spec L2
open PySem.W (findIn isFn kitOne)
abbrev sFar : Stmt := topS 18
abbrev sLInt : Stmt := topS 19
abbrev sLDiv : Stmt := topS 20
abbrev sIsR : Stmt := topS 21
def spFar : Sp := fun vs H Q _ => ∃ (s l : Addr) (B : Int), vs = [.ref s, .int B] ∧ LSt H s l ∧ 3 ≤ B ∧ ∀ H' r, Kp s l H H' → LSt H' s l → r.natAbs ≤ B.natAbs → Q (.int r) H'
def spIsR (C : Addr) : Sp := fun vs H Q _ => ∃ (p : Addr) (t b A B : Int), vs = [.ref p, .int A, .int B] ∧ RatAt C H p t b ∧ IsV t b A B ∧ Sz 4000 t b ∧ A.natAbs < 2 ^ 4000 ∧ B.natAbs < 2 ^ 4000 ∧ Q (.bl true) H
structure LawD (P : Program) (w : World) (K : PySem.W.Frag) (mg : Str → Option Value) (base : Heap) : Prop where
  bl : Bl mg
  draw : ∃ f fd, FnOk P w K mg base CX0 1 f fd ["_law_state", "_law_many"] spDraw ∧ mg "_law_draw" = some (.ref f) ∧ PySem.W.keepIn K (.ref f) = true ∧ Binds K fd ["_law_state", "_law_many"] []
section
variable {P : Program} {w : World} {K : PySem.W.Frag} {mg : Str → Option Value} {base : Heap} {C CN fN : Addr}
theorem scFar : FnScope ["_law_state", "_law_bound", "_law_kind", "_law_number", "_law_k"] ["_law_state", "_law_bound"] (defScope sFar) := ⟨rfl, rfl, rfl, by decide +kernel, rfl, by decide +kernel, by decide +kernel⟩
theorem ok_far {f : Addr} {fd : FuncData} (F : Fun K "_law_far" "_law_far" sFar f fd) (D : LawD P w K mg base) (gR : mg "range" = none) : FnOk P w K mg base CX0 2 f fd ["_law_state", "_law_bound"] spFar := by
  obtain ⟨T, fd1, fdd, Gd, md, kd, bd⟩ := D
  refine F.ok scFar (fun vs H Q E h => ?_) (fun cdv A outer s0 H vs Q E hr h => ?_)
  · obtain ⟨s, l, B, rfl, _⟩ := h
    rfl
  · obtain ⟨s, l, B, rfl, L, hB, k⟩ := h
    refine ⟨_, pss_cons (ps_set (i := 2) scFar.nd rfl (Or.inl rfl) (pe_call Gd hr rfl md kd bd .nil pass0 (pa_cons (pv 0) (pa_cons pe_int pa_nil))))
      (pss_cons (ps_if (pt_cmpR op_eq (pv 2) pe_int (nomark _)) (pss_one (ps_ret (pe_op op_sub (pe_call Gd hr rfl md kd bd .nil pass0 (pa_cons (pv 0) (pa_cons pe_int pa_nil))) pe_int))) pss_nil)
      (pss_cons (ps_if (pt_cmpR op_eq (pv 2) pe_int (nomark _)) (pss_one (ps_ret (pe_op op_sub (pv 1) (pe_call Gd hr rfl md kd bd .nil pass0 (pa_cons (pv 0) (pa_cons pe_int pa_nil)))))) pss_nil)
      (pss_cons (ps_if (pt_cmpR op_eq (pv 2) pe_int (nomark _)) (pss_one (ps_ret (pe_op op_sub (pe_call Gd hr rfl md kd bd .nil pass0 (pa_cons (pv 0) (pa_cons pe_int pa_nil))) (pv 1)))) pss_nil)
      (pss_cons (ps_set (i := 3) scFar.nd rfl (Or.inl rfl) pe_int)
      (pss_cons (ps_for PassesOwn.never rfl (pi_range1 rfl gR (pa_cons pe_int pa_nil)) (pg_name (i := 4) scFar.nd rfl (Or.inl rfl))
        (pss_one (ps_set (i := 3) scFar.nd rfl (Or.inl rfl) (pe_op op_add (pe_op op_mul (pv 3) (pe_op op_pow pe_int pe_int)) (pe_call Gd hr rfl md kd bd .nil pass0 (pa_cons (pv 0) (pa_cons (pe_op op_pow pe_int pe_int) pa_nil)))))))
      (pss_one (ps_ret (pe_op op_sub (pe_op op_modN (pe_callTy call_int1 (by rfl) T.gInt PyProof.Rows.boot_int (pa_cons (pv 3) pa_nil)) (pe_op op_add (pe_op op_mul pe_int (pv 1)) pe_int)) (pv 1))))))))), ?_⟩
    refine ⟨_, rfl, s, l, 4, rfl, L, by decide, by decide, fun H1 r0 k1 L1 r00 r01 => ?_⟩
    refine ⟨_, rfl, rfl, _, rfl, ite2 (fun _ => ?_) (fun _ => ?_)⟩
    · refine ⟨_, rfl, s, l, 7, rfl, L1, by decide, by decide, fun H2 r k2 L2 r0 r1 => ⟨_, _, rfl, rfl, ?_⟩⟩
      exact k H2 _ (k1.trans k2) L2 (by omega)
    refine ⟨_, rfl, rfl, _, rfl, ite2 (fun _ => ?_) (fun _ => ?_)⟩
    · refine ⟨_, rfl, _, rfl, s, l, 3, rfl, L1, by decide, by decide, fun H2 r k2 L2 r0 r1 => ⟨_, _, rfl, rfl, ?_⟩⟩
      exact k H2 _ (k1.trans k2) L2 (by omega)
    refine ⟨_, rfl, rfl, _, rfl, ite2 (fun _ => ?_) (fun _ => ?_)⟩
    · refine ⟨_, rfl, s, l, 3, rfl, L1, by decide, by decide, fun H2 r k2 L2 r0 r1 => ⟨_, rfl, _, _, rfl, rfl, ?_⟩⟩
      exact k H2 _ (k1.trans k2) L2 (by omega)
    refine ⟨4, rfl, by decide, by decide, for_range (n := 4) (fun i σ H' => ∃ (v : Option V) (n : Int), σ = [some (.ref s), some (.int B), some (.int r0), some (.int n), v] ∧ Kp s l H H' ∧ LSt H' s l) ⟨none, 0, rfl, k1, L1⟩ ?_ ?_⟩
    · rintro i σ H' hi ⟨v, n, rfl, k2, L2⟩
      refine ⟨_, rfl, 10, 9, rfl, rfl, ⟨by decide, by decide, by decide⟩, n, _, rfl, rfl, .inr ⟨by decide, by decide⟩, ?_⟩
      refine ⟨_, rfl, 10, 9, rfl, rfl, ⟨by decide, by decide, by decide⟩, s, l, 10 ^ 9, rfl, L2, by decide, by decide, fun H3 r k3 L3 _ _ => ⟨_, _, rfl, rfl, ?_⟩⟩
      exact ⟨_, _, rfl, k2.trans k3, L3⟩
    · rintro σ H' ⟨v, n, rfl, k2, L2⟩
      refine ⟨_, rfl, .inl ⟨n, rfl, _, rfl, 2, B, rfl, rfl, .inl ⟨by decide, by decide⟩, _, _, rfl, rfl, n, _, rfl, rfl, by omega, _, rfl, _, _, rfl, rfl, ?_⟩⟩
      have hm := fmod_pos (a := n) (m := 2 * B + 1) (by omega)
      exact k H' _ k2 L2 (by omega)
theorem scLI : FnScope ["_law_value"] ["_law_value"] (defScope sLInt) := ⟨rfl, rfl, rfl, by decide +kernel, rfl, by decide +kernel, by decide +kernel⟩
def spLInt : Sp := fun vs H Q _ => ∃ i, vs = [.int i] ∧ Q (.bl true) H
theorem ok_lint {f : Addr} {fd : FuncData} (F : Fun K "_law_integer" "_law_integer" sLInt f fd) (T : Txt K mg C CN fN) : FnOk P w K mg base CX0 1 f fd ["_law_value"] spLInt := by
  refine F.ok scLI (fun vs H Q E h => ?_) (fun cdv A outer s H vs Q E hr h => ?_)
  · obtain ⟨x, rfl, _⟩ := h
    rfl
  · obtain ⟨i, rfl, q⟩ := h
    refine ⟨_, pss_one (ps_ret (pe_and (pe_callB call_isi (by rfl) T.gIsi PyProof.Rows.boot_isinstance (pa_cons (pv 0) (pa_cons (pe_bltn (v := .ty "int") (by rfl) T.gInt PyProof.Rows.boot_int rfl) pa_nil)))
      (pe_one (pe_not (pe_callB call_isi (by rfl) T.gIsi PyProof.Rows.boot_isinstance (pa_cons (pv 0) (pa_cons (pe_bltn (v := .ty "bool") (by rfl) T.gBool PyProof.Rows.boot_bool rfl) pa_nil))))))), ?_⟩
    refine ⟨_, rfl, _, _, _, _, true, rfl, .ty _, .base (.int i), kit_ty (by decide +kernel), true, rfl, iteT ?_⟩
    exact ⟨_, rfl, _, _, _, _, false, rfl, .ty _, .base (.int i), kit_ty (by decide +kernel), false, rfl, q⟩
theorem scLD : FnScope ["_law_one", "_law_other", "_law_rest"] ["_law_one", "_law_other"] (defScope sLDiv) := ⟨rfl, rfl, rfl, by decide +kernel, rfl, by decide +kernel, by decide +kernel⟩
theorem ok_ldiv {f : Addr} {fd : FuncData} (F : Fun K "_law_divisor" "_law_divisor" sLDiv f fd) (T : Txt K mg C CN fN) : FnOk P w K mg base CX0 1 f fd ["_law_one", "_law_other"] spGcd := by
  refine F.ok scLD (fun vs H Q E h => ?_) (fun cdv A outer s H vs Q E hr h => ?_)
  · obtain ⟨a, b, rfl, _⟩ := h
    rfl
  · obtain ⟨a, b, rfl, q⟩ := h
    refine ⟨_, pss_cons (ps_while PassesOwn.never (pt_cmpR op_ne (pv 1) pe_int (nomark _))
        (pss_cons (ps_set (i := 2) scLD.nd rfl (Or.inl rfl) (pe_op op_modN (pe_callTy call_int1 (by rfl) T.gInt PyProof.Rows.boot_int (pa_cons (pv 0) pa_nil)) (pv 1)))
        (pss_cons (ps_set (i := 0) scLD.nd rfl (Or.inl rfl) (pv 1)) (pss_one (ps_set (i := 1) scLD.nd rfl (Or.inl rfl) (pv 2))))))
      (pss_one (ps_ret (pe_callB call_abs (by rfl) T.gAbs PyProof.Rows.boot_abs (pa_cons (pv 0) pa_nil)))), ?_⟩
    refine while_by (fun σ H' => ∃ (x y : Int) (v : Option V), σ = [some (.int x), some (.int y), v] ∧ H' = H ∧ Int.gcd x y = Int.gcd a b) (fun σ _ => match σ with | [_, some (.int y), _] => y.natAbs | _ => 0) ⟨a, b, none, rfl, rfl, rfl⟩ ?_ ?_
    · rintro σ H' ⟨x, y, v, rfl, rfl, e⟩
      refine ⟨_, rfl, rfl, _, rfl, ?_⟩
      by_cases hy : y = 0
      · subst hy
        refine iteNS rfl ?_
        refine ⟨_, rfl, x, rfl, ?_⟩
        have : (if x < 0 then -x else x) = (Int.gcd a b : Int) := by
          rw [← e, Int.gcd_zero_right]
          split <;> omega
        rw [this]
        exact q
      · rw [decide_eq_false (fun z => hy (V.int.inj z))]
        refine iteT ?_
        exact ⟨_, rfl, .inl ⟨x, rfl, _, rfl, _, _, rfl, rfl, hy, _, rfl, _, rfl, ⟨y, x.fmod y, _, rfl, rfl, (gcd_turn x y).trans e⟩, fmod_less x y hy⟩⟩
    · rintro σ H' Q1 Q2 m ⟨v, e1, h2⟩
      obtain ⟨h3, k, e2, h4⟩ := h2
      exact ⟨v, e1, h3, k, e2, m _ _ h4⟩
/-- the law's own eye -/
structure LawE (P : Program) (w : World) (K : PySem.W.Frag) (mg : Str → Option Value) (base : Heap) (C CN fN : Addr) : Prop where
  T : Txt K mg C CN fN
  int : ∃ f fd, FnOk P w K mg base CX0 1 f fd ["_law_value"] spLInt ∧ mg "_law_integer" = some (.ref f) ∧ PySem.W.keepIn K (.ref f) = true ∧ Binds K fd ["_law_value"] []
  div : ∃ f fd, FnOk P w K mg base CX0 1 f fd ["_law_one", "_law_other"] spGcd ∧ mg "_law_divisor" = some (.ref f) ∧ PySem.W.keepIn K (.ref f) = true ∧ Binds K fd ["_law_one", "_law_other"] []
theorem scIR : FnScope ["_law_value", "_law_top", "_law_bottom"] ["_law_value", "_law_top", "_law_bottom"] (defScope sIsR) := ⟨rfl, rfl, rfl, by decide +kernel, rfl, by decide +kernel, by decide +kernel⟩
theorem ok_isr {f : Addr} {fd : FuncData} (F : Fun K "_law_is_ratio" "_law_is_ratio" sIsR f fd) (O : LawE P w K mg base C CN fN) : FnOk P w K mg base CX0 2 f fd ["_law_value", "_law_top", "_law_bottom"] (spIsR C) := by
  obtain ⟨T, ⟨fi, fdi, Gi, mi, ki, bi⟩, ⟨fg, fdg, Gg, mgg, kg, bg⟩⟩ := O
  refine F.ok scIR (fun vs H Q E h => ?_) (fun cdv A outer s H vs Q E hr h => ?_)
  · obtain ⟨p, t, b, A, B, rfl, _⟩ := h
    rfl
  · obtain ⟨p, t, b, A, B, rfl, ⟨dx, e⟩, v, z, hA, hB, q⟩ := h
    refine ⟨_, pss_cons (ps_if (pt_not (pt_val (pe_callB call_isi (by rfl) T.gIsi PyProof.Rows.boot_isinstance (pa_cons (pv 0) (pa_cons (pe_glob rfl T.mgC (v := .ref C) rfl) pa_nil))))) (pss_one ps_never) pss_nil)
      (pss_cons (ps_if (PW.pt (pw_or (pt_not (pt_val (pe_call Gi hr rfl mi ki bi .nil pass0 (pa_cons (pe_fld (pv 0) rfl) pa_nil)))) (pw_or1 (pt_not (pt_val (pe_call Gi hr rfl mi ki bi .nil pass0 (pa_cons (pe_fld (pv 0) rfl) pa_nil))))))) (pss_one ps_never) pss_nil)
      (pss_cons (ps_if (PW.pt (pw_or (pt_cmpR op_lt (pe_fld (pv 0) rfl) pe_int (nomark _)) (pw_or1 (pt_cmpR op_ne (pe_call Gg hr rfl mgg kg bg .nil pass0 (pa_cons (pe_fld (pv 0) rfl) (pa_cons (pe_fld (pv 0) rfl) pa_nil))) pe_int (nomark _))))) (pss_one ps_never) pss_nil)
      (pss_one (ps_ret (pe_cmpR op_eq (pe_op op_mulW (pe_fld (pv 0) rfl) (pv 2)) (pe_op op_mulW (pv 1) (pe_fld (pv 0) rfl)) (nomark _)))))), ?_⟩
    refine ⟨_, rfl, _, _, _, _, true, rfl, .own C, T.ty e, T.iCC, true, rfl, iteF ?_⟩
    refine ⟨_, rfl, p, C, dx, _, _, rfl, e, T.cl, T.nT, rflds_top _ _, t, rfl, true, rfl, iteF ?_⟩
    refine ⟨_, rfl, p, C, dx, _, _, rfl, e, T.cl, T.nB, rflds_bot _ _, b, rfl, true, rfl, iteF ?_⟩
    refine ⟨_, rfl, p, C, dx, _, _, rfl, e, T.cl, T.nB, rflds_bot _ _, b, 1, rfl, rfl, _, rfl, ?_⟩
    rw [decide_eq_false (show ¬ b < 1 by have := z.2.1; omega)]
    refine iteF ?_
    refine ⟨_, rfl, p, C, dx, _, _, rfl, e, T.cl, T.nT, rflds_top _ _, _, rfl, p, C, dx, _, _, rfl, e, T.cl, T.nB, rflds_bot _ _, t, b, rfl, rfl, _, rfl, ?_⟩
    rw [v.gc]
    refine iteF ?_
    refine ⟨_, rfl, p, C, dx, _, _, rfl, e, T.cl, T.nT, rflds_top _ _, _, rfl, t, B, rfl, rfl, mulOk z.1 hB, _, rfl, _, rfl, p, C, dx, _, _, rfl, e, T.cl, T.nB, rflds_bot _ _, A, b, rfl, rfl, mulOk hA z.2.2, rfl, ?_⟩
    rw [decide_eq_true (congrArg V.int v.eq)]
    exact q
end
end Pt

namespace Pt
open PySem PySem.Spec L2
open PySem.W (findIn isFn kitOne)
/-- a Ratio or an int of value A / B -/
structure Num (C : Addr) (H : Hp) (x : V) (A B : Int) : Prop where
  ex : ∃ t b, Opd C H x t b ∧ IsV t b A B ∧ Sz 200 t b
  hA : A.natAbs < 2 ^ 200
  hB : B.natAbs < 2 ^ 200
theorem Num.same {C : Addr} {H H' : Hp} {x : V} {A B : Int} (h : Num C H x A B) (s : Same H H') : Num C H' x A B := ⟨let ⟨t, b, o, v, z⟩ := h.ex; ⟨t, b, o.same s, v, z⟩, h.hA, h.hB⟩
theorem Num.kp {C s l : Addr} {H H' : Hp} {x : V} {A B : Int} (h : Num C H x A B) (L : LSt H s l) (k : Kp s l H H') : Num C H' x A B := ⟨let ⟨t, b, o, v, z⟩ := h.ex; ⟨t, b, o.kp L k, v, z⟩, h.hA, h.hB⟩
/-- at least one of the two is a Ratio -/
def OneR (C : Addr) (H : Hp) (x y : V) : Prop := OwnV C H x ∨ OwnV C H y
/-- a result: a new Ratio of value A / B -/
def Res (C : Addr) (H : Hp) (A B : Int) (Q : VK) : Prop := ∀ H' q t b, Same H H' → RatAt C H' q t b → IsV t b A B → Sz 2500 t b → Q (.ref q) H'
section
variable {P : Program} {w : World} {K : PySem.W.Frag} {mg : Str → Option Value} {base : Heap} {C CN fN : Addr}
theorem Sz.rr {N D : Int} {n : Nat} (h : D ≠ 0) (hN : N.natAbs < 2 ^ n) (hD : D.natAbs < 2 ^ n) (k : n ≤ 2500 := by decide) : Sz 2500 (rt N D) (rb N D) :=
  ⟨lt_mono (Nat.lt_of_le_of_lt (rt_le h) hN) k, rb_pos h, lt_mono (Nat.lt_of_le_of_lt (rb_le h) hD) k⟩
theorem own_ref {H : Hp} {x : V} {t b : Int} (o : Opd C H x t b) (h : OwnV C H x) : ∃ p, x = .ref p ∧ RatAt C H p t b := by
  rcases o with o | ⟨rfl, _⟩
  · exact o
  · obtain ⟨a, _, _, e, _⟩ := h
    cases e
theorem not_own_int {H : Hp} {x : V} {t b : Int} (o : Opd C H x t b) : OwnV C H x ∨ x = .int t ∧ b = 1 := o.imp (fun ⟨p, e, r⟩ => by rw [e]; exact r.own) id
section
variable {H : Hp} {x y : V} {A B A' B' : Int} {Q : VK}
theorem sz1 {t b : Int} (z : Sz 200 t b) : Sz 1000 t b := z.mono (by decide)
theorem add_reads (h : Num C H x A B) (h' : Num C H y A' B') (o : OneR C H x y) (k : Res C H (A * B' + A' * B) (B * B') Q) : rBin rNo C (spBin C aN bD) (spBin C aN bD) E0 x y H Q := by
  obtain ⟨⟨t, b, ox, v, z⟩, _, _⟩ := h
  obtain ⟨⟨t', b', oy, v', z'⟩, _, _⟩ := h'
  rcases not_own_int ox with hx | ⟨rfl, rfl⟩
  · obtain ⟨p, rfl, r⟩ := own_ref ox hx
    refine .inr (.inl ⟨hx, oy.own, p, y, t, b, t', b', rfl, r, oy, sz1 z, sz1 z', fun H' q s r' => k H' q _ _ s r' (add_ok v v') ?_⟩)
    exact Sz.rr (mul_ne v.ne v'.ne) (lt_add (wide_lt z.1 z'.2.2) (wide_lt z'.1 z.2.2)) (lt_mono (wide_lt z.2.2 z'.2.2) (by decide))
  · have hy : OwnV C H y := o.resolve_left fun ⟨a, _, _, e, _⟩ => by cases e
    obtain ⟨p, rfl, r⟩ := own_ref oy hy
    refine .inr (.inr ⟨⟨t, rfl⟩, hy, p, .int t, t', b', t, 1, rfl, r, ox, sz1 z', sz1 z, fun H' q s r' => k H' q _ _ s r' ((add_ok v' v).to (mul_ne v.B0 v'.B0) (by grind)) ?_⟩)
    exact Sz.rr (mul_ne v'.ne v.ne) (lt_add (wide_lt z'.1 z.2.2) (wide_lt z.1 z'.2.2)) (lt_mono (wide_lt z'.2.2 z.2.2) (by decide))
theorem mul_reads (h : Num C H x A B) (h' : Num C H y A' B') (o : OneR C H x y) (k : Res C H (A * A') (B * B') Q) : rBin rNo C (spBin C mN bD) (spBin C mN bD) E0 x y H Q := by
  obtain ⟨⟨t, b, ox, v, z⟩, _, _⟩ := h
  obtain ⟨⟨t', b', oy, v', z'⟩, _, _⟩ := h'
  rcases not_own_int ox with hx | ⟨rfl, rfl⟩
  · obtain ⟨p, rfl, r⟩ := own_ref ox hx
    refine .inr (.inl ⟨hx, oy.own, p, y, t, b, t', b', rfl, r, oy, sz1 z, sz1 z', fun H' q s r' => k H' q _ _ s r' (mul_ok v v') ?_⟩)
    exact Sz.rr (mul_ne v.ne v'.ne) (wide_lt z.1 z'.1) (wide_lt z.2.2 z'.2.2)
  · have hy : OwnV C H y := o.resolve_left fun ⟨a, _, _, e, _⟩ => by cases e
    obtain ⟨p, rfl, r⟩ := own_ref oy hy
    refine .inr (.inr ⟨⟨t, rfl⟩, hy, p, .int t, t', b', t, 1, rfl, r, ox, sz1 z', sz1 z, fun H' q s r' => k H' q _ _ s r' ((mul_ok v' v).to (mul_ne v.B0 v'.B0) (by grind)) ?_⟩)
    exact Sz.rr (mul_ne v'.ne v.ne) (wide_lt z'.1 z.1) (wide_lt z'.2.2 z.2.2)
theorem sub_reads (h : Num C H x A B) (h' : Num C H y A' B') (o : OneR C H x y) (k : Res C H (A * B' - A' * B) (B * B') Q) : rBin rNo C (spBin C sN bD) (spBin C rsN rsD) E0 x y H Q := by
  obtain ⟨⟨t, b, ox, v, z⟩, _, _⟩ := h
  obtain ⟨⟨t', b', oy, v', z'⟩, _, _⟩ := h'
  rcases not_own_int ox with hx | ⟨rfl, rfl⟩
  · obtain ⟨p, rfl, r⟩ := own_ref ox hx
    refine .inr (.inl ⟨hx, oy.own, p, y, t, b, t', b', rfl, r, oy, sz1 z, sz1 z', fun H' q s r' => k H' q _ _ s r' (sub_ok v v') ?_⟩)
    exact Sz.rr (mul_ne v.ne v'.ne) (lt_sub (wide_lt z.1 z'.2.2) (wide_lt z'.1 z.2.2)) (lt_mono (wide_lt z.2.2 z'.2.2) (by decide))
  · have hy : OwnV C H y := o.resolve_left fun ⟨a, _, _, e, _⟩ => by cases e
    obtain ⟨p, rfl, r⟩ := own_ref oy hy
    have vn := neg_ok v'
    have zn1 : (rt (-t') b').natAbs < 2 ^ 200 := Nat.lt_of_le_of_lt (rt_le v'.ne) (by rw [Int.natAbs_neg]; exact z'.1)
    have zn2 : (rb (-t') b').natAbs < 2 ^ 200 := Nat.lt_of_le_of_lt (rb_le v'.ne) z'.2.2
    refine .inr (.inr ⟨⟨t, rfl⟩, hy, p, .int t, t', b', t, 1, rfl, r, ox, sz1 z', sz1 z, fun H' q s r' => k H' q _ _ s r' ((add_ok vn v).to (mul_ne v.B0 v'.B0) (by grind)) ?_⟩)
    exact Sz.rr (mul_ne vn.ne v.ne) (lt_add (wide_lt zn1 z.2.2) (wide_lt z.1 zn2)) (lt_mono (wide_lt zn2 z.2.2) (by decide))
theorem floor_reads {E : XK} (h : Num C H x A B) (h' : Num C H y A' B') (o : OneR C H x y) (yes : A' ≠ 0 → ∀ H', Same H H' → Q (.int ((A * B').fdiv (B * A'))) H') (no : A' = 0 → ∀ H', Same H H' → Zero CN H' E) :
    rBin rNo C (spFloor C CN) (spRfloor C CN) E x y H Q := by
  obtain ⟨⟨t, b, ox, v, z⟩, _, _⟩ := h
  obtain ⟨⟨t', b', oy, v', z'⟩, _, _⟩ := h'
  have fin : t' ≠ 0 → ∀ H', Same H H' → Q (.int ((t * b').fdiv (b * t'))) H' := fun h0 H' s => by
    have h1 : A' ≠ 0 := fun z => h0 ((top_zero v').mpr z)
    rw [floor_ok v v' h1]
    exact yes h1 H' s
  rcases not_own_int ox with hx | ⟨rfl, rfl⟩
  · obtain ⟨p, rfl, r⟩ := own_ref ox hx
    exact .inr (.inl ⟨hx, oy.own, p, y, t, b, t', b', rfl, r, oy, sz1 z, sz1 z', fin, fun h0 => no ((top_zero v').mp h0)⟩)
  · have hy : OwnV C H y := o.resolve_left fun ⟨a, _, _, e, _⟩ => by cases e
    obtain ⟨p, rfl, r⟩ := own_ref oy hy
    exact .inr (.inr ⟨⟨t, rfl⟩, hy, p, .int t, t', b', t, 1, rfl, r, ox, sz1 z', sz1 z, fin, fun h0 => no ((top_zero v').mp h0)⟩)
end
end
end Pt

namespace Pt
open PySem PySem.Spec L2
open PySem.W (findIn isFn kitOne)
/-- a result within 900 bits -/
def Res9 (C : Addr) (H : Hp) (A B : Int) (Q : VK) : Prop := ∀ H' q t b, Same H H' → RatAt C H' q t b → IsV t b A B → Sz 900 t b → Q (.ref q) H'
def spMod (C CN : Addr) : Sp := fun vs H Q E => ∃ (p : Addr) (y : V) (A B A' B' : Int), vs = [.ref p, y] ∧ Num C H (.ref p) A B ∧ OwnV C H (.ref p) ∧ Num C H y A' B' ∧
  (A' ≠ 0 → Res9 C H (A * B' - (A * B').fdiv (B * A') * B * A') (B * B') Q) ∧ (A' = 0 → ∀ H', Same H H' → Zero CN H' E)
def spRmod (C CN : Addr) : Sp := fun vs H Q E => ∃ (p : Addr) (y : V) (A B A' B' : Int), vs = [.ref p, y] ∧ Num C H (.ref p) A' B' ∧ OwnV C H (.ref p) ∧ Num C H y A B ∧
  (A' ≠ 0 → Res9 C H (A * B' - (A * B').fdiv (B * A') * B * A') (B * B') Q) ∧ (A' = 0 → ∀ H', Same H H' → Zero CN H' E)
def spEqR (C : Addr) : Sp := fun vs H Q _ => ∃ (p : Addr) (y : V) (t b t' b' : Int), vs = [.ref p, y] ∧ RatAt C H p t b ∧ Opd C H y t' b' ∧ Q (.bl (decide (t = t') && decide (b = b'))) H
section
variable {P : Program} {w : World} {K : PySem.W.Frag} {mg : Str → Option Value} {base : Heap} {C CN fN : Addr}
theorem OwnV.same {H H' : Hp} {x : V} (h : OwnV C H x) (s : Same H H') : OwnV C H' x := let ⟨a, d, f, e, q⟩ := h; ⟨a, d, f, e, s _ _ q⟩
theorem passL0 {X : Cx} : ∀ σ, PassesAt (L2.CX X.prog X.w) X σ E0 := fun σ pins H s e s' I c => passL pins σ H s e s' I c
structure Ops3 (P : Program) (w : World) (K : PySem.W.Frag) (mg : Str → Option Value) (base : Heap) (C CN fN : Addr) : Prop where
  O3 : Core3 P w K mg base C CN fN
  add : BinOk P w K mg base C .Add CX0 7 (spBin C aN bD) (spBin C aN bD)
  sub : BinOk P w K mg base C .Sub CX0 7 (spBin C sN bD) (spBin C rsN rsD)
  mul : BinOk P w K mg base C .Mult CX0 7 (spBin C mN bD) (spBin C mN bD)
  flo : BinOk P w K mg base C .FloorDiv (L2.CX P w) 7 (spFloor C CN) (spRfloor C CN)
theorem scMd : FnScope ["self", "other"] ["self", "other"] (defScope sMod) := ⟨rfl, rfl, rfl, by decide +kernel, rfl, by decide +kernel, by decide +kernel⟩
theorem scRm : FnScope ["self", "other"] ["self", "other"] (defScope sRmod) := ⟨rfl, rfl, rfl, by decide +kernel, rfl, by decide +kernel, by decide +kernel⟩
/-- the value of self - that -/
theorem mod_val {t b A B T1 B1 A' B' F : Int} (v : IsV t b A B) (w : IsV T1 B1 (A' * F) B') : IsV (rt (t * B1 - T1 * b) (b * B1)) (rb (t * B1 - T1 * b) (b * B1)) (A * B' - F * B * A') (B * B') :=
  (sub_ok v w).to (mul_ne v.B0 w.B0) (by grind)
theorem ok_mod {f : Addr} {fd : FuncData} (F : Fun K "__mod__" "Ratio.__mod__" sMod f fd) (O : Ops3 P w K mg base C CN fN) : FnOk P w K mg base (L2.CX P w) 8 f fd ["self", "other"] (spMod C CN) := by
  obtain ⟨O3, BA, BS, BM, BF⟩ := O
  obtain ⟨fo, fdo, Go, mo, ko, bo⟩ := O3.isO
  refine F.okX scMd (fun vs H Q E h => ?_) (fun cdv AA outer s0 H vs Q E hr h => ?_)
  · obtain ⟨p, y, A, B, A', B', rfl, _⟩ := h
    rfl
  · obtain ⟨p, y, A, B, A', B', rfl, hp, op, hy, yes, no⟩ := h
    have hr2 : Room 2 _ := hr.mono (by decide)
    refine ⟨_, pss_cons (ps_if (pt_not (pt_val (pe_call Go hr2 rfl mo ko bo .nil pass0 (pa_cons (pv 1) pa_nil)))) (pss_one ps_never) pss_nil)
      (pss_one (ps_ret (pe_bin (E := fun _ => E0) op_no BS intSub hr passA0 (pv 0) (pe_bin (E := fun _ => E0) op_mulW BM intMul hr passA0 (pv 1) (pe_bin (E := fun _ => E) op_no BF intFloor hr (passK (takes_of rfl rfl rfl rfl) (fun _ _ _ _ h => h)) (pv 0) (pv 1)))))), ?_⟩
    have hA := hp.hA
    have hB := hp.hB
    have hA' := hy.hA
    have hB' := hy.hB
    have hp0 := hp
    have hy0 := hy
    obtain ⟨⟨t, b, oo, v, z⟩, _, _⟩ := hp
    obtain ⟨⟨t', b', oy, v', z'⟩, _, _⟩ := hy
    obtain ⟨p', e, r⟩ := own_ref oo op
    cases e
    refine ⟨_, rfl, y, rfl, oy.isop, _, rfl, iteF ?_⟩
    refine ⟨_, rfl, _, rfl, _, rfl, _, rfl, floor_reads hp0 hy0 (.inl op) (fun h0 H1 s1 => ?_) no⟩
    generalize hF : (A * B').fdiv (B * A') = FF
    have szF : FF.natAbs < 2 ^ 400 := by
      rw [← hF]
      exact Nat.lt_of_le_of_lt (fdiv_le _ _) (wide_lt hA hB')
    rw [hF] at yes
    have fin : ∀ (H2 : Hp) (x : V) (T1 B1 : Int), Same H1 H2 → Opd C H2 x T1 B1 → IsV T1 B1 (A' * FF) B' → Sz 650 T1 B1 → rBin rNo C (spBin C sN bD) (spBin C rsN rsD) E0 (.ref p) x H2 Q := by
      intro H2 x T1 B1 s2 ox v1 z1
      have s12 := s1.trans s2
      have rp := r.same s12
      refine .inr (.inl ⟨rp.own, ox.own, p, x, t, b, T1, B1, rfl, rp, ox, sz1 z, z1.mono (by decide), fun H' q s r' => yes h0 H' q _ _ (s12.trans s) r' (mod_val v v1) ?_⟩)
      have hD : b * B1 ≠ 0 := mul_ne v.ne v1.ne
      refine ⟨lt_mono (Nat.lt_of_le_of_lt (rt_le hD) (lt_sub (n := 850) (lt_mono (wide_lt z.1 z1.2.2) (by decide)) (lt_mono (wide_lt z1.1 z.2.2) (by decide)))) (by decide), rb_pos hD, lt_mono (Nat.lt_of_le_of_lt (rb_le hD) (wide_lt z.2.2 z1.2.2)) (by decide)⟩
    rcases not_own_int (oy.same s1) with hy1 | ⟨rfl, rfl⟩
    · obtain ⟨q, rfl, rq⟩ := own_ref (oy.same s1) hy1
      refine .inr (.inl ⟨hy1, .inr ⟨_, rfl⟩, q, .int FF, t', b', FF, 1, rfl, rq, .inr ⟨rfl, rfl⟩, sz1 z', ⟨lt_mono szF (by decide), by decide, by decide⟩, fun H2 q2 s2 r2 => ?_⟩)
      have hD : b' * 1 ≠ 0 := by rw [Int.mul_one]; exact v'.ne
      refine fin H2 (.ref q2) _ _ s2 (.inl ⟨q2, rfl, r2⟩) ?_ ?_
      · have m := mul_ok v' (IsV.int FF)
        rw [Int.mul_one B'] at m
        exact m
      · refine ⟨lt_mono (Nat.lt_of_le_of_lt (rt_le hD) (wide_lt z'.1 szF)) (by decide), rb_pos hD, lt_mono (Nat.lt_of_le_of_lt (rb_le hD) (show (b' * 1).natAbs < 2 ^ 200 by rw [Int.mul_one]; exact z'.2.2)) (by decide)⟩
    · refine .inl ⟨t', FF, rfl, rfl, mulOk z'.1 szF, ?_⟩
      refine fin H1 (.int (t' * FF)) (t' * FF) 1 (Same.refl H1) (.inr ⟨rfl, rfl⟩) ⟨by decide, by simp, v'.B0, ?_⟩ ⟨lt_mono (wide_lt z'.1 szF) (by decide), by decide, by decide⟩
      have := v'.eq
      grind
theorem ok_rmod {f : Addr} {fd : FuncData} (F : Fun K "__rmod__" "Ratio.__rmod__" sRmod f fd) (O3 : Core3 P w K mg base C CN fN) (BMo : BinOk P w K mg base C .Mod (L2.CX P w) 8 (spMod C CN) spNo) :
    FnOk P w K mg base (L2.CX P w) 9 f fd ["self", "other"] (spRmod C CN) := by
  obtain ⟨⟨O, _⟩, ⟨fo, fdo, Go, mo, ko, bo⟩, ⟨fa, fda, Ga, ma, ka, ba⟩⟩ := O3
  refine F.okX scRm (fun vs H Q E h => ?_) (fun cdv AA outer s0 H vs Q E hr h => ?_)
  · obtain ⟨p, y, A, B, A', B', rfl, _⟩ := h
    rfl
  · obtain ⟨p, y, A, B, A', B', rfl, hp, op, hy, yes, no⟩ := h
    have hr2 : Room 2 _ := hr.mono (by decide)
    have hr5 : Room 5 _ := hr.mono (by decide)
    refine ⟨_, pss_cons (ps_if (pt_not (pt_val (pe_call Go hr2 rfl mo ko bo .nil pass0 (pa_cons (pv 1) pa_nil)))) (pss_one ps_never) pss_nil)
      (pss_one (ps_ret (pe_bin (E := fun _ => E) op_no BMo intMod hr (passK (takes_of rfl rfl rfl rfl) (fun _ _ _ _ h => h)) (pe_call Ga hr5 rfl ma ka ba .nil pass0 (pa_cons (pv 1) pa_nil)) (pv 0)))), ?_⟩
    have hy0 := hy
    obtain ⟨⟨t', b', oy, v', z'⟩, _, _⟩ := hy
    refine ⟨_, rfl, y, rfl, oy.isop, _, rfl, iteF ?_⟩
    refine ⟨_, rfl, y, t', b', rfl, oy, sz1 z', fun H1 q s1 hq => ?_⟩
    refine ⟨_, rfl, .inr (.inl ⟨hq.own, .inl (op.same s1), q, .ref p, A, B, A', B', rfl, ⟨⟨t', b', .inl ⟨q, rfl, hq⟩, v', z'⟩, hy0.hA, hy0.hB⟩, hq.own, hp.same s1, fun h0 H' q' t b s r v z => yes h0 H' q' t b (s1.trans s) r v z, fun h0 H' s2 => no h0 H' (s1.trans s2)⟩)⟩
theorem mod_reads {H : Hp} {x y : V} {A B A' B' : Int} {Q : VK} {E : XK} (h : Num C H x A B) (h' : Num C H y A' B') (o : OneR C H x y) (yes : A' ≠ 0 → Res9 C H (A * B' - (A * B').fdiv (B * A') * B * A') (B * B') Q) (no : A' = 0 → ∀ H', Same H H' → Zero CN H' E) :
    rBin rNo C (spMod C CN) (spRmod C CN) E x y H Q := by
  have hx0 := h
  have hy0 := h'
  obtain ⟨⟨t, b, ox, v, z⟩, _, _⟩ := h
  obtain ⟨⟨t', b', oy, v', z'⟩, _, _⟩ := h'
  rcases not_own_int ox with hx | ⟨rfl, rfl⟩
  · obtain ⟨p, rfl, r⟩ := own_ref ox hx
    exact .inr (.inl ⟨hx, oy.own, p, y, A, B, A', B', rfl, hx0, hx, hy0, yes, no⟩)
  · have hy : OwnV C H y := o.resolve_left fun ⟨a, _, _, e, _⟩ => by cases e
    obtain ⟨p, rfl, r⟩ := own_ref oy hy
    exact .inr (.inr ⟨⟨t, rfl⟩, hy, p, .int t, A, B, A', B', rfl, hy0, hy, hx0, yes, no⟩)
/-! ### == -/
theorem scEq : FnScope ["self", "other"] ["self", "other"] (defScope sEq) := ⟨rfl, rfl, rfl, by decide +kernel, rfl, by decide +kernel, by decide +kernel⟩
theorem dec_int_v (a b : Int) : decide (V.int a = V.int b) = decide (a = b) := by
  by_cases h : a = b
  · rw [h, decide_eq_true rfl, decide_eq_true rfl]
  · rw [decide_eq_false h, decide_eq_false (fun z => h (V.int.inj z))]
theorem ok_eq {f : Addr} {fd : FuncData} (F : Fun K "__eq__" "Ratio.__eq__" sEq f fd) (O : Core P w K mg base C CN fN) : FnOk P w K mg base CX0 2 f fd ["self", "other"] (spEqR C) := by
  obtain ⟨T, ⟨fi, fdi, Gi, mi, ki, bi⟩, _, _⟩ := O
  refine F.ok scEq (fun vs H Q E h => ?_) (fun cdv A outer s H vs Q E hr h => ?_)
  · obtain ⟨p, y, t, b, t', b', rfl, _⟩ := h
    rfl
  · obtain ⟨p, y, t, b, t', b', rfl, ⟨dx, e⟩, hy, q⟩ := h
    refine ⟨_, pss_cons (ps_if (pt_val (pe_callB call_isi (by rfl) T.gIsi PyProof.Rows.boot_isinstance (pa_cons (pv 1) (pa_cons (pe_glob rfl T.mgC (v := .ref C) rfl) pa_nil))))
        (pss_one (ps_ret (pe_and (pe_cmpR op_eq (pe_fld (pv 0) rfl) (pe_fld (pv 1) rfl) (nomark _)) (pe_one (pe_cmpR op_eq (pe_fld (pv 0) rfl) (pe_fld (pv 1) rfl) (nomark _)))))) pss_nil)
      (pss_one (ps_ret (pe_and (pe_call Gi hr rfl mi ki bi .nil pass0 (pa_cons (pv 1) pa_nil)) (pe_and (pe_cmpR op_eq (pe_fld (pv 0) rfl) pe_int (nomark _)) (pe_one (pe_cmpR op_eq (pe_fld (pv 0) rfl) (pv 1) (nomark _))))))), ?_⟩
    rcases hy with ⟨p2, rfl, dy, e2⟩ | ⟨rfl, rfl⟩
    · refine ⟨_, rfl, _, _, _, _, true, rfl, .own C, T.ty e2, T.iCC, true, rfl, iteT ?_⟩
      refine ⟨_, rfl, p, C, dx, _, _, rfl, e, T.cl, T.nT, rflds_top _ _, _, rfl, p2, C, dy, _, _, rfl, e2, T.cl, T.nT, rflds_top _ _, rfl, _, rfl, ?_⟩
      rw [dec_int_v]
      by_cases h1 : t = t'
      · rw [decide_eq_true h1] at q ⊢
        refine iteT ?_
        refine ⟨_, rfl, p, C, dx, _, _, rfl, e, T.cl, T.nB, rflds_bot _ _, _, rfl, p2, C, dy, _, _, rfl, e2, T.cl, T.nB, rflds_bot _ _, rfl, ?_⟩
        rw [dec_int_v]
        rw [Bool.true_and] at q
        exact q
      · rw [decide_eq_false h1] at q ⊢
        refine iteF ?_
        rw [Bool.false_and] at q
        exact q
    · refine ⟨_, rfl, _, _, _, _, false, rfl, .own C, .base (.int t'), T.iIC, false, rfl, iteF ?_⟩
      refine ⟨_, rfl, _, rfl, .inl ⟨⟨t', rfl⟩, true, rfl, iteT ?_⟩⟩
      refine ⟨_, rfl, p, C, dx, _, _, rfl, e, T.cl, T.nB, rflds_bot _ _, rfl, _, rfl, ?_⟩
      rw [dec_int_v]
      by_cases h1 : b = 1
      · rw [decide_eq_true h1] at q ⊢
        refine iteT ?_
        refine ⟨_, rfl, p, C, dx, _, _, rfl, e, T.cl, T.nT, rflds_top _ _, _, rfl, rfl, ?_⟩
        rw [dec_int_v]
        rw [Bool.and_true] at q
        exact q
      · rw [decide_eq_false h1] at q ⊢
        refine iteF ?_
        rw [Bool.and_false] at q
        exact q
end
end Pt

namespace Pt
open PySem PySem.Spec L2
open PySem.W (findIn isFn kitOne)
abbrev sOpd : Stmt := topS 22
abbrev sLaw : Stmt := topS 23
def spOpd (C : Addr) : Sp := fun vs H Q _ => ∃ (s l : Addr) (wh : Bool), vs = [.ref s, .bl wh] ∧ LSt H s l ∧ ∀ H' q x A B, Kp s l H H' → LSt H' s l → H' q = some (.tup [x, .int A, .int B]) → Num C H' x A B → (wh = false → OwnV C H' x) → Q (.ref q) H'
section
variable {P : Program} {w : World} {K : PySem.W.Frag} {mg : Str → Option Value} {base : Heap} {C CN fN : Addr}
theorem made1 {H : Hp} {N D : Int} {R : Hp → Prop} {x dx : Addr} {E : XK} (hN : N.natAbs < 2 ^ 4000) (hD : D.natAbs < 2 ^ 4000) (h0 : D ≠ 0) (k : ∀ H', Same H H' → RatAt C H' x (rt N D) (rb N D) → R H') (nx : H x = none) (ndx : H dx = none) (ne : dx ≠ x) :
    spInit C CN [.ref x, .int N, .int D] (upd (upd H dx (.own x)) x (.ins C dx [])) (fun v H2 => v = .non ∧ R H2) E :=
  ⟨x, dx, N, D, rfl, upd_same, hN, hD, fun _ H' kp e => ⟨rfl, k H' (fun b o z => kp b o (new_same nx ndx b o z) (ne_of_none z nx)) ⟨dx, e⟩⟩, fun z => absurd z h0⟩
theorem numInt {H : Hp} {i : Int} (h : i.natAbs < 2 ^ 200) : Num C H (.int i) i 1 := ⟨⟨i, 1, .inr ⟨rfl, rfl⟩, .int i, h, by decide, by decide⟩, h, by decide⟩
theorem numOf {H : Hp} {p : Addr} {N D A B : Int} (h0 : D ≠ 0) (hN : N.natAbs < 2 ^ 200) (hD : D.natAbs < 2 ^ 200) (hA : A.natAbs < 2 ^ 200) (hB : B.natAbs < 2 ^ 200) (b0 : B ≠ 0) (e : N * B = A * D) (r : RatAt C H p (rt N D) (rb N D)) : Num C H (.ref p) A B :=
  ⟨⟨_, _, .inl ⟨p, rfl, r⟩, (isV_new h0).to b0 e, Nat.lt_of_le_of_lt (rt_le h0) hN, rb_pos h0, Nat.lt_of_le_of_lt (rb_le h0) hD⟩, hA, hB⟩
theorem scOp : FnScope ["_law_state", "_law_whole", "_law_top", "_law_bottom"] ["_law_state", "_law_whole"] (defScope sOpd) := ⟨rfl, rfl, rfl, by decide +kernel, rfl, by decide +kernel, by decide +kernel⟩
theorem Kp.up {s l q : Addr} {H H' : Hp} {o : HO} (k : Kp s l H H') (n : H' q = none) : Kp s l H (upd H' q o) := fun c u e h1 h2 => by
  have := k c u e h1 h2
  rw [upd_ne (ne_of_none this n)]
  exact this
theorem LSt.up {s l q : Addr} {H : Hp} {o : HO} (L : LSt H s l) (n : H q = none) : LSt (upd H q o) s l := L.same fun c u e => by rw [upd_ne (ne_of_none e n)]; exact e
theorem same_up {q : Addr} {H : Hp} {o : HO} (n : H q = none) : Same H (upd H q o) := fun c u e => by rw [upd_ne (ne_of_none e n)]; exact e
theorem lt2 {x y : Int} (h : x.natAbs < 2 ^ 200) (k : y.natAbs < 2 ^ 200) : (x * y).natAbs < 2 ^ 4000 := lt_mono (wide_lt h k) (by decide)
theorem ok_opd {f : Addr} {fd : FuncData} (F : Fun K "_law_operand" "_law_operand" sOpd f fd) (O2 : Core2 P w K mg base C CN fN) (LD : LawD P w K mg base)
    (far : ∃ f fd, FnOk P w K mg base CX0 2 f fd ["_law_state", "_law_bound"] spFar ∧ mg "_law_far" = some (.ref f) ∧ PySem.W.keepIn K (.ref f) = true ∧ Binds K fd ["_law_state", "_law_bound"] []) :
    FnOk P w K mg base CX0 5 f fd ["_law_state", "_law_whole"] (spOpd C) := by
  obtain ⟨O, fi, fdi, Gi, M, b2, ds, vd, b1⟩ := O2
  obtain ⟨ff, fdf, Gf, mf, kf, bf⟩ := far
  obtain ⟨fd1, fdd, Gd, md, kd, bd⟩ := LD.draw
  have T := O.T
  refine F.ok scOp (fun vs H Q E h => ?_) (fun cdv A outer s0 H vs Q E hr h => ?_)
  · obtain ⟨s, l, wh, rfl, _⟩ := h
    rfl
  · obtain ⟨s, l, wh, rfl, L, k⟩ := h
    have hr1 : Room 1 _ := hr.mono (by decide)
    have hr2 : Room 2 _ := hr.mono (by decide)
    refine ⟨_, pss_cons (ps_set (i := 2) scOp.nd rfl (Or.inl rfl) (pe_call Gf hr2 rfl mf kf bf .nil pass0 (pa_cons (pv 0) (pa_cons (pe_op op_pow pe_int pe_int) pa_nil))))
      (pss_cons (ps_set (i := 3) scOp.nd rfl (Or.inl rfl) (pe_op op_add pe_int (pe_callB call_abs (by rfl) T.gAbs PyProof.Rows.boot_abs (pa_cons (pe_call Gf hr2 rfl mf kf bf .nil pass0 (pa_cons (pv 0) (pa_cons (pe_op op_pow pe_int pe_int) pa_nil))) pa_nil))))
      (pss_cons (ps_if (pt_val (pv 1)) (pss_one (ps_ret (pe_tup (pa_cons (pv 2) (pa_cons (pv 2) (pa_cons pe_int pa_nil)))))) pss_nil)
      (pss_cons (ps_if (pt_cmpR op_eq (pe_call Gd hr1 rfl md kd bd .nil pass0 (pa_cons (pv 0) (pa_cons pe_int pa_nil))) pe_int (nomark _))
        (pss_one (ps_ret (pe_tup (pa_cons (pe_make M Gi hr rfl T.mgC b2 .nil passL (pa_cons (pe_un un_neg (pv 2)) (pa_cons (pe_un un_neg (pv 3)) pa_nil))) (pa_cons (pv 2) (pa_cons (pv 3) pa_nil)))))) pss_nil)
      (pss_one (ps_ret (pe_tup (pa_cons (pe_make M Gi hr rfl T.mgC b2 .nil passL (pa_cons (pv 2) (pa_cons (pv 3) pa_nil))) (pa_cons (pv 2) (pa_cons (pv 3) pa_nil))))))))), ?_⟩
    refine ⟨_, rfl, 10, 20, rfl, rfl, ⟨by decide, by decide, by decide⟩, s, l, _, rfl, L, by decide, fun H1 t k1 L1 ht => ?_⟩
    have ht' : t.natAbs < 2 ^ 200 := Nat.lt_of_le_of_lt ht (by decide)
    refine ⟨_, rfl, 10, 20, rfl, rfl, ⟨by decide, by decide, by decide⟩, s, l, _, rfl, L1, by decide, fun H2 b0 k2 La hb => ⟨b0, rfl, _, _, rfl, rfl, ?_⟩⟩
    have hb' : b0.natAbs < 2 ^ 199 := Nat.lt_of_le_of_lt hb (by decide)
    have hbb : (1 + (if b0 < 0 then -b0 else b0)).natAbs < 2 ^ 200 := by
      have e : (2 : Nat) ^ 200 = 2 ^ 199 + 2 ^ 199 := by decide
      have e1 : 1 < (2 : Nat) ^ 199 := by decide
      split <;> omega
    have hne : (1 + (if b0 < 0 then -b0 else b0)) ≠ 0 := by split <;> omega
    generalize hbd : (1 + (if b0 < 0 then -b0 else b0)) = b at hbb hne
    dsimp only
    rw [hbd]
    have k12 := k1.trans k2
    refine ⟨_, rfl, wh, rfl, ?_⟩
    cases wh with
    | true =>
      refine iteT ?_
      refine ⟨_, rfl, _, rfl, (by show 3 ≤ sizeLine; decide), fun q nq => ?_⟩
      exact k _ q (.int t) t 1 (k12.up nq) (La.up nq) upd_same (numInt ht') (fun z => by cases z)
    | false =>
      refine iteF ?_
      refine ⟨_, rfl, s, l, 2, rfl, La, by decide, by decide, fun H3 r k3 L3 _ _ => ?_⟩
      have k123 := k12.trans k3
      refine ⟨rfl, _, rfl, ite2 (fun _ => ?_) (fun _ => ?_)⟩
      · refine ⟨_, rfl, t, rfl, _, rfl, b, rfl, ?_⟩
        intro x dx nx ndx ne
        refine made1 (N := -t) (D := -b) (lt_mono (by rw [Int.natAbs_neg]; exact ht') (by decide)) (lt_mono (by rw [Int.natAbs_neg]; exact hbb) (by decide)) (by omega) (fun H4 s4 r => ?_) nx ndx ne
        refine ⟨_, rfl, _, rfl, (by show 3 ≤ sizeLine; decide), fun q nq => ?_⟩
        have rr := r.same (same_up (o := .tup [V.ref x, .int t, .int b]) nq)
        exact k _ q (.ref x) t b ((k123.trans (Pt.Same.kp s4)).up nq) ((L3.same s4).up nq) upd_same (numOf (N := -t) (D := -b) (by omega) (by rw [Int.natAbs_neg]; exact ht') (by rw [Int.natAbs_neg]; exact hbb) ht' hbb hne (by rw [Int.neg_mul, Int.mul_neg]) rr) (fun _ => rr.own)
      · refine ⟨_, rfl, _, rfl, ?_⟩
        intro x dx nx ndx ne
        refine made1 (N := t) (D := b) (lt_mono ht' (by decide)) (lt_mono hbb (by decide)) hne (fun H4 s4 r => ?_) nx ndx ne
        refine ⟨_, rfl, _, rfl, (by show 3 ≤ sizeLine; decide), fun q nq => ?_⟩
        have rr := r.same (same_up (o := .tup [V.ref x, .int t, .int b]) nq)
        exact k _ q (.ref x) t b ((k123.trans (Pt.Same.kp s4)).up nq) ((L3.same s4).up nq) upd_same (numOf (N := t) (D := b) hne ht' hbb ht' hbb hne rfl rr) (fun _ => rr.own)
end
end Pt

namespace Pt
open PySem PySem.Spec L2
open PySem.W (findIn isFn kitOne)
def spLaw (K : PySem.W.Frag) : Sp := fun vs H Q _ => ∃ (a : Addr) (ns : List Int), vs = [.ref a] ∧ SqL K H a (ns.map V.int) ∧ ns.length ≤ 63 ∧ ∀ H', Q (.bl true) H'
structure Laws (P : Program) (w : World) (K : PySem.W.Frag) (mg : Str → Option Value) (base : Heap) (C CN fN : Addr) : Prop where
  ops : Ops3 P w K mg base C CN fN
  mod : BinOk P w K mg base C .Mod (L2.CX P w) 9 (spMod C CN) (spRmod C CN)
  eq : CmpOk P w K mg base C .Eq CX0 2 (spEqR C)
  isr : ∃ f fd, FnOk P w K mg base CX0 2 f fd ["_law_value", "_law_top", "_law_bottom"] (spIsR C) ∧ mg "_law_is_ratio" = some (.ref f) ∧ PySem.W.keepIn K (.ref f) = true ∧ Binds K fd ["_law_value", "_law_top", "_law_bottom"] []
  start : ∃ f fd, FnOk P w K mg base CX0 1 f fd ["_law_script"] (spStart K) ∧ mg "_law_start" = some (.ref f) ∧ PySem.W.keepIn K (.ref f) = true ∧ Binds K fd ["_law_script"] []
  draw : ∃ f fd, FnOk P w K mg base CX0 1 f fd ["_law_state", "_law_many"] spDraw ∧ mg "_law_draw" = some (.ref f) ∧ PySem.W.keepIn K (.ref f) = true ∧ Binds K fd ["_law_state", "_law_many"] []
  opd : ∃ f fd, FnOk P w K mg base CX0 5 f fd ["_law_state", "_law_whole"] (spOpd C) ∧ mg "_law_operand" = some (.ref f) ∧ PySem.W.keepIn K (.ref f) = true ∧ Binds K fd ["_law_state", "_law_whole"] []
section
variable {P : Program} {w : World} {K : PySem.W.Frag} {mg : Str → Option Value} {base : Heap} {C CN fN : Addr}
theorem OwnV.kp {s l : Addr} {H H' : Hp} {x : V} (h : OwnV C H x) (L : LSt H s l) (k : Kp s l H H') : OwnV C H' x := by
  obtain ⟨a, d, f, e, q⟩ := h
  obtain ⟨h1, h2⟩ := L.apart q
  exact ⟨a, d, f, e, k _ _ q h1 h2⟩
theorem LSt.apartT {H : Hp} {s l p : Addr} {xs : List V} (h : LSt H s l) (e : H p = some (.tup xs)) : p ≠ s ∧ p ≠ l := by
  obtain ⟨i, n, cs, e1, e2, _⟩ := h
  exact ⟨ne_of e e1 (fun z => by cases z), ne_of e e2 (fun z => by cases z)⟩
theorem eqv_ref2 : PyData.eqv (.tuple [.str "refused", .str "zero"]) (.tuple [.str "refused", .str "zero"]) = true := by decide +kernel
theorem scLaw : FnScope ["_law_script", "_law_state", "_law_kind", "_law_first", "_law_second", "_law_one", "_law_other", "_law_answer", "e", "_law_floor", "_law_rest"] ["_law_script"] (defScope sLaw) := ⟨rfl, rfl, rfl, by decide +kernel, rfl, by decide +kernel, by decide +kernel⟩
/-- the sum of the last row -/
theorem last_val {A B A' B' F : Int} (h : F = (A * B').fdiv (B * A')) : (A' * F * (B * B') + (A * B' - F * B * A') * B') * B = A * (B' * (B * B')) := by
  generalize F = F at *
  grind
theorem ok_law {f : Addr} {fd : FuncData} (F : Fun K "law" "law" sLaw f fd) (W : Laws P w K mg base C CN fN) : FnOk P w K mg base CX0 10 f fd ["_law_script"] (spLaw K) := by
  obtain ⟨O, BMo, BEq, ⟨fr, fdr, Gr, mr, kr, br⟩, ⟨f1, fd1, G1, m1, k1, b1⟩, ⟨f2, fd2, G2, m2, k2, b2⟩, ⟨f3, fd3, G3, m3, k3, b3⟩⟩ := W
  have T := O.O3.O2.O.T
  refine F.ok scLaw (fun vs H Q E h => ?_) (fun cdv AA outer s0 H vs Q E hr h => ?_)
  · obtain ⟨a, ns, rfl, _⟩ := h
    rfl
  · obtain ⟨a, ns, rfl, hS, hl, k⟩ := h
    have hr1 : Room 1 _ := hr.mono (by decide)
    have hr2 : Room 2 _ := hr.mono (by decide)
    have hr5 : Room 5 _ := hr.mono (by decide)
    have hr7 : Room 7 _ := hr.mono (by decide)
    refine ⟨_, pss_cons (ps_set (i := 1) scLaw.nd rfl (Or.inl rfl) (pe_call G1 hr1 rfl m1 k1 b1 .nil pass0 (pa_cons (pv 0) pa_nil)))
      (pss_cons (ps_set (i := 2) scLaw.nd rfl (Or.inl rfl) (pe_call G2 hr1 rfl m2 k2 b2 .nil pass0 (pa_cons (pv 1) (pa_cons pe_int pa_nil))))
      (pss_cons (ps_set (i := 3) scLaw.nd rfl (Or.inl rfl) (pe_call G3 hr5 rfl m3 k3 b3 .nil pass0 (pa_cons (pv 1) (pa_cons (pe_cmpR op_eq (pv 2) pe_int (nomark _)) pa_nil))))
      (pss_cons (ps_set (i := 4) scLaw.nd rfl (Or.inl rfl) (pe_call G3 hr5 rfl m3 k3 b3 .nil pass0 (pa_cons (pv 1) (pa_cons (pe_cmpR op_eq (pv 2) pe_int (nomark _)) pa_nil))))
      (pss_cons (ps_set (i := 5) scLaw.nd rfl (Or.inl rfl) (pe_ix ix_tup (pv 3) pe_int (fun _ _ => rfl)))
      (pss_cons (ps_set (i := 6) scLaw.nd rfl (Or.inl rfl) (pe_ix ix_tup (pv 4) pe_int (fun _ _ => rfl)))
      (pss_cons (ps_set (i := 7) scLaw.nd rfl (Or.inl rfl) (pe_tup (pa_cons pe_str (pa_cons pe_str pa_nil))))
      (pss_cons (ps_try_as (i := 8) (tb := fun W => tAsg (tTup (tCons (tC (.str "told")) (tCons (tBin rNo C (spMod C CN) (spRmod C CN) (WE W) (tVar 5) (tVar 6)) tNil))) (gName 7)) (ts := fun a cls d => tAsg (tTup (tCons (tC (.str "refused")) (tCons (tXf a cls d CN "word" (tVar 8)) tNil))) (gName 7)) (Wout := fun _ _ _ _ => False) rfl rfl scLaw.nd rfl rfl ⟨rfl, by decide, Or.inl T.mgN⟩ takes0
          (fun W pn xe tk _ => pss_one (ps_set (i := 7) scLaw.nd rfl (Or.inl rfl) (pe_tup (pa_cons pe_str (pa_cons (pe_bin (E := WE W) op_no BMo intMod hr (fun σ => passAt tk σ) (pv 5) (pv 6)) pa_nil)))))
          (fun a oe cls d pn hz hf => pss_one (ps_set (i := 7) scLaw.nd rfl (Or.inl rfl) (pe_tup (pa_cons pe_str (pa_cons (pe_xf T.xf T.nW hz hf (pv 8)) pa_nil))))))
      (pss_cons (ps_if (pt_cmpR op_eq (pe_ix ix_tup (pv 4) pe_int (fun _ _ => rfl)) pe_int (nomark _)) (pss_one (ps_ret (pe_cmpR (op_eqD hr.units) (pv 7) (pe_tup (pa_cons pe_str (pa_cons pe_str pa_nil))) (nomark _)))) pss_nil)
      (pss_cons (ps_set (i := 9) scLaw.nd rfl (Or.inl rfl) (pe_op op_fdivZ (pe_op op_mulW (pe_ix ix_tup (pv 3) pe_int (fun _ _ => rfl)) (pe_ix ix_tup (pv 4) pe_int (fun _ _ => rfl))) (pe_op op_mulW (pe_ix ix_tup (pv 3) pe_int (fun _ _ => rfl)) (pe_ix ix_tup (pv 4) pe_int (fun _ _ => rfl)))))
      (pss_cons (ps_set (i := 10) scLaw.nd rfl (Or.inl rfl) (pe_op op_sub (pe_op op_mulW (pe_ix ix_tup (pv 3) pe_int (fun _ _ => rfl)) (pe_ix ix_tup (pv 4) pe_int (fun _ _ => rfl))) (pe_op op_mulW (pe_op op_mulW (pv 9) (pe_ix ix_tup (pv 3) pe_int (fun _ _ => rfl))) (pe_ix ix_tup (pv 4) pe_int (fun _ _ => rfl)))))
      (pss_cons (ps_if (PW.pt (pw_or (pt_cmpR op_ne (pe_ix ix_tup (pv 7) pe_int (fun _ _ => rfl)) pe_str (nomark _)) (pw_or1 (pt_not (pt_val (pe_call Gr hr2 rfl mr kr br .nil pass0 (pa_cons (pe_ix ix_tup (pv 7) pe_int (fun _ _ => rfl)) (pa_cons (pv 10) (pa_cons (pe_op op_mulW (pe_ix ix_tup (pv 3) pe_int (fun _ _ => rfl)) (pe_ix ix_tup (pv 4) pe_int (fun _ _ => rfl))) pa_nil))))))))) (pss_one ps_never) pss_nil)
      (pss_one (ps_ret (pe_cmpR (op_cmp_own (E := E0) (fun _ _ => rfl) BEq hr2 passA0)
        (pe_bin (E := fun _ => E0) op_no O.add intAdd hr7 passA0 (pe_bin (E := fun _ => E0) op_mulW O.mul intMul hr7 passA0 (pv 6) (pe_bin (E := fun _ => E0) op_no O.flo intFloor hr7 passL0 (pv 5) (pv 6))) (pe_ix ix_tup (pv 7) pe_int (fun _ _ => rfl))) (pv 5) (nomark _))))))))))))))), ?_⟩
    refine ⟨_, rfl, a, ns, rfl, hS, hl, fun H1 s l s1 M1 => ?_⟩
    refine ⟨_, rfl, s, l, 3, rfl, M1, by decide, by decide, fun H2 d kp2 M2 d0 d1 => ?_⟩
    refine ⟨_, rfl, _, rfl, rfl, s, l, _, rfl, M2, fun H3 q3 x A B kp3 M3 t3 hx ox => ?_⟩
    refine ⟨_, rfl, _, rfl, rfl, s, l, _, rfl, M3, fun H4 q4 y A' B' kp4 M4 t4 hy oy => ?_⟩
    have hx4 := hx.kp M3 kp4
    have ox4 : d ≠ 0 → OwnV C H4 x := fun z => (ox (decide_eq_false fun e => z (V.int.inj e))).kp M3 kp4
    have oy4 : d ≠ 1 → OwnV C H4 y := fun z => oy (decide_eq_false fun e => z (V.int.inj e))
    have one : OneR C H4 x y := by
      by_cases z : d = 0
      · exact .inr (oy4 (by omega))
      · exact .inl (ox4 z)
    have t34 : H4 q3 = some (.tup [x, .int A, .int B]) := by
      obtain ⟨n1, n2⟩ := M3.apartT t3
      exact kp4 _ _ t3 n1 n2
    have a1 := hx.hA
    have bb1 := hx.hB
    have a2 := hy.hA
    have bb2 := hy.hB
    refine ⟨_, rfl, q3, _, 0, x, rfl, rfl, SqT.of t34, rfl, ?_⟩
    refine ⟨_, rfl, q4, _, 0, y, rfl, rfl, SqT.of t4, rfl, ?_⟩
    refine ⟨(by show 2 ≤ sizeLine; decide), fun q0 n0 => ?_⟩
    have s0' := same_up (o := .tup [.str "refused", .str ""]) n0
    have o0 : OneR C (upd H4 q0 (.tup [.str "refused", .str ""])) x y := one.imp (·.same s0') (·.same s0')
    refine ⟨_, rfl, _, rfl, mod_reads (hx4.same s0') (hy.same s0') o0 (fun h0 H5 q5 t5 b5 s5 r5 v5 z5 => ?_) (fun h0 H5 s5 dd H6 nd s6 ed => ?_)⟩
    · refine ⟨(by show 2 ≤ sizeLine; decide), fun q nq => ?_⟩
      have s7 := same_up (o := .tup [.str "told", .ref q5]) nq
      have sA : Same H4 (upd H5 q (.tup [.str "told", .ref q5])) := (s0'.trans s5).trans s7
      have t3A := sA _ _ t34
      have t4A := sA _ _ t4
      have hxA := hx4.same sA
      have hyA := hy.same sA
      have oA : OneR C _ x y := one.imp (·.same sA) (·.same sA)
      have r5A := r5.same s7
      have tA : (upd H5 q (.tup [.str "told", .ref q5])) q = some (.tup [.str "told", .ref q5]) := upd_same
      generalize upd H5 q (.tup [.str "told", .ref q5]) = HA at sA t3A t4A hxA hyA oA r5A tA
      refine ⟨_, rfl, q4, _, 1, .int A', rfl, rfl, SqT.of t4A, rfl, rfl, _, rfl, ?_⟩
      rw [decide_eq_false (fun z => h0 (V.int.inj z))]
      refine iteF ?_
      obtain ⟨⟨tx, bx, oox, vx, zx⟩, _, _⟩ := id hxA
      obtain ⟨⟨ty, by', ooy, vy, zy⟩, _, _⟩ := id hyA
      refine ⟨_, rfl, q3, _, 1, .int A, rfl, rfl, SqT.of t3A, rfl, _, rfl, q4, _, 2, .int B', rfl, rfl, SqT.of t4A, rfl, A, B', rfl, rfl, mulOk a1 bb2, ?_⟩
      refine ⟨_, rfl, q3, _, 2, .int B, rfl, rfl, SqT.of t3A, rfl, _, rfl, q4, _, 1, .int A', rfl, rfl, SqT.of t4A, rfl, B, A', rfl, rfl, mulOk bb1 a2, _, _, rfl, rfl, divOk (x := A * B') (mul_ne vx.B0 h0) (wide_lt bb1 a2), ?_⟩
      have szF : ((A * B').fdiv (B * A')).natAbs < 2 ^ 400 := Nat.lt_of_le_of_lt (fdiv_le _ _) (wide_lt a1 bb2)
      generalize hFF : (A * B').fdiv (B * A') = FF at szF v5
      have szFB : (FF * B).natAbs < 2 ^ 600 := wide_lt szF bb1
      refine ⟨_, rfl, q3, _, 1, .int A, rfl, rfl, SqT.of t3A, rfl, _, rfl, q4, _, 2, .int B', rfl, rfl, SqT.of t4A, rfl, A, B', rfl, rfl, mulOk a1 bb2, ?_⟩
      refine ⟨_, rfl, _, rfl, q3, _, 2, .int B, rfl, rfl, SqT.of t3A, rfl, (A * B').fdiv (B * A'), B, rfl, rfl, mulOk (hFF ▸ szF) bb1, _, rfl, q4, _, 1, .int A', rfl, rfl, SqT.of t4A, rfl, _, _, rfl, rfl, mulOk (n := 600) (hFF ▸ szFB) a2, _, _, rfl, rfl, ?_⟩
      refine ⟨_, rfl, q, _, 0, .str "told", rfl, rfl, SqT.of tA, rfl, rfl, _, rfl, iteF ?_⟩
      refine ⟨_, rfl, q, _, 1, .ref q5, rfl, rfl, SqT.of tA, rfl, _, rfl, _, rfl, q3, _, 2, .int B, rfl, rfl, SqT.of t3A, rfl, _, rfl, q4, _, 2, .int B', rfl, rfl, SqT.of t4A, rfl, B, B', rfl, rfl, mulOk bb1 bb2, ?_⟩
      refine ⟨q5, t5, b5, _, _, rfl, r5A, by rw [hFF]; exact v5, z5.mono (by decide), ?_, lt2 bb1 bb2, ?_⟩
      · rw [hFF]
        exact lt_mono (lt_sub (n := 850) (lt_mono (wide_lt a1 bb2) (by decide)) (lt_mono (wide_lt szFB a2) (by decide))) (by decide)
      refine ⟨true, rfl, iteF ?_⟩
      -- other * (one // other) + answer[1] == one
      refine ⟨_, rfl, _, rfl, _, rfl, floor_reads hxA hyA oA (fun _ HB sB => ?_) (fun z => absurd z h0)⟩
      rw [hFF]
      have fin : ∀ (HC : Hp) (p9 : Addr) (t9 b9 : Int), Same HB HC → RatAt C HC p9 t9 b9 → IsV t9 b9 (A' * FF * (B * B') + (A * B' - FF * B * A') * B') (B' * (B * B')) →
          tOp (rCmpO C (spEqR C) E0) (fun _ H' Q' => Q' (.ref p9) H') (fun _ H' Q' => Q' x H') ([] : _root_.L2.St) HC Q := by
        intro HC p9 t9 b9 sC r9 v9
        have sAC := sB.trans sC
        have ooC := oox.same sAC
        have vv := v9.to (A' := A) (B' := B) vx.B0 (last_val hFF.symm)
        obtain ⟨e1, e2⟩ := isV_unique vv vx
        refine ⟨r9.own, ooC.own, p9, x, t9, b9, tx, bx, rfl, r9, ooC, ?_⟩
        rw [decide_eq_true e1, decide_eq_true e2]
        exact k HC
      have szP : (ty * FF).natAbs < 2 ^ 600 := wide_lt zy.1 szF
      rcases not_own_int (ooy.same sB) with hyB | ⟨rfl, rfl⟩
      · obtain ⟨pq, rfl, rq⟩ := own_ref (ooy.same sB) hyB
        refine .inr (.inl ⟨hyB, .inr ⟨_, rfl⟩, pq, .int FF, ty, by', FF, 1, rfl, rq, .inr ⟨rfl, rfl⟩, sz1 zy, ⟨lt_mono szF (by decide), by decide, by decide⟩, fun HC p8 sC r8 => ?_⟩)
        have hD : by' * 1 ≠ 0 := by rw [Int.mul_one]; exact vy.ne
        have v8 : IsV _ _ (A' * FF) (B' * 1) := mul_ok vy (IsV.int FF)
        rw [Int.mul_one B'] at v8
        have z8 : Sz 1000 (rt (mN ty by' FF 1) (bD ty by' FF 1)) (rb (mN ty by' FF 1) (bD ty by' FF 1)) := ⟨lt_mono (Nat.lt_of_le_of_lt (rt_le hD) szP) (by decide), rb_pos hD, lt_mono (Nat.lt_of_le_of_lt (rb_le hD) (show (by' * 1).natAbs < 2 ^ 200 by rw [Int.mul_one]; exact zy.2.2)) (by decide)⟩
        have rC := r5A.same (sB.trans sC)
        refine ⟨_, rfl, q, _, 1, .ref q5, rfl, rfl, SqT.of ((sB.trans sC) _ _ tA), rfl, ?_⟩
        refine .inr (.inl ⟨r8.own, .inl rC.own, p8, .ref q5, _, _, t5, b5, rfl, r8, .inl ⟨q5, rfl, rC⟩, z8, z5.mono (by decide), fun HD p9 sD r9 => ?_⟩)
        refine ⟨_, rfl, fin HD p9 _ _ (sC.trans sD) r9 ?_⟩
        exact add_ok v8 v5
      · refine .inl ⟨ty, FF, rfl, rfl, mulOk zy.1 szF, ?_⟩
        have rC := r5A.same sB
        refine ⟨_, rfl, q, _, 1, .ref q5, rfl, rfl, SqT.of (sB _ _ tA), rfl, ?_⟩
        refine .inr (.inr ⟨⟨_, rfl⟩, rC.own, q5, .int (ty * FF), t5, b5, ty * FF, 1, rfl, rC, .inr ⟨rfl, rfl⟩, z5.mono (by decide), ⟨lt_mono szP (by decide), by decide, by decide⟩, fun HD p9 sD r9 => ?_⟩)
        refine ⟨_, rfl, fin HD p9 _ _ sD r9 ?_⟩
        have v8 : IsV (ty * FF) 1 (A' * FF) B' := ⟨by decide, by simp, vy.B0, by have := vy.eq; grind⟩
        exact (add_ok v5 v8).to (mul_ne vy.B0 (mul_ne vx.B0 vy.B0)) (by grind)
    · refine ⟨true, T.eN, fun _ a na => ?_, fun z => by cases z⟩
      refine ⟨_, rfl, rfl, rfl, dd, _, _, rfl, ed, rfl, (by show 2 ≤ sizeLine; decide), fun q nq => ?_⟩
      have s3 := same_up (o := .tup [.str "refused", .str "zero"]) nq
      have sA : Same H4 (upd H6 q (.tup [.str "refused", .str "zero"])) := ((s0'.trans s5).trans s6).trans s3
      refine ⟨_, rfl, q4, _, 1, .int A', rfl, rfl, SqT.of (sA _ _ t4), rfl, rfl, _, rfl, ?_⟩
      rw [h0, decide_eq_true rfl]
      refine iteT ?_
      refine ⟨_, rfl, (by show 2 ≤ sizeLine; decide), fun q2 n2 => ?_⟩
      have s4 := same_up (o := .tup [.str "refused", .str "zero"]) n2
      refine ⟨.tuple [.str "refused", .str "zero"], .tuple [.str "refused", .str "zero"], .tup (SqT.of (s4 _ _ upd_same)) (.cons (.str _) (.cons (.str _) .nil)), .tup (SqT.of upd_same) (.cons (.str _) (.cons (.str _) .nil)), by decide +kernel, by decide +kernel, ?_⟩
      rw [eqv_ref2]
      exact k _
end
end Pt

namespace Pt
open PySem PySem.Spec L2
open PySem.W (findIn isFn kitOne nsIn typeIn keepIn subIn codeIn clsIn)
theorem exm_own {K : PySem.W.Frag} {S : Addr} (h1 : subIn K (.ref S) (.type "BaseException") = some true) (h2 : PySem.W.isClsIn K S = true) (h3 : typeIn K (.ref S) = some (.type "type")) (h4 : subIn K (.ref S) (.ref S) = some true) :
    PySem.W.exmOne K (.ref S) (.ref S) = some true := by
  have e1 : (subIn K (.ref S) (.type "BaseException") == some true) = true := by rw [h1] <;> rfl
  have e2 : ((clsIn K S).isSome && typeIn K (.ref S) == some (.type "type")) = true := by
    have h2' : (clsIn K S).isSome = true := h2
    rw [h2', h3] <;> rfl
  unfold PySem.W.exmOne
  rw [if_pos e1]
  unfold PySem.W.kitCls
  dsimp only
  rw [if_pos e2]
  exact h4
theorem all_mk {l : PySem.W.OpenLaw} {w : World} {K : PySem.W.Frag} {h : Heap} {mg : Str → Option Value} {fa C CN fN : Addr} {fIn fsIsInt fsIsOp fsAsR fsGcd fsStart fsDraw fsFar fsLInt fsLDiv fsIsR fsOpd fsLaw fsAdd fsRadd fsSub fsRsub fsMul fsRmul fsFloor fsRfloor fsMod fsRmod fsNeg fsEq : Addr} (X : K.In h) (G : h.Ns mainGlobals mg) (hfa : mg "law" = some (.ref fa))
    {cdC : ClassData} {nmN qN : Str} {NN CP : Addr} {bsN subN : List Value} {snN : List Str} {abN : Bool} {colN : Option Bool} {ddN : Option Addr} {nm0 nm1 nm2 nm3 nm5 : Option Value} {ocNR kVNR dcNR pmNR cdNR ctNR : Value} {odNR anNR : Option Addr} {slNR : Array (Option Value)} {TD : Addr} {tcD : Value} {tdD : Option Addr} {tkD : Tok} {tnD : Nat} {tslD : Array (Option Value)} {ocIn kVIn dcIn pmIn cdIn ctIn : Value} {odIn anIn : Option Addr} {slIn : Array (Option Value)} {ocsIsInt kVsIsInt dcsIsInt pmsIsInt cdsIsInt ctsIsInt : Value} {odsIsInt ansIsInt : Option Addr} {slsIsInt : Array (Option Value)} {ocsIsOp kVsIsOp dcsIsOp pmsIsOp cdsIsOp ctsIsOp : Value} {odsIsOp ansIsOp : Option Addr} {slsIsOp : Array (Option Value)} {ocsAsR kVsAsR dcsAsR pmsAsR cdsAsR ctsAsR : Value} {odsAsR ansAsR : Option Addr} {slsAsR : Array (Option Value)} {ocsGcd kVsGcd dcsGcd pmsGcd cdsGcd ctsGcd : Value} {odsGcd ansGcd : Option Addr} {slsGcd : Array (Option Value)} {ocsStart kVsStart dcsStart pmsStart cdsStart ctsStart : Value} {odsStart ansStart : Option Addr} {slsStart : Array (Option Value)} {ocsDraw kVsDraw dcsDraw pmsDraw cdsDraw ctsDraw : Value} {odsDraw ansDraw : Option Addr} {slsDraw : Array (Option Value)} {ocsFar kVsFar dcsFar pmsFar cdsFar ctsFar : Value} {odsFar ansFar : Option Addr} {slsFar : Array (Option Value)} {ocsLInt kVsLInt dcsLInt pmsLInt cdsLInt ctsLInt : Value} {odsLInt ansLInt : Option Addr} {slsLInt : Array (Option Value)} {ocsLDiv kVsLDiv dcsLDiv pmsLDiv cdsLDiv ctsLDiv : Value} {odsLDiv ansLDiv : Option Addr} {slsLDiv : Array (Option Value)} {ocsIsR kVsIsR dcsIsR pmsIsR cdsIsR ctsIsR : Value} {odsIsR ansIsR : Option Addr} {slsIsR : Array (Option Value)} {ocsOpd kVsOpd dcsOpd pmsOpd cdsOpd ctsOpd : Value} {odsOpd ansOpd : Option Addr} {slsOpd : Array (Option Value)} {ocsLaw kVsLaw dcsLaw pmsLaw cdsLaw ctsLaw : Value} {odsLaw ansLaw : Option Addr} {slsLaw : Array (Option Value)} {ocsAdd kVsAdd dcsAdd pmsAdd cdsAdd ctsAdd : Value} {odsAdd ansAdd : Option Addr} {slsAdd : Array (Option Value)} {ocsRadd kVsRadd dcsRadd pmsRadd cdsRadd ctsRadd : Value} {odsRadd ansRadd : Option Addr} {slsRadd : Array (Option Value)} {ocsSub kVsSub dcsSub pmsSub cdsSub ctsSub : Value} {odsSub ansSub : Option Addr} {slsSub : Array (Option Value)} {ocsRsub kVsRsub dcsRsub pmsRsub cdsRsub ctsRsub : Value} {odsRsub ansRsub : Option Addr} {slsRsub : Array (Option Value)} {ocsMul kVsMul dcsMul pmsMul cdsMul ctsMul : Value} {odsMul ansMul : Option Addr} {slsMul : Array (Option Value)} {ocsRmul kVsRmul dcsRmul pmsRmul cdsRmul ctsRmul : Value} {odsRmul ansRmul : Option Addr} {slsRmul : Array (Option Value)} {ocsFloor kVsFloor dcsFloor pmsFloor cdsFloor ctsFloor : Value} {odsFloor ansFloor : Option Addr} {slsFloor : Array (Option Value)} {ocsRfloor kVsRfloor dcsRfloor pmsRfloor cdsRfloor ctsRfloor : Value} {odsRfloor ansRfloor : Option Addr} {slsRfloor : Array (Option Value)} {ocsMod kVsMod dcsMod pmsMod cdsMod ctsMod : Value} {odsMod ansMod : Option Addr} {slsMod : Array (Option Value)} {ocsRmod kVsRmod dcsRmod pmsRmod cdsRmod ctsRmod : Value} {odsRmod ansRmod : Option Addr} {slsRmod : Array (Option Value)} {ocsNeg kVsNeg dcsNeg pmsNeg cdsNeg ctsNeg : Value} {odsNeg ansNeg : Option Addr} {slsNeg : Array (Option Value)} {ocsEq kVsEq dcsEq pmsEq cdsEq ctsEq : Value} {odsEq ansEq : Option Addr} {slsEq : Array (Option Value)}
    (aC : nsIn K mainGlobals "Ratio" = some (some (.ref C)))
    (pg : PySem.W.plainGet K C Str.empty = true)
    (hd : PySem.W.hasDictIn K C = true)
    (po : PySem.W.plainOver K C = true)
    (sa : findIn K (.ref C) "__setattr__" = some (some (.builtin "object.__setattr__")))
    (mk : PySem.W.makesIn K C = true)
    (kc : keepIn K (.ref C) = true)
    (nT : findIn K (.ref C) "top" = some none)
    (nB : findIn K (.ref C) "bottom" = some none)
    (cA : findIn K (.ref C) "__class__" = some (some (.builtin "object.__class__")))
    (cN : PySem.W.specialIn K (.builtin "object.__class__") "__get__" = some (some (.builtin "getset_descriptor.__get__")))
    (cK : PySem.W.takesIn K (.builtin "object.__class__") = some true)
    (cM : PySem.W.mroIn K C (.type "object") = some true)
    (sF : PySem.W.selfFirst K C = true)
    (hcd : clsIn K C = some cdC)
    (hmro : cdC.mro = [.ref C, .type "object"])
    (sb1 : subIn K (.ref C) (.type "int") = some false)
    (sb2 : subIn K (.type "int") (.ref C) = some false)
    (iCI : kitOne K (.ref C) (.type "int") = some false)
    (iIC : kitOne K (.type "int") (.ref C) = some false)
    (iCC : kitOne K (.ref C) (.ref C) = some true)
    (aN : nsIn K mainGlobals "NoRatio" = some (some (.ref CN)))
    (xL : K.lookup CN = some (excClassObj nmN qN CN NN bsN [.ref CP, .type "ValueError", .type "Exception", .type "BaseException", .type "object"] true snN subN abN colN ddN nm0 nm1 nm2 nm3 nm5 "ValueError.__new__"))
    (saN : findIn K (.ref CN) "__setattr__" = some (some (.builtin "object.__setattr__")))
    (gaN : findIn K (.ref CN) "__getattribute__" = some (some (.builtin "BaseException.__getattribute__")))
    (ggN : findIn K (.ref CN) "__getattr__" = some none)
    (nwN : findIn K (.ref CN) "word" = some none)
    (iiN : findIn K (.ref CN) "__init__" = some (some (.ref fN)))
    (tiN : typeIn K (.ref fN) = some (.type "function"))
    (kCN : keepIn K (.ref CN) = true)
    (eCN : subIn K (.ref CN) (.type "BaseException") = some true)
    (tCN : typeIn K (.ref CN) = some (.type "type"))
    (hCN : PySem.W.hasDictIn K CN = true)
    (iCN : PySem.W.isClsIn K CN = true)
    (sCN : subIn K (.ref CN) (.ref CN) = some true)
    (lNR : K.lookup fN = some ⟨ocNR, odNR, .func (PySem.W.fnOf "__init__" "NoRatio.__init__" (defArgs sNRi) (defBody sNRi) (defScope sNRi) .none kVNR dcNR pmNR anNR cdNR ctNR), slNR⟩)
    (cNR : codeIn K cdNR "NoRatio.__init__" = true)
    (kNR : keepIn K (.ref fN) = true)
    (aIn : findIn K (.ref C) "__init__" = some (some (.ref fIn)))
    (iIn : isFn K (.ref fIn) = true)
    (lIn : K.lookup fIn = some ⟨ocIn, odIn, .func (PySem.W.fnOf "__init__" "Ratio.__init__" (defArgs sInit) (defBody sInit) (defScope sInit) (.ref TD) kVIn dcIn pmIn anIn cdIn ctIn), slIn⟩)
    (cIn : codeIn K cdIn "Ratio.__init__" = true)
    (kIn : keepIn K (.ref fIn) = true)
    (lTD : K.lookup TD = some ⟨tcD, tdD, .seq #[Value.int 1 tkD] tnD, tslD⟩)
    (asIsInt : nsIn K mainGlobals "is_integer" = some (some (.ref fsIsInt)))
    (lsIsInt : K.lookup fsIsInt = some ⟨ocsIsInt, odsIsInt, .func (PySem.W.fnOf "is_integer" "is_integer" (defArgs sIsInt) (defBody sIsInt) (defScope sIsInt) .none kVsIsInt dcsIsInt pmsIsInt ansIsInt cdsIsInt ctsIsInt), slsIsInt⟩)
    (csIsInt : codeIn K cdsIsInt "is_integer" = true)
    (ksIsInt : keepIn K (.ref fsIsInt) = true)
    (asIsOp : nsIn K mainGlobals "is_operand" = some (some (.ref fsIsOp)))
    (lsIsOp : K.lookup fsIsOp = some ⟨ocsIsOp, odsIsOp, .func (PySem.W.fnOf "is_operand" "is_operand" (defArgs sIsOp) (defBody sIsOp) (defScope sIsOp) .none kVsIsOp dcsIsOp pmsIsOp ansIsOp cdsIsOp ctsIsOp), slsIsOp⟩)
    (csIsOp : codeIn K cdsIsOp "is_operand" = true)
    (ksIsOp : keepIn K (.ref fsIsOp) = true)
    (asAsR : nsIn K mainGlobals "as_ratio" = some (some (.ref fsAsR)))
    (lsAsR : K.lookup fsAsR = some ⟨ocsAsR, odsAsR, .func (PySem.W.fnOf "as_ratio" "as_ratio" (defArgs sAsR) (defBody sAsR) (defScope sAsR) .none kVsAsR dcsAsR pmsAsR ansAsR cdsAsR ctsAsR), slsAsR⟩)
    (csAsR : codeIn K cdsAsR "as_ratio" = true)
    (ksAsR : keepIn K (.ref fsAsR) = true)
    (asGcd : nsIn K mainGlobals "common_divisor" = some (some (.ref fsGcd)))
    (lsGcd : K.lookup fsGcd = some ⟨ocsGcd, odsGcd, .func (PySem.W.fnOf "common_divisor" "common_divisor" (defArgs sGcd) (defBody sGcd) (defScope sGcd) .none kVsGcd dcsGcd pmsGcd ansGcd cdsGcd ctsGcd), slsGcd⟩)
    (csGcd : codeIn K cdsGcd "common_divisor" = true)
    (ksGcd : keepIn K (.ref fsGcd) = true)
    (asStart : nsIn K mainGlobals "_law_start" = some (some (.ref fsStart)))
    (lsStart : K.lookup fsStart = some ⟨ocsStart, odsStart, .func (PySem.W.fnOf "_law_start" "_law_start" (defArgs sStart) (defBody sStart) (defScope sStart) .none kVsStart dcsStart pmsStart ansStart cdsStart ctsStart), slsStart⟩)
    (csStart : codeIn K cdsStart "_law_start" = true)
    (ksStart : keepIn K (.ref fsStart) = true)
    (asDraw : nsIn K mainGlobals "_law_draw" = some (some (.ref fsDraw)))
    (lsDraw : K.lookup fsDraw = some ⟨ocsDraw, odsDraw, .func (PySem.W.fnOf "_law_draw" "_law_draw" (defArgs sDraw) (defBody sDraw) (defScope sDraw) .none kVsDraw dcsDraw pmsDraw ansDraw cdsDraw ctsDraw), slsDraw⟩)
    (csDraw : codeIn K cdsDraw "_law_draw" = true)
    (ksDraw : keepIn K (.ref fsDraw) = true)
    (asFar : nsIn K mainGlobals "_law_far" = some (some (.ref fsFar)))
    (lsFar : K.lookup fsFar = some ⟨ocsFar, odsFar, .func (PySem.W.fnOf "_law_far" "_law_far" (defArgs sFar) (defBody sFar) (defScope sFar) .none kVsFar dcsFar pmsFar ansFar cdsFar ctsFar), slsFar⟩)
    (csFar : codeIn K cdsFar "_law_far" = true)
    (ksFar : keepIn K (.ref fsFar) = true)
    (asLInt : nsIn K mainGlobals "_law_integer" = some (some (.ref fsLInt)))
    (lsLInt : K.lookup fsLInt = some ⟨ocsLInt, odsLInt, .func (PySem.W.fnOf "_law_integer" "_law_integer" (defArgs sLInt) (defBody sLInt) (defScope sLInt) .none kVsLInt dcsLInt pmsLInt ansLInt cdsLInt ctsLInt), slsLInt⟩)
    (csLInt : codeIn K cdsLInt "_law_integer" = true)
    (ksLInt : keepIn K (.ref fsLInt) = true)
    (asLDiv : nsIn K mainGlobals "_law_divisor" = some (some (.ref fsLDiv)))
    (lsLDiv : K.lookup fsLDiv = some ⟨ocsLDiv, odsLDiv, .func (PySem.W.fnOf "_law_divisor" "_law_divisor" (defArgs sLDiv) (defBody sLDiv) (defScope sLDiv) .none kVsLDiv dcsLDiv pmsLDiv ansLDiv cdsLDiv ctsLDiv), slsLDiv⟩)
    (csLDiv : codeIn K cdsLDiv "_law_divisor" = true)
    (ksLDiv : keepIn K (.ref fsLDiv) = true)
    (asIsR : nsIn K mainGlobals "_law_is_ratio" = some (some (.ref fsIsR)))
    (lsIsR : K.lookup fsIsR = some ⟨ocsIsR, odsIsR, .func (PySem.W.fnOf "_law_is_ratio" "_law_is_ratio" (defArgs sIsR) (defBody sIsR) (defScope sIsR) .none kVsIsR dcsIsR pmsIsR ansIsR cdsIsR ctsIsR), slsIsR⟩)
    (csIsR : codeIn K cdsIsR "_law_is_ratio" = true)
    (ksIsR : keepIn K (.ref fsIsR) = true)
    (asOpd : nsIn K mainGlobals "_law_operand" = some (some (.ref fsOpd)))
    (lsOpd : K.lookup fsOpd = some ⟨ocsOpd, odsOpd, .func (PySem.W.fnOf "_law_operand" "_law_operand" (defArgs sOpd) (defBody sOpd) (defScope sOpd) .none kVsOpd dcsOpd pmsOpd ansOpd cdsOpd ctsOpd), slsOpd⟩)
    (csOpd : codeIn K cdsOpd "_law_operand" = true)
    (ksOpd : keepIn K (.ref fsOpd) = true)
    (asLaw : nsIn K mainGlobals "law" = some (some (.ref fsLaw)))
    (lsLaw : K.lookup fsLaw = some ⟨ocsLaw, odsLaw, .func (PySem.W.fnOf "law" "law" (defArgs sLaw) (defBody sLaw) (defScope sLaw) .none kVsLaw dcsLaw pmsLaw ansLaw cdsLaw ctsLaw), slsLaw⟩)
    (csLaw : codeIn K cdsLaw "law" = true)
    (ksLaw : keepIn K (.ref fsLaw) = true)
    (asAdd : findIn K (.ref C) "__add__" = some (some (.ref fsAdd)))
    (isAdd : isFn K (.ref fsAdd) = true)
    (lsAdd : K.lookup fsAdd = some ⟨ocsAdd, odsAdd, .func (PySem.W.fnOf "__add__" "Ratio.__add__" (defArgs sAdd) (defBody sAdd) (defScope sAdd) .none kVsAdd dcsAdd pmsAdd ansAdd cdsAdd ctsAdd), slsAdd⟩)
    (csAdd : codeIn K cdsAdd "Ratio.__add__" = true)
    (ksAdd : keepIn K (.ref fsAdd) = true)
    (asRadd : findIn K (.ref C) "__radd__" = some (some (.ref fsRadd)))
    (isRadd : isFn K (.ref fsRadd) = true)
    (lsRadd : K.lookup fsRadd = some ⟨ocsRadd, odsRadd, .func (PySem.W.fnOf "__radd__" "Ratio.__radd__" (defArgs sRadd) (defBody sRadd) (defScope sRadd) .none kVsRadd dcsRadd pmsRadd ansRadd cdsRadd ctsRadd), slsRadd⟩)
    (csRadd : codeIn K cdsRadd "Ratio.__radd__" = true)
    (ksRadd : keepIn K (.ref fsRadd) = true)
    (asSub : findIn K (.ref C) "__sub__" = some (some (.ref fsSub)))
    (isSub : isFn K (.ref fsSub) = true)
    (lsSub : K.lookup fsSub = some ⟨ocsSub, odsSub, .func (PySem.W.fnOf "__sub__" "Ratio.__sub__" (defArgs sSub) (defBody sSub) (defScope sSub) .none kVsSub dcsSub pmsSub ansSub cdsSub ctsSub), slsSub⟩)
    (csSub : codeIn K cdsSub "Ratio.__sub__" = true)
    (ksSub : keepIn K (.ref fsSub) = true)
    (asRsub : findIn K (.ref C) "__rsub__" = some (some (.ref fsRsub)))
    (isRsub : isFn K (.ref fsRsub) = true)
    (lsRsub : K.lookup fsRsub = some ⟨ocsRsub, odsRsub, .func (PySem.W.fnOf "__rsub__" "Ratio.__rsub__" (defArgs sRsub) (defBody sRsub) (defScope sRsub) .none kVsRsub dcsRsub pmsRsub ansRsub cdsRsub ctsRsub), slsRsub⟩)
    (csRsub : codeIn K cdsRsub "Ratio.__rsub__" = true)
    (ksRsub : keepIn K (.ref fsRsub) = true)
    (asMul : findIn K (.ref C) "__mul__" = some (some (.ref fsMul)))
    (isMul : isFn K (.ref fsMul) = true)
    (lsMul : K.lookup fsMul = some ⟨ocsMul, odsMul, .func (PySem.W.fnOf "__mul__" "Ratio.__mul__" (defArgs sMul) (defBody sMul) (defScope sMul) .none kVsMul dcsMul pmsMul ansMul cdsMul ctsMul), slsMul⟩)
    (csMul : codeIn K cdsMul "Ratio.__mul__" = true)
    (ksMul : keepIn K (.ref fsMul) = true)
    (asRmul : findIn K (.ref C) "__rmul__" = some (some (.ref fsRmul)))
    (isRmul : isFn K (.ref fsRmul) = true)
    (lsRmul : K.lookup fsRmul = some ⟨ocsRmul, odsRmul, .func (PySem.W.fnOf "__rmul__" "Ratio.__rmul__" (defArgs sRmul) (defBody sRmul) (defScope sRmul) .none kVsRmul dcsRmul pmsRmul ansRmul cdsRmul ctsRmul), slsRmul⟩)
    (csRmul : codeIn K cdsRmul "Ratio.__rmul__" = true)
    (ksRmul : keepIn K (.ref fsRmul) = true)
    (asFloor : findIn K (.ref C) "__floordiv__" = some (some (.ref fsFloor)))
    (isFloor : isFn K (.ref fsFloor) = true)
    (lsFloor : K.lookup fsFloor = some ⟨ocsFloor, odsFloor, .func (PySem.W.fnOf "__floordiv__" "Ratio.__floordiv__" (defArgs sFloor) (defBody sFloor) (defScope sFloor) .none kVsFloor dcsFloor pmsFloor ansFloor cdsFloor ctsFloor), slsFloor⟩)
    (csFloor : codeIn K cdsFloor "Ratio.__floordiv__" = true)
    (ksFloor : keepIn K (.ref fsFloor) = true)
    (asRfloor : findIn K (.ref C) "__rfloordiv__" = some (some (.ref fsRfloor)))
    (isRfloor : isFn K (.ref fsRfloor) = true)
    (lsRfloor : K.lookup fsRfloor = some ⟨ocsRfloor, odsRfloor, .func (PySem.W.fnOf "__rfloordiv__" "Ratio.__rfloordiv__" (defArgs sRfloor) (defBody sRfloor) (defScope sRfloor) .none kVsRfloor dcsRfloor pmsRfloor ansRfloor cdsRfloor ctsRfloor), slsRfloor⟩)
    (csRfloor : codeIn K cdsRfloor "Ratio.__rfloordiv__" = true)
    (ksRfloor : keepIn K (.ref fsRfloor) = true)
    (asMod : findIn K (.ref C) "__mod__" = some (some (.ref fsMod)))
    (isMod : isFn K (.ref fsMod) = true)
    (lsMod : K.lookup fsMod = some ⟨ocsMod, odsMod, .func (PySem.W.fnOf "__mod__" "Ratio.__mod__" (defArgs sMod) (defBody sMod) (defScope sMod) .none kVsMod dcsMod pmsMod ansMod cdsMod ctsMod), slsMod⟩)
    (csMod : codeIn K cdsMod "Ratio.__mod__" = true)
    (ksMod : keepIn K (.ref fsMod) = true)
    (asRmod : findIn K (.ref C) "__rmod__" = some (some (.ref fsRmod)))
    (isRmod : isFn K (.ref fsRmod) = true)
    (lsRmod : K.lookup fsRmod = some ⟨ocsRmod, odsRmod, .func (PySem.W.fnOf "__rmod__" "Ratio.__rmod__" (defArgs sRmod) (defBody sRmod) (defScope sRmod) .none kVsRmod dcsRmod pmsRmod ansRmod cdsRmod ctsRmod), slsRmod⟩)
    (csRmod : codeIn K cdsRmod "Ratio.__rmod__" = true)
    (ksRmod : keepIn K (.ref fsRmod) = true)
    (asNeg : findIn K (.ref C) "__neg__" = some (some (.ref fsNeg)))
    (isNeg : isFn K (.ref fsNeg) = true)
    (lsNeg : K.lookup fsNeg = some ⟨ocsNeg, odsNeg, .func (PySem.W.fnOf "__neg__" "Ratio.__neg__" (defArgs sNeg) (defBody sNeg) (defScope sNeg) .none kVsNeg dcsNeg pmsNeg ansNeg cdsNeg ctsNeg), slsNeg⟩)
    (csNeg : codeIn K cdsNeg "Ratio.__neg__" = true)
    (ksNeg : keepIn K (.ref fsNeg) = true)
    (asEq : findIn K (.ref C) "__eq__" = some (some (.ref fsEq)))
    (isEq : isFn K (.ref fsEq) = true)
    (lsEq : K.lookup fsEq = some ⟨ocsEq, odsEq, .func (PySem.W.fnOf "__eq__" "Ratio.__eq__" (defArgs sEq) (defBody sEq) (defScope sEq) .none kVsEq dcsEq pmsEq ansEq cdsEq ctsEq), slsEq⟩)
    (csEq : codeIn K cdsEq "Ratio.__eq__" = true)
    (ksEq : keepIn K (.ref fsEq) = true)
    (o1Add : findIn K (.ref C) (PySem.dunder Operator.Add.info.2) = some (some (.ref fsAdd)))
    (o2Add : findIn K (.ref C) (dunderR Operator.Add.info.2) = some (some (.ref fsRadd)))
    (o3Add : findIn K (.ref C) (dunderI Operator.Add.info.2) = some none)
    (o1Sub : findIn K (.ref C) (PySem.dunder Operator.Sub.info.2) = some (some (.ref fsSub)))
    (o2Sub : findIn K (.ref C) (dunderR Operator.Sub.info.2) = some (some (.ref fsRsub)))
    (o3Sub : findIn K (.ref C) (dunderI Operator.Sub.info.2) = some none)
    (o1Mult : findIn K (.ref C) (PySem.dunder Operator.Mult.info.2) = some (some (.ref fsMul)))
    (o2Mult : findIn K (.ref C) (dunderR Operator.Mult.info.2) = some (some (.ref fsRmul)))
    (o3Mult : findIn K (.ref C) (dunderI Operator.Mult.info.2) = some none)
    (o1FloorDiv : findIn K (.ref C) (PySem.dunder Operator.FloorDiv.info.2) = some (some (.ref fsFloor)))
    (o2FloorDiv : findIn K (.ref C) (dunderR Operator.FloorDiv.info.2) = some (some (.ref fsRfloor)))
    (o3FloorDiv : findIn K (.ref C) (dunderI Operator.FloorDiv.info.2) = some none)
    (o1Mod : findIn K (.ref C) (PySem.dunder Operator.Mod.info.2) = some (some (.ref fsMod)))
    (o2Mod : findIn K (.ref C) (dunderR Operator.Mod.info.2) = some (some (.ref fsRmod)))
    (o3Mod : findIn K (.ref C) (dunderI Operator.Mod.info.2) = some none)
    (oEq : findIn K (.ref C) (cmpInfo .Eq).2.1 = some (some (.ref fsEq)))
    (zint : nsIn K mainGlobals "int" = some none)
    (zbool : nsIn K mainGlobals "bool" = some none)
    (zisinstance : nsIn K mainGlobals "isinstance" = some none)
    (zabs : nsIn K mainGlobals "abs" = some none)
    (zlen : nsIn K mainGlobals "len" = some none)
    (zrange : nsIn K mainGlobals "range" = some none)
    : ∃ fd : FuncData, (∀ (s : Shared) (v : Value), BindsTo s fd ⟨[v], []⟩ [("_law_script", v)]) ∧ ∀ base : Heap, K.In base → base.Ns mainGlobals mg → FnOk l.prog w K mg base CX0 10 fa fd ["_law_script"] (spLaw K) := by
  have e := hfa.symm.trans (PySem.W.mg_of X G asLaw)
  cases e
  have T : Txt K mg C CN fN := {
    cl := ⟨pg, hd, po, sa⟩, nT := nT, nB := nB, mgC := PySem.W.mg_of X G aC, cA := cA, cN := cN, cK := cK, cM := cM, iCI := iCI, iIC := iIC, iCC := iCC
    oex := ⟨⟨nmN, qN, NN, bsN, _, snN, subN, abN, colN, ddN, nm0, nm1, nm2, nm3, nm5, xL, rfl⟩, saN, eCN, tCN, kCN⟩
    xf := ⟨gaN, ggN, eCN, hCN⟩, nW := nwN, iN := iiN, tN := tiN, mgN := PySem.W.mg_of X G aN, eN := exm_own eCN iCN tCN sCN
    gIsi := PySem.W.mg_none_of X G zisinstance, gInt := PySem.W.mg_none_of X G zint, gBool := PySem.W.mg_none_of X G zbool, gAbs := PySem.W.mg_none_of X G zabs, gLen := PySem.W.mg_none_of X G zlen, gRange := PySem.W.mg_none_of X G zrange }
  have B : Bl mg := ⟨PySem.W.mg_none_of X G zint, PySem.W.mg_none_of X G zlen⟩
  have FsIsInt := fun_mk (x := "is_integer") (qual := "is_integer") (st := sIsInt) lsIsInt csIsInt ksIsInt
  have bsIsInt := FsIsInt.binds (ps := ["thing"]) fun _ _ _ _ _ _ us hl => match us, hl with | [_], _ => rfl
  have msIsInt := PySem.W.mg_of X G asIsInt
  have FsIsOp := fun_mk (x := "is_operand") (qual := "is_operand") (st := sIsOp) lsIsOp csIsOp ksIsOp
  have bsIsOp := FsIsOp.binds (ps := ["thing"]) fun _ _ _ _ _ _ us hl => match us, hl with | [_], _ => rfl
  have msIsOp := PySem.W.mg_of X G asIsOp
  have FsAsR := fun_mk (x := "as_ratio") (qual := "as_ratio") (st := sAsR) lsAsR csAsR ksAsR
  have bsAsR := FsAsR.binds (ps := ["number"]) fun _ _ _ _ _ _ us hl => match us, hl with | [_], _ => rfl
  have msAsR := PySem.W.mg_of X G asAsR
  have FsGcd := fun_mk (x := "common_divisor") (qual := "common_divisor") (st := sGcd) lsGcd csGcd ksGcd
  have bsGcd := FsGcd.binds (ps := ["one", "other"]) fun _ _ _ _ _ _ us hl => match us, hl with | [_, _], _ => rfl
  have msGcd := PySem.W.mg_of X G asGcd
  have FsStart := fun_mk (x := "_law_start") (qual := "_law_start") (st := sStart) lsStart csStart ksStart
  have bsStart := FsStart.binds (ps := ["_law_script"]) fun _ _ _ _ _ _ us hl => match us, hl with | [_], _ => rfl
  have msStart := PySem.W.mg_of X G asStart
  have FsDraw := fun_mk (x := "_law_draw") (qual := "_law_draw") (st := sDraw) lsDraw csDraw ksDraw
  have bsDraw := FsDraw.binds (ps := ["_law_state", "_law_many"]) fun _ _ _ _ _ _ us hl => match us, hl with | [_, _], _ => rfl
  have msDraw := PySem.W.mg_of X G asDraw
  have FsFar := fun_mk (x := "_law_far") (qual := "_law_far") (st := sFar) lsFar csFar ksFar
  have bsFar := FsFar.binds (ps := ["_law_state", "_law_bound"]) fun _ _ _ _ _ _ us hl => match us, hl with | [_, _], _ => rfl
  have msFar := PySem.W.mg_of X G asFar
  have FsLInt := fun_mk (x := "_law_integer") (qual := "_law_integer") (st := sLInt) lsLInt csLInt ksLInt
  have bsLInt := FsLInt.binds (ps := ["_law_value"]) fun _ _ _ _ _ _ us hl => match us, hl with | [_], _ => rfl
  have msLInt := PySem.W.mg_of X G asLInt
  have FsLDiv := fun_mk (x := "_law_divisor") (qual := "_law_divisor") (st := sLDiv) lsLDiv csLDiv ksLDiv
  have bsLDiv := FsLDiv.binds (ps := ["_law_one", "_law_other"]) fun _ _ _ _ _ _ us hl => match us, hl with | [_, _], _ => rfl
  have msLDiv := PySem.W.mg_of X G asLDiv
  have FsIsR := fun_mk (x := "_law_is_ratio") (qual := "_law_is_ratio") (st := sIsR) lsIsR csIsR ksIsR
  have bsIsR := FsIsR.binds (ps := ["_law_value", "_law_top", "_law_bottom"]) fun _ _ _ _ _ _ us hl => match us, hl with | [_, _, _], _ => rfl
  have msIsR := PySem.W.mg_of X G asIsR
  have FsOpd := fun_mk (x := "_law_operand") (qual := "_law_operand") (st := sOpd) lsOpd csOpd ksOpd
  have bsOpd := FsOpd.binds (ps := ["_law_state", "_law_whole"]) fun _ _ _ _ _ _ us hl => match us, hl with | [_, _], _ => rfl
  have msOpd := PySem.W.mg_of X G asOpd
  have FsLaw := fun_mk (x := "law") (qual := "law") (st := sLaw) lsLaw csLaw ksLaw
  have msLaw := PySem.W.mg_of X G asLaw
  have FsAdd := fun_mk (x := "__add__") (qual := "Ratio.__add__") (st := sAdd) lsAdd csAdd ksAdd
  have bsAdd := FsAdd.binds (ps := ["self", "other"]) fun _ _ _ _ _ _ us hl => match us, hl with | [_, _], _ => rfl
  have FsRadd := fun_mk (x := "__radd__") (qual := "Ratio.__radd__") (st := sRadd) lsRadd csRadd ksRadd
  have bsRadd := FsRadd.binds (ps := ["self", "other"]) fun _ _ _ _ _ _ us hl => match us, hl with | [_, _], _ => rfl
  have FsSub := fun_mk (x := "__sub__") (qual := "Ratio.__sub__") (st := sSub) lsSub csSub ksSub
  have bsSub := FsSub.binds (ps := ["self", "other"]) fun _ _ _ _ _ _ us hl => match us, hl with | [_, _], _ => rfl
  have FsRsub := fun_mk (x := "__rsub__") (qual := "Ratio.__rsub__") (st := sRsub) lsRsub csRsub ksRsub
  have bsRsub := FsRsub.binds (ps := ["self", "other"]) fun _ _ _ _ _ _ us hl => match us, hl with | [_, _], _ => rfl
  have FsMul := fun_mk (x := "__mul__") (qual := "Ratio.__mul__") (st := sMul) lsMul csMul ksMul
  have bsMul := FsMul.binds (ps := ["self", "other"]) fun _ _ _ _ _ _ us hl => match us, hl with | [_, _], _ => rfl
  have FsRmul := fun_mk (x := "__rmul__") (qual := "Ratio.__rmul__") (st := sRmul) lsRmul csRmul ksRmul
  have bsRmul := FsRmul.binds (ps := ["self", "other"]) fun _ _ _ _ _ _ us hl => match us, hl with | [_, _], _ => rfl
  have FsFloor := fun_mk (x := "__floordiv__") (qual := "Ratio.__floordiv__") (st := sFloor) lsFloor csFloor ksFloor
  have bsFloor := FsFloor.binds (ps := ["self", "other"]) fun _ _ _ _ _ _ us hl => match us, hl with | [_, _], _ => rfl
  have FsRfloor := fun_mk (x := "__rfloordiv__") (qual := "Ratio.__rfloordiv__") (st := sRfloor) lsRfloor csRfloor ksRfloor
  have bsRfloor := FsRfloor.binds (ps := ["self", "other"]) fun _ _ _ _ _ _ us hl => match us, hl with | [_, _], _ => rfl
  have FsMod := fun_mk (x := "__mod__") (qual := "Ratio.__mod__") (st := sMod) lsMod csMod ksMod
  have bsMod := FsMod.binds (ps := ["self", "other"]) fun _ _ _ _ _ _ us hl => match us, hl with | [_, _], _ => rfl
  have FsRmod := fun_mk (x := "__rmod__") (qual := "Ratio.__rmod__") (st := sRmod) lsRmod csRmod ksRmod
  have bsRmod := FsRmod.binds (ps := ["self", "other"]) fun _ _ _ _ _ _ us hl => match us, hl with | [_, _], _ => rfl
  have FsNeg := fun_mk (x := "__neg__") (qual := "Ratio.__neg__") (st := sNeg) lsNeg csNeg ksNeg
  have bsNeg := FsNeg.binds (ps := ["self"]) fun _ _ _ _ _ _ us hl => match us, hl with | [_], _ => rfl
  have FsEq := fun_mk (x := "__eq__") (qual := "Ratio.__eq__") (st := sEq) lsEq csEq ksEq
  have bsEq := FsEq.binds (ps := ["self", "other"]) fun _ _ _ _ _ _ us hl => match us, hl with | [_, _], _ => rfl
  have FNR := fun_mk (x := "__init__") (qual := "NoRatio.__init__") (st := sNRi) lNR cNR kNR
  have bNR := FNR.binds (ps := ["self", "word"]) fun _ _ _ _ _ _ us hl => match us, hl with | [_, _], _ => rfl
  have FIn : FunD K "__init__" "Ratio.__init__" (defArgs sInit) (defBody sInit) (defScope sInit) [.int 1] [] fIn (PySem.W.fnOf "__init__" "Ratio.__init__" (defArgs sInit) (defBody sInit) (defScope sInit) (.ref TD) kVIn dcIn pmIn anIn cdIn ctIn) :=
    ⟨⟨ocIn, odIn, .ref TD, kVIn, dcIn, pmIn, anIn, cdIn, ctIn, slIn, rfl, lIn, cIn, .inr ⟨(fun z => nomatch z), TD, _, [Value.int 1 tkD], tnD, rfl, lTD, rfl, .cons ⟨tkD, rfl⟩ .nil⟩, .inl rfl⟩, kIn⟩
  have bIn3 : Binds K (PySem.W.fnOf "__init__" "Ratio.__init__" (defArgs sInit) (defBody sInit) (defScope sInit) (.ref TD) kVIn dcIn pmIn anIn cdIn ctIn) ["self", "top", "bottom"] [] := by
    obtain ⟨ds, v, b⟩ := FIn.binds1 (ps := ["self", "top", "bottom"]) 3 1 (fun z => nomatch z) rfl fun T kV doc pm an cdv ct us its hu hi => match us, its, hu, hi with | [_, _, _], [_], _, _ => ⟨_, rfl, rfl⟩
    cases v
    exact b
  have bIn2 := FIn.binds1 (ps := ["self", "top", "bottom"]) 2 0 (fun z => nomatch z) rfl fun T kV doc pm an cdv ct us its hu hi => match us, its, hu, hi with | [_, _], [_], _, _ => ⟨_, rfl, rfl⟩
  have WAdd : OwnBin K C .Add fsAdd (some (.ref fsRadd)) := ⟨sF, ⟨_, hcd, hmro⟩, o1Add, isAdd, o2Add, .inr ⟨fsRadd, rfl, isRadd⟩, o3Add, sb1, sb2⟩
  have WSub : OwnBin K C .Sub fsSub (some (.ref fsRsub)) := ⟨sF, ⟨_, hcd, hmro⟩, o1Sub, isSub, o2Sub, .inr ⟨fsRsub, rfl, isRsub⟩, o3Sub, sb1, sb2⟩
  have WMult : OwnBin K C .Mult fsMul (some (.ref fsRmul)) := ⟨sF, ⟨_, hcd, hmro⟩, o1Mult, isMul, o2Mult, .inr ⟨fsRmul, rfl, isRmul⟩, o3Mult, sb1, sb2⟩
  have WFloorDiv : OwnBin K C .FloorDiv fsFloor (some (.ref fsRfloor)) := ⟨sF, ⟨_, hcd, hmro⟩, o1FloorDiv, isFloor, o2FloorDiv, .inr ⟨fsRfloor, rfl, isRfloor⟩, o3FloorDiv, sb1, sb2⟩
  have WMod : OwnBin K C .Mod fsMod (some (.ref fsRmod)) := ⟨sF, ⟨_, hcd, hmro⟩, o1Mod, isMod, o2Mod, .inr ⟨fsRmod, rfl, isRmod⟩, o3Mod, sb1, sb2⟩
  refine ⟨PySem.W.fnOf "law" "law" (defArgs sLaw) (defBody sLaw) (defScope sLaw) .none kVsLaw dcsLaw pmsLaw ansLaw cdsLaw ctsLaw, fun s v => ?_, fun base KB GB => ?_⟩
  rotate_left
  · have O : Core l.prog w K mg base C CN fN := ⟨T, ⟨_, _, ok_isint FsIsInt T, msIsInt, ksIsInt, bsIsInt⟩, ⟨_, _, ok_gcd FsGcd T, msGcd, ksGcd, bsGcd⟩, ⟨_, ok_nr FNR T, bNR⟩⟩
    have O2 : Core2 l.prog w K mg base C CN fN := ⟨O, _, _, ok_init FIn O, ⟨mk, aIn, iIn, kc⟩, bIn3, bIn2⟩
    have O3 : Core3 l.prog w K mg base C CN fN := ⟨O2, ⟨_, _, ok_isop FsIsOp O, msIsOp, ksIsOp, bsIsOp⟩, ⟨_, _, ok_asr FsAsR O2, msAsR, ksAsR, bsAsR⟩⟩
    have gAdd := ok_add (P := l.prog) (w := w) (base := base) FsAdd O3
    have gSub := ok_sub (P := l.prog) (w := w) (base := base) FsSub O3
    have gMul := ok_mul (P := l.prog) (w := w) (base := base) FsMul O3
    have gFlo := ok_floor (P := l.prog) (w := w) (base := base) FsFloor O3
    have uNeg : UnOk l.prog w K mg base C "__neg__" CX0 5 (spUn C fun t => -t) := ⟨fsNeg, _, _, asNeg, isNeg, ok_neg FsNeg O2, bsNeg⟩
    have BA := BinOk.only WAdd isRadd gAdd bsAdd
    have D : LawD l.prog w K mg base := ⟨B, _, _, ok_draw FsDraw B, msDraw, ksDraw, bsDraw⟩
    have V : LawE l.prog w K mg base C CN fN := ⟨T, ⟨_, _, ok_lint FsLInt T, msLInt, ksLInt, bsLInt⟩, ⟨_, _, ok_ldiv FsLDiv T, msLDiv, ksLDiv, bsLDiv⟩⟩
    have S : Ops3 l.prog w K mg base C CN fN := {
      O3 := O3
      add := BinOk.both WAdd isRadd (gAdd.mono (by decide)) bsAdd (ok_radd FsRadd BA) bsRadd
      sub := BinOk.both WSub isRsub (gSub.mono (by decide)) bsSub (ok_rsub FsRsub BA uNeg) bsRsub
      mul := BinOk.both WMult isRmul (gMul.mono (by decide)) bsMul (ok_rmul FsRmul (BinOk.only WMult isRmul gMul bsMul)) bsRmul
      flo := BinOk.both WFloorDiv isRfloor (gFlo.mono (by decide)) bsFloor (ok_rfloor FsRfloor O3 (BinOk.only WFloorDiv isRfloor gFlo bsFloor)) bsRfloor }
    have gMod := ok_mod (P := l.prog) (w := w) (base := base) FsMod S
    have far : ∃ f fd, FnOk l.prog w K mg base CX0 2 f fd ["_law_state", "_law_bound"] spFar ∧ mg "_law_far" = some (.ref f) ∧ PySem.W.keepIn K (.ref f) = true ∧ Binds K fd ["_law_state", "_law_bound"] [] := ⟨_, _, ok_far FsFar D T.gRange, msFar, ksFar, bsFar⟩
    exact ok_law FsLaw {
      ops := S
      mod := BinOk.both WMod isRmod (gMod.mono (by decide)) bsMod (ok_rmod FsRmod O3 (BinOk.only WMod isRmod gMod bsMod)) bsRmod
      eq := ⟨⟨_, _, _, oEq, isEq, ok_eq FsEq O, bsEq⟩, sb2⟩
      isr := ⟨_, _, ok_isr FsIsR V, msIsR, ksIsR, bsIsR⟩
      start := ⟨_, _, ok_start FsStart B, msStart, ksStart, bsStart⟩
      draw := D.draw
      opd := ⟨_, _, ok_opd FsOpd O2 D far, msOpd, ksOpd, bsOpd⟩ }
  · exact .of_eq rfl
end Pt
open PySem PySem.W PyProof.Rows
set_option maxRecDepth 100000 in
set_option maxHeartbeats 0 in
theorem PySem.Challenge.cw_partstell_k03_ratio_remainder_holds : PySem.Challenge.rw_partstell_k03_ratio_remainder.Holds := by
  w_on; o_law; k_head; (case hw => w_witness2)
  k_fill
  refine L2.walk_of (l := PySem.Challenge.rw_partstell_k03_ratio_remainder) (n := 63) (k := 10) (x := "_law_script") (CX := fun _ => L2.CX0) (sp := fun w => Pt.spLaw _) rfl (by decide) rfl ⟨rfl, by decide, by decide⟩ (fun w h Y => PySem.W.kIn_of Y) ?F (fun _ _ a ns hl _ hS => ⟨a, ns, rfl, hS, hl, fun _ => rfl⟩) (fun _ _ _ _ _ z => z)
  case F =>
    intro w mg fa h KX G hmg
    refine' Pt.all_mk KX G hmg ?aC ?pg ?hd ?po ?sa ?mk ?kc ?nT ?nB ?cA ?cN ?cK ?cM ?sF ?hcd ?hmro ?sb1 ?sb2 ?iCI ?iIC ?iCC ?aN ?xL ?saN ?gaN ?ggN ?nwN ?iiN ?tiN ?kCN ?eCN ?tCN ?hCN ?iCN ?sCN ?lNR ?cNR ?kNR ?aIn ?iIn ?lIn ?cIn ?kIn ?lTD ?asIsInt ?lsIsInt ?csIsInt ?ksIsInt ?asIsOp ?lsIsOp ?csIsOp ?ksIsOp ?asAsR ?lsAsR ?csAsR ?ksAsR ?asGcd ?lsGcd ?csGcd ?ksGcd ?asStart ?lsStart ?csStart ?ksStart ?asDraw ?lsDraw ?csDraw ?ksDraw ?asFar ?lsFar ?csFar ?ksFar ?asLInt ?lsLInt ?csLInt ?ksLInt ?asLDiv ?lsLDiv ?csLDiv ?ksLDiv ?asIsR ?lsIsR ?csIsR ?ksIsR ?asOpd ?lsOpd ?csOpd ?ksOpd ?asLaw ?lsLaw ?csLaw ?ksLaw ?asAdd ?isAdd ?lsAdd ?csAdd ?ksAdd ?asRadd ?isRadd ?lsRadd ?csRadd ?ksRadd ?asSub ?isSub ?lsSub ?csSub ?ksSub ?asRsub ?isRsub ?lsRsub ?csRsub ?ksRsub ?asMul ?isMul ?lsMul ?csMul ?ksMul ?asRmul ?isRmul ?lsRmul ?csRmul ?ksRmul ?asFloor ?isFloor ?lsFloor ?csFloor ?ksFloor ?asRfloor ?isRfloor ?lsRfloor ?csRfloor ?ksRfloor ?asMod ?isMod ?lsMod ?csMod ?ksMod ?asRmod ?isRmod ?lsRmod ?csRmod ?ksRmod ?asNeg ?isNeg ?lsNeg ?csNeg ?ksNeg ?asEq ?isEq ?lsEq ?csEq ?ksEq ?o1Add ?o2Add ?o3Add ?o1Sub ?o2Sub ?o3Sub ?o1Mult ?o2Mult ?o3Mult ?o1FloorDiv ?o2FloorDiv ?o3FloorDiv ?o1Mod ?o2Mod ?o3Mod ?oEq ?zint ?zbool ?zisinstance ?zabs ?zlen ?zrange
    (case aC => k_is)
    (case pg => k_is)
    (case hd => k_is)
    (case po => k_is)
    (case sa => k_is)
    (case mk => k_is)
    (case kc => k_is)
    (case nT => k_is)
    (case nB => k_is)
    (case cA => k_is)
    (case cN => k_is)
    (case cK => k_is)
    (case cM => k_is)
    (case sF => k_is)
    (case hcd => k_is)
    (case hmro => exact rfl)
    (case sb1 => k_is)
    (case sb2 => k_is)
    (case iCI => kit_is)
    (case iIC => kit_is)
    (case iCC => kit_is)
    (case aN => k_is)
    (case xL => k_is)
    (case saN => k_is)
    (case gaN => k_is)
    (case ggN => k_is)
    (case nwN => k_is)
    (case iiN => k_is)
    (case tiN => k_is)
    (case kCN => k_is)
    (case eCN => k_is)
    (case tCN => k_is)
    (case hCN => k_is)
    (case iCN => k_is)
    (case sCN => first | rfl | k_is)
    (case lNR => k_is)
    (case cNR => k_is)
    (case kNR => k_is)
    (case aIn => k_is)
    (case iIn => k_is)
    (case lIn => k_is)
    (case cIn => k_is)
    (case kIn => k_is)
    (case lTD => k_is)
    (case asIsInt => k_is)
    (case lsIsInt => k_is)
    (case csIsInt => k_is)
    (case ksIsInt => k_is)
    (case asIsOp => k_is)
    (case lsIsOp => k_is)
    (case csIsOp => k_is)
    (case ksIsOp => k_is)
    (case asAsR => k_is)
    (case lsAsR => k_is)
    (case csAsR => k_is)
    (case ksAsR => k_is)
    (case asGcd => k_is)
    (case lsGcd => k_is)
    (case csGcd => k_is)
    (case ksGcd => k_is)
    (case asStart => k_is)
    (case lsStart => k_is)
    (case csStart => k_is)
    (case ksStart => k_is)
    (case asDraw => k_is)
    (case lsDraw => k_is)
    (case csDraw => k_is)
    (case ksDraw => k_is)
    (case asFar => k_is)
    (case lsFar => k_is)
    (case csFar => k_is)
    (case ksFar => k_is)
    (case asLInt => k_is)
    (case lsLInt => k_is)
    (case csLInt => k_is)
    (case ksLInt => k_is)
    (case asLDiv => k_is)
    (case lsLDiv => k_is)
    (case csLDiv => k_is)
    (case ksLDiv => k_is)
    (case asIsR => k_is)
    (case lsIsR => k_is)
    (case csIsR => k_is)
    (case ksIsR => k_is)
    (case asOpd => k_is)
    (case lsOpd => k_is)
    (case csOpd => k_is)
    (case ksOpd => k_is)
    (case asLaw => k_is)
    (case lsLaw => k_is)
    (case csLaw => k_is)
    (case ksLaw => k_is)
    (case asAdd => k_is)
    (case isAdd => k_is)
    (case lsAdd => k_is)
    (case csAdd => k_is)
    (case ksAdd => k_is)
    (case asRadd => k_is)
    (case isRadd => k_is)
    (case lsRadd => k_is)
    (case csRadd => k_is)
    (case ksRadd => k_is)
    (case asSub => k_is)
    (case isSub => k_is)
    (case lsSub => k_is)
    (case csSub => k_is)
    (case ksSub => k_is)
    (case asRsub => k_is)
    (case isRsub => k_is)
    (case lsRsub => k_is)
    (case csRsub => k_is)
    (case ksRsub => k_is)
    (case asMul => k_is)
    (case isMul => k_is)
    (case lsMul => k_is)
    (case csMul => k_is)
    (case ksMul => k_is)
    (case asRmul => k_is)
    (case isRmul => k_is)
    (case lsRmul => k_is)
    (case csRmul => k_is)
    (case ksRmul => k_is)
    (case asFloor => k_is)
    (case isFloor => k_is)
    (case lsFloor => k_is)
    (case csFloor => k_is)
    (case ksFloor => k_is)
    (case asRfloor => k_is)
    (case isRfloor => k_is)
    (case lsRfloor => k_is)
    (case csRfloor => k_is)
    (case ksRfloor => k_is)
    (case asMod => k_is)
    (case isMod => k_is)
    (case lsMod => k_is)
    (case csMod => k_is)
    (case ksMod => k_is)
    (case asRmod => k_is)
    (case isRmod => k_is)
    (case lsRmod => k_is)
    (case csRmod => k_is)
    (case ksRmod => k_is)
    (case asNeg => k_is)
    (case isNeg => k_is)
    (case lsNeg => k_is)
    (case csNeg => k_is)
    (case ksNeg => k_is)
    (case asEq => k_is)
    (case isEq => k_is)
    (case lsEq => k_is)
    (case csEq => k_is)
    (case ksEq => k_is)
    (case o1Add => k_is)
    (case o2Add => k_is)
    (case o3Add => k_is)
    (case o1Sub => k_is)
    (case o2Sub => k_is)
    (case o3Sub => k_is)
    (case o1Mult => k_is)
    (case o2Mult => k_is)
    (case o3Mult => k_is)
    (case o1FloorDiv => k_is)
    (case o2FloorDiv => k_is)
    (case o3FloorDiv => k_is)
    (case o1Mod => k_is)
    (case o2Mod => k_is)
    (case o3Mod => k_is)
    (case oEq => k_is)
    (case zint => k_is)
    (case zbool => k_is)
    (case zisinstance => k_is)
    (case zabs => k_is)
    (case zlen => k_is)
    (case zrange => k_is)
#print axioms PySem.Challenge.cw_partstell_k03_ratio_remainder_holds

