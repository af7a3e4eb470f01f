import PyProof.Rows.All
import Wide.All
import OpenK.AllK
import Wide.FinOn
import HandS.ForMost
import HandS.ForExc
import HandS.Wide
import HandS.IsInst
import HandS.Defaults
import HandS.ExcInit
import HandS.ExcField
import HandS.Flow
import HandS.Style
import HandS.OwnEq
import HandS.RaiseOp
import PyProof.ListMulRoad
import PyProof.FactsAll.int
import HandS.FStr
import HandS.StrMore
import HandS.StrSplit
import PySem.Challenge.RW_partstell_k04_ratio_powers_and_texts
set_option Elab.async false
set_option linter.all false
set_option maxRecDepth 100000
set_option maxHeartbeats 4000000
set_option exponentiation.threshold 100000
/-! Operators of an own class, with ints on either side. -/
namespace Pt
open PySem PySem.Spec PyProof.Rows L2
open Builtin
/-- an object that is no int -/
def plainObj (C dx : Addr) : Obj := PySem.W.instObj C dx
section
variable (a : Int) (t : Tok) (l C dx : Addr)
abbrev Decl (B : Builtin) (a : Int) (t : Tok) (l C dx : Addr) : Prop := Meets (B ⟨[.int a t, .ref l], []⟩) (fun _ R s => s.heap.get? l = some (PySem.W.instObj C dx) ∧ R (.ok (.ret Value.notImplemented)) s)
theorem dec_add : Decl Builtin.«int.__add__» a t l C dx := .of_wp fun prog w A R s h => by
  obtain ⟨hp, g, d, tk, os⟩ := s; obtain ⟨hl, h⟩ := h; unfold PySem.W.instObj at hl; wp_walk; exact ⟨_, rfl, h⟩
theorem dec_sub : Decl Builtin.«int.__sub__» a t l C dx := .of_wp fun prog w A R s h => by
  obtain ⟨hp, g, d, tk, os⟩ := s; obtain ⟨hl, h⟩ := h; unfold PySem.W.instObj at hl; wp_walk; exact ⟨_, rfl, h⟩
theorem dec_mul : Decl Builtin.«int.__mul__» a t l C dx := .of_wp fun prog w A R s h => by
  obtain ⟨hp, g, d, tk, os⟩ := s; obtain ⟨hl, h⟩ := h; unfold PySem.W.instObj at hl; wp_walk; exact ⟨_, rfl, h⟩
theorem dec_mod : Decl Builtin.«int.__mod__» a t l C dx := .of_wp fun prog w A R s h => by
  obtain ⟨hp, g, d, tk, os⟩ := s; obtain ⟨hl, h⟩ := h; unfold PySem.W.instObj at hl; wp_walk; exact ⟨_, rfl, h⟩
theorem dec_floordiv : Decl Builtin.«int.__floordiv__» a t l C dx := .of_wp fun prog w A R s h => by
  obtain ⟨hp, g, d, tk, os⟩ := s; obtain ⟨hl, h⟩ := h; unfold PySem.W.instObj at hl; wp_walk; exact ⟨_, rfl, h⟩
theorem dec_lt : Decl Builtin.«int.__lt__» a t l C dx := .of_wp fun prog w A R s h => by
  obtain ⟨hp, g, d, tk, os⟩ := s; obtain ⟨hl, h⟩ := h; unfold PySem.W.instObj at hl; wp_walk; exact ⟨_, rfl, h⟩
theorem dec_le : Decl Builtin.«int.__le__» a t l C dx := .of_wp fun prog w A R s h => by
  obtain ⟨hp, g, d, tk, os⟩ := s; obtain ⟨hl, h⟩ := h; unfold PySem.W.instObj at hl; wp_walk; exact ⟨_, rfl, h⟩
theorem dec_gt : Decl Builtin.«int.__gt__» a t l C dx := .of_wp fun prog w A R s h => by
  obtain ⟨hp, g, d, tk, os⟩ := s; obtain ⟨hl, h⟩ := h; unfold PySem.W.instObj at hl; wp_walk; exact ⟨_, rfl, h⟩
theorem dec_ge : Decl Builtin.«int.__ge__» a t l C dx := .of_wp fun prog w A R s h => by
  obtain ⟨hp, g, d, tk, os⟩ := s; obtain ⟨hl, h⟩ := h; unfold PySem.W.instObj at hl; wp_walk; exact ⟨_, rfl, h⟩
theorem dec_eq : Decl Builtin.«int.__eq__» a t l C dx := .of_wp fun prog w A R s h => by
  obtain ⟨hp, g, d, tk, os⟩ := s; obtain ⟨hl, h⟩ := h; unfold PySem.W.instObj at hl; wp_walk; exact ⟨_, rfl, h⟩
theorem dec_ne : Decl Builtin.«int.__ne__» a t l C dx := .of_wp fun prog w A R s h => by
  obtain ⟨hp, g, d, tk, os⟩ := s; obtain ⟨hl, h⟩ := h; unfold PySem.W.instObj at hl; wp_walk; exact ⟨_, rfl, h⟩
end
end Pt

namespace Pt
open PySem PySem.Spec PyProof.Rows L2
open PySem.W (findIn isFn subIn selfFirst Looks looks_findIn looks_subIn looks_clsIn clsIn InstAt special_fn fills_K)
/-- what an int declines: the place of an operator's method in int -/
structure IntDec (nm : Str) (f : Str) where
  id : String
  B : Builtin
  slot : Slot "int" f id
  entry : entryFor table id = some B
  args : ∀ a b, argsOk id ⟨[a, b], []⟩
  dec : ∀ a t l C dx, Decl B a t l C dx
section
variable {prog : Program} {w : World} {A : Around} {E : Value → Shared → Prop} {s : Shared} {K : PySem.W.Frag} {x C f : Addr} {ox : Obj} {od : Option Obj} {nm : Str}
theorem int_declines {fn : Str} (D : IntDec nm fn) {i : Int} {t : Tok} {dx : Addr} {Q : Value → Shared → Prop} (h : s.heap.get? x = some (PySem.W.instObj C dx)) (q : Q .notImplemented s) :
    wpAny (model prog w) A (call (.builtin D.id) [.int i t, .ref x]) Q E s :=
  call_meets D.slot (typeIs_int s i t) D.entry (D.args _ _) (D.dec i t x C dx) ⟨h, q⟩

/-- what an operator of the class at C is: its own method g, the reflected one f -/
structure OwnBin (K : PySem.W.Frag) (C : Addr) (op : Operator) (g : Addr) (rc : Option Value) : Prop where
  first : selfFirst K C = true
  mro : ∃ cd, clsIn K C = some cd ∧ cd.mro = [.ref C, .type "object"]
  here : findIn K (.ref C) (PySem.dunder op.info.2) = some (some (.ref g))
  fn : isFn K (.ref g) = true
  refl : findIn K (.ref C) (dunderR op.info.2) = some rc
  kind : rc = none ∨ ∃ f : Addr, rc = some (.ref f) ∧ isFn K (.ref f) = true
  noI : findIn K (.ref C) (dunderI op.info.2) = some none
  sub1 : subIn K (.ref C) (.type "int") = some false
  sub2 : subIn K (.type "int") (.ref C) = some false
/-- int, as operand of it -/
structure IntBin (op : Operator) where
  D : IntDec op.info.2 (PySem.dunder op.info.2)
  fills : fillsNumberSlot (.type "int") op.info.2 = pure true
  noI : typeLookup (.type "int") (dunderI op.info.2) = pure none
  ro : Option Value
  refl : typeLookup (.type "int") (dunderR op.info.2) = pure ro
abbrev Gets (Q : Value → Shared → Prop) : Option Value → Shared → Prop := fun r s' => ∃ v, r = some v ∧ Q v s'
theorem bin1_own_own {op : Operator} {rc : Option Value} {b : Value} {Q : Value → Shared → Prop} (X : K.In s.heap) (I : InstAt s.heap x ox C od) (hb : Looks (model prog w) s.heap (typeOf b) (.ref C)) (T : OwnBin K C op g rc)
    (h : wpAny (model prog w) A (call (.ref g) [.ref x, b]) (PySem.W.CmpBack Q) E s) : wpAny (model prog w) A (binaryOp1 op.info.2 (.ref x) b) (Gets Q) E s := by
  obtain ⟨cd, rest, hcd, hm⟩ := PySem.W.ksp_first T.first
  have hs := T.here
  generalize op.info.2 = nm' at hs
  have one := PySem.W.ksp_try X I hs T.fn h
  obtain ⟨hh, g', d, tt, os⟩ := s
  have Ta : Looks (model prog w) hh (typeOf (.ref x)) (.ref C) := I.type
  have Fa : Looks (model prog w) hh (fillsNumberSlot (.ref C) nm') true := fills_K X hcd hm hs
  unfold binaryOp1
  refine wpAny_bind (Ta.at (wpAny_bind (hb.at (wpAny_bind (Fa.at ?_)))))
  simp only [beq_self_eq_true, if_true, pure_bind, Bool.and_false, Bool.false_eq_true, if_false, Bool.false_and]
  refine wpAny_bind (wpAny_mono one (fun r s' hr' => ?_) fun _ _ e => e)
  obtain ⟨v, rfl, hq⟩ := hr'
  exact wpAny_pure ⟨v, rfl, hq⟩
theorem bin1_own_int {op : Operator} {rc : Option Value} {i : Int} {t : Tok} {Q : Value → Shared → Prop} (X : K.In s.heap) (I : InstAt s.heap x ox C od) (T : OwnBin K C op g rc) (Z : IntBin op)
    (h : wpAny (model prog w) A (call (.ref g) [.ref x, .int i t]) (PySem.W.CmpBack Q) E s) : wpAny (model prog w) A (binaryOp1 op.info.2 (.ref x) (.int i t)) (Gets Q) E s := by
  obtain ⟨cd, rest, hcd, hm⟩ := PySem.W.ksp_first T.first
  have hs := T.here
  have hr := T.refl
  have hp : rc = none ∨ ∃ f : Addr, rc = some (.ref f) := T.kind.imp id fun ⟨f, e, _⟩ => ⟨f, e⟩
  have hfi := Z.fills
  have hro := Z.refl
  generalize Z.ro = ro at hro
  generalize op.info.2 = nm' at hs hr hfi hro
  have one := PySem.W.ksp_try X I hs T.fn h
  obtain ⟨hh, g', d, tt, os⟩ := s
  have Ta : Looks (model prog w) hh (typeOf (.ref x)) (.ref C) := I.type
  have Tb : Looks (model prog w) hh (typeOf (.int i t)) (.type "int") := Looks.of_pure rfl
  have Fa : Looks (model prog w) hh (fillsNumberSlot (.ref C) nm') true := fills_K X hcd hm hs
  have Fb : Looks (model prog w) hh (fillsNumberSlot (.type "int") nm') true := Looks.of_pure hfi
  have Sb : Looks (model prog w) hh (isSubtype (.type "int") (.ref C)) false := looks_subIn X T.sub2
  have Pa : Looks (model prog w) hh (numberSlotInPython (.ref C) nm') true := PySem.W.ksp_inPy X hs hr hp
  have Pb : Looks (model prog w) hh (numberSlotInPython (.type "int") nm') false := Looks.of_pure rfl
  have Rb : Looks (model prog w) hh (typeLookup (.type "int") (dunderR nm')) ro := Looks.of_pure hro
  have hne : (Value.ref C == Value.type "int") = false := Bool.eq_false_iff.mpr fun q => by cases beq_iff_eq.mp q
  unfold binaryOp1
  refine wpAny_bind (Ta.at (wpAny_bind (Tb.at (wpAny_bind (Fa.at ?_)))))
  simp only [hne, Bool.false_eq_true, if_false]
  refine wpAny_bind (Fb.at ?_)
  simp only [Bool.and_self, if_true]
  refine wpAny_bind (Sb.at ?_)
  simp only [Bool.false_eq_true, if_false, pure_bind, Bool.not_false, Bool.and_self, if_true]
  refine wpAny_bind (Pa.at ?_)
  simp only [if_true]
  refine wpAny_bind (Pb.at ?_)
  simp only [Bool.not_false, if_true]
  refine wpAny_bind (Rb.at ?_)
  refine wpAny_bind (wpAny_mono one (fun r s' hr' => ?_) fun _ _ e => e)
  obtain ⟨v, rfl, hq⟩ := hr'
  exact wpAny_pure ⟨v, rfl, hq⟩
theorem bin1_int_own {op : Operator} {i : Int} {t : Tok} {dx : Addr} {Q : Value → Shared → Prop} (X : K.In s.heap) (I : InstAt s.heap x (PySem.W.instObj C dx) C od) (T : OwnBin K C op g (some (.ref f))) (hf : isFn K (.ref f) = true) (Z : IntBin op)
    (h : wpAny (model prog w) A (call (.ref f) [.ref x, .int i t]) (PySem.W.CmpBack Q) E s) : wpAny (model prog w) A (binaryOp1 op.info.2 (.int i t) (.ref x)) (Gets Q) E s := by
  obtain ⟨cd, rest, hcd, hm⟩ := PySem.W.ksp_first T.first
  have hs := T.here
  have hr := T.refl
  have hfi := Z.fills
  obtain ⟨id, B, slot, entry, args, dec⟩ := Z.D
  generalize op.info.2 = nm' at hs hr hfi slot
  have one := PySem.W.ksp_try X I hr hf h
  have decl : ∀ {Q' : Option Value → Shared → Prop}, Q' none s → wpAny (model prog w) A (tryMethod (.int i t) (PySem.dunder nm') (.ref x)) Q' E s := fun {Q'} q =>
    wpAny_tryMethod_declines (typeIs_int s i t) slot (call_meets slot (typeIs_int s i t) entry (args _ _) (dec i t x C dx) ⟨I.at_, rfl, q⟩)
  obtain ⟨hh, g', d, tt, os⟩ := s
  have Tx : Looks (model prog w) hh (typeOf (.ref x)) (.ref C) := I.type
  have Ti : Looks (model prog w) hh (typeOf (.int i t)) (.type "int") := Looks.of_pure rfl
  have Fx : Looks (model prog w) hh (fillsNumberSlot (.ref C) nm') true := fills_K X hcd hm hs
  have Fi : Looks (model prog w) hh (fillsNumberSlot (.type "int") nm') true := Looks.of_pure hfi
  have Sx : Looks (model prog w) hh (isSubtype (.ref C) (.type "int")) false := looks_subIn X T.sub1
  have Pi : Looks (model prog w) hh (numberSlotInPython (.type "int") nm') false := Looks.of_pure rfl
  have hne : (Value.type "int" == Value.ref C) = false := Bool.eq_false_iff.mpr fun q => by cases beq_iff_eq.mp q
  unfold binaryOp1
  refine wpAny_bind (Ti.at (wpAny_bind (Tx.at (wpAny_bind (Fi.at ?_)))))
  simp only [hne, Bool.false_eq_true, if_false]
  refine wpAny_bind (Fx.at ?_)
  simp only [Bool.and_self, if_true]
  refine wpAny_bind (Sx.at ?_)
  simp only [Bool.false_eq_true, if_false, pure_bind, Bool.not_false, Bool.and_self, if_true]
  refine wpAny_bind (Pi.at ?_)
  simp only [Bool.false_eq_true, if_false, pure_bind]
  refine wpAny_bind (decl ?_)
  simp only [pure_bind, Bool.false_eq_true, if_false, if_true]
  refine wpAny_bind (wpAny_mono one (fun r s' hr' => ?_) fun _ _ e => e)
  obtain ⟨v, rfl, hq⟩ := hr'
  exact wpAny_bind (wpAny_rule (wpAny_pure ⟨v, rfl, hq⟩))
theorem bin_of1 {op : Operator} {a b : Value} {Q : Value → Shared → Prop} (h : wpAny (model prog w) A (binaryOp1 op.info.2 a b) (Gets Q) E s) : wpAny (model prog w) A (binaryOp op a b) Q E s := by
  rcases hi : op.info with ⟨sym, nm'⟩
  rw [hi] at h
  simp only [binaryOp, hi]
  refine wpAny_holding (wpAny_bind (wpAny_mono h (fun r s' hr' => ?_) fun _ _ e => e))
  obtain ⟨v, rfl, hq⟩ := hr'
  exact wpAny_pure hq
theorem inp_of1 {op : Operator} {a b ta : Value} {Q : Value → Shared → Prop} (Ta : Looks (model prog w) s.heap (typeOf a) ta) (Fi : Looks (model prog w) s.heap (fillsInplaceSlot ta op.info.2 (op == .Add)) false)
    (h : wpAny (model prog w) A (binaryOp1 op.info.2 a b) (Gets Q) E s) : wpAny (model prog w) A (inplaceOp op a b) Q E s := by
  obtain ⟨hh, g', d, tt, os⟩ := s
  unfold inplaceOp
  refine wpAny_holding (wpAny_bind (Ta.at (wpAny_bind (Fi.at ?_))))
  simp only [Bool.false_eq_true, if_false, pure_bind]
  refine wpAny_bind (wpAny_mono h (fun r s' hr' => ?_) fun _ _ e => e)
  obtain ⟨v, rfl, hq⟩ := hr'
  exact wpAny_pure hq
theorem noI_own {M : Model} {h : Heap} {op : Operator} {rc : Option Value} (X : K.In h) (T : OwnBin K C op g rc) (hO : typeLookup (.type "object") (dunderI op.info.2) = pure none) : Looks M h (fillsInplaceSlot (.ref C) op.info.2 (op == .Add)) false := by
  obtain ⟨cd, hcd, hm⟩ := T.mro
  intro A Q E s k q
  have Lm : Looks M h (mroOf (.ref C)) cd.mro := (looks_clsIn X hcd).andThen (f := fun cd => pure cd.mro) .now
  have Lm' := Lm.keeps k
  have L1 : Looks M h (typeLookup (.ref C) (dunderI op.info.2)) none := looks_findIn X T.noI
  have L1' := L1.keeps k
  have L2 : Looks M s.heap (typeLookup (.type "object") (dunderI op.info.2)) none := Looks.of_pure hO
  unfold fillsInplaceSlot
  refine wpAny_bind (Lm'.at ?_)
  rw [hm, List.anyM_cons]
  refine wpAny_bind (wpAny_bind (L1'.at ?_))
  refine wpAny_pure ?_
  simp only [Bool.false_eq_true, if_false]
  rw [List.anyM_cons]
  refine wpAny_bind (wpAny_bind (L2.at ?_))
  refine wpAny_pure ?_
  simp only [Bool.false_eq_true, if_false]
  exact wpAny_pure q
theorem noI_int {M : Model} {h : Heap} {op : Operator} (Z : IntBin op) : Looks M h (fillsInplaceSlot (.type "int") op.info.2 (op == .Add)) false := by
  refine Looks.of_pure ?_
  unfold fillsInplaceSlot
  show (typeLookup (.type "int") (dunderI op.info.2) >>= fun fi => pure (fi.isSome && !isSeqSlot fi)) = pure false
  rw [Z.noI]
  rfl
/-! comparisons -/
theorem cmp_int_own {op : CmpOp} {i : Int} {t : Tok} {dx : Addr} {Q : Value → Shared → Prop} (hu : A.units < cLine) (X : K.In s.heap) (I : InstAt s.heap x (PySem.W.instObj C dx) C od) (D : IntDec (cmpInfo op).2.1 (cmpInfo op).2.1)
    (hs : findIn K (.ref C) (cmpInfo op).2.2 = some (some (.ref f))) (hf : isFn K (.ref f) = true) (hsub : subIn K (.ref C) (.type "int") = some false)
    (h : wpAny (model prog w) A (call (.ref f) [.ref x, .int i t]) (PySem.W.CmpBack Q) E s) : wpAny (model prog w) A (richCompare op (.int i t) (.ref x)) Q E s := by
  have two : wpAny (model prog w) A (tryCompare (.ref x) (cmpInfo op).2.2 (.int i t)) (fun r s' => ∃ v, r = some v ∧ Q v s') E s := by
    unfold tryCompare
    refine wpAny_bind (PySem.W.ifBound_K X I hs hf (wpAny_mono h (fun v s' hv => ?_) fun _ _ e => e))
    cases v <;> first | exact hv.elim | exact wpAny_pure ⟨_, rfl, hv⟩
  have hs1 := D.slot
  have e1 := D.entry
  have a1 := D.args
  have d1 := D.dec
  rcases hi : cmpInfo op with ⟨sym, fa, fb⟩
  have decl : ∀ {Q' : Option Value → Shared → Prop}, Q' none s → wpAny (model prog w) A (tryCompare (.int i t) (cmpInfo op).2.1 (.ref x)) Q' E s := fun {Q'} q =>
    wpAny_tryCompare_declines (typeIs_int s i t) hs1 (call_meets hs1 (typeIs_int s i t) e1 (a1 _ _) (d1 i t x C dx) ⟨I.at_, rfl, q⟩)
  rw [hi] at decl two
  have Sx : Looks (model prog w) s.heap (isSubtype (.ref C) (.type "int")) false := looks_subIn X hsub
  have hne : (Value.type "int" != Value.ref C) = true := by
    show (!(Value.type "int" == Value.ref C)) = true
    rw [show (Value.type "int" == Value.ref C) = false from Bool.eq_false_iff.mpr fun q => by cases beq_iff_eq.mp q]
    rfl
  simp only [richCompare, hi, (typeIs_int s i t).oneThing_none]
  refine wpAny_holding (wpAny_bind (wpAny_cRoomFor hu ?_))
  refine wpAny_bind (wpAny_typeOf (typeIs_int s i t) (wpAny_bind (I.type.here ?_)))
  simp only [hne, if_true]
  refine wpAny_bind (Sx.here ?_)
  simp only [Bool.false_eq_true, if_false, Bool.not_false, if_true]
  refine wpAny_bind (decl ?_)
  refine wpAny_bind (wpAny_mono two (fun r s' z => ?_) fun _ _ e => e)
  obtain ⟨v, rfl, hq⟩ := z
  exact wpAny_pure hq
end
end Pt

namespace Pt
open PySem PySem.Spec PyProof.Rows L2
open PySem.W (findIn isFn subIn selfFirst Looks looks_findIn looks_subIn looks_clsIn clsIn InstAt special_fn fills_K)
/-! ints as operands -/
def intAdd : IntBin .Add := ⟨⟨_, _, F.slot_int_add, F.entry_int_add, F.args_int_add_2, dec_add⟩, F.fills_int_add, F.noI_int_add, _, F.slot_int_radd.lookup⟩
def intSub : IntBin .Sub := ⟨⟨_, _, F.slot_int_sub, F.entry_int_sub, F.args_int_sub_2, dec_sub⟩, F.fills_int_sub, F.noI_int_sub, _, F.slot_int_rsub.lookup⟩
def intMul : IntBin .Mult := ⟨⟨_, _, F.slot_int_mul, F.entry_int_mul, F.args_int_mul_2, dec_mul⟩, F.fills_int_mul, F.noI_int_mul, _, F.slot_int_rmul.lookup⟩
def intMod : IntBin .Mod := ⟨⟨_, _, F.slot_int_mod, F.entry_int_mod, F.args_int_mod_2, dec_mod⟩, F.fills_int_mod, F.noI_int_mod, _, F.slot_int_rmod.lookup⟩
def intFloor : IntBin .FloorDiv := ⟨⟨_, _, F.slot_int_floordiv, F.entry_int_floordiv, F.args_int_floordiv_2, dec_floordiv⟩, F.fills_int_floordiv, F.noI_int_floordiv, _, F.slot_int_rfloordiv.lookup⟩
def icLt : IntDec (cmpInfo .Lt).2.1 (cmpInfo .Lt).2.1 := ⟨_, _, F.slot_int_lt, F.entry_int_lt, F.args_int_lt_2, dec_lt⟩
def icLe : IntDec (cmpInfo .LtE).2.1 (cmpInfo .LtE).2.1 := ⟨_, _, F.slot_int_le, F.entry_int_le, F.args_int_le_2, dec_le⟩
def icGt : IntDec (cmpInfo .Gt).2.1 (cmpInfo .Gt).2.1 := ⟨_, _, F.slot_int_gt, F.entry_int_gt, F.args_int_gt_2, dec_gt⟩
def icGe : IntDec (cmpInfo .GtE).2.1 (cmpInfo .GtE).2.1 := ⟨_, _, F.slot_int_ge, F.entry_int_ge, F.args_int_ge_2, dec_ge⟩
def icEq : IntDec (cmpInfo .Eq).2.1 (cmpInfo .Eq).2.1 := ⟨_, _, F.slot_int_eq, F.entry_int_eq, F.args_int_eq_2, dec_eq⟩
/-! the rules -/
def OwnV (C : Addr) (H : Hp) (x : V) : Prop := ∃ a dx fs, x = V.ref a ∧ H a = some (.ins C dx fs)
structure BinOk (P : Program) (w : World) (K : PySem.W.Frag) (mg : Str → Option Value) (base : Heap) (C : Addr) (op : Operator) (CX : CXT) (k : Nat) (sp spr : Sp) : Prop where
  ex : ∃ (g f : Addr) (fd fdr : FuncData) (ps psr : List Str), OwnBin K C op g (some (.ref f)) ∧ isFn K (.ref f) = true ∧ FnOk P w K mg base CX k g fd ps sp ∧ Binds K fd ps [] ∧ FnOk P w K mg base CX k f fdr psr spr ∧ Binds K fdr psr []
section
variable {X : Cx} {C g f : Addr} {op : Operator} {CX : CXT} {k : Nat} {sp spr : Sp} {pins : List (Addr × Obj)} {σ : L2.St} {H : Hp} {s : Shared} {Q : VK} {E : XK} {x y : V} {u v : Value}
theorem vv1 (rx : RelV x u) : Vals [x] [u] := .cons rx .nil
theorem vv2 (rx : RelV x u) (ry : RelV y v) : Vals [x, y] [u, v] := .cons rx (.cons ry .nil)
theorem back_ep {z : Value} {s' : Shared} (h : EP X pins σ Q z s') : PySem.W.CmpBack (EP X pins σ Q) z s' := by
  cases z with
  | notImplemented =>
    obtain ⟨v, H', _, r, _⟩ := h
    cases v with
    | non => exact nomatch (show Value.notImplemented = Value.none from r)
    | bl b => exact nomatch (show Value.notImplemented = Value.bool b from r)
    | int i => obtain ⟨t, e⟩ := (show ∃ t, Value.notImplemented = Value.int i t from r); cases e
    | str i => obtain ⟨t, e⟩ := (show ∃ t, Value.notImplemented = Value.str i t from r); cases e
    | byt i => obtain ⟨t, e⟩ := (show ∃ t, Value.notImplemented = Value.bytes i t from r); cases e
    | flt i => obtain ⟨t, e⟩ := (show ∃ t, Value.notImplemented = Value.float i t from r); cases e
    | ref a => exact nomatch (show Value.notImplemented = Value.ref a from r)
    | ty n => exact nomatch (show Value.notImplemented = Value.type n from r)
  | _ => exact h
theorem run_back {fd : FuncData} {ps : List Str} {us : List Value} {vs : List V} (F : FnOk X.prog X.w X.K X.mg X.base CX k f fd ps sp) (hr : Room k X.A) (hb : Binds X.K fd ps []) (hx : PassesAt CX X σ E)
    (I : Inv X pins σ H s) (r : Vals vs us) (h : sp vs H Q E) : wpAny (model X.prog X.w) X.A (call (.ref f) us) (PySem.W.CmpBack (EP X pins σ Q)) X.xe s :=
  wpAny_mono (run_fnS (E := fun _ => E) F hr hb hx I r h) (fun _ _ z => back_ep z) fun _ _ z => z
theorem own_inst (I : Inv X pins σ H s) {a dx : Addr} {fs : List (Str × V)} (e : H a = some (.ins C dx fs)) : ∃ od, InstAt s.heap a (PySem.W.instObj C dx) C (some od) := by
  obtain ⟨mA, J, _⟩ := ins_get I.hok e
  obtain ⟨od, J, _⟩ := J.look
  exact ⟨od, J⟩
theorem run_bin1 (B : BinOk X.prog X.w X.K X.mg X.base C op CX k sp spr) (Z : IntBin op) (hr : Room k X.A) (hx : PassesAt CX X σ E) (I : Inv X pins σ H s) (rx : RelV x u) (ry : RelV y v)
    (h : (OwnV C H x ∧ (OwnV C H y ∨ ∃ j, y = .int j) ∧ sp [x, y] H Q E) ∨ ((∃ i, x = .int i) ∧ OwnV C H y ∧ spr [y, x] H Q E)) :
    wpAny (model X.prog X.w) X.A (binaryOp1 op.info.2 u v) (Gets (EP X pins σ Q)) X.xe s := by
  obtain ⟨g, f, fd, fdr, ps, psr, T, hf, Fg, bg, Ff, bf⟩ := B.ex
  rcases h with ⟨⟨a, dx, fs, rfl, ha⟩, hy, h⟩ | ⟨⟨i, rfl⟩, ⟨b, dy, gs, rfl, hb⟩, h⟩
  · obtain rfl : u = Value.ref a := rx
    obtain ⟨od, J⟩ := own_inst I ha
    rcases hy with ⟨b, dy, gs, rfl, hb⟩ | ⟨j, rfl⟩
    · obtain rfl : v = Value.ref b := ry
      obtain ⟨od', J'⟩ := own_inst I hb
      exact bin1_own_own I.kIn J J'.type T (run_back Fg hr bg hx I (vv2 (x := V.ref a) (y := V.ref b) rfl rfl) h)
    · obtain ⟨t, rfl⟩ : ∃ t, v = Value.int j t := ry
      exact bin1_own_int I.kIn J T Z (run_back Fg hr bg hx I (vv2 (x := V.ref a) (y := V.int j) rfl ⟨t, rfl⟩) h)
  · obtain rfl : v = Value.ref b := ry
    obtain ⟨t, rfl⟩ : ∃ t, u = Value.int i t := rx
    obtain ⟨od, J⟩ := own_inst I hb
    exact bin1_int_own I.kIn J T hf Z (run_back Ff hr bf hx I (vv2 (x := V.ref b) (y := V.int i) rfl ⟨t, rfl⟩) h)
def rBin (r : R2) (C : Addr) (sp spr : Sp) (E : XK) : R2 := fun x y H Q =>
  r x y H Q ∨ (OwnV C H x ∧ (OwnV C H y ∨ ∃ j, y = .int j) ∧ sp [x, y] H Q E) ∨ ((∃ i, x = .int i) ∧ OwnV C H y ∧ spr [y, x] H Q E)
def tBin (r : R2) (C : Addr) (sp spr : Sp) (E : L2.St → XK) (ta tb : TE) : TE := fun σ H Q => ta σ H fun x H1 => tb σ H1 fun y H2 => rBin r C sp spr (E σ) x y H2 Q
def rNo : R2 := fun _ _ _ _ => False
theorem op_no {fn : Value → Value → Sem Value} : OpR X fn rNo := fun _ _ _ _ _ _ _ _ _ _ _ _ h => h.elim
section
variable {r : R2} {a b : Expr} {ta tb : TE} {pos : Pos}
theorem pe_bin {E : L2.St → XK} (ho : OpR X (binaryOp op) r) (B : BinOk X.prog X.w X.K X.mg X.base C op CX k sp spr) (Z : IntBin op) (hr : Room k X.A) (hx : ∀ σ, PassesAt CX X σ (E σ)) (ha : PE X a ta) (hb : PE X b tb) : PE X (.BinOp a op b pos) (tBin r C sp spr E ta tb) := by
  refine ⟨fun pins s σ H Q I h => ?_⟩
  refine wpAny_BinOp (binT ha hb (R := fun x y H2 => rBin r C sp spr (E σ) x y H2 Q) I h fun v u s2 x y H2 I2 rx ry q => ?_)
  rcases q with q | q
  · exact ho pins s2 σ H2 x y v u Q I2 rx ry q
  · exact bin_of1 (run_bin1 B Z hr (hx σ) I2 rx ry q)
theorem objI (op : Operator) (h : typeLookup (.type "object") (dunderI op.info.2) = pure none) : typeLookup (.type "object") (dunderI op.info.2) = pure none := h
theorem ip_bin (hi : PIp X op r) (B : BinOk X.prog X.w X.K X.mg X.base C op CX k sp spr) (Z : IntBin op) (hO : typeLookup (.type "object") (dunderI op.info.2) = pure none) (hr : Room k X.A) (hx : ∀ σ, PassesAt CX X σ E) : PIp X op (rBin r C sp spr E) := by
  intro pins s σ H x y v u Q I rx ry q
  rcases q with q | q
  · exact hi pins s σ H x y v u Q I rx ry q
  · have go := run_bin1 B Z hr (hx σ) I rx ry q
    obtain ⟨g, f, fd, fdr, ps, psr, T, _⟩ := B.ex
    rcases q with ⟨⟨a, dx, fs, rfl, ha⟩, _⟩ | ⟨⟨i, rfl⟩, _⟩
    · obtain rfl : v = Value.ref a := rx
      obtain ⟨od, J⟩ := own_inst I ha
      exact inp_of1 J.type (noI_own I.kIn T hO) go
    · obtain ⟨t, rfl⟩ : ∃ t, v = Value.int i t := rx
      exact inp_of1 (Looks.of_pure rfl) (noI_int Z) go
theorem ip_no : PIp X op (fun _ _ _ _ => False) := fun _ _ _ _ _ _ _ _ _ _ _ _ h => h.elim
/-- -x, +x, ~x of the class -/
structure UnOk (P : Program) (w : World) (K : PySem.W.Frag) (mg : Str → Option Value) (base : Heap) (C : Addr) (nm : Str) (CX : CXT) (k : Nat) (sp : Sp) : Prop where
  ex : ∃ (g : Addr) (fd : FuncData) (ps : List Str), findIn K (.ref C) nm = some (some (.ref g)) ∧ isFn K (.ref g) = true ∧ FnOk P w K mg base CX k g fd ps sp ∧ Binds K fd ps []
def rUnO (C : Addr) (sp : Sp) (E : XK) : V → Hp → VK → Prop := fun x H Q => OwnV C H x ∧ sp [x] H Q E
theorem un_neg_own (B : UnOk X.prog X.w X.K X.mg X.base C "__neg__" CX k sp) (hr : Room k X.A) (hx : ∀ σ, PassesAt CX X σ E) : UnR X (unaryOp .USub) (rUnO C sp E) := by
  intro pins s σ H x v Q I rx ⟨⟨a, dx, fs, e, ha⟩, h⟩
  subst e
  obtain rfl : v = Value.ref a := rx
  obtain ⟨g, fd, ps, hs, hf, F, b⟩ := B.ex
  obtain ⟨od, J⟩ := own_inst I ha
  obtain ⟨m, hF⟩ := I.fr
  exact PySem.W.ksp_neg hF I.ok.mod.kin J hs hf (run_fnS (E := fun _ => E) F hr b (hx σ) I (vv1 (x := V.ref a) rfl) h)
theorem un_pos_own (B : UnOk X.prog X.w X.K X.mg X.base C "__pos__" CX k sp) (hr : Room k X.A) (hx : ∀ σ, PassesAt CX X σ E) : UnR X (unaryOp .UAdd) (rUnO C sp E) := by
  intro pins s σ H x v Q I rx ⟨⟨a, dx, fs, e, ha⟩, h⟩
  subst e
  obtain rfl : v = Value.ref a := rx
  obtain ⟨g, fd, ps, hs, hf, F, b⟩ := B.ex
  obtain ⟨od, J⟩ := own_inst I ha
  obtain ⟨m, hF⟩ := I.fr
  exact PySem.W.ksp_pos hF I.ok.mod.kin J hs hf (run_fnS (E := fun _ => E) F hr b (hx σ) I (vv1 (x := V.ref a) rfl) h)
/-- abs(x) of the class -/
theorem run_in1 {fd : FuncData} {ps : List Str} {us : List Value} {vs : List V} (F : FnOk X.prog X.w X.K X.mg X.base CX k f fd ps sp) (hr : Room (k + 1) X.A) (hb : Binds X.K fd ps []) (hx : PassesAt CX X σ E)
    (I : Inv X pins σ H s) (r : Vals vs us) (h : sp vs H Q E) : wpAny (model X.prog X.w) X.A.in1 (call (.ref f) us) (EP X pins σ Q) X.xe s := by
  have hl : us.length = ps.length := by rw [← r.length]; exact F.len _ _ _ _ h
  have b := hb s us I.kIn (by rw [List.append_nil]; exact hl)
  rw [List.append_nil] at b
  refine wpAny_call (codeAny_mono (F.run X.A.in1 X.stack s H ⟨us, []⟩ us vs Q E hr.in1 I.env0.in1 b r h) fun z s' hq => ?_)
  match z, hq with
  | .error e, hq => exact hx pins H s e s' I hq
  | .ok (.ret u), hq => exact I.after hq
  | .ok .next, hq => exact hq.elim
  | .ok .brk, hq => exact hq.elim
  | .ok .cont, hq => exact hq.elim
theorem call_abs_own (B : UnOk X.prog X.w X.K X.mg X.base C "__abs__" CX k sp) (hr : Room (k + 1) X.A) (hx : ∀ σ, PassesAt CX X σ E) :
    CallR X (.builtin "abs") (fun xs H Q => (∃ i, xs = [.int i] ∧ Q (.int (if i < 0 then -i else i)) H) ∨ ∃ x, xs = [x] ∧ OwnV C H x ∧ sp [x] H Q E) := by
  intro pins s σ H xs us Q I r h
  rcases h with h | ⟨x, e, ⟨a, dx, fs, ex, ha⟩, h⟩
  · exact call_abs pins s σ H xs us Q I r h
  subst e ex
  obtain ⟨u, rfl, ru⟩ := vals1 r
  obtain rfl : u = Value.ref a := ru
  obtain ⟨g, fd, ps, hs, hf, F, b⟩ := B.ex
  obtain ⟨od, J⟩ := own_inst I ha
  refine Calls.call_function_entry PyProof.Rows.kind_abs PyProof.Rows.plain_abs PyProof.Rows.entry_abs (PyProof.Rows.args_abs _) ?_
  unfold Builtin.«abs»
  refine wpAny_bind (m := oneArg "abs" _) (wpAny_pure ?_)
  refine wpAny_bind (m := callSpecial? (.ref a) (Str.ofString "__abs__")) (special_fn I.kIn J hs (beq_iff_eq.mp hf) (wpAny_mono (run_in1 F hr b (hx σ) I (vv1 (x := V.ref a) rfl) h) (fun v s' hv => ?_) fun _ _ e => e))
  exact wpAny_pure ⟨_, rfl, hv⟩
end
end
end Pt

namespace Pt
open PySem PySem.Spec PyProof.Rows L2
open PySem.W (findIn isFn subIn selfFirst Looks looks_findIn looks_subIn looks_clsIn clsIn InstAt special_fn fills_K)
section
variable {X : Cx} {C g p : Addr} {mc : Value} {CX : CXT} {k : Nat} {sp : Sp} {m : Str} {fd : FuncData} {ps : List Str} {o e : Expr} {es : List Expr} {ta : TE} {t : TA} {pos apos : Pos}
/-- what a static method of the class at C is -/
structure SMet (K : PySem.W.Frag) (C : Addr) (mc : Value) (m : Str) (p g : Addr) : Prop where
  ty : PySem.W.typeIn K (.ref C) = some mc
  rd : PySem.W.readsIn K C mc = true
  ga : PySem.W.specialIn K (.ref C) "__getattribute__" = some (some (.builtin "type.__getattribute__"))
  at_ : PySem.W.findCls K (.ref C) mc m = some (.get (.builtin "staticmethod.__get__") (.ref p) .none (.ref C))
  rc : ∃ rest, PySem.W.recIn K p "staticmethod" = some (.ref g :: rest)
  hd : PySem.W.handedIn (.ref g) = true
  kp : PySem.W.keepIn K (.ref g) = true
def tSMeth (C : Addr) (sp : Sp) (E : L2.St → XK) (ta : TE) (t : TA) : TE := fun σ H Q => ta σ H fun x H1 => x = .ref C ∧ t σ H1 fun vs H2 => sp vs H2 Q (E σ)
/-- C.m(e, ..) of a static method -/
theorem pe_smeth {E : L2.St → XK} {pl : Sem Bool} (he : PE X o ta) (c : SMet X.K C mc m p g) (F : FnOk X.prog X.w X.K X.mg X.base CX k g fd ps sp) (hr : Room k X.A) (hb : Binds X.K fd ps []) (hx : ∀ σ, PassesAt CX X σ (E σ)) (ha : PA X (e :: es) t)
    (hst : starEach (e :: es) X.env = (false, eval e X.env) :: starEach es X.env := by rfl) (hpl : (backTo pos (starEach es X.env)).any (·.1) = false := by rfl)
    (ht : eval (.Call (.Attribute o m apos) (e :: es) [] pos) X.env = (do
      let ov ← eval o X.env
      standAt apos.atName
      let (f, first) ← holding [ov] (getMethod ov m pl)
      callWith pos f first (backTo pos (starEach (e :: es) X.env)) (backToKw pos (keywordEach [] X.env))) := by rfl) :
    PE X (.Call (.Attribute o m apos) (e :: es) [] pos) (tSMeth C sp E ta t) := by
  refine ⟨fun pins s σ H Q I h => ?_⟩
  refine PySem.W.methodCall_KW (pl := pl) (thn (he.run pins s σ H _ I h) fun u s1 hh => ?_) ht
  obtain ⟨x, H1, I1, rx, ex, q⟩ := hh
  subst ex
  obtain rfl : u = Value.ref C := rx
  obtain ⟨mm, hF⟩ := I1.fr
  obtain ⟨rest, hrec⟩ := c.rc
  refine PySem.W.method_cls I1.kIn c.ga (PySem.W.cls_sm hF I1.ok.mod.kin c.ty c.rd c.at_ hrec c.hd ?_)
  refine PySem.W.callWith_K (first := []) (h₀ := X.base) I1.ok.mod.kin c.kp (thn (ha.run pos pins _ σ H1 _ (I1.tok _) q) fun us s2 hh2 => ?_) hst hpl
  obtain ⟨vs, H2, I2, r, q2⟩ := hh2
  exact ⟨I2.kIn, run_fnS (us := us) (vs := vs) F hr hb (hx σ) I2 r q2⟩
/-- a ** 3 of an own class without a reflected method -/
structure PowOk (P : Program) (w : World) (K : PySem.W.Frag) (mg : Str → Option Value) (base : Heap) (C : Addr) (CX : CXT) (k : Nat) (sp : Sp) : Prop where
  ex : ∃ (g : Addr) (fd : FuncData) (ps : List Str), OwnBin K C .Pow g none ∧ FnOk P w K mg base CX k g fd ps sp ∧ Binds K fd ps []
def rPowO (C : Addr) (sp : Sp) (E : XK) : R2 := fun x y H Q => OwnV C H x ∧ (∃ j, y = .int j) ∧ sp [x, y] H Q E
theorem bin1_own_intP {K : PySem.W.Frag} {prog : Program} {w : World} {A : Around} {E : Value → Shared → Prop} {s : Shared} {x : Addr} {ox : Obj} {od : Option Obj} {i : Int} {t : Tok} {Q : Value → Shared → Prop} (X : K.In s.heap) (I : InstAt s.heap x ox C od) (T : OwnBin K C .Pow g none)
    (h : wpAny (model prog w) A (call (.ref g) [.ref x, .int i t]) (PySem.W.CmpBack Q) E s) : wpAny (model prog w) A (binaryOp1 Operator.Pow.info.2 (.ref x) (.int i t)) (Gets Q) E s := by
  obtain ⟨cd, rest, hcd, hm⟩ := PySem.W.ksp_first T.first
  have hs := T.here
  have hr := T.refl
  have hp : (none : Option Value) = none ∨ ∃ f : Addr, (none : Option Value) = some (.ref f) := .inl rfl
  have hfi : fillsNumberSlot (.type "int") Operator.Pow.info.2 = pure true := F.fills_int_pow
  have hro : ∃ ro, typeLookup (.type "int") (dunderR Operator.Pow.info.2) = pure ro := ⟨_, F.slot_int_rpow.lookup⟩
  obtain ⟨ro, hro⟩ := hro
  generalize Operator.Pow.info.2 = nm' at hs hr hfi hro
  have one := PySem.W.ksp_try X I hs T.fn h
  obtain ⟨hh, g', d, tt, os⟩ := s
  have Ta : Looks (model prog w) hh (typeOf (.ref x)) (.ref C) := I.type
  have Tb : Looks (model prog w) hh (typeOf (.int i t)) (.type "int") := Looks.of_pure rfl
  have Fa : Looks (model prog w) hh (fillsNumberSlot (.ref C) nm') true := fills_K X hcd hm hs
  have Fb : Looks (model prog w) hh (fillsNumberSlot (.type "int") nm') true := Looks.of_pure hfi
  have Sb : Looks (model prog w) hh (isSubtype (.type "int") (.ref C)) false := looks_subIn X T.sub2
  have Pa : Looks (model prog w) hh (numberSlotInPython (.ref C) nm') true := PySem.W.ksp_inPy X hs hr hp
  have Pb : Looks (model prog w) hh (numberSlotInPython (.type "int") nm') false := Looks.of_pure rfl
  have Rb : Looks (model prog w) hh (typeLookup (.type "int") (dunderR nm')) ro := Looks.of_pure hro
  have hne : (Value.ref C == Value.type "int") = false := Bool.eq_false_iff.mpr fun q => by cases beq_iff_eq.mp q
  unfold binaryOp1
  refine wpAny_bind (Ta.at (wpAny_bind (Tb.at (wpAny_bind (Fa.at ?_)))))
  simp only [hne, Bool.false_eq_true, if_false]
  refine wpAny_bind (Fb.at ?_)
  simp only [Bool.and_self, if_true]
  refine wpAny_bind (Sb.at ?_)
  simp only [Bool.false_eq_true, if_false, pure_bind, Bool.not_false, Bool.and_self, if_true]
  refine wpAny_bind (Pa.at ?_)
  simp only [if_true]
  refine wpAny_bind (Pb.at ?_)
  simp only [Bool.not_false, if_true]
  refine wpAny_bind (Rb.at ?_)
  refine wpAny_bind (wpAny_mono one (fun r s' hr' => ?_) fun _ _ e => e)
  obtain ⟨v, rfl, hq⟩ := hr'
  exact wpAny_pure ⟨v, rfl, hq⟩
theorem pe_pow {a b : Expr} {ta tb : TE} {E : L2.St → XK} (B : PowOk X.prog X.w X.K X.mg X.base C CX k sp) (hr : Room k X.A) (hx : ∀ σ, PassesAt CX X σ (E σ)) (ha : PE X a ta) (hb : PE X b tb) :
    PE X (.BinOp a .Pow b pos) (fun σ H Q => ta σ H fun x H1 => tb σ H1 fun y H2 => rPowO C sp (E σ) x y H2 Q) := by
  refine ⟨fun pins s σ H Q I h => ?_⟩
  refine wpAny_BinOp (binT ha hb (R := fun x y H2 => rPowO C sp (E σ) x y H2 Q) I h fun v u s2 x y H2 I2 rx ry q => ?_)
  obtain ⟨⟨a, dx, fs, rfl, he⟩, ⟨j, rfl⟩, q⟩ := q
  obtain ⟨g, fd, ps, T, F, bb⟩ := B.ex
  obtain rfl : v = Value.ref a := rx
  obtain ⟨t, rfl⟩ : ∃ t, u = Value.int j t := ry
  obtain ⟨od, J⟩ := own_inst I2 he
  exact bin_of1 (bin1_own_intP I2.kIn J T (run_back F hr bb (hx σ) I2 (vv2 (x := V.ref a) (y := V.int j) rfl ⟨t, rfl⟩) q))
end
end Pt

/-! The mathematics of fractions. -/
namespace Pt
def rg (n d : Int) : Int := if d < 0 then -(Int.gcd n d : Int) else (Int.gcd n d : Int)
def rt (n d : Int) : Int := n.fdiv (rg n d)
def rb (n d : Int) : Int := d.fdiv (rg n d)
theorem gcd_turn (a b : Int) : Int.gcd b (a.fmod b) = Int.gcd a b := by
  rw [Int.fmod_def, Int.gcd_comm a b, Int.sub_eq_add_neg, ← Int.mul_neg]
  exact Int.gcd_add_mul_left_right b a (-(a.fdiv b)) |> fun h => by simpa using h
theorem fmod_less (a b : Int) (h : b ≠ 0) : (a.fmod b).natAbs < b.natAbs := by
  rcases Int.lt_or_gt_of_ne h with h | h
  · have e : (-a).fmod (-b) = -a.fmod b := Int.neg_fmod_neg a b
    have h1 := Int.fmod_nonneg_of_pos (-a) (b := -b) (by omega)
    have h2 := Int.fmod_lt_of_pos (-a) (b := -b) (by omega)
    omega
  · have h1 := Int.fmod_nonneg_of_pos a h
    have h2 := Int.fmod_lt_of_pos a h
    omega
theorem gcd_pos {n d : Int} (h : d ≠ 0) : 0 < (Int.gcd n d : Int) := by
  have : 0 < Int.gcd n d := Int.gcd_pos_of_ne_zero_right n h
  omega
/-- d = g * e, n = g * m, with the sign taken out -/
theorem r_form {n d : Int} (h : d ≠ 0) : ∃ m e : Int, rg n d ≠ 0 ∧ n = rg n d * m ∧ d = rg n d * e ∧ 1 ≤ e ∧ rt n d = m ∧ rb n d = e ∧ Int.gcd m e = 1 := by
  have hg := gcd_pos (n := n) h
  obtain ⟨m, hm⟩ : (Int.gcd n d : Int) ∣ n := Int.gcd_dvd_left n d
  obtain ⟨e, he⟩ : (Int.gcd n d : Int) ∣ d := Int.gcd_dvd_right n d
  have hc : Int.gcd m e = 1 := by
    have h2 : 0 < Int.gcd n d := by omega
    generalize hG : Int.gcd n d = G at hm he h2
    rw [hm, he, Int.gcd_mul_left, Int.natAbs_natCast] at hG
    exact Nat.eq_of_mul_eq_mul_left h2 (by omega)
  unfold rt rb
  by_cases hd : d < 0
  · have hr : rg n d = -(Int.gcd n d : Int) := by unfold rg; rw [if_pos hd]
    have hn1 : n = rg n d * (-m) := by rw [hr, Int.neg_mul_neg]; exact hm
    have hd1 : d = rg n d * (-e) := by rw [hr, Int.neg_mul_neg]; exact he
    have hr0 : rg n d ≠ 0 := by rw [hr]; omega
    have he0 : 1 ≤ -e := by
      by_cases q : e < 0
      · omega
      · have := Int.mul_nonneg (Int.le_of_lt hg) (show 0 ≤ e by omega)
        omega
    refine ⟨-m, -e, hr0, hn1, hd1, he0, ?_, ?_, ?_⟩
    · conv => lhs; lhs; rw [hn1]
      exact Int.mul_fdiv_cancel_left _ hr0
    · conv => lhs; lhs; rw [hd1]
      exact Int.mul_fdiv_cancel_left _ hr0
    · rw [Int.neg_gcd, Int.gcd_neg]
      exact hc
  · have hr : rg n d = (Int.gcd n d : Int) := by unfold rg; rw [if_neg hd]
    have hr0 : rg n d ≠ 0 := by rw [hr]; omega
    have he0 : 1 ≤ e := by
      by_cases q : 0 < e
      · omega
      · have := Int.mul_nonneg (Int.le_of_lt hg) (show 0 ≤ -e by omega)
        rw [Int.mul_neg] at this
        omega
    have hn1 : n = rg n d * m := by rw [hr]; exact hm
    have hd1 : d = rg n d * e := by rw [hr]; exact he
    refine ⟨m, e, hr0, hn1, hd1, he0, ?_, ?_, hc⟩
    · conv => lhs; lhs; rw [hn1]
      exact Int.mul_fdiv_cancel_left _ hr0
    · conv => lhs; lhs; rw [hd1]
      exact Int.mul_fdiv_cancel_left _ hr0
theorem rb_pos {n d : Int} (h : d ≠ 0) : 1 ≤ rb n d := by
  obtain ⟨m, e, _, _, _, he, _, hb, _⟩ := r_form (n := n) h
  omega
theorem r_gcd {n d : Int} (h : d ≠ 0) : Int.gcd (rt n d) (rb n d) = 1 := by
  obtain ⟨m, e, _, _, _, he, ht, hb, hc⟩ := r_form (n := n) h
  rw [ht, hb]
  exact hc
theorem r_cross {n d : Int} (h : d ≠ 0) : rt n d * d = n * rb n d := by
  obtain ⟨m, e, _, hn, hd, he, ht, hb, hc⟩ := r_form (n := n) h
  rw [ht, hb]
  generalize rg n d = g at hn hd
  grind
theorem natAbs_le_mul {g m : Int} (h : g ≠ 0) : m.natAbs ≤ (g * m).natAbs := by
  rw [Int.natAbs_mul]
  have : 0 < g.natAbs := by omega
  exact Nat.le_mul_of_pos_left _ this
theorem rt_le {n d : Int} (h : d ≠ 0) : (rt n d).natAbs ≤ n.natAbs := by
  obtain ⟨m, e, hg, hn, hd, he, ht, hb, hc⟩ := r_form (n := n) h
  rw [ht]
  conv => rhs; rw [hn]
  exact natAbs_le_mul hg
theorem rb_le {n d : Int} (h : d ≠ 0) : (rb n d).natAbs ≤ d.natAbs := by
  obtain ⟨m, e, hg, hn, hd, he, ht, hb, hc⟩ := r_form (n := n) h
  rw [hb]
  conv => rhs; rw [hd]
  exact natAbs_le_mul hg
theorem rg_le {n d : Int} (h : d ≠ 0) : (rg n d).natAbs ≤ d.natAbs := by
  obtain ⟨m, e, hg, hn, hd, he, ht, hb, hc⟩ := r_form (n := n) h
  conv => rhs; rw [hd]
  rw [Int.natAbs_mul]
  exact Nat.le_mul_of_pos_right _ (by omega)
theorem cancel {a b k : Int} (hk : k ≠ 0) (h : a * k = b * k) : a = b := Int.eq_of_mul_eq_mul_right hk h
/-- the value t / b is A / B -/
structure IsV (t b A B : Int) : Prop where
  b1 : 1 ≤ b
  gc : Int.gcd t b = 1
  B0 : B ≠ 0
  eq : t * B = A * b
theorem isV_new {n d : Int} (h : d ≠ 0) : IsV (rt n d) (rb n d) n d := ⟨rb_pos h, r_gcd h, h, r_cross h⟩
/-- another writing of the same value -/
theorem IsV.to {t b A B A' B' : Int} (v : IsV t b A B) (h0 : B' ≠ 0) (h : A * B' = A' * B) : IsV t b A' B' :=
  ⟨v.b1, v.gc, h0, cancel v.B0 (by have := v.eq; grind)⟩
theorem IsV.int (i : Int) : IsV i 1 i 1 := ⟨by omega, by simp, by omega, rfl⟩
section
variable {t b A B t' b' A' B' : Int}
theorem IsV.ne (v : IsV t b A B) : b ≠ 0 := by have := v.b1; omega
theorem mul_ne {x y : Int} (hx : x ≠ 0) (hy : y ≠ 0) : x * y ≠ 0 := Int.mul_ne_zero hx hy
theorem add_ok (v : IsV t b A B) (w : IsV t' b' A' B') : IsV (rt (t * b' + t' * b) (b * b')) (rb (t * b' + t' * b) (b * b')) (A * B' + A' * B) (B * B') :=
  (isV_new (mul_ne v.ne w.ne)).to (mul_ne v.B0 w.B0) (by have := v.eq; have := w.eq; grind)
theorem sub_ok (v : IsV t b A B) (w : IsV t' b' A' B') : IsV (rt (t * b' - t' * b) (b * b')) (rb (t * b' - t' * b) (b * b')) (A * B' - A' * B) (B * B') :=
  (isV_new (mul_ne v.ne w.ne)).to (mul_ne v.B0 w.B0) (by have := v.eq; have := w.eq; grind)
theorem mul_ok (v : IsV t b A B) (w : IsV t' b' A' B') : IsV (rt (t * t') (b * b')) (rb (t * t') (b * b')) (A * A') (B * B') :=
  (isV_new (mul_ne v.ne w.ne)).to (mul_ne v.B0 w.B0) (by have := v.eq; have := w.eq; grind)
theorem top_zero (w : IsV t b A B) : t = 0 ↔ A = 0 := by
  have e := w.eq
  constructor
  · intro h
    subst h
    rw [Int.zero_mul] at e
    rcases Int.mul_eq_zero.mp e.symm with h | h
    · exact h
    · exact absurd h w.ne
  · intro h
    subst h
    rw [Int.zero_mul] at e
    rcases Int.mul_eq_zero.mp e with h | h
    · exact h
    · exact absurd h w.B0
theorem over_ok (v : IsV t b A B) (w : IsV t' b' A' B') (h : A' ≠ 0) : IsV (rt (t * b') (b * t')) (rb (t * b') (b * t')) (A * B') (B * A') := by
  have h' : t' ≠ 0 := fun z => h ((top_zero w).mp z)
  exact (isV_new (mul_ne v.ne h')).to (mul_ne v.B0 h) (by have := v.eq; have := w.eq; grind)
theorem neg_ok (v : IsV t b A B) : IsV (rt (-t) b) (rb (-t) b) (-A) B :=
  (isV_new v.ne).to v.B0 (by have := v.eq; grind)
theorem pos_ok (v : IsV t b A B) : IsV (rt t b) (rb t b) A B := (isV_new v.ne).to v.B0 v.eq
theorem fdiv_scale {a b k : Int} (hk : k ≠ 0) : (k * a).fdiv (k * b) = a.fdiv b := by
  by_cases q : 0 < k
  · exact Int.mul_fdiv_mul_of_pos _ _ q
  · have e : (-(-k * a)).fdiv (-(-k * b)) = (-k * a).fdiv (-k * b) := Int.neg_fdiv_neg _ _
    rw [Int.neg_mul, Int.neg_mul, Int.neg_neg, Int.neg_neg] at e
    rw [e, ← Int.neg_mul, ← Int.neg_mul]
    exact Int.mul_fdiv_mul_of_pos _ _ (by omega)
theorem floor_same {p q P Q : Int} (hq : q ≠ 0) (hQ : Q ≠ 0) (h : p * Q = P * q) : p.fdiv q = P.fdiv Q := by
  have h1 : (p * Q).fdiv (q * Q) = p.fdiv q := by rw [Int.mul_comm p, Int.mul_comm q]; exact fdiv_scale hQ
  have h2 : (P * q).fdiv (Q * q) = P.fdiv Q := by rw [Int.mul_comm P, Int.mul_comm Q]; exact fdiv_scale hq
  rw [← h1, ← h2, h, Int.mul_comm q Q]
theorem floor_ok (v : IsV t b A B) (w : IsV t' b' A' B') (h : A' ≠ 0) : (t * b').fdiv (b * t') = (A * B').fdiv (B * A') := by
  have h' : t' ≠ 0 := fun z => h ((top_zero w).mp z)
  exact floor_same (mul_ne v.ne h') (mul_ne v.B0 h) (by have := v.eq; have := w.eq; grind)
end
end Pt

namespace Pt
open PySem PySem.Spec L2
open PySem.W (findIn isFn kitOne)
def SI (n : Int) : Str := Str.ofString (toString n)
def txtL (t : Int) : List Nat := if t < 0 then 45 :: TL.numL t.natAbs else TL.numL t.natAbs
theorem tl_SI (t : Int) : TL.tl (SI t) = txtL t := by
  unfold SI txtL
  cases t with
  | ofNat n => rw [if_neg (by simp only [Int.ofNat_eq_natCast]; omega)]; exact TL.tl_num n
  | negSucc n =>
    rw [if_pos (Int.negSucc_lt_zero n)]
    have h := TL.tl_num (n + 1)
    rw [TL.tl_ofString] at h ⊢
    have e : toString (Int.negSucc n) = "-" ++ toString ((n + 1 : Nat) : Int) := rfl
    rw [e, String.toList_append, List.map_append, h]
    rfl
theorem SI_nat (n : Nat) : TL.tl (SI n) = TL.numL n := TL.tl_num n
theorem ten60 : (10 : Nat) ^ 60 < 2 ^ 200 := by decide +kernel
theorem numL60 {n : Nat} (h : n < 10 ^ 60) : (TL.numL n).length ≤ 60 := TL.numL_len (by decide) h
theorem numL_head : ∀ n : Nat, 1 ≤ n → ∃ c r, TL.numL n = c :: r ∧ 49 ≤ c := by
  intro n
  induction n using Nat.strongRecOn with
  | ind n ih =>
    intro h
    by_cases h1 : n < 10
    · exact ⟨48 + n, [], TL.numL_lt h1, by omega⟩
    · obtain ⟨c, r, e, k⟩ := ih (n / 10) (by omega) (by omega)
      exact ⟨c, r ++ [48 + n % 10], by rw [TL.numL_step (by omega), e, List.cons_append], k⟩
theorem len_SI {t : Int} (h : t.natAbs < 10 ^ 60) : (SI t).length ≤ 61 := by
  rw [TL.len_tl, tl_SI]
  have := numL60 h
  unfold txtL
  split
  · rw [List.length_cons]; omega
  · omega
theorem int_SI {t : Int} (h : t.natAbs < 10 ^ 60) : intText? (SI t) = some t := by
  have hl := numL60 h
  have hlen := len_SI h
  by_cases k : t < 0
  · have e : (SI t).cps.toList = 45 :: TL.numL t.natAbs := by
      have := tl_SI t
      unfold txtL at this
      rw [if_pos k] at this
      exact this
    rw [intText_neg e (TL.numL_digits _) (TL.numL_ne _) (by omega), TL.numL_val]
    exact congrArg some (by omega)
  · have e : (SI t).cps.toList = TL.numL t.natAbs := by
      have := tl_SI t
      unfold txtL at this
      rw [if_neg k] at this
      exact this
    rw [intText_digits (by rw [e]; exact TL.numL_digits _) (by rw [e]; exact TL.numL_ne _) (by omega), e, TL.numL_val]
    exact congrArg some (by omega)
theorem slash_tl : TL.tl (("/" : Str)) = [47] := by decide +kernel
theorem minus_tl : TL.tl (("-" : Str)) = [45] := by decide +kernel
theorem no_slash (t : Int) : ¬ (47 : Nat) ∈ TL.tl (SI t) := by
  rw [tl_SI]
  have := TL.numL_free (n := t.natAbs) (s := 47) (by omega)
  unfold txtL
  split
  · intro h
    rcases List.mem_cons.mp h with h | h
    · omega
    · exact this h
  · exact this
/-- the text of a fraction in lowest terms -/
def ratText (t b : Int) : Str := if b = 1 then SI t else SI t ++ "/" ++ SI b
theorem part_one {t : Int} : Txt.partition (SI t) "/" = (SI t, Str.empty, Str.empty) := TL.partition_none slash_tl (no_slash t)
theorem part_two {t b : Int} : Txt.partition (SI t ++ "/" ++ SI b) "/" = (SI t, ("/" : Str), SI b) := TL.partition_app slash_tl (no_slash t)
theorem subAt_head {x : Str} {c : Nat} {r : List Nat} (e : TL.tl x = c :: r) : Builtin.Str.subAt x "-" 0 = decide (c = 45) := by
  have h : x.cps = (c :: r).toArray := by rw [← e]
  unfold Builtin.Str.subAt
  rw [h]
  have h1 : ((c :: r).toArray.extract 0 (0 + (("-" : Str)).length)) = #[c] := by
    have : (("-" : Str)).length = 1 := by decide +kernel
    rw [this]
    apply Array.ext'
    simp
  rw [h1]
  have h2 : (("-" : Str)).cps = #[45] := by decide +kernel
  rw [h2]
  by_cases k : c = 45
  · subst k
    rfl
  · rw [decide_eq_false k]
    refine Bool.eq_false_iff.mpr fun z => k ?_
    have := beq_iff_eq.mp z
    simpa using this
theorem rp_SI (t : Int) : Txt.removeprefix (SI t) "-" = SI t.natAbs := by
  rw [StrLaws.removeprefix_eq]
  have hl : (("-" : Str)).length = 1 := by decide +kernel
  rw [hl]
  have e := tl_SI t
  unfold txtL at e
  obtain ⟨c, r, hc⟩ : ∃ c r, TL.numL t.natAbs = c :: r := by
    cases h : TL.numL t.natAbs with
    | nil => exact absurd h (TL.numL_ne _)
    | cons c r => exact ⟨c, r, rfl⟩
  by_cases k : t < 0
  · rw [if_pos k] at e
    have hlen : (SI t).length = (TL.numL t.natAbs).length + 1 := by rw [TL.len_tl, e, List.length_cons]
    rw [subAt_head e, if_pos (by rw [hlen]; simp)]
    apply TL.ext_tl
    rw [TL.tl_mk, SI_nat, hlen]
    have : (SI t).cps.toList = 45 :: TL.numL t.natAbs := e
    rw [this]
    simp
  · rw [if_neg k, hc] at e
    have h48 := TL.numL_digits t.natAbs c (by rw [hc]; simp)
    rw [subAt_head e, if_neg (by rw [decide_eq_false (show ¬ c = 45 by omega)]; simp)]
    apply TL.ext_tl
    rw [SI_nat, e, hc]
theorem digits_all {n : Nat} {c : Nat} (h : c ∈ TL.numL n) : decide (c ∈ TL.tl (("0123456789" : Str))) = true := by
  have hd : TL.tl (("0123456789" : Str)) = [48, 49, 50, 51, 52, 53, 54, 55, 56, 57] := by decide +kernel
  have := TL.numL_digits n c h
  rw [hd]
  apply decide_eq_true
  simp only [List.mem_cons, List.not_mem_nil, or_false]
  omega
theorem ratText_inj_pos {b : Int} (h : 1 ≤ b) : SI b = SI (b.natAbs : Nat) := congrArg SI (by omega)
theorem len_ratText {t b : Int} (h : t.natAbs < 10 ^ 60) (k : b.natAbs < 10 ^ 60) : (ratText t b).length ≤ 123 := by
  have h1 := len_SI h
  have h2 := len_SI k
  unfold ratText
  split
  · omega
  · have h3 : (("/" : Str)).length = 1 := by decide +kernel
    rw [TL.len_tl, TL.tl_append, TL.tl_append, List.length_append, List.length_append, ← TL.len_tl, ← TL.len_tl, ← TL.len_tl, h3]
    omega
theorem log_small {t : Int} (h : t.natAbs < 2 ^ 200) : t.natAbs.log2 < 1920 := Nat.lt_of_le_of_lt (Nat.le_of_lt_succ (by
  by_cases z : t.natAbs = 0
  · rw [z]; decide
  · exact Nat.lt_succ_of_lt ((Nat.log2_lt z).mpr h))) (by decide : 200 < 1920)
end Pt

namespace Pt
open PySem PySem.Spec L2
open PySem.W (findIn isFn kitOne)
/-! ### the text by places -/
def topS (i : Nat) : Stmt := PySem.Challenge.pw_partstell_k04_ratio_powers_and_texts.main.body.getD (i + 1) (.Pass ⟨0, 0, 0, 0⟩)
abbrev sNRi : Stmt := inClass (topS 2) 0
abbrev sIsInt : Stmt := topS 5
abbrev sInit : Stmt := inClass (topS 9) 0
abbrev sAdd : Stmt := inClass (topS 9) 1
abbrev sRadd : Stmt := inClass (topS 9) 2
abbrev sSub : Stmt := inClass (topS 9) 3
abbrev sRsub : Stmt := inClass (topS 9) 4
abbrev sMul : Stmt := inClass (topS 9) 5
abbrev sRmul : Stmt := inClass (topS 9) 6
abbrev sFloor : Stmt := inClass (topS 9) 7
abbrev sRfloor : Stmt := inClass (topS 9) 8
abbrev sMod : Stmt := inClass (topS 9) 9
abbrev sRmod : Stmt := inClass (topS 9) 10
abbrev sNeg : Stmt := inClass (topS 9) 11
abbrev sPos : Stmt := inClass (topS 9) 12
abbrev sAbs : Stmt := inClass (topS 9) 13
abbrev sEq : Stmt := inClass (topS 9) 15
abbrev sOver : Stmt := inClass (topS 9) 20
abbrev sIsOp : Stmt := topS 10
abbrev sAsR : Stmt := topS 11
abbrev sGcd : Stmt := topS 12
/-! ### fractions in the heap -/
theorem kTB : ¬ (("top" : Str) = "bottom") := by decide +kernel
def rflds (t b : Int) : List (Str × V) := putF "bottom" (.int b) (putF "top" (.int t) [])
theorem rflds_top (t b : Int) : (rflds t b).lookup ("top" : Str) = some (.int t) := by
  unfold rflds
  rw [lookup_putF, if_neg kTB, lookup_putF, if_pos rfl]
theorem rflds_bot (t b : Int) : (rflds t b).lookup ("bottom" : Str) = some (.int b) := by
  unfold rflds
  rw [lookup_putF, if_pos rfl]
theorem rflds_no (t b : Int) {m : Str} (h1 : ¬ m = "bottom") (h2 : ¬ m = "top") : (rflds t b).lookup m = none := by
  unfold rflds
  rw [lookup_putF, if_neg h1, lookup_putF, if_neg h2]
  all_goals rfl
def RatAt (C : Addr) (H : Hp) (p : Addr) (t b : Int) : Prop := ∃ dx, H p = some (.ins C dx (rflds t b))
theorem RatAt.own {C p : Addr} {H : Hp} {t b : Int} (h : RatAt C H p t b) : OwnV C H (.ref p) := let ⟨dx, e⟩ := h; ⟨p, dx, _, rfl, e⟩
theorem RatAt.same {C p : Addr} {H H' : Hp} {t b : Int} (h : RatAt C H p t b) (s : Same H H') : RatAt C H' p t b := let ⟨dx, e⟩ := h; ⟨dx, s _ _ e⟩
/-- a Ratio or an int, of value t / b -/
def Opd (C : Addr) (H : Hp) (x : V) (t b : Int) : Prop := (∃ p, x = .ref p ∧ RatAt C H p t b) ∨ (x = .int t ∧ b = 1)
theorem Opd.same {C : Addr} {H H' : Hp} {x : V} {t b : Int} (h : Opd C H x t b) (s : Same H H') : Opd C H' x t b := h.imp (fun ⟨p, e, r⟩ => ⟨p, e, r.same s⟩) id
/-- what the walk asks of the text -/
structure Txt (K : PySem.W.Frag) (mg : Str → Option Value) (C CN fI : Addr) : Prop where
  cl : Cls K C
  nT : NoAttr K C "top"
  nB : NoAttr K C "bottom"
  mgC : mg "Ratio" = some (.ref C)
  cA : findIn K (.ref C) "__class__" = some (some (.builtin "object.__class__"))
  cN : PySem.W.specialIn K (.builtin "object.__class__") "__get__" = some (some (.builtin "getset_descriptor.__get__"))
  cK : PySem.W.takesIn K (.builtin "object.__class__") = some true
  cM : PySem.W.mroIn K C (.type "object") = some true
  iCI : kitOne K (.ref C) (.type "int") = some false
  iIC : kitOne K (.type "int") (.ref C) = some false
  iCC : kitOne K (.ref C) (.ref C) = some true
  oex : OexC K CN
  xf : XfC K CN
  nW : findIn K (.ref CN) "word" = some none
  iN : findIn K (.ref CN) "__init__" = some (some (.ref fI))
  tN : PySem.W.typeIn K (.ref fI) = some (.type "function")
  mgN : mg "NoRatio" = some (.ref CN)
  eN : PySem.W.exmOne K (.ref CN) (.ref CN) = some true
  gIsi : mg "isinstance" = none
  gInt : mg "int" = none
  gBool : mg "bool" = none
  gAbs : mg "abs" = none
  gLen : mg "len" = none
  gRange : mg "range" = none
/-! ### promises -/
def spIsInt (C : Addr) : Sp := fun vs H Q _ => ∃ x, vs = [x] ∧ ((∃ i, x = .int i) ∧ Q (.bl true) H ∨ OwnV C H x ∧ Q (.bl false) H)
def spIsOp (C : Addr) : Sp := fun vs H Q _ => ∃ x, vs = [x] ∧ ((∃ i, x = .int i) ∨ OwnV C H x) ∧ Q (.bl true) H
def spGcd : Sp := fun vs H Q _ => ∃ a b : Int, vs = [.int a, .int b] ∧ Q (.int (Int.gcd a b : Int)) H
/-- NoRatio(word) leaves: the error's dict -/
def Zero (CN : Addr) (H : Hp) (E : XK) : Prop := ∀ d H', H d = none → Same H H' → H' d = some (.xd [(("word" : Str), V.str "zero")]) → E (.ref CN) (some d) H'
def spInit (C CN : Addr) : Sp := fun vs H Q E => ∃ (p dx : Addr) (t b : Int), vs = [.ref p, .int t, .int b] ∧ H p = some (.ins C dx []) ∧ t.natAbs < 2 ^ 4000 ∧ b.natAbs < 2 ^ 4000 ∧
  (b ≠ 0 → ∀ H', (∀ c o, H c = some o → c ≠ p → H' c = some o) → H' p = some (.ins C dx (rflds (rt t b) (rb t b))) → Q .non H') ∧
  (b = 0 → Zero CN H E)
def spNR (CN : Addr) : Sp := fun vs H Q _ => ∃ (a : Addr) (w : V), vs = [.ref a, w] ∧ H a = some (exo a CN none) ∧ ∀ dx, H dx = none → dx ≠ a → Q .non (upd (upd H dx (exd dx [(("word" : Str), w)])) a (exo a CN (some dx)))
section
variable {P : Program} {w : World} {K : PySem.W.Frag} {mg : Str → Option Value} {base : Heap} {C CN fI : Addr}
theorem op_fdivZ {X : Cx} : OpR X (binaryOp .FloorDiv) (rI (fun _ j => j ≠ 0 ∧ j.natAbs.log2 < 9000) fun i j => .int (i.fdiv j)) := opI fun i j _ _ _ _ _ hc q => PyProof.Rows.floordiv_int hc.1 q (.inl (PyProof.noPylong_of_log2 hc.2))
theorem Txt.ty (T : Txt K mg C CN fI) {H : Hp} {a dx : Addr} {fs : List (Str × V)} (e : H a = some (.ins C dx fs)) : TyX K H (.ref a) (.ref C) := .base (.ins e T.cl T.cA T.cN T.cK T.cM)
/-! ### is_integer -/
theorem scII : FnScope ["thing"] ["thing"] (defScope sIsInt) := ⟨rfl, rfl, rfl, by decide +kernel, rfl, by decide +kernel, by decide +kernel⟩
theorem ok_isint {f : Addr} {fd : FuncData} (F : Fun K "is_integer" "is_integer" sIsInt f fd) (T : Txt K mg C CN fI) : FnOk P w K mg base CX0 1 f fd ["thing"] (spIsInt C) := by
  refine F.ok scII (fun vs H Q E h => ?_) (fun cdv A outer s H vs Q E hr h => ?_)
  · obtain ⟨x, rfl, _⟩ := h
    rfl
  · obtain ⟨x, rfl, h⟩ := h
    refine ⟨_, pss_one (ps_ret (pe_and (pe_callB call_isi (by rfl) T.gIsi PyProof.Rows.boot_isinstance (pa_cons (pv 0) (pa_cons (pe_bltn (v := .ty "int") (by rfl) T.gInt PyProof.Rows.boot_int rfl) pa_nil)))
      (pe_one (pe_not (pe_callB call_isi (by rfl) T.gIsi PyProof.Rows.boot_isinstance (pa_cons (pv 0) (pa_cons (pe_bltn (v := .ty "bool") (by rfl) T.gBool PyProof.Rows.boot_bool rfl) pa_nil))))))), ?_⟩
    rcases h with ⟨⟨i, rfl⟩, q⟩ | ⟨⟨a, dx, fs, rfl, e⟩, q⟩
    · refine ⟨_, rfl, _, _, _, _, true, rfl, .ty _, .base (.int i), kit_ty (by decide +kernel), true, rfl, iteT ?_⟩
      exact ⟨_, rfl, _, _, _, _, false, rfl, .ty _, .base (.int i), kit_ty (by decide +kernel), false, rfl, q⟩
    · refine ⟨_, rfl, _, _, _, _, false, rfl, .ty _, T.ty e, T.iCI, false, rfl, iteF ?_⟩
      exact q
/-! ### common_divisor -/
theorem scG : FnScope ["one", "other"] ["one", "other"] (defScope sGcd) := ⟨rfl, rfl, rfl, by decide +kernel, rfl, by decide +kernel, by decide +kernel⟩
theorem ok_gcd {f : Addr} {fd : FuncData} (F : Fun K "common_divisor" "common_divisor" sGcd f fd) (T : Txt K mg C CN fI) : FnOk P w K mg base CX0 1 f fd ["one", "other"] spGcd := by
  refine F.ok scG (fun vs H Q E h => ?_) (fun cdv A outer s H vs Q E hr h => ?_)
  · obtain ⟨a, b, rfl, _⟩ := h
    rfl
  · obtain ⟨a, b, rfl, q⟩ := h
    refine ⟨_, pss_cons (ps_while PassesOwn.never (pt_cmpR op_ne (pv 1) pe_int (nomark _))
        (pss_one (ps_par (i := 0) (j := 1) (by rfl) scG.nd rfl rfl (by decide) rfl rfl (pa_cons (pv 1) (pa_cons (pe_op op_modN (pv 0) (pv 1)) pa_nil)) (by rfl))))
      (pss_one (ps_ret (pe_callB call_abs (by rfl) T.gAbs PyProof.Rows.boot_abs (pa_cons (pv 0) pa_nil)))), ?_⟩
    refine while_by (fun σ H' => ∃ x y : Int, σ = [some (.int x), some (.int y)] ∧ H' = H ∧ Int.gcd x y = Int.gcd a b) (fun σ _ => match σ with | [_, some (.int y)] => y.natAbs | _ => 0) ⟨a, b, rfl, rfl, rfl⟩ ?_ ?_
    · rintro σ H' ⟨x, y, rfl, rfl, e⟩
      refine ⟨_, rfl, rfl, _, rfl, ?_⟩
      by_cases hy : y = 0
      · subst hy
        refine iteNS rfl ?_
        refine ⟨_, rfl, x, rfl, ?_⟩
        have : (if x < 0 then -x else x) = (Int.gcd a b : Int) := by
          rw [← e, Int.gcd_zero_right]
          split <;> omega
        rw [this]
        exact q
      · rw [decide_eq_false (fun z => hy (V.int.inj z))]
        refine iteT ?_
        exact ⟨_, rfl, _, rfl, _, rfl, _, _, rfl, rfl, hy, _, _, rfl, ⟨y, x.fmod y, rfl, rfl, (gcd_turn x y).trans e⟩, fmod_less x y hy⟩
    · rintro σ H' Q1 Q2 m ⟨v, e1, h2⟩
      obtain ⟨h3, k, e2, h4⟩ := h2
      exact ⟨v, e1, h3, k, e2, m _ _ h4⟩
/-! ### NoRatio.__init__ -/
theorem scNR : FnScope ["self", "word"] ["self", "word"] (defScope sNRi) := ⟨rfl, rfl, rfl, by decide +kernel, rfl, by decide +kernel, by decide +kernel⟩
theorem ok_nr {f : Addr} {fd : FuncData} (F : Fun K "__init__" "NoRatio.__init__" sNRi f fd) (T : Txt K mg C CN fI) : FnOk P w K mg base CX0 1 f fd ["self", "word"] (spNR CN) := by
  refine F.ok scNR (fun vs H Q E h => ?_) (fun cdv A outer s H vs Q E hr h => ?_)
  · obtain ⟨a, w, rfl, _⟩ := h
    rfl
  · obtain ⟨a, w, rfl, e, q⟩ := h
    refine ⟨_, pss_one (ps_ost (pv 0) (pv 1)), ?_⟩
    exact ⟨_, rfl, _, rfl, a, CN, rfl, T.oex, T.nW, .inl ⟨e, q⟩⟩
end
end Pt

namespace Pt
open PySem PySem.Spec L2
open PySem.W (findIn isFn kitOne)
/-! ### sizes -/
def Sz (n : Nat) (t b : Int) : Prop := t.natAbs < 2 ^ n ∧ 1 ≤ b ∧ b.natAbs < 2 ^ n
theorem Sz.mono {n m : Nat} {t b : Int} (h : Sz n t b) (k : n ≤ m) : Sz m t b := ⟨Nat.lt_of_lt_of_le h.1 (Nat.pow_le_pow_right (by decide) k), h.2.1, Nat.lt_of_lt_of_le h.2.2 (Nat.pow_le_pow_right (by decide) k)⟩
theorem lt_mono {n m : Nat} {x : Int} (h : x.natAbs < 2 ^ n) (k : n ≤ m) : x.natAbs < 2 ^ m := Nat.lt_of_lt_of_le h (Nat.pow_le_pow_right (by decide) k)
theorem lt_add {n : Nat} {x y : Int} (h : x.natAbs < 2 ^ n) (k : y.natAbs < 2 ^ n) : (x + y).natAbs < 2 ^ (n + 1) := by
  rw [Nat.pow_succ]
  have := Int.natAbs_add_le x y
  omega
theorem lt_sub {n : Nat} {x y : Int} (h : x.natAbs < 2 ^ n) (k : y.natAbs < 2 ^ n) : (x - y).natAbs < 2 ^ (n + 1) := by
  rw [Int.sub_eq_add_neg]
  exact lt_add h (by rw [Int.natAbs_neg]; exact k)
theorem mulOk {n m : Nat} {x y : Int} (h : x.natAbs < 2 ^ n) (k : y.natAbs < 2 ^ m) (hn : 0 < n := by decide) (hm : 0 < m := by decide) (z : n + m ≤ 1000000 := by decide) : CMulW x y := wide_mul h k hn hm z
theorem divOk {x y : Int} {m : Nat} (h : y ≠ 0) (k : y.natAbs < 2 ^ m) (hm : 0 < m := by decide) (z : m ≤ 9000 := by decide) : y ≠ 0 ∧ y.natAbs.log2 < 9000 := ⟨h, Nat.lt_of_lt_of_le (PySem.Flt.log2_lt_of hm k) z⟩
theorem rt_one (t : Int) : rt t 1 = t := by
  unfold rt rg
  rw [if_neg (by decide)]
  simp
theorem rb_one (t : Int) : rb t 1 = 1 := by
  unfold rb rg
  rw [if_neg (by decide)]
  simp
/-! ### promises -/
abbrev G4 := Int → Int → Int → Int → Int
/-- a new Ratio of value N / D -/
def NewR (C : Addr) (H : Hp) (N D : Int) (Q : VK) : Prop := ∀ H' q, Same H H' → RatAt C H' q (rt N D) (rb N D) → Q (.ref q) H'
def spBin (C : Addr) (N D : G4) : Sp := fun vs H Q _ => ∃ (p : Addr) (y : V) (t b t' b' : Int), vs = [.ref p, y] ∧ RatAt C H p t b ∧ Opd C H y t' b' ∧ Sz 1000 t b ∧ Sz 1000 t' b' ∧ NewR C H (N t b t' b') (D t b t' b') Q
def spAsR (C : Addr) : Sp := fun vs H Q _ => ∃ (x : V) (t b : Int), vs = [x] ∧ Opd C H x t b ∧ Sz 1000 t b ∧ ∀ H' p, Same H H' → RatAt C H' p t b → Q (.ref p) H'
def aN : G4 := fun t b t' b' => t * b' + t' * b
def sN : G4 := fun t b t' b' => t * b' - t' * b
def mN : G4 := fun t _ t' _ => t * t'
def bD : G4 := fun _ b _ b' => b * b'
def rsN : G4 := fun t b t' b' => (rt (-t) b) * b' + t' * (rb (-t) b)
def rsD : G4 := fun t b _ b' => (rb (-t) b) * b'
def rmN : G4 := fun t _ t' _ => t * t'
/-- the negative, the same, the absolute value -/
def spUn (C : Addr) (N : Int → Int) : Sp := fun vs H Q _ => ∃ (p : Addr) (t b : Int), vs = [.ref p] ∧ RatAt C H p t b ∧ Sz 1000 t b ∧ NewR C H (N t) b Q
def spFloor (C CN : Addr) : Sp := fun vs H Q E => ∃ (p : Addr) (y : V) (t b t' b' : Int), vs = [.ref p, y] ∧ RatAt C H p t b ∧ Opd C H y t' b' ∧ Sz 1000 t b ∧ Sz 1000 t' b' ∧
  (t' ≠ 0 → ∀ H', Same H H' → Q (.int ((t * b').fdiv (b * t'))) H') ∧ (t' = 0 → ∀ H', Same H H' → Zero CN H' E)
def spRfloor (C CN : Addr) : Sp := fun vs H Q E => ∃ (p : Addr) (y : V) (t b t' b' : Int), vs = [.ref p, y] ∧ RatAt C H p t b ∧ Opd C H y t' b' ∧ Sz 1000 t b ∧ Sz 1000 t' b' ∧
  (t ≠ 0 → ∀ H', Same H H' → Q (.int ((t' * b).fdiv (b' * t))) H') ∧ (t = 0 → ∀ H', Same H H' → Zero CN H' E)
def spOver (C CN : Addr) : Sp := fun vs H Q E => ∃ (p : Addr) (y : V) (t b t' b' : Int), vs = [.ref p, y] ∧ RatAt C H p t b ∧ Opd C H y t' b' ∧ Sz 1000 t b ∧ Sz 1000 t' b' ∧
  (t' ≠ 0 → NewR C H (t * b') (b * t') Q) ∧ (t' = 0 → ∀ H', Same H H' → Zero CN H' E)
section
variable {P : Program} {w : World} {K : PySem.W.Frag} {mg : Str → Option Value} {base : Heap} {C CN fN : Addr}
theorem Zero.same {H H' : Hp} {E : XK} (z : Zero CN H E) (s : Same H H') : Zero CN H' E := fun d H2 n k e => z d H2 (s.free n) (s.trans k) e
/-- raise NoRatio("zero") -/
theorem zero_reads {H : Hp} {E : XK} {σ : L2.St} (z : Zero CN H E) : tMkO CN (spNR CN) [] (tCons (tC (.str "zero")) tNil) σ H (fun cls d H' => E cls d H') := by
  refine ⟨by decide, fun a na => ⟨a, _, rfl, upd_same, fun dx ndx ne => ⟨rfl, dx, _, upd_same, by rw [upd_ne ne, upd_same], ?_, ?_⟩⟩⟩
  · rw [upd_ne ne] at ndx
    exact ndx
  · rw [upd_ne ne] at ndx
    refine z dx _ ndx (fun b o e => ?_) upd_same
    have h1 : b ≠ dx := ne_of_none e ndx
    have h2 : b ≠ a := ne_of_none e na
    rw [upd_ne h1, del_ne h2, upd_ne h2, upd_ne h1, upd_ne h2]
    exact e
/-- the facts of the defs that all operators call -/
structure Core (P : Program) (w : World) (K : PySem.W.Frag) (mg : Str → Option Value) (base : Heap) (C CN fN : Addr) : Prop where
  T : Txt K mg C CN fN
  isI : ∃ f fd, FnOk P w K mg base CX0 1 f fd ["thing"] (spIsInt C) ∧ mg "is_integer" = some (.ref f) ∧ PySem.W.keepIn K (.ref f) = true ∧ Binds K fd ["thing"] []
  gcd : ∃ f fd, FnOk P w K mg base CX0 1 f fd ["one", "other"] spGcd ∧ mg "common_divisor" = some (.ref f) ∧ PySem.W.keepIn K (.ref f) = true ∧ Binds K fd ["one", "other"] []
  nr : ∃ fd, FnOk P w K mg base CX0 1 fN fd ["self", "word"] (spNR CN) ∧ Binds K fd ["self", "word"] []
theorem scIn : FnScope ["self", "top", "bottom", "shared"] ["self", "top", "bottom"] (defScope sInit) := ⟨rfl, rfl, rfl, by decide +kernel, rfl, by decide +kernel, by decide +kernel⟩
theorem ok_init {f : Addr} {fd : FuncData} (F : FunD K "__init__" "Ratio.__init__" (defArgs sInit) (defBody sInit) (defScope sInit) [.int 1] [] f fd) (O : Core P w K mg base C CN fN) :
    FnOk P w K mg base (L2.CX P w) 3 f fd ["self", "top", "bottom"] (spInit C CN) := by
  obtain ⟨T, ⟨fi, fdi, Gi, mi, ki, bi⟩, ⟨fg, fdg, Gg, mgg, kg, bg⟩, ⟨fdn, Gn, bn⟩⟩ := O
  refine F.ok scIn (fun vs H Q E h => ?_) (fun cdv A outer s H vs Q E hr h => ?_)
  · obtain ⟨p, dx, t, b, rfl, _⟩ := h
    rfl
  · obtain ⟨p, dx, t, b, rfl, hp, ht, hb, yes, no⟩ := h
    have hr1 : Room 1 _ := hr.mono (by decide)
    refine ⟨_, pss_cons (ps_if (pt_not (pt_val (pe_call Gi hr1 rfl mi ki bi .nil pass0 (pa_cons (pv 1) pa_nil)))) (pss_one ps_never) pss_nil)
      (pss_cons (ps_if (pt_not (pt_val (pe_call Gi hr1 rfl mi ki bi .nil pass0 (pa_cons (pv 2) pa_nil)))) (pss_one ps_never) pss_nil)
      (pss_cons (ps_if (pt_cmpR op_eq (pv 2) pe_int (nomark _)) (pss_one (ps_raise rfl (takes_of rfl rfl rfl rfl) (pmk_oex T.oex T.iN T.tN Gn hr bn .nil pass0 rfl T.mgN (pa_cons pe_str pa_nil)))) pss_nil)
      (pss_cons (ps_set (i := 3) scIn.nd rfl (Or.inl rfl) (pe_call Gg hr1 rfl mgg kg bg .nil pass0 (pa_cons (pv 1) (pa_cons (pv 2) pa_nil))))
      (pss_cons (ps_if (pt_cmpR op_lt (pv 2) pe_int (nomark _)) (pss_one (ps_set (i := 3) scIn.nd rfl (Or.inl rfl) (pe_un un_neg (pv 3)))) pss_nil)
      (pss_cons (ps_fld (pv 0) (pe_op op_fdivZ (pv 1) (pv 3)) rfl)
      (pss_one (ps_fld (pv 0) (pe_op op_fdivZ (pv 2) (pv 3)) rfl))))))), ?_⟩
    refine ⟨_, rfl, _, rfl, .inl ⟨⟨t, rfl⟩, _, rfl, iteF ?_⟩⟩
    refine ⟨_, rfl, _, rfl, .inl ⟨⟨b, rfl⟩, _, rfl, iteF ?_⟩⟩
    refine ⟨_, rfl, rfl, _, rfl, ?_⟩
    by_cases h0 : b = 0
    · subst h0
      rw [decide_eq_true rfl]
      exact iteT (zero_reads (no rfl))
    · rw [decide_eq_false (fun z => h0 (V.int.inj z))]
      refine iteF ?_
      refine ⟨_, rfl, _, rfl, t, b, rfl, ?_⟩
      have fin : ∀ g : Int, g = rg t b → ∀ v0 : V, (let σ : L2.St := [some (.ref p), some (.int t), some (.int b), some (.int g)]; sFld K (tVar 0) (tOp (rI (fun _ j => j ≠ 0 ∧ j.natAbs.log2 < 9000) fun i j => .int (i.fdiv j)) (tVar 1) (tVar 3)) "top"
          { nx := fun σ' H' => sFld K (tVar 0) (tOp (rI (fun _ j => j ≠ 0 ∧ j.natAbs.log2 < 9000) fun i j => .int (i.fdiv j)) (tVar 2) (tVar 3)) "bottom" { nx := fun _ H2 => Q .non H2, rt := Q } σ' H', rt := Q } σ H) := by
        rintro g rfl v0
        obtain ⟨m, e, hg, _⟩ := r_form (n := t) h0
        have hsz := lt_mono (Nat.lt_of_le_of_lt (rg_le (n := t) h0) hb) (m := 4000) (by decide)
        refine ⟨_, rfl, _, rfl, t, rg t b, rfl, rfl, divOk (x := t) hg hsz, _, rfl, p, C, dx, [], rfl, hp, T.cl, T.nT, by decide, ?_⟩
        refine ⟨_, rfl, _, rfl, b, rg t b, rfl, rfl, divOk (x := b) hg hsz, _, rfl, p, C, dx, _, rfl, upd_same, T.cl, T.nB, (by show 1 < 1000; decide), ?_⟩
        refine yes h0 _ (fun c o e hc => ?_) (by rw [upd_same] <;> rfl)
        rw [upd_ne hc, upd_ne hc]
        exact e
      refine ⟨_, rfl, _, _, rfl, rfl, _, rfl, ?_⟩
      by_cases hlt : b < 0
      · rw [decide_eq_true hlt]
        refine iteT ?_
        refine ⟨_, rfl, _, rfl, ?_⟩
        exact fin _ (by unfold rg; rw [if_pos hlt]) .non
      · rw [decide_eq_false hlt]
        refine iteF ?_
        exact fin _ (by unfold rg; rw [if_neg hlt]) .non
end
end Pt

namespace Pt
open PySem PySem.Spec L2
open PySem.W (findIn isFn kitOne)
section
variable {P : Program} {w : World} {K : PySem.W.Frag} {mg : Str → Option Value} {base : Heap} {C CN fN : Addr}
/-- what the operators call -/
structure Core2 (P : Program) (w : World) (K : PySem.W.Frag) (mg : Str → Option Value) (base : Heap) (C CN fN : Addr) : Prop where
  O : Core P w K mg base C CN fN
  init : ∃ f fd, FnOk P w K mg base (L2.CX P w) 3 f fd ["self", "top", "bottom"] (spInit C CN) ∧ Mk K C f ∧ Binds K fd ["self", "top", "bottom"] [] ∧ ∃ ds, Vals [.int 1] ds ∧ Binds K fd ["self", "top", "bottom"] ds
theorem new_same {H : Hp} {x dx : Addr} {o o' : HO} (nx : H x = none) (ndx : H dx = none) : Same H (upd (upd H dx o) x o') := fun b u e => by
  rw [upd_ne (ne_of_none e nx), upd_ne (ne_of_none e ndx)]
  exact e
/-- Ratio(n, d) is made -/
theorem made {H : Hp} {N D : Int} {Q : VK} {x dx : Addr} {E : XK} (hN : N.natAbs < 2 ^ 4000) (hD : D.natAbs < 2 ^ 4000) (h0 : D ≠ 0) (k : NewR C H N D Q) (nx : H x = none) (ndx : H dx = none) (ne : dx ≠ x) :
    spInit C CN [.ref x, .int N, .int D] (upd (upd H dx (.own x)) x (.ins C dx [])) (fun v H2 => v = .non ∧ Q (.ref x) H2) E :=
  ⟨x, dx, N, D, rfl, upd_same, hN, hD, fun _ H' kp e => ⟨rfl, k H' x (fun b o z => kp b o (new_same nx ndx b o z) (ne_of_none z nx)) ⟨dx, e⟩⟩, fun z => absurd z h0⟩
/-! ### is_operand, as_ratio -/
def spIsOp2 (C : Addr) : Sp := spIsOp C
theorem scIO : FnScope ["thing"] ["thing"] (defScope sIsOp) := ⟨rfl, rfl, rfl, by decide +kernel, rfl, by decide +kernel, by decide +kernel⟩
theorem ok_isop {f : Addr} {fd : FuncData} (F : Fun K "is_operand" "is_operand" sIsOp f fd) (O : Core P w K mg base C CN fN) : FnOk P w K mg base CX0 2 f fd ["thing"] (spIsOp C) := by
  obtain ⟨T, ⟨fi, fdi, Gi, mi, ki, bi⟩, _, _⟩ := O
  refine F.ok scIO (fun vs H Q E h => ?_) (fun cdv A outer s H vs Q E hr h => ?_)
  · obtain ⟨x, rfl, _⟩ := h
    rfl
  · obtain ⟨x, rfl, h, q⟩ := h
    refine ⟨_, pss_one (ps_ret (pe_or (pe_callB call_isi (by rfl) T.gIsi PyProof.Rows.boot_isinstance (pa_cons (pv 0) (pa_cons (pe_glob rfl T.mgC (v := .ref C) rfl) pa_nil)))
      (pe_one (pe_call Gi hr rfl mi ki bi .nil pass0 (pa_cons (pv 0) pa_nil))))), ?_⟩
    rcases h with ⟨i, rfl⟩ | ⟨a, dx, fs, rfl, e⟩
    · refine ⟨_, rfl, _, _, _, _, false, rfl, .own C, .base (.int i), T.iIC, false, rfl, iteF ?_⟩
      exact ⟨_, rfl, _, rfl, .inl ⟨⟨i, rfl⟩, q⟩⟩
    · exact ⟨_, rfl, _, _, _, _, true, rfl, .own C, T.ty e, T.iCC, true, rfl, iteT q⟩
theorem scAR : FnScope ["number"] ["number"] (defScope sAsR) := ⟨rfl, rfl, rfl, by decide +kernel, rfl, by decide +kernel, by decide +kernel⟩
theorem ok_asr {f : Addr} {fd : FuncData} (F : Fun K "as_ratio" "as_ratio" sAsR f fd) (O2 : Core2 P w K mg base C CN fN) : FnOk P w K mg base CX0 5 f fd ["number"] (spAsR C) := by
  obtain ⟨O, fi, fdi, Gi, M, b2, ds, vd, b1⟩ := O2
  have T := O.T
  refine F.ok scAR (fun vs H Q E h => ?_) (fun cdv A outer s H vs Q E hr h => ?_)
  · obtain ⟨x, t, b, rfl, _⟩ := h
    rfl
  · obtain ⟨x, t, b, rfl, hx, hz, q⟩ := h
    refine ⟨_, pss_cons (ps_if (pt_val (pe_callB call_isi (by rfl) T.gIsi PyProof.Rows.boot_isinstance (pa_cons (pv 0) (pa_cons (pe_glob rfl T.mgC (v := .ref C) rfl) pa_nil)))) (pss_one (ps_ret (pv 0))) pss_nil)
      (pss_one (ps_ret (pe_make M Gi hr rfl T.mgC b1 vd passL (pa_cons (pv 0) pa_nil)))), ?_⟩
    rcases hx with ⟨p, rfl, r⟩ | ⟨rfl, rfl⟩
    · obtain ⟨dx, e⟩ := id r
      refine ⟨_, rfl, _, _, _, _, true, rfl, .own C, T.ty e, T.iCC, true, rfl, iteT ?_⟩
      exact ⟨_, rfl, q H p (Same.refl H) r⟩
    · refine ⟨_, rfl, _, _, _, _, false, rfl, .own C, .base (.int t), T.iIC, false, rfl, iteF ?_⟩
      refine ⟨_, rfl, fun x dx nx ndx ne => made (lt_mono hz.1 (by decide)) (by decide) (by decide) (fun H' q' s r => ?_) nx ndx ne⟩
      rw [rt_one, rb_one] at r
      exact q H' q' s r
/-- the third layer -/
structure Core3 (P : Program) (w : World) (K : PySem.W.Frag) (mg : Str → Option Value) (base : Heap) (C CN fN : Addr) : Prop where
  O2 : Core2 P w K mg base C CN fN
  isO : ∃ f fd, FnOk P w K mg base CX0 2 f fd ["thing"] (spIsOp C) ∧ mg "is_operand" = some (.ref f) ∧ PySem.W.keepIn K (.ref f) = true ∧ Binds K fd ["thing"] []
  asR : ∃ f fd, FnOk P w K mg base CX0 5 f fd ["number"] (spAsR C) ∧ mg "as_ratio" = some (.ref f) ∧ PySem.W.keepIn K (.ref f) = true ∧ Binds K fd ["number"] []
theorem Opd.isop {H : Hp} {x : V} {t b : Int} (h : Opd C H x t b) : (∃ i, x = .int i) ∨ OwnV C H x := h.elim (fun ⟨p, e, r⟩ => .inr (by rw [e]; exact r.own)) fun ⟨e, _⟩ => .inl ⟨t, e⟩
/-! ### + - * -/
theorem scAdd : FnScope ["self", "other", "more"] ["self", "other"] (defScope sAdd) := ⟨rfl, rfl, rfl, by decide +kernel, rfl, by decide +kernel, by decide +kernel⟩
theorem scSub : FnScope ["self", "other", "less"] ["self", "other"] (defScope sSub) := ⟨rfl, rfl, rfl, by decide +kernel, rfl, by decide +kernel, by decide +kernel⟩
theorem scMul : FnScope ["self", "other", "factor"] ["self", "other"] (defScope sMul) := ⟨rfl, rfl, rfl, by decide +kernel, rfl, by decide +kernel, by decide +kernel⟩
theorem ok_add {f : Addr} {fd : FuncData} (F : Fun K "__add__" "Ratio.__add__" sAdd f fd) (O3 : Core3 P w K mg base C CN fN) : FnOk P w K mg base CX0 6 f fd ["self", "other"] (spBin C aN bD) := by
  obtain ⟨⟨O, fi, fdi, Gi, M, b2, _⟩, ⟨fo, fdo, Go, mo, ko, bo⟩, ⟨fa, fda, Ga, ma, ka, ba⟩⟩ := O3
  have T := O.T
  refine F.ok scAdd (fun vs H Q E h => ?_) (fun cdv A outer s H vs Q E hr h => ?_)
  · obtain ⟨p, y, t, b, t', b', rfl, _⟩ := h
    rfl
  · obtain ⟨p, y, t, b, t', b', rfl, hp, hy, z1, z2, k⟩ := h
    have hr2 : Room 2 _ := hr.mono (by decide)
    have hr4 : Room 4 _ := hr.mono (by decide)
    refine ⟨_, pss_cons (ps_if (pt_not (pt_val (pe_call Go hr2 rfl mo ko bo .nil pass0 (pa_cons (pv 1) pa_nil)))) (pss_one ps_never) pss_nil)
      (pss_cons (ps_set (i := 2) scAdd.nd rfl (Or.inl rfl) (pe_call Ga hr rfl ma ka ba .nil pass0 (pa_cons (pv 1) pa_nil)))
      (pss_one (ps_ret (pe_make M Gi hr4 rfl T.mgC b2 .nil passL (pa_cons (pe_op op_add (pe_op op_mulW (pe_fld (pv 0) rfl) (pe_fld (pv 2) rfl)) (pe_op op_mulW (pe_fld (pv 2) rfl) (pe_fld (pv 0) rfl))) (pa_cons (pe_op op_mulW (pe_fld (pv 0) rfl) (pe_fld (pv 2) rfl)) pa_nil)))))), ?_⟩
    refine ⟨_, rfl, y, rfl, hy.isop, _, rfl, iteF ?_⟩
    refine ⟨_, rfl, y, t', b', rfl, hy, z2, fun H1 q s1 hq => ?_⟩
    obtain ⟨dx, e1⟩ := hp.same s1
    obtain ⟨dy, e2⟩ := hq
    refine ⟨_, rfl, p, C, dx, _, _, rfl, e1, T.cl, T.nT, rflds_top _ _, _, rfl, q, C, dy, _, _, rfl, e2, T.cl, T.nB, rflds_bot _ _, t, b', rfl, rfl, mulOk z1.1 z2.2.2, ?_⟩
    refine ⟨_, rfl, q, C, dy, _, _, rfl, e2, T.cl, T.nT, rflds_top _ _, _, rfl, p, C, dx, _, _, rfl, e1, T.cl, T.nB, rflds_bot _ _, t', b, rfl, rfl, mulOk z2.1 z1.2.2, _, _, rfl, rfl, ?_⟩
    refine ⟨_, rfl, p, C, dx, _, _, rfl, e1, T.cl, T.nB, rflds_bot _ _, _, rfl, q, C, dy, _, _, rfl, e2, T.cl, T.nB, rflds_bot _ _, b, b', rfl, rfl, mulOk z1.2.2 z2.2.2, ?_⟩
    intro x dx' nx ndx ne
    refine made (lt_mono (lt_add (wide_lt z1.1 z2.2.2) (wide_lt z2.1 z1.2.2)) (by decide)) (lt_mono (wide_lt z1.2.2 z2.2.2) (by decide)) (mul_ne (by have := z1.2.1; omega) (by have := z2.2.1; omega)) (fun H' q' s r => k H' q' (s1.trans s) r) nx ndx ne
theorem ok_sub {f : Addr} {fd : FuncData} (F : Fun K "__sub__" "Ratio.__sub__" sSub f fd) (O3 : Core3 P w K mg base C CN fN) : FnOk P w K mg base CX0 6 f fd ["self", "other"] (spBin C sN bD) := by
  obtain ⟨⟨O, fi, fdi, Gi, M, b2, _⟩, ⟨fo, fdo, Go, mo, ko, bo⟩, ⟨fa, fda, Ga, ma, ka, ba⟩⟩ := O3
  have T := O.T
  refine F.ok scSub (fun vs H Q E h => ?_) (fun cdv A outer s H vs Q E hr h => ?_)
  · obtain ⟨p, y, t, b, t', b', rfl, _⟩ := h
    rfl
  · obtain ⟨p, y, t, b, t', b', rfl, hp, hy, z1, z2, k⟩ := h
    have hr2 : Room 2 _ := hr.mono (by decide)
    have hr4 : Room 4 _ := hr.mono (by decide)
    refine ⟨_, pss_cons (ps_if (pt_not (pt_val (pe_call Go hr2 rfl mo ko bo .nil pass0 (pa_cons (pv 1) pa_nil)))) (pss_one ps_never) pss_nil)
      (pss_cons (ps_set (i := 2) scSub.nd rfl (Or.inl rfl) (pe_call Ga hr rfl ma ka ba .nil pass0 (pa_cons (pv 1) pa_nil)))
      (pss_one (ps_ret (pe_make M Gi hr4 rfl T.mgC b2 .nil passL (pa_cons (pe_op op_sub (pe_op op_mulW (pe_fld (pv 0) rfl) (pe_fld (pv 2) rfl)) (pe_op op_mulW (pe_fld (pv 2) rfl) (pe_fld (pv 0) rfl))) (pa_cons (pe_op op_mulW (pe_fld (pv 0) rfl) (pe_fld (pv 2) rfl)) pa_nil)))))), ?_⟩
    refine ⟨_, rfl, y, rfl, hy.isop, _, rfl, iteF ?_⟩
    refine ⟨_, rfl, y, t', b', rfl, hy, z2, fun H1 q s1 hq => ?_⟩
    obtain ⟨dx, e1⟩ := hp.same s1
    obtain ⟨dy, e2⟩ := hq
    refine ⟨_, rfl, p, C, dx, _, _, rfl, e1, T.cl, T.nT, rflds_top _ _, _, rfl, q, C, dy, _, _, rfl, e2, T.cl, T.nB, rflds_bot _ _, t, b', rfl, rfl, mulOk z1.1 z2.2.2, ?_⟩
    refine ⟨_, rfl, q, C, dy, _, _, rfl, e2, T.cl, T.nT, rflds_top _ _, _, rfl, p, C, dx, _, _, rfl, e1, T.cl, T.nB, rflds_bot _ _, t', b, rfl, rfl, mulOk z2.1 z1.2.2, _, _, rfl, rfl, ?_⟩
    refine ⟨_, rfl, p, C, dx, _, _, rfl, e1, T.cl, T.nB, rflds_bot _ _, _, rfl, q, C, dy, _, _, rfl, e2, T.cl, T.nB, rflds_bot _ _, b, b', rfl, rfl, mulOk z1.2.2 z2.2.2, ?_⟩
    intro x dx' nx ndx ne
    refine made (lt_mono (lt_sub (wide_lt z1.1 z2.2.2) (wide_lt z2.1 z1.2.2)) (by decide)) (lt_mono (wide_lt z1.2.2 z2.2.2) (by decide)) (mul_ne (by have := z1.2.1; omega) (by have := z2.2.1; omega)) (fun H' q' s r => k H' q' (s1.trans s) r) nx ndx ne
theorem ok_mul {f : Addr} {fd : FuncData} (F : Fun K "__mul__" "Ratio.__mul__" sMul f fd) (O3 : Core3 P w K mg base C CN fN) : FnOk P w K mg base CX0 6 f fd ["self", "other"] (spBin C mN bD) := by
  obtain ⟨⟨O, fi, fdi, Gi, M, b2, _⟩, ⟨fo, fdo, Go, mo, ko, bo⟩, ⟨fa, fda, Ga, ma, ka, ba⟩⟩ := O3
  have T := O.T
  refine F.ok scMul (fun vs H Q E h => ?_) (fun cdv A outer s H vs Q E hr h => ?_)
  · obtain ⟨p, y, t, b, t', b', rfl, _⟩ := h
    rfl
  · obtain ⟨p, y, t, b, t', b', rfl, hp, hy, z1, z2, k⟩ := h
    have hr2 : Room 2 _ := hr.mono (by decide)
    have hr4 : Room 4 _ := hr.mono (by decide)
    refine ⟨_, pss_cons (ps_if (pt_not (pt_val (pe_call Go hr2 rfl mo ko bo .nil pass0 (pa_cons (pv 1) pa_nil)))) (pss_one ps_never) pss_nil)
      (pss_cons (ps_set (i := 2) scMul.nd rfl (Or.inl rfl) (pe_call Ga hr rfl ma ka ba .nil pass0 (pa_cons (pv 1) pa_nil)))
      (pss_one (ps_ret (pe_make M Gi hr4 rfl T.mgC b2 .nil passL (pa_cons (pe_op op_mulW (pe_fld (pv 0) rfl) (pe_fld (pv 2) rfl)) (pa_cons (pe_op op_mulW (pe_fld (pv 0) rfl) (pe_fld (pv 2) rfl)) pa_nil)))))), ?_⟩
    refine ⟨_, rfl, y, rfl, hy.isop, _, rfl, iteF ?_⟩
    refine ⟨_, rfl, y, t', b', rfl, hy, z2, fun H1 q s1 hq => ?_⟩
    obtain ⟨dx, e1⟩ := hp.same s1
    obtain ⟨dy, e2⟩ := hq
    refine ⟨_, rfl, p, C, dx, _, _, rfl, e1, T.cl, T.nT, rflds_top _ _, _, rfl, q, C, dy, _, _, rfl, e2, T.cl, T.nT, rflds_top _ _, t, t', rfl, rfl, mulOk z1.1 z2.1, ?_⟩
    refine ⟨_, rfl, p, C, dx, _, _, rfl, e1, T.cl, T.nB, rflds_bot _ _, _, rfl, q, C, dy, _, _, rfl, e2, T.cl, T.nB, rflds_bot _ _, b, b', rfl, rfl, mulOk z1.2.2 z2.2.2, ?_⟩
    intro x dx' nx ndx ne
    refine made (lt_mono (wide_lt z1.1 z2.1) (by decide)) (lt_mono (wide_lt z1.2.2 z2.2.2) (by decide)) (mul_ne (by have := z1.2.1; omega) (by have := z2.2.1; omega)) (fun H' q' s r => k H' q' (s1.trans s) r) nx ndx ne
end
end Pt

namespace Pt
open PySem PySem.Spec L2
open PySem.W (findIn isFn kitOne)
section
variable {P : Program} {w : World} {K : PySem.W.Frag} {mg : Str → Option Value} {base : Heap} {C CN fN : Addr}
theorem BinOk.only {op : Operator} {CX : CXT} {k : Nat} {sp : Sp} {g f : Addr} {fd : FuncData} {ps : List Str} (T : OwnBin K C op g (some (.ref f))) (hf : isFn K (.ref f) = true) (F : FnOk P w K mg base CX k g fd ps sp) (b : Binds K fd ps []) :
    BinOk P w K mg base C op CX k sp (fun _ _ _ _ => False) := ⟨g, f, fd, fd, ps, ps, T, hf, F, b, ⟨fun _ _ _ _ h => h.elim, fun _ _ _ _ _ _ _ _ _ _ _ _ _ h => h.elim⟩, b⟩
theorem BinOk.both {op : Operator} {CX : CXT} {k : Nat} {sp spr : Sp} {g f : Addr} {fd fdr : FuncData} {ps psr : List Str} (T : OwnBin K C op g (some (.ref f))) (hf : isFn K (.ref f) = true) (F : FnOk P w K mg base CX k g fd ps sp) (b : Binds K fd ps [])
    (Fr : FnOk P w K mg base CX k f fdr psr spr) (br : Binds K fdr psr []) : BinOk P w K mg base C op CX k sp spr := ⟨g, f, fd, fdr, ps, psr, T, hf, F, b, Fr, br⟩
abbrev spNo : Sp := fun _ _ _ _ => False
theorem passA0 {X : Cx} : ∀ σ, PassesAt CX0 X σ E0 := fun _ _ _ _ _ _ _ h => h.elim
theorem passK {X : Cx} {W : WX} {E : XK} (tk : Takes X W) (h : ∀ cls d σ H, E cls d H → W cls d σ H) : ∀ σ, PassesAt (L2.CX X.prog X.w) X σ E := fun σ pins H s e s' I c => passes_call tk h pins σ H s e s' I c
theorem passKK {X : Cx} {W : WX} {E : XK} (tk : Takes X W) (h : ∀ cls d σ H, E cls d H → W cls d σ H) : Passes (L2.CX X.prog X.w) X E := passes_call tk h
theorem made0 {H : Hp} {N D : Int} {Q : VK} {x dx : Addr} {E : XK} (hN : N.natAbs < 2 ^ 4000) (hD : D.natAbs < 2 ^ 4000) (k : D ≠ 0 → NewR C H N D Q) (z : D = 0 → Zero CN H E) (nx : H x = none) (ndx : H dx = none) (ne : dx ≠ x) :
    spInit C CN [.ref x, .int N, .int D] (upd (upd H dx (.own x)) x (.ins C dx [])) (fun v H2 => v = .non ∧ Q (.ref x) H2) E :=
  ⟨x, dx, N, D, rfl, upd_same, hN, hD, fun h0 H' kp e => ⟨rfl, k h0 H' x (fun b o z => kp b o (new_same nx ndx b o z) (ne_of_none z nx)) ⟨dx, e⟩⟩, fun h0 => (z h0).same (new_same nx ndx)⟩
/-! ### -a, +a, abs(a) -/
theorem scNeg : FnScope ["self"] ["self"] (defScope sNeg) := ⟨rfl, rfl, rfl, by decide +kernel, rfl, by decide +kernel, by decide +kernel⟩
theorem scPos : FnScope ["self"] ["self"] (defScope sPos) := ⟨rfl, rfl, rfl, by decide +kernel, rfl, by decide +kernel, by decide +kernel⟩
theorem scAbs : FnScope ["self"] ["self"] (defScope sAbs) := ⟨rfl, rfl, rfl, by decide +kernel, rfl, by decide +kernel, by decide +kernel⟩
theorem b_ne {n : Nat} {t b : Int} (z : Sz n t b) : b ≠ 0 := by have := z.2.1; omega
theorem ok_neg {f : Addr} {fd : FuncData} (F : Fun K "__neg__" "Ratio.__neg__" sNeg f fd) (O2 : Core2 P w K mg base C CN fN) : FnOk P w K mg base CX0 5 f fd ["self"] (spUn C fun t => -t) := by
  obtain ⟨O, fi, fdi, Gi, M, b2, _⟩ := O2
  have T := O.T
  refine F.ok scNeg (fun vs H Q E h => ?_) (fun cdv A outer s H vs Q E hr h => ?_)
  · obtain ⟨p, t, b, rfl, _⟩ := h
    rfl
  · obtain ⟨p, t, b, rfl, ⟨dx, e⟩, z, k⟩ := h
    refine ⟨_, pss_one (ps_ret (pe_make M Gi hr rfl T.mgC b2 .nil passL (pa_cons (pe_un un_neg (pe_fld (pv 0) rfl)) (pa_cons (pe_fld (pv 0) rfl) pa_nil)))), ?_⟩
    refine ⟨_, rfl, p, C, dx, _, _, rfl, e, T.cl, T.nT, rflds_top _ _, t, rfl, _, rfl, p, C, dx, _, _, rfl, e, T.cl, T.nB, rflds_bot _ _, ?_⟩
    intro x dx' nx ndx ne
    exact made (lt_mono (by rw [Int.natAbs_neg]; exact z.1) (by decide)) (lt_mono z.2.2 (by decide)) (b_ne z) k nx ndx ne
theorem ok_pos {f : Addr} {fd : FuncData} (F : Fun K "__pos__" "Ratio.__pos__" sPos f fd) (O2 : Core2 P w K mg base C CN fN) : FnOk P w K mg base CX0 5 f fd ["self"] (spUn C fun t => t) := by
  obtain ⟨O, fi, fdi, Gi, M, b2, _⟩ := O2
  have T := O.T
  refine F.ok scPos (fun vs H Q E h => ?_) (fun cdv A outer s H vs Q E hr h => ?_)
  · obtain ⟨p, t, b, rfl, _⟩ := h
    rfl
  · obtain ⟨p, t, b, rfl, ⟨dx, e⟩, z, k⟩ := h
    refine ⟨_, pss_one (ps_ret (pe_make M Gi hr rfl T.mgC b2 .nil passL (pa_cons (pe_fld (pv 0) rfl) (pa_cons (pe_fld (pv 0) rfl) pa_nil)))), ?_⟩
    refine ⟨_, rfl, p, C, dx, _, _, rfl, e, T.cl, T.nT, rflds_top _ _, _, rfl, p, C, dx, _, _, rfl, e, T.cl, T.nB, rflds_bot _ _, ?_⟩
    intro x dx' nx ndx ne
    exact made (lt_mono z.1 (by decide)) (lt_mono z.2.2 (by decide)) (b_ne z) k nx ndx ne
theorem ok_abs {f : Addr} {fd : FuncData} (F : Fun K "__abs__" "Ratio.__abs__" sAbs f fd) (O2 : Core2 P w K mg base C CN fN) : FnOk P w K mg base CX0 5 f fd ["self"] (spUn C fun t => if t < 0 then -t else t) := by
  obtain ⟨O, fi, fdi, Gi, M, b2, _⟩ := O2
  have T := O.T
  refine F.ok scAbs (fun vs H Q E h => ?_) (fun cdv A outer s H vs Q E hr h => ?_)
  · obtain ⟨p, t, b, rfl, _⟩ := h
    rfl
  · obtain ⟨p, t, b, rfl, ⟨dx, e⟩, z, k⟩ := h
    refine ⟨_, pss_one (ps_ret (pe_make M Gi hr rfl T.mgC b2 .nil passL (pa_cons (pe_callB call_abs (by rfl) T.gAbs PyProof.Rows.boot_abs (pa_cons (pe_fld (pv 0) rfl) pa_nil)) (pa_cons (pe_fld (pv 0) rfl) pa_nil)))), ?_⟩
    refine ⟨_, rfl, p, C, dx, _, _, rfl, e, T.cl, T.nT, rflds_top _ _, t, rfl, _, rfl, p, C, dx, _, _, rfl, e, T.cl, T.nB, rflds_bot _ _, ?_⟩
    intro x dx' nx ndx ne
    refine made (lt_mono (n := 1000) ?_ (by decide)) (lt_mono z.2.2 (by decide)) (b_ne z) k nx ndx ne
    have := z.1
    split <;> omega
/-! ### the reflected ones of + - * -/
theorem scRadd : FnScope ["self", "other"] ["self", "other"] (defScope sRadd) := ⟨rfl, rfl, rfl, by decide +kernel, rfl, by decide +kernel, by decide +kernel⟩
theorem scRsub : FnScope ["self", "other"] ["self", "other"] (defScope sRsub) := ⟨rfl, rfl, rfl, by decide +kernel, rfl, by decide +kernel, by decide +kernel⟩
theorem scRmul : FnScope ["self", "other"] ["self", "other"] (defScope sRmul) := ⟨rfl, rfl, rfl, by decide +kernel, rfl, by decide +kernel, by decide +kernel⟩
theorem Opd.own {H : Hp} {x : V} {t b : Int} (h : Opd C H x t b) : OwnV C H x ∨ ∃ j, x = .int j := h.elim (fun ⟨p, e, r⟩ => .inl (by rw [e]; exact r.own)) fun ⟨e, _⟩ => .inr ⟨t, e⟩
theorem ok_radd {f : Addr} {fd : FuncData} (F : Fun K "__radd__" "Ratio.__radd__" sRadd f fd) (B : BinOk P w K mg base C .Add CX0 6 (spBin C aN bD) spNo) : FnOk P w K mg base CX0 7 f fd ["self", "other"] (spBin C aN bD) := by
  refine F.ok scRadd (fun vs H Q E h => ?_) (fun cdv A outer s H vs Q E hr h => ?_)
  · obtain ⟨p, y, t, b, t', b', rfl, _⟩ := h
    rfl
  · obtain ⟨p, y, t, b, t', b', rfl, hp, hy, z1, z2, k⟩ := h
    refine ⟨_, pss_one (ps_ret (pe_bin (E := fun _ => E0) op_no B intAdd hr passA0 (pv 0) (pv 1))), ?_⟩
    exact ⟨_, rfl, _, rfl, .inr (.inl ⟨hp.own, hy.own, p, y, t, b, t', b', rfl, hp, hy, z1, z2, k⟩)⟩
theorem ok_rmul {f : Addr} {fd : FuncData} (F : Fun K "__rmul__" "Ratio.__rmul__" sRmul f fd) (B : BinOk P w K mg base C .Mult CX0 6 (spBin C mN bD) spNo) : FnOk P w K mg base CX0 7 f fd ["self", "other"] (spBin C mN bD) := by
  refine F.ok scRmul (fun vs H Q E h => ?_) (fun cdv A outer s H vs Q E hr h => ?_)
  · obtain ⟨p, y, t, b, t', b', rfl, _⟩ := h
    rfl
  · obtain ⟨p, y, t, b, t', b', rfl, hp, hy, z1, z2, k⟩ := h
    refine ⟨_, pss_one (ps_ret (pe_bin (E := fun _ => E0) op_no B intMul hr passA0 (pv 0) (pv 1))), ?_⟩
    exact ⟨_, rfl, _, rfl, .inr (.inl ⟨hp.own, hy.own, p, y, t, b, t', b', rfl, hp, hy, z1, z2, k⟩)⟩
theorem ok_rsub {f : Addr} {fd : FuncData} (F : Fun K "__rsub__" "Ratio.__rsub__" sRsub f fd) (B : BinOk P w K mg base C .Add CX0 6 (spBin C aN bD) spNo) (U : UnOk P w K mg base C "__neg__" CX0 5 (spUn C fun t => -t)) :
    FnOk P w K mg base CX0 7 f fd ["self", "other"] (spBin C rsN rsD) := by
  refine F.ok scRsub (fun vs H Q E h => ?_) (fun cdv A outer s H vs Q E hr h => ?_)
  · obtain ⟨p, y, t, b, t', b', rfl, _⟩ := h
    rfl
  · obtain ⟨p, y, t, b, t', b', rfl, hp, hy, z1, z2, k⟩ := h
    have hr5 : Room 5 _ := hr.mono (by decide)
    refine ⟨_, pss_one (ps_ret (pe_bin (E := fun _ => E0) op_no B intAdd hr passA0 (pe_un (un_neg_own (E := E0) U hr5 passA0) (pv 0)) (pv 1))), ?_⟩
    refine ⟨_, rfl, hp.own, p, t, b, rfl, hp, z1, fun H1 q s1 r => ?_⟩
    have z3 : Sz 1000 (rt (-t) b) (rb (-t) b) := ⟨Nat.lt_of_le_of_lt (rt_le (b_ne z1)) (by rw [Int.natAbs_neg]; exact z1.1), rb_pos (b_ne z1), Nat.lt_of_le_of_lt (rb_le (b_ne z1)) z1.2.2⟩
    exact ⟨_, rfl, .inr (.inl ⟨r.own, (hy.same s1).own, q, y, _, _, t', b', rfl, r, hy.same s1, z3, z2, fun H' q' s2 r' => k H' q' (s1.trans s2) r'⟩)⟩
/-! ### // and over -/
theorem scFl : FnScope ["self", "other", "divisor"] ["self", "other"] (defScope sFloor) := ⟨rfl, rfl, rfl, by decide +kernel, rfl, by decide +kernel, by decide +kernel⟩
theorem scRfl : FnScope ["self", "other"] ["self", "other"] (defScope sRfloor) := ⟨rfl, rfl, rfl, by decide +kernel, rfl, by decide +kernel, by decide +kernel⟩
theorem ok_floor {f : Addr} {fd : FuncData} (F : Fun K "__floordiv__" "Ratio.__floordiv__" sFloor f fd) (O3 : Core3 P w K mg base C CN fN) : FnOk P w K mg base (L2.CX P w) 6 f fd ["self", "other"] (spFloor C CN) := by
  obtain ⟨⟨O, _⟩, ⟨fo, fdo, Go, mo, ko, bo⟩, ⟨fa, fda, Ga, ma, ka, ba⟩⟩ := O3
  have T := O.T
  obtain ⟨fdn, Gn, bn⟩ := O.nr
  refine F.okX scFl (fun vs H Q E h => ?_) (fun cdv A outer s H vs Q E hr h => ?_)
  · obtain ⟨p, y, t, b, t', b', rfl, _⟩ := h
    rfl
  · obtain ⟨p, y, t, b, t', b', rfl, hp, hy, z1, z2, yes, no⟩ := h
    have hr2 : Room 2 _ := hr.mono (by decide)
    refine ⟨_, pss_cons (ps_if (pt_not (pt_val (pe_call Go hr2 rfl mo ko bo .nil pass0 (pa_cons (pv 1) pa_nil)))) (pss_one ps_never) pss_nil)
      (pss_cons (ps_set (i := 2) scFl.nd rfl (Or.inl rfl) (pe_call Ga hr rfl ma ka ba .nil pass0 (pa_cons (pv 1) pa_nil)))
      (pss_cons (ps_if (pt_cmpR op_eq (pe_fld (pv 2) rfl) pe_int (nomark _)) (pss_one (ps_raise rfl (takes_of rfl rfl rfl rfl) (pmk_oex T.oex T.iN T.tN Gn hr2 bn .nil pass0 rfl T.mgN (pa_cons pe_str pa_nil)))) pss_nil)
      (pss_one (ps_ret (pe_op op_fdivZ (pe_op op_mulW (pe_fld (pv 0) rfl) (pe_fld (pv 2) rfl)) (pe_op op_mulW (pe_fld (pv 0) rfl) (pe_fld (pv 2) rfl))))))), ?_⟩
    refine ⟨_, rfl, y, rfl, hy.isop, _, rfl, iteF ?_⟩
    refine ⟨_, rfl, y, t', b', rfl, hy, z2, fun H1 q s1 hq => ?_⟩
    obtain ⟨dx, e1⟩ := hp.same s1
    obtain ⟨dy, e2⟩ := hq
    refine ⟨_, rfl, q, C, dy, _, _, rfl, e2, T.cl, T.nT, rflds_top _ _, rfl, _, rfl, ?_⟩
    by_cases h0 : t' = 0
    · subst h0
      rw [decide_eq_true rfl]
      exact iteT (zero_reads (no rfl H1 s1))
    · rw [decide_eq_false (fun z => h0 (V.int.inj z))]
      refine iteF ?_
      refine ⟨_, rfl, p, C, dx, _, _, rfl, e1, T.cl, T.nT, rflds_top _ _, _, rfl, q, C, dy, _, _, rfl, e2, T.cl, T.nB, rflds_bot _ _, t, b', rfl, rfl, mulOk z1.1 z2.2.2, ?_⟩
      refine ⟨_, rfl, p, C, dx, _, _, rfl, e1, T.cl, T.nB, rflds_bot _ _, _, rfl, q, C, dy, _, _, rfl, e2, T.cl, T.nT, rflds_top _ _, b, t', rfl, rfl, mulOk z1.2.2 z2.1, ?_⟩
      exact ⟨_, _, rfl, rfl, divOk (x := t * b') (mul_ne (b_ne z1) h0) (wide_lt z1.2.2 z2.1), yes h0 H1 s1⟩
theorem ok_rfloor {f : Addr} {fd : FuncData} (F : Fun K "__rfloordiv__" "Ratio.__rfloordiv__" sRfloor f fd) (O3 : Core3 P w K mg base C CN fN) (B : BinOk P w K mg base C .FloorDiv (L2.CX P w) 6 (spFloor C CN) spNo) :
    FnOk P w K mg base (L2.CX P w) 7 f fd ["self", "other"] (spRfloor C CN) := by
  obtain ⟨⟨O, _⟩, ⟨fo, fdo, Go, mo, ko, bo⟩, ⟨fa, fda, Ga, ma, ka, ba⟩⟩ := O3
  refine F.okX scRfl (fun vs H Q E h => ?_) (fun cdv A outer s H vs Q E hr h => ?_)
  · obtain ⟨p, y, t, b, t', b', rfl, _⟩ := h
    rfl
  · obtain ⟨p, y, t, b, t', b', rfl, hp, hy, z1, z2, yes, no⟩ := h
    have hr2 : Room 2 _ := hr.mono (by decide)
    have hr5 : Room 5 _ := hr.mono (by decide)
    refine ⟨_, pss_cons (ps_if (pt_not (pt_val (pe_call Go hr2 rfl mo ko bo .nil pass0 (pa_cons (pv 1) pa_nil)))) (pss_one ps_never) pss_nil)
      (pss_one (ps_ret (pe_bin (E := fun _ => E) op_no B intFloor hr (passK (takes_of rfl rfl rfl rfl) (fun _ _ _ _ h => h)) (pe_call Ga hr5 rfl ma ka ba .nil pass0 (pa_cons (pv 1) pa_nil)) (pv 0)))), ?_⟩
    refine ⟨_, rfl, y, rfl, hy.isop, _, rfl, iteF ?_⟩
    refine ⟨_, rfl, y, t', b', rfl, hy, z2, fun H1 q s1 hq => ?_⟩
    exact ⟨_, rfl, .inr (.inl ⟨hq.own, .inl (hp.same s1).own, q, .ref p, t', b', t, b, rfl, hq, .inl ⟨p, rfl, hp.same s1⟩, z2, z1, fun h0 H' s2 => yes h0 H' (s1.trans s2), fun h0 H' s2 => no h0 H' (s1.trans s2)⟩)⟩
end
end Pt

namespace Pt
open PySem PySem.Spec L2
open PySem.W (findIn isFn kitOne)
abbrev sStart : Stmt := topS 16
abbrev sDraw : Stmt := topS 17
/-! ### the law's draws -/
/-- the state at s, its cells at l -/
def LSt (H : Hp) (s l : Addr) : Prop := ∃ (i n : Int) (cs : List Int), H s = some (.lst [.ref l, .int i, .int n]) ∧ H l = some (.lst (cs.map V.int)) ∧ 0 < cs.length ∧ cs.length ≤ 64
/-- all but the state is kept -/
def Kp (s l : Addr) (H H' : Hp) : Prop := ∀ c o, H c = some o → c ≠ s → c ≠ l → H' c = some o
theorem Kp.refl (s l : Addr) (H : Hp) : Kp s l H H := fun _ _ e _ _ => e
theorem Kp.trans {s l : Addr} {H H1 H2 : Hp} (a : Kp s l H H1) (b : Kp s l H1 H2) : Kp s l H H2 := fun c o e h1 h2 => b c o (a c o e h1 h2) h1 h2
theorem Same.kp {s l : Addr} {H H' : Hp} (a : Same H H') : Kp s l H H' := fun c o e _ _ => a c o e
theorem LSt.same {H H' : Hp} {s l : Addr} (h : LSt H s l) (k : Same H H') : LSt H' s l := let ⟨i, n, cs, e1, e2, h⟩ := h; ⟨i, n, cs, k _ _ e1, k _ _ e2, h⟩
theorem LSt.ne {H : Hp} {s l : Addr} (h : LSt H s l) : s ≠ l := by
  obtain ⟨i, n, cs, e1, e2, _⟩ := h
  refine ne_of e1 e2 fun z => ?_
  have z2 := HO.lst.inj z
  cases cs with
  | nil => cases z2
  | cons c r =>
    have z3 := (List.cons.inj z2).1
    cases z3
theorem LSt.apart {H : Hp} {s l p C dx : Addr} {fs : List (Str × V)} (h : LSt H s l) (e : H p = some (.ins C dx fs)) : p ≠ s ∧ p ≠ l := by
  obtain ⟨i, n, cs, e1, e2, _⟩ := h
  exact ⟨ne_of e e1 (fun z => by cases z), ne_of e e2 (fun z => by cases z)⟩
theorem RatAt.kp {C p s l : Addr} {H H' : Hp} {t b : Int} (h : RatAt C H p t b) (L : LSt H s l) (k : Kp s l H H') : RatAt C H' p t b := by
  obtain ⟨dx, e⟩ := h
  obtain ⟨h1, h2⟩ := L.apart e
  exact ⟨dx, k _ _ e h1 h2⟩
theorem Opd.kp {C s l : Addr} {H H' : Hp} {x : V} {t b : Int} (h : Opd C H x t b) (L : LSt H s l) (k : Kp s l H H') : Opd C H' x t b := h.imp (fun ⟨p, e, r⟩ => ⟨p, e, r.kp L k⟩) id
def spStart (K : PySem.W.Frag) : Sp := fun vs H Q _ => ∃ (a : Addr) (ns : List Int), vs = [.ref a] ∧ SqL K H a (ns.map V.int) ∧ ns.length ≤ 63 ∧ ∀ H' s l, Same H H' → LSt H' s l → Q (.ref s) H'
def spDraw : Sp := fun vs H Q _ => ∃ (s l : Addr) (m : Int), vs = [.ref s, .int m] ∧ LSt H s l ∧ 0 < m ∧ m < 1073741824 ∧ ∀ H' r, Kp s l H H' → LSt H' s l → 0 ≤ r → r < m → Q (.int r) H'
/-- the built-in names of the text -/
structure Bl (mg : Str → Option Value) : Prop where
  gInt : mg "int" = none
  gLen : mg "len" = none
section
variable {P : Program} {w : World} {K : PySem.W.Frag} {mg : Str → Option Value} {base : Heap}
theorem cut_ints (ns : List Int) (lo hi : Option Int) : ∃ cs : List Int, cutV (ns.map V.int) lo hi = cs.map V.int ∧ cs.length ≤ ns.length := by
  refine ⟨(ns.drop (HT.sIx (ns.map V.int).length 0 lo)).take (HT.sIx (ns.map V.int).length (ns.map V.int).length hi - HT.sIx (ns.map V.int).length 0 lo), ?_, ?_⟩
  · unfold cutV
    rw [List.map_take, List.map_drop]
  · rw [List.length_take, List.length_drop]
    omega
theorem scSt : FnScope ["_law_script", "_law_cell"] ["_law_script"] (defScope sStart) := ⟨rfl, rfl, rfl, by decide +kernel, rfl, by decide +kernel, by decide +kernel⟩
theorem ok_start {f : Addr} {fd : FuncData} (F : Fun K "_law_start" "_law_start" sStart f fd) (T : Bl mg) : FnOk P w K mg base CX0 1 f fd ["_law_script"] (spStart K) := by
  refine F.ok scSt (fun vs H Q E h => ?_) (fun cdv A outer s H vs Q E hr h => ?_)
  · obtain ⟨a, ns, rfl, _⟩ := h
    rfl
  · obtain ⟨a, ns, rfl, hS, hl, k⟩ := h
    refine ⟨_, pss_one (ps_ret (pe_lst (pa_cons (pe_op op_cat
        (pe_lc (own := [("_law_cell", 1)]) (g := gName 1) (tt := tYes) rfl scSt.nd (pi_list (pe_slice sl_list (pv 0) po_none (po_some pe_int))) (blkOk_by (N := ["_law_script", "_law_cell"]) (sc := defScope sStart) (by decide +kernel))
          (fun _ _ _ _ _ => pg_name (i := 1) scSt.nd rfl (Or.inl rfl)) (fun _ _ _ _ _ => pts_nil) (fun _ _ _ _ _ => pe_callTy call_int1 (by rfl) T.gInt PyProof.Rows.boot_int (pa_cons (pv 1) pa_nil)))
        (pe_lst (pa_cons (pe_callB call_len_seq (by rfl) T.gLen PySem.boot_len (pa_cons (pv 0) pa_nil)) pa_nil))) (pa_cons pe_int (pa_cons pe_int pa_nil))))), ?_⟩
    obtain ⟨cs, ec, hc⟩ := cut_ints ns none (some 63)
    refine ⟨_, rfl, _, rfl, a, _, rfl, hS, fun p np => ?_⟩
    rw [ec]
    refine ⟨p, rfl, ⟨_, SqL.of upd_same⟩, fun D nD => ?_⟩
    have npD : p ≠ D := fun z => by rw [z, upd_same] at nD; cases nD
    have hD0 : H D = none := by rw [upd_ne (Ne.symm npD)] at nD; exact nD
    refine lc_list (K := K) (a := p) (xs := cs.map V.int) (fun i H' => Same H H' ∧ H' p = some (.lst (cs.map V.int)) ∧ H' D = some (.lst ((cs.take i).map V.int))) ⟨fun c o e => ?_, by rw [upd_ne npD, upd_same], by rw [upd_same]; rfl⟩ (fun i H' _ h => SqL.of h.2.1) ?_ ?_
    · rw [upd_ne (ne_of_none e hD0), upd_ne (ne_of_none e np)]
      exact e
    · intro i x H' hx ⟨sm, hp, hD⟩
      rw [List.getElem?_map] at hx
      cases hz : cs[i]? with
      | none => rw [hz] at hx; cases hx
      | some z =>
        rw [hz] at hx
        obtain rfl : V.int z = x := Option.some.inj hx
        have hlt : i < cs.length := (List.getElem?_eq_some_iff.mp hz).1
        refine ⟨rfl, ?_⟩
        refine ⟨_, rfl, .inl ⟨z, rfl, _, hD, small1000 (by rw [List.length_map, List.length_take]; omega), fun c o e => ?_, ?_, ?_⟩⟩
        · rw [upd_ne (ne_of_none e hD0)]
          exact sm c o e
        · rw [upd_ne npD]
          exact hp
        · rw [upd_same, List.take_add_one, hz, List.map_append]
          rfl
    · rintro H' ⟨sm, hp, hD⟩
      rw [List.length_map, List.take_length] at hD
      refine ⟨_, rfl, a, _, rfl, .inl (sm.seq hS), (by show 1 ≤ sizeLine; decide), fun l2 n2 => ?_⟩
      have e1 : D ≠ l2 := ne_of_none hD n2
      refine ⟨D, l2, _, _, rfl, rfl, by rw [upd_ne e1]; exact hD, upd_same, ?_, fun q nq => ⟨(by show 3 ≤ sizeLine; decide), fun r nr => ?_⟩⟩
      · have := small1000 (n := cs.length + 1) (by omega)
        rw [List.length_map]
        exact Nat.le_of_lt this
      · have nq' : H' q = none := by
          have := ne_of_none (upd_same (H := H') (a := l2) (o := .lst [.int (List.map V.int ns).length])) nq
          rw [upd_ne (Ne.symm this)] at nq
          exact nq
        have nqr : q ≠ r := ne_of_none upd_same nr
        have nr' : H' r = none := by
          rw [upd_ne (Ne.symm nqr)] at nr
          have := ne_of_none (upd_same (H := H') (a := l2) (o := .lst [.int (List.map V.int ns).length])) nr
          rw [upd_ne (Ne.symm this)] at nr
          exact nr
        refine k _ r q (fun c o e => ?_) ⟨0, 0, cs ++ [((List.map V.int ns).length : Int)], upd_same, ?_, by simp, by simp; omega⟩
        · have h' := sm c o e
          rw [upd_ne (ne_of_none h' nr'), upd_ne (ne_of_none h' nq'), upd_ne (ne_of_none h' n2)]
          exact h'
        · rw [upd_ne nqr, upd_same, List.map_append]
          rfl
end
end Pt

namespace Pt
open PySem PySem.Spec L2
open PySem.W (findIn isFn kitOne)
section
variable {P : Program} {w : World} {K : PySem.W.Frag} {mg : Str → Option Value} {base : Heap}
theorem ixN_nat {n j : Nat} (h : j < n) : ixN n (j : Int) = some j := by
  unfold ixN
  rw [if_pos (by omega), if_pos (by omega)]
  simp
theorem fmod_pos {a m : Int} (h : 0 < m) : 0 ≤ a.fmod m ∧ a.fmod m < m := ⟨Int.fmod_nonneg_of_pos a h, Int.fmod_lt_of_pos a h⟩
theorem emod_pos {a m : Int} (h : 0 < m) : 0 ≤ a % m ∧ a % m < m := ⟨Int.emod_nonneg a (by omega), Int.emod_lt_of_pos a h⟩
theorem scDr : FnScope ["_law_state", "_law_many", "_law_cells", "_law_at", "_law_cell", "_law_one"] ["_law_state", "_law_many"] (defScope sDraw) := ⟨rfl, rfl, rfl, by decide +kernel, rfl, by decide +kernel, by decide +kernel⟩
theorem ok_draw {f : Addr} {fd : FuncData} (F : Fun K "_law_draw" "_law_draw" sDraw f fd) (T : Bl mg) : FnOk P w K mg base CX0 1 f fd ["_law_state", "_law_many"] spDraw := by
  refine F.ok scDr (fun vs H Q E h => ?_) (fun cdv A outer s H vs Q E hr h => ?_)
  · obtain ⟨s, l, m, rfl, _⟩ := h
    rfl
  · obtain ⟨s, l, m, rfl, L, m0, m1, k⟩ := h
    have hne := L.ne
    obtain ⟨i, n, cs, e1, e2, c0, c1⟩ := id L
    refine ⟨_, pss_cons (ps_set (i := 2) scDr.nd rfl (Or.inl rfl) (pe_ix ix_list (pv 0) pe_int (fun _ _ => rfl)))
      (pss_cons (ps_set (i := 3) scDr.nd rfl (Or.inl rfl) (pe_op op_modN (pe_callTy call_int1 (by rfl) T.gInt PyProof.Rows.boot_int (pa_cons (pe_ix ix_list (pv 0) pe_int (fun _ _ => rfl)) pa_nil)) (pe_callB call_len_seq (by rfl) T.gLen PySem.boot_len (pa_cons (pv 2) pa_nil))))
      (pss_cons (ps_asg (pe_op op_add (pe_ix ix_list (pv 0) pe_int (fun _ _ => rfl)) pe_int) (pg_sub (pv 0) pe_int set_list))
      (pss_cons (ps_set (i := 4) scDr.nd rfl (Or.inl rfl) (pe_ix ix_list (pv 2) (pv 3) (fun _ _ => rfl)))
      (pss_cons (ps_if (pt_cmpR op_ge (pv 4) (pe_op op_pow pe_int pe_int) (nomark _))
        (pss_cons (ps_asg (pe_op op_fdiv (pv 4) (pv 1)) (pg_sub (pv 2) (pv 3) set_list))
        (pss_one (ps_ret (pe_op op_modN (pe_callTy call_int1 (by rfl) T.gInt PyProof.Rows.boot_int (pa_cons (pv 4) pa_nil)) (pv 1))))) pss_nil)
      (pss_cons (ps_asg (pe_op op_add (pv 3) pe_int) (pg_sub (pv 0) pe_int set_list))
      (pss_cons (ps_set (i := 5) scDr.nd rfl (Or.inl rfl) (pe_op op_mod (pe_callTy call_int1 (by rfl) T.gInt PyProof.Rows.boot_int (pa_cons (pe_op op_mul (pe_op op_add (pe_op op_add (pv 4) (pe_op op_mul pe_int (pe_ix ix_list (pv 0) pe_int (fun _ _ => rfl)))) pe_int) pe_int) pa_nil)) pe_int))
      (pss_cons (ps_set (i := 5) scDr.nd rfl (Or.inl rfl) (pe_op op_mod (pe_callTy call_int1 (by rfl) T.gInt PyProof.Rows.boot_int (pa_cons (pe_op op_mul (pv 5) (pe_op op_add (pe_op op_fdiv (pv 5) pe_int) pe_int)) pa_nil)) pe_int))
      (pss_cons (ps_set (i := 5) scDr.nd rfl (Or.inl rfl) (pe_op op_mod (pe_callTy call_int1 (by rfl) T.gInt PyProof.Rows.boot_int (pa_cons (pe_op op_mul (pv 5) (pe_op op_add (pe_op op_fdiv (pv 5) pe_int) pe_int)) pa_nil)) pe_int))
      (pss_one (ps_ret (pe_op op_modN (pe_callTy call_int1 (by rfl) T.gInt PyProof.Rows.boot_int (pa_cons (pe_op op_fdiv (pv 5) pe_int) pa_nil)) (pv 1)))))))))))), ?_⟩
    have hlen : 0 < ((cs.map V.int).length : Int) := by rw [List.length_map]; omega
    have hat := fmod_pos (a := i) hlen
    obtain ⟨j, hj⟩ : ∃ j : Nat, i.fmod ((cs.map V.int).length : Int) = (j : Int) := ⟨_, (Int.toNat_of_nonneg hat.1).symm⟩
    have hjl : j < cs.length := by
      have := hat.2
      rw [hj, List.length_map] at this
      omega
    obtain ⟨c, hc⟩ : ∃ c, cs[j]? = some c := ⟨_, List.getElem?_eq_getElem hjl⟩
    -- cells, at, the turn
    refine ⟨_, rfl, s, _, 0, _, rfl, rfl, SqL.of e1, rfl, ?_⟩
    refine ⟨_, rfl, s, _, 1, .int i, rfl, rfl, SqL.of e1, rfl, .inl ⟨i, rfl, _, rfl, l, _, rfl, .inl (SqL.of e2), _, _, rfl, rfl, (by omega), ?_⟩⟩
    dsimp only
    rw [hj]
    refine ⟨_, rfl, s, _, 2, .int n, rfl, rfl, SqL.of e1, rfl, _, _, rfl, rfl, _, rfl, s, _, 2, 2, rfl, rfl, e1, rfl, ?_⟩
    have e1' : upd H s (.lst (([.ref l, .int i, .int n] : List V).set 2 (.int (n + 1)))) s = some (.lst [.ref l, .int i, .int (n + 1)]) := upd_same
    generalize hH1 : upd H s (.lst (([.ref l, .int i, .int n] : List V).set 2 (.int (n + 1)))) = H1 at e1'
    have e2' : H1 l = some (.lst (cs.map V.int)) := by rw [← hH1, upd_ne (Ne.symm hne)]; exact e2
    have kp1 : Kp s l H H1 := fun c o e h1 h2 => by rw [← hH1, upd_ne h1]; exact e
    refine ⟨_, rfl, _, rfl, l, _, (j : Int), .int c, rfl, rfl, SqL.of e2', atI_nat (by rw [List.getElem?_map, hc]; rfl), ?_⟩
    refine ⟨_, rfl, 10, 18, rfl, rfl, ⟨by decide, by decide, by decide⟩, c, _, rfl, rfl, _, rfl, ?_⟩
    refine ite2 (fun _ => ?_) (fun _ => ?_)
    · -- a great cell
      refine ⟨_, rfl, _, rfl, c, m, rfl, rfl, ⟨m0, m1⟩, _, rfl, _, rfl, l, _, (j : Int), j, rfl, rfl, e2', ixN_nat (by rw [List.length_map]; exact hjl), ?_⟩
      refine ⟨_, rfl, .inl ⟨c, rfl, _, rfl, c, m, rfl, rfl, by omega, ?_⟩⟩
      have hm := fmod_pos (a := c) m0
      refine k _ _ (fun c' o e h1 h2 => by rw [upd_ne h2]; exact kp1 c' o e h1 h2) ⟨i, n + 1, cs.set j (c / m), by rw [upd_ne hne]; exact e1', ?_, by rw [List.length_set]; exact c0, by rw [List.length_set]; exact c1⟩ hm.1 hm.2
      rw [upd_same, List.map_set]
    · -- a small one
      refine ⟨_, rfl, _, _, rfl, rfl, _, rfl, s, _, 1, 1, rfl, rfl, e1', rfl, ?_⟩
      have e1'' : upd H1 s (.lst (([.ref l, .int i, .int (n + 1)] : List V).set 1 (.int ((j : Int) + 1)))) s = some (.lst [.ref l, .int ((j : Int) + 1), .int (n + 1)]) := upd_same
      have kp2 : Kp s l H (upd H1 s (.lst (([.ref l, .int i, .int (n + 1)] : List V).set 1 (.int ((j : Int) + 1))))) := fun c o e h1 h2 => by rw [upd_ne h1]; exact kp1 c o e h1 h2
      have e2'' : upd H1 s (.lst (([.ref l, .int i, .int (n + 1)] : List V).set 1 (.int ((j : Int) + 1)))) l = some (.lst (cs.map V.int)) := by rw [upd_ne (Ne.symm hne)]; exact e2'
      generalize upd H1 s (.lst (([.ref l, .int i, .int (n + 1)] : List V).set 1 (.int ((j : Int) + 1)))) = H2 at e1'' e2'' kp2
      refine ⟨_, rfl, _, rfl, s, _, 2, .int (n + 1), rfl, rfl, SqL.of e1'', rfl, _, _, rfl, rfl, .inl ⟨by decide, by decide⟩, _, _, rfl, rfl, _, _, rfl, rfl, _, _, rfl, rfl, .inr ⟨by decide, by decide⟩, .inl ⟨_, rfl, _, _, rfl, rfl, (by show (0 : Int) < 2147483647; decide), ?_⟩⟩
      generalize ((c + 7919 * (n + 1) + 1) * 48271) = z1
      have b1 := emod_pos (a := z1) (m := 2147483647) (by decide)
      generalize z1 % 2147483647 = o1 at b1
      refine ⟨_, rfl, _, rfl, _, _, rfl, rfl, ⟨by decide, by decide⟩, _, _, rfl, rfl, _, _, rfl, rfl, .inl ⟨by omega, by omega⟩, .inl ⟨_, rfl, _, _, rfl, rfl, (by show (0 : Int) < 2147483647; decide), ?_⟩⟩
      generalize o1 * (o1 / 1009 + 69621) = z2
      have b2 := emod_pos (a := z2) (m := 2147483647) (by decide)
      generalize z2 % 2147483647 = o2 at b2
      refine ⟨_, rfl, _, rfl, _, _, rfl, rfl, ⟨by decide, by decide⟩, _, _, rfl, rfl, _, _, rfl, rfl, .inl ⟨by omega, by omega⟩, .inl ⟨_, rfl, _, _, rfl, rfl, (by show (0 : Int) < 2147483399; decide), ?_⟩⟩
      generalize o2 * (o2 / 2003 + 40692) = z3
      refine ⟨_, rfl, _, _, rfl, rfl, ⟨by decide, by decide⟩, .inl ⟨_, rfl, _, rfl, _, m, rfl, rfl, by omega, ?_⟩⟩
      exact k _ _ kp2 ⟨_, _, cs, e1'', e2'', c0, c1⟩ (fmod_pos m0).1 (fmod_pos m0).2
end
end Pt

namespace Pt
open PySem PySem.Spec L2
open PySem.W (findIn isFn kitOne)
abbrev sFar : Stmt := topS 18
abbrev sLInt : Stmt := topS 19
abbrev sLDiv : Stmt := topS 20
abbrev sIsR : Stmt := topS 21
def spFar : Sp := fun vs H Q _ => ∃ (s l : Addr) (B : Int), vs = [.ref s, .int B] ∧ LSt H s l ∧ 3 ≤ B ∧ ∀ H' r, Kp s l H H' → LSt H' s l → r.natAbs ≤ B.natAbs → Q (.int r) H'
def spIsR (C : Addr) : Sp := fun vs H Q _ => ∃ (p : Addr) (t b A B : Int), vs = [.ref p, .int A, .int B] ∧ RatAt C H p t b ∧ IsV t b A B ∧ Sz 4000 t b ∧ A.natAbs < 2 ^ 4000 ∧ B.natAbs < 2 ^ 4000 ∧ Q (.bl true) H
structure LawD (P : Program) (w : World) (K : PySem.W.Frag) (mg : Str → Option Value) (base : Heap) : Prop where
  bl : Bl mg
  draw : ∃ f fd, FnOk P w K mg base CX0 1 f fd ["_law_state", "_law_many"] spDraw ∧ mg "_law_draw" = some (.ref f) ∧ PySem.W.keepIn K (.ref f) = true ∧ Binds K fd ["_law_state", "_law_many"] []
section
variable {P : Program} {w : World} {K : PySem.W.Frag} {mg : Str → Option Value} {base : Heap} {C CN fN : Addr}
theorem scFar : FnScope ["_law_state", "_law_bound", "_law_kind", "_law_number", "_law_k"] ["_law_state", "_law_bound"] (defScope sFar) := ⟨rfl, rfl, rfl, by decide +kernel, rfl, by decide +kernel, by decide +kernel⟩
theorem ok_far {f : Addr} {fd : FuncData} (F : Fun K "_law_far" "_law_far" sFar f fd) (D : LawD P w K mg base) (gR : mg "range" = none) : FnOk P w K mg base CX0 2 f fd ["_law_state", "_law_bound"] spFar := by
  obtain ⟨T, fd1, fdd, Gd, md, kd, bd⟩ := D
  refine F.ok scFar (fun vs H Q E h => ?_) (fun cdv A outer s0 H vs Q E hr h => ?_)
  · obtain ⟨s, l, B, rfl, _⟩ := h
    rfl
  · obtain ⟨s, l, B, rfl, L, hB, k⟩ := h
    refine ⟨_, pss_cons (ps_set (i := 2) scFar.nd rfl (Or.inl rfl) (pe_call Gd hr rfl md kd bd .nil pass0 (pa_cons (pv 0) (pa_cons pe_int pa_nil))))
      (pss_cons (ps_if (pt_cmpR op_eq (pv 2) pe_int (nomark _)) (pss_one (ps_ret (pe_op op_sub (pe_call Gd hr rfl md kd bd .nil pass0 (pa_cons (pv 0) (pa_cons pe_int pa_nil))) pe_int))) pss_nil)
      (pss_cons (ps_if (pt_cmpR op_eq (pv 2) pe_int (nomark _)) (pss_one (ps_ret (pe_op op_sub (pv 1) (pe_call Gd hr rfl md kd bd .nil pass0 (pa_cons (pv 0) (pa_cons pe_int pa_nil)))))) pss_nil)
      (pss_cons (ps_if (pt_cmpR op_eq (pv 2) pe_int (nomark _)) (pss_one (ps_ret (pe_op op_sub (pe_call Gd hr rfl md kd bd .nil pass0 (pa_cons (pv 0) (pa_cons pe_int pa_nil))) (pv 1)))) pss_nil)
      (pss_cons (ps_set (i := 3) scFar.nd rfl (Or.inl rfl) pe_int)
      (pss_cons (ps_for PassesOwn.never rfl (pi_range1 rfl gR (pa_cons pe_int pa_nil)) (pg_name (i := 4) scFar.nd rfl (Or.inl rfl))
        (pss_one (ps_set (i := 3) scFar.nd rfl (Or.inl rfl) (pe_op op_add (pe_op op_mul (pv 3) (pe_op op_pow pe_int pe_int)) (pe_call Gd hr rfl md kd bd .nil pass0 (pa_cons (pv 0) (pa_cons (pe_op op_pow pe_int pe_int) pa_nil)))))))
      (pss_one (ps_ret (pe_op op_sub (pe_op op_modN (pe_callTy call_int1 (by rfl) T.gInt PyProof.Rows.boot_int (pa_cons (pv 3) pa_nil)) (pe_op op_add (pe_op op_mul pe_int (pv 1)) pe_int)) (pv 1))))))))), ?_⟩
    refine ⟨_, rfl, s, l, 4, rfl, L, by decide, by decide, fun H1 r0 k1 L1 r00 r01 => ?_⟩
    refine ⟨_, rfl, rfl, _, rfl, ite2 (fun _ => ?_) (fun _ => ?_)⟩
    · refine ⟨_, rfl, s, l, 7, rfl, L1, by decide, by decide, fun H2 r k2 L2 r0 r1 => ⟨_, _, rfl, rfl, ?_⟩⟩
      exact k H2 _ (k1.trans k2) L2 (by omega)
    refine ⟨_, rfl, rfl, _, rfl, ite2 (fun _ => ?_) (fun _ => ?_)⟩
    · refine ⟨_, rfl, _, rfl, s, l, 3, rfl, L1, by decide, by decide, fun H2 r k2 L2 r0 r1 => ⟨_, _, rfl, rfl, ?_⟩⟩
      exact k H2 _ (k1.trans k2) L2 (by omega)
    refine ⟨_, rfl, rfl, _, rfl, ite2 (fun _ => ?_) (fun _ => ?_)⟩
    · refine ⟨_, rfl, s, l, 3, rfl, L1, by decide, by decide, fun H2 r k2 L2 r0 r1 => ⟨_, rfl, _, _, rfl, rfl, ?_⟩⟩
      exact k H2 _ (k1.trans k2) L2 (by omega)
    refine ⟨4, rfl, by decide, by decide, for_range (n := 4) (fun i σ H' => ∃ (v : Option V) (n : Int), σ = [some (.ref s), some (.int B), some (.int r0), some (.int n), v] ∧ Kp s l H H' ∧ LSt H' s l) ⟨none, 0, rfl, k1, L1⟩ ?_ ?_⟩
    · rintro i σ H' hi ⟨v, n, rfl, k2, L2⟩
      refine ⟨_, rfl, 10, 9, rfl, rfl, ⟨by decide, by decide, by decide⟩, n, _, rfl, rfl, .inr ⟨by decide, by decide⟩, ?_⟩
      refine ⟨_, rfl, 10, 9, rfl, rfl, ⟨by decide, by decide, by decide⟩, s, l, 10 ^ 9, rfl, L2, by decide, by decide, fun H3 r k3 L3 _ _ => ⟨_, _, rfl, rfl, ?_⟩⟩
      exact ⟨_, _, rfl, k2.trans k3, L3⟩
    · rintro σ H' ⟨v, n, rfl, k2, L2⟩
      refine ⟨_, rfl, .inl ⟨n, rfl, _, rfl, 2, B, rfl, rfl, .inl ⟨by decide, by decide⟩, _, _, rfl, rfl, n, _, rfl, rfl, by omega, _, rfl, _, _, rfl, rfl, ?_⟩⟩
      have hm := fmod_pos (a := n) (m := 2 * B + 1) (by omega)
      exact k H' _ k2 L2 (by omega)
theorem scLI : FnScope ["_law_value"] ["_law_value"] (defScope sLInt) := ⟨rfl, rfl, rfl, by decide +kernel, rfl, by decide +kernel, by decide +kernel⟩
def spLInt : Sp := fun vs H Q _ => ∃ i, vs = [.int i] ∧ Q (.bl true) H
theorem ok_lint {f : Addr} {fd : FuncData} (F : Fun K "_law_integer" "_law_integer" sLInt f fd) (T : Txt K mg C CN fN) : FnOk P w K mg base CX0 1 f fd ["_law_value"] spLInt := by
  refine F.ok scLI (fun vs H Q E h => ?_) (fun cdv A outer s H vs Q E hr h => ?_)
  · obtain ⟨x, rfl, _⟩ := h
    rfl
  · obtain ⟨i, rfl, q⟩ := h
    refine ⟨_, pss_one (ps_ret (pe_and (pe_callB call_isi (by rfl) T.gIsi PyProof.Rows.boot_isinstance (pa_cons (pv 0) (pa_cons (pe_bltn (v := .ty "int") (by rfl) T.gInt PyProof.Rows.boot_int rfl) pa_nil)))
      (pe_one (pe_not (pe_callB call_isi (by rfl) T.gIsi PyProof.Rows.boot_isinstance (pa_cons (pv 0) (pa_cons (pe_bltn (v := .ty "bool") (by rfl) T.gBool PyProof.Rows.boot_bool rfl) pa_nil))))))), ?_⟩
    refine ⟨_, rfl, _, _, _, _, true, rfl, .ty _, .base (.int i), kit_ty (by decide +kernel), true, rfl, iteT ?_⟩
    exact ⟨_, rfl, _, _, _, _, false, rfl, .ty _, .base (.int i), kit_ty (by decide +kernel), false, rfl, q⟩
theorem scLD : FnScope ["_law_one", "_law_other", "_law_rest"] ["_law_one", "_law_other"] (defScope sLDiv) := ⟨rfl, rfl, rfl, by decide +kernel, rfl, by decide +kernel, by decide +kernel⟩
theorem ok_ldiv {f : Addr} {fd : FuncData} (F : Fun K "_law_divisor" "_law_divisor" sLDiv f fd) (T : Txt K mg C CN fN) : FnOk P w K mg base CX0 1 f fd ["_law_one", "_law_other"] spGcd := by
  refine F.ok scLD (fun vs H Q E h => ?_) (fun cdv A outer s H vs Q E hr h => ?_)
  · obtain ⟨a, b, rfl, _⟩ := h
    rfl
  · obtain ⟨a, b, rfl, q⟩ := h
    refine ⟨_, pss_cons (ps_while PassesOwn.never (pt_cmpR op_ne (pv 1) pe_int (nomark _))
        (pss_cons (ps_set (i := 2) scLD.nd rfl (Or.inl rfl) (pe_op op_modN (pe_callTy call_int1 (by rfl) T.gInt PyProof.Rows.boot_int (pa_cons (pv 0) pa_nil)) (pv 1)))
        (pss_cons (ps_set (i := 0) scLD.nd rfl (Or.inl rfl) (pv 1)) (pss_one (ps_set (i := 1) scLD.nd rfl (Or.inl rfl) (pv 2))))))
      (pss_one (ps_ret (pe_callB call_abs (by rfl) T.gAbs PyProof.Rows.boot_abs (pa_cons (pv 0) pa_nil)))), ?_⟩
    refine while_by (fun σ H' => ∃ (x y : Int) (v : Option V), σ = [some (.int x), some (.int y), v] ∧ H' = H ∧ Int.gcd x y = Int.gcd a b) (fun σ _ => match σ with | [_, some (.int y), _] => y.natAbs | _ => 0) ⟨a, b, none, rfl, rfl, rfl⟩ ?_ ?_
    · rintro σ H' ⟨x, y, v, rfl, rfl, e⟩
      refine ⟨_, rfl, rfl, _, rfl, ?_⟩
      by_cases hy : y = 0
      · subst hy
        refine iteNS rfl ?_
        refine ⟨_, rfl, x, rfl, ?_⟩
        have : (if x < 0 then -x else x) = (Int.gcd a b : Int) := by
          rw [← e, Int.gcd_zero_right]
          split <;> omega
        rw [this]
        exact q
      · rw [decide_eq_false (fun z => hy (V.int.inj z))]
        refine iteT ?_
        exact ⟨_, rfl, .inl ⟨x, rfl, _, rfl, _, _, rfl, rfl, hy, _, rfl, _, rfl, ⟨y, x.fmod y, _, rfl, rfl, (gcd_turn x y).trans e⟩, fmod_less x y hy⟩⟩
    · rintro σ H' Q1 Q2 m ⟨v, e1, h2⟩
      obtain ⟨h3, k, e2, h4⟩ := h2
      exact ⟨v, e1, h3, k, e2, m _ _ h4⟩
/-- the law's own eye -/
structure LawE (P : Program) (w : World) (K : PySem.W.Frag) (mg : Str → Option Value) (base : Heap) (C CN fN : Addr) : Prop where
  T : Txt K mg C CN fN
  int : ∃ f fd, FnOk P w K mg base CX0 1 f fd ["_law_value"] spLInt ∧ mg "_law_integer" = some (.ref f) ∧ PySem.W.keepIn K (.ref f) = true ∧ Binds K fd ["_law_value"] []
  div : ∃ f fd, FnOk P w K mg base CX0 1 f fd ["_law_one", "_law_other"] spGcd ∧ mg "_law_divisor" = some (.ref f) ∧ PySem.W.keepIn K (.ref f) = true ∧ Binds K fd ["_law_one", "_law_other"] []
theorem scIR : FnScope ["_law_value", "_law_top", "_law_bottom"] ["_law_value", "_law_top", "_law_bottom"] (defScope sIsR) := ⟨rfl, rfl, rfl, by decide +kernel, rfl, by decide +kernel, by decide +kernel⟩
theorem ok_isr {f : Addr} {fd : FuncData} (F : Fun K "_law_is_ratio" "_law_is_ratio" sIsR f fd) (O : LawE P w K mg base C CN fN) : FnOk P w K mg base CX0 2 f fd ["_law_value", "_law_top", "_law_bottom"] (spIsR C) := by
  obtain ⟨T, ⟨fi, fdi, Gi, mi, ki, bi⟩, ⟨fg, fdg, Gg, mgg, kg, bg⟩⟩ := O
  refine F.ok scIR (fun vs H Q E h => ?_) (fun cdv A outer s H vs Q E hr h => ?_)
  · obtain ⟨p, t, b, A, B, rfl, _⟩ := h
    rfl
  · obtain ⟨p, t, b, A, B, rfl, ⟨dx, e⟩, v, z, hA, hB, q⟩ := h
    refine ⟨_, pss_cons (ps_if (pt_not (pt_val (pe_callB call_isi (by rfl) T.gIsi PyProof.Rows.boot_isinstance (pa_cons (pv 0) (pa_cons (pe_glob rfl T.mgC (v := .ref C) rfl) pa_nil))))) (pss_one ps_never) pss_nil)
      (pss_cons (ps_if (PW.pt (pw_or (pt_not (pt_val (pe_call Gi hr rfl mi ki bi .nil pass0 (pa_cons (pe_fld (pv 0) rfl) pa_nil)))) (pw_or1 (pt_not (pt_val (pe_call Gi hr rfl mi ki bi .nil pass0 (pa_cons (pe_fld (pv 0) rfl) pa_nil))))))) (pss_one ps_never) pss_nil)
      (pss_cons (ps_if (PW.pt (pw_or (pt_cmpR op_lt (pe_fld (pv 0) rfl) pe_int (nomark _)) (pw_or1 (pt_cmpR op_ne (pe_call Gg hr rfl mgg kg bg .nil pass0 (pa_cons (pe_fld (pv 0) rfl) (pa_cons (pe_fld (pv 0) rfl) pa_nil))) pe_int (nomark _))))) (pss_one ps_never) pss_nil)
      (pss_one (ps_ret (pe_cmpR op_eq (pe_op op_mulW (pe_fld (pv 0) rfl) (pv 2)) (pe_op op_mulW (pv 1) (pe_fld (pv 0) rfl)) (nomark _)))))), ?_⟩
    refine ⟨_, rfl, _, _, _, _, true, rfl, .own C, T.ty e, T.iCC, true, rfl, iteF ?_⟩
    refine ⟨_, rfl, p, C, dx, _, _, rfl, e, T.cl, T.nT, rflds_top _ _, t, rfl, true, rfl, iteF ?_⟩
    refine ⟨_, rfl, p, C, dx, _, _, rfl, e, T.cl, T.nB, rflds_bot _ _, b, rfl, true, rfl, iteF ?_⟩
    refine ⟨_, rfl, p, C, dx, _, _, rfl, e, T.cl, T.nB, rflds_bot _ _, b, 1, rfl, rfl, _, rfl, ?_⟩
    rw [decide_eq_false (show ¬ b < 1 by have := z.2.1; omega)]
    refine iteF ?_
    refine ⟨_, rfl, p, C, dx, _, _, rfl, e, T.cl, T.nT, rflds_top _ _, _, rfl, p, C, dx, _, _, rfl, e, T.cl, T.nB, rflds_bot _ _, t, b, rfl, rfl, _, rfl, ?_⟩
    rw [v.gc]
    refine iteF ?_
    refine ⟨_, rfl, p, C, dx, _, _, rfl, e, T.cl, T.nT, rflds_top _ _, _, rfl, t, B, rfl, rfl, mulOk z.1 hB, _, rfl, _, rfl, p, C, dx, _, _, rfl, e, T.cl, T.nB, rflds_bot _ _, A, b, rfl, rfl, mulOk hA z.2.2, rfl, ?_⟩
    rw [decide_eq_true (congrArg V.int v.eq)]
    exact q
end
end Pt

namespace Pt
open PySem PySem.Spec L2
open PySem.W (findIn isFn kitOne)
/-- a Ratio or an int of value A / B -/
structure Num (C : Addr) (H : Hp) (x : V) (A B : Int) : Prop where
  ex : ∃ t b, Opd C H x t b ∧ IsV t b A B ∧ Sz 200 t b
  hA : A.natAbs < 2 ^ 200
  hB : B.natAbs < 2 ^ 200
theorem Num.same {C : Addr} {H H' : Hp} {x : V} {A B : Int} (h : Num C H x A B) (s : Same H H') : Num C H' x A B := ⟨let ⟨t, b, o, v, z⟩ := h.ex; ⟨t, b, o.same s, v, z⟩, h.hA, h.hB⟩
theorem Num.kp {C s l : Addr} {H H' : Hp} {x : V} {A B : Int} (h : Num C H x A B) (L : LSt H s l) (k : Kp s l H H') : Num C H' x A B := ⟨let ⟨t, b, o, v, z⟩ := h.ex; ⟨t, b, o.kp L k, v, z⟩, h.hA, h.hB⟩
/-- at least one of the two is a Ratio -/
def OneR (C : Addr) (H : Hp) (x y : V) : Prop := OwnV C H x ∨ OwnV C H y
/-- a result: a new Ratio of value A / B -/
def Res (C : Addr) (H : Hp) (A B : Int) (Q : VK) : Prop := ∀ H' q t b, Same H H' → RatAt C H' q t b → IsV t b A B → Sz 2500 t b → Q (.ref q) H'
section
variable {P : Program} {w : World} {K : PySem.W.Frag} {mg : Str → Option Value} {base : Heap} {C CN fN : Addr}
theorem Sz.rr {N D : Int} {n : Nat} (h : D ≠ 0) (hN : N.natAbs < 2 ^ n) (hD : D.natAbs < 2 ^ n) (k : n ≤ 2500 := by decide) : Sz 2500 (rt N D) (rb N D) :=
  ⟨lt_mono (Nat.lt_of_le_of_lt (rt_le h) hN) k, rb_pos h, lt_mono (Nat.lt_of_le_of_lt (rb_le h) hD) k⟩
theorem own_ref {H : Hp} {x : V} {t b : Int} (o : Opd C H x t b) (h : OwnV C H x) : ∃ p, x = .ref p ∧ RatAt C H p t b := by
  rcases o with o | ⟨rfl, _⟩
  · exact o
  · obtain ⟨a, _, _, e, _⟩ := h
    cases e
theorem not_own_int {H : Hp} {x : V} {t b : Int} (o : Opd C H x t b) : OwnV C H x ∨ x = .int t ∧ b = 1 := o.imp (fun ⟨p, e, r⟩ => by rw [e]; exact r.own) id
section
variable {H : Hp} {x y : V} {A B A' B' : Int} {Q : VK}
theorem sz1 {t b : Int} (z : Sz 200 t b) : Sz 1000 t b := z.mono (by decide)
theorem add_reads (h : Num C H x A B) (h' : Num C H y A' B') (o : OneR C H x y) (k : Res C H (A * B' + A' * B) (B * B') Q) : rBin rNo C (spBin C aN bD) (spBin C aN bD) E0 x y H Q := by
  obtain ⟨⟨t, b, ox, v, z⟩, _, _⟩ := h
  obtain ⟨⟨t', b', oy, v', z'⟩, _, _⟩ := h'
  rcases not_own_int ox with hx | ⟨rfl, rfl⟩
  · obtain ⟨p, rfl, r⟩ := own_ref ox hx
    refine .inr (.inl ⟨hx, oy.own, p, y, t, b, t', b', rfl, r, oy, sz1 z, sz1 z', fun H' q s r' => k H' q _ _ s r' (add_ok v v') ?_⟩)
    exact Sz.rr (mul_ne v.ne v'.ne) (lt_add (wide_lt z.1 z'.2.2) (wide_lt z'.1 z.2.2)) (lt_mono (wide_lt z.2.2 z'.2.2) (by decide))
  · have hy : OwnV C H y := o.resolve_left fun ⟨a, _, _, e, _⟩ => by cases e
    obtain ⟨p, rfl, r⟩ := own_ref oy hy
    refine .inr (.inr ⟨⟨t, rfl⟩, hy, p, .int t, t', b', t, 1, rfl, r, ox, sz1 z', sz1 z, fun H' q s r' => k H' q _ _ s r' ((add_ok v' v).to (mul_ne v.B0 v'.B0) (by grind)) ?_⟩)
    exact Sz.rr (mul_ne v'.ne v.ne) (lt_add (wide_lt z'.1 z.2.2) (wide_lt z.1 z'.2.2)) (lt_mono (wide_lt z'.2.2 z.2.2) (by decide))
theorem mul_reads (h : Num C H x A B) (h' : Num C H y A' B') (o : OneR C H x y) (k : Res C H (A * A') (B * B') Q) : rBin rNo C (spBin C mN bD) (spBin C mN bD) E0 x y H Q := by
  obtain ⟨⟨t, b, ox, v, z⟩, _, _⟩ := h
  obtain ⟨⟨t', b', oy, v', z'⟩, _, _⟩ := h'
  rcases not_own_int ox with hx | ⟨rfl, rfl⟩
  · obtain ⟨p, rfl, r⟩ := own_ref ox hx
    refine .inr (.inl ⟨hx, oy.own, p, y, t, b, t', b', rfl, r, oy, sz1 z, sz1 z', fun H' q s r' => k H' q _ _ s r' (mul_ok v v') ?_⟩)
    exact Sz.rr (mul_ne v.ne v'.ne) (wide_lt z.1 z'.1) (wide_lt z.2.2 z'.2.2)
  · have hy : OwnV C H y := o.resolve_left fun ⟨a, _, _, e, _⟩ => by cases e
    obtain ⟨p, rfl, r⟩ := own_ref oy hy
    refine .inr (.inr ⟨⟨t, rfl⟩, hy, p, .int t, t', b', t, 1, rfl, r, ox, sz1 z', sz1 z, fun H' q s r' => k H' q _ _ s r' ((mul_ok v' v).to (mul_ne v.B0 v'.B0) (by grind)) ?_⟩)
    exact Sz.rr (mul_ne v'.ne v.ne) (wide_lt z'.1 z.1) (wide_lt z'.2.2 z.2.2)
theorem sub_reads (h : Num C H x A B) (h' : Num C H y A' B') (o : OneR C H x y) (k : Res C H (A * B' - A' * B) (B * B') Q) : rBin rNo C (spBin C sN bD) (spBin C rsN rsD) E0 x y H Q := by
  obtain ⟨⟨t, b, ox, v, z⟩, _, _⟩ := h
  obtain ⟨⟨t', b', oy, v', z'⟩, _, _⟩ := h'
  rcases not_own_int ox with hx | ⟨rfl, rfl⟩
  · obtain ⟨p, rfl, r⟩ := own_ref ox hx
    refine .inr (.inl ⟨hx, oy.own, p, y, t, b, t', b', rfl, r, oy, sz1 z, sz1 z', fun H' q s r' => k H' q _ _ s r' (sub_ok v v') ?_⟩)
    exact Sz.rr (mul_ne v.ne v'.ne) (lt_sub (wide_lt z.1 z'.2.2) (wide_lt z'.1 z.2.2)) (lt_mono (wide_lt z.2.2 z'.2.2) (by decide))
  · have hy : OwnV C H y := o.resolve_left fun ⟨a, _, _, e, _⟩ => by cases e
    obtain ⟨p, rfl, r⟩ := own_ref oy hy
    have vn := neg_ok v'
    have zn1 : (rt (-t') b').natAbs < 2 ^ 200 := Nat.lt_of_le_of_lt (rt_le v'.ne) (by rw [Int.natAbs_neg]; exact z'.1)
    have zn2 : (rb (-t') b').natAbs < 2 ^ 200 := Nat.lt_of_le_of_lt (rb_le v'.ne) z'.2.2
    refine .inr (.inr ⟨⟨t, rfl⟩, hy, p, .int t, t', b', t, 1, rfl, r, ox, sz1 z', sz1 z, fun H' q s r' => k H' q _ _ s r' ((add_ok vn v).to (mul_ne v.B0 v'.B0) (by grind)) ?_⟩)
    exact Sz.rr (mul_ne vn.ne v.ne) (lt_add (wide_lt zn1 z.2.2) (wide_lt z.1 zn2)) (lt_mono (wide_lt zn2 z.2.2) (by decide))
theorem floor_reads {E : XK} (h : Num C H x A B) (h' : Num C H y A' B') (o : OneR C H x y) (yes : A' ≠ 0 → ∀ H', Same H H' → Q (.int ((A * B').fdiv (B * A'))) H') (no : A' = 0 → ∀ H', Same H H' → Zero CN H' E) :
    rBin rNo C (spFloor C CN) (spRfloor C CN) E x y H Q := by
  obtain ⟨⟨t, b, ox, v, z⟩, _, _⟩ := h
  obtain ⟨⟨t', b', oy, v', z'⟩, _, _⟩ := h'
  have fin : t' ≠ 0 → ∀ H', Same H H' → Q (.int ((t * b').fdiv (b * t'))) H' := fun h0 H' s => by
    have h1 : A' ≠ 0 := fun z => h0 ((top_zero v').mpr z)
    rw [floor_ok v v' h1]
    exact yes h1 H' s
  rcases not_own_int ox with hx | ⟨rfl, rfl⟩
  · obtain ⟨p, rfl, r⟩ := own_ref ox hx
    exact .inr (.inl ⟨hx, oy.own, p, y, t, b, t', b', rfl, r, oy, sz1 z, sz1 z', fin, fun h0 => no ((top_zero v').mp h0)⟩)
  · have hy : OwnV C H y := o.resolve_left fun ⟨a, _, _, e, _⟩ => by cases e
    obtain ⟨p, rfl, r⟩ := own_ref oy hy
    exact .inr (.inr ⟨⟨t, rfl⟩, hy, p, .int t, t', b', t, 1, rfl, r, ox, sz1 z', sz1 z, fin, fun h0 => no ((top_zero v').mp h0)⟩)
end
end
end Pt

namespace Pt
open PySem PySem.Spec L2
open PySem.W (findIn isFn kitOne)
abbrev sMult : Stmt := topS 13
abbrev sIsDg : Stmt := topS 14
abbrev sPowM : Stmt := inClass (topS 9) 14
abbrev sPower : Stmt := inClass (topS 9) 21
abbrev sText : Stmt := inClass (topS 9) 22
abbrev sRead : Stmt := inClass (topS 9) 23
abbrev sProd : Stmt := topS 22
abbrev sWrit : Stmt := topS 25
/-- what the walk asks further -/
structure Txt4 (mg : Str → Option Value) : Prop where
  mP : ∃ t, mg "MOST_POWER" = some (.int 20 t)
  mD : ∃ t, mg "MOST_DIGITS" = some (.int 60 t)
  dg : ∃ t, mg "DIGITS" = some (.str "0123456789" t)
  gStr : mg "str" = none
  gAll : mg "all" = none
section
variable {P : Program} {w : World} {K : PySem.W.Frag} {mg : Str → Option Value} {base : Heap} {C CN fN : Addr}
/-! ### text -/
def spText (C : Addr) : Sp := fun vs H Q _ => ∃ (p : Addr) (t b : Int), vs = [.ref p] ∧ RatAt C H p t b ∧ Sz 200 t b ∧ Q (.str (ratText t b)) H
theorem scTx : FnScope ["self"] ["self"] (defScope sText) := ⟨rfl, rfl, rfl, by decide +kernel, rfl, by decide +kernel, by decide +kernel⟩
theorem ok_text {f : Addr} {fd : FuncData} (F : Fun K "text" "Ratio.text" sText f fd) (T : Txt K mg C CN fN) (gS : mg "str" = none) : FnOk P w K mg base CX0 1 f fd ["self"] (spText C) := by
  refine F.ok scTx (fun vs H Q E h => ?_) (fun cdv A outer s H vs Q E hr h => ?_)
  · obtain ⟨p, t, b, rfl, _⟩ := h
    rfl
  · obtain ⟨p, t, b, rfl, ⟨dx, e⟩, z, k⟩ := h
    refine ⟨_, pss_cons (ps_if (pt_cmpR op_eq (pe_fld (pv 0) rfl) pe_int (nomark _)) (pss_one (ps_ret (pe_callTy call_str_int (by rfl) gS (by decide +kernel) (pa_cons (pe_fld (pv 0) rfl) pa_nil)))) pss_nil)
      (pss_one (ps_ret (pe_joined (.cons (pe_fmt (pe_fld (pv 0) rfl)) (.cons pe_str (.cons (pe_fmt (pe_fld (pv 0) rfl)) .nil)))))), ?_⟩
    refine ⟨_, rfl, p, C, dx, _, _, rfl, e, T.cl, T.nB, rflds_bot _ _, rfl, _, rfl, ?_⟩
    unfold ratText at k
    by_cases hb : b = 1
    · rw [if_pos hb] at k
      rw [hb, decide_eq_true rfl]
      refine iteT ?_
      subst hb
      exact ⟨_, rfl, p, C, dx, _, _, rfl, e, T.cl, T.nT, rflds_top _ _, t, rfl, log_small z.1, k⟩
    · rw [if_neg hb] at k
      rw [decide_eq_false (fun z => hb (V.int.inj z))]
      refine iteF ?_
      have l1 := PyProof.Rows.int_text_len_1921 (log_small z.1)
      have l2 := PyProof.Rows.int_text_len_1921 (log_small z.2.2)
      have hz : (16777216 : Nat) = sizeLine := sizeLine_eq.symm
      have he : Str.empty.length = 0 := rfl
      have hs : (("/" : Str)).length = 1 := by decide +kernel
      refine ⟨_, rfl, p, C, dx, _, _, rfl, e, T.cl, T.nT, rflds_top _ _, .inr ⟨t, rfl, log_small z.1, _, rfl, ?_, ?_⟩⟩
      · rw [Str.length_append, ← hz]
        omega
      refine ⟨_, rfl, ?_, ?_⟩
      · rw [Str.length_append, Str.length_append, ← hz]
        omega
      refine ⟨_, rfl, p, C, dx, _, _, rfl, e, T.cl, T.nB, rflds_bot _ _, .inr ⟨b, rfl, log_small z.2.2, _, rfl, ?_, ?_⟩⟩
      · rw [Str.length_append, Str.length_append, Str.length_append, ← hz]
        omega
      show Q (.str (Str.empty ++ Str.ofString (toString t) ++ "/" ++ Str.ofString (toString b))) H
      have e1 : Str.empty ++ Str.ofString (toString t) ++ "/" ++ Str.ofString (toString b) = SI t ++ "/" ++ SI b := by
        apply TL.ext_tl
        rw [TL.tl_append, TL.tl_append, TL.tl_append, TL.tl_append, TL.tl_append]
        rfl
      rw [e1]
      exact k
/-! ### multiplied -/
def spMult : Sp := fun vs H Q _ => ∃ (n : Int) (k : Nat), vs = [.int n, .int k] ∧ n.natAbs < 2 ^ 200 ∧ k ≤ 20 ∧ Q (.int (n ^ k)) H
theorem ten_pow {n : Int} {m : Nat} (hm : 0 < m) (h : n.natAbs < 10 ^ m) (k : Nat) : (n ^ k).natAbs ≤ (10 ^ m) ^ k := by
  rw [Int.natAbs_pow]
  exact Nat.pow_le_pow_left (Nat.le_of_lt h) k
theorem pow_lt {n : Int} {m : Nat} (h : n.natAbs < 2 ^ m) (k : Nat) : (n ^ k).natAbs < 2 ^ (m * k + 1) := by
  rw [Int.natAbs_pow, Nat.pow_succ, Nat.pow_mul]
  have := Nat.pow_le_pow_left (Nat.le_of_lt h) k
  have h2 : 0 < (2 ^ m) ^ k := Nat.pow_pos (Nat.pow_pos (by decide))
  omega
theorem scMu : FnScope ["number", "times", "product", "step"] ["number", "times"] (defScope sMult) := ⟨rfl, rfl, rfl, by decide +kernel, rfl, by decide +kernel, by decide +kernel⟩
theorem ok_mult {f : Addr} {fd : FuncData} (F : Fun K "multiplied" "multiplied" sMult f fd) (gR : mg "range" = none) : FnOk P w K mg base CX0 1 f fd ["number", "times"] spMult := by
  refine F.ok scMu (fun vs H Q E h => ?_) (fun cdv A outer s0 H vs Q E hr h => ?_)
  · obtain ⟨n, k, rfl, _⟩ := h
    rfl
  · obtain ⟨n, m, rfl, hn, hm, k⟩ := h
    refine ⟨_, pss_cons (ps_set (i := 2) scMu.nd rfl (Or.inl rfl) pe_int)
      (pss_cons (ps_for PassesOwn.never rfl (pi_range1 rfl gR (pa_cons (pv 1) pa_nil)) (pg_name (i := 3) scMu.nd rfl (Or.inl rfl))
        (pss_one (ps_set (i := 2) scMu.nd rfl (Or.inl rfl) (pe_op op_mulW (pv 2) (pv 0)))))
      (pss_one (ps_ret (pv 2)))), ?_⟩
    refine ⟨_, rfl, m, rfl, (by omega), (by omega), ?_⟩
    have em : ((m : Int)).toNat = m := by omega
    refine for_range (lo := 0) (n := _) (fun i σ H' => ∃ (v : Option V), σ = [some (.int n), some (.int m), some (.int (n ^ i)), v] ∧ H' = H) ⟨none, by rw [Int.pow_zero] <;> rfl, rfl⟩ ?_ ?_
    · rintro i σ H' hi ⟨v, rfl, rfl⟩
      have hi' : i < m := by first | exact hi | (rw [em] at hi; exact hi)
      refine ⟨_, rfl, _, rfl, _, n, rfl, rfl, ?_, ?_⟩
      · refine mulOk (n := 4001) (m := 200) ?_ hn
        refine lt_mono (pow_lt hn i) (by omega)
      · exact ⟨_, by rw [Int.pow_succ] <;> rfl, rfl⟩
    · rintro σ H' ⟨v, rfl, rfl⟩
      refine ⟨_, rfl, ?_⟩
      first | exact k | (rw [em]; exact k)
theorem scPr : FnScope ["_law_number", "_law_many", "_law_result", "_law_k"] ["_law_number", "_law_many"] (defScope sProd) := ⟨rfl, rfl, rfl, by decide +kernel, rfl, by decide +kernel, by decide +kernel⟩
theorem ok_prod {f : Addr} {fd : FuncData} (F : Fun K "_law_product" "_law_product" sProd f fd) (gR : mg "range" = none) : FnOk P w K mg base CX0 1 f fd ["_law_number", "_law_many"] spMult := by
  refine F.ok scPr (fun vs H Q E h => ?_) (fun cdv A outer s0 H vs Q E hr h => ?_)
  · obtain ⟨n, k, rfl, _⟩ := h
    rfl
  · obtain ⟨n, m, rfl, hn, hm, k⟩ := h
    refine ⟨_, pss_cons (ps_set (i := 2) scPr.nd rfl (Or.inl rfl) pe_int)
      (pss_cons (ps_for PassesOwn.never rfl (pi_range1 rfl gR (pa_cons (pv 1) pa_nil)) (pg_name (i := 3) scPr.nd rfl (Or.inl rfl))
        (pss_one (ps_set (i := 2) scPr.nd rfl (Or.inl rfl) (pe_op op_mulW (pv 2) (pv 0)))))
      (pss_one (ps_ret (pv 2)))), ?_⟩
    refine ⟨_, rfl, m, rfl, (by omega), (by omega), ?_⟩
    have em : ((m : Int)).toNat = m := by omega
    refine for_range (lo := 0) (n := _) (fun i σ H' => ∃ (v : Option V), σ = [some (.int n), some (.int m), some (.int (n ^ i)), v] ∧ H' = H) ⟨none, by rw [Int.pow_zero] <;> rfl, rfl⟩ ?_ ?_
    · rintro i σ H' hi ⟨v, rfl, rfl⟩
      have hi' : i < m := by first | exact hi | (rw [em] at hi; exact hi)
      refine ⟨_, rfl, _, rfl, _, n, rfl, rfl, ?_, ?_⟩
      · refine mulOk (n := 4001) (m := 200) ?_ hn
        refine lt_mono (pow_lt hn i) (by omega)
      · exact ⟨_, by rw [Int.pow_succ] <;> rfl, rfl⟩
    · rintro σ H' ⟨v, rfl, rfl⟩
      refine ⟨_, rfl, ?_⟩
      first | exact k | (rw [em]; exact k)
end
end Pt

namespace Pt
open PySem PySem.Spec L2
open PySem.W (findIn isFn kitOne)
theorem passL0 {X : Cx} : ∀ σ, PassesAt (L2.CX X.prog X.w) X σ E0 := fun σ pins H s e s' I c => passL pins σ H s e s' I c
section
variable {X : Cx} {C g : Addr} {CX : CXT} {k : Nat} {sp : Sp} {m : Str} {fd : FuncData} {ps : List Str} {o e : Expr} {es : List Expr} {ta : TE} {t : TA} {pos apos : Pos}
def tMethE (C : Addr) (m : Str) (sp : Sp) (E : L2.St → XK) (ta : TE) (t : TA) : TE := fun σ H Q => ta σ H fun x H1 => ∃ a dx fs, x = .ref a ∧ H1 a = some (.ins C dx fs) ∧ fs.lookup m = none ∧ t σ H1 fun vs H2 => sp (x :: vs) H2 Q (E σ)
/-- o.m(e, ..) of a method that may raise, within a try -/
theorem pe_methE {E : L2.St → XK} {pl : Sem Bool} (he : PE X o ta) (c : Cls X.K C) (hm : Meth X.K C m g) (F : FnOk X.prog X.w X.K X.mg X.base CX k g fd ps sp) (hr : Room k X.A) (hb : Binds X.K fd ps []) (hx : ∀ σ, PassesAt CX X σ (E σ)) (ha : PA X (e :: es) t)
    (hst : starEach (e :: es) X.env = (false, eval e X.env) :: starEach es X.env := by rfl) (hpl : (backTo pos (starEach es X.env)).any (·.1) = false := by rfl)
    (ht : eval (.Call (.Attribute o m apos) (e :: es) [] pos) X.env = (do
      let ov ← eval o X.env
      standAt apos.atName
      let (f, first) ← holding [ov] (getMethod ov m pl)
      callWith pos f first (backTo pos (starEach (e :: es) X.env)) (backToKw pos (keywordEach [] X.env))) := by rfl) :
    PE X (.Call (.Attribute o m apos) (e :: es) [] pos) (tMethE C m sp E ta t) := by
  refine ⟨fun pins s σ H Q I h => ?_⟩
  refine PySem.W.methodCall_KW (pl := pl) (thn (he.run pins s σ H _ I h) fun u s1 hh => ?_) ht
  obtain ⟨x, H1, I1, rx, a, dx, fs, ex, ea, l, q⟩ := hh
  subst ex
  obtain rfl : u = Value.ref a := rx
  refine getmeth_ok I1 ea c hm l ?_
  refine PySem.W.callWith_K (first := [.ref a]) (h₀ := X.base) I.ok.mod.kin hm.kp (thn (ha.run pos pins s1 σ H1 _ I1 q) fun us s2 hh2 => ?_) hst hpl
  obtain ⟨vs, H2, I2, r, q2⟩ := hh2
  exact ⟨I2.kIn, run_fnS (us := .ref a :: us) (vs := .ref a :: vs) F hr hb (hx σ) I2 (.cons rfl r) q2⟩
end
end Pt

namespace Pt
open PySem PySem.Spec L2
open PySem.W (findIn isFn kitOne)
def Sm (t b : Int) : Prop := t.natAbs < 10 ^ 60 ∧ 1 ≤ b ∧ b.natAbs < 10 ^ 60
theorem lt60 {t : Int} (h : t.natAbs < 10 ^ 60) : t.natAbs < 2 ^ 200 := Nat.lt_trans h ten60
theorem Sm.sz {t b : Int} (h : Sm t b) : Sz 200 t b := ⟨lt60 h.1, h.2.1, lt60 h.2.2⟩
theorem p1200 : (10 ^ 60 : Nat) ^ 20 < 2 ^ 4000 := by decide +kernel
theorem pow4000 {n : Int} (h : n.natAbs < 10 ^ 60) {k : Nat} (hk : k ≤ 20) : (n ^ k).natAbs < 2 ^ 4000 := by
  refine Nat.lt_of_le_of_lt (ten_pow (by decide) h k) (Nat.lt_of_le_of_lt (Nat.pow_le_pow_right (Nat.pow_pos (by decide)) hk) p1200)
def Wd (CN : Addr) (wd : Str) (H : Hp) (E : XK) : Prop := ∀ d H', H d = none → Same H H' → H' d = some (.xd [(("word" : Str), V.str wd)]) → E (.ref CN) (some d) H'
def OddK (x : V) : Prop := (∃ k, x = .bl k) ∨ (∃ z, x = .str z) ∨ ∃ i, x = .int i ∧ (i < -20 ∨ 20 < i)
/-- what a power asks of its exponent -/
def PowRest (C CN : Addr) (H : Hp) (t b : Int) (x : V) (Q : VK) (E : XK) : Prop :=
  (∃ k : Nat, k ≤ 20 ∧ x = .int k ∧ NewR C H (t ^ k) (b ^ k) Q) ∨
  (∃ m : Nat, 1 ≤ m ∧ m ≤ 20 ∧ x = .int (-(m : Int)) ∧ (t ≠ 0 → NewR C H (b ^ m) (t ^ m) Q) ∧ (t = 0 → Zero CN H E)) ∨
  (OddK x ∧ Wd CN "power" H E)
def spPower (C CN : Addr) : Sp := fun vs H Q E => ∃ (p : Addr) (x : V) (t b : Int), vs = [.ref p, x] ∧ RatAt C H p t b ∧ Sm t b ∧ PowRest C CN H t b x Q E
def spIsIntW : Sp := fun vs H Q _ => ∃ x, vs = [x] ∧ ((∃ i, x = .int i) ∧ Q (.bl true) H ∨ ((∃ k, x = .bl k) ∨ ∃ z, x = .str z) ∧ Q (.bl false) H)
section
variable {P : Program} {w : World} {K : PySem.W.Frag} {mg : Str → Option Value} {base : Heap} {C CN fN : Addr}
theorem wd_reads {wd : Str} {H : Hp} {E : XK} {σ : L2.St} (z : Wd CN wd H E) : tMkO CN (spNR CN) [] (tCons (tC (.str wd)) tNil) σ H (fun cls d H' => E cls d H') := by
  refine ⟨(by show 1 ≤ 1000; decide), fun a na => ⟨a, _, rfl, upd_same, fun dx ndx ne => ⟨rfl, dx, _, upd_same, by rw [upd_ne ne, upd_same], ?_, ?_⟩⟩⟩
  · rw [upd_ne ne] at ndx
    exact ndx
  · rw [upd_ne ne] at ndx
    refine z dx _ ndx (fun b o e => ?_) upd_same
    have h1 : b ≠ dx := ne_of_none e ndx
    have h2 : b ≠ a := ne_of_none e na
    rw [upd_ne h1, del_ne h2, upd_ne h2, upd_ne h1, upd_ne h2]
    exact e
/-! ### is_integer of anything that the law gives -/
theorem ok_isintW {f : Addr} {fd : FuncData} (F : Fun K "is_integer" "is_integer" sIsInt f fd) (T : Txt K mg C CN fN) : FnOk P w K mg base CX0 1 f fd ["thing"] spIsIntW := by
  refine F.ok scII (fun vs H Q E h => ?_) (fun cdv A outer s H vs Q E hr h => ?_)
  · obtain ⟨x, rfl, _⟩ := h
    rfl
  · obtain ⟨x, rfl, h⟩ := h
    refine ⟨_, pss_one (ps_ret (pe_and (pe_callB call_isi (by rfl) T.gIsi PyProof.Rows.boot_isinstance (pa_cons (pv 0) (pa_cons (pe_bltn (v := .ty "int") (by rfl) T.gInt PyProof.Rows.boot_int rfl) pa_nil)))
      (pe_one (pe_not (pe_callB call_isi (by rfl) T.gIsi PyProof.Rows.boot_isinstance (pa_cons (pv 0) (pa_cons (pe_bltn (v := .ty "bool") (by rfl) T.gBool PyProof.Rows.boot_bool rfl) pa_nil))))))), ?_⟩
    rcases h with ⟨⟨i, rfl⟩, q⟩ | ⟨⟨k, rfl⟩ | ⟨z, rfl⟩, q⟩
    · refine ⟨_, rfl, _, _, _, _, true, rfl, .ty _, .base (.int i), kit_ty (by decide +kernel), true, rfl, iteT ?_⟩
      exact ⟨_, rfl, _, _, _, _, false, rfl, .ty _, .base (.int i), kit_ty (by decide +kernel), false, rfl, q⟩
    · refine ⟨_, rfl, _, _, _, _, true, rfl, .ty _, .base (.bl k), kit_ty (by decide +kernel), true, rfl, iteT ?_⟩
      exact ⟨_, rfl, _, _, _, _, true, rfl, .ty _, .base (.bl k), kit_ty (by decide +kernel), true, rfl, q⟩
    · refine ⟨_, rfl, _, _, _, _, false, rfl, .ty _, .base (.str z), kit_ty (by decide +kernel), false, rfl, iteF ?_⟩
      exact q
theorem ok_lintW {f : Addr} {fd : FuncData} (F : Fun K "_law_integer" "_law_integer" sLInt f fd) (T : Txt K mg C CN fN) : FnOk P w K mg base CX0 1 f fd ["_law_value"] spIsIntW := by
  refine F.ok scLI (fun vs H Q E h => ?_) (fun cdv A outer s H vs Q E hr h => ?_)
  · obtain ⟨x, rfl, _⟩ := h
    rfl
  · obtain ⟨x, rfl, h⟩ := h
    refine ⟨_, pss_one (ps_ret (pe_and (pe_callB call_isi (by rfl) T.gIsi PyProof.Rows.boot_isinstance (pa_cons (pv 0) (pa_cons (pe_bltn (v := .ty "int") (by rfl) T.gInt PyProof.Rows.boot_int rfl) pa_nil)))
      (pe_one (pe_not (pe_callB call_isi (by rfl) T.gIsi PyProof.Rows.boot_isinstance (pa_cons (pv 0) (pa_cons (pe_bltn (v := .ty "bool") (by rfl) T.gBool PyProof.Rows.boot_bool rfl) pa_nil))))))), ?_⟩
    rcases h with ⟨⟨i, rfl⟩, q⟩ | ⟨⟨k, rfl⟩ | ⟨z, rfl⟩, q⟩
    · refine ⟨_, rfl, _, _, _, _, true, rfl, .ty _, .base (.int i), kit_ty (by decide +kernel), true, rfl, iteT ?_⟩
      exact ⟨_, rfl, _, _, _, _, false, rfl, .ty _, .base (.int i), kit_ty (by decide +kernel), false, rfl, q⟩
    · refine ⟨_, rfl, _, _, _, _, true, rfl, .ty _, .base (.bl k), kit_ty (by decide +kernel), true, rfl, iteT ?_⟩
      exact ⟨_, rfl, _, _, _, _, true, rfl, .ty _, .base (.bl k), kit_ty (by decide +kernel), true, rfl, q⟩
    · refine ⟨_, rfl, _, _, _, _, false, rfl, .ty _, .base (.str z), kit_ty (by decide +kernel), false, rfl, iteF ?_⟩
      exact q
/-! ### power -/
structure Core4 (P : Program) (w : World) (K : PySem.W.Frag) (mg : Str → Option Value) (base : Heap) (C CN fN : Addr) : Prop where
  O2 : Core2 P w K mg base C CN fN
  T4 : Txt4 mg
  isW : ∃ f fd, FnOk P w K mg base CX0 1 f fd ["thing"] spIsIntW ∧ mg "is_integer" = some (.ref f) ∧ PySem.W.keepIn K (.ref f) = true ∧ Binds K fd ["thing"] []
  mu : ∃ f fd, FnOk P w K mg base CX0 1 f fd ["number", "times"] spMult ∧ mg "multiplied" = some (.ref f) ∧ PySem.W.keepIn K (.ref f) = true ∧ Binds K fd ["number", "times"] []
theorem scPw : FnScope ["self", "k"] ["self", "k"] (defScope sPower) := ⟨rfl, rfl, rfl, by decide +kernel, rfl, by decide +kernel, by decide +kernel⟩
theorem ok_power {f : Addr} {fd : FuncData} (F : Fun K "power" "Ratio.power" sPower f fd) (O4 : Core4 P w K mg base C CN fN) : FnOk P w K mg base (L2.CX P w) 5 f fd ["self", "k"] (spPower C CN) := by
  obtain ⟨⟨O, fi, fdi, Gi, M, b2, _⟩, T4, ⟨fw, fdw, Gw, mw, kw, bw⟩, ⟨fm, fdm, Gm, mm, km, bm⟩⟩ := O4
  have T := O.T
  obtain ⟨fdn, Gn, bn⟩ := O.nr
  obtain ⟨tk, mP⟩ := T4.mP
  refine F.okX scPw (fun vs H Q E h => ?_) (fun cdv A outer s H vs Q E hr h => ?_)
  · obtain ⟨p, x, t, b, rfl, _⟩ := h
    rfl
  · obtain ⟨p, x, t, b, rfl, ⟨dx, e⟩, sm, h⟩ := h
    have hr1 : Room 1 _ := hr.mono (by decide)
    have hr2 : Room 2 _ := hr.mono (by decide)
    refine ⟨_, pss_cons (ps_if (PW.pt (pw_or (pt_not (pt_val (pe_call Gw hr1 rfl mw kw bw .nil pass0 (pa_cons (pv 1) pa_nil)))) (pw_or1 (pt_not (pt_chain op_le op_le (pe_un un_neg (pe_glob (v := .int 20) rfl mP ⟨_, rfl⟩)) (pv 1) (pe_glob (v := .int 20) rfl mP ⟨_, rfl⟩))))))
        (pss_one (ps_raise rfl (takes_of rfl rfl rfl rfl) (pmk_oex T.oex T.iN T.tN Gn hr2 bn .nil pass0 rfl T.mgN (pa_cons pe_str pa_nil)))) pss_nil)
      (pss_cons (ps_if (pt_cmpR op_ge (pv 1) pe_int (nomark _)) (pss_one (ps_ret (pe_make M Gi hr rfl T.mgC b2 .nil passL (pa_cons (pe_call Gm hr1 rfl mm km bm .nil pass0 (pa_cons (pe_fld (pv 0) rfl) (pa_cons (pv 1) pa_nil))) (pa_cons (pe_call Gm hr1 rfl mm km bm .nil pass0 (pa_cons (pe_fld (pv 0) rfl) (pa_cons (pv 1) pa_nil))) pa_nil))))) pss_nil)
      (pss_one (ps_ret (pe_make (E := E) M Gi hr rfl T.mgC b2 .nil (passKK (takes_of rfl rfl rfl rfl) (fun _ _ _ _ h => h)) (pa_cons (pe_call Gm hr1 rfl mm km bm .nil pass0 (pa_cons (pe_fld (pv 0) rfl) (pa_cons (pe_un un_neg (pv 1)) pa_nil))) (pa_cons (pe_call Gm hr1 rfl mm km bm .nil pass0 (pa_cons (pe_fld (pv 0) rfl) (pa_cons (pe_un un_neg (pv 1)) pa_nil))) pa_nil)))))), ?_⟩
    have z := sm.sz
    rcases h with ⟨k, hk, rfl, q⟩ | ⟨m, hm1, hm, rfl, yes, no⟩ | ⟨od, no⟩
    · refine ⟨_, rfl, _, rfl, .inl ⟨⟨_, rfl⟩, true, rfl, iteF ?_⟩⟩
      refine ⟨20, rfl, _, rfl, _, _, rfl, rfl, _, rfl, ?_⟩
      rw [decide_eq_true (show (-20 : Int) ≤ (k : Int) by omega)]
      refine iteT ?_
      refine ⟨_, _, rfl, rfl, _, rfl, ?_⟩
      rw [decide_eq_true (show (k : Int) ≤ 20 by omega)]
      refine iteF ?_
      refine ⟨_, rfl, _, _, rfl, rfl, _, rfl, ?_⟩
      rw [decide_eq_true (show (0 : Int) ≤ (k : Int) by omega)]
      refine iteT ?_
      refine ⟨_, rfl, p, C, dx, _, _, rfl, e, T.cl, T.nT, rflds_top _ _, _, rfl, t, k, rfl, z.1, hk, ?_⟩
      refine ⟨_, rfl, p, C, dx, _, _, rfl, e, T.cl, T.nB, rflds_bot _ _, _, rfl, b, k, rfl, z.2.2, hk, ?_⟩
      intro x dx' nx ndx ne
      exact made (pow4000 sm.1 hk) (pow4000 sm.2.2 hk) (Int.pow_ne_zero (b_ne z)) q nx ndx ne
    · refine ⟨_, rfl, _, rfl, .inl ⟨⟨_, rfl⟩, true, rfl, iteF ?_⟩⟩
      refine ⟨20, rfl, _, rfl, _, _, rfl, rfl, _, rfl, ?_⟩
      rw [decide_eq_true (show (-20 : Int) ≤ (-(m : Int)) by omega)]
      refine iteT ?_
      refine ⟨_, _, rfl, rfl, _, rfl, ?_⟩
      rw [decide_eq_true (show (-(m : Int)) ≤ 20 by omega)]
      refine iteF ?_
      refine ⟨_, rfl, _, _, rfl, rfl, _, rfl, ?_⟩
      rw [decide_eq_false (show ¬ (0 : Int) ≤ (-(m : Int)) by omega)]
      refine iteF ?_
      refine ⟨_, rfl, p, C, dx, _, _, rfl, e, T.cl, T.nB, rflds_bot _ _, _, rfl, _, rfl, b, m, (by show [V.int b, V.int (- -(m : Int))] = _; rw [Int.neg_neg]), z.2.2, hm, ?_⟩
      refine ⟨_, rfl, p, C, dx, _, _, rfl, e, T.cl, T.nT, rflds_top _ _, _, rfl, _, rfl, t, m, (by show [V.int t, V.int (- -(m : Int))] = _; rw [Int.neg_neg]), z.1, hm, ?_⟩
      intro x dx' nx ndx ne
      refine made0 (pow4000 sm.2.2 hm) (pow4000 sm.1 hm) (fun h0 => yes fun z0 => h0 ?_) (fun h0 => no ?_) nx ndx ne
      · rw [z0, Int.zero_pow (by omega)]
      · exact Decidable.byContradiction fun z => Int.pow_ne_zero z h0
    · have fin := wd_reads (σ := [some (.ref p), some x]) no
      rcases od with ⟨k, rfl⟩ | ⟨s, rfl⟩ | ⟨i, rfl, hi⟩
      · exact ⟨_, rfl, _, rfl, .inr ⟨.inl ⟨_, rfl⟩, false, rfl, iteT fin⟩⟩
      · exact ⟨_, rfl, _, rfl, .inr ⟨.inr ⟨_, rfl⟩, false, rfl, iteT fin⟩⟩
      · refine ⟨_, rfl, _, rfl, .inl ⟨⟨_, rfl⟩, true, rfl, iteF ?_⟩⟩
        refine ⟨20, rfl, _, rfl, _, _, rfl, rfl, _, rfl, ?_⟩
        by_cases h1 : (-20 : Int) ≤ i
        · rw [decide_eq_true h1]
          refine iteT ?_
          refine ⟨_, _, rfl, rfl, _, rfl, ?_⟩
          rw [decide_eq_false (show ¬ i ≤ 20 by omega)]
          exact iteT fin
        · rw [decide_eq_false h1]
          refine iteF ?_
          exact ⟨_, rfl, iteT fin⟩
theorem scPm : FnScope ["self", "other"] ["self", "other"] (defScope sPowM) := ⟨rfl, rfl, rfl, by decide +kernel, rfl, by decide +kernel, by decide +kernel⟩
theorem ok_powm {f g : Addr} {fd fdg : FuncData} (F : Fun K "__pow__" "Ratio.__pow__" sPowM f fd) (T : Txt K mg C CN fN) (mo : Meth K C "power" g) (Go : FnOk P w K mg base (L2.CX P w) 5 g fdg ["self", "k"] (spPower C CN)) (bo : Binds K fdg ["self", "k"] []) :
    FnOk P w K mg base (L2.CX P w) 6 f fd ["self", "other"] (spPower C CN) := by
  refine F.okX scPm (fun vs H Q E h => ?_) (fun cdv A outer s H vs Q E hr h => ?_)
  · obtain ⟨p, x, t, b, rfl, _⟩ := h
    rfl
  · obtain ⟨p, x, t, b, rfl, ⟨dx, e⟩, sm, h⟩ := h
    refine ⟨_, pss_one (ps_ret (pe_methE (E := fun _ => E) (pv 0) T.cl mo Go hr bo (passK (takes_of rfl rfl rfl rfl) (fun _ _ _ _ h => h)) (pa_cons (pv 1) pa_nil))), ?_⟩
    exact ⟨_, rfl, p, dx, _, rfl, e, rflds_no _ _ (by decide +kernel) (by decide +kernel), _, rfl, p, x, t, b, rfl, ⟨dx, e⟩, sm, h⟩
end
end Pt

namespace Pt
open PySem PySem.Spec L2
open PySem.W (findIn isFn kitOne)
section
variable {P : Program} {w : World} {K : PySem.W.Frag} {mg : Str → Option Value} {base : Heap} {C CN fN : Addr}
theorem made1 {H : Hp} {N D : Int} {R : Hp → Prop} {x dx : Addr} {E : XK} (hN : N.natAbs < 2 ^ 4000) (hD : D.natAbs < 2 ^ 4000) (h0 : D ≠ 0) (k : ∀ H', Same H H' → RatAt C H' x (rt N D) (rb N D) → R H') (nx : H x = none) (ndx : H dx = none) (ne : dx ≠ x) :
    spInit C CN [.ref x, .int N, .int D] (upd (upd H dx (.own x)) x (.ins C dx [])) (fun v H2 => v = .non ∧ R H2) E :=
  ⟨x, dx, N, D, rfl, upd_same, hN, hD, fun _ H' kp e => ⟨rfl, k H' (fun b o z => kp b o (new_same nx ndx b o z) (ne_of_none z nx)) ⟨dx, e⟩⟩, fun z => absurd z h0⟩
theorem Kp.up {s l q : Addr} {H H' : Hp} {o : HO} (k : Kp s l H H') (n : H' q = none) : Kp s l H (upd H' q o) := fun c u e h1 h2 => by
  have := k c u e h1 h2
  rw [upd_ne (ne_of_none this n)]
  exact this
theorem LSt.up {s l q : Addr} {H : Hp} {o : HO} (L : LSt H s l) (n : H q = none) : LSt (upd H q o) s l := L.same fun c u e => by rw [upd_ne (ne_of_none e n)]; exact e
theorem same_up {q : Addr} {H : Hp} {o : HO} (n : H q = none) : Same H (upd H q o) := fun c u e => by rw [upd_ne (ne_of_none e n)]; exact e
end
end Pt

namespace Pt
open PySem PySem.Spec L2
open PySem.W (findIn isFn kitOne)
theorem lc_str {x : Str} {g : TG} {tt : TT} {te : TE} {vs : List Nat} {σ : L2.St} {H1 : Hp} {D : Addr} {Qd : Hp → Prop} (Pv : Nat → Hp → Prop) (h0 : Pv 0 (upd H1 D (.lst [])))
    (hs : ∀ (i : Nat) (c : Nat) (H : Hp), x.cps[i]? = some c → Pv i H → g (.str ⟨#[c]⟩) (wipe σ vs) H fun σ2 H2 => wipe σ2 vs = wipe σ vs ∧ tt σ2 H2 fun b H3 => if b = true then te σ2 H3 fun y H4 => ∃ acc, H4 D = some (.lst acc) ∧ acc.length < sizeLine ∧ Pv (i + 1) (upd H4 D (.lst (acc ++ [y]))) else Pv (i + 1) H3)
    (hd : ∀ H, Pv x.cps.size H → Qd H) :
    ∃ W : Nat → Nat → Hp → Prop, (∃ m, W 0 m (upd H1 D (.lst []))) ∧ ∀ (i m : Nat) (H : Hp), W i m H → (Its x).stop i H ∧ Qd H ∨ (Its x).go i H ∧ ∃ Nx : Hp → Prop, (∀ H', Nx H' → ∃ m', m' < m ∧ W (i + 1) m' H') ∧
      ∀ (v : V) (H' : Hp), (Its x).yld i H v H' → g v (wipe σ vs) H' fun σ2 H2 => wipe σ2 vs = wipe σ vs ∧ tt σ2 H2 fun b H3 => if b = true then te σ2 H3 fun y H4 => ∃ acc, H4 D = some (.lst acc) ∧ acc.length < sizeLine ∧ Nx (upd H4 D (.lst (acc ++ [y]))) else Nx H3 := by
  refine ⟨fun i m H => i + m = x.cps.size ∧ Pv i H, ⟨x.cps.size, by omega, h0⟩, fun i m H ⟨e, p⟩ => ?_⟩
  by_cases hi : i < x.cps.size
  · refine .inr ⟨hi, Pv (i + 1), fun H' p' => ⟨m - 1, by omega, by omega, p'⟩, fun v H' hy => ?_⟩
    obtain ⟨rfl, c, hc, rfl⟩ := hy
    exact hs i c _ hc p
  · refine .inl ⟨Nat.le_of_not_lt hi, hd _ ?_⟩
    have : i = x.cps.size := by omega
    rw [← this]
    exact p
def spIsDg : Sp := fun vs H Q _ => ∃ m : Nat, vs = [.str (SI m)] ∧ m < 10 ^ 60 ∧ ∀ H', Same H H' → Q (.bl true) H'
section
variable {P : Program} {w : World} {K : PySem.W.Frag} {mg : Str → Option Value} {base : Heap} {C CN fN : Addr}
theorem scDg : FnScope ["text", "sign"] ["text"] (defScope sIsDg) := ⟨rfl, rfl, rfl, by decide +kernel, rfl, by decide +kernel, by decide +kernel⟩
theorem ok_isdg {f : Addr} {fd : FuncData} (F : Fun K "is_digits" "is_digits" sIsDg f fd) (T4 : Txt4 mg) (gLen : mg "len" = none) : FnOk P w K mg base CX0 1 f fd ["text"] spIsDg := by
  obtain ⟨tk, mD⟩ := T4.mD
  obtain ⟨td, dg⟩ := T4.dg
  refine F.ok scDg (fun vs H Q E h => ?_) (fun cdv A outer s0 H vs Q E hr h => ?_)
  · obtain ⟨m, rfl, _⟩ := h
    rfl
  · obtain ⟨m, rfl, hm, k⟩ := h
    refine ⟨_, pss_one (ps_ret (pe_and (pe_chain op_le op_le pe_int (pe_callB call_len_str (by rfl) gLen PySem.boot_len (pa_cons (pv 0) pa_nil)) (pe_glob (v := .int 60) rfl mD ⟨_, rfl⟩))
      (pe_one (pe_callB (cr_all rfl) (by rfl) T4.gAll (by decide +kernel) (pa_cons (pe_lc (own := [("sign", 1)]) (g := gName 1) (tt := tYes) rfl scDg.nd (pi_str (pv 0)) (blkOk_by (N := ["text", "sign"]) (sc := defScope sIsDg) (by decide +kernel))
        (fun _ _ _ _ _ => pg_name (i := 1) scDg.nd rfl (Or.inl rfl)) (fun _ _ _ _ _ => pts_nil) (fun _ _ _ _ _ => pe_cmpR op_in_sign (pv 1) (pe_glob (v := .str "0123456789") rfl dg ⟨_, rfl⟩) rfl)) pa_nil))))), ?_⟩
    have hL : (SI (m : Int)).length = (TL.numL m).length := by rw [TL.len_tl, SI_nat]
    have h1 : (TL.numL m).length ≤ 60 := numL60 hm
    have h2 : 1 ≤ (TL.numL m).length := by
      cases h : TL.numL m with
      | nil => exact absurd h (TL.numL_ne _)
      | cons c r => simp
    have hsz : (SI (m : Int)).cps.size = (TL.numL m).length := hL
    refine ⟨_, rfl, _, rfl, (by rw [sizeLine_eq, hL]; omega), _, _, rfl, rfl, _, rfl, ?_⟩
    rw [decide_eq_true (show (1 : Int) ≤ ((SI (m : Int)).length : Int) by rw [hL]; omega)]
    refine iteT ?_
    refine ⟨_, _, rfl, rfl, _, rfl, ?_⟩
    rw [decide_eq_true (show ((SI (m : Int)).length : Int) ≤ 60 by rw [hL]; omega)]
    refine iteT ?_
    refine ⟨_, rfl, _, rfl, fun D nD => ?_⟩
    refine lc_str (fun i H' => Same H H' ∧ H' D = some (.lst (((List.replicate i true)).map V.bl))) ⟨same_up nD, by rw [upd_same] <;> rfl⟩ ?_ ?_
    · intro i c H' hc ⟨sm, hD⟩
      refine ⟨rfl, ?_⟩
      have hi : i < (TL.numL m).length := by
        have := (Array.getElem?_eq_some_iff.mp hc).1
        omega
      have hm : c ∈ TL.numL m := by
        have e := SI_nat m
        rw [← e]
        exact List.mem_of_getElem? (i := i) (by rw [Array.getElem?_toList]; exact hc)
      refine ⟨_, rfl, c, _, rfl, rfl, ?_⟩
      rw [digits_all hm]
      refine ⟨_, hD, (by rw [sizeLine_eq, List.length_map, List.length_replicate]; omega), fun cc o e => ?_, ?_⟩
      · rw [upd_ne (ne_of_none e nD)]
        exact sm cc o e
      · rw [upd_same, List.replicate_succ', List.map_append]
        rfl
    · intro H' ⟨sm, hD⟩
      refine ⟨D, _, rfl, SqL.of hD, ?_⟩
      rw [show (List.replicate (SI (m : Int)).cps.size true).all id = true by simp]
      exact k H' sm
end
end Pt

namespace Pt
open PySem PySem.Spec L2
open PySem.W (findIn isFn kitOne)
theorem rt_red {t b : Int} (hb : 1 ≤ b) (g : Int.gcd t b = 1) : rt t b = t ∧ rb t b = b := by
  have h0 : b ≠ 0 := by omega
  have hg : rg t b = 1 := by
    unfold rg
    rw [if_neg (by omega), g]
    rfl
  unfold rt rb
  rw [hg]
  exact ⟨Int.fdiv_one t, Int.fdiv_one b⟩
theorem one_SI : ("1" : Str) = SI (1 : Int) := by
  apply TL.ext_tl
  decide +kernel
theorem first_SI {b : Int} (hb : 1 ≤ b) : ∃ c r, (SI b).cps.toList = c :: r ∧ 49 ≤ c := by
  obtain ⟨c, r, e, k⟩ := numL_head b.natAbs (by omega)
  refine ⟨c, r, ?_, k⟩
  have := SI_nat b.natAbs
  rw [← ratText_inj_pos hb] at this
  rw [← e]
  exact this
theorem sign_ne {c : Nat} (h : 49 ≤ c) : ¬ ((⟨#[c]⟩ : Str) = "0") := by
  intro z
  have h1 : TL.tl (⟨#[c]⟩ : Str) = TL.tl ("0" : Str) := by rw [z]
  have h2 : TL.tl ("0" : Str) = [48] := by decide +kernel
  rw [h2] at h1
  have : [c] = [48] := h1
  have : c = 48 := by simpa using this
  omega
def spRead (C : Addr) : Sp := fun vs H Q _ => ∃ (t b : Int), vs = [.str (ratText t b)] ∧ Sm t b ∧ Int.gcd t b = 1 ∧ ∀ H' q, Same H H' → RatAt C H' q t b → Q (.ref q) H'
section
variable {P : Program} {w : World} {K : PySem.W.Frag} {mg : Str → Option Value} {base : Heap} {C CN fN : Addr}
theorem scRd : FnScope ["text", "top", "slash", "bottom", "found"] ["text"] (defScope sRead) := ⟨rfl, rfl, rfl, by decide +kernel, rfl, by decide +kernel, by decide +kernel⟩
theorem ok_read {f : Addr} {fd : FuncData} (F : Fun K "read" "Ratio.read" sRead f fd) (O2 : Core2 P w K mg base C CN fN) (T4 : Txt4 mg)
    (dg : ∃ f fd, FnOk P w K mg base CX0 1 f fd ["text"] spIsDg ∧ mg "is_digits" = some (.ref f) ∧ PySem.W.keepIn K (.ref f) = true ∧ Binds K fd ["text"] [])
    (tx : ∃ f fd, Meth K C "text" f ∧ FnOk P w K mg base CX0 1 f fd ["self"] (spText C) ∧ Binds K fd ["self"] []) : FnOk P w K mg base CX0 5 f fd ["text"] (spRead C) := by
  obtain ⟨O, fi, fdi, Gi, M, b2, _⟩ := O2
  have T := O.T
  obtain ⟨fg, fdg, Gd, md, kd, bd⟩ := dg
  obtain ⟨ft, fdt, mt, Gt, bt⟩ := tx
  refine F.ok scRd (fun vs H Q E h => ?_) (fun cdv A outer s0 H vs Q E hr h => ?_)
  · obtain ⟨t, b, rfl, _⟩ := h
    rfl
  · obtain ⟨t, b, rfl, sm, hg, k⟩ := h
    have hr1 : Room 1 _ := hr.mono (by decide)
    refine ⟨_, pss_cons (ps_if (pt_not (pt_val (pe_callB call_isi (by rfl) T.gIsi PyProof.Rows.boot_isinstance (pa_cons (pv 0) (pa_cons (pe_bltn (v := .ty "str") (by rfl) T4.gStr PyProof.Rows.boot_str rfl) pa_nil))))) (pss_one ps_never) pss_nil)
      (pss_cons (ps_asg (pe_partition (pv 0) pe_str) (pg_tup rfl (pgs_cons (pg_name (i := 1) scRd.nd rfl (Or.inl rfl)) (pgs_cons (pg_name (i := 2) scRd.nd rfl (Or.inl rfl)) (pgs_cons (pg_name (i := 3) scRd.nd rfl (Or.inl rfl)) pgs_nil)))))
      (pss_cons (ps_if (pt_cmpR op_eq (pv 2) pe_str (nomark _)) (pss_one (ps_set (i := 3) scRd.nd rfl (Or.inl rfl) pe_str)) pss_nil)
      (pss_cons (ps_if (PW.pt (pw_or (pt_not (pt_val (pe_call Gd hr1 rfl md kd bd .nil pass0 (pa_cons (pe_m1 PySem.F.slot_str_removeprefix PySem.F.type_str_removeprefix mt_removeprefix (pv 1) pe_str) pa_nil))))
          (pw_or (pt_not (pt_val (pe_call Gd hr1 rfl md kd bd .nil pass0 (pa_cons (pv 3) pa_nil)))) (pw_or1 (pt_cmpR op_eq (pe_ix ix_str (pv 3) pe_int (fun _ _ => rfl)) pe_str (nomark _)))))) (pss_one ps_never) pss_nil)
      (pss_cons (ps_set (i := 4) scRd.nd rfl (Or.inl rfl) (pe_make M Gi hr rfl T.mgC b2 .nil passL (pa_cons (pe_callTy call_int_str (by rfl) T.gInt PyProof.Rows.boot_int (pa_cons (pv 1) pa_nil)) (pa_cons (pe_callTy call_int_str (by rfl) T.gInt PyProof.Rows.boot_int (pa_cons (pv 3) pa_nil)) pa_nil))))
      (pss_cons (ps_if (pt_cmpR op_ne (pe_meth0 (pv 4) T.cl mt Gt hr1 bt .nil pass0) (pv 0) (nomark _)) (pss_one ps_never) pss_nil)
      (pss_one (ps_ret (pv 4)))))))), ?_⟩
    have l0 := len_ratText sm.1 sm.2.2
    have l1 := len_SI sm.1
    have l2 := len_SI sm.2.2
    refine ⟨_, rfl, _, _, _, _, true, rfl, .ty _, .base (.str _), kit_ty (by decide +kernel), true, rfl, iteF ?_⟩
    refine ⟨_, rfl, ⟨_, rfl⟩, _, _, rfl, rfl, by decide +kernel, (by rw [sizeLine_eq]; omega), fun p np => ?_⟩
    refine ⟨p, _, rfl, SqT.of upd_same, rfl, ?_⟩
    have parts : ∃ sl bx, Txt.partition (ratText t b) "/" = (SI t, sl, bx) ∧ ((sl = Str.empty ∧ b = 1) ∨ (sl = ("/" : Str) ∧ bx = SI b)) := by
      unfold ratText
      by_cases hb : b = 1
      · rw [if_pos hb]
        exact ⟨_, _, part_one, .inl ⟨rfl, hb⟩⟩
      · rw [if_neg hb]
        exact ⟨_, _, part_two, .inr ⟨rfl, rfl⟩⟩
    obtain ⟨sl, bx, ep, cs⟩ := parts
    rw [ep]
    have s1 := same_up (o := .tup [V.str (SI t, sl, bx).1, V.str (SI t, sl, bx).2.1, V.str (SI t, sl, bx).2.2]) np
    generalize upd H p (.tup [V.str (SI t, sl, bx).1, V.str (SI t, sl, bx).2.1, V.str (SI t, sl, bx).2.2]) = H1 at s1 ⊢
    obtain ⟨c0, r0, ec, c49⟩ := first_SI sm.2.1
    rcases cs with ⟨rfl, rfl⟩ | ⟨rfl, rfl⟩
    · refine ⟨_, _, rfl, _, _, rfl, _, _, rfl, rfl, _, rfl, rfl, _, rfl, ?_⟩
      rw [decide_eq_true (show V.str Str.empty = V.str ("" : Str) by decide +kernel)]
      refine iteT ?_
      rw [one_SI]
      refine ⟨_, rfl, ⟨_, rfl⟩, _, _, rfl, rfl, (by rw [sizeLine_eq]; show (SI t).length ≤ _; omega), t.natAbs, (by rw [rp_SI] <;> rfl), sm.1, fun H2 s2 => ⟨true, rfl, iteF ?_⟩⟩
      refine ⟨_, rfl, Int.natAbs (1 : Int), (by rw [← ratText_inj_pos sm.2.1] <;> rfl), sm.2.2, fun H3 s3 => ⟨true, rfl, iteF ?_⟩⟩
      refine ⟨_, rfl, _, _, c0, rfl, rfl, (by rw [sizeLine_eq]; first | omega | (show (SI b).length ≤ _; omega)), (atI_nat (j := 0) (by first | (rw [ec]; rfl) | (show (SI b).cps.toList[0]? = _; rw [ec]; rfl))), rfl, _, rfl, ?_⟩
      rw [decide_eq_false (fun z => sign_ne c49 (V.str.inj z))]
      refine iteF ?_
      refine ⟨_, rfl, _, t, rfl, int_SI sm.1, (by show (SI t).length ≤ _; omega), _, rfl, _, (1 : Int), rfl, int_SI sm.2.2, (by first | omega | (show (SI b).length ≤ _; omega)), fun x dx nx ndx ne => ?_⟩
      refine made1 (lt_mono sm.sz.1 (by decide)) (lt_mono sm.sz.2.2 (by decide)) (b_ne sm.sz) (fun H4 s4 r4 => ?_) nx ndx ne
      rw [(rt_red sm.2.1 hg).1, (rt_red sm.2.1 hg).2] at r4
      obtain ⟨dy, e4⟩ := id r4
      refine ⟨_, rfl, x, dy, _, rfl, e4, rflds_no _ _ (by decide +kernel) (by decide +kernel), x, t, (1 : Int), rfl, r4, sm.sz, _, rfl, rfl, _, rfl, ?_⟩
      rw [decide_eq_true rfl]
      refine iteF ?_
      exact ⟨_, rfl, k H4 x (((s1.trans s2).trans s3).trans s4) r4⟩
    · refine ⟨_, _, rfl, _, _, rfl, _, _, rfl, rfl, _, rfl, rfl, _, rfl, ?_⟩
      rw [decide_eq_false (show ¬ V.str ("/" : Str) = V.str ("" : Str) by decide +kernel)]
      refine iteF ?_
      refine ⟨_, rfl, ⟨_, rfl⟩, _, _, rfl, rfl, (by rw [sizeLine_eq]; show (SI t).length ≤ _; omega), t.natAbs, (by rw [rp_SI] <;> rfl), sm.1, fun H2 s2 => ⟨true, rfl, iteF ?_⟩⟩
      refine ⟨_, rfl, Int.natAbs b, (by rw [← ratText_inj_pos sm.2.1] <;> rfl), sm.2.2, fun H3 s3 => ⟨true, rfl, iteF ?_⟩⟩
      refine ⟨_, rfl, _, _, c0, rfl, rfl, (by rw [sizeLine_eq]; first | omega | (show (SI b).length ≤ _; omega)), (atI_nat (j := 0) (by first | (rw [ec]; rfl) | (show (SI b).cps.toList[0]? = _; rw [ec]; rfl))), rfl, _, rfl, ?_⟩
      rw [decide_eq_false (fun z => sign_ne c49 (V.str.inj z))]
      refine iteF ?_
      refine ⟨_, rfl, _, t, rfl, int_SI sm.1, (by show (SI t).length ≤ _; omega), _, rfl, _, b, rfl, int_SI sm.2.2, (by first | omega | (show (SI b).length ≤ _; omega)), fun x dx nx ndx ne => ?_⟩
      refine made1 (lt_mono sm.sz.1 (by decide)) (lt_mono sm.sz.2.2 (by decide)) (b_ne sm.sz) (fun H4 s4 r4 => ?_) nx ndx ne
      rw [(rt_red sm.2.1 hg).1, (rt_red sm.2.1 hg).2] at r4
      obtain ⟨dy, e4⟩ := id r4
      refine ⟨_, rfl, x, dy, _, rfl, e4, rflds_no _ _ (by decide +kernel) (by decide +kernel), x, t, b, rfl, r4, sm.sz, _, rfl, rfl, _, rfl, ?_⟩
      rw [decide_eq_true rfl]
      refine iteF ?_
      exact ⟨_, rfl, k H4 x (((s1.trans s2).trans s3).trans s4) r4⟩
end
end Pt

namespace Pt
open PySem PySem.Spec L2
open PySem.W (findIn isFn kitOne)
abbrev sLPow : Stmt := topS 23
def ExpK (x : V) : Prop := (∃ i, x = .int i) ∨ (∃ k, x = .bl k) ∨ ∃ z, x = .str z
/-- a fraction and the two integers that it was made of -/
structure Frc (C : Addr) (H : Hp) (p : Addr) (t b A B : Int) : Prop where
  r : RatAt C H p t b
  sm : Sm t b
  v : IsV t b A B
  hA : A.natAbs < 10 ^ 60
  hB : B.natAbs < 10 ^ 60
theorem Frc.same {C p : Addr} {H H' : Hp} {t b A B : Int} (h : Frc C H p t b A B) (s : Same H H') : Frc C H' p t b A B := ⟨h.r.same s, h.sm, h.v, h.hA, h.hB⟩
theorem up_ok {t b A B : Int} (v : IsV t b A B) (k : Nat) : IsV (rt (t ^ k) (b ^ k)) (rb (t ^ k) (b ^ k)) (A ^ k) (B ^ k) :=
  (isV_new (Int.pow_ne_zero v.ne)).to (Int.pow_ne_zero v.B0) (by rw [← Int.mul_pow, v.eq, Int.mul_pow])
theorem down_ok {t b A B : Int} (v : IsV t b A B) (h : A ≠ 0) (k : Nat) : IsV (rt (b ^ k) (t ^ k)) (rb (b ^ k) (t ^ k)) (B ^ k) (A ^ k) := by
  have h0 : t ≠ 0 := fun z => h ((top_zero v).mp z)
  refine (isV_new (Int.pow_ne_zero h0)).to (Int.pow_ne_zero h) ?_
  rw [← Int.mul_pow, ← Int.mul_pow]
  exact congrArg (· ^ k) (by have := v.eq; grind)
theorem Sz.rr4 {N D : Int} (h : D ≠ 0) (hN : N.natAbs < 2 ^ 4000) (hD : D.natAbs < 2 ^ 4000) : Sz 4000 (rt N D) (rb N D) :=
  ⟨Nat.lt_of_le_of_lt (rt_le h) hN, rb_pos h, Nat.lt_of_le_of_lt (rb_le h) hD⟩
theorem eqv_z : PyData.eqv (.tuple [.str "refused", .str "zero"]) (.tuple [.str "refused", .str "zero"]) = true := by decide +kernel
theorem eqv_p : PyData.eqv (.tuple [.str "refused", .str "power"]) (.tuple [.str "refused", .str "power"]) = true := by decide +kernel
def spLPow (C : Addr) : Sp := fun vs H Q _ => ∃ (p : Addr) (t b A B : Int) (x : V), vs = [.ref p, .int A, .int B, x] ∧ Frc C H p t b A B ∧ ExpK x ∧ ∀ H', Same H H' → Q (.bl true) H'
section
variable {P : Program} {w : World} {K : PySem.W.Frag} {mg : Str → Option Value} {base : Heap} {C CN fN : Addr}
structure Law4 (P : Program) (w : World) (K : PySem.W.Frag) (mg : Str → Option Value) (base : Heap) (C CN fN : Addr) : Prop where
  T : Txt K mg C CN fN
  int : ∃ f fd, FnOk P w K mg base CX0 1 f fd ["_law_value"] spIsIntW ∧ mg "_law_integer" = some (.ref f) ∧ PySem.W.keepIn K (.ref f) = true ∧ Binds K fd ["_law_value"] []
  isr : ∃ f fd, FnOk P w K mg base CX0 2 f fd ["_law_value", "_law_top", "_law_bottom"] (spIsR C) ∧ mg "_law_is_ratio" = some (.ref f) ∧ PySem.W.keepIn K (.ref f) = true ∧ Binds K fd ["_law_value", "_law_top", "_law_bottom"] []
  prod : ∃ f fd, FnOk P w K mg base CX0 1 f fd ["_law_number", "_law_many"] spMult ∧ mg "_law_product" = some (.ref f) ∧ PySem.W.keepIn K (.ref f) = true ∧ Binds K fd ["_law_number", "_law_many"] []
  pw : ∃ f fd, Meth K C "power" f ∧ FnOk P w K mg base (L2.CX P w) 5 f fd ["self", "k"] (spPower C CN) ∧ Binds K fd ["self", "k"] []
theorem scLP : FnScope ["_law_base", "_law_top", "_law_bottom", "_law_exponent", "_law_answer", "e"] ["_law_base", "_law_top", "_law_bottom", "_law_exponent"] (defScope sLPow) := ⟨rfl, rfl, rfl, by decide +kernel, rfl, by decide +kernel, by decide +kernel⟩
theorem ok_lpow {f : Addr} {fd : FuncData} (F : Fun K "_law_power" "_law_power" sLPow f fd) (O : Law4 P w K mg base C CN fN) : FnOk P w K mg base CX0 7 f fd ["_law_base", "_law_top", "_law_bottom", "_law_exponent"] (spLPow C) := by
  obtain ⟨T, ⟨fi, fdi, Gi, mi, ki, bi⟩, ⟨fr, fdr, Gr, mr, kr, br⟩, ⟨fp, fdp, Gp, mp, kp, bp⟩, ⟨fo, fdo, mo, Go, bo⟩⟩ := O
  refine F.ok scLP (fun vs H Q E h => ?_) (fun cdv AA outer s0 H vs Q E hr h => ?_)
  · obtain ⟨p, t, b, A, B, x, rfl, _⟩ := h
    rfl
  · obtain ⟨p, t, b, A, B, x, rfl, fr0, hx, k⟩ := h
    have hr1 : Room 1 _ := hr.mono (by decide)
    have hr2 : Room 2 _ := hr.mono (by decide)
    have hr5 : Room 5 _ := hr.mono (by decide)
    refine ⟨_, pss_cons (ps_set (i := 4) scLP.nd rfl (Or.inl rfl) (pe_tup (pa_cons pe_str (pa_cons pe_str pa_nil))))
      (pss_cons (ps_try_as (i := 5) (tb := fun W => tAsg (tTup (tCons (tC (.str "told")) (tCons (tMethE C "power" (spPower C CN) (WE W) (tVar 0) (tCons (tVar 3) tNil)) tNil))) (gName 4)) (ts := fun a cls d => tAsg (tTup (tCons (tC (.str "refused")) (tCons (tXf a cls d CN "word" (tVar 5)) tNil))) (gName 4)) (Wout := fun _ _ _ _ => False) rfl rfl scLP.nd rfl rfl ⟨rfl, by decide, Or.inl T.mgN⟩ takes0
          (fun W pn xe tk _ => pss_one (ps_set (i := 4) scLP.nd rfl (Or.inl rfl) (pe_tup (pa_cons pe_str (pa_cons (pe_methE (E := WE W) (pv 0) T.cl mo Go hr5 bo (fun σ => passAt tk σ) (pa_cons (pv 3) pa_nil)) pa_nil)))))
          (fun a oe cls d pn hz hf => pss_one (ps_set (i := 4) scLP.nd rfl (Or.inl rfl) (pe_tup (pa_cons pe_str (pa_cons (pe_xf T.xf T.nW hz hf (pv 5)) pa_nil))))))
      (pss_cons (ps_if (PW.pt (pw_or (pt_not (pt_val (pe_call Gi hr1 rfl mi ki bi .nil pass0 (pa_cons (pv 3) pa_nil)))) (pw_or (pt_cmpR op_lt (pv 3) (pe_un un_neg pe_int) (nomark _)) (pw_or1 (pt_cmpR op_gt (pv 3) pe_int (nomark _))))))
        (pss_one (ps_ret (pe_cmpR (op_eqD hr.units) (pv 4) (pe_tup (pa_cons pe_str (pa_cons pe_str pa_nil))) (nomark _)))) pss_nil)
      (pss_cons (ps_if (PW.pt (pw_and (pt_cmpR op_eq (pv 1) pe_int (nomark _)) (pw_and1 (pt_cmpR op_lt (pv 3) pe_int (nomark _)))))
        (pss_one (ps_ret (pe_cmpR (op_eqD hr.units) (pv 4) (pe_tup (pa_cons pe_str (pa_cons pe_str pa_nil))) (nomark _)))) pss_nil)
      (pss_cons (ps_if (pt_cmpR op_ne (pe_ix ix_tup (pv 4) pe_int (fun _ _ => rfl)) pe_str (nomark _)) (pss_one ps_never) pss_nil)
      (pss_cons (ps_if (pt_cmpR op_lt (pv 3) pe_int (nomark _))
        (pss_one (ps_ret (pe_call Gr hr2 rfl mr kr br .nil pass0 (pa_cons (pe_ix ix_tup (pv 4) pe_int (fun _ _ => rfl)) (pa_cons (pe_call Gp hr1 rfl mp kp bp .nil pass0 (pa_cons (pv 2) (pa_cons (pe_un un_neg (pv 3)) pa_nil))) (pa_cons (pe_call Gp hr1 rfl mp kp bp .nil pass0 (pa_cons (pv 1) (pa_cons (pe_un un_neg (pv 3)) pa_nil))) pa_nil)))))) pss_nil)
      (pss_one (ps_ret (pe_call Gr hr2 rfl mr kr br .nil pass0 (pa_cons (pe_ix ix_tup (pv 4) pe_int (fun _ _ => rfl)) (pa_cons (pe_call Gp hr1 rfl mp kp bp .nil pass0 (pa_cons (pv 1) (pa_cons (pv 3) pa_nil))) (pa_cons (pe_call Gp hr1 rfl mp kp bp .nil pass0 (pa_cons (pv 2) (pa_cons (pv 3) pa_nil))) pa_nil))))))))))), ?_⟩
    refine ⟨(by show 2 ≤ sizeLine; decide), fun q0 n0 => ?_⟩
    have s0 := same_up (o := .tup [.str "refused", .str ""]) n0
    generalize upd H q0 (.tup [.str "refused", .str ""]) = H0 at s0 ⊢
    have fr1 := fr0.same s0
    obtain ⟨dx, e1⟩ := id fr1.r
    have vv := fr1.v
    refine ⟨_, rfl, p, dx, _, rfl, e1, rflds_no _ _ (by decide +kernel) (by decide +kernel), _, rfl, p, x, t, b, rfl, fr1.r, fr1.sm, ?_⟩
    have tz := top_zero vv
    by_cases hod : OddK x
    · refine .inr (.inr ⟨hod, fun d H2 nd s2 ed => ?_⟩)
      refine ⟨true, T.eN, fun _ a na => ?_, fun z => by cases z⟩
      refine ⟨_, rfl, rfl, rfl, d, _, _, rfl, ed, rfl, (by show 2 ≤ sizeLine; decide), fun q nq => ?_⟩
      have s3 := same_up (o := .tup [.str "refused", .str "power"]) nq
      have tA : (upd H2 q (.tup [.str "refused", .str "power"])) q = some (.tup [.str "refused", .str "power"]) := upd_same
      have sA := (s0.trans s2).trans s3
      generalize upd H2 q (.tup [.str "refused", .str "power"]) = HA at sA tA ⊢
      have fin : ∀ q2, HA q2 = none → Q (.bl true) (upd HA q2 (.tup [.str "refused", .str "power"])) := fun q2 n2 => k _ (sA.trans (same_up n2))
      rcases hod with ⟨kk, rfl⟩ | ⟨zz, rfl⟩ | ⟨i, rfl, hi⟩
      · refine ⟨_, rfl, _, rfl, .inr ⟨.inl ⟨_, rfl⟩, false, rfl, iteT ?_⟩⟩
        refine ⟨_, rfl, (by show 2 ≤ sizeLine; decide), fun q2 n2 => ?_⟩
        refine ⟨.tuple [.str "refused", .str "power"], .tuple [.str "refused", .str "power"], .tup (SqT.of ((same_up n2) _ _ tA)) (.cons (.str _) (.cons (.str _) .nil)), .tup (SqT.of upd_same) (.cons (.str _) (.cons (.str _) .nil)), by decide +kernel, by decide +kernel, ?_⟩
        rw [eqv_p]
        exact fin q2 n2
      · refine ⟨_, rfl, _, rfl, .inr ⟨.inr ⟨_, rfl⟩, false, rfl, iteT ?_⟩⟩
        refine ⟨_, rfl, (by show 2 ≤ sizeLine; decide), fun q2 n2 => ?_⟩
        refine ⟨.tuple [.str "refused", .str "power"], .tuple [.str "refused", .str "power"], .tup (SqT.of ((same_up n2) _ _ tA)) (.cons (.str _) (.cons (.str _) .nil)), .tup (SqT.of upd_same) (.cons (.str _) (.cons (.str _) .nil)), by decide +kernel, by decide +kernel, ?_⟩
        rw [eqv_p]
        exact fin q2 n2
      · refine ⟨_, rfl, _, rfl, .inl ⟨⟨_, rfl⟩, true, rfl, iteF ?_⟩⟩
        refine ⟨_, rfl, 20, rfl, _, _, rfl, rfl, _, rfl, ?_⟩
        by_cases h1 : i < (-20 : Int)
        · rw [decide_eq_true h1]
          refine iteT ?_
          refine ⟨_, rfl, (by show 2 ≤ sizeLine; decide), fun q2 n2 => ?_⟩
          refine ⟨.tuple [.str "refused", .str "power"], .tuple [.str "refused", .str "power"], .tup (SqT.of ((same_up n2) _ _ tA)) (.cons (.str _) (.cons (.str _) .nil)), .tup (SqT.of upd_same) (.cons (.str _) (.cons (.str _) .nil)), by decide +kernel, by decide +kernel, ?_⟩
          rw [eqv_p]
          exact fin q2 n2
        · rw [decide_eq_false h1]
          refine iteF ?_
          refine ⟨_, rfl, _, _, rfl, rfl, _, rfl, ?_⟩
          rw [decide_eq_true (show (20 : Int) < i by omega)]
          refine iteT ?_
          refine ⟨_, rfl, (by show 2 ≤ sizeLine; decide), fun q2 n2 => ?_⟩
          refine ⟨.tuple [.str "refused", .str "power"], .tuple [.str "refused", .str "power"], .tup (SqT.of ((same_up n2) _ _ tA)) (.cons (.str _) (.cons (.str _) .nil)), .tup (SqT.of upd_same) (.cons (.str _) (.cons (.str _) .nil)), by decide +kernel, by decide +kernel, ?_⟩
          rw [eqv_p]
          exact fin q2 n2
    · obtain ⟨i, rfl⟩ : ∃ i, x = .int i := by
        rcases hx with h | ⟨kk, h⟩ | ⟨zz, h⟩
        · exact h
        · exact absurd (.inl ⟨kk, h⟩) hod
        · exact absurd (.inr (.inl ⟨zz, h⟩)) hod
      have lo : -20 ≤ i := by
        refine Decidable.byContradiction fun z => hod (.inr (.inr ⟨i, rfl, .inl (by omega)⟩))
      have hi : i ≤ 20 := by
        refine Decidable.byContradiction fun z => hod (.inr (.inr ⟨i, rfl, .inr (by omega)⟩))
      by_cases h0 : 0 ≤ i
      · obtain ⟨n, rfl⟩ : ∃ n : Nat, i = n := ⟨i.toNat, by omega⟩
        have hn : n ≤ 20 := by omega
        refine .inl ⟨n, hn, rfl, fun H1 q s1 r => ?_⟩
        refine ⟨(by show 2 ≤ sizeLine; decide), fun qq nq => ?_⟩
        have s3 := same_up (o := .tup [.str "told", .ref q]) nq
        have tA : (upd H1 qq (.tup [.str "told", .ref q])) qq = some (.tup [.str "told", .ref q]) := upd_same
        have sA := (s0.trans s1).trans s3
        generalize upd H1 qq (.tup [.str "told", .ref q]) = HA at sA tA s3 ⊢
        refine ⟨_, rfl, _, rfl, .inl ⟨⟨_, rfl⟩, true, rfl, iteF ?_⟩⟩
        refine ⟨_, rfl, 20, rfl, _, _, rfl, rfl, _, rfl, ?_⟩
        rw [decide_eq_false (show ¬ ((n : Int) < (-20 : Int)) by omega)]
        refine iteF ?_
        refine ⟨_, rfl, _, _, rfl, rfl, _, rfl, ?_⟩
        rw [decide_eq_false (show ¬ ((20 : Int) < (n : Int)) by omega)]
        refine iteF ?_
        refine ⟨_, rfl, rfl, _, rfl, ?_⟩
        by_cases hA0 : A = 0
        · rw [decide_eq_true (congrArg V.int hA0)]
          refine iteT ?_
          refine ⟨_, rfl, _, _, rfl, rfl, _, rfl, ?_⟩
          rw [decide_eq_false (show ¬ ((n : Int) < 0) by omega)]
          refine iteF ?_
          refine ⟨_, rfl, qq, _, 0, .str "told", rfl, rfl, SqT.of tA, rfl, rfl, _, rfl, iteF ?_⟩
          refine ⟨_, rfl, _, _, rfl, rfl, _, rfl, ?_⟩
          rw [decide_eq_false (show ¬ ((n : Int) < 0) by omega)]
          refine iteF ?_
          refine ⟨_, rfl, qq, _, 1, .ref q, rfl, rfl, SqT.of tA, rfl, _, rfl, _, rfl, A, n, rfl, lt60 fr0.hA, hn, _, rfl, _, rfl, B, n, rfl, lt60 fr0.hB, hn, ?_⟩
          exact ⟨q, _, _, _, _, rfl, r.same s3, up_ok vv n, Sz.rr4 (Int.pow_ne_zero vv.ne) (pow4000 fr1.sm.1 hn) (pow4000 fr1.sm.2.2 hn), pow4000 fr0.hA hn, pow4000 fr0.hB hn, k _ sA⟩
        · rw [decide_eq_false (fun z => hA0 (V.int.inj z))]
          refine iteF (iteF ?_)
          refine ⟨_, rfl, qq, _, 0, .str "told", rfl, rfl, SqT.of tA, rfl, rfl, _, rfl, iteF ?_⟩
          refine ⟨_, rfl, _, _, rfl, rfl, _, rfl, ?_⟩
          rw [decide_eq_false (show ¬ ((n : Int) < 0) by omega)]
          refine iteF ?_
          refine ⟨_, rfl, qq, _, 1, .ref q, rfl, rfl, SqT.of tA, rfl, _, rfl, _, rfl, A, n, rfl, lt60 fr0.hA, hn, _, rfl, _, rfl, B, n, rfl, lt60 fr0.hB, hn, ?_⟩
          exact ⟨q, _, _, _, _, rfl, r.same s3, up_ok vv n, Sz.rr4 (Int.pow_ne_zero vv.ne) (pow4000 fr1.sm.1 hn) (pow4000 fr1.sm.2.2 hn), pow4000 fr0.hA hn, pow4000 fr0.hB hn, k _ sA⟩
      · obtain ⟨m, rfl⟩ : ∃ m : Nat, i = -(m : Int) := ⟨(-i).toNat, by omega⟩
        have hm : m ≤ 20 := by omega
        refine .inr (.inl ⟨m, by omega, hm, rfl, fun t0 H1 q s1 r => ?_, fun t0 d H2 nd s2 ed => ?_⟩)
        · have hA0 : A ≠ 0 := fun z => t0 (tz.mpr z)
          refine ⟨(by show 2 ≤ sizeLine; decide), fun qq nq => ?_⟩
          have s3 := same_up (o := .tup [.str "told", .ref q]) nq
          have tA : (upd H1 qq (.tup [.str "told", .ref q])) qq = some (.tup [.str "told", .ref q]) := upd_same
          have sA := (s0.trans s1).trans s3
          generalize upd H1 qq (.tup [.str "told", .ref q]) = HA at sA tA s3 ⊢
          refine ⟨_, rfl, _, rfl, .inl ⟨⟨_, rfl⟩, true, rfl, iteF ?_⟩⟩
          refine ⟨_, rfl, 20, rfl, _, _, rfl, rfl, _, rfl, ?_⟩
          rw [decide_eq_false (show ¬ ((-(m : Int)) < (-20 : Int)) by omega)]
          refine iteF ?_
          refine ⟨_, rfl, _, _, rfl, rfl, _, rfl, ?_⟩
          rw [decide_eq_false (show ¬ ((20 : Int) < (-(m : Int))) by omega)]
          refine iteF ?_
          refine ⟨_, rfl, rfl, _, rfl, ?_⟩
          rw [decide_eq_false (fun z => hA0 (V.int.inj z))]
          refine iteF (iteF ?_)
          refine ⟨_, rfl, qq, _, 0, .str "told", rfl, rfl, SqT.of tA, rfl, rfl, _, rfl, iteF ?_⟩
          refine ⟨_, rfl, _, _, rfl, rfl, _, rfl, ?_⟩
          rw [decide_eq_true (show (-(m : Int)) < 0 by omega)]
          refine iteT ?_
          refine ⟨_, rfl, qq, _, 1, .ref q, rfl, rfl, SqT.of tA, rfl, _, rfl, _, rfl, _, rfl, B, m, (by show [V.int B, V.int (- -(m : Int))] = _; rw [Int.neg_neg]), lt60 fr0.hB, hm, _, rfl, _, rfl, _, rfl, A, m, (by show [V.int A, V.int (- -(m : Int))] = _; rw [Int.neg_neg]), lt60 fr0.hA, hm, ?_⟩
          exact ⟨q, _, _, _, _, rfl, r.same s3, down_ok vv hA0 m, Sz.rr4 (Int.pow_ne_zero t0) (pow4000 fr1.sm.2.2 hm) (pow4000 fr1.sm.1 hm), pow4000 fr0.hB hm, pow4000 fr0.hA hm, k _ sA⟩
        · have hA0 : A = 0 := tz.mp t0
          refine ⟨true, T.eN, fun _ a na => ?_, fun z => by cases z⟩
          refine ⟨_, rfl, rfl, rfl, d, _, _, rfl, ed, rfl, (by show 2 ≤ sizeLine; decide), fun q nq => ?_⟩
          have s3 := same_up (o := .tup [.str "refused", .str "zero"]) nq
          have tA : (upd H2 q (.tup [.str "refused", .str "zero"])) q = some (.tup [.str "refused", .str "zero"]) := upd_same
          have sA := (s0.trans s2).trans s3
          generalize upd H2 q (.tup [.str "refused", .str "zero"]) = HA at sA tA ⊢
          have fin : ∀ q2, HA q2 = none → Q (.bl true) (upd HA q2 (.tup [.str "refused", .str "zero"])) := fun q2 n2 => k _ (sA.trans (same_up n2))
          refine ⟨_, rfl, _, rfl, .inl ⟨⟨_, rfl⟩, true, rfl, iteF ?_⟩⟩
          refine ⟨_, rfl, 20, rfl, _, _, rfl, rfl, _, rfl, ?_⟩
          rw [decide_eq_false (show ¬ ((-(m : Int)) < (-20 : Int)) by omega)]
          refine iteF ?_
          refine ⟨_, rfl, _, _, rfl, rfl, _, rfl, ?_⟩
          rw [decide_eq_false (show ¬ ((20 : Int) < (-(m : Int))) by omega)]
          refine iteF ?_
          refine ⟨_, rfl, rfl, _, rfl, ?_⟩
          rw [decide_eq_true (congrArg V.int hA0)]
          refine iteT ?_
          refine ⟨_, rfl, _, _, rfl, rfl, _, rfl, ?_⟩
          rw [decide_eq_true (show (-(m : Int)) < 0 by omega)]
          refine iteT ?_
          refine ⟨_, rfl, (by show 2 ≤ sizeLine; decide), fun q2 n2 => ?_⟩
          refine ⟨.tuple [.str "refused", .str "zero"], .tuple [.str "refused", .str "zero"], .tup (SqT.of ((same_up n2) _ _ tA)) (.cons (.str _) (.cons (.str _) .nil)), .tup (SqT.of upd_same) (.cons (.str _) (.cons (.str _) .nil)), by decide +kernel, by decide +kernel, ?_⟩
          rw [eqv_z]
          exact fin q2 n2
end
end Pt

namespace Pt
open PySem PySem.Spec L2
open PySem.W (findIn isFn kitOne)
abbrev sSigns : Stmt := topS 24
def spSigns (C : Addr) : Sp := fun vs H Q _ => ∃ (p : Addr) (t b A B : Int), vs = [.ref p, .int A, .int B] ∧ Frc C H p t b A B ∧ ∀ H', Same H H' → Q (.bl true) H'
def spWrit : Sp := fun vs H Q _ => ∃ (t b : Int), vs = [.int t, .int b] ∧ t.natAbs < 10 ^ 60 ∧ b.natAbs < 10 ^ 60 ∧ Q (.str (ratText t b)) H
section
variable {P : Program} {w : World} {K : PySem.W.Frag} {mg : Str → Option Value} {base : Heap} {C CN fN : Addr}
theorem scWr : FnScope ["_law_top", "_law_bottom"] ["_law_top", "_law_bottom"] (defScope sWrit) := ⟨rfl, rfl, rfl, by decide +kernel, rfl, by decide +kernel, by decide +kernel⟩
theorem ok_writ {f : Addr} {fd : FuncData} (F : Fun K "_law_written" "_law_written" sWrit f fd) (gS : mg "str" = none) : FnOk P w K mg base CX0 1 f fd ["_law_top", "_law_bottom"] spWrit := by
  refine F.ok scWr (fun vs H Q E h => ?_) (fun cdv A outer s H vs Q E hr h => ?_)
  · obtain ⟨t, b, rfl, _⟩ := h
    rfl
  · obtain ⟨t, b, rfl, ht, hb, k⟩ := h
    refine ⟨_, pss_cons (ps_if (pt_cmpR op_eq (pv 1) pe_int (nomark _)) (pss_one (ps_ret (pe_callTy call_str_int (by rfl) gS (by decide +kernel) (pa_cons (pv 0) pa_nil)))) pss_nil)
      (pss_one (ps_ret (pe_op op_add_str (pe_op op_add_str (pe_callTy call_str_int (by rfl) gS (by decide +kernel) (pa_cons (pv 0) pa_nil)) pe_str) (pe_callTy call_str_int (by rfl) gS (by decide +kernel) (pa_cons (pv 1) pa_nil))))), ?_⟩
    refine ⟨_, rfl, rfl, _, rfl, ?_⟩
    unfold ratText at k
    have l1 := len_SI ht
    have l2 := len_SI hb
    have hs : (("/" : Str)).length = 1 := by decide +kernel
    by_cases h1 : b = 1
    · rw [if_pos h1] at k
      rw [h1, decide_eq_true rfl]
      refine iteT ?_
      exact ⟨_, rfl, t, rfl, log_small (lt60 ht), k⟩
    · rw [if_neg h1] at k
      rw [decide_eq_false (fun z => h1 (V.int.inj z))]
      refine iteF ?_
      refine ⟨_, rfl, t, rfl, log_small (lt60 ht), SI t, ("/" : Str), rfl, rfl, (by rw [sizeLine_eq]; omega), _, rfl, b, rfl, log_small (lt60 hb), SI t ++ ("/" : Str), SI b, rfl, rfl, ?_, k⟩
      rw [sizeLine_eq, Str.length_append]
      omega
structure Law5 (P : Program) (w : World) (K : PySem.W.Frag) (mg : Str → Option Value) (base : Heap) (C CN fN : Addr) : Prop where
  W : Law4 P w K mg base C CN fN
  pow : PowOk P w K mg base C (L2.CX P w) 6 (spPower C CN)
theorem scSg : FnScope ["_law_base", "_law_top", "_law_bottom", "_law_refused", "e"] ["_law_base", "_law_top", "_law_bottom"] (defScope sSigns) := ⟨rfl, rfl, rfl, by decide +kernel, rfl, by decide +kernel, by decide +kernel⟩
theorem pow_reads {H : Hp} {p : Addr} {t b A B : Int} {E : XK} {Q : VK} (n : Nat) (hn : n ≤ 20) (f : Frc C H p t b A B) (q : NewR C H (t ^ n) (b ^ n) Q) : rPowO C (spPower C CN) E (.ref p) (.int (n : Int)) H Q :=
  ⟨f.r.own, ⟨_, rfl⟩, p, _, t, b, rfl, f.r, f.sm, .inl ⟨n, hn, rfl, q⟩⟩
theorem isv_pow {H : Hp} {p : Addr} {t b A B A' B' : Int} (n : Nat) (hn : n ≤ 20) (f : Frc C H p t b A B) (e1 : A' = A ^ n) (e2 : B' = B ^ n) :
    IsV (rt (t ^ n) (b ^ n)) (rb (t ^ n) (b ^ n)) A' B' ∧ Sz 4000 (rt (t ^ n) (b ^ n)) (rb (t ^ n) (b ^ n)) ∧ A'.natAbs < 2 ^ 4000 ∧ B'.natAbs < 2 ^ 4000 := by
  subst e1 e2
  exact ⟨up_ok f.v n, Sz.rr4 (Int.pow_ne_zero f.v.ne) (pow4000 f.sm.1 hn) (pow4000 f.sm.2.2 hn), pow4000 f.hA hn, pow4000 f.hB hn⟩
theorem ok_signs {f : Addr} {fd : FuncData} (F : Fun K "_law_signs" "_law_signs" sSigns f fd) (O : Law5 P w K mg base C CN fN) : FnOk P w K mg base CX0 7 f fd ["_law_base", "_law_top", "_law_bottom"] (spSigns C) := by
  obtain ⟨⟨T, _, ⟨fr, fdr, Gr, mr, kr, br⟩, ⟨fp, fdp, Gp, mp, kp, bp⟩, _⟩, BP⟩ := O
  refine F.ok scSg (fun vs H Q E h => ?_) (fun cdv AA outer s0 H vs Q E hr h => ?_)
  · obtain ⟨p, t, b, A, B, rfl, _⟩ := h
    rfl
  · obtain ⟨p, t, b, A, B, rfl, fr0, k⟩ := h
    have hr1 : Room 1 _ := hr.mono (by decide)
    have hr2 : Room 2 _ := hr.mono (by decide)
    refine ⟨_, pss_cons (ps_set (i := 3) scSg.nd rfl (Or.inl rfl) pe_str)
      (pss_cons (ps_try_as (i := 4) (tb := fun W => tAsg (fun σ H Q => (tVar 0) σ H fun x H1 => (tC (.int 21)) σ H1 fun y H2 => rPowO C (spPower C CN) (WE W σ) x y H2 Q) (gName 0)) (ts := fun a cls d => tAsg (tXf a cls d CN "word" (tVar 4)) (gName 3)) (Wout := fun _ _ _ _ => False) rfl rfl scSg.nd rfl rfl ⟨rfl, by decide, Or.inl T.mgN⟩ takes0
          (fun W pn xe tk _ => pss_one (ps_set (i := 0) scSg.nd rfl (Or.inl rfl) (pe_pow (E := WE W) BP hr (fun σ => passAt tk σ) (pv 0) pe_int)))
          (fun a oe cls d pn hz hf => pss_one (ps_set (i := 3) scSg.nd rfl (Or.inl rfl) (pe_xf T.xf T.nW hz hf (pv 4)))))
      (pss_cons (ps_if (PW.pt (pw_or (pt_cmpR op_ne (pv 3) pe_str (nomark _))
          (pw_or (pt_not (pt_val (pe_call Gr hr2 rfl mr kr br .nil pass0 (pa_cons (pe_pow (E := fun _ => E0) BP hr passL0 (pv 0) pe_int) (pa_cons pe_int (pa_cons pe_int pa_nil))))))
          (pw_or1 (pt_not (pt_val (pe_call Gr hr2 rfl mr kr br .nil pass0 (pa_cons (pe_pow (E := fun _ => E0) BP hr passL0 (pv 0) pe_int) (pa_cons (pv 1) (pa_cons (pv 2) pa_nil)))))))))) (pss_one ps_never) pss_nil)
      (pss_cons (ps_if (pt_not (pt_val (pe_call Gr hr2 rfl mr kr br .nil pass0 (pa_cons (pe_pow (E := fun _ => E0) BP hr passL0 (pv 0) pe_int) (pa_cons (pe_op op_mulW (pv 1) (pv 1)) (pa_cons (pe_op op_mulW (pv 2) (pv 2)) pa_nil)))))) (pss_one ps_never) pss_nil)
      (pss_one (ps_ret (pe_call Gr hr2 rfl mr kr br .nil pass0 (pa_cons (pe_pow (E := fun _ => E0) BP hr passL0 (pv 0) pe_int) (pa_cons (pe_call Gp hr1 rfl mp kp bp .nil pass0 (pa_cons (pv 1) (pa_cons pe_int pa_nil))) (pa_cons (pe_call Gp hr1 rfl mp kp bp .nil pass0 (pa_cons (pv 2) (pa_cons pe_int pa_nil))) pa_nil))))))))), ?_⟩
    refine ⟨_, rfl, fr0.r.own, ⟨21, rfl⟩, p, _, t, b, rfl, fr0.r, fr0.sm, .inr (.inr ⟨.inr (.inr ⟨21, rfl, .inr (by decide)⟩), fun d H2 nd s2 ed => ?_⟩)⟩
    refine ⟨true, T.eN, fun _ a na => ?_, fun z => by cases z⟩
    refine ⟨_, rfl, rfl, rfl, d, _, _, rfl, ed, rfl, ?_⟩
    have f2 := fr0.same s2
    refine ⟨_, rfl, rfl, _, rfl, iteF ?_⟩
    obtain ⟨v3, z3, a3, b3⟩ := isv_pow (A' := 1) (B' := 1) 0 (by decide) f2 (by rw [Int.pow_zero]) (by rw [Int.pow_zero])
    refine ⟨_, rfl, pow_reads 0 (by decide) f2 fun H3 q3 s3 r3 => ?_⟩
    have f3 := f2.same s3
    refine ⟨q3, _, _, 1, 1, rfl, r3, v3, z3, a3, b3, true, rfl, iteF ?_⟩
    obtain ⟨v4, z4, a4, b4⟩ := isv_pow (A' := A) (B' := B) 1 (by decide) f3 (by rw [Int.pow_succ, Int.pow_zero, Int.one_mul]) (by rw [Int.pow_succ, Int.pow_zero, Int.one_mul])
    refine ⟨_, rfl, pow_reads 1 (by decide) f3 fun H4 q4 s4 r4 => ?_⟩
    have f4 := f3.same s4
    refine ⟨_, rfl, _, rfl, q4, _, _, A, B, rfl, r4, v4, z4, a4, b4, true, rfl, iteF ?_⟩
    obtain ⟨v5, z5, a5, b5⟩ := isv_pow (A' := A * A) (B' := B * B) 2 (by decide) f4 (by rw [Int.pow_succ, Int.pow_succ, Int.pow_zero, Int.one_mul]) (by rw [Int.pow_succ, Int.pow_succ, Int.pow_zero, Int.one_mul])
    refine ⟨_, rfl, pow_reads 2 (by decide) f4 fun H5 q5 s5 r5 => ?_⟩
    have f5 := f4.same s5
    refine ⟨_, rfl, _, rfl, A, A, rfl, rfl, mulOk (lt60 fr0.hA) (lt60 fr0.hA), _, rfl, _, rfl, B, B, rfl, rfl, mulOk (lt60 fr0.hB) (lt60 fr0.hB), q5, _, _, _, _, rfl, r5, v5, z5, a5, b5, true, rfl, iteF ?_⟩
    obtain ⟨v6, z6, a6, b6⟩ := isv_pow (A' := A ^ 20) (B' := B ^ 20) 20 (by decide) f5 rfl rfl
    refine ⟨_, rfl, pow_reads 20 (by decide) f5 fun H6 q6 s6 r6 => ?_⟩
    refine ⟨_, rfl, A, 20, rfl, lt60 fr0.hA, by decide, _, rfl, B, 20, rfl, lt60 fr0.hB, by decide, ?_⟩
    exact ⟨q6, _, _, _, _, rfl, r6, v6, z6, a6, b6, k _ ((((s2.trans s3).trans s4).trans s5).trans s6)⟩
end
end Pt

namespace Pt
open PySem PySem.Spec L2
open PySem.W (findIn isFn kitOne)
abbrev sLaw : Stmt := topS 26
def spLaw (K : PySem.W.Frag) : Sp := fun vs H Q _ => ∃ (a : Addr) (ns : List Int), vs = [.ref a] ∧ SqL K H a (ns.map V.int) ∧ ns.length ≤ 63 ∧ ∀ H', Q (.bl true) H'
structure Laws (P : Program) (w : World) (K : PySem.W.Frag) (mg : Str → Option Value) (base : Heap) (C CN fN : Addr) : Prop where
  O2 : Core2 P w K mg base C CN fN
  gS : mg "str" = none
  isr : ∃ f fd, FnOk P w K mg base CX0 2 f fd ["_law_value", "_law_top", "_law_bottom"] (spIsR C) ∧ mg "_law_is_ratio" = some (.ref f) ∧ PySem.W.keepIn K (.ref f) = true ∧ Binds K fd ["_law_value", "_law_top", "_law_bottom"] []
  start : ∃ f fd, FnOk P w K mg base CX0 1 f fd ["_law_script"] (spStart K) ∧ mg "_law_start" = some (.ref f) ∧ PySem.W.keepIn K (.ref f) = true ∧ Binds K fd ["_law_script"] []
  draw : ∃ f fd, FnOk P w K mg base CX0 1 f fd ["_law_state", "_law_many"] spDraw ∧ mg "_law_draw" = some (.ref f) ∧ PySem.W.keepIn K (.ref f) = true ∧ Binds K fd ["_law_state", "_law_many"] []
  far : ∃ f fd, FnOk P w K mg base CX0 2 f fd ["_law_state", "_law_bound"] spFar ∧ mg "_law_far" = some (.ref f) ∧ PySem.W.keepIn K (.ref f) = true ∧ Binds K fd ["_law_state", "_law_bound"] []
  div : ∃ f fd, FnOk P w K mg base CX0 1 f fd ["_law_one", "_law_other"] spGcd ∧ mg "_law_divisor" = some (.ref f) ∧ PySem.W.keepIn K (.ref f) = true ∧ Binds K fd ["_law_one", "_law_other"] []
  lpow : ∃ f fd, FnOk P w K mg base CX0 7 f fd ["_law_base", "_law_top", "_law_bottom", "_law_exponent"] (spLPow C) ∧ mg "_law_power" = some (.ref f) ∧ PySem.W.keepIn K (.ref f) = true ∧ Binds K fd ["_law_base", "_law_top", "_law_bottom", "_law_exponent"] []
  signs : ∃ f fd, FnOk P w K mg base CX0 7 f fd ["_law_base", "_law_top", "_law_bottom"] (spSigns C) ∧ mg "_law_signs" = some (.ref f) ∧ PySem.W.keepIn K (.ref f) = true ∧ Binds K fd ["_law_base", "_law_top", "_law_bottom"] []
  writ : ∃ f fd, FnOk P w K mg base CX0 1 f fd ["_law_top", "_law_bottom"] spWrit ∧ mg "_law_written" = some (.ref f) ∧ PySem.W.keepIn K (.ref f) = true ∧ Binds K fd ["_law_top", "_law_bottom"] []
  text : ∃ f fd, Meth K C "text" f ∧ FnOk P w K mg base CX0 1 f fd ["self"] (spText C) ∧ Binds K fd ["self"] []
  read : ∃ (mc : Value) (p f : Addr) (fd : FuncData), SMet K C mc "read" p f ∧ FnOk P w K mg base CX0 5 f fd ["text"] (spRead C) ∧ Binds K fd ["text"] []
section
variable {P : Program} {w : World} {K : PySem.W.Frag} {mg : Str → Option Value} {base : Heap} {C CN fN : Addr}
theorem rt_gcd {n d : Int} (h : 1 ≤ d) : n.fdiv ((Int.gcd n d : Nat) : Int) = rt n d ∧ d.fdiv ((Int.gcd n d : Nat) : Int) = rb n d := by
  have e : rg n d = (Int.gcd n d : Int) := by unfold rg; rw [if_neg (by omega)]
  unfold rt rb
  rw [e]
  exact ⟨rfl, rfl⟩
theorem gcd_div {n d : Int} (h : 1 ≤ d) (k : d.natAbs < 10 ^ 60) : (((Int.gcd n d : Nat) : Int)) ≠ 0 ∧ (((Int.gcd n d : Nat) : Int)).natAbs < 2 ^ 200 := by
  have h0 : d ≠ 0 := by omega
  have e : rg n d = (Int.gcd n d : Int) := by unfold rg; rw [if_neg (by omega)]
  have h1 := gcd_pos (n := n) h0
  have h2 := rg_le (n := n) h0
  rw [e] at h2
  exact ⟨by omega, Nat.lt_of_le_of_lt h2 (lt60 k)⟩
theorem scLaw : FnScope ["_law_script", "_law_state", "_law_exponent", "_law_odd", "_law_top", "_law_bottom", "_law_base", "_law_divisor_here", "_law_text"] ["_law_script"] (defScope sLaw) := ⟨rfl, rfl, rfl, by decide +kernel, rfl, by decide +kernel, by decide +kernel⟩
theorem ok_law {f : Addr} {fd : FuncData} (F : Fun K "law" "law" sLaw f fd) (W : Laws P w K mg base C CN fN) : FnOk P w K mg base CX0 9 f fd ["_law_script"] (spLaw K) := by
  obtain ⟨⟨O, fi, fdi, Gi, M, bi2, _⟩, gS, ⟨fr, fdr, Gr, mr, kr, br⟩, ⟨f1, fd1, G1, m1, k1, b1⟩, ⟨f2, fd2, G2, m2, k2, b2⟩, ⟨ff, fdf, Gf, mf, kf, bf⟩, ⟨fg, fdg, Gg, mgg, kg, bg⟩, ⟨f3, fd3, G3, m3, k3, b3⟩, ⟨f4, fd4, G4, m4, k4, b4⟩, ⟨f5, fd5, G5, m5, k5, b5⟩, ⟨ft, fdt, mt, Gt, bt⟩, ⟨mc, ps, fs, fds, SM, Gs, bs⟩⟩ := W
  have T := O.T
  refine F.ok scLaw (fun vs H Q E h => ?_) (fun cdv AA outer s0 H vs Q E hr h => ?_)
  · obtain ⟨a, ns, rfl, _⟩ := h
    rfl
  · obtain ⟨a, ns, rfl, hS, hl, k⟩ := h
    have hr1 : Room 1 _ := hr.mono (by decide)
    have hr2 : Room 2 _ := hr.mono (by decide)
    have hr4 : Room 4 _ := hr.mono (by decide)
    have hr5 : Room 5 _ := hr.mono (by decide)
    have hr7 : Room 7 _ := hr.mono (by decide)
    refine ⟨_, pss_cons (ps_set (i := 1) scLaw.nd rfl (Or.inl rfl) (pe_call G1 hr1 rfl m1 k1 b1 .nil pass0 (pa_cons (pv 0) pa_nil)))
      (pss_cons (ps_set (i := 2) scLaw.nd rfl (Or.inl rfl) (pe_op op_sub (pe_call G2 hr1 rfl m2 k2 b2 .nil pass0 (pa_cons (pv 1) (pa_cons pe_int pa_nil))) pe_int))
      (pss_cons (ps_set (i := 3) scLaw.nd rfl (Or.inl rfl) (pe_call G2 hr1 rfl m2 k2 b2 .nil pass0 (pa_cons (pv 1) (pa_cons pe_int pa_nil))))
      (pss_cons (ps_if (pt_cmpR op_eq (pv 3) pe_int (nomark _)) (pss_one (ps_set (i := 2) scLaw.nd rfl (Or.inl rfl) pe_bl)) pss_nil)
      (pss_cons (ps_if (pt_cmpR op_eq (pv 3) pe_int (nomark _)) (pss_one (ps_set (i := 2) scLaw.nd rfl (Or.inl rfl) pe_str)) pss_nil)
      (pss_cons (ps_set (i := 4) scLaw.nd rfl (Or.inl rfl) (pe_call Gf hr2 rfl mf kf bf .nil pass0 (pa_cons (pv 1) (pa_cons (pe_op op_sub (pe_op op_pow pe_int pe_int) pe_int) pa_nil))))
      (pss_cons (ps_set (i := 5) scLaw.nd rfl (Or.inl rfl) (pe_op op_add pe_int (pe_callB call_abs (by rfl) T.gAbs PyProof.Rows.boot_abs (pa_cons (pe_call Gf hr2 rfl mf kf bf .nil pass0 (pa_cons (pv 1) (pa_cons (pe_op op_sub (pe_op op_pow pe_int pe_int) pe_int) pa_nil))) pa_nil))))
      (pss_cons (ps_if (pt_cmpR op_eq (pe_call G2 hr1 rfl m2 k2 b2 .nil pass0 (pa_cons (pv 1) (pa_cons pe_int pa_nil))) pe_int (nomark _))
        (pss_cons (ps_set (i := 4) scLaw.nd rfl (Or.inl rfl) (pe_op op_sub (pe_call G2 hr1 rfl m2 k2 b2 .nil pass0 (pa_cons (pv 1) (pa_cons pe_int pa_nil))) pe_int))
        (pss_one (ps_set (i := 5) scLaw.nd rfl (Or.inl rfl) (pe_op op_add pe_int (pe_call G2 hr1 rfl m2 k2 b2 .nil pass0 (pa_cons (pv 1) (pa_cons pe_int pa_nil))))))) pss_nil)
      (pss_cons (ps_set (i := 6) scLaw.nd rfl (Or.inl rfl) (pe_make M Gi hr4 rfl T.mgC bi2 .nil passL (pa_cons (pv 4) (pa_cons (pv 5) pa_nil))))
      (pss_cons (ps_set (i := 7) scLaw.nd rfl (Or.inl rfl) (pe_call Gg hr1 rfl mgg kg bg .nil pass0 (pa_cons (pv 4) (pa_cons (pv 5) pa_nil))))
      (pss_cons (ps_set (i := 8) scLaw.nd rfl (Or.inl rfl) (pe_meth0 (pv 6) T.cl mt Gt hr1 bt .nil pass0))
      (pss_cons (ps_if (PW.pt (pw_or (pt_not (pt_val (pe_callB call_isi (by rfl) T.gIsi PyProof.Rows.boot_isinstance (pa_cons (pv 8) (pa_cons (pe_bltn (v := .ty "str") (by rfl) gS PyProof.Rows.boot_str rfl) pa_nil)))))
          (pw_or1 (pt_cmpR op_ne (pv 8) (pe_call G5 hr1 rfl m5 k5 b5 .nil pass0 (pa_cons (pe_op op_fdivZ (pv 4) (pv 7)) (pa_cons (pe_op op_fdivZ (pv 5) (pv 7)) pa_nil))) (nomark _))))) (pss_one ps_never) pss_nil)
      (pss_cons (ps_if (pt_not (pt_val (pe_call Gr hr2 rfl mr kr br .nil pass0 (pa_cons (pe_smeth (E := fun _ => E0) (pe_glob rfl T.mgC (v := .ref C) rfl) SM Gs hr5 bs passA0 (pa_cons (pv 8) pa_nil)) (pa_cons (pv 4) (pa_cons (pv 5) pa_nil)))))) (pss_one ps_never) pss_nil)
      (pss_cons (ps_if (PW.pt (pw_or (pt_not (pt_val (pe_call G3 hr7 rfl m3 k3 b3 .nil pass0 (pa_cons (pv 6) (pa_cons (pv 4) (pa_cons (pv 5) (pa_cons (pv 2) pa_nil)))))))
          (pw_or1 (pt_not (pt_val (pe_call G4 hr7 rfl m4 k4 b4 .nil pass0 (pa_cons (pv 6) (pa_cons (pv 4) (pa_cons (pv 5) pa_nil))))))))) (pss_one ps_never) pss_nil)
      (pss_one (ps_ret (pe_and (pe_call Gr hr2 rfl mr kr br .nil pass0 (pa_cons (pv 6) (pa_cons (pv 4) (pa_cons (pv 5) pa_nil)))) (pe_one (pe_cmpR op_eq (pe_meth0 (pv 6) T.cl mt Gt hr1 bt .nil pass0) (pv 8) (nomark _))))))))))))))))))), ?_⟩
    refine ⟨_, rfl, a, ns, rfl, hS, hl, fun H1 s l s1 M1 => ?_⟩
    refine ⟨_, rfl, s, l, 45, rfl, M1, by decide, by decide, fun H2 d2 kp2 M2 _ _ => ⟨_, _, rfl, rfl, ?_⟩⟩
    refine ⟨_, rfl, s, l, 12, rfl, M2, by decide, by decide, fun H3 d3 kp3 M3 _ _ => ?_⟩
    refine ⟨_, rfl, rfl, _, rfl, ?_⟩
    by_cases h1 : d3 = 0
    · rw [decide_eq_true (congrArg V.int h1)]
      refine iteT ?_
      refine ⟨_, rfl, rfl, _, rfl, ?_⟩
      rw [decide_eq_false (fun z => by have := V.int.inj z; omega)]
      refine iteF ?_
      have hx : ExpK (V.bl true) := .inr (.inl ⟨_, rfl⟩)
      refine ⟨_, rfl, 10, 60, rfl, rfl, ⟨by decide, by decide, by decide⟩, _, _, rfl, rfl, s, l, 10 ^ 60 - 1, rfl, M3, by decide, fun H4 rT kp4 M4 hrT => ?_⟩
      refine ⟨_, rfl, 10, 60, rfl, rfl, ⟨by decide, by decide, by decide⟩, _, _, rfl, rfl, s, l, 10 ^ 60 - 2, rfl, M4, by decide, fun H5 rB kp5 M5 hrB => ⟨rB, rfl, _, _, rfl, rfl, ?_⟩⟩
      have nT : ((10 ^ 60 - 1 : Int)).natAbs = 10 ^ 60 - 1 := by decide +kernel
      have nB : ((10 ^ 60 - 2 : Int)).natAbs = 10 ^ 60 - 2 := by decide +kernel
      have big : (10 : Nat) ≤ 10 ^ 60 := by decide +kernel
      rw [nT] at hrT
      rw [nB] at hrB
      refine ⟨_, rfl, s, l, 3, rfl, M5, by decide, by decide, fun H6 d6 kp6 M6 _ _ => ⟨rfl, _, rfl, ite2 (fun _ => ?_) (fun _ => ?_)⟩⟩
      · refine ⟨_, rfl, s, l, 5, rfl, M6, by decide, by decide, fun H7 d7 kp7 M7 u7 v7 => ⟨_, _, rfl, rfl, ?_⟩⟩
        refine ⟨_, rfl, s, l, 3, rfl, M7, by decide, by decide, fun H7b d8 kp8 M8 u8 v8 => ⟨_, _, rfl, rfl, ?_⟩⟩
        have hT : (d7 - 2).natAbs < 10 ^ 60 := by omega
        have hB1 : 1 ≤ 1 + d8 := by omega
        have hB2 : (1 + d8).natAbs < 10 ^ 60 := by omega
        dsimp only
        generalize d7 - 2 = dT at hT ⊢
        generalize 1 + d8 = dB at hB1 hB2 ⊢
        refine ⟨_, rfl, _, rfl, fun q dx nx ndx ne => ?_⟩
        have h0 : dB ≠ 0 := by omega
        refine made1 (lt_mono (lt60 hT) (by decide)) (lt_mono (lt60 hB2) (by decide)) h0 (fun H8 s8 r8 => ?_) nx ndx ne
        have v : IsV (rt dT dB) (rb dT dB) dT dB := isV_new h0
        have hg : Int.gcd (rt dT dB) (rb dT dB) = 1 := r_gcd h0
        have sm : Sm (rt dT dB) (rb dT dB) := ⟨Nat.lt_of_le_of_lt (rt_le h0) hT, rb_pos h0, Nat.lt_of_le_of_lt (rb_le h0) hB2⟩
        obtain ⟨g1, g2⟩ := rt_gcd (n := dT) hB1
        obtain ⟨j1, j2⟩ := gcd_div (n := dT) hB1 hB2
        have sz4 : Sz 4000 (rt dT dB) (rb dT dB) := sm.sz.mono (by decide)
        have aT := lt_mono (lt60 hT) (show 200 ≤ 4000 by decide)
        have aB := lt_mono (lt60 hB2) (show 200 ≤ 4000 by decide)
        refine ⟨_, rfl, _, rfl, dT, dB, rfl, ?_⟩
        generalize ((Int.gcd dT dB : Nat) : Int) = gg at g1 g2 j1 j2 ⊢
        generalize rt dT dB = t at r8 v hg sm g1 sz4
        generalize rb dT dB = b at r8 v hg sm g2 sz4
        have f8 : Frc C H8 q t b dT dB := ⟨r8, sm, v, hT, hB2⟩
        obtain ⟨dy, e8⟩ := id r8
        refine ⟨_, rfl, q, dy, _, rfl, e8, rflds_no _ _ (by decide +kernel) (by decide +kernel), q, t, b, rfl, r8, sm.sz, ?_⟩
        refine ⟨_, rfl, _, _, _, _, true, rfl, .ty _, .base (.str _), kit_ty (by decide +kernel), true, rfl, iteF ?_⟩
        refine ⟨_, rfl, _, rfl, _, rfl, dT, gg, rfl, rfl, divOk (x := dT) j1 j2, _, rfl, _, rfl, dB, gg, rfl, rfl, divOk (x := dB) j1 j2, dT.fdiv gg, dB.fdiv gg, rfl, by rw [g1]; exact sm.1, by rw [g2]; exact sm.2.2, rfl, _, rfl, ?_⟩
        rw [g1, g2, decide_eq_true rfl]
        refine iteF ?_
        refine ⟨rfl, _, rfl, t, b, rfl, sm, hg, fun H9 p9 s9 r9 => ?_⟩
        refine ⟨_, rfl, _, rfl, p9, t, b, dT, dB, rfl, r9, v, sz4, aT, aB, true, rfl, iteF ?_⟩
        have f9 := f8.same s9
        refine ⟨_, rfl, _, rfl, _, rfl, _, rfl, q, t, b, dT, dB, _, rfl, f9, hx, fun H10 s10 => ⟨true, rfl, iteF ?_⟩⟩
        have f10 := f9.same s10
        refine ⟨_, rfl, _, rfl, _, rfl, q, t, b, dT, dB, rfl, f10, fun H11 s11 => ⟨true, rfl, iteF ?_⟩⟩
        have f11 := f10.same s11
        obtain ⟨dz, e11⟩ := id f11.r
        refine ⟨_, rfl, _, rfl, _, rfl, q, t, b, dT, dB, rfl, f11.r, v, sz4, aT, aB, true, rfl, iteT ?_⟩
        refine ⟨_, rfl, q, dz, _, rfl, e11, rflds_no _ _ (by decide +kernel) (by decide +kernel), q, t, b, rfl, f11.r, sm.sz, _, rfl, rfl, ?_⟩
        rw [decide_eq_true rfl]
        exact k _
      · have hT : rT.natAbs < 10 ^ 60 := by omega
        have hB1 : 1 ≤ 1 + (if rB < 0 then -rB else rB) := by split <;> omega
        have hB2 : (1 + (if rB < 0 then -rB else rB)).natAbs < 10 ^ 60 := by split <;> omega
        dsimp only
        generalize 1 + (if rB < 0 then -rB else rB) = dB at hB1 hB2 ⊢
        generalize rT = dT at hT ⊢
        refine ⟨_, rfl, _, rfl, fun q dx nx ndx ne => ?_⟩
        have h0 : dB ≠ 0 := by omega
        refine made1 (lt_mono (lt60 hT) (by decide)) (lt_mono (lt60 hB2) (by decide)) h0 (fun H8 s8 r8 => ?_) nx ndx ne
        have v : IsV (rt dT dB) (rb dT dB) dT dB := isV_new h0
        have hg : Int.gcd (rt dT dB) (rb dT dB) = 1 := r_gcd h0
        have sm : Sm (rt dT dB) (rb dT dB) := ⟨Nat.lt_of_le_of_lt (rt_le h0) hT, rb_pos h0, Nat.lt_of_le_of_lt (rb_le h0) hB2⟩
        obtain ⟨g1, g2⟩ := rt_gcd (n := dT) hB1
        obtain ⟨j1, j2⟩ := gcd_div (n := dT) hB1 hB2
        have sz4 : Sz 4000 (rt dT dB) (rb dT dB) := sm.sz.mono (by decide)
        have aT := lt_mono (lt60 hT) (show 200 ≤ 4000 by decide)
        have aB := lt_mono (lt60 hB2) (show 200 ≤ 4000 by decide)
        refine ⟨_, rfl, _, rfl, dT, dB, rfl, ?_⟩
        generalize ((Int.gcd dT dB : Nat) : Int) = gg at g1 g2 j1 j2 ⊢
        generalize rt dT dB = t at r8 v hg sm g1 sz4
        generalize rb dT dB = b at r8 v hg sm g2 sz4
        have f8 : Frc C H8 q t b dT dB := ⟨r8, sm, v, hT, hB2⟩
        obtain ⟨dy, e8⟩ := id r8
        refine ⟨_, rfl, q, dy, _, rfl, e8, rflds_no _ _ (by decide +kernel) (by decide +kernel), q, t, b, rfl, r8, sm.sz, ?_⟩
        refine ⟨_, rfl, _, _, _, _, true, rfl, .ty _, .base (.str _), kit_ty (by decide +kernel), true, rfl, iteF ?_⟩
        refine ⟨_, rfl, _, rfl, _, rfl, dT, gg, rfl, rfl, divOk (x := dT) j1 j2, _, rfl, _, rfl, dB, gg, rfl, rfl, divOk (x := dB) j1 j2, dT.fdiv gg, dB.fdiv gg, rfl, by rw [g1]; exact sm.1, by rw [g2]; exact sm.2.2, rfl, _, rfl, ?_⟩
        rw [g1, g2, decide_eq_true rfl]
        refine iteF ?_
        refine ⟨rfl, _, rfl, t, b, rfl, sm, hg, fun H9 p9 s9 r9 => ?_⟩
        refine ⟨_, rfl, _, rfl, p9, t, b, dT, dB, rfl, r9, v, sz4, aT, aB, true, rfl, iteF ?_⟩
        have f9 := f8.same s9
        refine ⟨_, rfl, _, rfl, _, rfl, _, rfl, q, t, b, dT, dB, _, rfl, f9, hx, fun H10 s10 => ⟨true, rfl, iteF ?_⟩⟩
        have f10 := f9.same s10
        refine ⟨_, rfl, _, rfl, _, rfl, q, t, b, dT, dB, rfl, f10, fun H11 s11 => ⟨true, rfl, iteF ?_⟩⟩
        have f11 := f10.same s11
        obtain ⟨dz, e11⟩ := id f11.r
        refine ⟨_, rfl, _, rfl, _, rfl, q, t, b, dT, dB, rfl, f11.r, v, sz4, aT, aB, true, rfl, iteT ?_⟩
        refine ⟨_, rfl, q, dz, _, rfl, e11, rflds_no _ _ (by decide +kernel) (by decide +kernel), q, t, b, rfl, f11.r, sm.sz, _, rfl, rfl, ?_⟩
        rw [decide_eq_true rfl]
        exact k _
    · rw [decide_eq_false (fun z => h1 (V.int.inj z))]
      refine iteF ?_
      refine ⟨_, rfl, rfl, _, rfl, ?_⟩
      by_cases h2 : d3 = 1
      · rw [decide_eq_true (congrArg V.int h2)]
        refine iteT ?_
        have hx : ExpK (V.str ("2" : Str)) := .inr (.inr ⟨_, rfl⟩)
        refine ⟨_, rfl, 10, 60, rfl, rfl, ⟨by decide, by decide, by decide⟩, _, _, rfl, rfl, s, l, 10 ^ 60 - 1, rfl, M3, by decide, fun H4 rT kp4 M4 hrT => ?_⟩
        refine ⟨_, rfl, 10, 60, rfl, rfl, ⟨by decide, by decide, by decide⟩, _, _, rfl, rfl, s, l, 10 ^ 60 - 2, rfl, M4, by decide, fun H5 rB kp5 M5 hrB => ⟨rB, rfl, _, _, rfl, rfl, ?_⟩⟩
        have nT : ((10 ^ 60 - 1 : Int)).natAbs = 10 ^ 60 - 1 := by decide +kernel
        have nB : ((10 ^ 60 - 2 : Int)).natAbs = 10 ^ 60 - 2 := by decide +kernel
        have big : (10 : Nat) ≤ 10 ^ 60 := by decide +kernel
        rw [nT] at hrT
        rw [nB] at hrB
        refine ⟨_, rfl, s, l, 3, rfl, M5, by decide, by decide, fun H6 d6 kp6 M6 _ _ => ⟨rfl, _, rfl, ite2 (fun _ => ?_) (fun _ => ?_)⟩⟩
        · refine ⟨_, rfl, s, l, 5, rfl, M6, by decide, by decide, fun H7 d7 kp7 M7 u7 v7 => ⟨_, _, rfl, rfl, ?_⟩⟩
          refine ⟨_, rfl, s, l, 3, rfl, M7, by decide, by decide, fun H7b d8 kp8 M8 u8 v8 => ⟨_, _, rfl, rfl, ?_⟩⟩
          have hT : (d7 - 2).natAbs < 10 ^ 60 := by omega
          have hB1 : 1 ≤ 1 + d8 := by omega
          have hB2 : (1 + d8).natAbs < 10 ^ 60 := by omega
          dsimp only
          generalize d7 - 2 = dT at hT ⊢
          generalize 1 + d8 = dB at hB1 hB2 ⊢
          refine ⟨_, rfl, _, rfl, fun q dx nx ndx ne => ?_⟩
          have h0 : dB ≠ 0 := by omega
          refine made1 (lt_mono (lt60 hT) (by decide)) (lt_mono (lt60 hB2) (by decide)) h0 (fun H8 s8 r8 => ?_) nx ndx ne
          have v : IsV (rt dT dB) (rb dT dB) dT dB := isV_new h0
          have hg : Int.gcd (rt dT dB) (rb dT dB) = 1 := r_gcd h0
          have sm : Sm (rt dT dB) (rb dT dB) := ⟨Nat.lt_of_le_of_lt (rt_le h0) hT, rb_pos h0, Nat.lt_of_le_of_lt (rb_le h0) hB2⟩
          obtain ⟨g1, g2⟩ := rt_gcd (n := dT) hB1
          obtain ⟨j1, j2⟩ := gcd_div (n := dT) hB1 hB2
          have sz4 : Sz 4000 (rt dT dB) (rb dT dB) := sm.sz.mono (by decide)
          have aT := lt_mono (lt60 hT) (show 200 ≤ 4000 by decide)
          have aB := lt_mono (lt60 hB2) (show 200 ≤ 4000 by decide)
          refine ⟨_, rfl, _, rfl, dT, dB, rfl, ?_⟩
          generalize ((Int.gcd dT dB : Nat) : Int) = gg at g1 g2 j1 j2 ⊢
          generalize rt dT dB = t at r8 v hg sm g1 sz4
          generalize rb dT dB = b at r8 v hg sm g2 sz4
          have f8 : Frc C H8 q t b dT dB := ⟨r8, sm, v, hT, hB2⟩
          obtain ⟨dy, e8⟩ := id r8
          refine ⟨_, rfl, q, dy, _, rfl, e8, rflds_no _ _ (by decide +kernel) (by decide +kernel), q, t, b, rfl, r8, sm.sz, ?_⟩
          refine ⟨_, rfl, _, _, _, _, true, rfl, .ty _, .base (.str _), kit_ty (by decide +kernel), true, rfl, iteF ?_⟩
          refine ⟨_, rfl, _, rfl, _, rfl, dT, gg, rfl, rfl, divOk (x := dT) j1 j2, _, rfl, _, rfl, dB, gg, rfl, rfl, divOk (x := dB) j1 j2, dT.fdiv gg, dB.fdiv gg, rfl, by rw [g1]; exact sm.1, by rw [g2]; exact sm.2.2, rfl, _, rfl, ?_⟩
          rw [g1, g2, decide_eq_true rfl]
          refine iteF ?_
          refine ⟨rfl, _, rfl, t, b, rfl, sm, hg, fun H9 p9 s9 r9 => ?_⟩
          refine ⟨_, rfl, _, rfl, p9, t, b, dT, dB, rfl, r9, v, sz4, aT, aB, true, rfl, iteF ?_⟩
          have f9 := f8.same s9
          refine ⟨_, rfl, _, rfl, _, rfl, _, rfl, q, t, b, dT, dB, _, rfl, f9, hx, fun H10 s10 => ⟨true, rfl, iteF ?_⟩⟩
          have f10 := f9.same s10
          refine ⟨_, rfl, _, rfl, _, rfl, q, t, b, dT, dB, rfl, f10, fun H11 s11 => ⟨true, rfl, iteF ?_⟩⟩
          have f11 := f10.same s11
          obtain ⟨dz, e11⟩ := id f11.r
          refine ⟨_, rfl, _, rfl, _, rfl, q, t, b, dT, dB, rfl, f11.r, v, sz4, aT, aB, true, rfl, iteT ?_⟩
          refine ⟨_, rfl, q, dz, _, rfl, e11, rflds_no _ _ (by decide +kernel) (by decide +kernel), q, t, b, rfl, f11.r, sm.sz, _, rfl, rfl, ?_⟩
          rw [decide_eq_true rfl]
          exact k _
        · have hT : rT.natAbs < 10 ^ 60 := by omega
          have hB1 : 1 ≤ 1 + (if rB < 0 then -rB else rB) := by split <;> omega
          have hB2 : (1 + (if rB < 0 then -rB else rB)).natAbs < 10 ^ 60 := by split <;> omega
          dsimp only
          generalize 1 + (if rB < 0 then -rB else rB) = dB at hB1 hB2 ⊢
          generalize rT = dT at hT ⊢
          refine ⟨_, rfl, _, rfl, fun q dx nx ndx ne => ?_⟩
          have h0 : dB ≠ 0 := by omega
          refine made1 (lt_mono (lt60 hT) (by decide)) (lt_mono (lt60 hB2) (by decide)) h0 (fun H8 s8 r8 => ?_) nx ndx ne
          have v : IsV (rt dT dB) (rb dT dB) dT dB := isV_new h0
          have hg : Int.gcd (rt dT dB) (rb dT dB) = 1 := r_gcd h0
          have sm : Sm (rt dT dB) (rb dT dB) := ⟨Nat.lt_of_le_of_lt (rt_le h0) hT, rb_pos h0, Nat.lt_of_le_of_lt (rb_le h0) hB2⟩
          obtain ⟨g1, g2⟩ := rt_gcd (n := dT) hB1
          obtain ⟨j1, j2⟩ := gcd_div (n := dT) hB1 hB2
          have sz4 : Sz 4000 (rt dT dB) (rb dT dB) := sm.sz.mono (by decide)
          have aT := lt_mono (lt60 hT) (show 200 ≤ 4000 by decide)
          have aB := lt_mono (lt60 hB2) (show 200 ≤ 4000 by decide)
          refine ⟨_, rfl, _, rfl, dT, dB, rfl, ?_⟩
          generalize ((Int.gcd dT dB : Nat) : Int) = gg at g1 g2 j1 j2 ⊢
          generalize rt dT dB = t at r8 v hg sm g1 sz4
          generalize rb dT dB = b at r8 v hg sm g2 sz4
          have f8 : Frc C H8 q t b dT dB := ⟨r8, sm, v, hT, hB2⟩
          obtain ⟨dy, e8⟩ := id r8
          refine ⟨_, rfl, q, dy, _, rfl, e8, rflds_no _ _ (by decide +kernel) (by decide +kernel), q, t, b, rfl, r8, sm.sz, ?_⟩
          refine ⟨_, rfl, _, _, _, _, true, rfl, .ty _, .base (.str _), kit_ty (by decide +kernel), true, rfl, iteF ?_⟩
          refine ⟨_, rfl, _, rfl, _, rfl, dT, gg, rfl, rfl, divOk (x := dT) j1 j2, _, rfl, _, rfl, dB, gg, rfl, rfl, divOk (x := dB) j1 j2, dT.fdiv gg, dB.fdiv gg, rfl, by rw [g1]; exact sm.1, by rw [g2]; exact sm.2.2, rfl, _, rfl, ?_⟩
          rw [g1, g2, decide_eq_true rfl]
          refine iteF ?_
          refine ⟨rfl, _, rfl, t, b, rfl, sm, hg, fun H9 p9 s9 r9 => ?_⟩
          refine ⟨_, rfl, _, rfl, p9, t, b, dT, dB, rfl, r9, v, sz4, aT, aB, true, rfl, iteF ?_⟩
          have f9 := f8.same s9
          refine ⟨_, rfl, _, rfl, _, rfl, _, rfl, q, t, b, dT, dB, _, rfl, f9, hx, fun H10 s10 => ⟨true, rfl, iteF ?_⟩⟩
          have f10 := f9.same s10
          refine ⟨_, rfl, _, rfl, _, rfl, q, t, b, dT, dB, rfl, f10, fun H11 s11 => ⟨true, rfl, iteF ?_⟩⟩
          have f11 := f10.same s11
          obtain ⟨dz, e11⟩ := id f11.r
          refine ⟨_, rfl, _, rfl, _, rfl, q, t, b, dT, dB, rfl, f11.r, v, sz4, aT, aB, true, rfl, iteT ?_⟩
          refine ⟨_, rfl, q, dz, _, rfl, e11, rflds_no _ _ (by decide +kernel) (by decide +kernel), q, t, b, rfl, f11.r, sm.sz, _, rfl, rfl, ?_⟩
          rw [decide_eq_true rfl]
          exact k _
      · rw [decide_eq_false (fun z => h2 (V.int.inj z))]
        refine iteF ?_
        have hx : ExpK (V.int (d2 - 22)) := .inl ⟨_, rfl⟩
        refine ⟨_, rfl, 10, 60, rfl, rfl, ⟨by decide, by decide, by decide⟩, _, _, rfl, rfl, s, l, 10 ^ 60 - 1, rfl, M3, by decide, fun H4 rT kp4 M4 hrT => ?_⟩
        refine ⟨_, rfl, 10, 60, rfl, rfl, ⟨by decide, by decide, by decide⟩, _, _, rfl, rfl, s, l, 10 ^ 60 - 2, rfl, M4, by decide, fun H5 rB kp5 M5 hrB => ⟨rB, rfl, _, _, rfl, rfl, ?_⟩⟩
        have nT : ((10 ^ 60 - 1 : Int)).natAbs = 10 ^ 60 - 1 := by decide +kernel
        have nB : ((10 ^ 60 - 2 : Int)).natAbs = 10 ^ 60 - 2 := by decide +kernel
        have big : (10 : Nat) ≤ 10 ^ 60 := by decide +kernel
        rw [nT] at hrT
        rw [nB] at hrB
        refine ⟨_, rfl, s, l, 3, rfl, M5, by decide, by decide, fun H6 d6 kp6 M6 _ _ => ⟨rfl, _, rfl, ite2 (fun _ => ?_) (fun _ => ?_)⟩⟩
        · refine ⟨_, rfl, s, l, 5, rfl, M6, by decide, by decide, fun H7 d7 kp7 M7 u7 v7 => ⟨_, _, rfl, rfl, ?_⟩⟩
          refine ⟨_, rfl, s, l, 3, rfl, M7, by decide, by decide, fun H7b d8 kp8 M8 u8 v8 => ⟨_, _, rfl, rfl, ?_⟩⟩
          have hT : (d7 - 2).natAbs < 10 ^ 60 := by omega
          have hB1 : 1 ≤ 1 + d8 := by omega
          have hB2 : (1 + d8).natAbs < 10 ^ 60 := by omega
          dsimp only
          generalize d7 - 2 = dT at hT ⊢
          generalize 1 + d8 = dB at hB1 hB2 ⊢
          refine ⟨_, rfl, _, rfl, fun q dx nx ndx ne => ?_⟩
          have h0 : dB ≠ 0 := by omega
          refine made1 (lt_mono (lt60 hT) (by decide)) (lt_mono (lt60 hB2) (by decide)) h0 (fun H8 s8 r8 => ?_) nx ndx ne
          have v : IsV (rt dT dB) (rb dT dB) dT dB := isV_new h0
          have hg : Int.gcd (rt dT dB) (rb dT dB) = 1 := r_gcd h0
          have sm : Sm (rt dT dB) (rb dT dB) := ⟨Nat.lt_of_le_of_lt (rt_le h0) hT, rb_pos h0, Nat.lt_of_le_of_lt (rb_le h0) hB2⟩
          obtain ⟨g1, g2⟩ := rt_gcd (n := dT) hB1
          obtain ⟨j1, j2⟩ := gcd_div (n := dT) hB1 hB2
          have sz4 : Sz 4000 (rt dT dB) (rb dT dB) := sm.sz.mono (by decide)
          have aT := lt_mono (lt60 hT) (show 200 ≤ 4000 by decide)
          have aB := lt_mono (lt60 hB2) (show 200 ≤ 4000 by decide)
          refine ⟨_, rfl, _, rfl, dT, dB, rfl, ?_⟩
          generalize ((Int.gcd dT dB : Nat) : Int) = gg at g1 g2 j1 j2 ⊢
          generalize rt dT dB = t at r8 v hg sm g1 sz4
          generalize rb dT dB = b at r8 v hg sm g2 sz4
          have f8 : Frc C H8 q t b dT dB := ⟨r8, sm, v, hT, hB2⟩
          obtain ⟨dy, e8⟩ := id r8
          refine ⟨_, rfl, q, dy, _, rfl, e8, rflds_no _ _ (by decide +kernel) (by decide +kernel), q, t, b, rfl, r8, sm.sz, ?_⟩
          refine ⟨_, rfl, _, _, _, _, true, rfl, .ty _, .base (.str _), kit_ty (by decide +kernel), true, rfl, iteF ?_⟩
          refine ⟨_, rfl, _, rfl, _, rfl, dT, gg, rfl, rfl, divOk (x := dT) j1 j2, _, rfl, _, rfl, dB, gg, rfl, rfl, divOk (x := dB) j1 j2, dT.fdiv gg, dB.fdiv gg, rfl, by rw [g1]; exact sm.1, by rw [g2]; exact sm.2.2, rfl, _, rfl, ?_⟩
          rw [g1, g2, decide_eq_true rfl]
          refine iteF ?_
          refine ⟨rfl, _, rfl, t, b, rfl, sm, hg, fun H9 p9 s9 r9 => ?_⟩
          refine ⟨_, rfl, _, rfl, p9, t, b, dT, dB, rfl, r9, v, sz4, aT, aB, true, rfl, iteF ?_⟩
          have f9 := f8.same s9
          refine ⟨_, rfl, _, rfl, _, rfl, _, rfl, q, t, b, dT, dB, _, rfl, f9, hx, fun H10 s10 => ⟨true, rfl, iteF ?_⟩⟩
          have f10 := f9.same s10
          refine ⟨_, rfl, _, rfl, _, rfl, q, t, b, dT, dB, rfl, f10, fun H11 s11 => ⟨true, rfl, iteF ?_⟩⟩
          have f11 := f10.same s11
          obtain ⟨dz, e11⟩ := id f11.r
          refine ⟨_, rfl, _, rfl, _, rfl, q, t, b, dT, dB, rfl, f11.r, v, sz4, aT, aB, true, rfl, iteT ?_⟩
          refine ⟨_, rfl, q, dz, _, rfl, e11, rflds_no _ _ (by decide +kernel) (by decide +kernel), q, t, b, rfl, f11.r, sm.sz, _, rfl, rfl, ?_⟩
          rw [decide_eq_true rfl]
          exact k _
        · have hT : rT.natAbs < 10 ^ 60 := by omega
          have hB1 : 1 ≤ 1 + (if rB < 0 then -rB else rB) := by split <;> omega
          have hB2 : (1 + (if rB < 0 then -rB else rB)).natAbs < 10 ^ 60 := by split <;> omega
          dsimp only
          generalize 1 + (if rB < 0 then -rB else rB) = dB at hB1 hB2 ⊢
          generalize rT = dT at hT ⊢
          refine ⟨_, rfl, _, rfl, fun q dx nx ndx ne => ?_⟩
          have h0 : dB ≠ 0 := by omega
          refine made1 (lt_mono (lt60 hT) (by decide)) (lt_mono (lt60 hB2) (by decide)) h0 (fun H8 s8 r8 => ?_) nx ndx ne
          have v : IsV (rt dT dB) (rb dT dB) dT dB := isV_new h0
          have hg : Int.gcd (rt dT dB) (rb dT dB) = 1 := r_gcd h0
          have sm : Sm (rt dT dB) (rb dT dB) := ⟨Nat.lt_of_le_of_lt (rt_le h0) hT, rb_pos h0, Nat.lt_of_le_of_lt (rb_le h0) hB2⟩
          obtain ⟨g1, g2⟩ := rt_gcd (n := dT) hB1
          obtain ⟨j1, j2⟩ := gcd_div (n := dT) hB1 hB2
          have sz4 : Sz 4000 (rt dT dB) (rb dT dB) := sm.sz.mono (by decide)
          have aT := lt_mono (lt60 hT) (show 200 ≤ 4000 by decide)
          have aB := lt_mono (lt60 hB2) (show 200 ≤ 4000 by decide)
          refine ⟨_, rfl, _, rfl, dT, dB, rfl, ?_⟩
          generalize ((Int.gcd dT dB : Nat) : Int) = gg at g1 g2 j1 j2 ⊢
          generalize rt dT dB = t at r8 v hg sm g1 sz4
          generalize rb dT dB = b at r8 v hg sm g2 sz4
          have f8 : Frc C H8 q t b dT dB := ⟨r8, sm, v, hT, hB2⟩
          obtain ⟨dy, e8⟩ := id r8
          refine ⟨_, rfl, q, dy, _, rfl, e8, rflds_no _ _ (by decide +kernel) (by decide +kernel), q, t, b, rfl, r8, sm.sz, ?_⟩
          refine ⟨_, rfl, _, _, _, _, true, rfl, .ty _, .base (.str _), kit_ty (by decide +kernel), true, rfl, iteF ?_⟩
          refine ⟨_, rfl, _, rfl, _, rfl, dT, gg, rfl, rfl, divOk (x := dT) j1 j2, _, rfl, _, rfl, dB, gg, rfl, rfl, divOk (x := dB) j1 j2, dT.fdiv gg, dB.fdiv gg, rfl, by rw [g1]; exact sm.1, by rw [g2]; exact sm.2.2, rfl, _, rfl, ?_⟩
          rw [g1, g2, decide_eq_true rfl]
          refine iteF ?_
          refine ⟨rfl, _, rfl, t, b, rfl, sm, hg, fun H9 p9 s9 r9 => ?_⟩
          refine ⟨_, rfl, _, rfl, p9, t, b, dT, dB, rfl, r9, v, sz4, aT, aB, true, rfl, iteF ?_⟩
          have f9 := f8.same s9
          refine ⟨_, rfl, _, rfl, _, rfl, _, rfl, q, t, b, dT, dB, _, rfl, f9, hx, fun H10 s10 => ⟨true, rfl, iteF ?_⟩⟩
          have f10 := f9.same s10
          refine ⟨_, rfl, _, rfl, _, rfl, q, t, b, dT, dB, rfl, f10, fun H11 s11 => ⟨true, rfl, iteF ?_⟩⟩
          have f11 := f10.same s11
          obtain ⟨dz, e11⟩ := id f11.r
          refine ⟨_, rfl, _, rfl, _, rfl, q, t, b, dT, dB, rfl, f11.r, v, sz4, aT, aB, true, rfl, iteT ?_⟩
          refine ⟨_, rfl, q, dz, _, rfl, e11, rflds_no _ _ (by decide +kernel) (by decide +kernel), q, t, b, rfl, f11.r, sm.sz, _, rfl, rfl, ?_⟩
          rw [decide_eq_true rfl]
          exact k _
end
end Pt

namespace Pt
open PySem PySem.Spec L2
open PySem.W (findIn isFn kitOne nsIn typeIn keepIn subIn codeIn clsIn)
theorem exm_own {K : PySem.W.Frag} {S : Addr} (h1 : subIn K (.ref S) (.type "BaseException") = some true) (h2 : PySem.W.isClsIn K S = true) (h3 : typeIn K (.ref S) = some (.type "type")) (h4 : subIn K (.ref S) (.ref S) = some true) :
    PySem.W.exmOne K (.ref S) (.ref S) = some true := by
  have e1 : (subIn K (.ref S) (.type "BaseException") == some true) = true := by rw [h1] <;> rfl
  have e2 : ((clsIn K S).isSome && typeIn K (.ref S) == some (.type "type")) = true := by
    have h2' : (clsIn K S).isSome = true := h2
    rw [h2', h3] <;> rfl
  unfold PySem.W.exmOne
  rw [if_pos e1]
  unfold PySem.W.kitCls
  dsimp only
  rw [if_pos e2]
  exact h4
theorem all_mk {l : PySem.W.OpenLaw} {w : World} {K : PySem.W.Frag} {h : Heap} {mg : Str → Option Value} {fa C CN fN : Addr} {fIn fsIsInt fsGcd fsMult fsIsDg fsStart fsDraw fsFar fsLInt fsLDiv fsIsR fsProd fsLPow fsSigns fsWrit fsLaw fsPowM fsPower fsText fsRead : Addr} (X : K.In h) (G : h.Ns mainGlobals mg) (hfa : mg "law" = some (.ref fa))
    {cdC : ClassData} {nmN qN : Str} {NN CP : Addr} {bsN subN : List Value} {snN : List Str} {abN : Bool} {colN : Option Bool} {ddN : Option Addr} {nm0 nm1 nm2 nm3 nm5 : Option Value} {ocNR kVNR dcNR pmNR cdNR ctNR : Value} {odNR anNR : Option Addr} {slNR : Array (Option Value)} {TD : Addr} {tcD : Value} {tdD : Option Addr} {tkD : Tok} {tnD : Nat} {tslD : Array (Option Value)} {ocIn kVIn dcIn pmIn cdIn ctIn : Value} {odIn anIn : Option Addr} {slIn : Array (Option Value)} {ocsIsInt kVsIsInt dcsIsInt pmsIsInt cdsIsInt ctsIsInt : Value} {odsIsInt ansIsInt : Option Addr} {slsIsInt : Array (Option Value)} {ocsGcd kVsGcd dcsGcd pmsGcd cdsGcd ctsGcd : Value} {odsGcd ansGcd : Option Addr} {slsGcd : Array (Option Value)} {ocsMult kVsMult dcsMult pmsMult cdsMult ctsMult : Value} {odsMult ansMult : Option Addr} {slsMult : Array (Option Value)} {ocsIsDg kVsIsDg dcsIsDg pmsIsDg cdsIsDg ctsIsDg : Value} {odsIsDg ansIsDg : Option Addr} {slsIsDg : Array (Option Value)} {ocsStart kVsStart dcsStart pmsStart cdsStart ctsStart : Value} {odsStart ansStart : Option Addr} {slsStart : Array (Option Value)} {ocsDraw kVsDraw dcsDraw pmsDraw cdsDraw ctsDraw : Value} {odsDraw ansDraw : Option Addr} {slsDraw : Array (Option Value)} {ocsFar kVsFar dcsFar pmsFar cdsFar ctsFar : Value} {odsFar ansFar : Option Addr} {slsFar : Array (Option Value)} {ocsLInt kVsLInt dcsLInt pmsLInt cdsLInt ctsLInt : Value} {odsLInt ansLInt : Option Addr} {slsLInt : Array (Option Value)} {ocsLDiv kVsLDiv dcsLDiv pmsLDiv cdsLDiv ctsLDiv : Value} {odsLDiv ansLDiv : Option Addr} {slsLDiv : Array (Option Value)} {ocsIsR kVsIsR dcsIsR pmsIsR cdsIsR ctsIsR : Value} {odsIsR ansIsR : Option Addr} {slsIsR : Array (Option Value)} {ocsProd kVsProd dcsProd pmsProd cdsProd ctsProd : Value} {odsProd ansProd : Option Addr} {slsProd : Array (Option Value)} {ocsLPow kVsLPow dcsLPow pmsLPow cdsLPow ctsLPow : Value} {odsLPow ansLPow : Option Addr} {slsLPow : Array (Option Value)} {ocsSigns kVsSigns dcsSigns pmsSigns cdsSigns ctsSigns : Value} {odsSigns ansSigns : Option Addr} {slsSigns : Array (Option Value)} {ocsWrit kVsWrit dcsWrit pmsWrit cdsWrit ctsWrit : Value} {odsWrit ansWrit : Option Addr} {slsWrit : Array (Option Value)} {ocsLaw kVsLaw dcsLaw pmsLaw cdsLaw ctsLaw : Value} {odsLaw ansLaw : Option Addr} {slsLaw : Array (Option Value)} {ocsPowM kVsPowM dcsPowM pmsPowM cdsPowM ctsPowM : Value} {odsPowM ansPowM : Option Addr} {slsPowM : Array (Option Value)} {ocsPower kVsPower dcsPower pmsPower cdsPower ctsPower : Value} {odsPower ansPower : Option Addr} {slsPower : Array (Option Value)} {ocsText kVsText dcsText pmsText cdsText ctsText : Value} {odsText ansText : Option Addr} {slsText : Array (Option Value)} {ocsRead kVsRead dcsRead pmsRead cdsRead ctsRead : Value} {odsRead ansRead : Option Addr} {slsRead : Array (Option Value)} {tkP tkQ tkG : Tok} {mcC : Value} {restS : List Value} {pSt : Addr}
    (aC : nsIn K mainGlobals "Ratio" = some (some (.ref C)))
    (pg : PySem.W.plainGet K C Str.empty = true)
    (hd : PySem.W.hasDictIn K C = true)
    (po : PySem.W.plainOver K C = true)
    (sa : findIn K (.ref C) "__setattr__" = some (some (.builtin "object.__setattr__")))
    (mk : PySem.W.makesIn K C = true)
    (kc : keepIn K (.ref C) = true)
    (nT : findIn K (.ref C) "top" = some none)
    (nB : findIn K (.ref C) "bottom" = some none)
    (cA : findIn K (.ref C) "__class__" = some (some (.builtin "object.__class__")))
    (cN : PySem.W.specialIn K (.builtin "object.__class__") "__get__" = some (some (.builtin "getset_descriptor.__get__")))
    (cK : PySem.W.takesIn K (.builtin "object.__class__") = some true)
    (cM : PySem.W.mroIn K C (.type "object") = some true)
    (sF : PySem.W.selfFirst K C = true)
    (hcd : clsIn K C = some cdC)
    (hmro : cdC.mro = [.ref C, .type "object"])
    (sb1 : subIn K (.ref C) (.type "int") = some false)
    (sb2 : subIn K (.type "int") (.ref C) = some false)
    (iCI : kitOne K (.ref C) (.type "int") = some false)
    (iIC : kitOne K (.type "int") (.ref C) = some false)
    (iCC : kitOne K (.ref C) (.ref C) = some true)
    (aN : nsIn K mainGlobals "NoRatio" = some (some (.ref CN)))
    (xL : K.lookup CN = some (excClassObj nmN qN CN NN bsN [.ref CP, .type "ValueError", .type "Exception", .type "BaseException", .type "object"] true snN subN abN colN ddN nm0 nm1 nm2 nm3 nm5 "ValueError.__new__"))
    (saN : findIn K (.ref CN) "__setattr__" = some (some (.builtin "object.__setattr__")))
    (gaN : findIn K (.ref CN) "__getattribute__" = some (some (.builtin "BaseException.__getattribute__")))
    (ggN : findIn K (.ref CN) "__getattr__" = some none)
    (nwN : findIn K (.ref CN) "word" = some none)
    (iiN : findIn K (.ref CN) "__init__" = some (some (.ref fN)))
    (tiN : typeIn K (.ref fN) = some (.type "function"))
    (kCN : keepIn K (.ref CN) = true)
    (eCN : subIn K (.ref CN) (.type "BaseException") = some true)
    (tCN : typeIn K (.ref CN) = some (.type "type"))
    (hCN : PySem.W.hasDictIn K CN = true)
    (iCN : PySem.W.isClsIn K CN = true)
    (sCN : subIn K (.ref CN) (.ref CN) = some true)
    (lNR : K.lookup fN = some ⟨ocNR, odNR, .func (PySem.W.fnOf "__init__" "NoRatio.__init__" (defArgs sNRi) (defBody sNRi) (defScope sNRi) .none kVNR dcNR pmNR anNR cdNR ctNR), slNR⟩)
    (cNR : codeIn K cdNR "NoRatio.__init__" = true)
    (kNR : keepIn K (.ref fN) = true)
    (aIn : findIn K (.ref C) "__init__" = some (some (.ref fIn)))
    (iIn : isFn K (.ref fIn) = true)
    (lIn : K.lookup fIn = some ⟨ocIn, odIn, .func (PySem.W.fnOf "__init__" "Ratio.__init__" (defArgs sInit) (defBody sInit) (defScope sInit) (.ref TD) kVIn dcIn pmIn anIn cdIn ctIn), slIn⟩)
    (cIn : codeIn K cdIn "Ratio.__init__" = true)
    (kIn : keepIn K (.ref fIn) = true)
    (lTD : K.lookup TD = some ⟨tcD, tdD, .seq #[Value.int 1 tkD] tnD, tslD⟩)
    (sTy : typeIn K (.ref C) = some mcC)
    (sRdd : PySem.W.readsIn K C mcC = true)
    (sGa : PySem.W.specialIn K (.ref C) "__getattribute__" = some (some (.builtin "type.__getattribute__")))
    (sAt : PySem.W.findCls K (.ref C) mcC "read" = some (.get (.builtin "staticmethod.__get__") (.ref pSt) .none (.ref C)))
    (sRc : PySem.W.recIn K pSt "staticmethod" = some (.ref fsRead :: restS))
    (sHd : PySem.W.handedIn (.ref fsRead) = true)
    (asIsInt : nsIn K mainGlobals "is_integer" = some (some (.ref fsIsInt)))
    (lsIsInt : K.lookup fsIsInt = some ⟨ocsIsInt, odsIsInt, .func (PySem.W.fnOf "is_integer" "is_integer" (defArgs sIsInt) (defBody sIsInt) (defScope sIsInt) .none kVsIsInt dcsIsInt pmsIsInt ansIsInt cdsIsInt ctsIsInt), slsIsInt⟩)
    (csIsInt : codeIn K cdsIsInt "is_integer" = true)
    (ksIsInt : keepIn K (.ref fsIsInt) = true)
    (asGcd : nsIn K mainGlobals "common_divisor" = some (some (.ref fsGcd)))
    (lsGcd : K.lookup fsGcd = some ⟨ocsGcd, odsGcd, .func (PySem.W.fnOf "common_divisor" "common_divisor" (defArgs sGcd) (defBody sGcd) (defScope sGcd) .none kVsGcd dcsGcd pmsGcd ansGcd cdsGcd ctsGcd), slsGcd⟩)
    (csGcd : codeIn K cdsGcd "common_divisor" = true)
    (ksGcd : keepIn K (.ref fsGcd) = true)
    (asMult : nsIn K mainGlobals "multiplied" = some (some (.ref fsMult)))
    (lsMult : K.lookup fsMult = some ⟨ocsMult, odsMult, .func (PySem.W.fnOf "multiplied" "multiplied" (defArgs sMult) (defBody sMult) (defScope sMult) .none kVsMult dcsMult pmsMult ansMult cdsMult ctsMult), slsMult⟩)
    (csMult : codeIn K cdsMult "multiplied" = true)
    (ksMult : keepIn K (.ref fsMult) = true)
    (asIsDg : nsIn K mainGlobals "is_digits" = some (some (.ref fsIsDg)))
    (lsIsDg : K.lookup fsIsDg = some ⟨ocsIsDg, odsIsDg, .func (PySem.W.fnOf "is_digits" "is_digits" (defArgs sIsDg) (defBody sIsDg) (defScope sIsDg) .none kVsIsDg dcsIsDg pmsIsDg ansIsDg cdsIsDg ctsIsDg), slsIsDg⟩)
    (csIsDg : codeIn K cdsIsDg "is_digits" = true)
    (ksIsDg : keepIn K (.ref fsIsDg) = true)
    (asStart : nsIn K mainGlobals "_law_start" = some (some (.ref fsStart)))
    (lsStart : K.lookup fsStart = some ⟨ocsStart, odsStart, .func (PySem.W.fnOf "_law_start" "_law_start" (defArgs sStart) (defBody sStart) (defScope sStart) .none kVsStart dcsStart pmsStart ansStart cdsStart ctsStart), slsStart⟩)
    (csStart : codeIn K cdsStart "_law_start" = true)
    (ksStart : keepIn K (.ref fsStart) = true)
    (asDraw : nsIn K mainGlobals "_law_draw" = some (some (.ref fsDraw)))
    (lsDraw : K.lookup fsDraw = some ⟨ocsDraw, odsDraw, .func (PySem.W.fnOf "_law_draw" "_law_draw" (defArgs sDraw) (defBody sDraw) (defScope sDraw) .none kVsDraw dcsDraw pmsDraw ansDraw cdsDraw ctsDraw), slsDraw⟩)
    (csDraw : codeIn K cdsDraw "_law_draw" = true)
    (ksDraw : keepIn K (.ref fsDraw) = true)
    (asFar : nsIn K mainGlobals "_law_far" = some (some (.ref fsFar)))
    (lsFar : K.lookup fsFar = some ⟨ocsFar, odsFar, .func (PySem.W.fnOf "_law_far" "_law_far" (defArgs sFar) (defBody sFar) (defScope sFar) .none kVsFar dcsFar pmsFar ansFar cdsFar ctsFar), slsFar⟩)
    (csFar : codeIn K cdsFar "_law_far" = true)
    (ksFar : keepIn K (.ref fsFar) = true)
    (asLInt : nsIn K mainGlobals "_law_integer" = some (some (.ref fsLInt)))
    (lsLInt : K.lookup fsLInt = some ⟨ocsLInt, odsLInt, .func (PySem.W.fnOf "_law_integer" "_law_integer" (defArgs sLInt) (defBody sLInt) (defScope sLInt) .none kVsLInt dcsLInt pmsLInt ansLInt cdsLInt ctsLInt), slsLInt⟩)
    (csLInt : codeIn K cdsLInt "_law_integer" = true)
    (ksLInt : keepIn K (.ref fsLInt) = true)
    (asLDiv : nsIn K mainGlobals "_law_divisor" = some (some (.ref fsLDiv)))
    (lsLDiv : K.lookup fsLDiv = some ⟨ocsLDiv, odsLDiv, .func (PySem.W.fnOf "_law_divisor" "_law_divisor" (defArgs sLDiv) (defBody sLDiv) (defScope sLDiv) .none kVsLDiv dcsLDiv pmsLDiv ansLDiv cdsLDiv ctsLDiv), slsLDiv⟩)
    (csLDiv : codeIn K cdsLDiv "_law_divisor" = true)
    (ksLDiv : keepIn K (.ref fsLDiv) = true)
    (asIsR : nsIn K mainGlobals "_law_is_ratio" = some (some (.ref fsIsR)))
    (lsIsR : K.lookup fsIsR = some ⟨ocsIsR, odsIsR, .func (PySem.W.fnOf "_law_is_ratio" "_law_is_ratio" (defArgs sIsR) (defBody sIsR) (defScope sIsR) .none kVsIsR dcsIsR pmsIsR ansIsR cdsIsR ctsIsR), slsIsR⟩)
    (csIsR : codeIn K cdsIsR "_law_is_ratio" = true)
    (ksIsR : keepIn K (.ref fsIsR) = true)
    (asProd : nsIn K mainGlobals "_law_product" = some (some (.ref fsProd)))
    (lsProd : K.lookup fsProd = some ⟨ocsProd, odsProd, .func (PySem.W.fnOf "_law_product" "_law_product" (defArgs sProd) (defBody sProd) (defScope sProd) .none kVsProd dcsProd pmsProd ansProd cdsProd ctsProd), slsProd⟩)
    (csProd : codeIn K cdsProd "_law_product" = true)
    (ksProd : keepIn K (.ref fsProd) = true)
    (asLPow : nsIn K mainGlobals "_law_power" = some (some (.ref fsLPow)))
    (lsLPow : K.lookup fsLPow = some ⟨ocsLPow, odsLPow, .func (PySem.W.fnOf "_law_power" "_law_power" (defArgs sLPow) (defBody sLPow) (defScope sLPow) .none kVsLPow dcsLPow pmsLPow ansLPow cdsLPow ctsLPow), slsLPow⟩)
    (csLPow : codeIn K cdsLPow "_law_power" = true)
    (ksLPow : keepIn K (.ref fsLPow) = true)
    (asSigns : nsIn K mainGlobals "_law_signs" = some (some (.ref fsSigns)))
    (lsSigns : K.lookup fsSigns = some ⟨ocsSigns, odsSigns, .func (PySem.W.fnOf "_law_signs" "_law_signs" (defArgs sSigns) (defBody sSigns) (defScope sSigns) .none kVsSigns dcsSigns pmsSigns ansSigns cdsSigns ctsSigns), slsSigns⟩)
    (csSigns : codeIn K cdsSigns "_law_signs" = true)
    (ksSigns : keepIn K (.ref fsSigns) = true)
    (asWrit : nsIn K mainGlobals "_law_written" = some (some (.ref fsWrit)))
    (lsWrit : K.lookup fsWrit = some ⟨ocsWrit, odsWrit, .func (PySem.W.fnOf "_law_written" "_law_written" (defArgs sWrit) (defBody sWrit) (defScope sWrit) .none kVsWrit dcsWrit pmsWrit ansWrit cdsWrit ctsWrit), slsWrit⟩)
    (csWrit : codeIn K cdsWrit "_law_written" = true)
    (ksWrit : keepIn K (.ref fsWrit) = true)
    (asLaw : nsIn K mainGlobals "law" = some (some (.ref fsLaw)))
    (lsLaw : K.lookup fsLaw = some ⟨ocsLaw, odsLaw, .func (PySem.W.fnOf "law" "law" (defArgs sLaw) (defBody sLaw) (defScope sLaw) .none kVsLaw dcsLaw pmsLaw ansLaw cdsLaw ctsLaw), slsLaw⟩)
    (csLaw : codeIn K cdsLaw "law" = true)
    (ksLaw : keepIn K (.ref fsLaw) = true)
    (asPowM : findIn K (.ref C) "__pow__" = some (some (.ref fsPowM)))
    (isPowM : isFn K (.ref fsPowM) = true)
    (lsPowM : K.lookup fsPowM = some ⟨ocsPowM, odsPowM, .func (PySem.W.fnOf "__pow__" "Ratio.__pow__" (defArgs sPowM) (defBody sPowM) (defScope sPowM) .none kVsPowM dcsPowM pmsPowM ansPowM cdsPowM ctsPowM), slsPowM⟩)
    (csPowM : codeIn K cdsPowM "Ratio.__pow__" = true)
    (ksPowM : keepIn K (.ref fsPowM) = true)
    (asPower : findIn K (.ref C) "power" = some (some (.ref fsPower)))
    (isPower : isFn K (.ref fsPower) = true)
    (lsPower : K.lookup fsPower = some ⟨ocsPower, odsPower, .func (PySem.W.fnOf "power" "Ratio.power" (defArgs sPower) (defBody sPower) (defScope sPower) .none kVsPower dcsPower pmsPower ansPower cdsPower ctsPower), slsPower⟩)
    (csPower : codeIn K cdsPower "Ratio.power" = true)
    (ksPower : keepIn K (.ref fsPower) = true)
    (asText : findIn K (.ref C) "text" = some (some (.ref fsText)))
    (isText : isFn K (.ref fsText) = true)
    (lsText : K.lookup fsText = some ⟨ocsText, odsText, .func (PySem.W.fnOf "text" "Ratio.text" (defArgs sText) (defBody sText) (defScope sText) .none kVsText dcsText pmsText ansText cdsText ctsText), slsText⟩)
    (csText : codeIn K cdsText "Ratio.text" = true)
    (ksText : keepIn K (.ref fsText) = true)
    (lsRead : K.lookup fsRead = some ⟨ocsRead, odsRead, .func (PySem.W.fnOf "read" "Ratio.read" (defArgs sRead) (defBody sRead) (defScope sRead) .none kVsRead dcsRead pmsRead ansRead cdsRead ctsRead), slsRead⟩)
    (csRead : codeIn K cdsRead "Ratio.read" = true)
    (ksRead : keepIn K (.ref fsRead) = true)
    (o1Pow : findIn K (.ref C) (PySem.dunder Operator.Pow.info.2) = some (some (.ref fsPowM)))
    (o2Pow : findIn K (.ref C) (dunderR Operator.Pow.info.2) = some none)
    (o3Pow : findIn K (.ref C) (dunderI Operator.Pow.info.2) = some none)
    (gMP : nsIn K mainGlobals "MOST_POWER" = some (some (.int 20 tkP)))
    (gMD : nsIn K mainGlobals "MOST_DIGITS" = some (some (.int 60 tkQ)))
    (gDG : nsIn K mainGlobals "DIGITS" = some (some (.str "0123456789" tkG)))
    (zint : nsIn K mainGlobals "int" = some none)
    (zbool : nsIn K mainGlobals "bool" = some none)
    (zisinstance : nsIn K mainGlobals "isinstance" = some none)
    (zabs : nsIn K mainGlobals "abs" = some none)
    (zlen : nsIn K mainGlobals "len" = some none)
    (zrange : nsIn K mainGlobals "range" = some none)
    (zstr : nsIn K mainGlobals "str" = some none)
    (zall : nsIn K mainGlobals "all" = some none)
    : ∃ fd : FuncData, (∀ (s : Shared) (v : Value), BindsTo s fd ⟨[v], []⟩ [("_law_script", v)]) ∧ ∀ base : Heap, K.In base → base.Ns mainGlobals mg → FnOk l.prog w K mg base CX0 9 fa fd ["_law_script"] (spLaw K) := by
  have e := hfa.symm.trans (PySem.W.mg_of X G asLaw)
  cases e
  have T : Txt K mg C CN fN := {
    cl := ⟨pg, hd, po, sa⟩, nT := nT, nB := nB, mgC := PySem.W.mg_of X G aC, cA := cA, cN := cN, cK := cK, cM := cM, iCI := iCI, iIC := iIC, iCC := iCC
    oex := ⟨⟨nmN, qN, NN, bsN, _, snN, subN, abN, colN, ddN, nm0, nm1, nm2, nm3, nm5, xL, rfl⟩, saN, eCN, tCN, kCN⟩
    xf := ⟨gaN, ggN, eCN, hCN⟩, nW := nwN, iN := iiN, tN := tiN, mgN := PySem.W.mg_of X G aN, eN := exm_own eCN iCN tCN sCN
    gIsi := PySem.W.mg_none_of X G zisinstance, gInt := PySem.W.mg_none_of X G zint, gBool := PySem.W.mg_none_of X G zbool, gAbs := PySem.W.mg_none_of X G zabs, gLen := PySem.W.mg_none_of X G zlen, gRange := PySem.W.mg_none_of X G zrange }
  have B : Bl mg := ⟨PySem.W.mg_none_of X G zint, PySem.W.mg_none_of X G zlen⟩
  have FsIsInt := fun_mk (x := "is_integer") (qual := "is_integer") (st := sIsInt) lsIsInt csIsInt ksIsInt
  have bsIsInt := FsIsInt.binds (ps := ["thing"]) fun _ _ _ _ _ _ us hl => match us, hl with | [_], _ => rfl
  have msIsInt := PySem.W.mg_of X G asIsInt
  have FsGcd := fun_mk (x := "common_divisor") (qual := "common_divisor") (st := sGcd) lsGcd csGcd ksGcd
  have bsGcd := FsGcd.binds (ps := ["one", "other"]) fun _ _ _ _ _ _ us hl => match us, hl with | [_, _], _ => rfl
  have msGcd := PySem.W.mg_of X G asGcd
  have FsMult := fun_mk (x := "multiplied") (qual := "multiplied") (st := sMult) lsMult csMult ksMult
  have bsMult := FsMult.binds (ps := ["number", "times"]) fun _ _ _ _ _ _ us hl => match us, hl with | [_, _], _ => rfl
  have msMult := PySem.W.mg_of X G asMult
  have FsIsDg := fun_mk (x := "is_digits") (qual := "is_digits") (st := sIsDg) lsIsDg csIsDg ksIsDg
  have bsIsDg := FsIsDg.binds (ps := ["text"]) fun _ _ _ _ _ _ us hl => match us, hl with | [_], _ => rfl
  have msIsDg := PySem.W.mg_of X G asIsDg
  have FsStart := fun_mk (x := "_law_start") (qual := "_law_start") (st := sStart) lsStart csStart ksStart
  have bsStart := FsStart.binds (ps := ["_law_script"]) fun _ _ _ _ _ _ us hl => match us, hl with | [_], _ => rfl
  have msStart := PySem.W.mg_of X G asStart
  have FsDraw := fun_mk (x := "_law_draw") (qual := "_law_draw") (st := sDraw) lsDraw csDraw ksDraw
  have bsDraw := FsDraw.binds (ps := ["_law_state", "_law_many"]) fun _ _ _ _ _ _ us hl => match us, hl with | [_, _], _ => rfl
  have msDraw := PySem.W.mg_of X G asDraw
  have FsFar := fun_mk (x := "_law_far") (qual := "_law_far") (st := sFar) lsFar csFar ksFar
  have bsFar := FsFar.binds (ps := ["_law_state", "_law_bound"]) fun _ _ _ _ _ _ us hl => match us, hl with | [_, _], _ => rfl
  have msFar := PySem.W.mg_of X G asFar
  have FsLInt := fun_mk (x := "_law_integer") (qual := "_law_integer") (st := sLInt) lsLInt csLInt ksLInt
  have bsLInt := FsLInt.binds (ps := ["_law_value"]) fun _ _ _ _ _ _ us hl => match us, hl with | [_], _ => rfl
  have msLInt := PySem.W.mg_of X G asLInt
  have FsLDiv := fun_mk (x := "_law_divisor") (qual := "_law_divisor") (st := sLDiv) lsLDiv csLDiv ksLDiv
  have bsLDiv := FsLDiv.binds (ps := ["_law_one", "_law_other"]) fun _ _ _ _ _ _ us hl => match us, hl with | [_, _], _ => rfl
  have msLDiv := PySem.W.mg_of X G asLDiv
  have FsIsR := fun_mk (x := "_law_is_ratio") (qual := "_law_is_ratio") (st := sIsR) lsIsR csIsR ksIsR
  have bsIsR := FsIsR.binds (ps := ["_law_value", "_law_top", "_law_bottom"]) fun _ _ _ _ _ _ us hl => match us, hl with | [_, _, _], _ => rfl
  have msIsR := PySem.W.mg_of X G asIsR
  have FsProd := fun_mk (x := "_law_product") (qual := "_law_product") (st := sProd) lsProd csProd ksProd
  have bsProd := FsProd.binds (ps := ["_law_number", "_law_many"]) fun _ _ _ _ _ _ us hl => match us, hl with | [_, _], _ => rfl
  have msProd := PySem.W.mg_of X G asProd
  have FsLPow := fun_mk (x := "_law_power") (qual := "_law_power") (st := sLPow) lsLPow csLPow ksLPow
  have bsLPow := FsLPow.binds (ps := ["_law_base", "_law_top", "_law_bottom", "_law_exponent"]) fun _ _ _ _ _ _ us hl => match us, hl with | [_, _, _, _], _ => rfl
  have msLPow := PySem.W.mg_of X G asLPow
  have FsSigns := fun_mk (x := "_law_signs") (qual := "_law_signs") (st := sSigns) lsSigns csSigns ksSigns
  have bsSigns := FsSigns.binds (ps := ["_law_base", "_law_top", "_law_bottom"]) fun _ _ _ _ _ _ us hl => match us, hl with | [_, _, _], _ => rfl
  have msSigns := PySem.W.mg_of X G asSigns
  have FsWrit := fun_mk (x := "_law_written") (qual := "_law_written") (st := sWrit) lsWrit csWrit ksWrit
  have bsWrit := FsWrit.binds (ps := ["_law_top", "_law_bottom"]) fun _ _ _ _ _ _ us hl => match us, hl with | [_, _], _ => rfl
  have msWrit := PySem.W.mg_of X G asWrit
  have FsLaw := fun_mk (x := "law") (qual := "law") (st := sLaw) lsLaw csLaw ksLaw
  have msLaw := PySem.W.mg_of X G asLaw
  have FsPowM := fun_mk (x := "__pow__") (qual := "Ratio.__pow__") (st := sPowM) lsPowM csPowM ksPowM
  have bsPowM := FsPowM.binds (ps := ["self", "other"]) fun _ _ _ _ _ _ us hl => match us, hl with | [_, _], _ => rfl
  have FsPower := fun_mk (x := "power") (qual := "Ratio.power") (st := sPower) lsPower csPower ksPower
  have bsPower := FsPower.binds (ps := ["self", "k"]) fun _ _ _ _ _ _ us hl => match us, hl with | [_, _], _ => rfl
  have FsText := fun_mk (x := "text") (qual := "Ratio.text") (st := sText) lsText csText ksText
  have bsText := FsText.binds (ps := ["self"]) fun _ _ _ _ _ _ us hl => match us, hl with | [_], _ => rfl
  have FsRead := fun_mk (x := "read") (qual := "Ratio.read") (st := sRead) lsRead csRead ksRead
  have bsRead := FsRead.binds (ps := ["text"]) fun _ _ _ _ _ _ us hl => match us, hl with | [_], _ => rfl
  have FNR := fun_mk (x := "__init__") (qual := "NoRatio.__init__") (st := sNRi) lNR cNR kNR
  have bNR := FNR.binds (ps := ["self", "word"]) fun _ _ _ _ _ _ us hl => match us, hl with | [_, _], _ => rfl
  have FIn : FunD K "__init__" "Ratio.__init__" (defArgs sInit) (defBody sInit) (defScope sInit) [.int 1] [] fIn (PySem.W.fnOf "__init__" "Ratio.__init__" (defArgs sInit) (defBody sInit) (defScope sInit) (.ref TD) kVIn dcIn pmIn anIn cdIn ctIn) :=
    ⟨⟨ocIn, odIn, .ref TD, kVIn, dcIn, pmIn, anIn, cdIn, ctIn, slIn, rfl, lIn, cIn, .inr ⟨(fun z => nomatch z), TD, _, [Value.int 1 tkD], tnD, rfl, lTD, rfl, .cons ⟨tkD, rfl⟩ .nil⟩, .inl rfl⟩, kIn⟩
  have bIn3 : Binds K (PySem.W.fnOf "__init__" "Ratio.__init__" (defArgs sInit) (defBody sInit) (defScope sInit) (.ref TD) kVIn dcIn pmIn anIn cdIn ctIn) ["self", "top", "bottom"] [] := by
    obtain ⟨ds, v, b⟩ := FIn.binds1 (ps := ["self", "top", "bottom"]) 3 1 (fun z => nomatch z) rfl fun T kV doc pm an cdv ct us its hu hi => match us, its, hu, hi with | [_, _, _], [_], _, _ => ⟨_, rfl, rfl⟩
    cases v
    exact b
  have bIn2 := FIn.binds1 (ps := ["self", "top", "bottom"]) 2 0 (fun z => nomatch z) rfl fun T kV doc pm an cdv ct us its hu hi => match us, its, hu, hi with | [_, _], [_], _, _ => ⟨_, rfl, rfl⟩
  have WPow : OwnBin K C .Pow fsPowM none := ⟨sF, ⟨_, hcd, hmro⟩, o1Pow, isPowM, o2Pow, .inl rfl, o3Pow, sb1, sb2⟩
  refine ⟨PySem.W.fnOf "law" "law" (defArgs sLaw) (defBody sLaw) (defScope sLaw) .none kVsLaw dcsLaw pmsLaw ansLaw cdsLaw ctsLaw, fun s v => ?_, fun base KB GB => ?_⟩
  rotate_left
  · have O : Core l.prog w K mg base C CN fN := ⟨T, ⟨_, _, ok_isint FsIsInt T, msIsInt, ksIsInt, bsIsInt⟩, ⟨_, _, ok_gcd FsGcd T, msGcd, ksGcd, bsGcd⟩, ⟨_, ok_nr FNR T, bNR⟩⟩
    have O2 : Core2 l.prog w K mg base C CN fN := ⟨O, _, _, ok_init FIn O, ⟨mk, aIn, iIn, kc⟩, bIn3, bIn2⟩
    have T4 : Txt4 mg := ⟨⟨tkP, PySem.W.mg_of X G gMP⟩, ⟨tkQ, PySem.W.mg_of X G gMD⟩, ⟨tkG, PySem.W.mg_of X G gDG⟩, PySem.W.mg_none_of X G zstr, PySem.W.mg_none_of X G zall⟩
    have O4 : Core4 l.prog w K mg base C CN fN := ⟨O2, T4, ⟨_, _, ok_isintW FsIsInt T, msIsInt, ksIsInt, bsIsInt⟩, ⟨_, _, ok_mult FsMult T.gRange, msMult, ksMult, bsMult⟩⟩
    have mPw : Meth K C "power" fsPower := ⟨asPower, isPower, ksPower⟩
    have mTx : Meth K C "text" fsText := ⟨asText, isText, ksText⟩
    have gPw := ok_power (P := l.prog) (w := w) (base := base) FsPower O4
    have gTx := ok_text (P := l.prog) (w := w) (base := base) FsText T T4.gStr
    have D : LawD l.prog w K mg base := ⟨B, _, _, ok_draw FsDraw B, msDraw, ksDraw, bsDraw⟩
    have V : LawE l.prog w K mg base C CN fN := ⟨T, ⟨_, _, ok_lint FsLInt T, msLInt, ksLInt, bsLInt⟩, ⟨_, _, ok_ldiv FsLDiv T, msLDiv, ksLDiv, bsLDiv⟩⟩
    have W4 : Law4 l.prog w K mg base C CN fN := ⟨T, ⟨_, _, ok_lintW FsLInt T, msLInt, ksLInt, bsLInt⟩, ⟨_, _, ok_isr FsIsR V, msIsR, ksIsR, bsIsR⟩, ⟨_, _, ok_prod FsProd T.gRange, msProd, ksProd, bsProd⟩, ⟨_, _, mPw, gPw, bsPower⟩⟩
    have PO : PowOk l.prog w K mg base C (L2.CX l.prog w) 6 (spPower C CN) := ⟨fsPowM, _, _, WPow, ok_powm FsPowM T mPw gPw bsPower, bsPowM⟩
    have SM : SMet K C mcC "read" pSt fsRead := ⟨sTy, sRdd, sGa, sAt, ⟨restS, sRc⟩, sHd, ksRead⟩
    exact ok_law FsLaw {
      O2 := O2, gS := T4.gStr
      isr := W4.isr
      start := ⟨_, _, ok_start FsStart B, msStart, ksStart, bsStart⟩
      draw := D.draw
      far := ⟨_, _, ok_far FsFar D T.gRange, msFar, ksFar, bsFar⟩
      div := V.div
      lpow := ⟨_, _, ok_lpow FsLPow W4, msLPow, ksLPow, bsLPow⟩
      signs := ⟨_, _, ok_signs FsSigns ⟨W4, PO⟩, msSigns, ksSigns, bsSigns⟩
      writ := ⟨_, _, ok_writ FsWrit T4.gStr, msWrit, ksWrit, bsWrit⟩
      text := ⟨_, _, mTx, gTx, bsText⟩
      read := ⟨mcC, pSt, fsRead, _, SM, ok_read FsRead O2 T4 ⟨_, _, ok_isdg FsIsDg T4 T.gLen, msIsDg, ksIsDg, bsIsDg⟩ ⟨_, _, mTx, gTx, bsText⟩, bsRead⟩ }
  · exact .of_eq rfl
end Pt
open PySem PySem.W PyProof.Rows
set_option maxRecDepth 100000 in
set_option maxHeartbeats 0 in
theorem PySem.Challenge.cw_partstell_k04_ratio_powers_and_texts_holds : PySem.Challenge.rw_partstell_k04_ratio_powers_and_texts.Holds := by
  w_on; o_law; k_head; (case hw => w_witness2)
  k_fill
  refine L2.walk_of (l := PySem.Challenge.rw_partstell_k04_ratio_powers_and_texts) (n := 63) (k := 9) (x := "_law_script") (CX := fun _ => L2.CX0) (sp := fun w => Pt.spLaw _) rfl (by decide) rfl ⟨rfl, by decide, by decide⟩ (fun w h Y => PySem.W.kIn_of Y) ?F (fun _ _ a ns hl _ hS => ⟨a, ns, rfl, hS, hl, fun _ => rfl⟩) (fun _ _ _ _ _ z => z)
  case F =>
    intro w mg fa h KX G hmg
    refine' Pt.all_mk KX G hmg ?aC ?pg ?hd ?po ?sa ?mk ?kc ?nT ?nB ?cA ?cN ?cK ?cM ?sF ?hcd ?hmro ?sb1 ?sb2 ?iCI ?iIC ?iCC ?aN ?xL ?saN ?gaN ?ggN ?nwN ?iiN ?tiN ?kCN ?eCN ?tCN ?hCN ?iCN ?sCN ?lNR ?cNR ?kNR ?aIn ?iIn ?lIn ?cIn ?kIn ?lTD ?sTy ?sRdd ?sGa ?sAt ?sRc ?sHd ?asIsInt ?lsIsInt ?csIsInt ?ksIsInt ?asGcd ?lsGcd ?csGcd ?ksGcd ?asMult ?lsMult ?csMult ?ksMult ?asIsDg ?lsIsDg ?csIsDg ?ksIsDg ?asStart ?lsStart ?csStart ?ksStart ?asDraw ?lsDraw ?csDraw ?ksDraw ?asFar ?lsFar ?csFar ?ksFar ?asLInt ?lsLInt ?csLInt ?ksLInt ?asLDiv ?lsLDiv ?csLDiv ?ksLDiv ?asIsR ?lsIsR ?csIsR ?ksIsR ?asProd ?lsProd ?csProd ?ksProd ?asLPow ?lsLPow ?csLPow ?ksLPow ?asSigns ?lsSigns ?csSigns ?ksSigns ?asWrit ?lsWrit ?csWrit ?ksWrit ?asLaw ?lsLaw ?csLaw ?ksLaw ?asPowM ?isPowM ?lsPowM ?csPowM ?ksPowM ?asPower ?isPower ?lsPower ?csPower ?ksPower ?asText ?isText ?lsText ?csText ?ksText ?lsRead ?csRead ?ksRead ?o1Pow ?o2Pow ?o3Pow ?gMP ?gMD ?gDG ?zint ?zbool ?zisinstance ?zabs ?zlen ?zrange ?zstr ?zall
    (case aC => k_is)
    (case pg => k_is)
    (case hd => k_is)
    (case po => k_is)
    (case sa => k_is)
    (case mk => k_is)
    (case kc => k_is)
    (case nT => k_is)
    (case nB => k_is)
    (case cA => k_is)
    (case cN => k_is)
    (case cK => k_is)
    (case cM => k_is)
    (case sF => k_is)
    (case hcd => k_is)
    (case hmro => exact rfl)
    (case sb1 => k_is)
    (case sb2 => k_is)
    (case iCI => kit_is)
    (case iIC => kit_is)
    (case iCC => kit_is)
    (case aN => k_is)
    (case xL => k_is)
    (case saN => k_is)
    (case gaN => k_is)
    (case ggN => k_is)
    (case nwN => k_is)
    (case iiN => k_is)
    (case tiN => k_is)
    (case kCN => k_is)
    (case eCN => k_is)
    (case tCN => k_is)
    (case hCN => k_is)
    (case iCN => k_is)
    (case sCN => first | rfl | k_is)
    (case lNR => k_is)
    (case cNR => k_is)
    (case kNR => k_is)
    (case aIn => k_is)
    (case iIn => k_is)
    (case lIn => k_is)
    (case cIn => k_is)
    (case kIn => k_is)
    (case lTD => k_is)
    (case sTy => k_is)
    (case sRdd => k_is)
    (case sGa => k_is)
    (case sAt => k_is)
    (case sRc => k_is)
    (case sHd => first | rfl | k_is)
    (case asIsInt => k_is)
    (case lsIsInt => k_is)
    (case csIsInt => k_is)
    (case ksIsInt => k_is)
    (case asGcd => k_is)
    (case lsGcd => k_is)
    (case csGcd => k_is)
    (case ksGcd => k_is)
    (case asMult => k_is)
    (case lsMult => k_is)
    (case csMult => k_is)
    (case ksMult => k_is)
    (case asIsDg => k_is)
    (case lsIsDg => k_is)
    (case csIsDg => k_is)
    (case ksIsDg => k_is)
    (case asStart => k_is)
    (case lsStart => k_is)
    (case csStart => k_is)
    (case ksStart => k_is)
    (case asDraw => k_is)
    (case lsDraw => k_is)
    (case csDraw => k_is)
    (case ksDraw => k_is)
    (case asFar => k_is)
    (case lsFar => k_is)
    (case csFar => k_is)
    (case ksFar => k_is)
    (case asLInt => k_is)
    (case lsLInt => k_is)
    (case csLInt => k_is)
    (case ksLInt => k_is)
    (case asLDiv => k_is)
    (case lsLDiv => k_is)
    (case csLDiv => k_is)
    (case ksLDiv => k_is)
    (case asIsR => k_is)
    (case lsIsR => k_is)
    (case csIsR => k_is)
    (case ksIsR => k_is)
    (case asProd => k_is)
    (case lsProd => k_is)
    (case csProd => k_is)
    (case ksProd => k_is)
    (case asLPow => k_is)
    (case lsLPow => k_is)
    (case csLPow => k_is)
    (case ksLPow => k_is)
    (case asSigns => k_is)
    (case lsSigns => k_is)
    (case csSigns => k_is)
    (case ksSigns => k_is)
    (case asWrit => k_is)
    (case lsWrit => k_is)
    (case csWrit => k_is)
    (case ksWrit => k_is)
    (case asLaw => k_is)
    (case lsLaw => k_is)
    (case csLaw => k_is)
    (case ksLaw => k_is)
    (case asPowM => k_is)
    (case isPowM => k_is)
    (case lsPowM => k_is)
    (case csPowM => k_is)
    (case ksPowM => k_is)
    (case asPower => k_is)
    (case isPower => k_is)
    (case lsPower => k_is)
    (case csPower => k_is)
    (case ksPower => k_is)
    (case asText => k_is)
    (case isText => k_is)
    (case lsText => k_is)
    (case csText => k_is)
    (case ksText => k_is)
    (case lsRead => k_is)
    (case csRead => k_is)
    (case ksRead => k_is)
    (case o1Pow => k_is)
    (case o2Pow => k_is)
    (case o3Pow => k_is)
    (case gMP => k_is)
    (case gMD => k_is)
    (case gDG => k_is)
    (case zint => k_is)
    (case zbool => k_is)
    (case zisinstance => k_is)
    (case zabs => k_is)
    (case zlen => k_is)
    (case zrange => k_is)
    (case zstr => k_is)
    (case zall => k_is)
#print axioms PySem.Challenge.cw_partstell_k04_ratio_powers_and_texts_holds

