import PyProof.Rows.All
import Wide.All
import OpenK.AllK
import Wide.FinOn
import HandS.ForMost
import HandS.ForExc
import HandS.Wide
import HandS.IsInst
import HandS.Defaults
import HandS.ExcInit
import HandS.ExcField
import HandS.Flow
import HandS.Style
import HandS.OwnEq
import HandS.RaiseOp
import PyProof.ListMulRoad
import PyProof.FactsAll.int
import HandS.TupAny
import HandS.CallSlots
import HandS.NoneIn
import HandS.TryOnly
import HandS.TryMany
import KE.KExcIs
import HandS.ExcIs
import HandS.Star
import HandS.Strs
import HandS.Text
import KE.GoesEnum
import HandS.SetFor
import HandS.HotCalls
import HandS.ExcValue
import KE.KExcMore
import KE.KEqDict
import PySem.Challenge.RW_partstell_k98_further_errors_told
import HandS.FStr
set_option Elab.async false
set_option linter.all false
set_option maxRecDepth 100000
set_option maxHeartbeats 4000000
set_option exponentiation.threshold 100000
/-! Operators of an own class, with ints on either side. -/
namespace Pt
open PySem PySem.Spec PyProof.Rows L2
open Builtin
/-- an object that is no int -/
def plainObj (C dx : Addr) : Obj := PySem.W.instObj C dx
section
variable (a : Int) (t : Tok) (l C dx : Addr)
abbrev Decl (B : Builtin) (a : Int) (t : Tok) (l C dx : Addr) : Prop := Meets (B ⟨[.int a t, .ref l], []⟩) (fun _ R s => s.heap.get? l = some (PySem.W.instObj C dx) ∧ R (.ok (.ret Value.notImplemented)) s)
theorem dec_add : Decl Builtin.«int.__add__» a t l C dx := .of_wp fun prog w A R s h => by
  obtain ⟨hp, g, d, tk, os⟩ := s; obtain ⟨hl, h⟩ := h; unfold PySem.W.instObj at hl; wp_walk; exact ⟨_, rfl, h⟩
theorem dec_sub : Decl Builtin.«int.__sub__» a t l C dx := .of_wp fun prog w A R s h => by
  obtain ⟨hp, g, d, tk, os⟩ := s; obtain ⟨hl, h⟩ := h; unfold PySem.W.instObj at hl; wp_walk; exact ⟨_, rfl, h⟩
theorem dec_mul : Decl Builtin.«int.__mul__» a t l C dx := .of_wp fun prog w A R s h => by
  obtain ⟨hp, g, d, tk, os⟩ := s; obtain ⟨hl, h⟩ := h; unfold PySem.W.instObj at hl; wp_walk; exact ⟨_, rfl, h⟩
theorem dec_mod : Decl Builtin.«int.__mod__» a t l C dx := .of_wp fun prog w A R s h => by
  obtain ⟨hp, g, d, tk, os⟩ := s; obtain ⟨hl, h⟩ := h; unfold PySem.W.instObj at hl; wp_walk; exact ⟨_, rfl, h⟩
theorem dec_floordiv : Decl Builtin.«int.__floordiv__» a t l C dx := .of_wp fun prog w A R s h => by
  obtain ⟨hp, g, d, tk, os⟩ := s; obtain ⟨hl, h⟩ := h; unfold PySem.W.instObj at hl; wp_walk; exact ⟨_, rfl, h⟩
theorem dec_lt : Decl Builtin.«int.__lt__» a t l C dx := .of_wp fun prog w A R s h => by
  obtain ⟨hp, g, d, tk, os⟩ := s; obtain ⟨hl, h⟩ := h; unfold PySem.W.instObj at hl; wp_walk; exact ⟨_, rfl, h⟩
theorem dec_le : Decl Builtin.«int.__le__» a t l C dx := .of_wp fun prog w A R s h => by
  obtain ⟨hp, g, d, tk, os⟩ := s; obtain ⟨hl, h⟩ := h; unfold PySem.W.instObj at hl; wp_walk; exact ⟨_, rfl, h⟩
theorem dec_gt : Decl Builtin.«int.__gt__» a t l C dx := .of_wp fun prog w A R s h => by
  obtain ⟨hp, g, d, tk, os⟩ := s; obtain ⟨hl, h⟩ := h; unfold PySem.W.instObj at hl; wp_walk; exact ⟨_, rfl, h⟩
theorem dec_ge : Decl Builtin.«int.__ge__» a t l C dx := .of_wp fun prog w A R s h => by
  obtain ⟨hp, g, d, tk, os⟩ := s; obtain ⟨hl, h⟩ := h; unfold PySem.W.instObj at hl; wp_walk; exact ⟨_, rfl, h⟩
theorem dec_eq : Decl Builtin.«int.__eq__» a t l C dx := .of_wp fun prog w A R s h => by
  obtain ⟨hp, g, d, tk, os⟩ := s; obtain ⟨hl, h⟩ := h; unfold PySem.W.instObj at hl; wp_walk; exact ⟨_, rfl, h⟩
theorem dec_ne : Decl Builtin.«int.__ne__» a t l C dx := .of_wp fun prog w A R s h => by
  obtain ⟨hp, g, d, tk, os⟩ := s; obtain ⟨hl, h⟩ := h; unfold PySem.W.instObj at hl; wp_walk; exact ⟨_, rfl, h⟩
end
end Pt
namespace Pt
open PySem PySem.Spec PyProof.Rows L2
open PySem.W (findIn isFn subIn selfFirst Looks looks_findIn looks_subIn looks_clsIn clsIn InstAt special_fn fills_K)
/-- what an int declines: the place of an operator's method in int -/
structure IntDec (nm : Str) (f : Str) where
  id : String
  B : Builtin
  slot : Slot "int" f id
  entry : entryFor table id = some B
  args : ∀ a b, argsOk id ⟨[a, b], []⟩
  dec : ∀ a t l C dx, Decl B a t l C dx
section
variable {prog : Program} {w : World} {A : Around} {E : Value → Shared → Prop} {s : Shared} {K : PySem.W.Frag} {x C f : Addr} {ox : Obj} {od : Option Obj} {nm : Str}
theorem int_declines {fn : Str} (D : IntDec nm fn) {i : Int} {t : Tok} {dx : Addr} {Q : Value → Shared → Prop} (h : s.heap.get? x = some (PySem.W.instObj C dx)) (q : Q .notImplemented s) :
    wpAny (model prog w) A (call (.builtin D.id) [.int i t, .ref x]) Q E s :=
  call_meets D.slot (typeIs_int s i t) D.entry (D.args _ _) (D.dec i t x C dx) ⟨h, q⟩

/-- what an operator of the class at C is: its own method g, the reflected one f -/
structure OwnBin (K : PySem.W.Frag) (C : Addr) (op : Operator) (g : Addr) (rc : Option Value) : Prop where
  first : selfFirst K C = true
  mro : ∃ cd, clsIn K C = some cd ∧ cd.mro = [.ref C, .type "object"]
  here : findIn K (.ref C) (PySem.dunder op.info.2) = some (some (.ref g))
  fn : isFn K (.ref g) = true
  refl : findIn K (.ref C) (dunderR op.info.2) = some rc
  kind : rc = none ∨ ∃ f : Addr, rc = some (.ref f) ∧ isFn K (.ref f) = true
  noI : findIn K (.ref C) (dunderI op.info.2) = some none
  sub1 : subIn K (.ref C) (.type "int") = some false
  sub2 : subIn K (.type "int") (.ref C) = some false
/-- int, as operand of it -/
structure IntBin (op : Operator) where
  D : IntDec op.info.2 (PySem.dunder op.info.2)
  fills : fillsNumberSlot (.type "int") op.info.2 = pure true
  noI : typeLookup (.type "int") (dunderI op.info.2) = pure none
  ro : Option Value
  refl : typeLookup (.type "int") (dunderR op.info.2) = pure ro
abbrev Gets (Q : Value → Shared → Prop) : Option Value → Shared → Prop := fun r s' => ∃ v, r = some v ∧ Q v s'
theorem bin1_own_own {op : Operator} {rc : Option Value} {b : Value} {Q : Value → Shared → Prop} (X : K.In s.heap) (I : InstAt s.heap x ox C od) (hb : Looks (model prog w) s.heap (typeOf b) (.ref C)) (T : OwnBin K C op g rc)
    (h : wpAny (model prog w) A (call (.ref g) [.ref x, b]) (PySem.W.CmpBack Q) E s) : wpAny (model prog w) A (binaryOp1 op.info.2 (.ref x) b) (Gets Q) E s := by
  obtain ⟨cd, rest, hcd, hm⟩ := PySem.W.ksp_first T.first
  have hs := T.here
  generalize op.info.2 = nm' at hs
  have one := PySem.W.ksp_try X I hs T.fn h
  obtain ⟨hh, g', d, tt, os⟩ := s
  have Ta : Looks (model prog w) hh (typeOf (.ref x)) (.ref C) := I.type
  have Fa : Looks (model prog w) hh (fillsNumberSlot (.ref C) nm') true := fills_K X hcd hm hs
  unfold binaryOp1
  refine wpAny_bind (Ta.at (wpAny_bind (hb.at (wpAny_bind (Fa.at ?_)))))
  simp only [beq_self_eq_true, if_true, pure_bind, Bool.and_false, Bool.false_eq_true, if_false, Bool.false_and]
  refine wpAny_bind (wpAny_mono one (fun r s' hr' => ?_) fun _ _ e => e)
  obtain ⟨v, rfl, hq⟩ := hr'
  exact wpAny_pure ⟨v, rfl, hq⟩
theorem bin1_own_int {op : Operator} {rc : Option Value} {i : Int} {t : Tok} {Q : Value → Shared → Prop} (X : K.In s.heap) (I : InstAt s.heap x ox C od) (T : OwnBin K C op g rc) (Z : IntBin op)
    (h : wpAny (model prog w) A (call (.ref g) [.ref x, .int i t]) (PySem.W.CmpBack Q) E s) : wpAny (model prog w) A (binaryOp1 op.info.2 (.ref x) (.int i t)) (Gets Q) E s := by
  obtain ⟨cd, rest, hcd, hm⟩ := PySem.W.ksp_first T.first
  have hs := T.here
  have hr := T.refl
  have hp : rc = none ∨ ∃ f : Addr, rc = some (.ref f) := T.kind.imp id fun ⟨f, e, _⟩ => ⟨f, e⟩
  have hfi := Z.fills
  have hro := Z.refl
  generalize Z.ro = ro at hro
  generalize op.info.2 = nm' at hs hr hfi hro
  have one := PySem.W.ksp_try X I hs T.fn h
  obtain ⟨hh, g', d, tt, os⟩ := s
  have Ta : Looks (model prog w) hh (typeOf (.ref x)) (.ref C) := I.type
  have Tb : Looks (model prog w) hh (typeOf (.int i t)) (.type "int") := Looks.of_pure rfl
  have Fa : Looks (model prog w) hh (fillsNumberSlot (.ref C) nm') true := fills_K X hcd hm hs
  have Fb : Looks (model prog w) hh (fillsNumberSlot (.type "int") nm') true := Looks.of_pure hfi
  have Sb : Looks (model prog w) hh (isSubtype (.type "int") (.ref C)) false := looks_subIn X T.sub2
  have Pa : Looks (model prog w) hh (numberSlotInPython (.ref C) nm') true := PySem.W.ksp_inPy X hs hr hp
  have Pb : Looks (model prog w) hh (numberSlotInPython (.type "int") nm') false := Looks.of_pure rfl
  have Rb : Looks (model prog w) hh (typeLookup (.type "int") (dunderR nm')) ro := Looks.of_pure hro
  have hne : (Value.ref C == Value.type "int") = false := Bool.eq_false_iff.mpr fun q => by cases beq_iff_eq.mp q
  unfold binaryOp1
  refine wpAny_bind (Ta.at (wpAny_bind (Tb.at (wpAny_bind (Fa.at ?_)))))
  simp only [hne, Bool.false_eq_true, if_false]
  refine wpAny_bind (Fb.at ?_)
  simp only [Bool.and_self, if_true]
  refine wpAny_bind (Sb.at ?_)
  simp only [Bool.false_eq_true, if_false, pure_bind, Bool.not_false, Bool.and_self, if_true]
  refine wpAny_bind (Pa.at ?_)
  simp only [if_true]
  refine wpAny_bind (Pb.at ?_)
  simp only [Bool.not_false, if_true]
  refine wpAny_bind (Rb.at ?_)
  refine wpAny_bind (wpAny_mono one (fun r s' hr' => ?_) fun _ _ e => e)
  obtain ⟨v, rfl, hq⟩ := hr'
  exact wpAny_pure ⟨v, rfl, hq⟩
theorem bin1_int_own {op : Operator} {i : Int} {t : Tok} {dx : Addr} {Q : Value → Shared → Prop} (X : K.In s.heap) (I : InstAt s.heap x (PySem.W.instObj C dx) C od) (T : OwnBin K C op g (some (.ref f))) (hf : isFn K (.ref f) = true) (Z : IntBin op)
    (h : wpAny (model prog w) A (call (.ref f) [.ref x, .int i t]) (PySem.W.CmpBack Q) E s) : wpAny (model prog w) A (binaryOp1 op.info.2 (.int i t) (.ref x)) (Gets Q) E s := by
  obtain ⟨cd, rest, hcd, hm⟩ := PySem.W.ksp_first T.first
  have hs := T.here
  have hr := T.refl
  have hfi := Z.fills
  obtain ⟨id, B, slot, entry, args, dec⟩ := Z.D
  generalize op.info.2 = nm' at hs hr hfi slot
  have one := PySem.W.ksp_try X I hr hf h
  have decl : ∀ {Q' : Option Value → Shared → Prop}, Q' none s → wpAny (model prog w) A (tryMethod (.int i t) (PySem.dunder nm') (.ref x)) Q' E s := fun {Q'} q =>
    wpAny_tryMethod_declines (typeIs_int s i t) slot (call_meets slot (typeIs_int s i t) entry (args _ _) (dec i t x C dx) ⟨I.at_, rfl, q⟩)
  obtain ⟨hh, g', d, tt, os⟩ := s
  have Tx : Looks (model prog w) hh (typeOf (.ref x)) (.ref C) := I.type
  have Ti : Looks (model prog w) hh (typeOf (.int i t)) (.type "int") := Looks.of_pure rfl
  have Fx : Looks (model prog w) hh (fillsNumberSlot (.ref C) nm') true := fills_K X hcd hm hs
  have Fi : Looks (model prog w) hh (fillsNumberSlot (.type "int") nm') true := Looks.of_pure hfi
  have Sx : Looks (model prog w) hh (isSubtype (.ref C) (.type "int")) false := looks_subIn X T.sub1
  have Pi : Looks (model prog w) hh (numberSlotInPython (.type "int") nm') false := Looks.of_pure rfl
  have hne : (Value.type "int" == Value.ref C) = false := Bool.eq_false_iff.mpr fun q => by cases beq_iff_eq.mp q
  unfold binaryOp1
  refine wpAny_bind (Ti.at (wpAny_bind (Tx.at (wpAny_bind (Fi.at ?_)))))
  simp only [hne, Bool.false_eq_true, if_false]
  refine wpAny_bind (Fx.at ?_)
  simp only [Bool.and_self, if_true]
  refine wpAny_bind (Sx.at ?_)
  simp only [Bool.false_eq_true, if_false, pure_bind, Bool.not_false, Bool.and_self, if_true]
  refine wpAny_bind (Pi.at ?_)
  simp only [Bool.false_eq_true, if_false, pure_bind]
  refine wpAny_bind (decl ?_)
  simp only [pure_bind, Bool.false_eq_true, if_false, if_true]
  refine wpAny_bind (wpAny_mono one (fun r s' hr' => ?_) fun _ _ e => e)
  obtain ⟨v, rfl, hq⟩ := hr'
  exact wpAny_bind (wpAny_rule (wpAny_pure ⟨v, rfl, hq⟩))
theorem bin_of1 {op : Operator} {a b : Value} {Q : Value → Shared → Prop} (h : wpAny (model prog w) A (binaryOp1 op.info.2 a b) (Gets Q) E s) : wpAny (model prog w) A (binaryOp op a b) Q E s := by
  rcases hi : op.info with ⟨sym, nm'⟩
  rw [hi] at h
  simp only [binaryOp, hi]
  refine wpAny_holding (wpAny_bind (wpAny_mono h (fun r s' hr' => ?_) fun _ _ e => e))
  obtain ⟨v, rfl, hq⟩ := hr'
  exact wpAny_pure hq
theorem inp_of1 {op : Operator} {a b ta : Value} {Q : Value → Shared → Prop} (Ta : Looks (model prog w) s.heap (typeOf a) ta) (Fi : Looks (model prog w) s.heap (fillsInplaceSlot ta op.info.2 (op == .Add)) false)
    (h : wpAny (model prog w) A (binaryOp1 op.info.2 a b) (Gets Q) E s) : wpAny (model prog w) A (inplaceOp op a b) Q E s := by
  obtain ⟨hh, g', d, tt, os⟩ := s
  unfold inplaceOp
  refine wpAny_holding (wpAny_bind (Ta.at (wpAny_bind (Fi.at ?_))))
  simp only [Bool.false_eq_true, if_false, pure_bind]
  refine wpAny_bind (wpAny_mono h (fun r s' hr' => ?_) fun _ _ e => e)
  obtain ⟨v, rfl, hq⟩ := hr'
  exact wpAny_pure hq
theorem noI_own {M : Model} {h : Heap} {op : Operator} {rc : Option Value} (X : K.In h) (T : OwnBin K C op g rc) (hO : typeLookup (.type "object") (dunderI op.info.2) = pure none) : Looks M h (fillsInplaceSlot (.ref C) op.info.2 (op == .Add)) false := by
  obtain ⟨cd, hcd, hm⟩ := T.mro
  intro A Q E s k q
  have Lm : Looks M h (mroOf (.ref C)) cd.mro := (looks_clsIn X hcd).andThen (f := fun cd => pure cd.mro) .now
  have Lm' := Lm.keeps k
  have L1 : Looks M h (typeLookup (.ref C) (dunderI op.info.2)) none := looks_findIn X T.noI
  have L1' := L1.keeps k
  have L2 : Looks M s.heap (typeLookup (.type "object") (dunderI op.info.2)) none := Looks.of_pure hO
  unfold fillsInplaceSlot
  refine wpAny_bind (Lm'.at ?_)
  rw [hm, List.anyM_cons]
  refine wpAny_bind (wpAny_bind (L1'.at ?_))
  refine wpAny_pure ?_
  simp only [Bool.false_eq_true, if_false]
  rw [List.anyM_cons]
  refine wpAny_bind (wpAny_bind (L2.at ?_))
  refine wpAny_pure ?_
  simp only [Bool.false_eq_true, if_false]
  exact wpAny_pure q
theorem noI_int {M : Model} {h : Heap} {op : Operator} (Z : IntBin op) : Looks M h (fillsInplaceSlot (.type "int") op.info.2 (op == .Add)) false := by
  refine Looks.of_pure ?_
  unfold fillsInplaceSlot
  show (typeLookup (.type "int") (dunderI op.info.2) >>= fun fi => pure (fi.isSome && !isSeqSlot fi)) = pure false
  rw [Z.noI]
  rfl
/-! comparisons -/
theorem cmp_int_own {op : CmpOp} {i : Int} {t : Tok} {dx : Addr} {Q : Value → Shared → Prop} (hu : A.units < cLine) (X : K.In s.heap) (I : InstAt s.heap x (PySem.W.instObj C dx) C od) (D : IntDec (cmpInfo op).2.1 (cmpInfo op).2.1)
    (hs : findIn K (.ref C) (cmpInfo op).2.2 = some (some (.ref f))) (hf : isFn K (.ref f) = true) (hsub : subIn K (.ref C) (.type "int") = some false)
    (h : wpAny (model prog w) A (call (.ref f) [.ref x, .int i t]) (PySem.W.CmpBack Q) E s) : wpAny (model prog w) A (richCompare op (.int i t) (.ref x)) Q E s := by
  have two : wpAny (model prog w) A (tryCompare (.ref x) (cmpInfo op).2.2 (.int i t)) (fun r s' => ∃ v, r = some v ∧ Q v s') E s := by
    unfold tryCompare
    refine wpAny_bind (PySem.W.ifBound_K X I hs hf (wpAny_mono h (fun v s' hv => ?_) fun _ _ e => e))
    cases v <;> first | exact hv.elim | exact wpAny_pure ⟨_, rfl, hv⟩
  have hs1 := D.slot
  have e1 := D.entry
  have a1 := D.args
  have d1 := D.dec
  rcases hi : cmpInfo op with ⟨sym, fa, fb⟩
  have decl : ∀ {Q' : Option Value → Shared → Prop}, Q' none s → wpAny (model prog w) A (tryCompare (.int i t) (cmpInfo op).2.1 (.ref x)) Q' E s := fun {Q'} q =>
    wpAny_tryCompare_declines (typeIs_int s i t) hs1 (call_meets hs1 (typeIs_int s i t) e1 (a1 _ _) (d1 i t x C dx) ⟨I.at_, rfl, q⟩)
  rw [hi] at decl two
  have Sx : Looks (model prog w) s.heap (isSubtype (.ref C) (.type "int")) false := looks_subIn X hsub
  have hne : (Value.type "int" != Value.ref C) = true := by
    show (!(Value.type "int" == Value.ref C)) = true
    rw [show (Value.type "int" == Value.ref C) = false from Bool.eq_false_iff.mpr fun q => by cases beq_iff_eq.mp q]
    rfl
  simp only [richCompare, hi, (typeIs_int s i t).oneThing_none]
  refine wpAny_holding (wpAny_bind (wpAny_cRoomFor hu ?_))
  refine wpAny_bind (wpAny_typeOf (typeIs_int s i t) (wpAny_bind (I.type.here ?_)))
  simp only [hne, if_true]
  refine wpAny_bind (Sx.here ?_)
  simp only [Bool.false_eq_true, if_false, Bool.not_false, if_true]
  refine wpAny_bind (decl ?_)
  refine wpAny_bind (wpAny_mono two (fun r s' z => ?_) fun _ _ e => e)
  obtain ⟨v, rfl, hq⟩ := z
  exact wpAny_pure hq
end
end Pt
namespace Pt
open PySem PySem.Spec PyProof.Rows L2
open PySem.W (findIn isFn subIn selfFirst Looks looks_findIn looks_subIn looks_clsIn clsIn InstAt special_fn fills_K)
/-! ints as operands -/
def intAdd : IntBin .Add := ⟨⟨_, _, F.slot_int_add, F.entry_int_add, F.args_int_add_2, dec_add⟩, F.fills_int_add, F.noI_int_add, _, F.slot_int_radd.lookup⟩
def intSub : IntBin .Sub := ⟨⟨_, _, F.slot_int_sub, F.entry_int_sub, F.args_int_sub_2, dec_sub⟩, F.fills_int_sub, F.noI_int_sub, _, F.slot_int_rsub.lookup⟩
def intMul : IntBin .Mult := ⟨⟨_, _, F.slot_int_mul, F.entry_int_mul, F.args_int_mul_2, dec_mul⟩, F.fills_int_mul, F.noI_int_mul, _, F.slot_int_rmul.lookup⟩
def intMod : IntBin .Mod := ⟨⟨_, _, F.slot_int_mod, F.entry_int_mod, F.args_int_mod_2, dec_mod⟩, F.fills_int_mod, F.noI_int_mod, _, F.slot_int_rmod.lookup⟩
def intFloor : IntBin .FloorDiv := ⟨⟨_, _, F.slot_int_floordiv, F.entry_int_floordiv, F.args_int_floordiv_2, dec_floordiv⟩, F.fills_int_floordiv, F.noI_int_floordiv, _, F.slot_int_rfloordiv.lookup⟩
def icLt : IntDec (cmpInfo .Lt).2.1 (cmpInfo .Lt).2.1 := ⟨_, _, F.slot_int_lt, F.entry_int_lt, F.args_int_lt_2, dec_lt⟩
def icLe : IntDec (cmpInfo .LtE).2.1 (cmpInfo .LtE).2.1 := ⟨_, _, F.slot_int_le, F.entry_int_le, F.args_int_le_2, dec_le⟩
def icGt : IntDec (cmpInfo .Gt).2.1 (cmpInfo .Gt).2.1 := ⟨_, _, F.slot_int_gt, F.entry_int_gt, F.args_int_gt_2, dec_gt⟩
def icGe : IntDec (cmpInfo .GtE).2.1 (cmpInfo .GtE).2.1 := ⟨_, _, F.slot_int_ge, F.entry_int_ge, F.args_int_ge_2, dec_ge⟩
def icEq : IntDec (cmpInfo .Eq).2.1 (cmpInfo .Eq).2.1 := ⟨_, _, F.slot_int_eq, F.entry_int_eq, F.args_int_eq_2, dec_eq⟩
/-! the rules -/
def OwnV (C : Addr) (H : Hp) (x : V) : Prop := ∃ a dx fs, x = V.ref a ∧ H a = some (.ins C dx fs)
structure BinOk (P : Program) (w : World) (K : PySem.W.Frag) (mg : Str → Option Value) (base : Heap) (C : Addr) (op : Operator) (CX : CXT) (k : Nat) (sp spr : Sp) : Prop where
  ex : ∃ (g f : Addr) (fd fdr : FuncData) (ps psr : List Str), OwnBin K C op g (some (.ref f)) ∧ isFn K (.ref f) = true ∧ FnOk P w K mg base CX k g fd ps sp ∧ Binds K fd ps [] ∧ FnOk P w K mg base CX k f fdr psr spr ∧ Binds K fdr psr []
section
variable {X : Cx} {C g f : Addr} {op : Operator} {CX : CXT} {k : Nat} {sp spr : Sp} {pins : List (Addr × Obj)} {σ : L2.St} {H : Hp} {s : Shared} {Q : VK} {E : XK} {x y : V} {u v : Value}
theorem vv1 (rx : RelV x u) : Vals [x] [u] := .cons rx .nil
theorem vv2 (rx : RelV x u) (ry : RelV y v) : Vals [x, y] [u, v] := .cons rx (.cons ry .nil)
theorem back_ep {z : Value} {s' : Shared} (h : EP X pins σ Q z s') : PySem.W.CmpBack (EP X pins σ Q) z s' := by
  cases z with
  | notImplemented =>
    obtain ⟨v, H', _, r, _⟩ := h
    cases v with
    | non => exact nomatch (show Value.notImplemented = Value.none from r)
    | bl b => exact nomatch (show Value.notImplemented = Value.bool b from r)
    | int i => obtain ⟨t, e⟩ := (show ∃ t, Value.notImplemented = Value.int i t from r); cases e
    | str i => obtain ⟨t, e⟩ := (show ∃ t, Value.notImplemented = Value.str i t from r); cases e
    | byt i => obtain ⟨t, e⟩ := (show ∃ t, Value.notImplemented = Value.bytes i t from r); cases e
    | flt i => obtain ⟨t, e⟩ := (show ∃ t, Value.notImplemented = Value.float i t from r); cases e
    | ref a => exact nomatch (show Value.notImplemented = Value.ref a from r)
    | ty n => exact nomatch (show Value.notImplemented = Value.type n from r)
  | _ => exact h
theorem run_back {fd : FuncData} {ps : List Str} {us : List Value} {vs : List V} (F : FnOk X.prog X.w X.K X.mg X.base CX k f fd ps sp) (hr : Room k X.A) (hb : Binds X.K fd ps []) (hx : PassesAt CX X σ E)
    (I : Inv X pins σ H s) (r : Vals vs us) (h : sp vs H Q E) : wpAny (model X.prog X.w) X.A (call (.ref f) us) (PySem.W.CmpBack (EP X pins σ Q)) X.xe s :=
  wpAny_mono (run_fnS (E := fun _ => E) F hr hb hx I r h) (fun _ _ z => back_ep z) fun _ _ z => z
theorem own_inst (I : Inv X pins σ H s) {a dx : Addr} {fs : List (Str × V)} (e : H a = some (.ins C dx fs)) : ∃ od, InstAt s.heap a (PySem.W.instObj C dx) C (some od) := by
  obtain ⟨mA, J, _⟩ := ins_get I.hok e
  obtain ⟨od, J, _⟩ := J.look
  exact ⟨od, J⟩
theorem run_bin1 (B : BinOk X.prog X.w X.K X.mg X.base C op CX k sp spr) (Z : IntBin op) (hr : Room k X.A) (hx : PassesAt CX X σ E) (I : Inv X pins σ H s) (rx : RelV x u) (ry : RelV y v)
    (h : (OwnV C H x ∧ (OwnV C H y ∨ ∃ j, y = .int j) ∧ sp [x, y] H Q E) ∨ ((∃ i, x = .int i) ∧ OwnV C H y ∧ spr [y, x] H Q E)) :
    wpAny (model X.prog X.w) X.A (binaryOp1 op.info.2 u v) (Gets (EP X pins σ Q)) X.xe s := by
  obtain ⟨g, f, fd, fdr, ps, psr, T, hf, Fg, bg, Ff, bf⟩ := B.ex
  rcases h with ⟨⟨a, dx, fs, rfl, ha⟩, hy, h⟩ | ⟨⟨i, rfl⟩, ⟨b, dy, gs, rfl, hb⟩, h⟩
  · obtain rfl : u = Value.ref a := rx
    obtain ⟨od, J⟩ := own_inst I ha
    rcases hy with ⟨b, dy, gs, rfl, hb⟩ | ⟨j, rfl⟩
    · obtain rfl : v = Value.ref b := ry
      obtain ⟨od', J'⟩ := own_inst I hb
      exact bin1_own_own I.kIn J J'.type T (run_back Fg hr bg hx I (vv2 (x := V.ref a) (y := V.ref b) rfl rfl) h)
    · obtain ⟨t, rfl⟩ : ∃ t, v = Value.int j t := ry
      exact bin1_own_int I.kIn J T Z (run_back Fg hr bg hx I (vv2 (x := V.ref a) (y := V.int j) rfl ⟨t, rfl⟩) h)
  · obtain rfl : v = Value.ref b := ry
    obtain ⟨t, rfl⟩ : ∃ t, u = Value.int i t := rx
    obtain ⟨od, J⟩ := own_inst I hb
    exact bin1_int_own I.kIn J T hf Z (run_back Ff hr bf hx I (vv2 (x := V.ref b) (y := V.int i) rfl ⟨t, rfl⟩) h)
def rBin (r : R2) (C : Addr) (sp spr : Sp) (E : XK) : R2 := fun x y H Q =>
  r x y H Q ∨ (OwnV C H x ∧ (OwnV C H y ∨ ∃ j, y = .int j) ∧ sp [x, y] H Q E) ∨ ((∃ i, x = .int i) ∧ OwnV C H y ∧ spr [y, x] H Q E)
def tBin (r : R2) (C : Addr) (sp spr : Sp) (E : L2.St → XK) (ta tb : TE) : TE := fun σ H Q => ta σ H fun x H1 => tb σ H1 fun y H2 => rBin r C sp spr (E σ) x y H2 Q
def rNo : R2 := fun _ _ _ _ => False
theorem op_no {fn : Value → Value → Sem Value} : OpR X fn rNo := fun _ _ _ _ _ _ _ _ _ _ _ _ h => h.elim
section
variable {r : R2} {a b : Expr} {ta tb : TE} {pos : Pos}
theorem pe_bin {E : L2.St → XK} (ho : OpR X (binaryOp op) r) (B : BinOk X.prog X.w X.K X.mg X.base C op CX k sp spr) (Z : IntBin op) (hr : Room k X.A) (hx : ∀ σ, PassesAt CX X σ (E σ)) (ha : PE X a ta) (hb : PE X b tb) : PE X (.BinOp a op b pos) (tBin r C sp spr E ta tb) := by
  refine ⟨fun pins s σ H Q I h => ?_⟩
  refine wpAny_BinOp (binT ha hb (R := fun x y H2 => rBin r C sp spr (E σ) x y H2 Q) I h fun v u s2 x y H2 I2 rx ry q => ?_)
  rcases q with q | q
  · exact ho pins s2 σ H2 x y v u Q I2 rx ry q
  · exact bin_of1 (run_bin1 B Z hr (hx σ) I2 rx ry q)
theorem objI (op : Operator) (h : typeLookup (.type "object") (dunderI op.info.2) = pure none) : typeLookup (.type "object") (dunderI op.info.2) = pure none := h
theorem ip_bin (hi : PIp X op r) (B : BinOk X.prog X.w X.K X.mg X.base C op CX k sp spr) (Z : IntBin op) (hO : typeLookup (.type "object") (dunderI op.info.2) = pure none) (hr : Room k X.A) (hx : ∀ σ, PassesAt CX X σ E) : PIp X op (rBin r C sp spr E) := by
  intro pins s σ H x y v u Q I rx ry q
  rcases q with q | q
  · exact hi pins s σ H x y v u Q I rx ry q
  · have go := run_bin1 B Z hr (hx σ) I rx ry q
    obtain ⟨g, f, fd, fdr, ps, psr, T, _⟩ := B.ex
    rcases q with ⟨⟨a, dx, fs, rfl, ha⟩, _⟩ | ⟨⟨i, rfl⟩, _⟩
    · obtain rfl : v = Value.ref a := rx
      obtain ⟨od, J⟩ := own_inst I ha
      exact inp_of1 J.type (noI_own I.kIn T hO) go
    · obtain ⟨t, rfl⟩ : ∃ t, v = Value.int i t := rx
      exact inp_of1 (Looks.of_pure rfl) (noI_int Z) go
theorem ip_no : PIp X op (fun _ _ _ _ => False) := fun _ _ _ _ _ _ _ _ _ _ _ _ h => h.elim
/-- -x, +x, ~x of the class -/
structure UnOk (P : Program) (w : World) (K : PySem.W.Frag) (mg : Str → Option Value) (base : Heap) (C : Addr) (nm : Str) (CX : CXT) (k : Nat) (sp : Sp) : Prop where
  ex : ∃ (g : Addr) (fd : FuncData) (ps : List Str), findIn K (.ref C) nm = some (some (.ref g)) ∧ isFn K (.ref g) = true ∧ FnOk P w K mg base CX k g fd ps sp ∧ Binds K fd ps []
def rUnO (C : Addr) (sp : Sp) (E : XK) : V → Hp → VK → Prop := fun x H Q => OwnV C H x ∧ sp [x] H Q E
theorem un_neg_own (B : UnOk X.prog X.w X.K X.mg X.base C "__neg__" CX k sp) (hr : Room k X.A) (hx : ∀ σ, PassesAt CX X σ E) : UnR X (unaryOp .USub) (rUnO C sp E) := by
  intro pins s σ H x v Q I rx ⟨⟨a, dx, fs, e, ha⟩, h⟩
  subst e
  obtain rfl : v = Value.ref a := rx
  obtain ⟨g, fd, ps, hs, hf, F, b⟩ := B.ex
  obtain ⟨od, J⟩ := own_inst I ha
  obtain ⟨m, hF⟩ := I.fr
  exact PySem.W.ksp_neg hF I.ok.mod.kin J hs hf (run_fnS (E := fun _ => E) F hr b (hx σ) I (vv1 (x := V.ref a) rfl) h)
theorem un_pos_own (B : UnOk X.prog X.w X.K X.mg X.base C "__pos__" CX k sp) (hr : Room k X.A) (hx : ∀ σ, PassesAt CX X σ E) : UnR X (unaryOp .UAdd) (rUnO C sp E) := by
  intro pins s σ H x v Q I rx ⟨⟨a, dx, fs, e, ha⟩, h⟩
  subst e
  obtain rfl : v = Value.ref a := rx
  obtain ⟨g, fd, ps, hs, hf, F, b⟩ := B.ex
  obtain ⟨od, J⟩ := own_inst I ha
  obtain ⟨m, hF⟩ := I.fr
  exact PySem.W.ksp_pos hF I.ok.mod.kin J hs hf (run_fnS (E := fun _ => E) F hr b (hx σ) I (vv1 (x := V.ref a) rfl) h)
/-- abs(x) of the class -/
theorem run_in1 {fd : FuncData} {ps : List Str} {us : List Value} {vs : List V} (F : FnOk X.prog X.w X.K X.mg X.base CX k f fd ps sp) (hr : Room (k + 1) X.A) (hb : Binds X.K fd ps []) (hx : PassesAt CX X σ E)
    (I : Inv X pins σ H s) (r : Vals vs us) (h : sp vs H Q E) : wpAny (model X.prog X.w) X.A.in1 (call (.ref f) us) (EP X pins σ Q) X.xe s := by
  have hl : us.length = ps.length := by rw [← r.length]; exact F.len _ _ _ _ h
  have b := hb s us I.kIn (by rw [List.append_nil]; exact hl)
  rw [List.append_nil] at b
  refine wpAny_call (codeAny_mono (F.run X.A.in1 X.stack s H ⟨us, []⟩ us vs Q E hr.in1 I.env0.in1 b r h) fun z s' hq => ?_)
  match z, hq with
  | .error e, hq => exact hx pins H s e s' I hq
  | .ok (.ret u), hq => exact I.after hq
  | .ok .next, hq => exact hq.elim
  | .ok .brk, hq => exact hq.elim
  | .ok .cont, hq => exact hq.elim
theorem call_abs_own (B : UnOk X.prog X.w X.K X.mg X.base C "__abs__" CX k sp) (hr : Room (k + 1) X.A) (hx : ∀ σ, PassesAt CX X σ E) :
    CallR X (.builtin "abs") (fun xs H Q => (∃ i, xs = [.int i] ∧ Q (.int (if i < 0 then -i else i)) H) ∨ ∃ x, xs = [x] ∧ OwnV C H x ∧ sp [x] H Q E) := by
  intro pins s σ H xs us Q I r h
  rcases h with h | ⟨x, e, ⟨a, dx, fs, ex, ha⟩, h⟩
  · exact call_abs pins s σ H xs us Q I r h
  subst e ex
  obtain ⟨u, rfl, ru⟩ := vals1 r
  obtain rfl : u = Value.ref a := ru
  obtain ⟨g, fd, ps, hs, hf, F, b⟩ := B.ex
  obtain ⟨od, J⟩ := own_inst I ha
  refine Calls.call_function_entry PyProof.Rows.kind_abs PyProof.Rows.plain_abs PyProof.Rows.entry_abs (PyProof.Rows.args_abs _) ?_
  unfold Builtin.«abs»
  refine wpAny_bind (m := oneArg "abs" _) (wpAny_pure ?_)
  refine wpAny_bind (m := callSpecial? (.ref a) (Str.ofString "__abs__")) (special_fn I.kIn J hs (beq_iff_eq.mp hf) (wpAny_mono (run_in1 F hr b (hx σ) I (vv1 (x := V.ref a) rfl) h) (fun v s' hv => ?_) fun _ _ e => e))
  exact wpAny_pure ⟨_, rfl, hv⟩
end
end
end Pt
namespace Pt
open PySem PySem.Spec PyProof.Rows L2
open PySem.W (findIn isFn subIn Looks InstAt)
structure CmpOk (P : Program) (w : World) (K : PySem.W.Frag) (mg : Str → Option Value) (base : Heap) (C : Addr) (op : CmpOp) (CX : CXT) (k : Nat) (sp : Sp) : Prop where
  ex : ∃ (g : Addr) (fd : FuncData) (ps : List Str), findIn K (.ref C) (cmpInfo op).2.1 = some (some (.ref g)) ∧ isFn K (.ref g) = true ∧ FnOk P w K mg base CX k g fd ps sp ∧ Binds K fd ps []
  sub : subIn K (.type "int") (.ref C) = some false
def rCmpO (C : Addr) (sp : Sp) (E : XK) : R2 := fun x y H Q => OwnV C H x ∧ (OwnV C H y ∨ ∃ j, y = .int j) ∧ sp [x, y] H Q E
section
variable {X : Cx} {C g f : Addr} {op : CmpOp} {CX : CXT} {k : Nat} {sp spr : Sp} {E : XK}
theorem op_cmp_own (hop : ∀ a b, compareOp op a b = richCompare op a b) (B : CmpOk X.prog X.w X.K X.mg X.base C op CX k sp) (hr : Room k X.A) (hx : ∀ σ, PassesAt CX X σ E) : OpR X (compareOp op) (rCmpO C sp E) := by
  intro pins s σ H x y v u Q I rx ry q
  obtain ⟨⟨a, dx, fs, ex, ha⟩, hy, h⟩ := q
  subst ex
  obtain rfl : v = Value.ref a := rx
  obtain ⟨g, fd, ps, hs, hf, F, b⟩ := B.ex
  obtain ⟨od, J⟩ := own_inst I ha
  obtain ⟨m, hF⟩ := I.fr
  rw [hop]
  rcases hy with ⟨c, dy, gs, ey, hc⟩ | ⟨j, ey⟩
  · subst ey
    obtain rfl : u = Value.ref c := ry
    obtain ⟨od', J'⟩ := own_inst I hc
    exact PySem.W.cmp_K (tb := .ref C) hr.units0 hF I.ok.mod.kin J J'.type (by simp [PySem.W.notFirst]) hs hf (run_back F hr b (hx σ) I (vv2 (x := V.ref a) (y := V.ref c) rfl rfl) h)
  · subst ey
    obtain ⟨t, rfl⟩ : ∃ t, u = Value.int j t := ry
    exact PySem.W.cmp_K (tb := .type "int") hr.units0 hF I.ok.mod.kin J (Looks.of_pure rfl) (by unfold PySem.W.notFirst; rw [B.sub]; rfl) hs hf (run_back F hr b (hx σ) I (vv2 (x := V.ref a) (y := V.int j) rfl ⟨t, rfl⟩) h)
end
end Pt
namespace Pt
open PySem PySem.Spec PyProof.Rows L2
open PySem.W (findIn isFn subIn Looks looks_findIn looks_subIn InstAt)
section
variable {prog : Program} {w : World} {A : Around} {E : Value → Shared → Prop} {s : Shared} {K : PySem.W.Frag} {x C f : Addr} {ox : Obj} {od : Option Obj}
/-- object.__ne__ of an instance with an own __eq__ -/
theorem try_ne {u : Value} {Q : Option Value → Shared → Prop} (hu : A.units + 1 < cLine) (X : K.In s.heap) (I : InstAt s.heap x ox C od) (hn : findIn K (.ref C) "__ne__" = some (some (.builtin "object.__ne__"))) (hm : PySem.W.mroIn K C (.type "object") = some true)
    (hs : findIn K (.ref C) "__eq__" = some (some (.ref f))) (hf : isFn K (.ref f) = true)
    (h : wpAny (model prog w) A.in1 (call (.ref f) [.ref x, u]) (fun v s' => ∃ b, v = .bool b ∧ Q (some (.bool (!b))) s') E s) : wpAny (model prog w) A (tryCompare (.ref x) "__ne__" u) Q E s := by
  have body : wpAny (model prog w) A (call (.builtin "object.__ne__") [.ref x, u]) (fun v s' => ∃ b, v = .bool b ∧ Q (some (.bool b)) s') E s := by
    refine wpAny_call (codeAny_call_builtin F.cmp_object.ne.plain F.cmpEntry_ne (PySem.W.check_slot F.cmpKind_ne F.cmpSplit_ne (I.type.andThen (PySem.W.looks_mroIn X hm)) (F.cmpArgs_ne _ _) ?_))
    unfold Builtin.«object.__ne__»
    have hu1 : A.in1.units < cLine := hu
    have ask : ∀ {Q' : Option Value → Shared → Prop} {E' : Value → Shared → Prop}, wpAny (model prog w) A.in1 (call (.ref f) [.ref x, u]) (fun v => Q' (some v)) E' s → wpAny (model prog w) A.in1 (callSpecialIfBound? (.ref x) "__eq__" [u]) Q' E' s :=
      fun {Q' E'} z => PySem.W.ifBound_K X I hs hf z
    refine wpAny_bind (m := slotArgs "__ne__" 1 _) (wpAny_pure ?_)
    dsimp only
    refine wpAny_bind (wpAny_cRoomFor hu1 ?_)
    refine wpAny_bind (ask (wpAny_mono h (fun v s' hv => ?_) fun _ _ e => e))
    obtain ⟨b, rfl, q⟩ := hv
    dsimp only
    refine wpAny_bind (wpAny_truthy_bool ?_)
    exact wpAny_pure ⟨!b, rfl, q⟩
  simp only [tryCompare, callSpecialIfBound?, bindSpecialIfBound?]
  have fin : wpAny (model prog w) A (call (.builtin "object.__ne__") ([.ref x] ++ [u]) >>= fun v => pure (some v)) (fun r s' => wpAny (model prog w) A (match r with | some .notImplemented | none => pure none | some v => pure (some v)) Q E s') E s := by
    refine wpAny_bind (wpAny_mono body (fun v s' hv => ?_) fun _ _ e => e)
    obtain ⟨b, rfl, q⟩ := hv
    exact wpAny_pure (wpAny_pure q)
  refine wpAny_bind (wpAny_holding (wpAny_bind (wpAny_bind (wpAny_bind (I.type.here ((looks_findIn X hn).here ?_))))))
  dsimp only
  rw [F.cmp_object.ne.bind]
  refine wpAny_bind (wpAny_askSetting (wpAny_ite ?_))
  split
  · exact wpAny_bind (wpAny_pure (wpAny_pure fin))
  · exact wpAny_tryCatch (wpAny_bind (wpAny_pure (wpAny_pure fin)))
end
end Pt
namespace Pt
open PySem PySem.Spec PyProof.Rows L2
open PySem.W (findIn isFn subIn Looks looks_findIn looks_subIn InstAt)
/-- the type of what stands beside an instance of the class -/
inductive OtherT (C : Addr) (H : Hp) : V → Value → Prop where
  | own {x : V} (h : OwnV C H x) : OtherT C H x (.ref C)
  | int (i : Int) : OtherT C H (.int i) (.type "int")
  | non : OtherT C H .non (.type "NoneType")
  | str (z : Str) : OtherT C H (.str z) (.type "str")
  | lst {a : Addr} {xs : List V} (e : H a = some (.lst xs)) : OtherT C H (.ref a) (.type "list")
  | tup {a : Addr} {xs : List V} (e : H a = some (.tup xs)) : OtherT C H (.ref a) (.type "tuple")
section
variable {X : Cx} {C g f : Addr} {op : CmpOp} {CX : CXT} {k : Nat} {sp spr : Sp} {E : XK}
theorem looks_other {M : Model} {pins : List (Addr × Obj)} {σ : L2.St} {H : Hp} {s : Shared} {y : V} {u tb : Value} (I : Inv X pins σ H s) (ry : RelV y u) (h : OtherT C H y tb) : Looks M s.heap (typeOf u) tb := by
  cases h with
  | own h =>
    obtain ⟨a, d, fs, rfl, e⟩ := h
    obtain rfl : u = Value.ref a := ry
    obtain ⟨od, J⟩ := own_inst I e
    exact J.type
  | int i => obtain ⟨t, rfl⟩ : ∃ t, u = Value.int i t := ry; exact Looks.of_pure rfl
  | non => obtain rfl : u = Value.none := ry; exact Looks.of_pure rfl
  | str z => obtain ⟨t, rfl⟩ : ∃ t, u = Value.str z t := ry; exact Looks.of_pure rfl
  | @lst a xs e =>
    obtain rfl : u = Value.ref a := ry
    obtain ⟨_, its, n, _, ho⟩ := (show ObjOk X.prog X.w H s.heap a (.lst xs) from I.hok a _ e)
    exact fun A Q E s k q => wpAny_typeOf_ref (k _ _ ho) q
  | @tup a xs e =>
    obtain rfl : u = Value.ref a := ry
    obtain ⟨_, its, _, ob, ho, hc, _⟩ := (show ObjOk X.prog X.w H s.heap a (.tup xs) from I.hok a _ e)
    exact fun A Q E s k q => wpAny_typeOf_ref (k _ _ ho) (by rw [hc]; exact q)
def NotFirstB (K : PySem.W.Frag) (C : Addr) : Prop := subIn K (.type "int") (.ref C) = some false ∧ subIn K (.type "NoneType") (.ref C) = some false ∧ subIn K (.type "str") (.ref C) = some false ∧ subIn K (.type "list") (.ref C) = some false ∧ subIn K (.type "tuple") (.ref C) = some false
theorem nf_of {K : PySem.W.Frag} {H : Hp} {y : V} {tb : Value} (n : NotFirstB K C) (h : OtherT C H y tb) : PySem.W.notFirst K C tb = true := by
  obtain ⟨h1, h2, h3, h4, h5⟩ := n
  unfold PySem.W.notFirst
  cases h with
  | own h => simp
  | int i => rw [h1]; rfl
  | non => rw [h2]; rfl
  | str z => rw [h3]; rfl
  | lst e => rw [h4]; rfl
  | tup e => rw [h5]; rfl
structure CmpOk2 (P : Program) (w : World) (K : PySem.W.Frag) (mg : Str → Option Value) (base : Heap) (C : Addr) (nm : Str) (CX : CXT) (k : Nat) (sp : Sp) : Prop where
  ex : ∃ (g : Addr) (fd : FuncData) (ps : List Str), findIn K (.ref C) nm = some (some (.ref g)) ∧ isFn K (.ref g) = true ∧ FnOk P w K mg base CX k g fd ps sp ∧ Binds K fd ps []
  nf : NotFirstB K C
  sub1 : subIn K (.ref C) (.type "int") = some false
def rOwnY (C : Addr) (sp : Sp) (E : XK) : R2 := fun x y H Q => OwnV C H x ∧ (∃ tb, OtherT C H y tb) ∧ sp [x, y] H Q E
def rIntY (C : Addr) (spr : Sp) (E : XK) : R2 := fun x y H Q => (∃ i, x = .int i) ∧ OwnV C H y ∧ spr [y, x] H Q E
theorem op_ownY (hop : ∀ a b, compareOp op a b = richCompare op a b) (B : CmpOk2 X.prog X.w X.K X.mg X.base C (cmpInfo op).2.1 CX k sp) (hr : Room k X.A) (hx : ∀ σ, PassesAt CX X σ E) : OpR X (compareOp op) (rOwnY C sp E) := by
  intro pins s σ H x y v u Q I rx ry q
  obtain ⟨⟨a, dx, fs, ex, ha⟩, ⟨tb, ho⟩, h⟩ := q
  subst ex
  obtain rfl : v = Value.ref a := rx
  obtain ⟨g, fd, ps, hs, hf, F, b⟩ := B.ex
  obtain ⟨od, J⟩ := own_inst I ha
  obtain ⟨m, hF⟩ := I.fr
  rw [hop]
  exact PySem.W.cmp_K (tb := tb) hr.units0 hF I.ok.mod.kin J (looks_other I ry ho) (nf_of B.nf ho) hs hf (run_back F hr b (hx σ) I (vv2 (x := V.ref a) rfl ry) h)
theorem op_intY (hop : ∀ a b, compareOp op a b = richCompare op a b) (D : IntDec (cmpInfo op).2.1 (cmpInfo op).2.1) (B : CmpOk2 X.prog X.w X.K X.mg X.base C (cmpInfo op).2.2 CX k spr) (hr : Room k X.A) (hx : ∀ σ, PassesAt CX X σ E) : OpR X (compareOp op) (rIntY C spr E) := by
  intro pins s σ H x y v u Q I rx ry q
  obtain ⟨⟨i, ex⟩, ⟨a, dx, fs, ey, ha⟩, h⟩ := q
  subst ex ey
  obtain rfl : u = Value.ref a := ry
  obtain ⟨t, rfl⟩ : ∃ t, v = Value.int i t := rx
  obtain ⟨g, fd, ps, hs, hf, F, b⟩ := B.ex
  obtain ⟨od, J⟩ := own_inst I ha
  rw [hop]
  exact cmp_int_own hr.units0 I.kIn J D hs hf B.sub1 (run_back F hr b (hx σ) I (vv2 (x := V.ref a) (y := V.int i) rfl ⟨t, rfl⟩) h)
/-! != -/
structure NeOk (K : PySem.W.Frag) (C : Addr) : Prop where
  ne : findIn K (.ref C) "__ne__" = some (some (.builtin "object.__ne__"))
  mo : PySem.W.mroIn K C (.type "object") = some true
def rNeY (C : Addr) (sp : Sp) (E : XK) : R2 := fun x y H Q => OwnV C H x ∧ (∃ tb, OtherT C H y tb) ∧ sp [x, y] H (fun v H' => ∃ b, v = .bl b ∧ Q (.bl (!b)) H') E
def rNeI (C : Addr) (sp : Sp) (E : XK) : R2 := fun x y H Q => (∃ i, x = .int i) ∧ OwnV C H y ∧ sp [y, x] H (fun v H' => ∃ b, v = .bl b ∧ Q (.bl (!b)) H') E
theorem try_neV {pins : List (Addr × Obj)} {σ : L2.St} {H : Hp} {s : Shared} {a dx : Addr} {fs : List (Str × V)} {y : V} {u : Value} {Q : VK} (N : NeOk X.K C) (B : CmpOk2 X.prog X.w X.K X.mg X.base C "__eq__" CX k sp) (hr : Room (k + 1) X.A) (hx : PassesAt CX X σ E)
    (I : Inv X pins σ H s) (e : H a = some (.ins C dx fs)) (ry : RelV y u) (h : sp [.ref a, y] H (fun v H' => ∃ b, v = .bl b ∧ Q (.bl (!b)) H') E) :
    wpAny (model X.prog X.w) X.A (tryCompare (.ref a) "__ne__" u) (fun r s' => ∃ v, r = some v ∧ EP X pins σ Q v s') X.xe s := by
  obtain ⟨g, fd, ps, hs, hf, F, b⟩ := B.ex
  obtain ⟨od, J⟩ := own_inst I e
  refine try_ne (by have := hr.units; omega) I.kIn J N.ne N.mo hs hf (wpAny_mono (run_in1 F hr b hx I (vv2 (x := V.ref a) rfl ry) h) (fun v s' hv => ?_) fun _ _ e => e)
  obtain ⟨z, H', I', rz, bb, ez, q⟩ := hv
  subst ez
  obtain rfl : v = Value.bool bb := rz
  exact ⟨bb, rfl, _, rfl, .bl (!bb), H', I', rfl, q⟩
theorem op_neY (N : NeOk X.K C) (B : CmpOk2 X.prog X.w X.K X.mg X.base C "__eq__" CX k sp) (hr : Room (k + 1) X.A) (hx : ∀ σ, PassesAt CX X σ E) : OpR X (compareOp .NotEq) (rNeY C sp E) := by
  intro pins s σ H x y v u Q I rx ry q
  obtain ⟨⟨a, dx, fs, ex, ha⟩, ⟨tb, ho⟩, h⟩ := q
  subst ex
  obtain rfl : v = Value.ref a := rx
  have one := try_neV N B hr (hx σ) I ha ry h
  obtain ⟨od, J⟩ := own_inst I ha
  have nf := nf_of B.nf ho
  have Tb := looks_other (M := model X.prog X.w) I ry ho
  show wpAny _ _ (richCompare .NotEq (.ref a) u) _ _ _
  unfold richCompare
  simp only [oneThing_ref]
  refine wpAny_holding (wpAny_bind (wpAny_cRoomFor hr.units0 ?_))
  refine wpAny_bind (J.type.here (wpAny_bind (Tb.here ?_)))
  rw [cmpInfo_NotEq]
  dsimp only
  split
  · rename_i q
    have e : subIn X.K tb (.ref C) = some false := by
      unfold PySem.W.notFirst at nf
      rcases Bool.or_eq_true_iff.mp nf with z | z
      · rw [beq_iff_eq.mp z] at q
        simp at q
      · exact beq_iff_eq.mp z
    refine wpAny_bind ((looks_subIn I.kIn e).here ?_)
    simp only [Bool.false_eq_true, if_false]
    refine wpAny_bind (wpAny_mono one (fun r s' z => ?_) fun _ _ e => e)
    obtain ⟨v, rfl, hq⟩ := z
    exact wpAny_pure hq
  · refine wpAny_bind (wpAny_pure ?_)
    simp only [Bool.false_eq_true, if_false]
    refine wpAny_bind (wpAny_mono one (fun r s' z => ?_) fun _ _ e => e)
    obtain ⟨v, rfl, hq⟩ := z
    exact wpAny_pure hq
def icNe : IntDec (cmpInfo .NotEq).2.1 (cmpInfo .NotEq).2.1 := ⟨_, _, F.slot_int_ne, F.entry_int_ne, F.args_int_ne_2, dec_ne⟩
theorem op_neI (N : NeOk X.K C) (B : CmpOk2 X.prog X.w X.K X.mg X.base C "__eq__" CX k sp) (hr : Room (k + 1) X.A) (hx : ∀ σ, PassesAt CX X σ E) : OpR X (compareOp .NotEq) (rNeI C sp E) := by
  intro pins s σ H x y v u Q I rx ry q
  obtain ⟨⟨i, ex⟩, ⟨a, dx, fs, ey, ha⟩, h⟩ := q
  subst ex ey
  obtain rfl : u = Value.ref a := ry
  obtain ⟨t, rfl⟩ : ∃ t, v = Value.int i t := rx
  have two := try_neV (y := V.int i) N B hr (hx σ) I ha ⟨t, rfl⟩ h
  obtain ⟨od, J⟩ := own_inst I ha
  have decl : ∀ {Q' : Option Value → Shared → Prop}, Q' none s → wpAny (model X.prog X.w) X.A (tryCompare (.int i t) (cmpInfo .NotEq).2.1 (.ref a)) Q' X.xe s := fun {Q'} q =>
    wpAny_tryCompare_declines (typeIs_int s i t) icNe.slot (call_meets icNe.slot (typeIs_int s i t) icNe.entry (icNe.args _ _) (icNe.dec i t a C dx) ⟨J.at_, rfl, q⟩)
  rw [cmpInfo_NotEq] at decl
  have Sx : Looks (model X.prog X.w) s.heap (isSubtype (.ref C) (.type "int")) false := looks_subIn I.kIn B.sub1
  have hne : (Value.type "int" != Value.ref C) = true := by
    show (!(Value.type "int" == Value.ref C)) = true
    rw [show (Value.type "int" == Value.ref C) = false from Bool.eq_false_iff.mpr fun q => by cases beq_iff_eq.mp q]
    rfl
  show wpAny _ _ (richCompare .NotEq (.int i t) (.ref a)) _ _ _
  simp only [richCompare, cmpInfo_NotEq, (typeIs_int s i t).oneThing_none]
  refine wpAny_holding (wpAny_bind (wpAny_cRoomFor hr.units0 ?_))
  refine wpAny_bind (wpAny_typeOf (typeIs_int s i t) (wpAny_bind (J.type.here ?_)))
  simp only [hne, if_true]
  refine wpAny_bind (Sx.here ?_)
  simp only [Bool.false_eq_true, if_false, Bool.not_false, if_true]
  refine wpAny_bind (decl ?_)
  refine wpAny_bind (wpAny_mono two (fun r s' z => ?_) fun _ _ e => e)
  obtain ⟨v, rfl, hq⟩ := z
  exact wpAny_pure hq
end
end Pt
namespace Pt
open PySem PySem.Spec PyProof.Rows L2
open PySem.W (findIn isFn subIn selfFirst Looks looks_findIn looks_subIn looks_clsIn clsIn InstAt special_fn fills_K)
section
variable {X : Cx} {C g p : Addr} {mc : Value} {CX : CXT} {k : Nat} {sp : Sp} {m : Str} {fd : FuncData} {ps : List Str} {o e : Expr} {es : List Expr} {ta : TE} {t : TA} {pos apos : Pos}
/-- what a static method of the class at C is -/
structure SMet (K : PySem.W.Frag) (C : Addr) (mc : Value) (m : Str) (p g : Addr) : Prop where
  ty : PySem.W.typeIn K (.ref C) = some mc
  rd : PySem.W.readsIn K C mc = true
  ga : PySem.W.specialIn K (.ref C) "__getattribute__" = some (some (.builtin "type.__getattribute__"))
  at_ : PySem.W.findCls K (.ref C) mc m = some (.get (.builtin "staticmethod.__get__") (.ref p) .none (.ref C))
  rc : ∃ rest, PySem.W.recIn K p "staticmethod" = some (.ref g :: rest)
  hd : PySem.W.handedIn (.ref g) = true
  kp : PySem.W.keepIn K (.ref g) = true
def tSMeth (C : Addr) (sp : Sp) (E : L2.St → XK) (ta : TE) (t : TA) : TE := fun σ H Q => ta σ H fun x H1 => x = .ref C ∧ t σ H1 fun vs H2 => sp vs H2 Q (E σ)
/-- C.m(e, ..) of a static method -/
theorem pe_smeth {E : L2.St → XK} {pl : Sem Bool} (he : PE X o ta) (c : SMet X.K C mc m p g) (F : FnOk X.prog X.w X.K X.mg X.base CX k g fd ps sp) (hr : Room k X.A) (hb : Binds X.K fd ps []) (hx : ∀ σ, PassesAt CX X σ (E σ)) (ha : PA X (e :: es) t)
    (hst : starEach (e :: es) X.env = (false, eval e X.env) :: starEach es X.env := by rfl) (hpl : (backTo pos (starEach es X.env)).any (·.1) = false := by rfl)
    (ht : eval (.Call (.Attribute o m apos) (e :: es) [] pos) X.env = (do
      let ov ← eval o X.env
      standAt apos.atName
      let (f, first) ← holding [ov] (getMethod ov m pl)
      callWith pos f first (backTo pos (starEach (e :: es) X.env)) (backToKw pos (keywordEach [] X.env))) := by rfl) :
    PE X (.Call (.Attribute o m apos) (e :: es) [] pos) (tSMeth C sp E ta t) := by
  refine ⟨fun pins s σ H Q I h => ?_⟩
  refine PySem.W.methodCall_KW (pl := pl) (thn (he.run pins s σ H _ I h) fun u s1 hh => ?_) ht
  obtain ⟨x, H1, I1, rx, ex, q⟩ := hh
  subst ex
  obtain rfl : u = Value.ref C := rx
  obtain ⟨mm, hF⟩ := I1.fr
  obtain ⟨rest, hrec⟩ := c.rc
  refine PySem.W.method_cls I1.kIn c.ga (PySem.W.cls_sm hF I1.ok.mod.kin c.ty c.rd c.at_ hrec c.hd ?_)
  refine PySem.W.callWith_K (first := []) (h₀ := X.base) I1.ok.mod.kin c.kp (thn (ha.run pos pins _ σ H1 _ (I1.tok _) q) fun us s2 hh2 => ?_) hst hpl
  obtain ⟨vs, H2, I2, r, q2⟩ := hh2
  exact ⟨I2.kIn, run_fnS (us := us) (vs := vs) F hr hb (hx σ) I2 r q2⟩
/-- a ** 3 of an own class without a reflected method -/
structure PowOk (P : Program) (w : World) (K : PySem.W.Frag) (mg : Str → Option Value) (base : Heap) (C : Addr) (CX : CXT) (k : Nat) (sp : Sp) : Prop where
  ex : ∃ (g : Addr) (fd : FuncData) (ps : List Str), OwnBin K C .Pow g none ∧ FnOk P w K mg base CX k g fd ps sp ∧ Binds K fd ps []
def rPowO (C : Addr) (sp : Sp) (E : XK) : R2 := fun x y H Q => OwnV C H x ∧ (∃ j, y = .int j) ∧ sp [x, y] H Q E
theorem bin1_own_intP {K : PySem.W.Frag} {prog : Program} {w : World} {A : Around} {E : Value → Shared → Prop} {s : Shared} {x : Addr} {ox : Obj} {od : Option Obj} {i : Int} {t : Tok} {Q : Value → Shared → Prop} (X : K.In s.heap) (I : InstAt s.heap x ox C od) (T : OwnBin K C .Pow g none)
    (h : wpAny (model prog w) A (call (.ref g) [.ref x, .int i t]) (PySem.W.CmpBack Q) E s) : wpAny (model prog w) A (binaryOp1 Operator.Pow.info.2 (.ref x) (.int i t)) (Gets Q) E s := by
  obtain ⟨cd, rest, hcd, hm⟩ := PySem.W.ksp_first T.first
  have hs := T.here
  have hr := T.refl
  have hp : (none : Option Value) = none ∨ ∃ f : Addr, (none : Option Value) = some (.ref f) := .inl rfl
  have hfi : fillsNumberSlot (.type "int") Operator.Pow.info.2 = pure true := F.fills_int_pow
  have hro : ∃ ro, typeLookup (.type "int") (dunderR Operator.Pow.info.2) = pure ro := ⟨_, F.slot_int_rpow.lookup⟩
  obtain ⟨ro, hro⟩ := hro
  generalize Operator.Pow.info.2 = nm' at hs hr hfi hro
  have one := PySem.W.ksp_try X I hs T.fn h
  obtain ⟨hh, g', d, tt, os⟩ := s
  have Ta : Looks (model prog w) hh (typeOf (.ref x)) (.ref C) := I.type
  have Tb : Looks (model prog w) hh (typeOf (.int i t)) (.type "int") := Looks.of_pure rfl
  have Fa : Looks (model prog w) hh (fillsNumberSlot (.ref C) nm') true := fills_K X hcd hm hs
  have Fb : Looks (model prog w) hh (fillsNumberSlot (.type "int") nm') true := Looks.of_pure hfi
  have Sb : Looks (model prog w) hh (isSubtype (.type "int") (.ref C)) false := looks_subIn X T.sub2
  have Pa : Looks (model prog w) hh (numberSlotInPython (.ref C) nm') true := PySem.W.ksp_inPy X hs hr hp
  have Pb : Looks (model prog w) hh (numberSlotInPython (.type "int") nm') false := Looks.of_pure rfl
  have Rb : Looks (model prog w) hh (typeLookup (.type "int") (dunderR nm')) ro := Looks.of_pure hro
  have hne : (Value.ref C == Value.type "int") = false := Bool.eq_false_iff.mpr fun q => by cases beq_iff_eq.mp q
  unfold binaryOp1
  refine wpAny_bind (Ta.at (wpAny_bind (Tb.at (wpAny_bind (Fa.at ?_)))))
  simp only [hne, Bool.false_eq_true, if_false]
  refine wpAny_bind (Fb.at ?_)
  simp only [Bool.and_self, if_true]
  refine wpAny_bind (Sb.at ?_)
  simp only [Bool.false_eq_true, if_false, pure_bind, Bool.not_false, Bool.and_self, if_true]
  refine wpAny_bind (Pa.at ?_)
  simp only [if_true]
  refine wpAny_bind (Pb.at ?_)
  simp only [Bool.not_false, if_true]
  refine wpAny_bind (Rb.at ?_)
  refine wpAny_bind (wpAny_mono one (fun r s' hr' => ?_) fun _ _ e => e)
  obtain ⟨v, rfl, hq⟩ := hr'
  exact wpAny_pure ⟨v, rfl, hq⟩
theorem pe_pow {a b : Expr} {ta tb : TE} {E : L2.St → XK} (B : PowOk X.prog X.w X.K X.mg X.base C CX k sp) (hr : Room k X.A) (hx : ∀ σ, PassesAt CX X σ (E σ)) (ha : PE X a ta) (hb : PE X b tb) :
    PE X (.BinOp a .Pow b pos) (fun σ H Q => ta σ H fun x H1 => tb σ H1 fun y H2 => rPowO C sp (E σ) x y H2 Q) := by
  refine ⟨fun pins s σ H Q I h => ?_⟩
  refine wpAny_BinOp (binT ha hb (R := fun x y H2 => rPowO C sp (E σ) x y H2 Q) I h fun v u s2 x y H2 I2 rx ry q => ?_)
  obtain ⟨⟨a, dx, fs, rfl, he⟩, ⟨j, rfl⟩, q⟩ := q
  obtain ⟨g, fd, ps, T, F, bb⟩ := B.ex
  obtain rfl : v = Value.ref a := rx
  obtain ⟨t, rfl⟩ : ∃ t, u = Value.int j t := ry
  obtain ⟨od, J⟩ := own_inst I2 he
  exact bin_of1 (bin1_own_intP I2.kIn J T (run_back F hr bb (hx σ) I2 (vv2 (x := V.ref a) (y := V.int j) rfl ⟨t, rfl⟩) q))
end
end Pt
namespace Pu
open PySem PySem.Spec L2
/-! ## data, without the heap -/
inductive D where
  | non | bl (b : Bool) | int (i : Int) | str (x : Str) | val (v : V) | law
  | lst (ds : List D) | tup (ds : List D) | ftp (ds : List D) | ins (c : Nat) (ds : List D) | dic (ks : List Key) (ds : List D) | exn (c : Nat) (ds : List D)
/-- an exception: its class's number, its fields -/
structure Exn where
  c : Nat
  ds : List D
/-- classes by number, the names of their fields, the law's state (its list, the list of its cells), what no datum points at -/
structure Wd where
  CT : Nat → Addr
  lay : Nat → List Str
  L : Option (Addr × Addr)
  S : Addr → Prop
def Wd.at (W : Wd) (S : Addr → Prop) : Wd := { W with S := S }
/-- the law's state at s, its cells at l -/
def LSt (H : Hp) (s l : Addr) : Prop := l = s ∧ ∃ g c n : Int, H s = some (.lst [.int g, .int c, .int n])
def nL (L : Option (Addr × Addr)) (a : Addr) : Prop := ∀ s l, L = some (s, l) → a ≠ s ∧ a ≠ l
mutual
def Rep (W : Wd) (H : Hp) : D → V → Prop
  | .non, v => v = .non
  | .bl b, v => v = .bl b
  | .int i, v => v = .int i
  | .str x, v => v = .str x
  | .val u, v => v = u
  | .law, v => ∃ s l, W.L = some (s, l) ∧ v = .ref s
  | .lst ds, v => ∃ a vs, v = .ref a ∧ ¬ W.S a ∧ H a = some (.lst vs) ∧ Reps W H ds vs
  | .tup ds, v => ∃ a vs, v = .ref a ∧ ¬ W.S a ∧ Rd H a (.tup vs) ∧ Reps W H ds vs
  | .ftp ds, v => ∃ a vs o, v = .ref a ∧ ¬ W.S a ∧ o.dict = none ∧ H a = some (.frz o (.tup vs)) ∧ Reps W H ds vs
  | .ins c ds, v => ∃ a dx vs, v = .ref a ∧ ¬ W.S a ∧ H a = some (.ins (W.CT c) dx ((W.lay c).zip vs)) ∧ vs.length = (W.lay c).length ∧ Reps W H ds vs
  | .dic ks ds, v => ∃ a vs, v = .ref a ∧ ¬ W.S a ∧ H a = some (.dK (ks.zip vs)) ∧ vs.length = ks.length ∧ Reps W H ds vs
  | .exn c ds, v => ∃ a dd vs, v = .ref a ∧ ¬ W.S a ∧ H a = some (exo a (W.CT c) dd) ∧ vs.length = (W.lay c).length ∧ ((dd = none ∧ vs = []) ∨ ∃ dx fs, dd = some dx ∧ ¬ W.S dx ∧ H dx = some (exd dx fs) ∧ (∀ (i : Nat) (f : Str) (x : V), (W.lay c)[i]? = some f → vs[i]? = some x → fs.lookup f = some x) ∧ ∀ f, f ∉ W.lay c → fs.lookup f = none) ∧ Reps W H ds vs
def Reps (W : Wd) (H : Hp) : List D → List V → Prop
  | [], vs => vs = []
  | d :: ds, vs => ∃ v r, vs = v :: r ∧ Rep W H d v ∧ Reps W H ds r
end
structure WOk (W : Wd) (H : Hp) : Prop where
  law : ∀ s l, W.L = some (s, l) → LSt H s l ∧ W.S s ∧ W.S l
  dom : ∀ a, W.S a → ∃ o, H a = some o
/-- all but the law's state is kept -/
structure Fut (W : Wd) (H H' : Hp) : Prop where
  keep : ∀ a o, H a = some o → nL W.L a → H' a = some o
  law : ∀ s l, W.L = some (s, l) → LSt H' s l
def FutL (L : Option (Addr × Addr)) (H H' : Hp) : Prop := ∀ a o, H a = some o → nL L a → H' a = some o
section
variable {W : Wd} {H H1 H2 : Hp}
theorem Fut.refl (w : WOk W H) : Fut W H H := ⟨fun _ _ e _ => e, fun s l e => (w.law s l e).1⟩
theorem Fut.trans (a : Fut W H H1) (b : Fut W H1 H2) : Fut W H H2 := ⟨fun c o e n => b.keep c o (a.keep c o e n) n, b.law⟩
theorem Fut.same (w : WOk W H) (s : Same H H1) : Fut W H H1 := ⟨fun c o e _ => s c o e, fun s' l e => by
  obtain ⟨⟨r, g, c, n, e1⟩, _⟩ := w.law s' l e
  exact ⟨r, g, c, n, s _ _ e1⟩⟩
theorem Fut.at {S : Addr → Prop} (f : Fut W H H1) : Fut (W.at S) H H1 := ⟨f.keep, f.law⟩
theorem Fut.of_at {S : Addr → Prop} (f : Fut (W.at S) H H1) : Fut W H H1 := ⟨f.keep, f.law⟩
theorem WOk.fut (w : WOk W H) (f : Fut W H H1) : WOk W H1 := by
  refine ⟨fun s l e => ⟨f.law s l e, (w.law s l e).2⟩, fun a h => ?_⟩
  obtain ⟨o, e⟩ := w.dom a h
  by_cases q : nL W.L a
  · exact ⟨o, f.keep a o e q⟩
  · have : ∃ s l, W.L = some (s, l) ∧ (a = s ∨ a = l) := by
      apply Classical.byContradiction
      intro z
      refine q fun s l e' => ⟨fun z' => z ⟨s, l, e', .inl z'⟩, fun z' => z ⟨s, l, e', .inr z'⟩⟩
    obtain ⟨s, l, e', c⟩ := this
    obtain ⟨r, g, c2, n, e1⟩ := f.law s l e'
    rcases c with rfl | rfl
    · exact ⟨_, e1⟩
    · subst r; exact ⟨_, e1⟩
theorem WOk.nl (w : WOk W H) {a : Addr} (h : ¬ W.S a) : nL W.L a := fun s l e => ⟨fun z => h (z ▸ (w.law s l e).2.1), fun z => h (z ▸ (w.law s l e).2.2)⟩
theorem WOk.new (w : WOk W H) {a : Addr} (h : H a = none) : ¬ W.S a := fun z => by
  obtain ⟨o, e⟩ := w.dom a z
  rw [h] at e
  cases e
mutual
/-- what is kept: a change of the heap, of what is known not to be pointed at -/
theorem Rep.mono {S : Addr → Prop} (k : ∀ a o, ¬ W.S a → H a = some o → H1 a = some o ∧ ¬ S a) : ∀ (d : D) (v : V), Rep W H d v → Rep (W.at S) H1 d v
  | .non, v, h => by simpa only [Rep] using h
  | .bl b, v, h => by simpa only [Rep] using h
  | .int i, v, h => by simpa only [Rep] using h
  | .str x, v, h => by simpa only [Rep] using h
  | .val u, v, h => by simpa only [Rep] using h
  | .law, v, h => by
    simp only [Rep] at h ⊢
    exact h
  | .lst ds, v, h => by
    simp only [Rep] at h ⊢
    obtain ⟨a, vs, e, n, q, r⟩ := h
    exact ⟨a, vs, e, (k a _ n q).2, (k a _ n q).1, Reps.mono k ds vs r⟩
  | .tup ds, v, h => by
    simp only [Rep] at h ⊢
    obtain ⟨a, vs, e, n, q, r⟩ := h
    refine ⟨a, vs, e, ?_, q.imp (fun q => (k a _ n q).1) (fun ⟨o, q⟩ => ⟨o, (k a _ n q).1⟩), Reps.mono k ds vs r⟩
    rcases q with q | ⟨o, q⟩
    · exact (k a _ n q).2
    · exact (k a _ n q).2
  | .ftp ds, v, h => by
    simp only [Rep] at h ⊢
    obtain ⟨a, vs, o, e, n, dn, q, r⟩ := h
    exact ⟨a, vs, o, e, (k a _ n q).2, dn, (k a _ n q).1, Reps.mono k ds vs r⟩
  | .ins c ds, v, h => by
    simp only [Rep] at h ⊢
    obtain ⟨a, dx, vs, e, n, q, l, r⟩ := h
    exact ⟨a, dx, vs, e, (k a _ n q).2, (k a _ n q).1, l, Reps.mono k ds vs r⟩
  | .dic ks ds, v, h => by
    simp only [Rep] at h ⊢
    obtain ⟨a, vs, e, n, q, l, r⟩ := h
    exact ⟨a, vs, e, (k a _ n q).2, (k a _ n q).1, l, Reps.mono k ds vs r⟩
  | .exn c ds, v, h => by
    simp only [Rep] at h ⊢
    obtain ⟨a, dd, vs, e, n, q, l, x, r⟩ := h
    refine ⟨a, dd, vs, e, (k a _ n q).2, (k a _ n q).1, l, x.imp id ?_, Reps.mono k ds vs r⟩
    rintro ⟨dx, fs, e1, n1, q1, y⟩
    exact ⟨dx, fs, e1, (k dx _ n1 q1).2, (k dx _ n1 q1).1, y⟩
theorem Reps.mono {S : Addr → Prop} (k : ∀ a o, ¬ W.S a → H a = some o → H1 a = some o ∧ ¬ S a) : ∀ (ds : List D) (vs : List V), Reps W H ds vs → Reps (W.at S) H1 ds vs
  | [], vs, h => by simpa only [Reps] using h
  | d :: ds, vs, h => by
    simp only [Reps] at h ⊢
    obtain ⟨v, r, e, h1, h2⟩ := h
    exact ⟨v, r, e, Rep.mono k d v h1, Reps.mono k ds r h2⟩
end
theorem Rep.thaw {ds : List D} {v : V} (h : Rep W H (.ftp ds) v) : Rep W H (.tup ds) v := by
  simp only [Rep] at h ⊢
  obtain ⟨a, vs, o, e, n, dn, q, r⟩ := h
  exact ⟨a, vs, e, n, .inr ⟨o, q⟩, r⟩
theorem Rep.fut {d : D} {v : V} (h : Rep W H d v) (w : WOk W H) (f : Fut W H H1) : Rep W H1 d v := Rep.mono (S := W.S) (fun a o n e => ⟨f.keep a o e (w.nl n), n⟩) d v h
theorem Reps.fut {d : List D} {v : List V} (h : Reps W H d v) (w : WOk W H) (f : Fut W H H1) : Reps W H1 d v := Reps.mono (S := W.S) (fun a o n e => ⟨f.keep a o e (w.nl n), n⟩) d v h
theorem Rep.sub {S : Addr → Prop} {d : D} {v : V} (h : Rep W H d v) (s : ∀ a, S a → W.S a) : Rep (W.at S) H d v := Rep.mono (fun a o n e => ⟨e, fun z => n (s a z)⟩) d v h
theorem Reps.sub {S : Addr → Prop} {d : List D} {v : List V} (h : Reps W H d v) (s : ∀ a, S a → W.S a) : Reps (W.at S) H d v := Reps.mono (fun a o n e => ⟨e, fun z => n (s a z)⟩) d v h
/-- a fresh place may be forbidden from now on -/
theorem Rep.ban {q : Addr} {d : D} {v : V} (h : Rep W H d v) (n : H q = none) : Rep (W.at fun a => W.S a ∨ a = q) H d v := Rep.mono (fun a o m e => ⟨e, fun z => z.elim m fun z => by rw [z, n] at e; cases e⟩) d v h
theorem Reps.ban {q : Addr} {d : List D} {v : List V} (h : Reps W H d v) (n : H q = none) : Reps (W.at fun a => W.S a ∨ a = q) H d v := Reps.mono (fun a o m e => ⟨e, fun z => z.elim m fun z => by rw [z, n] at e; cases e⟩) d v h
theorem Reps.len : ∀ {ds : List D} {vs : List V}, Reps W H ds vs → vs.length = ds.length
  | [], vs, h => by simp only [Reps] at h; rw [h] <;> rfl
  | d :: ds, vs, h => by
    simp only [Reps] at h
    obtain ⟨v, r, rfl, _, h2⟩ := h
    rw [List.length_cons, List.length_cons, Reps.len h2]
theorem Reps.get : ∀ {ds : List D} {vs : List V} {i : Nat} {d : D}, Reps W H ds vs → ds[i]? = some d → ∃ v, vs[i]? = some v ∧ Rep W H d v
  | [], vs, i, d, h, e => by cases i <;> cases e
  | d :: ds, vs, 0, d', h, e => by
    simp only [Reps] at h
    obtain ⟨v, r, rfl, h1, h2⟩ := h
    cases e
    exact ⟨v, rfl, h1⟩
  | d :: ds, vs, i + 1, d', h, e => by
    simp only [Reps] at h
    obtain ⟨v, r, rfl, h1, h2⟩ := h
    have e' : ds[i]? = some d' := by simpa using e
    obtain ⟨u, q1, q2⟩ := Reps.get (i := i) h2 e'
    exact ⟨u, by simpa using q1, q2⟩
theorem Reps.get' : ∀ {ds : List D} {vs : List V} {i : Nat} {v : V}, Reps W H ds vs → vs[i]? = some v → ∃ d, ds[i]? = some d ∧ Rep W H d v
  | [], vs, i, v, h, e => by simp only [Reps] at h; subst h; cases i <;> cases e
  | d :: ds, vs, 0, v', h, e => by
    simp only [Reps] at h
    obtain ⟨v, r, rfl, h1, h2⟩ := h
    cases e
    exact ⟨d, rfl, h1⟩
  | d :: ds, vs, i + 1, v', h, e => by
    simp only [Reps] at h
    obtain ⟨v, r, rfl, h1, h2⟩ := h
    have e' : r[i]? = some v' := by simpa using e
    obtain ⟨u, q1, q2⟩ := Reps.get' (i := i) h2 e'
    exact ⟨u, by simpa using q1, q2⟩
theorem Reps.nil : Reps W H [] [] := by simp only [Reps]
theorem Reps.cons {d : D} {v : V} {ds : List D} {vs : List V} (h : Rep W H d v) (r : Reps W H ds vs) : Reps W H (d :: ds) (v :: vs) := by
  simp only [Reps]
  exact ⟨v, vs, rfl, h, r⟩
theorem Reps.app : ∀ {ds es : List D} {vs us : List V}, Reps W H ds vs → Reps W H es us → Reps W H (ds ++ es) (vs ++ us)
  | [], es, vs, us, h, r => by simp only [Reps] at h; subst h; exact r
  | d :: ds, es, vs, us, h, r => by
    simp only [Reps] at h
    obtain ⟨v, t, rfl, h1, h2⟩ := h
    exact Reps.cons h1 (Reps.app h2 r)
theorem Reps.take (n : Nat) : ∀ {ds : List D} {vs : List V}, Reps W H ds vs → Reps W H (ds.take n) (vs.take n) := by
  induction n with
  | zero => intro ds vs h; simp only [List.take_zero]; exact Reps.nil
  | succ n ih =>
    intro ds vs h
    cases ds with
    | nil => simp only [Reps] at h; subst h; simp only [List.take_nil]; exact Reps.nil
    | cons d ds =>
      simp only [Reps] at h
      obtain ⟨v, t, rfl, h1, h2⟩ := h
      exact Reps.cons h1 (ih h2)
theorem Reps.drop (n : Nat) : ∀ {ds : List D} {vs : List V}, Reps W H ds vs → Reps W H (ds.drop n) (vs.drop n) := by
  induction n with
  | zero => intro ds vs h; exact h
  | succ n ih =>
    intro ds vs h
    cases ds with
    | nil => simp only [Reps] at h; subst h; exact Reps.nil
    | cons d ds =>
      simp only [Reps] at h
      obtain ⟨v, t, rfl, h1, h2⟩ := h
      exact ih h2
theorem Reps.set {d : D} {v : V} (r : Rep W H d v) : ∀ (i : Nat) {ds : List D} {vs : List V}, Reps W H ds vs → Reps W H (ds.set i d) (vs.set i v)
  | i, [], vs, h => by simp only [Reps] at h; subst h; exact Reps.nil
  | 0, d' :: ds, vs, h => by
    simp only [Reps] at h
    obtain ⟨v', t, rfl, h1, h2⟩ := h
    exact Reps.cons r h2
  | i + 1, d' :: ds, vs, h => by
    simp only [Reps] at h
    obtain ⟨v', t, rfl, h1, h2⟩ := h
    exact Reps.cons h1 (Reps.set r i h2)
end
def ExOk (W : Wd) (H : Hp) (ex : Exn) (cls : Value) (dd : Option Addr) : Prop :=
  cls = .ref (W.CT ex.c) ∧ ex.ds.length = (W.lay ex.c).length ∧ ((dd = none ∧ ex.ds = []) ∨ ∃ d fs, dd = some d ∧ ¬ W.S d ∧ H d = some (.xd fs) ∧ ∀ (i : Nat) (f : Str) (x : D), (W.lay ex.c)[i]? = some f → ex.ds[i]? = some x → ∃ v, fs.lookup f = some v ∧ Rep W H x v)
theorem ExOk.mono {W : Wd} {H H1 : Hp} {S : Addr → Prop} {ex : Exn} {cls : Value} {dd : Option Addr} (k : ∀ a o, ¬ W.S a → H a = some o → H1 a = some o ∧ ¬ S a) (h : ExOk W H ex cls dd) : ExOk (W.at S) H1 ex cls dd := by
  obtain ⟨h1, h2, h3⟩ := h
  refine ⟨h1, h2, h3.imp id ?_⟩
  rintro ⟨d, fs, e, n, q, r⟩
  refine ⟨d, fs, e, (k d _ n q).2, (k d _ n q).1, fun i g x e1 e2 => ?_⟩
  obtain ⟨v, l, r'⟩ := r i g x e1 e2
  exact ⟨v, l, Rep.mono k x v r'⟩
theorem ExOk.fut {W : Wd} {H H' : Hp} {ex : Exn} {cls : Value} {dd : Option Addr} (h : ExOk W H ex cls dd) (w : WOk W H) (f : Fut W H H') : ExOk W H' ex cls dd :=
  ExOk.mono (S := W.S) (fun a o n e => ⟨f.keep a o e (w.nl n), n⟩) h
end Pu
namespace Pu
open PySem PySem.Spec L2
/-! ## slots, the state of a body -/
inductive Sl where
  | no | d (d : D) | own (ds : List D) | obj (c : Nat) (ds : List D) | exc (c : Nat) (ds : List D)
def Sl.isOwn : Sl → Bool
  | .own _ => true
  | .obj _ _ => true
  | _ => false
/-- the entry: the world there, the heap there -/
structure Bs where
  W : Wd
  H0 : Hp
  cur : Option (Addr × Value × Option Addr) := none
  me : Option Addr := none
def SlOk (B : Bs) (S : Addr → Prop) (H : Hp) : Sl → Option V → Prop
  | .no, _ => True
  | .d d, o => ∃ v, o = some v ∧ Rep (B.W.at S) H d v
  | .own ds, o => ∃ q vs, o = some (.ref q) ∧ S q ∧ ¬ B.W.S q ∧ nL B.W.L q ∧ H q = some (.lst vs) ∧ Reps (B.W.at S) H ds vs
  | .obj c ds, o => ∃ q dx vs, o = some (.ref q) ∧ B.me = some q ∧ S q ∧ ¬ B.W.S q ∧ nL B.W.L q ∧ H q = some (.ins (B.W.CT c) dx ((B.W.lay c).zip vs)) ∧ vs.length ≤ (B.W.lay c).length ∧ Reps (B.W.at S) H ds vs
  | .exc c ds, o => ∃ a cls dd, B.cur = some (a, cls, dd) ∧ o = some (.ref a) ∧ ExOk (B.W.at S) H ⟨c, ds⟩ cls dd
structure Ok (B : Bs) (S : Addr → Prop) (σ : L2.St) (H : Hp) (G : List Sl) : Prop where
  wok : WOk (B.W.at S) H
  ext : ∀ a o, B.H0 a = some o → nL B.W.L a → H a = some o
  sub : ∀ a, B.W.S a → S a
  new : ∀ a, S a → B.W.S a ∨ B.H0 a = none
  len : σ.length = G.length
  lw : ∀ s l, B.W.L = some (s, l) → B.W.S s ∧ B.W.S l
  sl : ∀ (i : Nat) (g : Sl) (o : Option V), G[i]? = some g → σ[i]? = some o → SlOk B S H g o
  inj : ∀ (i j : Nat) (g g' : Sl) (q : Addr), G[i]? = some g → G[j]? = some g' → g.isOwn = true → g'.isOwn = true → σ[i]? = some (some (.ref q)) → σ[j]? = some (some (.ref q)) → i = j
section
variable {B : Bs} {S S' : Addr → Prop} {σ : L2.St} {H H' : Hp} {G : List Sl}
theorem SlOk.mono {g : Sl} {o : Option V} (k : ∀ a u, ¬ S a → H a = some u → H' a = some u ∧ ¬ S' a) (s : ∀ a, S a → S' a) (ow : ∀ q u, g.isOwn = true → o = some (.ref q) → ¬ B.W.S q → nL B.W.L q → H q = some u → H' q = some u) (h : SlOk B S H g o) : SlOk B S' H' g o := by
  cases g with
  | no => trivial
  | d d =>
    obtain ⟨v, e, r⟩ := h
    exact ⟨v, e, Rep.mono (W := B.W.at S) (S := S') k d v r⟩
  | own ds =>
    obtain ⟨q, vs, e, h1, h2, h3, h4, h5⟩ := h
    exact ⟨q, vs, e, s _ h1, h2, h3, ow q _ rfl e h2 h3 h4, Reps.mono (W := B.W.at S) (S := S') k ds vs h5⟩
  | obj c ds =>
    obtain ⟨q, dx, vs, e, me, h1, h2, h3, h4, h6, h5⟩ := h
    exact ⟨q, dx, vs, e, me, s _ h1, h2, h3, ow q _ rfl e h2 h3 h4, h6, Reps.mono (W := B.W.at S) (S := S') k ds vs h5⟩
  | exc c ds =>
    obtain ⟨a, cls, dd, h1, h2, h3⟩ := h
    exact ⟨a, cls, dd, h1, h2, ExOk.mono (W := B.W.at S) (S := S') k h3⟩
/-- an expression was evaluated -/
theorem Ok.fut (O : Ok B S σ H G) (f : Fut (B.W.at S) H H') : Ok B S σ H' G where
  wok := O.wok.fut f
  ext := fun a o e n => f.keep a o (O.ext a o e n) n
  sub := O.sub
  new := O.new
  len := O.len
  lw := O.lw
  sl := fun i g o e1 e2 => (O.sl i g o e1 e2).mono (fun a u n e => ⟨f.keep a u e (O.wok.nl n), n⟩) (fun _ z => z) fun q u _ _ _ n e => f.keep q u e n
  inj := O.inj
theorem Ok.get (O : Ok B S σ H G) {i : Nat} {g : Sl} (e : G[i]? = some g) : ∃ o, σ[i]? = some o ∧ SlOk B S H g o := by
  have h : i < σ.length := by rw [O.len]; exact (List.getElem?_eq_some_iff.mp e).1
  exact ⟨σ[i], List.getElem?_eq_getElem h, O.sl i g _ e (List.getElem?_eq_getElem h)⟩
/-- a name is stored -/
theorem Ok.put (O : Ok B S σ H G) (i : Nat) {g : Sl} {o : Option V} (hg : g.isOwn = false) (h : SlOk B S H g o) : Ok B S (σ.set i o) H (G.set i g) where
  wok := O.wok
  ext := O.ext
  sub := O.sub
  new := O.new
  len := by rw [List.length_set, List.length_set]; exact O.len
  lw := O.lw
  sl := fun j g' o' e1 e2 => by
    by_cases hj : i = j
    · subst hj
      rw [List.getElem?_set] at e1 e2
      rw [if_pos rfl] at e1 e2
      split at e1
      · split at e2
        · cases e1
          cases e2
          exact h
        · cases e2
      · cases e1
    · rw [List.getElem?_set_ne hj] at e1 e2
      exact O.sl j g' o' e1 e2
  inj := fun j k g1 g2 q e1 e2 h1 h2 e3 e4 => by
    have nj : ∀ {m : Nat} {g' : Sl}, (G.set i g)[m]? = some g' → g'.isOwn = true → i ≠ m := fun {m g'} e z y => by
      subst y
      rw [List.getElem?_set] at e
      rw [if_pos rfl] at e
      split at e
      · cases e
        rw [hg] at z
        cases z
      · cases e
    rw [List.getElem?_set_ne (nj e1 h1)] at e3
    rw [List.getElem?_set_ne (nj e2 h2)] at e4
    have m1 := nj e1 h1
    have m2 := nj e2 h2
    rw [List.getElem?_set_ne m1] at e1
    rw [List.getElem?_set_ne m2] at e2
    exact O.inj j k g1 g2 q e1 e2 h1 h2 e3 e4
theorem Ok.set (O : Ok B S σ H G) (i : Nat) {d : D} {v : V} (r : Rep (B.W.at S) H d v) : Ok B S (σ.set i (some v)) H (G.set i (.d d)) := O.put i rfl ⟨v, rfl, r⟩
theorem Ok.drop (O : Ok B S σ H G) (i : Nat) (o : Option V) : Ok B S (σ.set i o) H (G.set i .no) := O.put i (o := o) rfl trivial
/-- a slot forgotten (the value stays) -/
theorem set_self {α : Type} {l : List α} {i : Nat} {x : α} (e : l[i]? = some x) : l.set i x = l := by
  obtain ⟨h, e'⟩ := List.getElem?_eq_some_iff.mp e
  rw [← e']
  exact List.set_getElem_self h
theorem Ok.forget (O : Ok B S σ H G) (i : Nat) : Ok B S σ H (G.set i .no) := by
  by_cases h : i < σ.length
  · have e := List.getElem?_eq_getElem h
    have := O.drop i σ[i]
    rwa [set_self e] at this
  · have : G.set i .no = G := List.set_eq_of_length_le (by rw [← O.len]; omega)
    rw [this]
    exact O
/-- an own list (object) is from now on a datum -/
theorem Ok.thaw (O : Ok B S σ H G) {i : Nat} {ds : List D} (e : G[i]? = some (.own ds)) : ∃ q, S q ∧ Ok B (fun a => S a ∧ a ≠ q) σ H (G.set i (.d (.lst ds))) := by
  obtain ⟨o, eo, q, vs, rfl, h1, h2, h3, h4, h5⟩ := O.get e
  refine ⟨q, h1, ?_⟩
  have hi : i < G.length := (List.getElem?_eq_some_iff.mp e).1
  refine ⟨⟨fun s l z => ?_, fun a h => O.wok.dom a h.1⟩, O.ext, fun a h => ⟨O.sub a h, fun z => h2 (z ▸ h)⟩, fun a h => O.new a h.1, by rw [List.length_set]; exact O.len, O.lw, fun j g o e1 e2 => ?_, fun j k g1 g2 p e1 e2 n1 n2 e3 e4 => ?_⟩
  · obtain ⟨z1, z2, z3⟩ := O.wok.law s l z
    obtain ⟨n1, n2⟩ := h3 s l z
    exact ⟨z1, ⟨z2, Ne.symm n1⟩, ⟨z3, Ne.symm n2⟩⟩
  · by_cases hj : i = j
    · subst hj
      rw [List.getElem?_set_self hi] at e1
      cases e1
      rw [eo] at e2
      cases e2
      refine ⟨_, rfl, ?_⟩
      simp only [Rep]
      exact ⟨q, vs, rfl, fun z => z.2 rfl, h4, Reps.mono (W := B.W.at S) (fun a u n z => ⟨z, fun w => n w.1⟩) ds vs h5⟩
    · rw [List.getElem?_set_ne hj] at e1
      have base := O.sl j g o e1 e2
      cases g with
      | no => trivial
      | d d =>
        obtain ⟨v, e', r⟩ := base
        exact ⟨v, e', Rep.mono (W := B.W.at S) (fun a u n z => ⟨z, fun w => n w.1⟩) d v r⟩
      | own ds' =>
        obtain ⟨q', vs', e', k1, k2, k3, k4, k5⟩ := base
        subst e'
        refine ⟨q', vs', rfl, ⟨k1, fun z => hj ?_⟩, k2, k3, k4, Reps.mono (W := B.W.at S) (fun a u n z => ⟨z, fun w => n w.1⟩) ds' vs' k5⟩
        subst z
        exact O.inj i j _ _ _ e e1 rfl rfl eo e2
      | obj c ds' =>
        obtain ⟨q', dx', vs', e', me, k1, k2, k3, k4, k6, k5⟩ := base
        subst e'
        refine ⟨q', dx', vs', rfl, me, ⟨k1, fun z => hj ?_⟩, k2, k3, k4, k6, Reps.mono (W := B.W.at S) (fun a u n z => ⟨z, fun w => n w.1⟩) ds' vs' k5⟩
        subst z
        exact O.inj i j _ _ _ e e1 rfl rfl eo e2
      | exc c ds' =>
        obtain ⟨a', cls, dd, k1, k2, k3⟩ := base
        exact ⟨a', cls, dd, k1, k2, ExOk.mono (W := B.W.at S) (fun a u n z => ⟨z, fun w => n w.1⟩) k3⟩
  · have nj : ∀ {m : Nat} {g' : Sl}, (G.set i (.d (.lst ds)))[m]? = some g' → g'.isOwn = true → i ≠ m := fun {m g'} e z y => by
      subst y
      rw [List.getElem?_set_self hi] at e
      cases e
      cases z
    have m1 := nj e1 n1
    have m2 := nj e2 n2
    rw [List.getElem?_set_ne m1] at e1
    rw [List.getElem?_set_ne m2] at e2
    exact O.inj j k g1 g2 p e1 e2 n1 n2 e3 e4
/-- a new own thing stands at q, and its name is stored -/
theorem Ok.keep (O : Ok B S σ H G) (i : Nat) {q : Addr} {g : Sl} (hq : H q = none) (sm : ∀ a o, H a = some o → nL B.W.L a → H' a = some o) (lw : ∀ s l, B.W.L = some (s, l) → LSt H' s l) (hd : ∃ o, H' q = some o)
    (hn : nL B.W.L q) (h : SlOk B (fun a => S a ∨ a = q) H' g (some (.ref q))) : Ok B (fun a => S a ∨ a = q) (σ.set i (some (.ref q))) H' (G.set i g) := by
  have k : ∀ a u, ¬ S a → H a = some u → H' a = some u ∧ ¬ (S a ∨ a = q) := fun a u n e => ⟨sm a u e (O.wok.nl n), fun z => z.elim n fun z => by rw [z, hq] at e; cases e⟩
  have F : Fut (B.W.at S) H H' := ⟨sm, lw⟩
  have neq : ∀ {a : Addr}, S a → a ≠ q := fun {a} h z => by
    obtain ⟨o, e⟩ := O.wok.dom a h
    rw [z, hq] at e
    cases e
  refine ⟨⟨fun s l e => ⟨lw s l e, .inl (O.wok.law s l e).2.1, .inl (O.wok.law s l e).2.2⟩, fun a h => ?_⟩, fun a o e n => sm a o (O.ext a o e n) n, fun a h => .inl (O.sub a h), fun a h => ?_, by rw [List.length_set, List.length_set]; exact O.len, O.lw, fun j g' o e1 e2 => ?_, fun j k' g1 g2 p e1 e2 n1 n2 e3 e4 => ?_⟩
  · rcases h with h | h
    · exact (O.wok.fut F).dom a h
    · rw [h]
      exact hd
  · rcases h with h | h
    · exact O.new a h
    · refine .inr ?_
      cases e : B.H0 a with
      | none => rfl
      | some o =>
        have := O.ext a o e (by rw [h]; exact hn)
        rw [h, hq] at this
        cases this
  · by_cases hj : i = j
    · subst hj
      rw [List.getElem?_set] at e1 e2
      rw [if_pos rfl] at e1 e2
      split at e1
      · split at e2
        · cases e1
          cases e2
          exact h
        · cases e2
      · cases e1
    · rw [List.getElem?_set_ne hj] at e1 e2
      exact (O.sl j g' o e1 e2).mono k (fun _ z => .inl z) fun q' u _ _ _ n e => sm q' u e n
  · have old : ∀ {m : Nat} {g' : Sl}, i ≠ m → (G.set i g)[m]? = some g' → g'.isOwn = true → (σ.set i (some (.ref q)))[m]? = some (some (.ref p)) → p ≠ q ∧ G[m]? = some g' ∧ σ[m]? = some (some (.ref p)) := fun {m g'} nm f1 f2 f3 => by
      rw [List.getElem?_set_ne nm] at f1 f3
      refine ⟨?_, f1, f3⟩
      have base := O.sl m g' _ f1 f3
      cases g' with
      | no => cases f2
      | d d => cases f2
      | own ds' =>
        obtain ⟨q', vs', e', k1, _⟩ := base
        cases e'
        exact neq k1
      | obj c ds' =>
        obtain ⟨q', dx', vs', e', _, k1, _⟩ := base
        cases e'
        exact neq k1
      | exc c ds' => cases f2
    have isq : ∀ {m : Nat} {g' : Sl}, i = m → (G.set i g)[m]? = some g' → (σ.set i (some (.ref q)))[m]? = some (some (.ref p)) → p = q := fun {m g'} nm f1 f3 => by
      subst nm
      rw [List.getElem?_set] at f3
      rw [if_pos rfl] at f3
      split at f3
      · cases f3
        rfl
      · cases f3
    by_cases h1 : i = j
    · by_cases h2 : i = k'
      · exact h1.symm.trans h2
      · exact absurd (isq h1 e1 e3) (old h2 e2 n2 e4).1
    · by_cases h2 : i = k'
      · exact absurd (isq h2 e2 e4) (old h1 e1 n1 e3).1
      · obtain ⟨_, a1, a2⟩ := old h1 e1 n1 e3
        obtain ⟨_, b1, b2⟩ := old h2 e2 n2 e4
        exact O.inj j k' g1 g2 p a1 b1 n1 n2 a2 b2
/-- the own thing at slot i has changed -/
theorem Ok.turn (O : Ok B S σ H G) {i : Nat} {q : Addr} {g g' : Sl} {u : HO} (e : G[i]? = some g) (ow : g.isOwn = true) (es : σ[i]? = some (some (.ref q))) (h : SlOk B S (upd H q u) g' (some (.ref q))) (ow' : g'.isOwn = true) : Ok B S σ (upd H q u) (G.set i g') := by
  have hi : i < G.length := (List.getElem?_eq_some_iff.mp e).1
  have base := O.sl i g _ e es
  obtain ⟨sq, n0, nl⟩ : S q ∧ ¬ B.W.S q ∧ nL B.W.L q := by
    cases g with
    | no => cases ow
    | d d => cases ow
    | own ds' =>
      obtain ⟨q', vs', e', k1, k2, k3, _⟩ := base
      cases e'
      exact ⟨k1, k2, k3⟩
    | obj c ds' =>
      obtain ⟨q', dx', vs', e', _, k1, k2, k3, _⟩ := base
      cases e'
      exact ⟨k1, k2, k3⟩
    | exc c ds' => cases ow
  have k : ∀ a w, ¬ S a → H a = some w → upd H q u a = some w ∧ ¬ S a := fun a w n z => ⟨by rw [upd_ne (show a ≠ q from fun y => n (by rw [y]; exact sq))]; exact z, n⟩
  refine ⟨⟨fun s l z => ?_, fun a h => ?_⟩, fun a o z n => ?_, O.sub, O.new, by rw [List.length_set]; exact O.len, O.lw, fun j g1 o e1 e2 => ?_, fun j k' g1 g2 p e1 e2 n1 n2 e3 e4 => ?_⟩
  · obtain ⟨⟨z0, i', n', cs, z1⟩, z4⟩ := O.wok.law s l z
    obtain ⟨m1, m2⟩ := nl s l z
    exact ⟨⟨z0, i', n', cs, by rw [upd_ne (Ne.symm m1)]; exact z1⟩, z4⟩
  · by_cases ha : a = q
    · rw [ha, upd_same]
      exact ⟨_, rfl⟩
    · rw [upd_ne ha]
      exact O.wok.dom a h
  · have : a ≠ q := fun y => by
      rcases O.new q sq with w | w
      · exact n0 w
      · rw [y, w] at z
        cases z
    rw [upd_ne this]
    exact O.ext a o z n
  · by_cases hj : i = j
    · subst hj
      rw [List.getElem?_set_self hi] at e1
      cases e1
      rw [es] at e2
      cases e2
      exact h
    · rw [List.getElem?_set_ne hj] at e1
      refine (O.sl j g1 o e1 e2).mono k (fun _ z => z) fun q' w o1 o2 _ n z => ?_
      subst o2
      have : q' ≠ q := fun y => by
        subst y
        exact hj (O.inj i j _ _ _ e e1 ow o1 es e2)
      rw [upd_ne this]
      exact z
  · have back : ∀ {m : Nat} {g1 : Sl}, (G.set i g')[m]? = some g1 → g1.isOwn = true → ∃ g2, G[m]? = some g2 ∧ g2.isOwn = true := fun {m g1} f1 f2 => by
      by_cases hm : i = m
      · subst hm
        exact ⟨g, e, ow⟩
      · rw [List.getElem?_set_ne hm] at f1
        exact ⟨g1, f1, f2⟩
    obtain ⟨x1, y1, z1⟩ := back e1 n1
    obtain ⟨x2, y2, z2⟩ := back e2 n2
    exact O.inj j k' x1 x2 p y1 y2 z1 z2 e3 e4
end
end Pu
namespace Pu
open PySem PySem.Spec PyProof.Rows L2
/-! ## judgements -/
abbrev XP := List Sl → (D → Prop) → (Exn → Prop) → Prop
abbrev XTp := List Sl → (Bool → Prop) → (Exn → Prop) → Prop
abbrev XAp := List Sl → (List D → Prop) → (Exn → Prop) → Prop
def KE (W : Wd) (H : Hp) (Q : D → Prop) (k : VK) : Prop := ∀ v H' d, Fut W H H' → Rep W H' d v → Q d → k v H'
def KX (W : Wd) (σ : L2.St) (H : Hp) (E : Exn → Prop) (Wx : WX) : Prop := ∀ cls dd H' ex, Fut W H H' → ExOk W H' ex cls dd → E ex → Wx cls dd σ H'
def KT (W : Wd) (H : Hp) (Q : Bool → Prop) (k : Bool → Hp → Prop) : Prop := ∀ b H', Fut W H H' → Q b → k b H'
def KA (W : Wd) (H : Hp) (Q : List D → Prop) (k : List V → Hp → Prop) : Prop := ∀ vs H' ds, Fut W H H' → Reps W H' ds vs → Q ds → k vs H'
def EvE (B : Bs) (Wx : WX) (t : TE) (p : XP) : Prop := ∀ S σ H G Q E k, Ok B S σ H G → p G Q E → KE (B.W.at S) H Q k → KX (B.W.at S) σ H E Wx → t σ H k
def EvT (B : Bs) (Wx : WX) (t : TT) (p : XTp) : Prop := ∀ S σ H G Q E k, Ok B S σ H G → p G Q E → KT (B.W.at S) H Q k → KX (B.W.at S) σ H E Wx → t σ H k
def EvA (B : Bs) (Wx : WX) (t : TA) (p : XAp) : Prop := ∀ S σ H G Q E k, Ok B S σ H G → p G Q E → KA (B.W.at S) H Q k → KX (B.W.at S) σ H E Wx → t σ H k
structure XE (B : Bs) (X : Cx) (Wx : WX) (e : Expr) (p : XP) : Prop where
  ex : ∃ t, PE X e t ∧ EvE B Wx t p
structure XT (B : Bs) (X : Cx) (Wx : WX) (e : Expr) (p : XTp) : Prop where
  ex : ∃ t, PT X e t ∧ EvT B Wx t p
structure XW (B : Bs) (X : Cx) (Wx : WX) (e : Expr) (p : XTp) : Prop where
  ex : ∃ t, PW X e t ∧ EvT B Wx t p
structure XA (B : Bs) (X : Cx) (Wx : WX) (es : List Expr) (p : XAp) : Prop where
  ex : ∃ t, PA X es t ∧ EvA B Wx t p
section
variable {W : Wd} {H H1 : Hp} {σ : L2.St} {Wx : WX} {E : Exn → Prop}
theorem KX.fut (h : KX W σ H E Wx) (f : Fut W H H1) : KX W σ H1 E Wx := fun cls dd H' ex g => h cls dd H' ex (f.trans g)
theorem KE.fut {Q : D → Prop} {k : VK} (h : KE W H Q k) (f : Fut W H H1) : KE W H1 Q k := fun v H' d g => h v H' d (f.trans g)
theorem KT.fut {Q : Bool → Prop} {k : Bool → Hp → Prop} (h : KT W H Q k) (f : Fut W H H1) : KT W H1 Q k := fun v H' g => h v H' (f.trans g)
theorem KA.fut {Q : List D → Prop} {k : List V → Hp → Prop} (h : KA W H Q k) (f : Fut W H H1) : KA W H1 Q k := fun v H' d g => h v H' d (f.trans g)
end
/-! ## readings -/
def rVar (i : Nat) : XP := fun G Q _ => match G[i]? with
  | some (.d d) => Q d
  | _ => False
def rC (d : D) : XP := fun _ Q _ => Q d
abbrev DOp := D → D → (D → Prop) → (Exn → Prop) → Prop
abbrev DUn := D → (D → Prop) → (Exn → Prop) → Prop
abbrev DFn := List D → (D → Prop) → (Exn → Prop) → Prop
def rBin (o : DOp) (a b : XP) : XP := fun G Q E => a G (fun x => b G (fun y => o x y Q E) E) E
def rUn (o : DUn) (a : XP) : XP := fun G Q E => a G (fun x => o x Q E) E
def rFn (o : DFn) (as : XAp) : XP := fun G Q E => as G (fun xs => o xs Q E) E
def onB (d : D) (f : Bool → Prop) : Prop := match d with
  | .bl b => f b
  | _ => False
def rAnd (a b : XP) : XP := fun G Q E => a G (fun x => onB x fun k => if k = true then b G Q E else Q (.bl false)) E
def rOr (a b : XP) : XP := fun G Q E => a G (fun x => onB x fun k => if k = true then Q (.bl true) else b G Q E) E
def rNot (a : XP) : XP := fun G Q E => a G (fun x => onB x fun k => Q (.bl (!k))) E
def rIfE (t : XTp) (a b : XP) : XP := fun G Q E => t G (fun k => if k = true then a G Q E else b G Q E) E
def rTest (a : XP) : XTp := fun G Q E => a G (fun x => onB x Q) E
def rTAnd (a b : XTp) : XTp := fun G Q E => a G (fun k => if k = true then b G Q E else Q false) E
def rTOr (a b : XTp) : XTp := fun G Q E => a G (fun k => if k = true then Q true else b G Q E) E
def rTNot (a : XTp) : XTp := fun G Q E => a G (fun k => Q (!k)) E
def rChain (o o' : DOp) (a b c : XP) : XP := fun G Q E => a G (fun x => b G (fun y => o x y (fun z => onB z fun k => if k = true then c G (fun w => o' y w Q E) E else Q (.bl false)) E) E) E
def rNil : XAp := fun _ Q _ => Q []
def rCons (a : XP) (b : XAp) : XAp := fun G Q E => a G (fun x => b G (fun xs => Q (x :: xs)) E) E
/-! ## rules -/
def OpS (X : Cx) (f : Value → Value → Sem Value) (r : L2.St → R2) : Prop :=
  ∀ (pins : List (Addr × Obj)) (s : Shared) (σ : L2.St) (H : Hp) (x y : V) (v u : Value) (Q : VK), Inv X pins σ H s → RelV x v → RelV y u → r σ x y H Q →
    wpAny (model X.prog X.w) X.A (f v u) (EP X pins σ Q) X.xe s
structure XO (B : Bs) (X : Cx) (Wx : WX) (f : Value → Value → Sem Value) (o : DOp) : Prop where
  ex : ∃ r, OpS X f r ∧ ∀ S σ H x y dx dy Q E k, WOk (B.W.at S) H → Rep (B.W.at S) H dx x → Rep (B.W.at S) H dy y → o dx dy Q E → KE (B.W.at S) H Q k → KX (B.W.at S) σ H E Wx → r σ x y H k
def UnS (X : Cx) (f : Value → Sem Value) (r : L2.St → V → Hp → VK → Prop) : Prop :=
  ∀ (pins : List (Addr × Obj)) (s : Shared) (σ : L2.St) (H : Hp) (x : V) (v : Value) (Q : VK), Inv X pins σ H s → RelV x v → r σ x H Q →
    wpAny (model X.prog X.w) X.A (f v) (EP X pins σ Q) X.xe s
structure XU (B : Bs) (X : Cx) (Wx : WX) (f : Value → Sem Value) (o : DUn) : Prop where
  ex : ∃ r, UnS X f r ∧ ∀ S σ H x dx Q E k, WOk (B.W.at S) H → Rep (B.W.at S) H dx x → o dx Q E → KE (B.W.at S) H Q k → KX (B.W.at S) σ H E Wx → r σ x H k
section
variable {B : Bs} {X : Cx} {Wx : WX} {a b c e : Expr} {es : List Expr} {pa pb pc : XP} {pos : Pos}
theorem evE_c {d : D} {v : V} (h : ∀ S H, Rep (B.W.at S) H d v) : EvE B Wx (tC v) (rC d) := fun S σ H G Q E k O q ke _ => ke v H d (Fut.refl O.wok) (h S H) q
theorem xe_var (i : Nat) {x : Str} (hN : X.N[i]? = some x := by rfl) (hv : Vis X.env.scope x := by first | exact Or.inl rfl | exact Or.inr (Or.inl rfl) | exact Or.inr (Or.inr rfl)) (hd : (x == ("__debug__" : Str)) = false := by decide)
    (hcd : (x == ("__classdict__" : Str)) = false := by decide) : XE B X Wx (.Name x pos) (rVar i) := by
  refine ⟨tVar i, pe_var hN hv hd hcd, fun S σ H G Q E k O q ke _ => ?_⟩
  unfold rVar at q
  cases hg : G[i]? with
  | none => rw [hg] at q; exact q.elim
  | some g =>
    rw [hg] at q
    cases g with
    | d d =>
      obtain ⟨o, eo, v, rfl, r⟩ := O.get hg
      exact ⟨v, eo, ke v H d (Fut.refl O.wok) r q⟩
    | no => exact False.elim q
    | own ds => exact False.elim q
    | obj c ds => exact False.elim q
    | exc c ds => exact False.elim q
theorem xe_int {i j} : XE B X Wx (.Constant (.int i) j pos) (rC (.int i)) := ⟨_, pe_int, evE_c fun _ _ => by simp only [Rep]⟩
theorem xe_bl {k j} : XE B X Wx (.Constant (.bool k) j pos) (rC (.bl k)) := ⟨_, pe_bl, evE_c fun _ _ => by simp only [Rep]⟩
theorem xe_non {j} : XE B X Wx (.Constant .none j pos) (rC .non) := ⟨_, pe_non, evE_c fun _ _ => by simp only [Rep]⟩
theorem xe_str {x j} : XE B X Wx (.Constant (.str x) j pos) (rC (.str x)) := ⟨_, pe_str, evE_c fun _ _ => by simp only [Rep]⟩
theorem xe_gint {x : Str} {i : Int} {t : Tok} (hm : X.mg x = some (.int i t)) (hg : Gl X x := by rfl) (hd : (x == ("__debug__" : Str)) = false := by decide) : XE B X Wx (.Name x pos) (rC (.int i)) := ⟨_, pe_glob (v := .int i) hg hm ⟨t, rfl⟩ hd, evE_c fun _ _ => by simp only [Rep]⟩
theorem xe_gstr {x : Str} {i : Str} {t : Tok} (hm : X.mg x = some (.str i t)) (hg : Gl X x := by rfl) (hd : (x == ("__debug__" : Str)) = false := by decide) : XE B X Wx (.Name x pos) (rC (.str i)) := ⟨_, pe_glob (v := .str i) hg hm ⟨t, rfl⟩ hd, evE_c fun _ _ => by simp only [Rep]⟩
theorem xe_gref {x : Str} {C : Addr} (hm : X.mg x = some (.ref C)) (hg : Gl X x := by rfl) (hd : (x == ("__debug__" : Str)) = false := by decide) : XE B X Wx (.Name x pos) (rC (.val (.ref C))) := ⟨_, pe_glob (v := .ref C) hg hm rfl hd, evE_c fun _ _ => by simp only [Rep]⟩
theorem xe_bty {x : Str} {T : String} (hm : X.mg x = none) (hv : bootBuiltins x = some (.type T)) (hg : Gl X x := by rfl) (hn : x ≠ "__name__" := by decide) (hd : (x == ("__debug__" : Str)) = false := by decide) : XE B X Wx (.Name x pos) (rC (.val (.ty T))) := ⟨_, pe_bltn (v := .ty T) hg hm hv rfl hn hd, evE_c fun _ _ => by simp only [Rep]⟩
/-! two in a row -/
theorem ev2 {ta tb : TE} (ha : EvE B Wx ta pa) (hb : EvE B Wx tb pb) {S : Addr → Prop} {σ : L2.St} {H : Hp} {G : List Sl} {E : Exn → Prop} {R : D → D → Prop} {K : V → V → Hp → Prop} (O : Ok B S σ H G) (h : pa G (fun x => pb G (fun y => R x y) E) E) (kx : KX (B.W.at S) σ H E Wx)
    (hk : ∀ x y H' dx dy, Fut (B.W.at S) H H' → Ok B S σ H' G → Rep (B.W.at S) H' dx x → Rep (B.W.at S) H' dy y → R dx dy → K x y H') : ta σ H fun x H1 => tb σ H1 fun y H2 => K x y H2 := by
  refine ha S σ H G _ E _ O h (fun x H1 dx f1 r1 q1 => ?_) kx
  refine hb S σ H1 G _ E _ (O.fut f1) q1 (fun y H2 dy f2 r2 q2 => ?_) (kx.fut f1)
  have w1 := O.wok.fut f1
  exact hk x y H2 dx dy (f1.trans f2) (O.fut (f1.trans f2)) (r1.fut w1 f2) r2 q2
def tOpS (r : L2.St → R2) (ta tb : TE) : TE := fun σ H Q => ta σ H fun x H1 => tb σ H1 fun y H2 => r σ x y H2 Q
theorem evOp {f : Value → Value → Sem Value} {o : DOp} {r : L2.St → R2} {ta tb : TE} (hr : ∀ S σ H x y dx dy Q E k, WOk (B.W.at S) H → Rep (B.W.at S) H dx x → Rep (B.W.at S) H dy y → o dx dy Q E → KE (B.W.at S) H Q k → KX (B.W.at S) σ H E Wx → r σ x y H k) (ha : EvE B Wx ta pa) (hb : EvE B Wx tb pb) : EvE B Wx (tOpS r ta tb) (rBin o pa pb) := fun S σ H G Q E k O q ke kx =>
  ev2 ha hb O q kx fun x y H' dx dy f O' r1 r2 h => hr S σ H' x y dx dy Q E k O'.wok r1 r2 h (ke.fut f) (kx.fut f)
theorem xe_bin {op : Operator} {o : DOp} (ho : XO B X Wx (binaryOp op) o) (ha : XE B X Wx a pa) (hb : XE B X Wx b pb) : XE B X Wx (.BinOp a op b pos) (rBin o pa pb) := by
  obtain ⟨r, h1, h2⟩ := ho.ex
  obtain ⟨ta, ha, ea⟩ := ha.ex
  obtain ⟨tb, hb, eb⟩ := hb.ex
  refine ⟨tOpS r ta tb, ⟨fun pins s σ H Q I h => ?_⟩, evOp (f := binaryOp op) h2 ea eb⟩
  exact wpAny_BinOp (binT ha hb I h fun v u s2 x y H2 I2 rx ry q => h1 pins s2 σ H2 x y v u Q I2 rx ry q)
theorem xe_cmp {op : CmpOp} {o : DOp} (ho : XO B X Wx (compareOp op) o) (ha : XE B X Wx a pa) (hb : XE B X Wx b pb) (hm : behindInMarks op b = false := by first | exact nomark _ | with_unfolding_all rfl) : XE B X Wx (.Compare a [op] [b] pos) (rBin o pa pb) := by
  obtain ⟨r, h1, h2⟩ := ho.ex
  obtain ⟨ta, ha, ea⟩ := ha.ex
  obtain ⟨tb, hb, eb⟩ := hb.ex
  refine ⟨tOpS r ta tb, ⟨fun pins s σ H Q I h => ?_⟩, evOp (f := compareOp op) h2 ea eb⟩
  exact wpAny_Compare1 (binT ha hb I h fun v u s2 x y H2 I2 rx ry q => h1 pins s2 σ H2 x y v u Q I2 rx ry q) hm
theorem onB_elim {d : D} {f : Bool → Prop} (h : onB d f) : ∃ k, d = .bl k ∧ f k := by
  cases d <;> first | exact ⟨_, rfl, h⟩ | exact False.elim h
theorem xt_cmp {op : CmpOp} {o : DOp} (ho : XO B X Wx (compareOp op) o) (ha : XE B X Wx a pa) (hb : XE B X Wx b pb) (hm : behindInMarks op b = false := by first | exact nomark _ | with_unfolding_all rfl) : XT B X Wx (.Compare a [op] [b] pos) (rTest (rBin o pa pb)) := by
  obtain ⟨r, h1, h2⟩ := ho.ex
  obtain ⟨ta, ha, ea⟩ := ha.ex
  obtain ⟨tb, hb, eb⟩ := hb.ex
  refine ⟨tTest (tOpS r ta tb), ⟨fun pins s σ H Q I h => ?_⟩, fun S σ H G Q E k O q kt kx => ?_⟩
  · refine wpAny_isTrue_Compare1 (thn (ha.run pins s σ H _ I h) fun v s1 ⟨x, H1, I1, r1, q1⟩ => thn (hb.run pins s1 σ H1 _ I1 q1) fun u s2 ⟨y, H2, I2, r2, q2⟩ =>
      thn (h1 pins s2 σ H2 x y v u _ I2 r1 r2 q2) fun c s3 ⟨z, H3, I3, r3, k, e, q3⟩ => ?_) hm
    subst e
    cases r3
    exact wpAny_truthy_bool ⟨H3, I3, q3⟩
  · refine evOp (f := compareOp op) h2 ea eb S σ H G _ E _ O q (fun v H' d f r q' => ?_) kx
    obtain ⟨k', rfl, q''⟩ := onB_elim q'
    simp only [Rep] at r
    exact ⟨k', r, kt k' H' f q''⟩
theorem xt_val (ha : XE B X Wx a pa) (he : ∀ whole, isTrue a X.env whole = (do let v ← whole; standAt a.pos; holding [v] (truthy v)) := by intro _; rfl) : XT B X Wx a (rTest pa) := by
  obtain ⟨ta, ha, ea⟩ := ha.ex
  refine ⟨tB ta, pt_val ha he, fun S σ H G Q E k O q kt kx => ?_⟩
  refine ea S σ H G _ E _ O q (fun v H' d f r q' => ?_) kx
  obtain ⟨k', rfl, q''⟩ := onB_elim q'
  simp only [Rep] at r
  exact ⟨k', r, kt k' H' f q''⟩
theorem xt_chain {op op' : CmpOp} {o o' : DOp} (ho : XO B X Wx (compareOp op) o) (ho' : XO B X Wx (compareOp op') o') (ha : XE B X Wx a pa) (hb : XE B X Wx b pb) (hc : XE B X Wx c pc) (hm : lastMarks [op, op'] [b, c] = false := by with_unfolding_all rfl) :
    XT B X Wx (.Compare a [op, op'] [b, c] pos) (rTest (rChain o o' pa pb pc)) ∧ XE B X Wx (.Compare a [op, op'] [b, c] pos) (rChain o o' pa pb pc) := by
  obtain ⟨r, h1, h2⟩ := ho.ex
  obtain ⟨r', h1', h2'⟩ := ho'.ex
  obtain ⟨ta, ha, ea⟩ := ha.ex
  obtain ⟨tb, hb, eb⟩ := hb.ex
  obtain ⟨tc, hc, ec⟩ := hc.ex
  let T : TE := fun σ H Q => ta σ H fun x H1 => tb σ H1 fun y H2 => r σ x y H2 fun z H3 => ∃ k, z = .bl k ∧ (if k = true then tc σ H3 fun w' H4 => r' σ y w' H4 Q else Q (.bl false) H3)
  have ev : EvE B Wx T (rChain o o' pa pb pc) := fun S σ H G Q E k O q ke kx => by
    refine ev2 ea eb O q kx fun x y H' dx dy f O' r1 r2 h => ?_
    refine h2 S σ H' x y dx dy _ E _ O'.wok r1 r2 h (fun z H3 dz f3 r3 q3 => ?_) (kx.fut f)
    obtain ⟨k', rfl, q9⟩ := onB_elim q3
    simp only [Rep] at r3
    refine ⟨k', r3, ?_⟩
    have w' := O'.wok
    cases k' with
    | false =>
      rw [if_neg Bool.false_ne_true] at q9 ⊢
      exact ke _ _ _ (f.trans f3) (by simp only [Rep]) q9
    | true =>
      rw [if_pos rfl] at q9 ⊢
      refine ec S σ H3 G _ E _ (O'.fut f3) q9 (fun w4 H4 dw f4 r4 q4 => ?_) ((kx.fut f).fut f3)
      exact h2' S σ H4 y w4 dy dw Q E k ((w'.fut f3).fut f4) ((r2.fut w' f3).fut (w'.fut f3) f4) r4 q4 (ke.fut ((f.trans f3).trans f4)) (kx.fut ((f.trans f3).trans f4))
  refine ⟨⟨tTest T, ⟨fun pins s σ H Q I h => ?_⟩, fun S σ H G Q E k O q kt kx => ?_⟩, ⟨T, ⟨fun pins s σ H Q I h => ?_⟩, ev⟩⟩
  · refine isTrue_chain (thn (ha.run pins s σ H _ I h) fun v s1 ⟨x, H1, I1, r1, q1⟩ => test_link (thn (hb.run pins s1 σ H1 _ I1 q1) fun u s2 ⟨y, H2, I2, r2, q2⟩ =>
      thn (h1 pins s2 σ H2 x y v u _ I2 r1 r2 q2) fun d s3 ⟨z, H3, I3, r3, k, e, q3⟩ => ?_)) hm
    subst e
    cases r3
    refine wpAny_truthy_bool ?_
    cases k with
    | false =>
      obtain ⟨k', e', q'⟩ := q3
      cases e'
      exact ite_ff ⟨H3, I3, q'⟩
    | true =>
      refine ite_tt (test_last (thn (hc.run pins s3 σ H3 _ I3 q3) fun w' s4 ⟨z', H4, I4, r4, q4⟩ => thn (h1' pins s4 σ H4 y z' u w' _ I4 r2 r4 q4) fun c s5 ⟨z5, H5, I5, r5, k, e, q5⟩ => ?_))
      subst e
      cases r5
      exact wpAny_truthy_bool ⟨H5, I5, q5⟩
  · refine ev S σ H G _ E _ O q (fun v H' d f r q' => ?_) kx
    obtain ⟨k', rfl, q''⟩ := onB_elim q'
    simp only [Rep] at r
    exact ⟨k', r, kt k' H' f q''⟩
  · refine Compare_chain (thn (ha.run pins s σ H _ I h) fun v s1 ⟨x, H1, I1, r1, q1⟩ => chain_link (thn (hb.run pins s1 σ H1 _ I1 q1) fun u s2 ⟨y, H2, I2, r2, q2⟩ =>
      thn (h1 pins s2 σ H2 x y v u _ I2 r1 r2 q2) fun d s3 ⟨z, H3, I3, r3, k, e, q3⟩ => ?_)) hm
    subst e
    cases r3
    refine wpAny_truthy_bool ?_
    cases k with
    | false => exact ite_ff ⟨.bl false, H3, I3, rfl, q3⟩
    | true => exact ite_tt (chain_last (thn (hc.run pins s3 σ H3 _ I3 q3) fun w' s4 ⟨z', H4, I4, r4, q4⟩ => h1' pins s4 σ H4 y z' u w' Q I4 r2 r4 q4))
/-! and, or, not -/
variable {qa qb : XTp} {rest : List Expr}
theorem xt_not (ha : XT B X Wx a qa) : XT B X Wx (.UnaryOp .Not a pos) (rTNot qa) := by
  obtain ⟨ta, ha, ea⟩ := ha.ex
  exact ⟨tNot ta, pt_not ha, fun S σ H G Q E k O q kt kx => ea S σ H G _ E _ O q (fun b H' f h => kt (!b) H' f h) kx⟩
theorem xw_and (ha : XT B X Wx a qa) (hb : XW B X Wx (.BoolOp .And (b :: rest) pos) qb) : XW B X Wx (.BoolOp .And (a :: b :: rest) pos) (rTAnd qa qb) := by
  obtain ⟨ta, ha, ea⟩ := ha.ex
  obtain ⟨tb, hb, eb⟩ := hb.ex
  refine ⟨tAnd ta tb, pw_and ha hb, fun S σ H G Q E k O q kt kx => ea S σ H G _ E _ O q (fun b H' f h => ?_) kx⟩
  cases b with
  | true =>
    rw [if_pos rfl] at h ⊢
    exact eb S σ H' G Q E k (O.fut f) h (kt.fut f) (kx.fut f)
  | false =>
    rw [if_neg Bool.false_ne_true] at h ⊢
    exact kt false H' f h
theorem xw_or (ha : XT B X Wx a qa) (hb : XW B X Wx (.BoolOp .Or (b :: rest) pos) qb) : XW B X Wx (.BoolOp .Or (a :: b :: rest) pos) (rTOr qa qb) := by
  obtain ⟨ta, ha, ea⟩ := ha.ex
  obtain ⟨tb, hb, eb⟩ := hb.ex
  refine ⟨tOr ta tb, pw_or ha hb, fun S σ H G Q E k O q kt kx => ea S σ H G _ E _ O q (fun b H' f h => ?_) kx⟩
  cases b with
  | true =>
    rw [if_pos rfl] at h ⊢
    exact kt true H' f h
  | false =>
    rw [if_neg Bool.false_ne_true] at h ⊢
    exact eb S σ H' G Q E k (O.fut f) h (kt.fut f) (kx.fut f)
theorem xw_and1 (ha : XT B X Wx a qa) : XW B X Wx (.BoolOp .And [a] pos) qa := by
  obtain ⟨ta, ha, ea⟩ := ha.ex
  exact ⟨ta, pw_and1 ha, ea⟩
theorem xw_or1 (ha : XT B X Wx a qa) : XW B X Wx (.BoolOp .Or [a] pos) qa := by
  obtain ⟨ta, ha, ea⟩ := ha.ex
  exact ⟨ta, pw_or1 ha, ea⟩
theorem XW.xt (ha : XW B X Wx a qa) : XT B X Wx a qa := by
  obtain ⟨ta, ha, ea⟩ := ha.ex
  exact ⟨ta, ha.pt, ea⟩
theorem xe_one {op} (ha : XE B X Wx a pa) : XE B X Wx (.BoolOp op [a] pos) pa := by
  obtain ⟨ta, ha, ea⟩ := ha.ex
  exact ⟨ta, pe_one ha, ea⟩
theorem xe_and (ha : XE B X Wx a pa) (hb : XE B X Wx (.BoolOp .And (b :: rest) pos) pb) : XE B X Wx (.BoolOp .And (a :: b :: rest) pos) (rAnd pa pb) := by
  obtain ⟨ta, ha, ea⟩ := ha.ex
  obtain ⟨tb, hb, eb⟩ := hb.ex
  refine ⟨tAndV ta tb, pe_and ha hb, fun S σ H G Q E k O q ke kx => ea S σ H G _ E _ O q (fun v H' d f r h => ?_) kx⟩
  obtain ⟨k', rfl, h9⟩ := onB_elim h
  simp only [Rep] at r
  refine ⟨k', r, ?_⟩
  cases k' with
  | true =>
    rw [if_pos rfl] at h9 ⊢
    exact eb S σ H' G Q E k (O.fut f) h9 (ke.fut f) (kx.fut f)
  | false =>
    rw [if_neg Bool.false_ne_true] at h9 ⊢
    exact ke _ H' _ f (by simp only [Rep]) h9
theorem xe_or (ha : XE B X Wx a pa) (hb : XE B X Wx (.BoolOp .Or (b :: rest) pos) pb) : XE B X Wx (.BoolOp .Or (a :: b :: rest) pos) (rOr pa pb) := by
  obtain ⟨ta, ha, ea⟩ := ha.ex
  obtain ⟨tb, hb, eb⟩ := hb.ex
  refine ⟨tOrV ta tb, pe_or ha hb, fun S σ H G Q E k O q ke kx => ea S σ H G _ E _ O q (fun v H' d f r h => ?_) kx⟩
  obtain ⟨k', rfl, h9⟩ := onB_elim h
  simp only [Rep] at r
  refine ⟨k', r, ?_⟩
  cases k' with
  | true =>
    rw [if_pos rfl] at h9 ⊢
    exact ke _ H' _ f (by simp only [Rep]) h9
  | false =>
    rw [if_neg Bool.false_ne_true] at h9 ⊢
    exact eb S σ H' G Q E k (O.fut f) h9 (ke.fut f) (kx.fut f)
theorem xe_not (ha : XE B X Wx a pa) : XE B X Wx (.UnaryOp .Not a pos) (rNot pa) := by
  obtain ⟨ta, ha, ea⟩ := ha.ex
  refine ⟨tNotV ta, pe_not ha, fun S σ H G Q E k O q ke kx => ea S σ H G _ E _ O q (fun v H' d f r h => ?_) kx⟩
  obtain ⟨k', rfl, h⟩ := onB_elim h
  simp only [Rep] at r
  exact ⟨k', r, ke _ H' _ f (by simp only [Rep]) h⟩
theorem xe_ifE (hc : XT B X Wx c qa) (ha : XE B X Wx a pa) (hb : XE B X Wx b pb) : XE B X Wx (.IfExp c a b pos) (rIfE qa pa pb) := by
  obtain ⟨tc, hc, ec⟩ := hc.ex
  obtain ⟨ta, ha, ea⟩ := ha.ex
  obtain ⟨tb, hb, eb⟩ := hb.ex
  refine ⟨tIf tc ta tb, pe_ifExp hc ha hb, fun S σ H G Q E k O q ke kx => ec S σ H G _ E _ O q (fun b H' f h => ?_) kx⟩
  cases b with
  | true =>
    rw [if_pos rfl] at h ⊢
    exact ea S σ H' G Q E k (O.fut f) h (ke.fut f) (kx.fut f)
  | false =>
    rw [if_neg Bool.false_ne_true] at h ⊢
    exact eb S σ H' G Q E k (O.fut f) h (ke.fut f) (kx.fut f)
theorem xe_un {op : UnaryOp} {o : DUn} (ho : XU B X Wx (unaryOp op) o) (ha : XE B X Wx a pa) : XE B X Wx (.UnaryOp op a pos) (rUn o pa) := by
  obtain ⟨r, h1, h2⟩ := ho.ex
  obtain ⟨ta, ha, ea⟩ := ha.ex
  refine ⟨fun σ H Q => ta σ H fun x H1 => r σ x H1 Q, ⟨fun pins s σ H Q I h => ?_⟩, fun S σ H G Q E k O q ke kx => ea S σ H G _ E _ O q (fun v H' d f r' h => ?_) kx⟩
  · exact UnaryOp_ (thn (ha.run pins s σ H _ I h) fun v s1 ⟨x, H1, I1, r1, q1⟩ => h1 pins s1 σ H1 x v Q I1 r1 q1)
  · exact h2 S σ H' v d Q E k (O.wok.fut f) r' h (ke.fut f) (kx.fut f)
/-! argument lists, displays -/
variable {pas : XAp}
theorem xa_nil : XA B X Wx [] rNil := ⟨tNil, pa_nil, fun S σ H G Q E k O q ka _ => ka [] H [] (Fut.refl O.wok) Reps.nil q⟩
theorem xa_cons (ha : XE B X Wx e pa) (hr : XA B X Wx es pas) (hs : starEach (e :: es) X.env = (false, eval e X.env) :: starEach es X.env := by rfl) : XA B X Wx (e :: es) (rCons pa pas) := by
  obtain ⟨ta, ha, ea⟩ := ha.ex
  obtain ⟨tr, hr, er⟩ := hr.ex
  refine ⟨tCons ta tr, pa_cons ha hr hs, fun S σ H G Q E k O q ka kx => ea S σ H G _ E _ O q (fun v H1 d f r h => ?_) kx⟩
  refine er S σ H1 G _ E _ (O.fut f) h (fun vs H2 ds f2 r2 h2 => ?_) (kx.fut f)
  exact ka (v :: vs) H2 (d :: ds) (f.trans f2) (Reps.cons (r.fut (O.wok.fut f) f2) r2) h2
def rTup (as : XAp) : XP := fun G Q E => as G (fun xs => xs.length ≤ 1000 ∧ Q (.tup xs)) E
def rLst (as : XAp) : XP := fun G Q E => as G (fun xs => xs.length ≤ 1000 ∧ Q (.lst xs)) E
theorem fut_new {W : Wd} {H : Hp} {p : Addr} {o : HO} (w : WOk W H) (h : H p = none) : Fut W H (upd H p o) := Fut.same w fun a u e => by rw [upd_ne (ne_of_none e h)]; exact e
theorem xe_tup {x1} (h : XA B X Wx es pas) : XE B X Wx (.Tuple es x1 pos) (rTup pas) := by
  obtain ⟨t, h, ev⟩ := h.ex
  refine ⟨tTup t, pe_tup h, fun S σ H G Q E k O q ke kx => ev S σ H G _ E _ O q (fun vs H1 ds f r h => ?_) kx⟩
  have w1 := O.wok.fut f
  refine ⟨Nat.le_of_lt (small1000 (by rw [r.len]; exact h.1)), fun p hp => ?_⟩
  have f2 := fut_new (o := .tup vs) w1 hp
  refine ke _ _ _ (f.trans f2) ?_ h.2
  simp only [Rep]
  exact ⟨p, vs, rfl, w1.new hp, .inl upd_same, r.fut w1 f2⟩
theorem xe_lst (h : XA B X Wx es pas) : XE B X Wx (.List es pos) (rLst pas) := by
  obtain ⟨t, h, ev⟩ := h.ex
  refine ⟨tLst t, pe_lst h, fun S σ H G Q E k O q ke kx => ev S σ H G _ E _ O q (fun vs H1 ds f r h => ?_) kx⟩
  have w1 := O.wok.fut f
  refine ⟨Nat.le_of_lt (small1000 (by rw [r.len]; exact h.1)), fun p hp => ?_⟩
  have f2 := fut_new (o := .lst vs) w1 hp
  refine ke _ _ _ (f.trans f2) ?_ h.2
  simp only [Rep]
  exact ⟨p, vs, rfl, w1.new hp, upd_same, r.fut w1 f2⟩
end
end Pu
namespace Pu
open PySem PySem.Spec PyProof.Rows L2
/-! ## == of plain data -/
/-- none, bools, ints, texts, lists and tuples of these, at most so deep -/
def pl : Nat → D → Bool
  | _, .non => true
  | _, .bl _ => true
  | _, .int _ => true
  | _, .str _ => true
  | n + 1, .lst ds => ds.all (pl n)
  | n + 1, .tup ds => ds.all (pl n)
  | _, _ => false
mutual
def deq : D → D → Bool
  | .non, .non => true
  | .bl a, .bl b => a == b
  | .bl a, .int j => (if a then 1 else 0) == j
  | .int i, .bl b => i == (if b then 1 else 0)
  | .int i, .int j => i == j
  | .str x, .str y => x == y
  | .lst xs, .lst ys => deqs xs ys
  | .tup xs, .tup ys => deqs xs ys
  | _, _ => false
def deqs : List D → List D → Bool
  | [], [] => true
  | x :: xs, y :: ys => deq x y && deqs xs ys
  | _, _ => false
end
abbrev pairD (xs ys : List D) (j : Nat) : Bool := deq (xs.getD j .non) (ys.getD j .non)
theorem deqs_eq : ∀ xs ys : List D, ((List.range (min xs.length ys.length)).all (pairD xs ys) && xs.length == ys.length) = deqs xs ys
  | [], [] => by simp [deqs]
  | [], _ :: _ => by simp [deqs]
  | _ :: _, [] => by simp [deqs]
  | x :: xs, y :: ys => by
    have ih := deqs_eq xs ys
    have e1 : min (x :: xs).length (y :: ys).length = min xs.length ys.length + 1 := by simp only [List.length_cons]; omega
    have e2 : ((x :: xs).length == (y :: ys).length) = (xs.length == ys.length) := by simp
    have e3 : (List.range (min xs.length ys.length + 1)).all (pairD (x :: xs) (y :: ys)) = (deq x y && (List.range (min xs.length ys.length)).all (pairD xs ys)) := by
      rw [List.range_succ_eq_map, List.all_cons, List.all_map]
      first | rfl | simp [pairD, Function.comp_def]
    rw [e1, e2, e3, deqs, ← ih, Bool.and_assoc]
theorem deqs_same {xs ys : List D} (h : xs.length = ys.length) : (List.range xs.length).all (pairD xs ys) = deqs xs ys := by
  have := deqs_eq xs ys
  rw [← h, Nat.min_self] at this
  simpa using this
theorem deqs_other {xs ys : List D} (h : xs.length ≠ ys.length) : deqs xs ys = false := by
  rw [← deqs_eq xs ys]
  simp [h]
mutual
theorem deq_refl : ∀ (n : Nat) (d : D), pl n d = true → deq d d = true
  | n, .non, _ => by simp [deq]
  | n, .bl b, _ => by simp [deq]
  | n, .int i, _ => by simp [deq]
  | n, .str x, _ => by simp [deq]
  | 0, .lst ds, h => by simp [pl] at h
  | 0, .tup ds, h => by simp [pl] at h
  | n + 1, .lst ds, h => by
    simp only [deq]
    exact deqs_refl n ds (by simpa [pl] using h)
  | n + 1, .tup ds, h => by
    simp only [deq]
    exact deqs_refl n ds (by simpa [pl] using h)
  | n, .val v, h => by cases n <;> simp [pl] at h
  | n, .law, h => by cases n <;> simp [pl] at h
  | n, .ins c ds, h => by cases n <;> simp [pl] at h
  | n, .dic k ds, h => by cases n <;> simp [pl] at h
  | n, .ftp ds, h => by cases n <;> simp [pl] at h
  | n, .exn c ds, h => by cases n <;> simp [pl] at h
theorem deqs_refl : ∀ (n : Nat) (ds : List D), (∀ d ∈ ds, pl n d = true) → deqs ds ds = true
  | n, [], _ => by simp [deqs]
  | n, d :: ds, h => by
    simp only [deqs, Bool.and_eq_true]
    exact ⟨deq_refl n d (h d (by simp)), deqs_refl n ds (fun x hx => h x (by simp [hx]))⟩
end
theorem repL {W : Wd} {H : Hp} {ds : List D} {v : V} (h : Rep W H (.lst ds) v) : ∃ a vs, v = .ref a ∧ ¬ W.S a ∧ H a = some (.lst vs) ∧ Reps W H ds vs := by simpa only [Rep] using h
theorem repT {W : Wd} {H : Hp} {ds : List D} {v : V} (h : Rep W H (.tup ds) v) : ∃ a vs, v = .ref a ∧ ¬ W.S a ∧ Rd H a (.tup vs) ∧ Reps W H ds vs := by simpa only [Rep] using h
theorem _root_.L2.Rd.uniqT {H : Hp} {a : Addr} {vs us : List V} (h : Rd H a (.tup vs)) (h' : Rd H a (.tup us)) : vs = us := by
  rcases h with h | ⟨o, h⟩ <;> rcases h' with h' | ⟨o', h'⟩ <;> (rw [h] at h'; cases h'; try rfl)
theorem _root_.L2.Rd.noL {H : Hp} {a : Addr} {vs us : List V} (h : Rd H a (.tup vs)) (h' : H a = some (.lst us)) : False := by
  rcases h with h | ⟨o, h⟩ <;> (rw [h] at h'; cases h')
mutual
theorem Rep.uniq {W : Wd} {H : Hp} : ∀ (n : Nat) (d e : D) (v : V), pl n d = true → pl n e = true → Rep W H d v → Rep W H e v → d = e
  | n, d, e, v, h1, h2, r1, r2 => by
    cases d with
    | non => simp only [Rep] at r1; subst r1; cases e <;> simp [Rep] at r2 <;> first | rfl | (simp [pl] at h2)
    | bl b => simp only [Rep] at r1; subst r1; cases e <;> simp [Rep] at r2 <;> first | (rw [r2]) | (simp [pl] at h2)
    | int b => simp only [Rep] at r1; subst r1; cases e <;> simp [Rep] at r2 <;> first | (rw [r2]) | (simp [pl] at h2)
    | str b => simp only [Rep] at r1; subst r1; cases e <;> simp [Rep] at r2 <;> first | (rw [r2]) | (simp [pl] at h2)
    | lst ds =>
      obtain ⟨a, vs, rfl, _, q, r⟩ := repL r1
      cases n with
      | zero => simp [pl] at h1
      | succ n =>
        cases e with
        | lst es =>
          obtain ⟨a', vs', ea, _, q', r'⟩ := repL r2
          cases ea
          rw [q] at q'
          cases q'
          rw [Reps.uniq n ds es vs (by simpa [pl] using h1) (by simpa [pl] using h2) r r']
        | tup es =>
          obtain ⟨a', vs', ea, _, q', r'⟩ := repT r2
          cases ea
          exact (q'.noL q).elim
        | _ => first | (simp [Rep] at r2; done) | (simp [pl] at h2; done)
    | tup ds =>
      obtain ⟨a, vs, rfl, _, q, r⟩ := repT r1
      cases n with
      | zero => simp [pl] at h1
      | succ n =>
        cases e with
        | tup es =>
          obtain ⟨a', vs', ea, _, q', r'⟩ := repT r2
          cases ea
          cases q.uniqT q'
          rw [Reps.uniq n ds es vs (by simpa [pl] using h1) (by simpa [pl] using h2) r r']
        | lst es =>
          obtain ⟨a', vs', ea, _, q', r'⟩ := repL r2
          cases ea
          exact (q.noL q').elim
        | _ => first | (simp [Rep] at r2; done) | (simp [pl] at h2; done)
    | _ => cases n <;> simp [pl] at h1
  termination_by n => (n, 0)
theorem Reps.uniq {W : Wd} {H : Hp} : ∀ (n : Nat) (ds es : List D) (vs : List V), (∀ d ∈ ds, pl n d = true) → (∀ d ∈ es, pl n d = true) → Reps W H ds vs → Reps W H es vs → ds = es
  | n, [], es, vs, h1, h2, r1, r2 => by
    simp only [Reps] at r1
    subst r1
    cases es with
    | nil => rfl
    | cons e es => simp [Reps] at r2
  | n, d :: ds, es, vs, h1, h2, r1, r2 => by
    simp only [Reps] at r1
    obtain ⟨v, r, rfl, q1, q2⟩ := r1
    cases es with
    | nil => simp [Reps] at r2
    | cons e es =>
      simp only [Reps] at r2
      obtain ⟨v', r', e', p1, p2⟩ := r2
      cases e'
      rw [Rep.uniq n d e v (h1 d (by simp)) (h2 e (by simp)) q1 p1, Reps.uniq n ds es r (fun x hx => h1 x (by simp [hx])) (fun x hx => h2 x (by simp [hx])) q2 p2]
  termination_by n ds => (n, ds.length + 1)
end
section
variable {X : Cx} {pins : List (Addr × Obj)} {σ : L2.St} {H : Hp} {s : Shared} {W : Wd}
open SeqAt in
theorem atL (I : Inv X pins σ H s) {ds : List D} {v : V} {u : Value} (h : Rep W H (.lst ds) v) (r : RelV v u) : ∃ a vs its, u = .ref a ∧ s.heap.IsList a its.toArray ∧ Vals vs its ∧ Reps W H ds vs ∧ H a = some (.lst vs) := by
  obtain ⟨a, vs, rfl, _, q, rr⟩ := repL h
  cases r
  obtain ⟨its, rv, p, _⟩ := I.list (SqL.of (K := X.K) q)
  exact ⟨a, vs, its, rfl, p.isList, rv, rr, q⟩
open SeqAt in
theorem atT (I : Inv X pins σ H s) {ds : List D} {v : V} {u : Value} (h : Rep W H (.tup ds) v) (r : RelV v u) : ∃ a vs its, u = .ref a ∧ s.heap.IsTuple a its.toArray ∧ Vals vs its ∧ Reps W H ds vs ∧ Rd H a (.tup vs) := by
  obtain ⟨a, vs, rfl, _, q, rr⟩ := repT h
  cases r
  obtain ⟨its, rv, p, _⟩ := I.tuple ((Or.inl q : SqT X.K H a vs))
  exact ⟨a, vs, its, rfl, p, rv, rr, q⟩
theorem repC {d : D} {v : V} {u : Value} (h : Rep W H d v) (r : RelV v u) : match d with
    | .non => u = .none
    | .bl b => u = .bool b
    | .int i => ∃ t, u = .int i t
    | .str x => ∃ t, u = .str x t
    | _ => True := by
  cases d <;> simp only [Rep] at h <;> first | trivial | (subst h; exact r)
open SeqAt in
mutual
theorem eqAtD (I : Inv X pins σ H s) : ∀ (n : Nat) (d e : D) (A : Around) (v w : V) (u u' : Value), pl n d = true → pl n e = true → Rep W H d v → Rep W H e w → RelV v u → RelV w u' → A.units + n < cLine → EqAt A s u u' (deq d e)
  | n, d, e, A, v, w, u, u', h1, h2, r1, r2, q1, q2, hu => by
    have hu0 : A.units < cLine := by omega
    cases d with
    | lst ds =>
      obtain ⟨a, vs, its, rfl, hl, rv, rr, ha⟩ := atL I r1 q1
      cases n with
      | zero => simp [pl] at h1
      | succ n =>
        cases e with
        | lst es =>
          obtain ⟨b, ws, jts, rfl, hl', rv', rr', hb⟩ := atL I r2 q2
          by_cases hab : a = b
          · subst hab
            rw [ha] at hb
            cases hb
            have : ds = es := Reps.uniq n ds es vs (by simpa [pl] using h1) (by simpa [pl] using h2) rr rr'
            subst this
            rw [deq_refl (n + 1) _ h1]
            exact EqAt.same _
          · simp only [deq]
            have n1 : its.toArray.size = ds.length := by rw [List.size_toArray, ← rv.length, rr.len]
            have n2 : jts.toArray.size = es.length := by rw [List.size_toArray, ← rv'.length, rr'.len]
            by_cases hsz : its.toArray.size = jts.toArray.size
            · rw [← deqs_same (by omega : ds.length = es.length), ← n1]
              refine EqAt.of_refs hab (RcAt.lists hl hl' hsz hu0 fun j j1 j2 => ?_)
              have := eqAtDs I n ds es A.in1 vs ws its jts (by simpa [pl] using h1) (by simpa [pl] using h2) rr rr' rv rv' (by show A.units + 1 + n < cLine; omega) j (by simpa using j1) (by simpa using j2)
              simpa using this
            · rw [deqs_other (by omega : ds.length ≠ es.length)]
              exact EqAt.of_refs hab (RcAt.lists_lengths hl hl' (by simpa using hsz) hu0)
        | tup es =>
          obtain ⟨b, ws, jts, rfl, hl', rv', rr', hb⟩ := atT I r2 q2
          exact EqAt.list_tuple hl hl' hu0
        | non => cases (repC r2 q2); exact EqAt.list_none hl hu0
        | bl y => cases (repC r2 q2); exact EqAt.list_bool y hl hu0
        | int y => obtain ⟨t, rfl⟩ := repC r2 q2; exact EqAt.list_int y t hl hu0
        | str y => obtain ⟨t, rfl⟩ := repC r2 q2; exact EqAt.list_str y t hl hu0
        | _ => simp [pl] at h2
    | tup ds =>
      obtain ⟨a, vs, its, rfl, hl, rv, rr, ha⟩ := atT I r1 q1
      cases n with
      | zero => simp [pl] at h1
      | succ n =>
        cases e with
        | tup es =>
          obtain ⟨b, ws, jts, rfl, hl', rv', rr', hb⟩ := atT I r2 q2
          by_cases hab : a = b
          · subst hab
            cases ha.uniqT hb
            have : ds = es := Reps.uniq n ds es vs (by simpa [pl] using h1) (by simpa [pl] using h2) rr rr'
            subst this
            rw [deq_refl (n + 1) _ h1]
            exact EqAt.same _
          · simp only [deq]
            have n1 : its.toArray.size = ds.length := by rw [List.size_toArray, ← rv.length, rr.len]
            have n2 : jts.toArray.size = es.length := by rw [List.size_toArray, ← rv'.length, rr'.len]
            rw [← deqs_eq ds es, ← n1, ← n2]
            refine EqAt.of_refs hab (RcAt.tuples hl hl' hu0 fun j j1 j2 => ?_)
            have := eqAtDs I n ds es A.in1 vs ws its jts (by simpa [pl] using h1) (by simpa [pl] using h2) rr rr' rv rv' (by show A.units + 1 + n < cLine; omega) j (by simpa using j1) (by simpa using j2)
            simpa using this
        | lst es =>
          obtain ⟨b, ws, jts, rfl, hl', rv', rr', hb⟩ := atL I r2 q2
          exact EqAt.tuple_list hl hl' hu0
        | non => cases (repC r2 q2); exact EqAt.tuple_none hl hu0
        | bl y => cases (repC r2 q2); exact EqAt.tuple_bool y hl hu0
        | int y => obtain ⟨t, rfl⟩ := repC r2 q2; exact EqAt.tuple_int y t hl hu0
        | str y => obtain ⟨t, rfl⟩ := repC r2 q2; exact EqAt.tuple_str y t hl hu0
        | _ => simp [pl] at h2
    | non =>
      cases (repC r1 q1)
      cases e with
      | lst es => obtain ⟨b, ws, jts, rfl, hl', _⟩ := atL I r2 q2; exact EqAt.none_list hl' hu0
      | tup es => obtain ⟨b, ws, jts, rfl, hl', _⟩ := atT I r2 q2; exact EqAt.none_tuple hl' hu0
      | non => cases (repC r2 q2); exact EqAt.same _
      | bl y => cases (repC r2 q2); exact EqAt.none_bool y
      | int y => obtain ⟨t, rfl⟩ := repC r2 q2; exact EqAt.none_int y t
      | str y => obtain ⟨t, rfl⟩ := repC r2 q2; exact EqAt.none_str y t
      | _ => cases n <;> simp [pl] at h2
    | bl x =>
      cases (repC r1 q1)
      cases e with
      | lst es => obtain ⟨b, ws, jts, rfl, hl', _⟩ := atL I r2 q2; exact EqAt.bool_list x hl' hu0
      | tup es => obtain ⟨b, ws, jts, rfl, hl', _⟩ := atT I r2 q2; exact EqAt.bool_tuple x hl' hu0
      | non => cases (repC r2 q2); exact EqAt.bool_none x
      | bl y => cases (repC r2 q2); exact EqAt.bool_bool x y
      | int y => obtain ⟨t, rfl⟩ := repC r2 q2; exact EqAt.bool_int x y t
      | str y => obtain ⟨t, rfl⟩ := repC r2 q2; exact EqAt.bool_str x y t
      | _ => cases n <;> simp [pl] at h2
    | int x =>
      obtain ⟨t0, rfl⟩ := repC r1 q1
      cases e with
      | lst es => obtain ⟨b, ws, jts, rfl, hl', _⟩ := atL I r2 q2; exact EqAt.int_list x t0 hl' hu0
      | tup es => obtain ⟨b, ws, jts, rfl, hl', _⟩ := atT I r2 q2; exact EqAt.int_tuple x t0 hl' hu0
      | non => cases (repC r2 q2); exact EqAt.int_none x t0
      | bl y => cases (repC r2 q2); exact EqAt.int_bool x t0 y
      | int y => obtain ⟨t, rfl⟩ := repC r2 q2; exact EqAt.int_int x t0 y t
      | str y => obtain ⟨t, rfl⟩ := repC r2 q2; exact EqAt.int_str x t0 y t
      | _ => cases n <;> simp [pl] at h2
    | str x =>
      obtain ⟨t0, rfl⟩ := repC r1 q1
      cases e with
      | lst es => obtain ⟨b, ws, jts, rfl, hl', _⟩ := atL I r2 q2; exact EqAt.str_list x t0 hl' hu0
      | tup es => obtain ⟨b, ws, jts, rfl, hl', _⟩ := atT I r2 q2; exact EqAt.str_tuple x t0 hl' hu0
      | non => cases (repC r2 q2); exact EqAt.str_none x t0
      | bl y => cases (repC r2 q2); exact EqAt.str_bool x t0 y
      | int y => obtain ⟨t, rfl⟩ := repC r2 q2; exact EqAt.str_int x t0 y t
      | str y => obtain ⟨t, rfl⟩ := repC r2 q2; exact EqAt.str_str x t0 y t
      | _ => cases n <;> simp [pl] at h2
    | _ => cases n <;> simp [pl] at h1
  termination_by n => (n, 0)
theorem eqAtDs (I : Inv X pins σ H s) : ∀ (n : Nat) (ds es : List D) (A : Around) (vs ws : List V) (us us' : List Value), (∀ d ∈ ds, pl n d = true) → (∀ d ∈ es, pl n d = true) → Reps W H ds vs → Reps W H es ws → Vals vs us → Vals ws us' → A.units + n < cLine →
    ∀ j (h1 : j < us.length) (h2 : j < us'.length), EqAt A s us[j] us'[j] (pairD ds es j)
  | n, [], es, A, vs, ws, us, us', h1, h2, r1, r2, q1, q2, hu, j, j1, j2 => by
    simp only [Reps] at r1
    subst r1
    cases q1
    exact absurd j1 (Nat.not_lt_zero _)
  | n, d :: ds, es, A, vs, ws, us, us', h1, h2, r1, r2, q1, q2, hu, j, j1, j2 => by
    simp only [Reps] at r1
    obtain ⟨v, r, rfl, p1, p2⟩ := r1
    cases es with
    | nil =>
      simp only [Reps] at r2
      subst r2
      cases q2
      exact absurd j2 (Nat.not_lt_zero _)
    | cons e es =>
      simp only [Reps] at r2
      obtain ⟨v', r', rfl, p1', p2'⟩ := r2
      cases q1 with
      | cons a1 b1 =>
        cases q2 with
        | cons a2 b2 =>
          cases j with
          | zero => exact eqAtD I n d e A v v' _ _ (h1 d (by simp)) (h2 e (by simp)) p1 p1' a1 a2 hu
          | succ j => exact eqAtDs I n ds es A r r' _ _ (fun x hx => h1 x (by simp [hx])) (fun x hx => h2 x (by simp [hx])) p2 p2' b1 b2 hu j (Nat.lt_of_succ_lt_succ j1) (Nat.lt_of_succ_lt_succ j2)
  termination_by n ds => (n, ds.length + 1)
end
end
end Pu
namespace Pu
open PySem PySem.Spec PyProof.Rows L2
open SeqAt
section
variable {X : Cx} {pins : List (Addr × Obj)} {σ : L2.St} {H : Hp} {s : Shared} {W : Wd}
theorem rcAtD (I : Inv X pins σ H s) {n : Nat} {d e : D} {A : Around} {v w : V} {u u' : Value} (h1 : pl n d = true) (h2 : pl n e = true) (r1 : Rep W H d v) (r2 : Rep W H e w) (q1 : RelV v u) (q2 : RelV w u') (hu : A.units + n < cLine) : RcAt A s u u' (deq d e) := by
  have hu0 : A.units < cLine := by omega
  cases d with
  | lst ds =>
    obtain ⟨a, vs, its, rfl, hl, rv, rr, ha⟩ := atL I r1 q1
    cases n with
    | zero => simp [pl] at h1
    | succ n =>
      cases e with
      | lst es =>
        obtain ⟨b, ws, jts, rfl, hl', rv', rr', hb⟩ := atL I r2 q2
        simp only [deq]
        have n1 : its.toArray.size = ds.length := by rw [List.size_toArray, ← rv.length, rr.len]
        have n2 : jts.toArray.size = es.length := by rw [List.size_toArray, ← rv'.length, rr'.len]
        have he : ∀ j (j1 : j < its.toArray.size) (j2 : j < jts.toArray.size), EqAt A.in1 s its.toArray[j] jts.toArray[j] (pairD ds es j) := fun j j1 j2 => by
          have := eqAtDs I n ds es A.in1 vs ws its jts (by simpa [pl] using h1) (by simpa [pl] using h2) rr rr' rv rv' (by show A.units + 1 + n < cLine; omega) j (by simpa using j1) (by simpa using j2)
          simpa using this
        by_cases hsz : its.toArray.size = jts.toArray.size
        · rw [← deqs_same (by omega : ds.length = es.length), ← n1]
          exact RcAt.lists hl hl' hsz hu0 he
        · rw [deqs_other (by omega : ds.length ≠ es.length)]
          exact RcAt.lists_lengths hl hl' (by simpa using hsz) hu0
      | tup es =>
        obtain ⟨b, ws, jts, rfl, hl', rv', rr', hb⟩ := atT I r2 q2
        exact RcAt.list_tuple hl hl' hu0
      | non => cases (repC r2 q2); exact RcAt.list_none hl hu0
      | bl y => cases (repC r2 q2); exact RcAt.list_bool y hl hu0
      | int y => obtain ⟨t, rfl⟩ := repC r2 q2; exact RcAt.list_int y t hl hu0
      | str y => obtain ⟨t, rfl⟩ := repC r2 q2; exact RcAt.list_str y t hl hu0
      | _ => simp [pl] at h2
  | tup ds =>
    obtain ⟨a, vs, its, rfl, hl, rv, rr, ha⟩ := atT I r1 q1
    cases n with
    | zero => simp [pl] at h1
    | succ n =>
      cases e with
      | tup es =>
        obtain ⟨b, ws, jts, rfl, hl', rv', rr', hb⟩ := atT I r2 q2
        simp only [deq]
        have n1 : its.toArray.size = ds.length := by rw [List.size_toArray, ← rv.length, rr.len]
        have n2 : jts.toArray.size = es.length := by rw [List.size_toArray, ← rv'.length, rr'.len]
        have he : ∀ j (j1 : j < its.toArray.size) (j2 : j < jts.toArray.size), EqAt A.in1 s its.toArray[j] jts.toArray[j] (pairD ds es j) := fun j j1 j2 => by
          have := eqAtDs I n ds es A.in1 vs ws its jts (by simpa [pl] using h1) (by simpa [pl] using h2) rr rr' rv rv' (by show A.units + 1 + n < cLine; omega) j (by simpa using j1) (by simpa using j2)
          simpa using this
        rw [← deqs_eq ds es, ← n1, ← n2]
        exact RcAt.tuples hl hl' hu0 he
      | lst es =>
        obtain ⟨b, ws, jts, rfl, hl', rv', rr', hb⟩ := atL I r2 q2
        exact RcAt.tuple_list hl hl' hu0
      | non => cases (repC r2 q2); exact RcAt.tuple_none hl hu0
      | bl y => cases (repC r2 q2); exact RcAt.tuple_bool y hl hu0
      | int y => obtain ⟨t, rfl⟩ := repC r2 q2; exact RcAt.tuple_int y t hl hu0
      | str y => obtain ⟨t, rfl⟩ := repC r2 q2; exact RcAt.tuple_str y t hl hu0
      | _ => simp [pl] at h2
  | non =>
    cases (repC r1 q1)
    cases e with
    | lst es => obtain ⟨b, ws, jts, rfl, hl', _⟩ := atL I r2 q2; exact RcAt.none_list hl' hu0
    | tup es => obtain ⟨b, ws, jts, rfl, hl', _⟩ := atT I r2 q2; exact RcAt.none_tuple hl' hu0
    | non => cases (repC r2 q2); exact RcAt.none_none
    | bl y => cases (repC r2 q2); exact RcAt.none_bool y
    | int y => obtain ⟨t, rfl⟩ := repC r2 q2; exact RcAt.none_int y t
    | str y => obtain ⟨t, rfl⟩ := repC r2 q2; exact RcAt.none_str y t
    | _ => cases n <;> simp [pl] at h2
  | bl x =>
    cases (repC r1 q1)
    cases e with
    | lst es => obtain ⟨b, ws, jts, rfl, hl', _⟩ := atL I r2 q2; exact RcAt.bool_list x hl' hu0
    | tup es => obtain ⟨b, ws, jts, rfl, hl', _⟩ := atT I r2 q2; exact RcAt.bool_tuple x hl' hu0
    | non => cases (repC r2 q2); exact RcAt.bool_none x
    | bl y => cases (repC r2 q2); exact RcAt.bool_bool x y
    | int y => obtain ⟨t, rfl⟩ := repC r2 q2; exact RcAt.bool_int x y t
    | str y => obtain ⟨t, rfl⟩ := repC r2 q2; exact RcAt.bool_str x y t
    | _ => cases n <;> simp [pl] at h2
  | int x =>
    obtain ⟨t0, rfl⟩ := repC r1 q1
    cases e with
    | lst es => obtain ⟨b, ws, jts, rfl, hl', _⟩ := atL I r2 q2; exact RcAt.int_list x t0 hl' hu0
    | tup es => obtain ⟨b, ws, jts, rfl, hl', _⟩ := atT I r2 q2; exact RcAt.int_tuple x t0 hl' hu0
    | non => cases (repC r2 q2); exact RcAt.int_none x t0
    | bl y => cases (repC r2 q2); exact RcAt.int_bool x t0 y
    | int y => obtain ⟨t, rfl⟩ := repC r2 q2; exact RcAt.int_int x t0 y t
    | str y => obtain ⟨t, rfl⟩ := repC r2 q2; exact RcAt.int_str x t0 y t
    | _ => cases n <;> simp [pl] at h2
  | str x =>
    obtain ⟨t0, rfl⟩ := repC r1 q1
    cases e with
    | lst es => obtain ⟨b, ws, jts, rfl, hl', _⟩ := atL I r2 q2; exact RcAt.str_list x t0 hl' hu0
    | tup es => obtain ⟨b, ws, jts, rfl, hl', _⟩ := atT I r2 q2; exact RcAt.str_tuple x t0 hl' hu0
    | non => cases (repC r2 q2); exact RcAt.str_none x t0
    | bl y => cases (repC r2 q2); exact RcAt.str_bool x t0 y
    | int y => obtain ⟨t, rfl⟩ := repC r2 q2; exact RcAt.str_int x t0 y t
    | str y => obtain ⟨t, rfl⟩ := repC r2 q2; exact RcAt.str_str x t0 y t
    | _ => cases n <;> simp [pl] at h2
  | _ => cases n <;> simp [pl] at h1
theorem rcNeD (I : Inv X pins σ H s) {n : Nat} {d e : D} {A : Around} {v w : V} {u u' : Value} (h1 : pl n d = true) (h2 : pl n e = true) (r1 : Rep W H d v) (r2 : Rep W H e w) (q1 : RelV v u) (q2 : RelV w u') (hu : A.units + n < cLine) : RcNeAt A s u u' (!deq d e) := by
  have hu0 : A.units < cLine := by omega
  cases d with
  | lst ds =>
    obtain ⟨a, vs, its, rfl, hl, rv, rr, ha⟩ := atL I r1 q1
    cases n with
    | zero => simp [pl] at h1
    | succ n =>
      cases e with
      | lst es =>
        obtain ⟨b, ws, jts, rfl, hl', rv', rr', hb⟩ := atL I r2 q2
        simp only [deq]
        have n1 : its.toArray.size = ds.length := by rw [List.size_toArray, ← rv.length, rr.len]
        have n2 : jts.toArray.size = es.length := by rw [List.size_toArray, ← rv'.length, rr'.len]
        have he : ∀ j (j1 : j < its.toArray.size) (j2 : j < jts.toArray.size), EqAt A.in1 s its.toArray[j] jts.toArray[j] (pairD ds es j) := fun j j1 j2 => by
          have := eqAtDs I n ds es A.in1 vs ws its jts (by simpa [pl] using h1) (by simpa [pl] using h2) rr rr' rv rv' (by show A.units + 1 + n < cLine; omega) j (by simpa using j1) (by simpa using j2)
          simpa using this
        by_cases hsz : its.toArray.size = jts.toArray.size
        · rw [← deqs_same (by omega : ds.length = es.length), ← n1]
          exact RcNeAt.lists hl hl' hsz hu0 he
        · rw [deqs_other (by omega : ds.length ≠ es.length)]
          exact RcNeAt.lists_lengths hl hl' (by simpa using hsz) hu0
      | tup es =>
        obtain ⟨b, ws, jts, rfl, hl', rv', rr', hb⟩ := atT I r2 q2
        exact RcNeAt.list_tuple hl hl' hu0
      | non => cases (repC r2 q2); exact RcNeAt.list_none hl hu0
      | bl y => cases (repC r2 q2); exact RcNeAt.list_bool y hl hu0
      | int y => obtain ⟨t, rfl⟩ := repC r2 q2; exact RcNeAt.list_int y t hl hu0
      | str y => obtain ⟨t, rfl⟩ := repC r2 q2; exact RcNeAt.list_str y t hl hu0
      | _ => simp [pl] at h2
  | tup ds =>
    obtain ⟨a, vs, its, rfl, hl, rv, rr, ha⟩ := atT I r1 q1
    cases n with
    | zero => simp [pl] at h1
    | succ n =>
      cases e with
      | tup es =>
        obtain ⟨b, ws, jts, rfl, hl', rv', rr', hb⟩ := atT I r2 q2
        simp only [deq]
        have n1 : its.toArray.size = ds.length := by rw [List.size_toArray, ← rv.length, rr.len]
        have n2 : jts.toArray.size = es.length := by rw [List.size_toArray, ← rv'.length, rr'.len]
        have he : ∀ j (j1 : j < its.toArray.size) (j2 : j < jts.toArray.size), EqAt A.in1 s its.toArray[j] jts.toArray[j] (pairD ds es j) := fun j j1 j2 => by
          have := eqAtDs I n ds es A.in1 vs ws its jts (by simpa [pl] using h1) (by simpa [pl] using h2) rr rr' rv rv' (by show A.units + 1 + n < cLine; omega) j (by simpa using j1) (by simpa using j2)
          simpa using this
        rw [← deqs_eq ds es, ← n1, ← n2]
        exact RcNeAt.tuples hl hl' hu0 he
      | lst es =>
        obtain ⟨b, ws, jts, rfl, hl', rv', rr', hb⟩ := atL I r2 q2
        exact RcNeAt.tuple_list hl hl' hu0
      | non => cases (repC r2 q2); exact RcNeAt.tuple_none hl hu0
      | bl y => cases (repC r2 q2); exact RcNeAt.tuple_bool y hl hu0
      | int y => obtain ⟨t, rfl⟩ := repC r2 q2; exact RcNeAt.tuple_int y t hl hu0
      | str y => obtain ⟨t, rfl⟩ := repC r2 q2; exact RcNeAt.tuple_str y t hl hu0
      | _ => simp [pl] at h2
  | non =>
    cases (repC r1 q1)
    cases e with
    | lst es => obtain ⟨b, ws, jts, rfl, hl', _⟩ := atL I r2 q2; exact RcNeAt.none_list hl' hu0
    | tup es => obtain ⟨b, ws, jts, rfl, hl', _⟩ := atT I r2 q2; exact RcNeAt.none_tuple hl' hu0
    | non => cases (repC r2 q2); exact RcNeAt.none_none
    | bl y => cases (repC r2 q2); exact RcNeAt.none_bool y
    | int y => obtain ⟨t, rfl⟩ := repC r2 q2; exact RcNeAt.none_int y t
    | str y => obtain ⟨t, rfl⟩ := repC r2 q2; exact RcNeAt.none_str y t
    | _ => cases n <;> simp [pl] at h2
  | bl x =>
    cases (repC r1 q1)
    cases e with
    | lst es => obtain ⟨b, ws, jts, rfl, hl', _⟩ := atL I r2 q2; exact RcNeAt.bool_list x hl' hu0
    | tup es => obtain ⟨b, ws, jts, rfl, hl', _⟩ := atT I r2 q2; exact RcNeAt.bool_tuple x hl' hu0
    | non => cases (repC r2 q2); exact RcNeAt.bool_none x
    | bl y => cases (repC r2 q2); exact RcNeAt.bool_bool x y
    | int y => obtain ⟨t, rfl⟩ := repC r2 q2; exact RcNeAt.bool_int x y t
    | str y => obtain ⟨t, rfl⟩ := repC r2 q2; exact RcNeAt.bool_str x y t
    | _ => cases n <;> simp [pl] at h2
  | int x =>
    obtain ⟨t0, rfl⟩ := repC r1 q1
    cases e with
    | lst es => obtain ⟨b, ws, jts, rfl, hl', _⟩ := atL I r2 q2; exact RcNeAt.int_list x t0 hl' hu0
    | tup es => obtain ⟨b, ws, jts, rfl, hl', _⟩ := atT I r2 q2; exact RcNeAt.int_tuple x t0 hl' hu0
    | non => cases (repC r2 q2); exact RcNeAt.int_none x t0
    | bl y => cases (repC r2 q2); exact RcNeAt.int_bool x t0 y
    | int y => obtain ⟨t, rfl⟩ := repC r2 q2; exact RcNeAt.int_int x t0 y t
    | str y => obtain ⟨t, rfl⟩ := repC r2 q2; exact RcNeAt.int_str x t0 y t
    | _ => cases n <;> simp [pl] at h2
  | str x =>
    obtain ⟨t0, rfl⟩ := repC r1 q1
    cases e with
    | lst es => obtain ⟨b, ws, jts, rfl, hl', _⟩ := atL I r2 q2; exact RcNeAt.str_list x t0 hl' hu0
    | tup es => obtain ⟨b, ws, jts, rfl, hl', _⟩ := atT I r2 q2; exact RcNeAt.str_tuple x t0 hl' hu0
    | non => cases (repC r2 q2); exact RcNeAt.str_none x t0
    | bl y => cases (repC r2 q2); exact RcNeAt.str_bool x t0 y
    | int y => obtain ⟨t, rfl⟩ := repC r2 q2; exact RcNeAt.str_int x t0 y t
    | str y => obtain ⟨t, rfl⟩ := repC r2 q2; exact RcNeAt.str_str x t0 y t
    | _ => cases n <;> simp [pl] at h2
  | _ => cases n <;> simp [pl] at h1
end
end Pu
namespace Pu
open PySem PySem.Spec PyProof.Rows L2
/-! ## operators of data -/
def oI (C : Int → Int → Prop) (g : Int → Int → Int) : DOp := fun x y Q _ => match x, y with
  | .int i, .int j => C i j ∧ Q (.int (g i j))
  | _, _ => False
def oB (g : Int → Int → Bool) : DOp := fun x y Q _ => match x, y with
  | .int i, .int j => Q (.bl (g i j))
  | _, _ => False
def oAdd : DOp := fun x y Q _ => match x, y with
  | .int i, .int j => Q (.int (i + j))
  | .str a, .str b => a.length + b.length ≤ 100000 ∧ Q (.str (a ++ b))
  | .lst xs, .lst ys => xs.length + ys.length ≤ 100000 ∧ Q (.lst (xs ++ ys))
  | .tup xs, .tup ys => xs.length + ys.length ≤ 100000 ∧ Q (.tup (xs ++ ys))
  | _, _ => False
def oEq : DOp := fun x y Q _ => pl 60 x = true ∧ pl 60 y = true ∧ Q (.bl (deq x y))
def oNe : DOp := fun x y Q _ => pl 60 x = true ∧ pl 60 y = true ∧ Q (.bl (!deq x y))
def isNon : D → Bool
  | .non => true
  | .val v => decide (v = .non)
  | _ => false
def oIsN (neg : Bool) : DOp := fun x y Q _ => match y with
  | .non => Q (.bl (if neg then !isNon x else isNon x))
  | _ => False
def oIsB : DOp := fun x y Q _ => match x, y with
  | .bl a, .bl b => Q (.bl (decide (a = b)))
  | _, _ => False
def oIn (neg : Bool) : DOp := fun x y Q _ => match y with
  | .lst ds => pl 50 x = true ∧ ds.all (pl 50) = true ∧ Q (.bl (if neg then !ds.any (fun d => deq d x) else ds.any fun d => deq d x))
  | .tup ds => pl 50 x = true ∧ ds.all (pl 50) = true ∧ Q (.bl (if neg then !ds.any (fun d => deq d x) else ds.any fun d => deq d x))
  | .str z => ∃ c : Nat, x = .str ⟨#[c]⟩ ∧ Q (.bl (if neg then !decide (c ∈ z.cps.toList) else decide (c ∈ z.cps.toList)))
  | _ => False
theorem le_line {n : Nat} (h : n ≤ 100000) : n ≤ sizeLine := by rw [sizeLine_eq]; omega
section
variable {B : Bs} {X : Cx} {Wx : WX}
theorem XO.of {f : Value → Value → Sem Value} {o : DOp} {r : R2} (h : OpR X f r) (k : ∀ S H x y dx dy Q E k, WOk (B.W.at S) H → Rep (B.W.at S) H dx x → Rep (B.W.at S) H dy y → o dx dy Q E → KE (B.W.at S) H Q k → r x y H k) : XO B X Wx f o :=
  ⟨fun _ => r, fun pins s σ H x y v u Q => h pins s σ H x y v u Q, fun S σ H x y dx dy Q E kk w r1 r2 q ke _ => k S H x y dx dy Q E kk w r1 r2 q ke⟩
theorem XO.imp {f : Value → Value → Sem Value} {o o' : DOp} (h : XO B X Wx f o) (k : ∀ x y Q E, o' x y Q E → o x y Q E) : XO B X Wx f o' := by
  obtain ⟨r, h1, h2⟩ := h.ex
  exact ⟨r, h1, fun S σ H x y dx dy Q E kk w r1 r2 q => h2 S σ H x y dx dy Q E kk w r1 r2 (k _ _ _ _ q)⟩
theorem XO.or {f : Value → Value → Sem Value} {o o' : DOp} (h : XO B X Wx f o) (h' : XO B X Wx f o') : XO B X Wx f (fun x y Q E => o x y Q E ∨ o' x y Q E) := by
  obtain ⟨r, h1, h2⟩ := h.ex
  obtain ⟨r', h1', h2'⟩ := h'.ex
  refine ⟨fun σ x y H Q => r σ x y H Q ∨ r' σ x y H Q, fun pins s σ H x y v u Q I rx ry q => ?_, fun S σ H x y dx dy Q E kk w r1 r2 q ke kx => ?_⟩
  · rcases q with q | q
    · exact h1 pins s σ H x y v u Q I rx ry q
    · exact h1' pins s σ H x y v u Q I rx ry q
  · rcases q with q | q
    · exact .inl (h2 S σ H x y dx dy Q E kk w r1 r2 q ke kx)
    · exact .inr (h2' S σ H x y dx dy Q E kk w r1 r2 q ke kx)
theorem repI {W : Wd} {H : Hp} {i : Int} {v : V} (h : Rep W H (.int i) v) : v = .int i := by simpa only [Rep] using h
theorem repS {W : Wd} {H : Hp} {i : Str} {v : V} (h : Rep W H (.str i) v) : v = .str i := by simpa only [Rep] using h
theorem repB {W : Wd} {H : Hp} {i : Bool} {v : V} (h : Rep W H (.bl i) v) : v = .bl i := by simpa only [Rep] using h
theorem mkI {W : Wd} {H : Hp} {i : Int} : Rep W H (.int i) (.int i) := by simp only [Rep]
theorem mkS {W : Wd} {H : Hp} {i : Str} : Rep W H (.str i) (.str i) := by simp only [Rep]
theorem mkB {W : Wd} {H : Hp} {i : Bool} : Rep W H (.bl i) (.bl i) := by simp only [Rep]
theorem mkN {W : Wd} {H : Hp} : Rep W H .non .non := by simp only [Rep]
theorem mkT {W : Wd} {H : Hp} {a : Addr} {ds : List D} {vs : List V} (n : ¬ W.S a) (e : Rd H a (.tup vs)) (r : Reps W H ds vs) : Rep W H (.tup ds) (.ref a) := by
  simp only [Rep]
  exact ⟨a, vs, rfl, n, e, r⟩
theorem mkL {W : Wd} {H : Hp} {a : Addr} {ds : List D} {vs : List V} (n : ¬ W.S a) (e : H a = some (.lst vs)) (r : Reps W H ds vs) : Rep W H (.lst ds) (.ref a) := by
  simp only [Rep]
  exact ⟨a, vs, rfl, n, e, r⟩
theorem xo_I {f : Value → Value → Sem Value} {C : Int → Int → Prop} {g : Int → Int → Int} (h : OpR X f (rI C fun i j => .int (g i j))) : XO B X Wx f (oI C g) := .of h fun S H x y dx dy Q E k w r1 r2 q ke => by
  cases dx <;> cases dy <;> first | exact False.elim q | skip
  exact ⟨_, _, repI r1, repI r2, q.1, ke _ H _ (Fut.refl w) mkI q.2⟩
theorem xo_I0 {f : Value → Value → Sem Value} {g : Int → Int → Int} (h : OpR X f (rI0 fun i j => .int (g i j))) : XO B X Wx f (oI (fun _ _ => True) g) := .of h fun S H x y dx dy Q E k w r1 r2 q ke => by
  cases dx <;> cases dy <;> first | exact False.elim q | skip
  exact ⟨_, _, repI r1, repI r2, ke _ H _ (Fut.refl w) mkI q.2⟩
theorem xo_B {f : Value → Value → Sem Value} {g : Int → Int → Bool} (h : OpR X f (rI0 fun i j => .bl (g i j))) : XO B X Wx f (oB g) := .of h fun S H x y dx dy Q E k w r1 r2 q ke => by
  cases dx <;> cases dy <;> first | exact False.elim q | skip
  exact ⟨_, _, repI r1, repI r2, ke _ H _ (Fut.refl w) mkB q⟩
def oSub : DOp := oI (fun _ _ => True) fun i j => i - j
def oMul : DOp := oI CMulW fun i j => i * j
def oFdiv : DOp := oI (fun _ j => j ≠ 0 ∧ j.natAbs.log2 < 9000) Int.fdiv
def oMod : DOp := oI (fun _ j => j ≠ 0) Int.fmod
def oPow : DOp := oI CPow fun i j => i ^ j.toNat
def oLt : DOp := oB fun i j => decide (i < j)
def oLe : DOp := oB fun i j => decide (i ≤ j)
def oGt : DOp := oB fun i j => decide (j < i)
def oGe : DOp := oB fun i j => decide (j ≤ i)
theorem xo_sub : XO B X Wx (binaryOp .Sub) oSub := xo_I0 op_sub
theorem xo_mul : XO B X Wx (binaryOp .Mult) oMul := xo_I op_mulW
theorem op_fdivZ : OpR X (binaryOp .FloorDiv) (rI (fun _ j => j ≠ 0 ∧ j.natAbs.log2 < 9000) fun i j => .int (i.fdiv j)) := opI fun i j _ _ _ _ _ hc q => PyProof.Rows.floordiv_int hc.1 q (.inl (PyProof.noPylong_of_log2 hc.2))
theorem xo_fdiv : XO B X Wx (binaryOp .FloorDiv) oFdiv := xo_I op_fdivZ
theorem xo_mod : XO B X Wx (binaryOp .Mod) oMod := xo_I op_modN
theorem xo_pow : XO B X Wx (binaryOp .Pow) oPow := xo_I op_pow
theorem xo_lt : XO B X Wx (compareOp .Lt) oLt := xo_B op_lt
theorem xo_le : XO B X Wx (compareOp .LtE) oLe := xo_B op_le
theorem xo_gt : XO B X Wx (compareOp .Gt) oGt := xo_B op_gt
theorem xo_ge : XO B X Wx (compareOp .GtE) oGe := xo_B op_ge
theorem xo_add : XO B X Wx (binaryOp .Add) oAdd := .of (op_add.or (op_add_str.or (op_cat.or op_catA))) fun S H x y dx dy Q E k w r1 r2 q ke => by
  cases dx <;> cases dy <;> first | exact False.elim q | skip
  · exact .inl ⟨_, _, repI r1, repI r2, ke _ H _ (Fut.refl w) mkI q⟩
  · exact .inr (.inl ⟨_, _, repS r1, repS r2, le_line q.1, ke _ H _ (Fut.refl w) mkS q.2⟩)
  · obtain ⟨a, vs, rfl, n1, e1, z1⟩ := repL r1
    obtain ⟨b, ws, rfl, n2, e2, z2⟩ := repL r2
    refine .inr (.inr (.inl ⟨a, b, vs, ws, rfl, rfl, e1, e2, le_line (by rw [z1.len, z2.len]; exact q.1), fun p hp => ?_⟩))
    have f := fut_new (o := .lst (vs ++ ws)) w hp
    exact ke _ _ _ f (mkL (w.new hp) upd_same ((z1.app z2).fut w f)) q.2
  · rename_i xs ys
    obtain ⟨a, vs, rfl, n1, e1, z1⟩ := repT r1
    obtain ⟨b, ws, rfl, n2, e2, z2⟩ := repT r2
    refine .inr (.inr (.inr ⟨a, b, vs, ws, rfl, rfl, (.inl e1), (.inl e2), le_line (by rw [z1.len, z2.len]; exact q.1), fun h => ?_, fun _ h => ?_, fun _ _ p hp => ?_⟩))
    · subst h
      have := z1.len
      have : xs = [] := List.eq_nil_of_length_eq_zero (by simpa using this.symm)
      subst this
      exact ke _ _ _ (Fut.refl w) (mkT n2 e2 z2) q.2
    · subst h
      have := z2.len
      have : ys = [] := List.eq_nil_of_length_eq_zero (by simpa using this.symm)
      subst this
      exact ke _ _ _ (Fut.refl w) (mkT n1 e1 z1) (by have := q.2; rwa [List.append_nil] at this)
    · have f := fut_new (o := .tup (vs ++ ws)) w hp
      exact ke _ _ _ f (mkT (w.new hp) (.inl upd_same) ((z1.app z2).fut w f)) q.2
def rEqP : R2 := fun x y H Q => ∃ (W : Wd) (d e : D), pl 60 d = true ∧ pl 60 e = true ∧ Rep W H d x ∧ Rep W H e y ∧ Q (.bl (deq d e)) H
def rNeP : R2 := fun x y H Q => ∃ (W : Wd) (d e : D), pl 60 d = true ∧ pl 60 e = true ∧ Rep W H d x ∧ Rep W H e y ∧ Q (.bl (!deq d e)) H
theorem op_eqP (hu : X.A.units + 64 < cLine) : OpR X (compareOp .Eq) rEqP := by
  intro pins s σ H x y v u Q I rx ry h
  obtain ⟨W, d, e, h1, h2, r1, r2, q⟩ := h
  exact rcAtD I h1 h2 r1 r2 rx ry (by omega) _ _ _ _ ⟨.bl _, H, I, rfl, q⟩
theorem op_neP (hu : X.A.units + 64 < cLine) : OpR X (compareOp .NotEq) rNeP := by
  intro pins s σ H x y v u Q I rx ry h
  obtain ⟨W, d, e, h1, h2, r1, r2, q⟩ := h
  exact rcNeD I h1 h2 r1 r2 rx ry (by omega) _ _ _ _ ⟨.bl _, H, I, rfl, q⟩
theorem xo_eq {k : Nat} (hr : Room k X.A) : XO B X Wx (compareOp .Eq) oEq := .of (op_eqP hr.units) fun S H x y dx dy Q E k w r1 r2 q ke =>
  ⟨_, dx, dy, q.1, q.2.1, r1, r2, ke _ H _ (Fut.refl w) mkB q.2.2⟩
theorem xo_ne {k : Nat} (hr : Room k X.A) : XO B X Wx (compareOp .NotEq) oNe := .of (op_neP hr.units) fun S H x y dx dy Q E k w r1 r2 q ke =>
  ⟨_, dx, dy, q.1, q.2.1, r1, r2, ke _ H _ (Fut.refl w) mkB q.2.2⟩
theorem isNon_ok {W : Wd} {H : Hp} {d : D} {v : V} (h : Rep W H d v) : decide (v = .non) = isNon d := by
  cases d <;> simp only [Rep] at h <;> first
    | (subst h; simp [isNon]; done)
    | (obtain ⟨a, b, e, rfl⟩ := h; simp [isNon]; done)
    | (obtain ⟨a, b, rfl, _⟩ := h; simp [isNon]; done)
    | (obtain ⟨a, b, e, rfl, _⟩ := h; simp [isNon]; done)
theorem xo_isN : XO B X Wx (compareOp .Is) (oIsN false) := .of op_isN fun S H x y dx dy Q E k w r1 r2 q ke => by
  cases dy <;> first | exact False.elim q | skip
  refine ⟨by simpa only [Rep] using r2, ?_⟩
  rw [isNon_ok r1]
  exact ke _ H _ (Fut.refl w) mkB q
theorem xo_notN : XO B X Wx (compareOp .IsNot) (oIsN true) := .of op_notN fun S H x y dx dy Q E k w r1 r2 q ke => by
  cases dy <;> first | exact False.elim q | skip
  refine ⟨by simpa only [Rep] using r2, ?_⟩
  rw [isNon_ok r1]
  exact ke _ H _ (Fut.refl w) mkB q
theorem xo_isB : XO B X Wx (compareOp .Is) oIsB := .of op_isBl fun S H x y dx dy Q E k w r1 r2 q ke => by
  cases dx <;> cases dy <;> first | exact False.elim q | skip
  exact ⟨_, _, repB r1, repB r2, ke _ H _ (Fut.refl w) mkB q⟩
/-! in, not in -/
open SeqAt in
theorem mem_eqAtD {pins : List (Addr × Obj)} {σ : L2.St} {H : Hp} {s : Shared} {W : Wd} (I : Inv X pins σ H s) {A : Around} {n : Nat} {d : D} {v : V} {u : Value} (hd : pl n d = true) (r : Rep W H d v) (q : RelV v u) (hu : A.units + n < cLine) :
    ∀ {ds : List D} {vs : List V} {us : List Value}, Reps W H ds vs → Vals vs us → (∀ x ∈ ds, pl n x = true) → ∃ e : Value → Bool, (∀ y, y ∈ us → EqAt A s y u (e y)) ∧ us.any e = ds.any fun x => deq x d := by
  intro ds vs us rs qs hp
  refine ⟨fun y => @decide (∃ x w, x ∈ ds ∧ Rep W H x w ∧ RelV w y ∧ deq x d = true) (Classical.propDecidable _), ?_, ?_⟩
  · intro y hy
    obtain ⟨i, hi, rfl⟩ := List.getElem_of_mem hy
    have hl : vs.length = us.length := qs.length
    obtain ⟨w, ew, rw_⟩ : ∃ w, vs[i]? = some w ∧ RelV w us[i] := by
      have hv : i < vs.length := by omega
      obtain ⟨u', e1, e2⟩ := qs.get (List.getElem?_eq_getElem hv)
      rw [List.getElem?_eq_getElem hi] at e1
      cases e1
      exact ⟨_, List.getElem?_eq_getElem hv, e2⟩
    obtain ⟨x, ex, rx⟩ := rs.get' ew
    have hx := List.mem_of_getElem? ex
    have key := eqAtD I n x d A w v _ u (hp x hx) hd rx r rw_ q hu
    have : @decide (∃ x w, x ∈ ds ∧ Rep W H x w ∧ RelV w us[i] ∧ deq x d = true) (Classical.propDecidable _) = deq x d := by
      cases hq : deq x d with
      | true => exact @decide_eq_true _ (Classical.propDecidable _) ⟨x, w, hx, rx, rw_, hq⟩
      | false =>
        refine @decide_eq_false _ (Classical.propDecidable _) ?_
        rintro ⟨x', w', hx', rx', rw', hq'⟩
        have e1 := RelV.inj rw_ rw'
        subst e1
        rw [Rep.uniq n x x' w (hp x hx) (hp x' hx') rx rx', hq'] at hq
        cases hq
    have key2 : EqAt A s us[i] u (@decide (∃ x w, x ∈ ds ∧ Rep W H x w ∧ RelV w us[i] ∧ deq x d = true) (Classical.propDecidable _)) := by
      rw [this]
      exact key
    exact key2
  · rw [Bool.eq_iff_iff, List.any_eq_true, List.any_eq_true]
    constructor
    · rintro ⟨y, hy, h⟩
      obtain ⟨x, w, hx, _, _, hq⟩ := @of_decide_eq_true _ (Classical.propDecidable _) h
      exact ⟨x, hx, hq⟩
    · rintro ⟨x, hx, hq⟩
      obtain ⟨i, hi, rfl⟩ := List.getElem_of_mem hx
      obtain ⟨w, ew, rw_⟩ := rs.get (List.getElem?_eq_getElem hi)
      obtain ⟨u', e1, e2⟩ := qs.get ew
      exact ⟨u', List.mem_of_getElem? e1, @decide_eq_true _ (Classical.propDecidable _) ⟨_, w, hx, rw_, e2, hq⟩⟩
def rInP (neg : Bool) : R2 := fun x y H Q => ∃ (W : Wd) (d : D) (ds : List D), pl 50 d = true ∧ ds.all (pl 50) = true ∧ Rep W H d x ∧ (Rep W H (.lst ds) y ∨ Rep W H (.tup ds) y) ∧ Q (.bl (if neg then !ds.any (fun x => deq x d) else ds.any fun x => deq x d)) H
theorem op_inP (hu : X.A.units + 64 < cLine) : OpR X (compareOp .In) (rInP false) := by
  intro pins s σ H x y v u Q I rx ry h
  obtain ⟨W, d, ds, h1, h2, r1, r2, q⟩ := h
  rcases r2 with r2 | r2
  · obtain ⟨a, vs, its, rfl, hl, rv, rr, _⟩ := atL I r2 ry
    obtain ⟨e, he, ea⟩ := mem_eqAtD I (A := X.A.in1) h1 r1 rx (by show X.A.units + 1 + 50 < cLine; omega) rr rv (by simpa using h2)
    refine SeqAt.in_listAt e hl (fun y hy => he y (by simpa using hy)) ?_
    rw [List.any_toArray, ea]
    exact ⟨.bl _, H, I, rfl, q⟩
  · obtain ⟨a, vs, its, rfl, hl, rv, rr, _⟩ := atT I r2 ry
    obtain ⟨e, he, ea⟩ := mem_eqAtD I (A := X.A.in1) h1 r1 rx (by show X.A.units + 1 + 50 < cLine; omega) rr rv (by simpa using h2)
    refine SeqAt.in_tupleAt e hl (fun y hy => he y (by simpa using hy)) ?_
    rw [List.any_toArray, ea]
    exact ⟨.bl _, H, I, rfl, q⟩
theorem op_notInP (hu : X.A.units + 64 < cLine) : OpR X (compareOp .NotIn) (rInP true) := by
  intro pins s σ H x y v u Q I rx ry h
  obtain ⟨W, d, ds, h1, h2, r1, r2, q⟩ := h
  rcases r2 with r2 | r2
  · obtain ⟨a, vs, its, rfl, hl, rv, rr, _⟩ := atL I r2 ry
    obtain ⟨e, he, ea⟩ := mem_eqAtD I (A := X.A.in1) h1 r1 rx (by show X.A.units + 1 + 50 < cLine; omega) rr rv (by simpa using h2)
    refine SeqAt.notIn_listAt e hl (fun y hy => he y (by simpa using hy)) ?_
    rw [List.any_toArray, ea]
    exact ⟨.bl _, H, I, rfl, q⟩
  · obtain ⟨a, vs, its, rfl, hl, rv, rr, _⟩ := atT I r2 ry
    obtain ⟨e, he, ea⟩ := mem_eqAtD I (A := X.A.in1) h1 r1 rx (by show X.A.units + 1 + 50 < cLine; omega) rr rv (by simpa using h2)
    refine SeqAt.notIn_tupleAt e hl (fun y hy => he y (by simpa using hy)) ?_
    rw [List.any_toArray, ea]
    exact ⟨.bl _, H, I, rfl, q⟩
theorem xo_in {k : Nat} (hr : Room k X.A) : XO B X Wx (compareOp .In) (oIn false) := .of ((op_inP hr.units).or op_in_sign) fun S H x y dx dy Q E k w r1 r2 q ke => by
  cases dy <;> first | exact False.elim q | skip
  · obtain ⟨c, rfl, q⟩ := q
    exact .inr ⟨c, _, repS r1, repS r2, ke _ H _ (Fut.refl w) mkB q⟩
  · exact .inl ⟨_, dx, _, q.1, q.2.1, r1, .inl r2, ke _ H _ (Fut.refl w) mkB q.2.2⟩
  · exact .inl ⟨_, dx, _, q.1, q.2.1, r1, .inr r2, ke _ H _ (Fut.refl w) mkB q.2.2⟩
theorem xo_notIn {k : Nat} (hr : Room k X.A) : XO B X Wx (compareOp .NotIn) (oIn true) := .of ((op_notInP hr.units).or op_notIn_sign) fun S H x y dx dy Q E k w r1 r2 q ke => by
  cases dy <;> first | exact False.elim q | skip
  · obtain ⟨c, rfl, q⟩ := q
    exact .inr ⟨c, _, repS r1, repS r2, ke _ H _ (Fut.refl w) mkB q⟩
  · exact .inl ⟨_, dx, _, q.1, q.2.1, r1, .inl r2, ke _ H _ (Fut.refl w) mkB q.2.2⟩
  · exact .inl ⟨_, dx, _, q.1, q.2.1, r1, .inr r2, ke _ H _ (Fut.refl w) mkB q.2.2⟩
def oNeg : DUn := fun x Q _ => match x with
  | .int i => Q (.int (-i))
  | _ => False
theorem xu_neg : XU B X Wx (unaryOp .USub) oNeg := ⟨fun _ => rU fun i => .int (-i), fun pins s σ H x v Q => un_neg pins s σ H x v Q, fun S σ H x dx Q E k w r1 q ke _ => by
  cases dx <;> first | exact False.elim q | skip
  exact ⟨_, repI r1, ke _ H _ (Fut.refl w) mkI q⟩⟩
end
end Pu
namespace Pu
open PySem PySem.Spec PyProof.Rows L2
open PySem.W (findIn kitOne kitAny clsIn typeIn subIn mroIn)
/-! ## subscripts -/
def cutD (xs : List D) (lo hi : Option Int) : List D := (xs.drop (HT.sIx xs.length 0 lo)).take (HT.sIx xs.length xs.length hi - HT.sIx xs.length 0 lo)
def oIx : DOp := fun x y Q _ => match x, y with
  | .lst ds, .int i => match atI ds i with
    | some d => Q d
    | none => False
  | .tup ds, .int i => match atI ds i with
    | some d => Q d
    | none => False
  | .str z, .int i => z.length ≤ 100000 ∧ match atI z.cps.toList i with
    | some c => Q (.str ⟨#[c]⟩)
    | none => False
  | _, _ => False
def rPo (p : Option XP) : List Sl → (Option Int → Prop) → (Exn → Prop) → Prop := fun G Q E => match p with
  | none => Q none
  | some p => p G (fun d => match d with
    | .int i => Q (some i)
    | _ => False) E
def oSl (x : D) (lo hi : Option Int) (Q : D → Prop) : Prop := match x with
  | .lst ds => Q (.lst (cutD ds lo hi))
  | .tup ds => Q (.tup (cutD ds lo hi))
  | .str z => z.length ≤ 100000 ∧ Q (.str (cutS z lo hi))
  | _ => False
def rSl (a : XP) (lo hi : Option XP) : XP := fun G Q E => a G (fun x => rPo lo G (fun l => rPo hi G (fun h => oSl x l h Q) E) E) E
structure XPo (B : Bs) (X : Cx) (Wx : WX) (e : Option Expr) (p : Option XP) : Prop where
  ex : ∃ t, PO X e t ∧ ∀ S σ H G (Q : Option Int → Prop) (E : Exn → Prop) (k : Option Int → Hp → Prop), Ok B S σ H G → rPo p G Q E → (∀ o H', Fut (B.W.at S) H H' → Q o → k o H') → KX (B.W.at S) σ H E Wx → t σ H k
theorem Reps.cut {W : Wd} {H : Hp} {ds : List D} {vs : List V} (h : Reps W H ds vs) (lo hi : Option Int) : Reps W H (cutD ds lo hi) (cutV vs lo hi) := by
  unfold cutD cutV
  rw [h.len]
  exact (h.drop _).take _
theorem Reps.atI {W : Wd} {H : Hp} {ds : List D} {vs : List V} {i : Int} {d : D} (h : Reps W H ds vs) (e : L2.atI ds i = some d) : ∃ v, L2.atI vs i = some v ∧ Rep W H d v := by
  unfold L2.atI at e ⊢
  rw [h.len]
  cases hx : ixN ds.length i with
  | none => rw [hx] at e; cases e
  | some j =>
    rw [hx] at e
    exact h.get e
section
variable {B : Bs} {X : Cx} {Wx : WX} {a b c e : Expr} {es : List Expr} {pa pb pc : XP} {pos : Pos} {pas : XAp}
theorem xe_ix (ha : XE B X Wx a pa) (hb : XE B X Wx b pb) (hs : PlainIx b := by exact fun _ _ => rfl) : XE B X Wx (.Subscript a b pos) (rBin oIx pa pb) := by
  obtain ⟨ta, ha, ea⟩ := ha.ex
  obtain ⟨tb, hb, eb⟩ := hb.ex
  refine ⟨_, pe_ix (ix_list.or (ix_tup.or ix_str)) ha hb hs, fun S σ H G Q E k O q ke kx => ?_⟩
  refine ev2 ea eb O q kx fun x y H' dx dy f O' r1 r2 h => ?_
  cases dx <;> cases dy <;> first | exact False.elim h | skip
  · rename_i z i
    obtain ⟨h1, h2⟩ := h
    cases hx : atI z.cps.toList i with
    | none => rw [hx] at h2; exact h2.elim
    | some ch =>
      rw [hx] at h2
      exact .inr (.inr ⟨z, i, ch, repS r1, repI r2, le_line h1, hx, ke _ H' _ f mkS h2⟩)
  · rename_i ds i
    obtain ⟨p, vs, rfl, n1, e1, z1⟩ := repL r1
    have h' : (match atI ds i with | some d => Q d | none => False) := h
    cases hx : atI ds i with
    | none => rw [hx] at h'; exact h'.elim
    | some d =>
      rw [hx] at h'
      obtain ⟨v, ev, rv⟩ := z1.atI hx
      exact .inl ⟨p, vs, i, v, rfl, repI r2, SqL.of e1, ev, ke _ H' _ f rv h'⟩
  · rename_i ds i
    obtain ⟨p, vs, rfl, n1, e1, z1⟩ := repT r1
    have h' : (match atI ds i with | some d => Q d | none => False) := h
    cases hx : atI ds i with
    | none => rw [hx] at h'; exact h'.elim
    | some d =>
      rw [hx] at h'
      obtain ⟨v, ev, rv⟩ := z1.atI hx
      exact .inr (.inl ⟨p, vs, i, v, rfl, repI r2, (.inl e1), ev, ke _ H' _ f rv h'⟩)
theorem xpo_none : XPo B X Wx none none := ⟨tNoPart, po_none, fun S σ H G Q E k O q ko _ => ko none H (Fut.refl O.wok) q⟩
theorem xpo_some (h : XE B X Wx e pa) : XPo B X Wx (some e) (some pa) := by
  obtain ⟨t, h, ev⟩ := h.ex
  refine ⟨tPart t, po_some h, fun S σ H G Q E k O q ko kx => ev S σ H G _ E _ O q (fun v H' d f r h => ?_) kx⟩
  cases d <;> first | exact False.elim h | skip
  exact ⟨_, repI r, ko _ H' f h⟩
theorem xe_slice {lo hi : Option Expr} {pl ph : Option XP} {p2} (ha : XE B X Wx a pa) (hl : XPo B X Wx lo pl) (hh : XPo B X Wx hi ph) : XE B X Wx (.Subscript a (.Slice lo hi none p2) pos) (rSl pa pl ph) := by
  obtain ⟨ta, ha, ea⟩ := ha.ex
  obtain ⟨tl, hl, el⟩ := hl.ex
  obtain ⟨th, hh, eh⟩ := hh.ex
  refine ⟨_, pe_slice (sl_list.or (sl_tupA.or sl_str)) ha hl hh, fun S σ H G Q E k O q ke kx => ?_⟩
  refine ea S σ H G _ E _ O q (fun x H1 d f1 r1 q1 => ?_) kx
  refine el S σ H1 G _ E _ (O.fut f1) q1 (fun l H2 f2 q2 => ?_) (kx.fut f1)
  refine eh S σ H2 G _ E _ ((O.fut f1).fut f2) q2 (fun u H3 f3 q3 => ?_) ((kx.fut f1).fut f2)
  have f := (f1.trans f2).trans f3
  have w3 := O.wok.fut f
  have r3 := (r1.fut (O.wok.fut f1) f2).fut ((O.wok.fut f1).fut f2) f3
  cases d <;> first | exact False.elim q3 | skip
  · exact .inr (.inr ⟨_, repS r3, le_line q3.1, ke _ H3 _ f mkS q3.2⟩)
  · rename_i ds
    obtain ⟨p, vs, rfl, n1, e1, z1⟩ := repL r3
    refine .inl ⟨p, vs, rfl, SqL.of e1, fun q hq => ?_⟩
    have g := fut_new (o := .lst (cutV vs l u)) w3 hq
    exact ke _ _ _ (f.trans g) (mkL (w3.new hq) upd_same ((z1.cut l u).fut w3 g)) q3
  · rename_i ds
    obtain ⟨p, vs, rfl, n1, e1, z1⟩ := repT r3
    refine .inr (.inl ⟨p, vs, rfl, (.inl e1), fun hw => ?_, fun hw q hq => ?_⟩)
    · refine ke _ _ _ f (mkT n1 e1 z1) ?_
      have : cutD ds l u = ds := by
        unfold cutD
        rw [z1.len] at hw
        rw [hw.1, hw.2]
        simp
      have q3' : Q (.tup (cutD ds l u)) := q3
      rwa [this] at q3'
    · have g := fut_new (o := .tup (cutV vs l u)) w3 hq
      exact ke _ _ _ (f.trans g) (mkT (w3.new hq) (.inl upd_same) ((z1.cut l u).fut w3 g)) q3
/-! ## fields -/
def rFld (m : List (Nat × Nat)) (a : XP) : XP := fun G Q E => a G (fun d => match d with
  | .ins c ds => match m.lookup c with
    | some i => match ds[i]? with
      | some x => Q x
      | none => False
    | none => False
  | _ => False) E
theorem lookup_zip : ∀ {ns : List Str} {vs : List V} {i : Nat} {f : Str} {v : V}, ns.Nodup → ns[i]? = some f → vs[i]? = some v → (ns.zip vs).lookup f = some v
  | [], _, i, _, _, _, e, _ => by cases i <;> cases e
  | n :: ns, [], i, _, _, _, _, e => by cases i <;> cases e
  | n :: ns, u :: vs, 0, f, v, nd, e1, e2 => by
    cases e1
    cases e2
    simp [List.lookup]
  | n :: ns, u :: vs, i + 1, f, v, nd, e1, e2 => by
    have hn : n ∉ ns := (List.nodup_cons.mp nd).1
    have e1' : ns[i]? = some f := by simpa using e1
    have e2' : vs[i]? = some v := by simpa using e2
    have hf : (f == n) = false := by
      rw [beq_eq_false_iff_ne]
      intro z
      subst z
      exact hn (List.mem_of_getElem? e1')
    rw [List.zip_cons_cons, List.lookup_cons, hf]
    exact lookup_zip (List.nodup_cons.mp nd).2 e1' e2'
theorem lookup_mem {α : Type} : ∀ {l : List (Nat × α)} {c : Nat} {x : α}, l.lookup c = some x → (c, x) ∈ l
  | [], _, _, h => by cases h
  | (d, y) :: l, c, x, h => by
    rw [List.lookup_cons] at h
    by_cases e : c = d
    · subst e
      simp at h
      subst h
      exact List.mem_cons_self
    · have : (c == d) = false := by simpa using e
      rw [this] at h
      exact List.mem_cons_of_mem _ (lookup_mem h)
/-- what the classes say of a field -/
def FldOk (K : PySem.W.Frag) (CT : Nat → Addr) (lay : Nat → List Str) (f : Str) (m : List (Nat × Nat)) : Prop := ∀ p ∈ m, Cls K (CT p.1) ∧ NoAttr K (CT p.1) f ∧ (lay p.1)[p.2]? = some f ∧ (lay p.1).Nodup
theorem repO {W : Wd} {H : Hp} {c : Nat} {ds : List D} {v : V} (h : Rep W H (.ins c ds) v) : ∃ a dx vs, v = .ref a ∧ ¬ W.S a ∧ H a = some (.ins (W.CT c) dx ((W.lay c).zip vs)) ∧ vs.length = (W.lay c).length ∧ Reps W H ds vs := by simpa only [Rep] using h
theorem mkO {W : Wd} {H : Hp} {c : Nat} {ds : List D} {a dx : Addr} {vs : List V} (n : ¬ W.S a) (e : H a = some (.ins (W.CT c) dx ((W.lay c).zip vs))) (l : vs.length = (W.lay c).length) (r : Reps W H ds vs) : Rep W H (.ins c ds) (.ref a) := by
  simp only [Rep]
  exact ⟨a, dx, vs, rfl, n, e, l, r⟩
theorem xe_fld {f : Str} {m : List (Nat × Nat)} (h : FldOk X.K B.W.CT B.W.lay f m) (ha : XE B X Wx a pa) (hb : attributeBase a f X.env (eval a X.env) = eval a X.env := by rfl) : XE B X Wx (.Attribute a f pos) (rFld m pa) := by
  obtain ⟨ta, ha, ea⟩ := ha.ex
  refine ⟨_, pe_fld ha hb, fun S σ H G Q E k O q ke kx => ea S σ H G _ E _ O q (fun v H1 d f1 r h1 => ?_) kx⟩
  cases d <;> first | exact False.elim h1 | skip
  rename_i c ds
  have h1' : (match m.lookup c with | some i => (match ds[i]? with | some x => Q x | none => False) | none => False) := h1
  cases hm : m.lookup c with
  | none => rw [hm] at h1'; exact h1'.elim
  | some i =>
    rw [hm] at h1'
    dsimp only at h1'
    obtain ⟨k1, k2, k3, k4⟩ := h _ (lookup_mem hm)
    obtain ⟨p, dx, vs, rfl, n, e1, l, rr⟩ := repO r
    cases hx : ds[i]? with
    | none => rw [hx] at h1'; exact h1'.elim
    | some x =>
      rw [hx] at h1'
      obtain ⟨v, ev, rv⟩ := rr.get hx
      exact ⟨p, _, dx, _, v, rfl, e1, k1, k2, lookup_zip k4 k3 ev, ke _ H1 _ f1 rv h1'⟩
/-- a field of the object that is being made, in slot i -/
def rOwn (m : List (Nat × Nat)) (i : Nat) : XP := fun G Q _ => match G[i]? with
  | some (.obj c ds) => match m.lookup c with
    | some j => match ds[j]? with
      | some x => Q x
      | none => False
    | none => False
  | _ => False
theorem zip_take : ∀ (ns : List Str) (vs : List V), (ns.zip vs) = (ns.zip vs) := fun _ _ => rfl
theorem xe_own {f : Str} {m : List (Nat × Nat)} {x : Str} {p1 : Pos} (h : FldOk X.K B.W.CT B.W.lay f m) (i : Nat) (hN : X.N[i]? = some x := by rfl) (hv : Vis X.env.scope x := by first | exact Or.inl rfl | exact Or.inr (Or.inl rfl) | exact Or.inr (Or.inr rfl)) (hd : (x == ("__debug__" : Str)) = false := by decide)
    (hcd : (x == ("__classdict__" : Str)) = false := by decide) (hb : attributeBase (.Name x p1) f X.env (eval (.Name x p1) X.env) = eval (.Name x p1) X.env := by rfl) : XE B X Wx (.Attribute (.Name x p1) f pos) (rOwn m i) := by
  refine ⟨_, pe_fld (pe_var hN hv hd hcd) hb, fun S σ H G Q E k O q ke kx => ?_⟩
  unfold rOwn at q
  cases hg : G[i]? with
  | none => rw [hg] at q; exact q.elim
  | some g =>
    rw [hg] at q
    cases g <;> first | exact False.elim q | skip
    rename_i c ds
    dsimp only at q
    cases hm : m.lookup c with
    | none => rw [hm] at q; exact q.elim
    | some j =>
      rw [hm] at q
      dsimp only at q
      obtain ⟨k1, k2, k3, k4⟩ := h _ (lookup_mem hm)
      obtain ⟨o, eo, p, dx, vs, rfl, me, s1, s2, s3, e1, l, rr⟩ := O.get hg
      cases hx : ds[j]? with
      | none => rw [hx] at q; exact q.elim
      | some y =>
        rw [hx] at q
        obtain ⟨v, ev, rv⟩ := rr.get hx
        exact ⟨_, eo, p, _, dx, _, v, rfl, e1, k1, k2, lookup_zip k4 k3 ev, ke _ H _ (Fut.refl O.wok) rv q⟩
/-! ## built-in functions -/
structure XF (B : Bs) (X : Cx) (Wx : WX) (f : Value) (o : DFn) : Prop where
  ex : ∃ r, CallR X f r ∧ ∀ S H xs dxs Q E k, WOk (B.W.at S) H → Reps (B.W.at S) H dxs xs → o dxs Q E → KE (B.W.at S) H Q k → r xs H k
theorem xe_callB {id : String} {x : Str} {p : Pos} {o : DFn} (hc : XF B X Wx (.builtin id) o) (hm : X.mg x = none) (hv : bootBuiltins x = some (.builtin id)) (ha : XA B X Wx (e :: es) pas) (hg : Gl X x := by rfl) (hn : x ≠ "__name__" := by decide) (hdb : (x == ("__debug__" : Str)) = false := by decide)
    (he : starEach (e :: es) X.env = (false, eval e X.env) :: starEach es X.env := by rfl) (hpl : (backTo pos (starEach es X.env)).any (·.1) = false := by rfl) : XE B X Wx (.Call (.Name x p) (e :: es) [] pos) (rFn o pas) := by
  obtain ⟨r, h1, h2⟩ := hc.ex
  obtain ⟨t, ha, ea⟩ := ha.ex
  refine ⟨_, pe_callB h1 hg hm hv ha hn hdb he hpl, fun S σ H G Q E k O q ke kx => ea S σ H G _ E _ O q (fun vs H1 ds f1 r1 q1 => ?_) kx⟩
  exact h2 S H1 vs ds Q E k (O.wok.fut f1) r1 q1 (ke.fut f1)
theorem xe_callTy {T : String} {x : Str} {p : Pos} {o : DFn} (hc : XF B X Wx (.type T) o) (hm : X.mg x = none) (hv : bootBuiltins x = some (.type T)) (ha : XA B X Wx (e :: es) pas) (hg : Gl X x := by rfl) (hn : x ≠ "__name__" := by decide) (hdb : (x == ("__debug__" : Str)) = false := by decide)
    (he : starEach (e :: es) X.env = (false, eval e X.env) :: starEach es X.env := by rfl) (hpl : (backTo pos (starEach es X.env)).any (·.1) = false := by rfl) : XE B X Wx (.Call (.Name x p) (e :: es) [] pos) (rFn o pas) := by
  obtain ⟨r, h1, h2⟩ := hc.ex
  obtain ⟨t, ha, ea⟩ := ha.ex
  refine ⟨_, pe_callTy h1 hg hm hv ha hn hdb he hpl, fun S σ H G Q E k O q ke kx => ea S σ H G _ E _ O q (fun vs H1 ds f1 r1 q1 => ?_) kx⟩
  exact h2 S H1 vs ds Q E k (O.wok.fut f1) r1 q1 (ke.fut f1)
theorem reps1 {W : Wd} {H : Hp} {d : D} {vs : List V} (h : Reps W H [d] vs) : ∃ v, vs = [v] ∧ Rep W H d v := by
  simp only [Reps] at h
  obtain ⟨v, r, rfl, h1, rfl⟩ := h
  exact ⟨v, rfl, h1⟩
theorem reps2 {W : Wd} {H : Hp} {d e : D} {vs : List V} (h : Reps W H [d, e] vs) : ∃ v w, vs = [v, w] ∧ Rep W H d v ∧ Rep W H e w := by
  simp only [Reps] at h
  obtain ⟨v, r, rfl, h1, w, r', rfl, h2, rfl⟩ := h
  exact ⟨v, w, rfl, h1, h2⟩
def oLen : DFn := fun xs Q _ => match xs with
  | [.lst ds] => Q (.int ds.length)
  | [.tup ds] => Q (.int ds.length)
  | [.str z] => z.length ≤ 100000 ∧ Q (.int z.length)
  | _ => False
theorem xf_len : XF B X Wx (.builtin "len") oLen := ⟨_, call_len_seq.or call_len_str, fun S H xs dxs Q E k w r q ke => by
  cases dxs with
  | nil => exact False.elim q
  | cons d ds =>
    cases ds with
    | cons d2 ds => cases d <;> exact False.elim q
    | nil =>
      obtain ⟨v, rfl, r9⟩ := reps1 r
      cases d <;> first | exact False.elim q | skip
      · rw [repS r9]
        exact .inr ⟨_, rfl, le_line q.1, ke _ H _ (Fut.refl w) mkI q.2⟩
      · obtain ⟨a, vs, rfl, n, e1, z⟩ := repL r9
        exact .inl ⟨a, vs, rfl, .inl (SqL.of e1), by rw [z.len]; exact ke _ H _ (Fut.refl w) mkI q⟩
      · obtain ⟨a, vs, rfl, n, e1, z⟩ := repT r9
        exact .inl ⟨a, vs, rfl, .inr ((.inl e1)), by rw [z.len]; exact ke _ H _ (Fut.refl w) mkI q⟩⟩
def oInt : DFn := fun xs Q _ => match xs with
  | [.int i] => Q (.int i)
  | [.bl b] => Q (.int (if b = true then 1 else 0))
  | _ => False
theorem xf_int : XF B X Wx (.type "int") oInt := ⟨_, call_int1, fun S H xs dxs Q E k w r q ke => by
  cases dxs with
  | nil => exact False.elim q
  | cons d ds =>
    cases ds with
    | cons d2 ds => cases d <;> exact False.elim q
    | nil =>
      obtain ⟨v, rfl, r9⟩ := reps1 r
      cases d <;> first | exact False.elim q | skip
      · rw [repB r9]
        exact .inr ⟨_, rfl, ke _ H _ (Fut.refl w) mkI q⟩
      · rw [repI r9]
        exact .inl ⟨_, rfl, ke _ H _ (Fut.refl w) mkI q⟩⟩
def oAbs : DFn := fun xs Q _ => match xs with
  | [.int i] => Q (.int (if i < 0 then -i else i))
  | _ => False
theorem xf_abs : XF B X Wx (.builtin "abs") oAbs := ⟨_, call_abs, fun S H xs dxs Q E k w r q ke => by
  cases dxs with
  | nil => exact False.elim q
  | cons d ds =>
    cases ds with
    | cons d2 ds => cases d <;> exact False.elim q
    | nil =>
      obtain ⟨v, rfl, r9⟩ := reps1 r
      cases d <;> first | exact False.elim q | skip
      rw [repI r9]
      exact ⟨_, rfl, ke _ H _ (Fut.refl w) mkI q⟩⟩
def oMin2 : DFn := fun xs Q _ => match xs with
  | [.int i, .int j] => Q (.int (if j < i then j else i))
  | _ => False
theorem xf_min2 (hc : X.calm = true) : XF B X Wx (.builtin "min") oMin2 := ⟨_, call_min2 hc, fun S H xs dxs Q E k w r q ke => by
  cases dxs with
  | nil => exact False.elim q
  | cons d ds =>
    cases ds with
    | nil => cases d <;> exact False.elim q
    | cons d2 ds =>
      cases ds with
      | cons d3 ds => cases d <;> cases d2 <;> exact False.elim q
      | nil =>
        obtain ⟨v, u, rfl, r1, r2⟩ := reps2 r
        cases d <;> cases d2 <;> first | exact False.elim q | skip
        rw [repI r1, repI r2]
        exact ⟨_, _, rfl, ke _ H _ (Fut.refl w) mkI q⟩⟩
def oStr : DFn := fun xs Q _ => match xs with
  | [.int i] => i.natAbs.log2 < 1920 ∧ Q (.str (toString i))
  | _ => False
theorem xf_str : XF B X Wx (.type "str") oStr := ⟨_, call_str_int, fun S H xs dxs Q E k w r q ke => by
  cases dxs with
  | nil => exact False.elim q
  | cons d ds =>
    cases ds with
    | cons d2 ds => cases d <;> exact False.elim q
    | nil =>
      obtain ⟨v, rfl, r9⟩ := reps1 r
      cases d <;> first | exact False.elim q | skip
      rw [repI r9]
      exact ⟨_, rfl, q.1, ke _ H _ (Fut.refl w) mkS q.2⟩⟩
def oList : DFn := fun xs Q _ => match xs with
  | [.lst ds] => Q (.lst ds)
  | [.tup ds] => Q (.lst ds)
  | _ => False
theorem xf_list : XF B X Wx (.type "list") oList := ⟨_, call_list_of, fun S H xs dxs Q E k w r q ke => by
  cases dxs with
  | nil => exact False.elim q
  | cons d ds =>
    cases ds with
    | cons d2 ds => cases d <;> exact False.elim q
    | nil =>
      obtain ⟨v, rfl, r9⟩ := reps1 r
      cases d <;> first | exact False.elim q | skip
      · obtain ⟨a, vs, rfl, n, e1, z⟩ := repL r9
        refine ⟨a, vs, rfl, .inl (SqL.of e1), fun l hl => ?_⟩
        have g := fut_new (o := .lst vs) w hl
        exact ke _ _ _ g (mkL (w.new hl) upd_same (z.fut w g)) q
      · obtain ⟨a, vs, rfl, n, e1, z⟩ := repT r9
        refine ⟨a, vs, rfl, .inr ((.inl e1)), fun l hl => ?_⟩
        have g := fut_new (o := .lst vs) w hl
        exact ke _ _ _ g (mkL (w.new hl) upd_same (z.fut w g)) q⟩
def oTup : DFn := fun xs Q _ => match xs with
  | [.lst ds] => Q (.tup ds)
  | [.tup ds] => Q (.tup ds)
  | _ => False
theorem xf_tup : XF B X Wx (.type "tuple") oTup := ⟨_, call_tuple_of, fun S H xs dxs Q E k w r q ke => by
  cases dxs with
  | nil => exact False.elim q
  | cons d ds =>
    cases ds with
    | cons d2 ds => cases d <;> exact False.elim q
    | nil =>
      obtain ⟨v, rfl, r9⟩ := reps1 r
      cases d <;> first | exact False.elim q | skip
      · obtain ⟨a, vs, rfl, n, e1, z⟩ := repL r9
        refine ⟨a, vs, rfl, .inl ⟨SqL.of e1, fun l hl => ?_⟩⟩
        have g := fut_new (o := .tup vs) w hl
        exact ke _ _ _ g (mkT (w.new hl) (.inl upd_same) (z.fut w g)) q
      · obtain ⟨a, vs, rfl, n, e1, z⟩ := repT r9
        exact ⟨a, vs, rfl, .inr ⟨(.inl e1), ke _ H _ (Fut.refl w) (mkT n e1 z) q⟩⟩⟩
/-! ## isinstance -/
inductive Ty where
  | b (n : String) | c (n : Nat)
def tyn : D → String
  | .non => "NoneType"
  | .bl _ => "bool"
  | .int _ => "int"
  | .str _ => "str"
  | .lst _ => "list"
  | .tup _ => "tuple"
  | .ftp _ => "tuple"
  | .dic _ _ => "dict"
  | _ => ""
def isT (d : D) (t : Ty) : Bool := match d, t with
  | .ins c _, .c n => c == n
  | .ins _ _, .b _ => false
  | _, .c _ => false
  | d, .b n => tyn d == n || (tyn d == "bool" && n == "int")
def okI (cs : List Nat) : D → Prop
  | .ins c _ => c ∈ cs
  | .val _ => False
  | .law => False
  | .exn _ _ => False
  | _ => True
def oIsi (cs : List Nat) (ts : List Ty) : DUn := fun d Q _ => okI cs d ∧ Q (.bl (ts.any (isT d)))
structure ClsF (K : PySem.W.Frag) (C : Addr) : Prop where
  cl : Cls K C
  cA : findIn K (.ref C) "__class__" = some (some (.builtin "object.__class__"))
  ex : ∃ cd, clsIn K C = some cd ∧ cd.mro = [.ref C, .type "object"]
  ty : typeIn K (.ref C) = some (.type "type")
structure ClsX (K : PySem.W.Frag) (CT : Nat → Addr) (cs : List Nat) : Prop where
  f : ∀ c ∈ cs, ClsF K (CT c)
  cN : PySem.W.specialIn K (.builtin "object.__class__") "__get__" = some (some (.builtin "getset_descriptor.__get__"))
  cK : PySem.W.takesIn K (.builtin "object.__class__") = some true
  inj : ∀ c ∈ cs, ∀ c' ∈ cs, CT c = CT c' → c = c'
def builtinTys : List String := ["NoneType", "bool", "int", "str", "list", "tuple", "dict"]
theorem kit_bb : ∀ a ∈ builtinTys, ∀ b ∈ builtinTys, kitB a b = some (a == b || (a == "bool" && b == "int")) := by decide +kernel
theorem mro_b : ∀ a ∈ builtinTys, (PySem.fastBuiltinMro a).isSome = true ∧ ∀ l, PySem.fastBuiltinMro a = some l → l.all (fun v => match v with | .ref _ => false | _ => true) = true := by
  have : builtinTys.all (fun a => match PySem.fastBuiltinMro a with | some l => l.all (fun v => match v with | .ref _ => false | _ => true) | none => false) = true := by decide +kernel
  intro a ha
  have h := List.all_eq_true.mp this a ha
  cases hx : PySem.fastBuiltinMro a with
  | none => rw [hx] at h; cases h
  | some l =>
    rw [hx] at h
    refine ⟨rfl, fun l' e => ?_⟩
    cases e
    exact h
theorem kit_bc {K : PySem.W.Frag} {a : String} {C : Addr} (ha : a ∈ builtinTys) (F : ClsF K C) : kitOne K (.type a) (.ref C) = some false := by
  obtain ⟨cd, h1, h2⟩ := F.ex
  obtain ⟨k1, k2⟩ := mro_b a ha
  obtain ⟨l, hl⟩ := Option.isSome_iff_exists.mp k1
  have e : ((Value.type a == Value.ref C) = true) = False := by simp
  unfold kitOne
  rw [if_neg (by rw [e]; exact id)]
  unfold PySem.W.kitCls
  dsimp only
  rw [h1, F.ty]
  rw [if_pos (by simp)]
  unfold subIn
  dsimp only
  rw [hl]
  have : l.contains (Value.ref C) = false := by
    rw [Bool.eq_false_iff]
    intro z
    have := List.all_eq_true.mp (k2 l hl) _ (List.contains_iff_mem.mp z)
    cases this
  rw [Option.map_some, this]
theorem kit_cb {K : PySem.W.Frag} {b : String} {C : Addr} (hb : b ∈ builtinTys) (F : ClsF K C) : kitOne K (.ref C) (.type b) = some false := by
  obtain ⟨cd, h1, h2⟩ := F.ex
  have hm : ∀ b ∈ builtinTys, PySem.W.kitMeta b = true := by decide +kernel
  have ho : ∀ b ∈ builtinTys, (Value.type "object" == Value.type b) = false := by decide +kernel
  have e : ((Value.ref C == Value.type b) = true) = False := by simp
  unfold kitOne
  rw [if_neg (by rw [e]; exact id)]
  unfold PySem.W.kitCls
  dsimp only
  rw [if_pos (hm b hb)]
  unfold subIn mroIn
  dsimp only
  rw [h1, Option.bind_some, h2]
  simp
  intro z
  have := ho b hb
  rw [z] at this
  simp at this
theorem kit_cc {K : PySem.W.Frag} {C C' : Addr} (F : ClsF K C) (F' : ClsF K C') : kitOne K (.ref C) (.ref C') = some (decide (C = C')) := by
  obtain ⟨cd, h1, h2⟩ := F.ex
  obtain ⟨cd', h1', h2'⟩ := F'.ex
  unfold kitOne
  by_cases hc : C = C'
  · subst hc
    rw [if_pos (by simp), decide_eq_true rfl]
  · rw [if_neg (by simpa using hc)]
    unfold PySem.W.kitCls
    dsimp only
    rw [h1', F'.ty, if_pos (by simp)]
    unfold subIn mroIn
    dsimp only
    rw [h1, Option.bind_some, h2, decide_eq_false hc]
    simp
    intro z
    exact hc z.symm
/-- the type of a datum's value -/
def tyv (CT : Nat → Addr) : D → Value
  | .ins c _ => .ref (CT c)
  | d => .type (tyn d)
theorem tyX {W : Wd} {K : PySem.W.Frag} {H : Hp} {cs : List Nat} (F : ClsX K W.CT cs) {d : D} {v : V} (h : Rep W H d v) (o : okI cs d) : TyX K H v (tyv W.CT d) := by
  cases d with
  | non => simp only [Rep] at h; subst h; exact .base .non
  | bl b => rw [repB h]; exact .base (.bl b)
  | int i => rw [repI h]; exact .base (.int i)
  | str x => rw [repS h]; exact .base (.str x)
  | val u => exact o.elim
  | law => exact o.elim
  | lst ds => obtain ⟨a, vs, rfl, n, e, z⟩ := repL h; exact .base (.lst e)
  | tup ds => 
    obtain ⟨a, vs, rfl, n, e, z⟩ := repT h
    rcases e with e | ⟨o, e⟩
    · exact .base (.tup e)
    · exact .fTuple e
  | ftp ds =>
    simp only [Rep] at h
    obtain ⟨a, vs, o, rfl, n, dn, e, z⟩ := h
    exact .fTuple e
  | ins c ds =>
    obtain ⟨a, dx, vs, rfl, n, e, l, z⟩ := repO h
    have G := F.f c o
    obtain ⟨cd, h1, h2⟩ := G.ex
    refine .base (.ins e G.cl G.cA F.cN F.cK ?_)
    unfold mroIn
    rw [h1, Option.bind_some, h2]
    simp
  | dic ks ds =>
    simp only [Rep] at h
    obtain ⟨a, vs, rfl, n, e, l, z⟩ := h
    exact .base (.dK e)
  | exn c ds => exact o.elim
def tyVal (CT : Nat → Addr) : Ty → Value
  | .b n => .type n
  | .c n => .ref (CT n)
def tyV' (CT : Nat → Addr) : Ty → V
  | .b n => .ty n
  | .c n => .ref (CT n)
def TyOk (cs : List Nat) : Ty → Prop
  | .b n => n ∈ builtinTys
  | .c n => n ∈ cs
theorem tyn_mem {d : D} (cs : List Nat) (o : okI cs d) (h : ∀ c ds, d ≠ .ins c ds) : tyn d ∈ builtinTys := by
  cases d <;> first | exact o.elim | (exact absurd rfl (h _ _)) | (show _ ∈ builtinTys; unfold tyn builtinTys; simp)
theorem kit_ok {K : PySem.W.Frag} {CT : Nat → Addr} {cs : List Nat} (F : ClsX K CT cs) {d : D} {t : Ty} (o : okI cs d) (ht : TyOk cs t) : kitOne K (tyv CT d) (tyVal CT t) = some (isT d t) := by
  cases t with
  | b n =>
    have hn : n ∈ builtinTys := ht
    by_cases hi : ∃ c ds, d = .ins c ds
    · obtain ⟨c, ds, rfl⟩ := hi
      exact kit_cb hn (F.f c o)
    · have hi' : ∀ c ds, d ≠ .ins c ds := fun c ds z => hi ⟨c, ds, z⟩
      have m := tyn_mem cs o hi'
      have e1 : tyv CT d = .type (tyn d) := by cases d <;> first | rfl | exact absurd rfl (hi' _ _)
      have e2 : isT d (.b n) = (tyn d == n || (tyn d == "bool" && n == "int")) := by cases d <;> first | rfl | exact absurd rfl (hi' _ _)
      rw [e1, e2]
      exact kit_ty (kit_bb _ m n hn)
  | c n =>
    have hn : n ∈ cs := ht
    by_cases hi : ∃ c ds, d = .ins c ds
    · obtain ⟨c, ds, rfl⟩ := hi
      show kitOne K (.ref (CT c)) (.ref (CT n)) = some (c == n)
      rw [kit_cc (F.f c o) (F.f n hn)]
      by_cases e : c = n
      · subst e
        simp
      · have : CT c ≠ CT n := fun z => e (F.inj c o n hn z)
        rw [decide_eq_false this]
        simp [e]
    · have hi' : ∀ c ds, d ≠ .ins c ds := fun c ds z => hi ⟨c, ds, z⟩
      have m := tyn_mem cs o hi'
      have e1 : tyv CT d = .type (tyn d) := by cases d <;> first | rfl | exact absurd rfl (hi' _ _)
      have e2 : isT d (.c n) = false := by cases d <;> first | rfl | exact absurd rfl (hi' _ _)
      rw [e1, e2]
      exact kit_bc m (F.f n hn)
theorem kitAny_ok {K : PySem.W.Frag} {CT : Nat → Addr} {cs : List Nat} (F : ClsX K CT cs) {d : D} (o : okI cs d) : ∀ {ts : List Ty}, (∀ t ∈ ts, TyOk cs t) → kitAny K (tyv CT d) (ts.map (tyVal CT)) = some (ts.any (isT d))
  | [], _ => rfl
  | t :: ts, h => by
    have h1 := kit_ok F o (h t (by simp))
    have h2 := kitAny_ok F o (ts := ts) fun x hx => h x (by simp [hx])
    rw [List.map_cons, List.any_cons]
    unfold kitAny
    rw [h1]
    cases isT d t with
    | true => rfl
    | false => exact h2
def XTy (B : Bs) (X : Cx) (Wx : WX) (e : Expr) (t : Ty) : Prop := XE B X Wx e (rC (.val (tyV' B.W.CT t)))
theorem xe_isi {cs : List Nat} {t : Ty} {x : Str} {p : Pos} (F : ClsX X.K B.W.CT cs) (ht : TyOk cs t) (hm : X.mg x = none) (hv : bootBuiltins x = some (.builtin "isinstance")) (ha : XE B X Wx a pa) (hb : XTy B X Wx b t)
    (hg : Gl X x := by rfl) (hn : x ≠ "__name__" := by decide) (hdb : (x == ("__debug__" : Str)) = false := by decide) (he : starEach [a, b] X.env = (false, eval a X.env) :: starEach [b] X.env := by rfl) (he2 : starEach [b] X.env = (false, eval b X.env) :: starEach [] X.env := by rfl) (hpl : (backTo pos (starEach [b] X.env)).any (·.1) = false := by rfl) :
    XE B X Wx (.Call (.Name x p) [a, b] [] pos) (rUn (oIsi cs [t]) pa) := by
  obtain ⟨ta, ha, ea⟩ := ha.ex
  obtain ⟨tb, hb, eb⟩ := hb.ex
  refine ⟨_, pe_callB call_isi hg hm hv (pa_cons ha (pa_cons hb pa_nil he2) he) hn hdb he hpl, fun S σ H G Q E k O q ke kx => ea S σ H G _ E _ O q (fun v H1 d f1 r1 q1 => ?_) kx⟩
  refine eb S σ H1 G (fun y => y = .val (tyV' B.W.CT t)) E _ (O.fut f1) rfl (fun w H2 dw f2 r2 q2 => ?_) (kx.fut f1)
  subst q2
  simp only [Rep] at r2
  subst r2
  obtain ⟨o, q⟩ := q1
  have w1 := O.wok.fut f1
  refine ⟨v, _, tyv B.W.CT d, tyVal B.W.CT t, isT d t, rfl, ?_, tyX (W := B.W.at S) F (r1.fut w1 f2) o, kit_ok F o ht, ?_⟩
  · cases t with
    | b n => exact .ty n
    | c n => exact .own _
  · have : [t].any (isT d) = isT d t := by simp
    rw [this] at q
    exact ke _ H2 _ (f1.trans f2) mkB q
theorem xe_isiT {cs : List Nat} {ts : List Ty} {x : Str} {p p2 : Pos} {k2 : Nat} {elts : List Expr} (F : ClsX X.K B.W.CT cs) (ht : ∀ t ∈ ts, TyOk cs t) (hl : ts.length ≤ 1000) (hm : X.mg x = none) (hv : bootBuiltins x = some (.builtin "isinstance")) (ha : XE B X Wx a pa)
    (hb : XA B X Wx elts pas) (hp : ∀ G E, pas G (fun xs => xs = ts.map fun t => .val (tyV' B.W.CT t)) E)
    (hg : Gl X x := by rfl) (hn : x ≠ "__name__" := by decide) (hdb : (x == ("__debug__" : Str)) = false := by decide) (he : starEach [a, .Tuple elts k2 p2] X.env = (false, eval a X.env) :: starEach [.Tuple elts k2 p2] X.env := by rfl) (he2 : starEach [.Tuple elts k2 p2] X.env = (false, eval (.Tuple elts k2 p2) X.env) :: starEach [] X.env := by rfl) (hpl : (backTo pos (starEach [.Tuple elts k2 p2] X.env)).any (·.1) = false := by rfl) :
    XE B X Wx (.Call (.Name x p) [a, .Tuple elts k2 p2] [] pos) (rUn (oIsi cs ts) pa) := by
  obtain ⟨ta, ha, ea⟩ := ha.ex
  obtain ⟨tb, hb, eb⟩ := hb.ex
  refine ⟨_, pe_callB call_isiT hg hm hv (pa_cons ha (pa_cons (pe_tup hb) pa_nil he2) he) hn hdb he hpl, fun S σ H G Q E k O q ke kx => ea S σ H G _ E _ O q (fun v H1 d f1 r1 q1 => ?_) kx⟩
  refine eb S σ H1 G _ E _ (O.fut f1) (hp G E) (fun ws H2 dws f2 r2 q2 => ?_) (kx.fut f1)
  subst q2
  obtain ⟨o, q⟩ := q1
  have w1 := O.wok.fut f1
  have w2 := w1.fut f2
  have hw : ∀ {ts : List Ty} {ws : List V}, Reps (B.W.at S) H2 (ts.map fun t => .val (tyV' B.W.CT t)) ws → ws = ts.map (tyV' B.W.CT) := by
    intro ts
    induction ts with
    | nil => intro ws h; simpa only [Reps, List.map_nil] using h
    | cons t ts ih =>
      intro ws h
      simp only [Reps, List.map_cons] at h
      obtain ⟨v, r, rfl, h1, h2⟩ := h
      simp only [Rep] at h1
      rw [h1, ih h2, List.map_cons]
  have ew := hw r2
  subst ew
  refine ⟨le_line (by rw [List.length_map]; omega), fun q' hq => ?_⟩
  have g := fut_new (o := .tup (ts.map (tyV' B.W.CT))) w2 hq
  have pc : ∀ ts : List Ty, Paired ClsV (ts.map (tyV' B.W.CT)) (ts.map (tyVal B.W.CT)) := by
    intro ts
    induction ts with
    | nil => exact .nil
    | cons t ts ih =>
      refine .cons ?_ ih
      cases t with
      | b n => exact .ty n
      | c n => exact .own _
  exact ⟨v, q', ts.map (tyV' B.W.CT), tyv B.W.CT d, ts.map (tyVal B.W.CT), ts.any (isT d), rfl, upd_same, pc ts, tyX (W := B.W.at S) F ((r1.fut w1 f2).fut w2 g) o, kitAny_ok F o ht, ke _ _ _ ((f1.trans f2).trans g) mkB q⟩
end
end Pu
namespace Pu
open PySem PySem.Spec PyProof.Rows L2
/-! ## promises of data -/
def spP (CT : Nat → Addr) (lay : Nat → List Str) (F : DFn) : Sp := fun vs H Q E => ∃ (L : Option (Addr × Addr)) (S : Addr → Prop) (ds : List D) (Qd : D → Prop) (Ed : Exn → Prop),
  WOk ⟨CT, lay, L, S⟩ H ∧ Reps ⟨CT, lay, L, S⟩ H ds vs ∧ F ds Qd Ed ∧ KE ⟨CT, lay, L, S⟩ H Qd Q ∧ ∀ cls dd H' ex, Fut ⟨CT, lay, L, S⟩ H H' → ExOk ⟨CT, lay, L, S⟩ H' ex cls dd → Ed ex → E cls dd H'
/-- what an __init__ makes of its arguments: the fields -/
abbrev DIn := List D → (List D → Prop) → (Exn → Prop) → Prop
def delA (H : Hp) (p : Addr) : Hp := fun a => if a = p then none else H a
theorem delA_ne {H : Hp} {p a : Addr} (h : a ≠ p) : delA H p a = H a := if_neg h
theorem delA_same {H : Hp} {p : Addr} : delA H p p = none := if_pos rfl
def spI (CT : Nat → Addr) (lay : Nat → List Str) (c : Nat) (F : DIn) : Sp := fun vs H Q E => ∃ (L : Option (Addr × Addr)) (S : Addr → Prop) (p dx : Addr) (ws : List V) (ds : List D) (Qd : List D → Prop) (Ed : Exn → Prop),
  vs = .ref p :: ws ∧ H p = some (.ins (CT c) dx []) ∧ ¬ S p ∧ nL L p ∧ WOk ⟨CT, lay, L, S⟩ (delA H p) ∧ Reps ⟨CT, lay, L, S⟩ (delA H p) ds ws ∧ F ds Qd Ed ∧
  (∀ H' dx' us fs, Fut ⟨CT, lay, L, S⟩ (delA H p) H' → H' p = some (.ins (CT c) dx' ((lay c).zip us)) → us.length = (lay c).length → Reps ⟨CT, lay, L, S⟩ H' fs us → Qd fs → Q .non H') ∧
  ∀ cls dd H' ex, Fut ⟨CT, lay, L, S⟩ (delA H p) H' → ExOk ⟨CT, lay, L, S⟩ H' ex cls dd → Ed ex → E cls dd H'
section
variable {B : Bs} {X : Cx} {Wx : WX} {a b c e o : Expr} {es : List Expr} {pa pb pc : XP} {pos p apos : Pos} {pas : XAp} {k : Nat} {f : Addr} {fd : FuncData} {ps : List Str} {F : DFn} {dvs : List V} {dds : List D} {dsv : List Value} {x m : Str}
theorem xe_call (F1 : FnOk X.prog X.w X.K X.mg X.base (L2.CX X.prog X.w) k f fd ps (spP B.W.CT B.W.lay F)) (hr : Room k X.A) (hm : X.mg x = some (.ref f)) (hk : PySem.W.keepIn X.K (.ref f) = true) (hb : Binds X.K fd ps []) (tk : Takes X Wx) (ha : XA B X Wx (e :: es) pas)
    (hg : Gl X x := by rfl) (hdb : (x == ("__debug__" : Str)) = false := by decide) (he : starEach (e :: es) X.env = (false, eval e X.env) :: starEach es X.env := by rfl) (hpl : (backTo pos (starEach es X.env)).any (·.1) = false := by rfl) :
    XE B X Wx (.Call (.Name x p) (e :: es) [] pos) (rFn F pas) := by
  obtain ⟨t, ha, ea⟩ := ha.ex
  refine ⟨_, pe_callSD F1 hr hg hm hk hb .nil (passAt tk) ha hdb he hpl, fun S σ H G Q E k O q ke kx => ea S σ H G _ E _ O q (fun vs H1 ds f1 r1 q1 => ?_) kx⟩
  refine ⟨B.W.L, S, ds, Q, E, O.wok.fut f1, by rw [List.append_nil]; exact r1, q1, ke.fut f1, ?_⟩
  exact kx.fut f1
/-- .. with written defaults -/
theorem xe_callD (F1 : FnOk X.prog X.w X.K X.mg X.base (L2.CX X.prog X.w) k f fd ps (spP B.W.CT B.W.lay F)) (hr : Room k X.A) (hm : X.mg x = some (.ref f)) (hk : PySem.W.keepIn X.K (.ref f) = true) (hb : Binds X.K fd ps dsv) (hd : Vals dvs dsv) (hdd : ∀ W H, Reps W H dds dvs) (tk : Takes X Wx) (ha : XA B X Wx (e :: es) pas)
    (hg : Gl X x := by rfl) (hdb : (x == ("__debug__" : Str)) = false := by decide) (he : starEach (e :: es) X.env = (false, eval e X.env) :: starEach es X.env := by rfl) (hpl : (backTo pos (starEach es X.env)).any (·.1) = false := by rfl) :
    XE B X Wx (.Call (.Name x p) (e :: es) [] pos) (rFn (fun xs => F (xs ++ dds)) pas) := by
  obtain ⟨t, ha, ea⟩ := ha.ex
  refine ⟨_, pe_callSD F1 hr hg hm hk hb hd (passAt tk) ha hdb he hpl, fun S σ H G Q E k O q ke kx => ea S σ H G _ E _ O q (fun vs H1 ds f1 r1 q1 => ?_) kx⟩
  refine ⟨B.W.L, S, ds ++ dds, Q, E, O.wok.fut f1, r1.app (hdd _ _), q1, ke.fut f1, ?_⟩
  exact kx.fut f1
/-! methods: the class of the object decides -/
structure MEnt (P : Program) (w : World) (K : PySem.W.Frag) (mg : Str → Option Value) (base : Heap) (CT : Nat → Addr) (lay : Nat → List Str) (k : Nat) (m : Str) (n : Nat) (q : Nat × DFn) : Prop where
  ex : ∃ f fd ps, Cls K (CT q.1) ∧ Meth K (CT q.1) m f ∧ FnOk P w K mg base (L2.CX P w) k f fd ps (spP CT lay q.2) ∧ Binds K fd ps [] ∧ m ∉ lay q.1 ∧ ps.length = n + 1
def rMeth (tbl : List (Nat × DFn)) (a : XP) (as : XAp) : XP := fun G Q E => a G (fun d => match d with
  | .ins c ds => match tbl.lookup c with
    | some F => as G (fun xs => F (.ins c ds :: xs) Q E) E
    | none => False
  | _ => False) E
theorem no_field {ns : List Str} {vs : List V} {m : Str} (h : m ∉ ns) : (ns.zip vs).lookup m = none := by
  induction ns generalizing vs with
  | nil => rfl
  | cons n ns ih =>
    cases vs with
    | nil => rfl
    | cons v vs =>
      have : (m == n) = false := by
        rw [beq_eq_false_iff_ne]
        intro z
        exact h (by rw [z]; exact List.mem_cons_self)
      rw [List.zip_cons_cons, List.lookup_cons, this]
      exact ih fun z => h (List.mem_cons_of_mem _ z)
theorem run_pass {pins : List (Addr × Obj)} {σ : L2.St} {H : Hp} {s : Shared} {Q : VK} {us : List Value} {vs : List V} {sp : Sp} {E : L2.St → XK} {CX : CXT} (F : FnOk X.prog X.w X.K X.mg X.base CX k f fd ps sp) (hr : Room k X.A) (hb : Binds X.K fd ps []) (hx : PassesAt CX X σ (E σ))
    (I : Inv X pins σ H s) (r : Vals vs us) (h : sp vs H Q (E σ)) : wpAny (model X.prog X.w) X.A (call (.ref f) us) (EP X pins σ Q) X.xe s := by
  have := run_fnSD (dvs := []) (ds := []) (E := E) F hr hb .nil hx I r (by rw [List.append_nil]; exact h)
  exact this
def tMethT (B : Bs) (K : PySem.W.Frag) (m : Str) (tbl : List (Nat × DFn)) (Wx : WX) (ta : TE) (t : TA) : TE := fun σ H Q => ta σ H fun x H1 => ∃ a dx fs q, q ∈ tbl ∧ x = .ref a ∧ H1 a = some (.ins (B.W.CT q.1) dx fs) ∧ fs.lookup m = none ∧
  t σ H1 fun vs H2 => spP B.W.CT B.W.lay q.2 (x :: vs) H2 Q (WE Wx σ)
theorem ev_meth {tbl : List (Nat × DFn)} {ta : TE} {t : TA} {P : Program} {w : World} {K : PySem.W.Frag} {mg : Str → Option Value} {base : Heap} {n : Nat} (M : ∀ q ∈ tbl, MEnt P w K mg base B.W.CT B.W.lay k m n q) (ea : EvE B Wx ta pa) (er : EvA B Wx t pas) : EvE B Wx (tMethT B K m tbl Wx ta t) (rMeth tbl pa pas) := by
  intro S σ H G Q E kk O q ke kx
  refine ea S σ H G _ E _ O q (fun v H1 d f1 r1 q1 => ?_) kx
  cases d <;> first | exact False.elim q1 | skip
  rename_i cc ds
  have q1' : (match tbl.lookup cc with | some F => pas G (fun xs => F (.ins cc ds :: xs) Q E) E | none => False) := q1
  cases hl : tbl.lookup cc with
  | none => rw [hl] at q1'; exact q1'.elim
  | some F =>
    rw [hl] at q1'
    dsimp only at q1'
    have hm := lookup_mem hl
    obtain ⟨f, fd, ps, c1, m1, F1, b1, nf, _⟩ := (M _ hm).ex
    obtain ⟨a, dx, vs, rfl, n1, e1, l1, z1⟩ := repO r1
    refine ⟨a, dx, _, (cc, F), hm, rfl, e1, no_field nf, ?_⟩
    refine er S σ H1 G _ E _ (O.fut f1) q1' (fun us H2 xs f2 r2 q2 => ?_) (kx.fut f1)
    have f12 := f1.trans f2
    exact ⟨B.W.L, S, .ins cc ds :: xs, Q, E, O.wok.fut f12, Reps.cons (r1.fut (O.wok.fut f1) f2) r2, q2, ke.fut f12, kx.fut f12⟩
theorem xe_meth {pl : Sem Bool} {tbl : List (Nat × DFn)} {n : Nat} (M : ∀ q ∈ tbl, MEnt X.prog X.w X.K X.mg X.base B.W.CT B.W.lay k m n q) (hr : Room k X.A) (tk : Takes X Wx) (ho : XE B X Wx o pa) (ha : XA B X Wx (e :: es) pas)
    (hst : starEach (e :: es) X.env = (false, eval e X.env) :: starEach es X.env := by rfl) (hpl : (backTo pos (starEach es X.env)).any (·.1) = false := by rfl)
    (ht : eval (.Call (.Attribute o m apos) (e :: es) [] pos) X.env = (do
      let ov ← eval o X.env
      standAt apos.atName
      let (f, first) ← holding [ov] (getMethod ov m pl)
      callWith pos f first (backTo pos (starEach (e :: es) X.env)) (backToKw pos (keywordEach [] X.env))) := by rfl) :
    XE B X Wx (.Call (.Attribute o m apos) (e :: es) [] pos) (rMeth tbl pa pas) := by
  obtain ⟨ta, hta, ea⟩ := ho.ex
  obtain ⟨t, htr, er⟩ := ha.ex
  refine ⟨tMethT B X.K m tbl Wx ta t, ⟨fun pins s σ H Q I h => ?_⟩, ev_meth M ea er⟩
  refine PySem.W.methodCall_KW (pl := pl) (thn (hta.run pins s σ H _ I h) fun u s1 ⟨x, H1, I1, rx, a, dx, fs, q, hq, ex, ea, l, q9⟩ => ?_) ht
  subst ex
  obtain rfl : u = Value.ref a := rx
  obtain ⟨f, fd, ps, c1, m1, F1, b1, _⟩ := (M q hq).ex
  refine getmeth_ok I1 ea c1 m1 l ?_
  refine PySem.W.callWith_K (first := [.ref a]) (h₀ := X.base) I.ok.mod.kin m1.kp (thn (htr.run pos pins s1 σ H1 _ I1 q9) fun us s2 ⟨vs, H2, I2, r, q2⟩ => ⟨I2.kIn, ?_⟩) hst hpl
  exact run_pass (us := .ref a :: us) (vs := .ref a :: vs) (E := WE Wx) F1 hr b1 (passAt tk σ) I2 (.cons rfl r) q2
theorem xe_meth0 {pl : Sem Bool} {tbl : List (Nat × DFn)} {n : Nat} (M : ∀ q ∈ tbl, MEnt X.prog X.w X.K X.mg X.base B.W.CT B.W.lay k m n q) (hr : Room k X.A) (tk : Takes X Wx) (ho : XE B X Wx o pa)
    (ht : eval (.Call (.Attribute o m apos) [] [] pos) X.env = (do
      let ov ← eval o X.env
      standAt apos.atName
      let (f, first) ← holding [ov] (getMethod ov m pl)
      callWith pos f first (backTo pos (starEach [] X.env)) (backToKw pos (keywordEach [] X.env))) := by rfl) :
    XE B X Wx (.Call (.Attribute o m apos) [] [] pos) (rMeth tbl pa rNil) := by
  obtain ⟨ta, hta, ea⟩ := ho.ex
  obtain ⟨t, htr, er⟩ := (xa_nil (B := B) (X := X) (Wx := Wx)).ex
  refine ⟨tMethT B X.K m tbl Wx ta tNil, ⟨fun pins s σ H Q I h => ?_⟩, ev_meth M ea (fun S σ H G Q E k O q ka _ => ka [] H [] (Fut.refl O.wok) Reps.nil q)⟩
  refine PySem.W.methodCall_KW (pl := pl) (thn (hta.run pins s σ H _ I h) fun u s1 ⟨x, H1, I1, rx, a, dx, fs, q, hq, ex, ea, l, q9⟩ => ?_) ht
  subst ex
  obtain rfl : u = Value.ref a := rx
  obtain ⟨f, fd, ps, c1, m1, F1, b1, _⟩ := (M q hq).ex
  refine getmeth_ok I1 ea c1 m1 l ?_
  exact PySem.W.callWith_K0 (first := [.ref a]) I1.kIn m1.kp (run_pass (us := [.ref a]) (vs := [.ref a]) (E := WE Wx) F1 hr b1 (passAt tk σ) I1 (.cons rfl .nil) q9)
/-! making objects -/
theorem run_makeSD {pins : List (Addr × Obj)} {σ : L2.St} {H : Hp} {s : Shared} {Q : VK} {us : List Value} {vs : List V} {sp : Sp} {E : L2.St → XK} {CX : CXT} {C : Addr} (M : Mk X.K C f) (F : FnOk X.prog X.w X.K X.mg X.base CX k f fd ps sp) (hr : Room (k + 1) X.A) (hb : Binds X.K fd ps dsv) (hd : Vals dvs dsv)
    (hx : PassesAt CX X σ (E σ)) (I : Inv X pins σ H s) (r : Vals vs us)
    (h : ∀ x dx, H x = none → H dx = none → dx ≠ x → sp (.ref x :: (vs ++ dvs)) (upd (upd H dx (.own x)) x (.ins C dx [])) (fun v H2 => v = .non ∧ Q (.ref x) H2) (E σ)) :
    wpAny (model X.prog X.w) X.A (call (.ref C) us) (EP X pins σ Q) X.xe s := by
  have hq := h (s.heap.objs.size + 1) s.heap.objs.size (I.hok.fresh (Nat.le_succ _)) (I.hok.fresh (Nat.le_refl _)) (Nat.ne_of_lt (Nat.lt_succ_self _))
  have I2 := Inv.made (C := C) I
  have r2 : Vals (V.ref (s.heap.objs.size + 1) :: (vs ++ dvs)) (Value.ref (s.heap.objs.size + 1) :: (us ++ dsv)) := .cons rfl (r.append hd)
  have hl : (Value.ref (s.heap.objs.size + 1) :: us ++ dsv).length = ps.length := by
    have e := r2.length
    rw [F.len _ _ _ _ hq] at e
    exact e.symm
  refine wpAny_call (make_map (f := f) I.kIn M.makes M.init (beq_iff_eq.mp M.fn) (codeAny_mono (F.run _ X.stack _ _ ⟨Value.ref (s.heap.objs.size + 1) :: us, []⟩ (Value.ref (s.heap.objs.size + 1) :: (us ++ dsv)) _ _ (E σ) (hr.make C us [])
    (I2.env0.make C us []) (hb _ (Value.ref (s.heap.objs.size + 1) :: us) I2.kIn hl) r2 hq) fun r s' hq' => ?_))
  cases r with
  | error e => exact hx pins _ _ e s' I2 hq'
  | ok fl =>
    cases fl with
    | ret u =>
      obtain ⟨v, H', I3, rv, ev, q3⟩ := I2.after hq'
      subst ev
      exact ⟨rv, ⟨V.ref (s.heap.objs.size + 1), H', I3, rfl, q3⟩⟩
    | next => exact False.elim hq'
    | brk => exact False.elim hq'
    | cont => exact False.elim hq'
def rMake (c : Nat) (F : DIn) (as : XAp) : XP := fun G Q E => as G (fun xs => F xs (fun fs => Q (.ins c fs)) E) E
theorem xe_make {cn : Nat} {F : DIn} (M : Mk X.K (B.W.CT cn) f) (F1 : FnOk X.prog X.w X.K X.mg X.base (L2.CX X.prog X.w) k f fd ps (spI B.W.CT B.W.lay cn F)) (hr : Room (k + 1) X.A) (hm : X.mg x = some (.ref (B.W.CT cn))) (hb : Binds X.K fd ps dsv) (hd : Vals dvs dsv) (hdd : ∀ W H, Reps W H dds dvs) (tk : Takes X Wx) (ha : XA B X Wx (e :: es) pas)
    (hg : Gl X x := by rfl) (hdb : (x == ("__debug__" : Str)) = false := by decide) (he : starEach (e :: es) X.env = (false, eval e X.env) :: starEach es X.env := by rfl) (hpl : (backTo pos (starEach es X.env)).any (·.1) = false := by rfl) :
    XE B X Wx (.Call (.Name x p) (e :: es) [] pos) (rMake cn (fun xs => F (xs ++ dds)) pas) := by
  obtain ⟨t, ha, ea⟩ := ha.ex
  refine ⟨fun σ H Q => t σ H fun vs H1 => ∀ x dx, H1 x = none → H1 dx = none → dx ≠ x → spI B.W.CT B.W.lay cn F (.ref x :: (vs ++ dvs)) (upd (upd H1 dx (.own x)) x (.ins (B.W.CT cn) dx [])) (fun v H2 => v = .non ∧ Q (.ref x) H2) (WE Wx σ), ⟨fun pins s σ H Q I h => ?_⟩, fun S σ H G Q E k O q ke kx => ea S σ H G _ E _ O q (fun vs H1 ds f1 r1 q1 => ?_) kx⟩
  · refine wpAny_Call_Name_kw (ld_glob I hg hm ?_ hdb)
    refine PySem.W.callWith_K (h₀ := X.base) I.ok.mod.kin M.kp (thn (ha.run pos pins s σ H _ I h) fun us s1 ⟨vs, H1, I1, r, q⟩ => ⟨I1.kIn, ?_⟩) he hpl
    exact run_makeSD (E := WE Wx) M F1 hr hb hd (passAt tk σ) I1 r q
  · intro x dx hx hdx hne
    have w1 := O.wok.fut f1
    have dw : delA (upd (upd H1 dx (.own x)) x (.ins (B.W.CT cn) dx [])) x = upd H1 dx (.own x) := by
      funext a
      by_cases h : a = x
      · rw [h, delA_same, upd_ne (Ne.symm hne), hx]
      · rw [delA_ne h, upd_ne h]
    have g1 : Fut (B.W.at S) H1 (upd H1 dx (.own x)) := fut_new w1 hdx
    refine ⟨B.W.L, S, x, dx, vs ++ dvs, ds ++ dds, fun fs => Q (.ins cn fs), E, rfl, upd_same, w1.new hx, w1.nl (w1.new hx), ?_, ?_, q1, ?_, ?_⟩
    · rw [dw]
      exact w1.fut g1
    · rw [dw]
      exact (r1.fut w1 g1).app (hdd _ _)
    · intro H' dx' us fs f2 e2 l2 r2 q2
      rw [dw] at f2
      exact ⟨rfl, ke _ H' _ ((f1.trans g1).trans f2) (mkO (w1.new hx) e2 l2 r2) q2⟩
    · intro cls dd H' ex f2 x2 e2
      rw [dw] at f2
      exact kx _ _ _ _ ((f1.trans g1).trans f2) x2 e2
end
end Pu
namespace Pu
open PySem PySem.Spec PyProof.Rows L2
/-! ## statements -/
structure Po where
  nx : List Sl → Prop
  rt : D → Prop
  bk : List Sl → Prop := fun _ => False
  ct : List Sl → Prop := fun _ => False
  ex : Exn → List Sl → Prop
abbrev XSp := List Sl → Po → Prop
structure KP (B : Bs) (Wx : WX) (P : Po) (D : Ends) : Prop where
  nx : ∀ S σ H G, Ok B S σ H G → P.nx G → D.nx σ H
  rt : ∀ S σ H G v d, Ok B S σ H G → Rep (B.W.at S) H d v → P.rt d → D.rt v H
  bk : ∀ S σ H G, Ok B S σ H G → P.bk G → D.bk σ H
  ct : ∀ S σ H G, Ok B S σ H G → P.ct G → D.ct σ H
  ex : ∀ S σ H G cls dd ex, Ok B S σ H G → ExOk (B.W.at S) H ex cls dd → P.ex ex G → Wx cls dd σ H
def EvS (B : Bs) (Wx : WX) (t : TS) (p : XSp) : Prop := ∀ S σ H G P D, Ok B S σ H G → p G P → KP B Wx P D → t D σ H
structure XS (B : Bs) (X : Cx) (Wx : WX) (st : Stmt) (p : XSp) : Prop where
  ex : ∃ t, PS X st t ∧ EvS B Wx t p
structure XSs (B : Bs) (X : Cx) (Wx : WX) (st : List Stmt) (p : XSp) : Prop where
  ex : ∃ t, PSs X st t ∧ EvS B Wx t p
theorem KP.kx {B : Bs} {Wx : WX} {P : Po} {D : Ends} (k : KP B Wx P D) {S : Addr → Prop} {σ : L2.St} {H : Hp} {G : List Sl} (O : Ok B S σ H G) : KX (B.W.at S) σ H (fun e => P.ex e G) Wx := fun cls dd H' ex f x e => k.ex S σ H' G cls dd ex (O.fut f) x e
def rNext : XSp := fun G P => P.nx G
def rSeq (a b : XSp) : XSp := fun G P => a G { P with nx := fun G' => b G' P }
def rIf (c : XTp) (a b : XSp) : XSp := fun G P => c G (fun k => if k = true then a G P else b G P) (fun e => P.ex e G)
def rRet (a : XP) : XSp := fun G P => a G P.rt (fun e => P.ex e G)
def rRetN : XSp := fun _ P => P.rt .non
def rDrop (a : XP) : XSp := fun G P => a G (fun _ => P.nx G) (fun e => P.ex e G)
def rBrk : XSp := fun G P => P.bk G
def rCont : XSp := fun G P => P.ct G
/-! targets -/
abbrev XGp := D → List Sl → (List Sl → Prop) → Prop
abbrev XGsp := List D → List Sl → (List Sl → Prop) → Prop
def gN (i : Nat) : XGp := fun d G Q => Q (G.set i (.d d))
def gsN : XGsp := fun ds G Q => match ds with
  | [] => Q G
  | _ => False
def gsC (g : XGp) (r : XGsp) : XGsp := fun ds G Q => match ds with
  | d :: ds => g d G (fun G1 => r ds G1 Q)
  | _ => False
def gT (n : Nat) (g : XGsp) : XGp := fun d G Q => match d with
  | .tup ds => ds.length = n ∧ g ds G Q
  | _ => False
structure XG (B : Bs) (X : Cx) (tg : Expr) (g : XGp) : Prop where
  ex : ∃ t, PG X tg t ∧ ∀ S σ H G d v Q (k : L2.St → Hp → Prop), Ok B S σ H G → Rep (B.W.at S) H d v → g d G Q → (∀ σ' H' G', Ok B S σ' H' G' → Fut (B.W.at S) H H' → Q G' → k σ' H') → t v σ H k
structure XGs (B : Bs) (X : Cx) (tg : List Expr) (g : XGsp) : Prop where
  ex : ∃ t, PGs X tg t ∧ ∀ S σ H G ds vs Q (k : L2.St → Hp → Prop), Ok B S σ H G → Reps (B.W.at S) H ds vs → g ds G Q → (∀ σ' H' G', Ok B S σ' H' G' → Fut (B.W.at S) H H' → Q G' → k σ' H') → t vs σ H k
def rAsg (a : XP) (g : XGp) : XSp := fun G P => a G (fun d => g d G P.nx) (fun e => P.ex e G)
section
variable {B : Bs} {X : Cx} {Wx : WX} {a b c e tg : Expr} {es : List Expr} {pa pb pc : XP} {pos : Pos} {pas : XAp} {st : Stmt} {sts ats bts : List Stmt} {p p2 pp qq : XSp} {qt : XTp} {g : XGp} {gs : XGsp}
theorem xss_nil : XSs B X Wx [] rNext := ⟨tNext, pss_nil, fun S σ H G P D O q k => k.nx S σ H G O q⟩
theorem xss_cons (h1 : XS B X Wx st pp) (h2 : XSs B X Wx sts qq) : XSs B X Wx (st :: sts) (rSeq pp qq) := by
  obtain ⟨t, h1, e1⟩ := h1.ex
  obtain ⟨u, h2, e2⟩ := h2.ex
  exact ⟨tSeq t u, pss_cons h1 h2, fun S σ H G P D O q k => e1 S σ H G { P with nx := fun G' => qq G' P } { D with nx := u D } O q ⟨fun S' σ' H' G' O' q' => e2 S' σ' H' G' P D O' q' k, k.rt, k.bk, k.ct, k.ex⟩⟩
theorem xss_one (h1 : XS B X Wx st pp) : XSs B X Wx [st] pp := by
  obtain ⟨t, h1, e1⟩ := h1.ex
  exact ⟨t, pss_one h1, e1⟩
theorem xs_if (hc : XT B X Wx c qt) (ha : XSs B X Wx ats pp) (hb : XSs B X Wx bts qq) : XS B X Wx (.If c ats bts pos) (rIf qt pp qq) := by
  obtain ⟨tc, hc, ec⟩ := hc.ex
  obtain ⟨ta, ha, ea⟩ := ha.ex
  obtain ⟨tb, hb, eb⟩ := hb.ex
  refine ⟨tIfS tc ta tb, ps_if hc ha hb, fun S σ H G P D O q k => ec S σ H G _ _ _ O q (fun b H' f h => ?_) (k.kx O)⟩
  cases b with
  | true =>
    rw [if_pos rfl] at h ⊢
    exact ea S σ H' G P D (O.fut f) h k
  | false =>
    rw [if_neg Bool.false_ne_true] at h ⊢
    exact eb S σ H' G P D (O.fut f) h k
theorem xs_ret (ha : XE B X Wx a pa) : XS B X Wx (.Return (some a) pos) (rRet pa) := by
  obtain ⟨ta, ha, ea⟩ := ha.ex
  exact ⟨tRet ta, ps_ret ha, fun S σ H G P D O q k => ea S σ H G _ _ _ O q (fun v H' d f r h => k.rt S σ H' G v d (O.fut f) r h) (k.kx O)⟩
theorem xs_retN : XS B X Wx (.Return none pos) rRetN := ⟨tRetN, ps_retN, fun S σ H G P D O q k => k.rt S σ H G .non .non O mkN q⟩
theorem xs_pass : XS B X Wx (.Pass pos) rNext := ⟨tNext, ps_pass, fun S σ H G P D O q k => k.nx S σ H G O q⟩
theorem xs_break : XS B X Wx (.Break pos) rBrk := ⟨tBreak, ps_break, fun S σ H G P D O q k => k.bk S σ H G O q⟩
theorem xs_continue : XS B X Wx (.Continue pos) rCont := ⟨tCont, ps_continue, fun S σ H G P D O q k => k.ct S σ H G O q⟩
theorem xs_expr (ha : XE B X Wx a pa) (hs : swapsWith a none pos.line X.env = pure false := by rfl) : XS B X Wx (.Expr a pos) (rDrop pa) := by
  obtain ⟨ta, ha, ea⟩ := ha.ex
  exact ⟨tDrop ta, ps_expr ha hs, fun S σ H G P D O q k => ea S σ H G _ _ _ O q (fun v H' d f r h => k.nx S σ H' G (O.fut f) h) (k.kx O)⟩
theorem xs_doc {x j pos pos'} : XS B X Wx (.Expr (.Constant (.str x) j pos) pos') rNext := ⟨tNext, ps_doc, fun S σ H G P D O q k => k.nx S σ H G O q⟩
theorem xg_name (i : Nat) {x : Str} (hN : X.N.Nodup) (hi : X.N[i]? = some x := by rfl) (hx : Loc X.env.scope x := by first | exact Or.inl rfl | exact Or.inr rfl) (hf : X.fn x = true ∨ X.env.scope.names.lookup x = some .local := by first | exact .inl rfl | exact .inr rfl | assumption) : XG B X (.Name x pos) (gN i) :=
  ⟨gName i, pg_name hN hi hx hf, fun S σ H G d v Q k O r q h => h _ H _ (O.set i r) (Fut.refl O.wok) q⟩
theorem xgs_nil : XGs B X [] gsN := ⟨gNil, pgs_nil, fun S σ H G ds vs Q k O r q h => by
  cases ds with
  | nil =>
    simp only [Reps] at r
    exact ⟨r, h σ H G O (Fut.refl O.wok) q⟩
  | cons d ds => exact False.elim q⟩
theorem xgs_cons (h1 : XG B X e g) (h2 : XGs B X es gs)
    (h : (assignEach (e :: es) X.env).map (·.2) = assign e X.env :: (assignEach es X.env).map (·.2) := by rfl) : XGs B X (e :: es) (gsC g gs) := by
  obtain ⟨t, h1, e1⟩ := h1.ex
  obtain ⟨u, h2, e2⟩ := h2.ex
  refine ⟨gCons t u, by first | exact pgs_cons h1 h2 h | exact pgs_cons h1 h2, fun S σ H G ds vs Q k O r q h => ?_⟩
  cases ds with
  | nil => exact False.elim q
  | cons d ds =>
    simp only [Reps] at r
    obtain ⟨v, r', rfl, r1, r2⟩ := r
    refine ⟨v, r', rfl, e1 S σ H G d v _ _ O r1 q fun σ' H' G' O' f q' => ?_⟩
    exact e2 S σ' H' G' ds r' Q k O' (r2.fut O.wok f) q' fun σ2 H2 G2 O2 f2 q2 => h σ2 H2 G2 O2 (f.trans f2) q2
end
end Pu
namespace Pu
open PySem PySem.Spec PyProof.Rows L2
theorem Fut.free {W : Wd} {H H1 : Hp} (f : Fut W H H1) {p : Addr} (h : H1 p = none) : H p = none := by
  cases e : H p with
  | none => rfl
  | some o =>
    by_cases n : nL W.L p
    · rw [f.keep p o e n] at h
      cases h
    · exfalso
      refine n fun s l el => ⟨fun z => ?_, fun z => ?_⟩
      · obtain ⟨z0, i, n, cs, e1⟩ := f.law s l el
        rw [z, e1] at h
        cases h
      · obtain ⟨z0, i, n, cs, e1⟩ := f.law s l el
        rw [z, z0, e1] at h
        cases h
/-- a tuple or a list of n unpacked -/
def gU (n : Nat) (g : XGsp) : XGp := fun d G Q => match d with
  | .tup ds => ds.length = n ∧ g ds G Q
  | .lst ds => ds.length = n ∧ g ds G Q
  | _ => False
/-- an expression that gives a new list -/
structure XN (B : Bs) (X : Cx) (Wx : WX) (e : Expr) (p : XAp) : Prop where
  ex : ∃ t, PE X e t ∧ ∀ S σ H G Q E (k : VK), Ok B S σ H G → p G Q E → (∀ a vs H' ds, H a = none → Fut (B.W.at S) H H' → H' a = some (.lst vs) → Reps (B.W.at fun x => S x ∨ x = a) H' ds vs → Q ds → k (.ref a) H') → KX (B.W.at S) σ H E Wx → t σ H k
def rOwnSet (i : Nat) (a : XAp) : XSp := fun G P => a G (fun ds => P.nx (G.set i (.own ds))) (fun e => P.ex e G)
def rApp (i : Nat) (a : XP) : XSp := fun G P => match G[i]? with
  | some (.own ds) => a (G.set i .no) (fun d => ds.length < 100000 ∧ P.nx (G.set i (.own (ds ++ [d])))) (fun e => P.ex e G)
  | _ => False
def flat : D → Bool
  | .non => true
  | .bl _ => true
  | .int _ => true
  | .str _ => true
  | _ => false
theorem flat_any {W W' : Wd} {H H' : Hp} {d : D} {v : V} (f : flat d = true) (h : Rep W H d v) : Rep W' H' d v := by
  cases d <;> first | (cases f; done) | (simp only [Rep] at h ⊢; exact h)
/-- x.append(e), e reads x -/
def rAppF (i : Nat) (a : XP) : XSp := fun G P => match G[i]? with
  | some (.own ds) => a (G.set i (.d (.lst ds))) (fun d => flat d = true ∧ ds.length < 100000 ∧ P.nx (G.set i (.own (ds ++ [d])))) (fun _ => False)
  | _ => False
def rSetIx (i : Nat) (j a : XP) : XSp := fun G P => match G[i]? with
  | some (.own ds) => a (G.set i .no) (fun d => j (G.set i .no) (fun n => match n with
    | .int n => match ixN ds.length n with
      | some m => P.nx (G.set i (.own (ds.set m d)))
      | none => False
    | _ => False) (fun e => P.ex e G)) (fun e => P.ex e G)
  | _ => False
section
variable {B : Bs} {X : Cx} {Wx : WX} {a b c e tg : Expr} {es : List Expr} {pa pb pc : XP} {pos : Pos} {pas : XAp} {st : Stmt} {sts ats bts : List Stmt} {p p2 pp qq : XSp} {qt : XTp} {g : XGp} {gs : XGsp}
theorem xg_tup {kk n : Nat} (hc : X.calm = true) (h : XGs B X es gs) (hn : (assignEach es X.env).length = n := by rfl) (hst : (assignEach es X.env).findIdx? (·.1) = none := by rfl) : XG B X (.Tuple es kk pos) (gU n gs) := by
  obtain ⟨t, h, ev⟩ := h.ex
  have h1 := pg_tup (pos := pos) (k := kk) hc h hn hst
  have h2 := pg_unl (pos := pos) (k := kk) hc h hn hst
  refine ⟨fun v σ H Q => gTup X.K n t v σ H Q ∨ gUnl X.K n t v σ H Q, ⟨fun pins s σ H v u Q I r q => q.elim (fun q => h1.run pins s σ H v u Q I r q) (fun q => h2.run pins s σ H v u Q I r q)⟩, fun S σ H G d v Q k O r q hk => ?_⟩
  cases d <;> first | exact False.elim q | skip
  · obtain ⟨p, vs, rfl, n1, e1, z1⟩ := repL r
    exact .inr ⟨p, vs, rfl, SqL.of e1, by rw [z1.len]; exact q.1, ev S σ H G _ vs Q k O z1 q.2 hk⟩
  · obtain ⟨p, vs, rfl, n1, e1, z1⟩ := repT r
    exact .inl ⟨p, vs, rfl, (.inl e1), by rw [z1.len]; exact q.1, ev S σ H G _ vs Q k O z1 q.2 hk⟩
theorem xs_asg (ha : XE B X Wx a pa) (hg : XG B X tg g) (hs : swapsWithSole [tg] a pos.line X.env = pure false := by rfl) (hw : swappedStores [tg] a X.env = pure none := by rfl)
    (h1 : (assignEach [tg] X.env).map (·.2) = [assign tg X.env] := by rfl) : XS B X Wx (.Assign [tg] a pos) (rAsg pa g) := by
  obtain ⟨ta, ha, ea⟩ := ha.ex
  obtain ⟨t, hg, eg⟩ := hg.ex
  refine ⟨tAsg ta t, ps_asg ha hg hs hw h1, fun S σ H G P D O q k => ea S σ H G _ _ _ O q (fun v H' d f r h => ?_) (k.kx O)⟩
  exact eg S σ H' G d v _ _ (O.fut f) r h fun σ2 H2 G2 O2 f2 q2 => k.nx S σ2 H2 G2 O2 q2
def rSet (i : Nat) (a : XP) : XSp := fun G P => a G (fun d => P.nx (G.set i (.d d))) (fun e => P.ex e G)
theorem xs_set (i : Nat) {x : Str} {pos' : Pos} (ha : XE B X Wx a pa) (hN : X.N.Nodup) (hi : X.N[i]? = some x := by rfl) (hx : Loc X.env.scope x := by first | exact Or.inl rfl | exact Or.inr rfl) (hs : swapsWith a (some (.Name x pos')) pos.line X.env = pure false := by rfl)
    (hf : X.fn x = true ∨ X.env.scope.names.lookup x = some .local := by first | exact .inl rfl | exact .inr rfl | assumption) : XS B X Wx (.Assign [.Name x pos'] a pos) (rSet i pa) := by
  obtain ⟨ta, ha, ea⟩ := ha.ex
  exact ⟨_, ps_set hN hi hx ha hs hf, fun S σ H G P D O q k => ea S σ H G _ _ _ O q (fun v H' d f r h => k.nx S _ H' _ ((O.fut f).set i r) h) (k.kx O)⟩
theorem xs_own (i : Nat) {x : Str} {pos' : Pos} (ha : XN B X Wx a pas) (hN : X.N.Nodup) (hi : X.N[i]? = some x := by rfl) (hx : Loc X.env.scope x := by first | exact Or.inl rfl | exact Or.inr rfl) (hs : swapsWith a (some (.Name x pos')) pos.line X.env = pure false := by rfl)
    (hf : X.fn x = true ∨ X.env.scope.names.lookup x = some .local := by first | exact .inl rfl | exact .inr rfl | assumption) : XS B X Wx (.Assign [.Name x pos'] a pos) (rOwnSet i pas) := by
  obtain ⟨ta, ha, ea⟩ := ha.ex
  refine ⟨_, ps_set hN hi hx ha hs hf, fun S σ H G P D O q k => ea S σ H G _ _ _ O q (fun a vs H' ds hn f e r h => ?_) (k.kx O)⟩
  have nl : nL B.W.L a := O.wok.nl (O.wok.new hn)
  have na : ¬ B.W.S a := fun z => O.wok.new hn (O.sub a z)
  exact k.nx _ _ H' _ (O.keep i (g := .own ds) hn f.keep f.law ⟨_, e⟩ nl ⟨a, vs, rfl, .inr rfl, na, nl, e, r⟩) h
theorem xn_new {W : Wd} {H H1 : Hp} {p : Addr} {ds : List D} {vs : List V} (w : WOk W H) (f : Fut W H H1) (r : Reps W H1 ds vs) (hp : H1 p = none) : Fut W H (upd H1 p (.lst vs)) ∧ Reps (W.at fun x => W.S x ∨ x = p) (upd H1 p (.lst vs)) ds vs := by
  have g := fut_new (o := .lst vs) (w.fut f) hp
  refine ⟨f.trans g, Reps.mono (W := W) (fun a o n e => ?_) ds vs r⟩
  have : a ≠ p := fun z => by rw [z, hp] at e; cases e
  exact ⟨by rw [upd_ne this]; exact e, fun z => z.elim n this⟩
def rSz (a : XAp) : XAp := fun G Q E => a G (fun ds => ds.length ≤ 1000 ∧ Q ds) E
theorem xn_lst (h : XA B X Wx es pas) : XN B X Wx (.List es pos) (rSz pas) := by
  obtain ⟨t, h, ev⟩ := h.ex
  refine ⟨tLst t, pe_lst h, fun S σ H G Q E k O q hk kx => ev S σ H G _ E _ O q (fun vs H1 ds f r h => ?_) kx⟩
  refine ⟨Nat.le_of_lt (small1000 (by rw [r.len]; exact h.1)), fun p hp => ?_⟩
  obtain ⟨g, r'⟩ := xn_new O.wok f r hp
  exact hk p vs _ ds (f.free hp) g upd_same r' h.2
theorem xn_list {x : Str} {p : Pos} (hm : X.mg x = none) (hv : bootBuiltins x = some (.type "list")) (ha : XE B X Wx a pa) (hg : Gl X x := by rfl) (hn : x ≠ "__name__" := by decide) (hdb : (x == ("__debug__" : Str)) = false := by decide)
    (he : starEach [a] X.env = (false, eval a X.env) :: starEach [] X.env := by rfl) (hpl : (backTo pos (starEach [] X.env)).any (·.1) = false := by rfl) :
    XN B X Wx (.Call (.Name x p) [a] [] pos) (fun G Q E => pa G (fun d => match d with
      | .lst ds => Q ds
      | .tup ds => Q ds
      | _ => False) E) := by
  obtain ⟨ta, ha, ea⟩ := ha.ex
  refine ⟨_, pe_callTy call_list_of hg hm hv (pa_cons ha pa_nil he) hn hdb he hpl, fun S σ H G Q E k O q hk kx => ea S σ H G _ E _ O q (fun v H1 d f r h => ?_) kx⟩
  cases d <;> first | exact False.elim h | skip
  · obtain ⟨p, vs, rfl, n1, e1, z1⟩ := repL r
    refine ⟨p, vs, rfl, .inl (SqL.of e1), fun q hq => ?_⟩
    obtain ⟨g, r'⟩ := xn_new O.wok f z1 hq
    exact hk q vs _ _ (f.free hq) g upd_same r' h
  · obtain ⟨p, vs, rfl, n1, e1, z1⟩ := repT r
    refine ⟨p, vs, rfl, .inr ((.inl e1)), fun q hq => ?_⟩
    obtain ⟨g, r'⟩ := xn_new O.wok f z1 hq
    exact hk q vs _ _ (f.free hq) g upd_same r' h
theorem xn_cat (ha : XE B X Wx a pa) (hb : XE B X Wx b pb) : XN B X Wx (.BinOp a .Add b pos) (fun G Q E => pa G (fun x => pb G (fun y => match x, y with
      | .lst xs, .lst ys => xs.length + ys.length ≤ 100000 ∧ Q (xs ++ ys)
      | _, _ => False) E) E) := by
  obtain ⟨ta, ha, ea⟩ := ha.ex
  obtain ⟨tb, hb, eb⟩ := hb.ex
  refine ⟨_, pe_op op_cat ha hb, fun S σ H G Q E k O q hk kx => ev2 ea eb O q kx fun x y H' dx dy f O' r1 r2 h => ?_⟩
  cases dx <;> first | exact False.elim h | skip
  cases dy <;> first | exact False.elim h | skip
  obtain ⟨p, vs, rfl, n1, e1, z1⟩ := repL r1
  obtain ⟨p', ws, rfl, n2, e2, z2⟩ := repL r2
  refine ⟨p, p', vs, ws, rfl, rfl, e1, e2, le_line (by rw [z1.len, z2.len]; exact h.1), fun q hq => ?_⟩
  obtain ⟨g, r'⟩ := xn_new O.wok f (z1.app z2) hq
  exact hk q _ _ _ (f.free hq) g upd_same r' h.2
/-- x[j] = e, x an own list -/
theorem xs_setix (i : Nat) {x : Str} {px p3 : Pos} (ha : XE B X Wx e pa) (hb : XE B X Wx b pb) (hN : X.N[i]? = some x := by rfl) (hv : Vis X.env.scope x := by first | exact Or.inl rfl | exact Or.inr (Or.inl rfl) | exact Or.inr (Or.inr rfl)) (hd : (x == ("__debug__" : Str)) = false := by decide)
    (hcd : (x == ("__classdict__" : Str)) = false := by decide) (hps : ∀ {to ti : TE}, PE X (.Name x px) to → PE X b ti → PG X (.Subscript (.Name x px) b p3) (gSub to ti rSetL) := by exact fun h1 h2 => pg_sub h1 h2 set_list)
    (hs : swapsWithSole [.Subscript (.Name x px) b p3] e pos.line X.env = pure false := by rfl) (hw : swappedStores [.Subscript (.Name x px) b p3] e X.env = pure none := by rfl)
    (h1 : (assignEach [.Subscript (.Name x px) b p3] X.env).map (·.2) = [assign (.Subscript (.Name x px) b p3) X.env] := by rfl) : XS B X Wx (.Assign [.Subscript (.Name x px) b p3] e pos) (rSetIx i pb pa) := by
  obtain ⟨ta, ha, ea⟩ := ha.ex
  obtain ⟨tb, hb, eb⟩ := hb.ex
  refine ⟨_, ps_asg ha (hps (pe_var hN hv hd hcd) hb) hs hw h1, fun S σ H G P D O q k => ?_⟩
  unfold rSetIx at q
  cases hg : G[i]? with
  | none => rw [hg] at q; exact q.elim
  | some g =>
    rw [hg] at q
    cases g <;> first | exact False.elim q | skip
    rename_i ds
    obtain ⟨o, eo, a, vs, rfl, s1, s2, s3, e1, rr⟩ := O.get hg
    refine ea S σ H (G.set i .no) _ _ _ (O.forget i) q (fun v H' d f r h => ?_) (fun cls dd H' ex f x e => k.ex S σ H' G cls dd ex (O.fut f) x e)
    refine ⟨_, eo, ?_⟩
    refine eb S σ H' (G.set i .no) _ _ _ ((O.fut f).forget i) h (fun w H2 d2 f2 r2 h2 => ?_) (fun cls dd H2 ex f2 x e => k.ex S σ H2 G cls dd ex ((O.fut f).fut f2) x e)
    cases d2 <;> first | exact False.elim h2 | skip
    rename_i n
    have f12 := f.trans f2
    have e1' := f12.keep a _ e1 s3
    have h2' : (match ixN ds.length n with | some m => P.nx (G.set i (.own (ds.set m d))) | none => False) := h2
    cases hx : ixN ds.length n with
    | none => rw [hx] at h2'; exact h2'.elim
    | some m =>
      rw [hx] at h2'
      refine ⟨a, vs, n, m, rfl, repI r2, e1', by rw [rr.len]; exact hx, ?_⟩
      have O' := O.fut f12
      refine k.nx S σ _ _ (O'.turn (g' := .own (ds.set m d)) hg rfl eo ⟨a, vs.set m v, rfl, s1, s2, s3, upd_same, ?_⟩ rfl) h2'
      have rr' := Reps.set (r.fut (O.wok.fut f) f2) m (rr.fut O.wok f12)
      exact Reps.mono (W := B.W.at S) (S := S) (fun b u n z => ⟨by rw [upd_ne (show b ≠ a from fun y => n (by rw [y]; exact s1))]; exact z, n⟩) _ _ rr'
/-- x.append(e) -/
theorem xs_app (i : Nat) {x : Str} {px apos cpos : Pos} (ha : XE B X Wx e pa) (hN : X.N[i]? = some x := by rfl) (hv : Vis X.env.scope x := by first | exact Or.inl rfl | exact Or.inr (Or.inl rfl) | exact Or.inr (Or.inr rfl)) (hd : (x == ("__debug__" : Str)) = false := by decide)
    (hcd : (x == ("__classdict__" : Str)) = false := by decide) (hs0 : swapsWith (.Call (.Attribute (.Name x px) "append" apos) [e] [] cpos) none pos.line X.env = pure false := by rfl)
    (hbase : attributeBase (.Name x px) "append" X.env (eval (.Name x px) X.env) = eval (.Name x px) X.env := by rfl)
    (hfew : ((backTo cpos (starEach [e] X.env)).all (fun x => !x.1) && (backToKw cpos (keywordEach [] X.env)).all (fun x => x.1.isSome)
      && decide ([e].length + ([] : List Keyword).length + (if ([] : List Keyword).isEmpty then 0 else 1) < 30)) = true := by rfl)
    (hline : (apos.endLine == cpos.line) = true := by rfl) (hs : starEach [e] X.env = (false, eval e X.env) :: starEach [] X.env := by rfl) (hplain : (backTo cpos (starEach [] X.env)).any (·.1) = false := by rfl) :
    XS B X Wx (.Expr (.Call (.Attribute (.Name x px) "append" apos) [e] [] cpos) pos) (rApp i pa) ∧ XS B X Wx (.Expr (.Call (.Attribute (.Name x px) "append" apos) [e] [] cpos) pos) (rAppF i pa) := by
  obtain ⟨ta, ha, ea⟩ := ha.ex
  have hp := ps_expr (pe_bm PySem.F.plainAttrs_list PySem.F.slot_list_append PySem.F.type_list_append mt_append (pe_var hN hv hd hcd) (pa_cons ha pa_nil hs) hbase hfew hline hs hplain) hs0
  refine ⟨⟨_, hp, fun S σ H G P D O q k => ?_⟩, ⟨_, hp, fun S σ H G P D O q k => ?_⟩⟩
  · unfold rApp at q
    cases hg : G[i]? with
    | none => rw [hg] at q; exact q.elim
    | some g =>
      rw [hg] at q
      cases g <;> first | exact False.elim q | skip
      rename_i ds
      obtain ⟨o, eo, a, vs, rfl, s1, s2, s3, e1, rr⟩ := O.get hg
      refine ⟨_, eo, .inl ⟨rfl, vs, SqL.of e1⟩, ?_⟩
      refine ea S σ H (G.set i .no) _ _ _ (O.forget i) q (fun v H' d f r h => ?_) (fun cls dd H' ex f x e => k.ex S σ H' G cls dd ex (O.fut f) x e)
      have e1' := f.keep a _ e1 s3
      refine ⟨a, vs, v, rfl, rfl, e1', Nat.lt_of_lt_of_le (by rw [rr.len]; exact h.1) (le_line (Nat.le_refl _)), ?_⟩
      have O' := O.fut f
      refine k.nx S σ _ _ (O'.turn (g' := .own (ds ++ [d])) hg rfl eo ⟨a, vs ++ [v], rfl, s1, s2, s3, upd_same, ?_⟩ rfl) h.2
      have rr' := (rr.fut O.wok f).app (Reps.cons r Reps.nil)
      refine Reps.mono (W := B.W.at S) (S := S) (fun b u n z => ⟨by rw [upd_ne (show b ≠ a from fun y => n (by rw [y]; exact s1))]; exact z, n⟩) _ _ rr'
  · unfold rAppF at q
    cases hg : G[i]? with
    | none => rw [hg] at q; exact q.elim
    | some g =>
      rw [hg] at q
      cases g <;> first | exact False.elim q | skip
      rename_i ds
      obtain ⟨o, eo, a, vs, rfl, s1, s2, s3, e1, rr⟩ := O.get hg
      refine ⟨_, eo, .inl ⟨rfl, vs, SqL.of e1⟩, ?_⟩
      obtain ⟨a', sa', O2⟩ := O.thaw hg
      refine ea _ σ H (G.set i (.d (.lst ds))) _ _ _ O2 q (fun v H' d f r h => ?_) (fun cls dd H' ex f x e => e.elim)
      have f' : Fut (B.W.at S) H H' := ⟨f.keep, f.law⟩
      have e1' := f.keep a _ e1 s3
      refine ⟨a, vs, v, rfl, rfl, e1', Nat.lt_of_lt_of_le (by rw [rr.len]; exact h.2.1) (le_line (Nat.le_refl _)), ?_⟩
      have O' := O.fut f'
      refine k.nx S σ _ _ (O'.turn (g' := .own (ds ++ [d])) hg rfl eo ⟨a, vs ++ [v], rfl, s1, s2, s3, upd_same, ?_⟩ rfl) h.2.2
      have rr' := (rr.fut O.wok f').app (Reps.cons (flat_any h.1 r) Reps.nil)
      refine Reps.mono (W := B.W.at S) (S := S) (fun b u n z => ⟨by rw [upd_ne (show b ≠ a from fun y => n (by rw [y]; exact s1))]; exact z, n⟩) _ _ rr'
end
end Pu
namespace Pu
open PySem PySem.Spec PyProof.Rows L2
/-! ## a new base: what stands here stays -/
noncomputable def Bs.re (B : Bs) (S : Addr → Prop) (H : Hp) : Bs := { B with H0 := fun a => @ite _ (S a ∧ ¬ B.W.S a) (Classical.propDecidable _) none (H a) }
def Pr (S : Addr → Prop) (H : Hp) (S' : Addr → Prop) (H' : Hp) : Prop := ∀ a o, ¬ S a → H a = some o → H' a = some o ∧ ¬ S' a
section
variable {B : Bs} {S S' : Addr → Prop} {σ σ' : L2.St} {H H' : Hp} {G G' : List Sl}
theorem Bs.re_in {a : Addr} (h : ¬ (S a ∧ ¬ B.W.S a)) : (B.re S H).H0 a = H a := if_neg h
theorem Bs.re_out {a : Addr} (h : S a ∧ ¬ B.W.S a) : (B.re S H).H0 a = none := if_pos h
theorem Ok.re (O : Ok B S σ H G) : Ok (B.re S H) S σ H G where
  wok := O.wok
  ext := fun a o e n => by
    by_cases h : S a ∧ ¬ B.W.S a
    · rw [Bs.re_out h] at e; cases e
    · rw [Bs.re_in h] at e; exact e
  sub := O.sub
  new := fun a h => by
    by_cases hb : B.W.S a
    · exact .inl hb
    · exact .inr (Bs.re_out ⟨h, hb⟩)
  len := O.len
  lw := O.lw
  sl := fun i g o e1 e2 => by
    have := O.sl i g o e1 e2
    cases g <;> exact this
  inj := O.inj
theorem Ok.pr (O : Ok B S σ H G) (O' : Ok (B.re S H) S' σ' H' G') : Pr S H S' H' := fun a o n e => by
  have hin : (B.re S H).H0 a = some o := by rw [Bs.re_in fun z => n z.1]; exact e
  refine ⟨O'.ext a o hin (O.wok.nl n), fun z => ?_⟩
  rcases O'.new a z with w | w
  · exact n (O.sub a w)
  · rw [hin] at w; cases w
theorem Ok.un (O : Ok B S σ H G) (O' : Ok (B.re S H) S' σ' H' G') : Ok B S' σ' H' G' where
  wok := O'.wok
  ext := fun a o e n => by
    refine O'.ext a o ?_ n
    rw [Bs.re_in]
    · exact O.ext a o e n
    · rintro ⟨h1, h2⟩
      rcases O.new a h1 with w | w
      · exact h2 w
      · rw [e] at w; cases w
  sub := O'.sub
  new := fun a h => by
    by_cases hb : B.W.S a
    · exact .inl hb
    · refine .inr ?_
      cases e : B.H0 a with
      | none => rfl
      | some o =>
        exfalso
        rcases O'.new a h with w | w
        · exact hb w
        · have n : ¬ (S a ∧ ¬ B.W.S a) := by
            rintro ⟨h1, h2⟩
            rcases O.new a h1 with w | w
            · exact h2 w
            · rw [e] at w; cases w
          rw [Bs.re_in n] at w
          have nl : nL B.W.L a := fun s l el => ⟨fun z => hb (z ▸ (O.lw s l el).1), fun z => hb (z ▸ (O.lw s l el).2)⟩
          rw [O.ext a o e nl] at w
          cases w
  len := O'.len
  lw := O.lw
  sl := fun i g o e1 e2 => by
    have := O'.sl i g o e1 e2
    cases g <;> exact this
  inj := O'.inj
end
/-! ## what is walked -/
def Wk (W : Wd) (S : Addr → Prop) (H : Hp) (J : It) (ds : List D) : Prop := ∀ (S' : Addr → Prop) (H' : Hp), Pr S H S' H' → WOk (W.at S') H' → ∀ i, (∀ d, ds[i]? = some d → J.go i H' ∧ ∀ x H2, J.yld i H' x H2 → Fut (W.at S') H' H2 ∧ Rep (W.at S') H2 d x) ∧ (i = ds.length → J.stop i H')
structure XI (B : Bs) (X : Cx) (Wx : WX) (tg iter : Expr) (q : XAp) : Prop where
  ex : ∃ wi, PI X tg iter wi ∧ ∀ S σ H G Q E (R : It → Hp → Prop), Ok B S σ H G → q G Q E → (∀ J H1 ds, Fut (B.W.at S) H H1 → Wk B.W S H1 J ds → Q ds → R J H1) → KX (B.W.at S) σ H E Wx → wi σ H R
/-- the items of a list or a tuple -/
def rItems (a : XP) : XAp := fun G Q E => a G (fun d => match d with
  | .lst ds => Q ds
  | .tup ds => Q ds
  | _ => False) E
def rRange (as : XAp) : XAp := fun G Q E => as G (fun xs => match xs with
  | [.int j] => j < 4611686018427387904 ∧ -4611686018427387904 ≤ j ∧ Q ((List.range j.toNat).map fun (i : Nat) => .int ((i : Nat) : Int))
  | _ => False) E
section
variable {B : Bs} {X : Cx} {Wx : WX} {a b c e tg iter : Expr} {es : List Expr} {pa pb pc : XP} {pos : Pos} {pas q : XAp} {st : Stmt} {sts ats bts body : List Stmt} {pp qq : XSp} {qt : XTp} {g : XGp} {gs : XGsp}
theorem wk_list {W : Wd} {K : PySem.W.Frag} {S : Addr → Prop} {H : Hp} {p : Addr} {vs : List V} {ds : List D} (n : ¬ S p) (e : H p = some (.lst vs)) (r : Reps (W.at S) H ds vs) : Wk W S H (Itl K p) ds := by
  intro S' H' pr w' i
  obtain ⟨e', n'⟩ := pr p _ n e
  have r' : Reps (W.at S') H' ds vs := Reps.mono (W := W.at S) (S := S') pr ds vs r
  refine ⟨fun d ed => ?_, fun hi => ⟨vs, SqL.of e', by rw [r.len, hi]; exact Nat.le_refl _⟩⟩
  obtain ⟨v, ev, rv⟩ := r'.get ed
  refine ⟨⟨vs, v, SqL.of e', ev⟩, fun x H2 ⟨h1, h2⟩ => ?_⟩
  subst h1
  have := h2 vs (SqL.of e')
  rw [ev] at this
  cases this
  exact ⟨Fut.refl w', rv⟩
theorem wk_tup {W : Wd} {K : PySem.W.Frag} {S : Addr → Prop} {H : Hp} {p : Addr} {vs : List V} {ds : List D} (n : ¬ S p) (e : Rd H p (.tup vs)) (r : Reps (W.at S) H ds vs) : Wk W S H (Itt K p) ds := by
  intro S' H' pr w' i
  have e' : Rd H' p (.tup vs) := e.imp (fun e => (pr p _ n e).1) (fun ⟨o, e⟩ => ⟨o, (pr p _ n e).1⟩)
  have r' : Reps (W.at S') H' ds vs := Reps.mono (W := W.at S) (S := S') pr ds vs r
  refine ⟨fun d ed => ?_, fun hi => ⟨vs, (.inl e'), by rw [r.len, hi]; exact Nat.le_refl _⟩⟩
  obtain ⟨v, ev, rv⟩ := r'.get ed
  refine ⟨⟨vs, v, (.inl e'), ev⟩, fun x H2 ⟨h1, h2⟩ => ?_⟩
  subst h1
  have := h2 vs ((.inl e'))
  rw [ev] at this
  cases this
  exact ⟨Fut.refl w', rv⟩
theorem PI.or {wi wj : TI} (h : PI X tg iter wi) (h' : PI X tg iter wj) : PI X tg iter (fun σ H R => wi σ H R ∨ wj σ H R) := ⟨fun pins s σ H R I q => q.elim (fun q => h.run pins s σ H R I q) (fun q => h'.run pins s σ H R I q)⟩
theorem xi_seq (ha : XE B X Wx a pa) : XI B X Wx tg a (rItems pa) := by
  obtain ⟨ta, ha, ea⟩ := ha.ex
  have hi : PI X tg a (fun σ H R => ta σ H fun x H1 => (∃ p, x = .ref p ∧ (∃ xs, SqL X.K H1 p xs) ∧ R (Itl X.K p) H1) ∨ (∃ p, x = .ref p ∧ (∃ xs, SqT X.K H1 p xs) ∧ R (Itt X.K p) H1)) := by
    refine ⟨fun pins s σ H R I h => ?_⟩
    refine thn (ha.run pins s σ H _ I h) fun v s1 ⟨x, H1, I1, r1, q1⟩ => ?_
    have hx : PE X a (fun σ' H' Q => σ' = σ ∧ H' = H ∧ ta σ' H' Q) := ⟨fun pins s σ H Q I h => ha.run pins s σ H Q I h.2.2⟩
    rcases q1 with ⟨p, rfl, ⟨xs, hq⟩, q⟩ | ⟨p, rfl, ⟨xs, hq⟩, q⟩
    · cases r1
      obtain ⟨its, rv, pl, hz⟩ := I1.list hq
      refine wpAny_pyIter_list pl.isList ?_
      refine ⟨s1.heap.objs.size, [s1.heap.objs.size], _, _, H1, rfl, I1.kept (t' := s1.toks) fun b o e => Heap.get?_push_of_some _ e, turn_list p _, ⟨_, Heap.get?_push_size _ rfl, rfl, rfl⟩, fun b hb => ?_, q⟩
      have e : b = s1.heap.objs.size := by simpa using hb
      subst e
      exact I1.fpOk (Nat.le_refl _) (I1.hok.fresh (Nat.le_refl _))
    · cases r1
      obtain ⟨its, rv, pl, hz⟩ := I1.tuple hq
      refine wpAny_pyIter_tuple (show s1.heap.IsTuple p its.toArray from pl) ?_
      refine ⟨s1.heap.objs.size, [s1.heap.objs.size], _, _, H1, rfl, I1.kept (t' := s1.toks) fun b o e => Heap.get?_push_of_some _ e, turn_tuple p _, ⟨_, Heap.get?_push_size _ rfl, rfl, rfl⟩, fun b hb => ?_, q⟩
      have e : b = s1.heap.objs.size := by simpa using hb
      subst e
      exact I1.fpOk (Nat.le_refl _) (I1.hok.fresh (Nat.le_refl _))
  refine ⟨_, hi, fun S σ H G Q E R O q hR kx => ea S σ H G _ E _ O q (fun v H1 d f r h => ?_) kx⟩
  cases d <;> first | exact False.elim h | skip
  · obtain ⟨p, vs, rfl, n1, e1, z1⟩ := repL r
    exact .inl ⟨p, rfl, ⟨vs, SqL.of e1⟩, hR _ H1 _ f (wk_list n1 e1 z1) h⟩
  · obtain ⟨p, vs, rfl, n1, e1, z1⟩ := repT r
    exact .inr ⟨p, rfl, ⟨vs, (.inl e1)⟩, hR _ H1 _ f (wk_tup n1 e1 z1) h⟩
theorem xi_range {p : Pos} (hm : X.mg "range" = none) (ha : XA B X Wx [a] pas) (hg : Gl X "range" := by rfl) (hs : starEach [a] X.env = [(false, eval a X.env)] := by rfl) : XI B X Wx tg (.Call (.Name "range" p) [a] [] pos) (rRange pas) := by
  obtain ⟨ta, ha, ea⟩ := ha.ex
  refine ⟨_, pi_range1 hg hm ha hs, fun S σ H G Q E R O q hR kx => ea S σ H G _ E _ O q (fun vs H1 ds f r h => ?_) kx⟩
  cases ds with
  | nil => exact False.elim h
  | cons d ds =>
    cases ds with
    | cons d2 ds => cases d <;> exact False.elim h
    | nil =>
      obtain ⟨v, rfl, r9⟩ := reps1 r
      cases d <;> first | exact False.elim h | skip
      rename_i j
      rw [repI r9]
      have h' : j < 4611686018427387904 ∧ -4611686018427387904 ≤ j ∧ Q ((List.range j.toNat).map fun (i : Nat) => .int ((i : Nat) : Int)) := h
      refine ⟨j, rfl, by omega, by omega, hR _ H1 _ f ?_ h'.2.2⟩
      intro S' H' pr w' i
      refine ⟨fun d ed => ?_, fun hi => ?_⟩
      · rw [List.getElem?_map] at ed
        cases hr : (List.range j.toNat)[i]? with
        | none => rw [hr] at ed; cases ed
        | some k =>
          rw [hr] at ed
          obtain ⟨h1, h2⟩ := List.getElem?_eq_some_iff.mp hr
          rw [List.length_range] at h1
          rw [List.getElem_range] at h2
          subst h2
          cases ed
          refine ⟨h1, fun x H2 ⟨e1, e2⟩ => ?_⟩
          subst e1 e2
          refine ⟨Fut.refl w', ?_⟩
          simp only [Rep]
          simp
      · rw [List.length_map, List.length_range] at hi
        show j.toNat ≤ i
        omega
/-! ## for -/
def forP (g : XGp) (body : XSp) : List D → XSp
  | [], G, P => P.nx G
  | d :: ds, G, P => g d G (fun G1 => body G1 { P with nx := fun G2 => forP g body ds G2 P, ct := fun G2 => forP g body ds G2 P, bk := P.nx })
def rFor (q : XAp) (g : XGp) (body : XSp) : XSp := fun G P => q G (fun ds => forP g body ds G P) (fun e => P.ex e G)
theorem xs_for (hp : PassesOwn (model X.prog X.w) X.A X.env X.xe) (hi : XI B X Wx tg iter q) (hg : ∀ H0, XG { B with H0 := H0 } X tg g) (hb : ∀ H0, XSs { B with H0 := H0 } X Wx body pp) (hc : X.calm = true := by rfl)
    (hs : ∀ x, foldedSetIterable iter X.env x = pure x := by intro _; rfl) : XS B X Wx (.For tg iter body [] pos) (rFor q g pp) := by
  obtain ⟨wi, hi, ei⟩ := hi.ex
  have key : ∃ t u, PG X tg t ∧ PSs X body u ∧ (∀ H0 S σ H G d v Q (k : L2.St → Hp → Prop), Ok { B with H0 := H0 } S σ H G → Rep (B.W.at S) H d v → g d G Q → (∀ σ' H' G', Ok { B with H0 := H0 } S σ' H' G' → Fut (B.W.at S) H H' → Q G' → k σ' H') → t v σ H k) ∧ ∀ H0, EvS { B with H0 := H0 } Wx u pp := by
    let T : TG := fun v σ H k => ∃ H0 S G d Q, Ok { B with H0 := H0 } S σ H G ∧ Rep (B.W.at S) H d v ∧ g d G Q ∧ ∀ σ' H' G', Ok { B with H0 := H0 } S σ' H' G' → Fut (B.W.at S) H H' → Q G' → k σ' H'
    let U : TS := fun D σ H => ∃ H0 S G P, Ok { B with H0 := H0 } S σ H G ∧ pp G P ∧ KP { B with H0 := H0 } Wx P D
    refine ⟨T, U, ⟨fun pins s σ H v u Q I r ⟨H0, S, G, d, Q', O, rr, q, k⟩ => ?_⟩, ⟨fun pins s σ H D I ⟨H0, S, G, P, O, q, k⟩ => ?_⟩, fun H0 S σ H G d v Q k O r q h => ⟨H0, S, G, d, Q, O, r, q, h⟩, fun H0 S σ H G P D O q k => ⟨H0, S, G, P, O, q, k⟩⟩
    · obtain ⟨t, h1, h2⟩ := (hg H0).ex
      exact h1.run pins s σ H v u Q I r (h2 S σ H G d v Q' Q O rr q k)
    · obtain ⟨t, h1, h2⟩ := (hb H0).ex
      exact h1.run pins s σ H D I (h2 S σ H G P D O q k)
  obtain ⟨t, u, hg', hb', eg, eb⟩ := key
  refine ⟨_, ps_for hp hc hi hg' hb' hs, fun S σ H G P D O q k => ei S σ H G _ _ _ O q (fun J H1 ds f wk h => ?_) (k.kx O)⟩
  have O1 := O.fut f
  let B' := B.re S H1
  refine ⟨fun i m σ' H' => ∃ S' G', Ok B' S' σ' H' G' ∧ m = ds.length - i ∧ i ≤ ds.length ∧ forP g pp (ds.drop i) G' P, ⟨_, S, G, O1.re, rfl, Nat.zero_le _, h⟩, ?_⟩
  rintro i m σ' H' ⟨S', G', O', rfl, hi, hq⟩
  have pr := O1.pr O'
  have wk' := wk S' H' pr O'.wok i
  have oldP : ∀ {S2 : Addr → Prop} {σ2 : L2.St} {H2 : Hp} {G2 : List Sl}, Ok B' S2 σ2 H2 G2 → Ok B S2 σ2 H2 G2 := fun O2 => O1.un O2
  by_cases hlt : i < ds.length
  · refine .inr ?_
    have hdr : ds.drop i = ds[i] :: ds.drop (i + 1) := by rw [List.drop_eq_getElem_cons hlt]
    rw [hdr] at hq
    obtain ⟨go, yl⟩ := wk'.1 ds[i] (List.getElem?_eq_getElem hlt)
    refine ⟨go, fun σ2 H2 => ∃ S2 G2, Ok B' S2 σ2 H2 G2 ∧ forP g pp (ds.drop (i + 1)) G2 P, fun σ2 H2 ⟨S2, G2, O2, q2⟩ => ⟨ds.length - (i + 1), by omega, S2, G2, O2, rfl, hlt, q2⟩, fun x H2 hy => ?_⟩
    obtain ⟨f2, r2⟩ := yl x H2 hy
    refine eg B'.H0 S' σ' H2 G' ds[i] x _ _ (O'.fut f2) r2 hq fun σ3 H3 G3 O3 f3 q3 => ?_
    refine eb B'.H0 S' σ3 H3 G3 _ _ O3 q3 ⟨fun S4 σ4 H4 G4 O4 q4 => ⟨S4, G4, O4, q4⟩, fun S4 σ4 H4 G4 v d O4 r4 q4 => k.rt S4 σ4 H4 G4 v d (oldP O4) r4 q4, fun S4 σ4 H4 G4 O4 q4 => k.nx S4 σ4 H4 G4 (oldP O4) q4, fun S4 σ4 H4 G4 O4 q4 => ⟨S4, G4, O4, q4⟩, fun S4 σ4 H4 G4 cls dd ex O4 x4 q4 => k.ex S4 σ4 H4 G4 cls dd ex (oldP O4) x4 q4⟩
  · have e : i = ds.length := by omega
    have hdr : ds.drop i = [] := by rw [e, List.drop_length]
    rw [hdr] at hq
    exact .inl ⟨wk'.2 e, k.nx S' σ' H' G' (oldP O') hq⟩
/-! ## while -/
def rWhile (c : XTp) (body : XSp) : XSp := fun G P => ∃ Iv : Nat → List Sl → Prop, (∃ m, Iv m G) ∧ ∀ m G, Iv m G → c G (fun k => if k = true then body G { P with nx := fun G' => ∃ m', m' < m ∧ Iv m' G', ct := fun G' => ∃ m', m' < m ∧ Iv m' G', bk := P.nx } else P.nx G) (fun e => P.ex e G)
theorem xs_while (hp : PassesOwn (model X.prog X.w) X.A X.env X.xe) (hc : XT B X Wx c qt) (hb : XSs B X Wx body pp) : XS B X Wx (.While c body [] pos) (rWhile qt pp) := by
  obtain ⟨tc, hc, ec⟩ := hc.ex
  obtain ⟨tb, hb, eb⟩ := hb.ex
  refine ⟨_, ps_while hp hc hb, fun S σ H G P D O ⟨Iv, ⟨m0, i0⟩, turn⟩ k => ?_⟩
  refine ⟨fun m σ H => ∃ S G, Ok B S σ H G ∧ Iv m G, ⟨m0, S, G, O, i0⟩, fun m σ' H' ⟨S', G', O', i'⟩ => ?_⟩
  refine ec S' σ' H' G' _ _ _ O' (turn m G' i') (fun b H2 f h => ?_) (k.kx O')
  cases b with
  | true =>
    rw [if_pos rfl] at h ⊢
    refine ⟨fun σ3 H3 => ∃ m', m' < m ∧ ∃ S G, Ok B S σ3 H3 G ∧ Iv m' G, fun σ3 H3 h => h, ?_⟩
    refine eb S' σ' H2 G' _ _ (O'.fut f) h ⟨fun S4 σ4 H4 G4 O4 ⟨m', h1, h2⟩ => ⟨m', h1, S4, G4, O4, h2⟩, k.rt, k.nx, fun S4 σ4 H4 G4 O4 ⟨m', h1, h2⟩ => ⟨m', h1, S4, G4, O4, h2⟩, k.ex⟩
  | false =>
    rw [if_neg Bool.false_ne_true] at h ⊢
    exact k.nx S' σ' H2 G' (O'.fut f) h
/-! ## self.f = e -/
def rPut (m : List (Nat × Nat)) (i : Nat) (a : XP) : XSp := fun G P => match G[i]? with
  | some (.obj c ds) => m.lookup c = some ds.length ∧ a G (fun d => P.nx (G.set i (.obj c (ds ++ [d])))) (fun e => P.ex e G)
  | _ => False
theorem putF_zip : ∀ {ns : List Str} {vs : List V} {f : Str} {v : V}, ns.Nodup → ns[vs.length]? = some f → putF f v (ns.zip vs) = ns.zip (vs ++ [v])
  | [], vs, f, v, _, e => by simp at e
  | n :: ns, [], f, v, nd, e => by
    have : n = f := by simpa using e
    subst this
    simp [putF]
  | n :: ns, u :: vs, f, v, nd, e => by
    have e' : ns[vs.length]? = some f := by simpa using e
    have hn : n ∉ ns := (List.nodup_cons.mp nd).1
    have hf : ¬ n = f := fun z => by
      subst z
      exact hn (List.mem_of_getElem? e')
    show putF f v ((n, u) :: ns.zip vs) = (n, u) :: ns.zip (vs ++ [v])
    unfold putF
    rw [if_neg hf, putF_zip (List.nodup_cons.mp nd).2 e']
theorem xs_put (i : Nat) {f x : Str} {px pos' : Pos} {m : List (Nat × Nat)} (h : FldOk X.K B.W.CT B.W.lay f m) (hsz : ∀ p ∈ m, (B.W.lay p.1).length < 1000) (hv : XE B X Wx e pa) (hN : X.N[i]? = some x := by rfl) (hvx : Vis X.env.scope x := by first | exact Or.inl rfl | exact Or.inr (Or.inl rfl) | exact Or.inr (Or.inr rfl)) (hd : (x == ("__debug__" : Str)) = false := by decide)
    (hcd : (x == ("__classdict__" : Str)) = false := by decide) (hs : swapsWith e (some (.Attribute (.Name x px) f pos')) pos.line X.env = pure false := by rfl) : XS B X Wx (.Assign [.Attribute (.Name x px) f pos'] e pos) (rPut m i pa) := by
  obtain ⟨ta, hv, ea⟩ := hv.ex
  refine ⟨_, ps_fld (pe_var hN hvx hd hcd) hv hs, fun S σ H G P D O q k => ?_⟩
  unfold rPut at q
  cases hg : G[i]? with
  | none => rw [hg] at q; exact q.elim
  | some g =>
    rw [hg] at q
    cases g <;> first | exact False.elim q | skip
    rename_i c ds
    obtain ⟨hm, q⟩ := q
    obtain ⟨k1, k2, k3, k4⟩ := h _ (lookup_mem hm)
    obtain ⟨o, eo, p, dx, vs, rfl, me, s1, s2, s3, e1, l, rr⟩ := O.get hg
    refine ea S σ H G _ _ _ O q (fun v H' d f r h => ?_) (k.kx O)
    have e1' := f.keep p _ e1 s3
    have hlt : vs.length < (B.W.lay c).length := by rw [rr.len]; exact (List.getElem?_eq_some_iff.mp k3).1
    refine ⟨_, eo, p, _, dx, _, rfl, e1', k1, k2, ?_, ?_⟩
    · rw [List.length_zip]
      have := hsz _ (lookup_mem hm)
      exact Nat.lt_of_le_of_lt (Nat.min_le_left _ _) this
    have O' := O.fut f
    rw [putF_zip k4 (by rw [rr.len]; exact k3)]
    refine k.nx S σ _ _ (O'.turn (g' := .obj c (ds ++ [d])) hg rfl eo ⟨p, dx, vs ++ [v], rfl, me, s1, s2, s3, upd_same, by rw [List.length_append, List.length_singleton]; omega, ?_⟩ rfl) h
    have rr' := (rr.fut O.wok f).app (Reps.cons r Reps.nil)
    exact Reps.mono (W := B.W.at S) (S := S) (fun b u n z => ⟨by rw [upd_ne (show b ≠ p from fun y => n (by rw [y]; exact s1))]; exact z, n⟩) _ _ rr'
/-! ## raise -/
structure XR (B : Bs) (X : Cx) (e : Expr) (p : List Sl → (Exn → Prop) → Prop) : Prop where
  ex : ∃ t, PMk X e t ∧ ∀ S σ H G E (Wx : WX), Ok B S σ H G → p G E → KX (B.W.at S) σ H E Wx → t σ H fun cls d H' => Wx cls d σ H'
def rRaise (p : List Sl → (Exn → Prop) → Prop) : XSp := fun G P => p G (fun e => P.ex e G)
theorem xs_raise {p : List Sl → (Exn → Prop) → Prop} (tk : Takes X Wx) (he : XR B X e p) (hc : X.calm = true := by rfl) : XS B X Wx (.Raise (some e) none pos) (rRaise p) := by
  obtain ⟨t, he, ev⟩ := he.ex
  exact ⟨_, ps_raise hc tk he, fun S σ H G P D O q k => ev S σ H G _ Wx O q (k.kx O)⟩
/-- an exception's __init__ stores its arguments -/
def spX (C : Addr) (names : List Str) : Sp := fun vs H Q _ => ∃ (a : Addr) (ws : List V), vs = .ref a :: ws ∧ ws.length = names.length ∧ H a = some (exo a C none) ∧
  ∀ H' dx fs, (∀ b o, H b = some o → b ≠ a → H' b = some o) → H dx = none → dx ≠ a → H' a = some (exo a C (some dx)) → H' dx = some (exd dx fs) → (∀ (i : Nat) (f : Str) (y : V), names[i]? = some f → ws[i]? = some y → fs.lookup f = some y) → (∀ f, f ∉ names → fs.lookup f = none) → Q .non H'
def rExn (c : Nat) (n : Nat) (as : XAp) : List Sl → (Exn → Prop) → Prop := fun G E => as G (fun ds => ds.length = n ∧ n ≤ 1000 ∧ E ⟨c, ds⟩) E
theorem xr_exn {k cn n : Nat} {x : Str} {p : Pos} {fI : Addr} {fd : FuncData} {ps : List Str} (T : OexC X.K (B.W.CT cn)) (iC : PySem.W.findIn X.K (.ref (B.W.CT cn)) "__init__" = some (some (.ref fI))) (tI : PySem.W.typeIn X.K (.ref fI) = some (.type "function"))
    (F1 : FnOk X.prog X.w X.K X.mg X.base (L2.CX X.prog X.w) k fI fd ps (spX (B.W.CT cn) (B.W.lay cn))) (hr : Room (k + 1) X.A) (hb : Binds X.K fd ps []) (hm : X.mg x = some (.ref (B.W.CT cn))) (hn : (B.W.lay cn).length = n) (ha : XA B X (fun _ _ _ _ => False) (e :: es) pas) (hg : Gl X x := by rfl)
    (hdb : (x == ("__debug__" : Str)) = false := by decide) (he : starEach (e :: es) X.env = (false, eval e X.env) :: starEach es X.env := by rfl) (hpl : (backTo pos (starEach es X.env)).any (·.1) = false := by rfl) :
    XR B X (.Call (.Name x p) (e :: es) [] pos) (fun G E => pas G (fun ds => ds.length = n ∧ n ≤ 1000 ∧ E ⟨cn, ds⟩) (fun _ => False)) := by
  obtain ⟨t, ha, ea⟩ := ha.ex
  refine ⟨_, pmk_oex T iC tI F1 hr hb .nil passL hg hm ha hdb he hpl, fun S σ H G E Wx O q kx => ea S σ H G _ _ _ O q (fun vs H1 ds f r h => ?_) (fun _ _ _ _ _ _ z => z.elim)⟩
  obtain ⟨h1, h2, h3⟩ := h
  have w1 := O.wok.fut f
  have hlen : vs.length = n := by rw [r.len]; exact h1
  refine ⟨by rw [hlen]; exact h2, fun a na => ⟨a, vs, by rw [List.append_nil], by rw [hlen, hn], upd_same, fun H' dx fs sm ndx ne e1 e2 look _ => ?_⟩⟩
  have ndx' : H1 dx = none := by rw [upd_ne ne] at ndx; exact ndx
  refine ⟨rfl, dx, fs, e1, e2, ndx', ?_⟩
  have sm' : Same H1 (upd (del H' a) dx (.xd fs)) := fun b o e => by
    have h1 : b ≠ dx := ne_of_none e ndx'
    have h2 : b ≠ a := ne_of_none e na
    rw [upd_ne h1, del_ne h2]
    exact sm b o (by rw [upd_ne h2]; exact e) h2
  have g := Fut.same w1 sm'
  refine kx _ _ _ ⟨cn, ds⟩ (f.trans g) ⟨rfl, by show ds.length = (B.W.lay cn).length; rw [hn]; exact h1, .inr ⟨dx, fs, rfl, w1.new ndx', upd_same, fun i f' x e1 e2 => ?_⟩⟩ h3
  obtain ⟨v, ev, rv⟩ := r.get e2
  exact ⟨v, look i f' v e1 ev, rv.fut w1 g⟩
/-- a class without fields, no arguments -/
theorem pmk_own0 {C : Addr} {bmB : List Value} {Bn newId initId : String} {x : Str} {p pos : Pos} (F : ExcBaseFacts Bn newId initId bmB) (q : PySem.W.excIn X.K C bmB newId = true) (gC : X.mg x = some (.ref C)) (kC : PySem.W.keepIn X.K (.ref C) = true) (r : Raises X (.ref C)) (hg : Gl X x)
    (hdb : (x == ("__debug__" : Str)) = false := by decide) : PMk X (.Call (.Name x p) [] [] pos) (fun _ H Q => Q (.ref C) none H) := by
  intro pins s σ H Q I h
  refine wpAny_Call_Name_kw (ld_glob I hg gC ?_ hdb)
  refine PySem.W.callWith_K0 I.kIn kC ?_
  obtain ⟨bm, N, nm, qn, bs, hdct, sn, sub, ab, col, dd, k0, k1, k2, k3, k5, mN, hC, hN, hni, T⟩ := exc_obj I.kIn q
  refine wpAny_call_exc_subT F T hC hN hni (fun h' e hm => ?_) (by show 0 ≤ sizeLine; omega)
  exact mk_of I hm r h (I.hok.gone hm.new)
theorem xr_exn0 {cn : Nat} {bmB : List Value} {Bn newId initId : String} {x : Str} {p : Pos} (F : ExcBaseFacts Bn newId initId bmB) (q : PySem.W.excIn X.K (B.W.CT cn) bmB newId = true) (gC : X.mg x = some (.ref (B.W.CT cn))) (kC : PySem.W.keepIn X.K (.ref (B.W.CT cn)) = true) (r : Raises X (.ref (B.W.CT cn))) (hl : B.W.lay cn = [])
    (hg : Gl X x := by rfl) (hdb : (x == ("__debug__" : Str)) = false := by decide) : XR B X (.Call (.Name x p) [] [] pos) (fun _ E => E ⟨cn, []⟩) :=
  ⟨_, pmk_own0 F q gC kC r hg hdb, fun S σ H G E Wx O q kx => kx _ _ H ⟨cn, []⟩ (Fut.refl O.wok) ⟨rfl, by show 0 = (B.W.lay cn).length; rw [hl]; rfl, .inl ⟨rfl, rfl⟩⟩ q⟩
end
/-! ## defs -/
def init0 (N : List Str) (ds : List D) : List Sl := ds.map Sl.d ++ List.replicate (N.length - ds.length) Sl.no
theorem start_get {N : List Str} {vs : List V} {i : Nat} : (L2.start N vs)[i]? = (match vs[i]? with | some v => some (some v) | none => if i < vs.length + (N.length - vs.length) then some none else none) := by
  unfold L2.start
  by_cases h : i < vs.length
  · rw [List.getElem?_append_left (by simpa using h), List.getElem?_map, List.getElem?_eq_getElem h]
    rfl
  · have hn : vs[i]? = none := List.getElem?_eq_none (by omega)
    rw [List.getElem?_append_right (by simpa using h), hn, List.length_map]
    by_cases h2 : i < vs.length + (N.length - vs.length)
    · rw [if_pos h2, List.getElem?_replicate, if_pos (by omega)]
    · rw [if_neg h2, List.getElem?_replicate, if_neg (by omega)]
theorem init_get {N : List Str} {ds : List D} {i : Nat} : (init0 N ds)[i]? = (match ds[i]? with | some d => some (.d d) | none => if i < ds.length + (N.length - ds.length) then some .no else none) := by
  unfold init0
  by_cases h : i < ds.length
  · rw [List.getElem?_append_left (by simpa using h), List.getElem?_map, List.getElem?_eq_getElem h]
    rfl
  · have hn : ds[i]? = none := List.getElem?_eq_none (by omega)
    rw [List.getElem?_append_right (by simpa using h), hn, List.length_map]
    by_cases h2 : i < ds.length + (N.length - ds.length)
    · rw [if_pos h2, List.getElem?_replicate, if_pos (by omega)]
    · rw [if_neg h2, List.getElem?_replicate, if_neg (by omega)]
theorem ok_start {B : Bs} {H : Hp} {N : List Str} {ds : List D} {vs : List V} (w : WOk B.W H) (h0 : B.H0 = H) (r : Reps B.W H ds vs) : Ok B B.W.S (L2.start N vs) H (init0 N ds) where
  wok := w
  ext := fun a o e _ => by rw [h0] at e; exact e
  sub := fun _ h => h
  new := fun _ h => .inl h
  len := by
    unfold L2.start init0
    rw [List.length_append, List.length_append, List.length_map, List.length_map, List.length_replicate, List.length_replicate, r.len]
  lw := fun s l e => (w.law s l e).2
  sl := fun i g o e1 e2 => by
    rw [init_get] at e1
    rw [start_get] at e2
    cases hd : ds[i]? with
    | some d =>
      rw [hd] at e1
      cases e1
      obtain ⟨v, ev, rv⟩ := r.get hd
      rw [ev] at e2
      cases e2
      exact ⟨v, rfl, rv⟩
    | none =>
      rw [hd] at e1
      dsimp only at e1
      split at e1
      · cases e1
        trivial
      · cases e1
  inj := fun i j g g' q e1 e2 h1 h2 _ _ => by
    rw [init_get] at e1
    cases hd : ds[i]? with
    | some d => rw [hd] at e1; cases e1; cases h1
    | none =>
      rw [hd] at e1
      dsimp only at e1
      split at e1
      · cases e1; cases h1
      · cases e1
def fnPo (Q : D → Prop) (E : Exn → Prop) : Po := { nx := fun _ => Q .non, rt := Q, ex := fun e _ => E e }
section
variable {P : Program} {w : World} {K : PySem.W.Frag} {mg : Str → Option Value} {base : Heap} {CT : Nat → Addr} {lay : Nat → List Str}
theorem fn_ok {x qual : Str} {st : Stmt} {f : Addr} {fd : FuncData} {N ps : List Str} {k : Nat} {F : DFn} {pb : XSp} (Fn : Fun K x qual st f fd) (Sc : FnScope N ps (defScope st)) (hF : ∀ ds Q E, F ds Q E → ds.length = ps.length ∧ pb (init0 N ds) (fnPo Q E))
    (body : ∀ (B : Bs) (cdv : Value) (A : Around) (outer : List Env) (s : Shared) (H : Hp) (E : XK), B.W.CT = CT → B.W.lay = lay → B.cur = none → Room k (A.deeper (envOfC qual (defScope st) s.heap.objs.size f cdv)) →
      XSs B (cxOf (L2.CX P w) P w K mg base N qual (defScope st) f cdv A outer s H E) (fun cls d _ H => E cls d H) (defBody st) pb) : FnOk P w K mg base (L2.CX P w) (k + 1) f fd ps (spP CT lay F) := by
  refine Fn.okX Sc (fun vs H Q E h => ?_) (fun cdv A outer s H vs Q E hr h => ?_)
  · obtain ⟨L, S, ds, Qd, Ed, _, r, hq, _⟩ := h
    rw [r.len]
    exact (hF ds Qd Ed hq).1
  · obtain ⟨L, S, ds, Qd, Ed, wk, r, hq, ke, kx⟩ := h
    let B : Bs := { W := ⟨CT, lay, L, S⟩, H0 := H }
    obtain ⟨t, h1, h2⟩ := (body B cdv A outer s H E rfl rfl rfl hr).ex
    refine ⟨t, h1, h2 S _ H _ (fnPo Qd Ed) _ (ok_start (B := B) wk rfl r) (hF ds Qd Ed hq).2 ⟨fun S' σ' H' G' O' q' => ?_, fun S' σ' H' G' v d O' r' q' => ?_, fun _ _ _ _ _ z => z.elim, fun _ _ _ _ _ z => z.elim, fun S' σ' H' G' cls dd ex O' x' q' => ?_⟩⟩
    · have f : Fut ⟨CT, lay, L, S⟩ H H' := ⟨O'.ext, fun s l e => (O'.wok.law s l e).1⟩
      exact ke _ H' _ f mkN q'
    · have f : Fut ⟨CT, lay, L, S⟩ H H' := ⟨O'.ext, fun s l e => (O'.wok.law s l e).1⟩
      exact ke _ H' _ f (Rep.sub (W := B.W.at S') (S := S) r' fun a h => O'.sub a h) q'
    · have f : Fut ⟨CT, lay, L, S⟩ H H' := ⟨O'.ext, fun s l e => (O'.wok.law s l e).1⟩
      exact kx cls dd H' ex f (ExOk.mono (W := B.W.at S') (S := S) (fun a o n e => ⟨e, fun z => n (O'.sub a z)⟩) x') q'
end
end Pu
namespace Pu
open PySem PySem.Spec PyProof.Rows L2
/-! ## a def as it stands, with or without defaults -/
structure FunG (K : PySem.W.Frag) (x qual : Str) (st : Stmt) (f : Addr) (fd : FuncData) : Prop where
  ex : ∃ (oc : Value) (od : Option Addr) (dV kV doc pm : Value) (an : Option Addr) (cdv ct : Value) (osl : Array (Option Value)),
    fd = PySem.W.fnOf x qual (defArgs st) (defBody st) (defScope st) dV kV doc pm an cdv ct ∧ K.lookup f = some ⟨oc, od, .func fd, osl⟩ ∧ PySem.W.codeIn K cdv qual = true
theorem Fun.g {K : PySem.W.Frag} {x qual : Str} {st : Stmt} {f : Addr} {fd : FuncData} (F : Fun K x qual st f fd) : FunG K x qual st f fd := by
  obtain ⟨oc, od, kV, doc, pm, an, cdv, ct, osl, h⟩ := F.ex
  exact ⟨oc, od, _, kV, doc, pm, an, cdv, ct, osl, h⟩
theorem FunD.g {K : PySem.W.Frag} {x qual : Str} {st : Stmt} {dvs : List V} {kws : List (Str × V)} {f : Addr} {fd : FuncData} (F : FunD K x qual (defArgs st) (defBody st) (defScope st) dvs kws f fd) : FunG K x qual st f fd := by
  obtain ⟨oc, od, dV, kV, doc, pm, an, cdv, ct, osl, h1, h2, h3, _⟩ := F.ex
  exact ⟨oc, od, dV, kV, doc, pm, an, cdv, ct, osl, h1, h2, h3⟩
section
variable {P : Program} {w : World} {K : PySem.W.Frag} {mg : Str → Option Value} {base : Heap} {CT : Nat → Addr} {lay : Nat → List Str}
theorem FunG.ok {x qual : Str} {st : Stmt} {f : Addr} {fd : FuncData} {N ps : List Str} {k : Nat} {sp : Sp} (F : FunG K x qual st f fd) (S : FnScope N ps (defScope st)) (len : ∀ vs H Q E, sp vs H Q E → vs.length = ps.length)
    (hbody : ∀ (cdv : Value) (A : Around) (outer : List Env) (s : Shared) (H : Hp) (vs : List V) (Q : VK) (E : XK), Room k (A.deeper (envOfC qual (defScope st) s.heap.objs.size f cdv)) → sp vs H Q E →
      ∃ t, PSs (cxOf (L2.CX P w) P w K mg base N qual (defScope st) f cdv A outer s H E) (defBody st) t ∧ t { nx := fun _ H' => Q .non H', rt := Q } (L2.start N vs) H) : FnOk P w K mg base (L2.CX P w) (k + 1) f fd ps sp := by
  obtain ⟨oc, od, dV, kV, doc, pm, an, cdv, ct, osl, rfl, lk, hcd⟩ := F.ex
  exact fn_of lk hcd S len fun A outer s H vs Q E hr hsp => hbody cdv A outer s H vs Q E hr hsp
theorem fn_okG {x qual : Str} {st : Stmt} {f : Addr} {fd : FuncData} {N ps : List Str} {k : Nat} {F : DFn} {pb : XSp} (Fn : FunG K x qual st f fd) (Sc : FnScope N ps (defScope st)) (hF : ∀ ds Q E, F ds Q E → ds.length = ps.length ∧ pb (init0 N ds) (fnPo Q E))
    (body : ∀ (B : Bs) (cdv : Value) (A : Around) (outer : List Env) (s : Shared) (H : Hp) (E : XK), B.W.CT = CT → B.W.lay = lay → B.cur = none → Room k (A.deeper (envOfC qual (defScope st) s.heap.objs.size f cdv)) →
      XSs B (cxOf (L2.CX P w) P w K mg base N qual (defScope st) f cdv A outer s H E) (fun cls d _ H => E cls d H) (defBody st) pb) : FnOk P w K mg base (L2.CX P w) (k + 1) f fd ps (spP CT lay F) := by
  refine Fn.ok Sc (fun vs H Q E h => ?_) (fun cdv A outer s H vs Q E hr h => ?_)
  · obtain ⟨L, S, ds, Qd, Ed, _, r, hq, _⟩ := h
    rw [r.len]
    exact (hF ds Qd Ed hq).1
  · obtain ⟨L, S, ds, Qd, Ed, wk, r, hq, ke, kx⟩ := h
    let B : Bs := { W := ⟨CT, lay, L, S⟩, H0 := H }
    obtain ⟨t, h1, h2⟩ := (body B cdv A outer s H E rfl rfl rfl hr).ex
    refine ⟨t, h1, h2 S _ H _ (fnPo Qd Ed) _ (ok_start (B := B) wk rfl r) (hF ds Qd Ed hq).2 ⟨fun S' σ' H' G' O' q' => ?_, fun S' σ' H' G' v d O' r' q' => ?_, fun _ _ _ _ _ z => z.elim, fun _ _ _ _ _ z => z.elim, fun S' σ' H' G' cls dd ex O' x' q' => ?_⟩⟩
    · have f : Fut ⟨CT, lay, L, S⟩ H H' := ⟨O'.ext, fun s l e => (O'.wok.law s l e).1⟩
      exact ke _ H' _ f mkN q'
    · have f : Fut ⟨CT, lay, L, S⟩ H H' := ⟨O'.ext, fun s l e => (O'.wok.law s l e).1⟩
      exact ke _ H' _ f (Rep.sub (W := B.W.at S') (S := S) r' fun a h => O'.sub a h) q'
    · have f : Fut ⟨CT, lay, L, S⟩ H H' := ⟨O'.ext, fun s l e => (O'.wok.law s l e).1⟩
      exact kx cls dd H' ex f (ExOk.mono (W := B.W.at S') (S := S) (fun a o n e => ⟨e, fun z => n (O'.sub a z)⟩) x') q'
/-! ## an own class's __init__ -/
def initO (N : List Str) (c : Nat) (ds : List D) : List Sl := .obj c [] :: (ds.map Sl.d ++ List.replicate (N.length - (ds.length + 1)) Sl.no)
def initPo (c n : Nat) (Q : List D → Prop) (E : Exn → Prop) : Po := { nx := fun G => ∃ fs, G[0]? = some (.obj c fs) ∧ fs.length = n ∧ Q fs, rt := fun _ => False, ex := fun e _ => E e }
theorem ok_startO {B : Bs} {H : Hp} {N : List Str} {ds : List D} {ws : List V} {c : Nat} {p dx : Addr} (hp : H p = some (.ins (B.W.CT c) dx [])) (np : ¬ B.W.S p) (nl : nL B.W.L p) (w : WOk B.W (delA H p)) (h0 : B.H0 = delA H p) (me : B.me = some p) (r : Reps B.W (delA H p) ds ws) :
    Ok B (fun a => B.W.S a ∨ a = p) (L2.start N (.ref p :: ws)) H (initO N c ds) := by
  have rv : Rep B.W (delA H p) (.val (.ref p)) (.ref p) := by simp only [Rep]
  have O := ok_start (N := N) w h0 (Reps.cons rv r)
  have K := O.keep (H' := H) 0 (q := p) (g := .obj c []) delA_same (fun a o e _ => ?_) (fun s l e => ?_) ⟨_, hp⟩ nl ?_
  · have e1 : (L2.start N (.ref p :: ws)).set 0 (some (.ref p)) = L2.start N (.ref p :: ws) := rfl
    rw [e1] at K
    exact K
  · by_cases h : a = p
    · rw [h, delA_same] at e; cases e
    · rw [delA_ne h] at e; exact e
  · obtain ⟨z0, i, n, cs, e1⟩ := (w.law s l e).1
    obtain ⟨n1, n2⟩ := nl s l e
    rw [delA_ne (Ne.symm n1)] at e1
    exact ⟨z0, i, n, cs, e1⟩
  · exact ⟨p, dx, [], rfl, me, .inr rfl, np, nl, by rw [List.zip_nil_right]; exact hp, Nat.zero_le _, Reps.nil⟩
theorem init_ok {x qual : Str} {st : Stmt} {f : Addr} {fd : FuncData} {N : List Str} {p0 : Str} {ps : List Str} {k c n : Nat} {F : DIn} {pb : XSp} (Fn : FunG K x qual st f fd) (Sc : FnScope N (p0 :: ps) (defScope st)) (hn : (lay c).length = n)
    (hF : ∀ ds Q E, F ds Q E → ds.length = ps.length ∧ pb (initO N c ds) (initPo c n Q E))
    (body : ∀ (B : Bs) (cdv : Value) (A : Around) (outer : List Env) (s : Shared) (H : Hp) (E : XK), B.W.CT = CT → B.W.lay = lay → B.cur = none → Room k (A.deeper (envOfC qual (defScope st) s.heap.objs.size f cdv)) →
      XSs B (cxOf (L2.CX P w) P w K mg base N qual (defScope st) f cdv A outer s H E) (fun cls d _ H => E cls d H) (defBody st) pb) : FnOk P w K mg base (L2.CX P w) (k + 1) f fd (p0 :: ps) (spI CT lay c F) := by
  refine Fn.ok Sc (fun vs H Q E h => ?_) (fun cdv A outer s H vs Q E hr h => ?_)
  · obtain ⟨L, S, p, dx, ws, ds, Qd, Ed, rfl, _, _, _, _, r, hq, _⟩ := h
    rw [List.length_cons, r.len, (hF ds Qd Ed hq).1, List.length_cons]
  · obtain ⟨L, S, p, dx, ws, ds, Qd, Ed, rfl, hp, np, nl, wk, r, hq, ke, kx⟩ := h
    let B : Bs := { W := ⟨CT, lay, L, S⟩, H0 := delA H p, me := some p }
    obtain ⟨t, h1, h2⟩ := (body B cdv A outer s H E rfl rfl rfl hr).ex
    refine ⟨t, h1, h2 _ _ H _ (initPo c n Qd Ed) _ (ok_startO (B := B) hp np nl wk rfl rfl r) (hF ds Qd Ed hq).2 ⟨fun S' σ' H' G' O' q' => ?_, fun S' σ' H' G' v d O' r' q' => q'.elim, fun _ _ _ _ _ z => z.elim, fun _ _ _ _ _ z => z.elim, fun S' σ' H' G' cls dd ex O' x' q' => ?_⟩⟩
    · have f : Fut ⟨CT, lay, L, S⟩ (delA H p) H' := ⟨O'.ext, fun s l e => (O'.wok.law s l e).1⟩
      obtain ⟨fs, eg, el, q⟩ := q'
      obtain ⟨o, eo, q0, dx', us, rfl, me, s1, s2, s3, e1, l1, rr⟩ := O'.get eg
      obtain rfl : p = q0 := Option.some.inj me
      refine ke H' dx' us fs f e1 ?_ (Reps.sub (W := B.W.at S') (S := S) rr fun a h => O'.sub a h) q
      rw [rr.len, el, hn]
    · have f : Fut ⟨CT, lay, L, S⟩ (delA H p) H' := ⟨O'.ext, fun s l e => (O'.wok.law s l e).1⟩
      exact kx cls dd H' ex f (ExOk.mono (W := B.W.at S') (S := S) (fun a o n e => ⟨e, fun z => n (O'.sub a z)⟩) x') q'
/-! ## exceptions' __init__: one or two fields -/
theorem exn1_ok {qual : Str} {st : Stmt} {f : Addr} {fd : FuncData} {C : Addr} {k : Nat} {g a1 : Str} {p1 p2 p3 p4 : Pos} (Fn : FunG K "__init__" qual st f fd) (T : OexC K C) (n1 : PySem.W.findIn K (.ref C) g = some none)
    (hb : defBody st = [.Assign [.Attribute (.Name "self" p1) g p2] (.Name a1 p3) p4]) (Sc : FnScope ["self", a1] ["self", a1] (defScope st)) (hd : (a1 == ("__debug__" : Str)) = false) (hcd : (a1 == ("__classdict__" : Str)) = false)
    (hv : ∀ n f cdv, Vis (envOfC qual (defScope st) n f cdv).scope "self" ∧ Vis (envOfC qual (defScope st) n f cdv).scope a1)
    (hs : ∀ n f cdv, swapsWith (.Name a1 p3) (some (.Attribute (.Name "self" p1) g p2)) p4.line (envOfC qual (defScope st) n f cdv) = pure false) : FnOk P w K mg base (L2.CX P w) (k + 1) f fd ["self", a1] (spX C [g]) := by
  refine Fn.ok Sc (fun vs H Q E h => ?_) (fun cdv A outer s H vs Q E hr h => ?_)
  · obtain ⟨a, ws, rfl, hl, _⟩ := h
    rw [List.length_cons, hl]
    rfl
  · obtain ⟨a, ws, rfl, hl, e, q⟩ := h
    rw [hb]
    obtain ⟨v1, v2⟩ := hv s.heap.objs.size f cdv
    match ws, hl, q with
    | [y], _, q =>
      refine ⟨_, pss_one (ps_ost (pe_var (i := 0) rfl v1 rfl rfl) (pe_var (i := 1) rfl v2 hd hcd) (hs _ _ _)), ?_⟩
      refine ⟨y, rfl, _, rfl, a, C, rfl, T, n1, .inl ⟨e, fun dx nd ne => ?_⟩⟩
      refine q _ dx _ (fun b o eb nb => ?_) nd ne upd_same (by rw [upd_ne ne, upd_same]) (fun i f' y' e1 e2 => ?_) (fun f' nf => by
        have : (f' == g) = false := by simpa using nf
        simp [List.lookup, this])
      · rw [upd_ne nb, upd_ne (ne_of_none eb nd)]; exact eb
      · match i, e1, e2 with
        | 0, e1, e2 =>
          cases e1; cases e2
          simp [List.lookup]
theorem exn2_ok {qual : Str} {st : Stmt} {f : Addr} {fd : FuncData} {C : Addr} {k : Nat} {g g' a1 a2 : Str} {p1 p2 p3 p4 p5 p6 p7 p8 : Pos} (Fn : FunG K "__init__" qual st f fd) (T : OexC K C) (n1 : PySem.W.findIn K (.ref C) g = some none) (n2 : PySem.W.findIn K (.ref C) g' = some none)
    (hb : defBody st = [.Assign [.Attribute (.Name "self" p1) g p2] (.Name a1 p3) p4, .Assign [.Attribute (.Name "self" p5) g' p6] (.Name a2 p7) p8]) (Sc : FnScope ["self", a1, a2] ["self", a1, a2] (defScope st))
    (hd : (a1 == ("__debug__" : Str)) = false) (hcd : (a1 == ("__classdict__" : Str)) = false) (hd2 : (a2 == ("__debug__" : Str)) = false) (hcd2 : (a2 == ("__classdict__" : Str)) = false) (hg : (g == g') = false)
    (hv : ∀ n f cdv, Vis (envOfC qual (defScope st) n f cdv).scope "self" ∧ Vis (envOfC qual (defScope st) n f cdv).scope a1 ∧ Vis (envOfC qual (defScope st) n f cdv).scope a2)
    (hs : ∀ n f cdv, swapsWith (.Name a1 p3) (some (.Attribute (.Name "self" p1) g p2)) p4.line (envOfC qual (defScope st) n f cdv) = pure false ∧ swapsWith (.Name a2 p7) (some (.Attribute (.Name "self" p5) g' p6)) p8.line (envOfC qual (defScope st) n f cdv) = pure false) : FnOk P w K mg base (L2.CX P w) (k + 1) f fd ["self", a1, a2] (spX C [g, g']) := by
  refine Fn.ok Sc (fun vs H Q E h => ?_) (fun cdv A outer s H vs Q E hr h => ?_)
  · obtain ⟨a, ws, rfl, hl, _⟩ := h
    rw [List.length_cons, hl]
    rfl
  · obtain ⟨a, ws, rfl, hl, e, q⟩ := h
    rw [hb]
    obtain ⟨v1, v2, v3⟩ := hv s.heap.objs.size f cdv
    obtain ⟨s1, s2⟩ := hs s.heap.objs.size f cdv
    match ws, hl, q with
    | [y, z], _, q =>
      refine ⟨_, pss_cons (ps_ost (pe_var (i := 0) rfl v1 rfl rfl) (pe_var (i := 1) rfl v2 hd hcd) s1) (pss_one (ps_ost (pe_var (i := 0) rfl v1 rfl rfl) (pe_var (i := 2) rfl v3 hd2 hcd2) s2)), ?_⟩
      refine ⟨y, rfl, _, rfl, a, C, rfl, T, n1, .inl ⟨e, fun dx nd ne => ?_⟩⟩
      refine ⟨z, rfl, _, rfl, a, C, rfl, T, n2, .inr ⟨dx, [(g, y)], upd_same, by rw [upd_ne ne, upd_same], by show 1 ≤ 900; decide, ?_⟩⟩
      refine q _ dx ((g', z) :: [(g, y)]) (fun b o eb nb => ?_) nd ne (by rw [upd_ne (Ne.symm ne), upd_same]) upd_same (fun i f' y' e1 e2 => ?_) (fun f' nf => by
        have n1 : f' ≠ g := fun z => nf (by simp [z])
        have n2 : f' ≠ g' := fun z => nf (by simp [z])
        have h1 : (f' == g) = false := by simpa using n1
        have h2 : (f' == g') = false := by simpa using n2
        simp [List.lookup, h1, h2])
      · have : b ≠ dx := ne_of_none eb nd
        rw [upd_ne this, upd_ne nb, upd_ne this]; exact eb
      · match i, e1, e2 with
        | 0, e1, e2 =>
          cases e1; cases e2
          rw [List.lookup_cons, hg]
          simp [List.lookup]
        | 1, e1, e2 =>
          cases e1; cases e2
          simp [List.lookup]
end
/-! ## an own list becomes a datum -/
def rFrz (i : Nat) (a : XP) : XP := fun G Q E => match G[i]? with
  | some (.own ds) => a (G.set i (.d (.lst ds))) Q E
  | _ => False
def rsFrz (i : Nat) (a : XSp) : XSp := fun G P => match G[i]? with
  | some (.own ds) => a (G.set i (.d (.lst ds))) P
  | _ => False
/-! what an evaluation needs, without a reading of its own -/
def canS (B : Bs) (Wx : WX) (p : XSp) : TS := fun D σ H => ∃ S G P, Ok B S σ H G ∧ p G P ∧ KP B Wx P D
theorem XSs.can {B : Bs} {X : Cx} {Wx : WX} {st : List Stmt} {p : XSp} (h : XSs B X Wx st p) : PSs X st (canS B Wx p) := by
  obtain ⟨t, h, e⟩ := h.ex
  exact ⟨fun pins s σ H D I ⟨S, G, P, O, q, k⟩ => h.run pins s σ H D I (e S σ H G P D O q k)⟩
section
variable {B : Bs} {X : Cx} {Wx : WX} {a b c e tg : Expr} {es : List Expr} {pa pb pc : XP} {pos pos' np : Pos} {pas : XAp} {st b₀ : Stmt} {sts ats bts suite body : List Stmt} {p p2 pp qq : XSp} {qt : XTp} {g : XGp} {gs : XGsp}
/-- .. before a row of statements -/
theorem xss_frz (i : Nat) (h : XSs B X Wx sts pp) : XSs B X Wx sts (rsFrz i pp) := by
  obtain ⟨t, h, ev⟩ := h.ex
  refine ⟨t, h, fun S σ H G P D O q k => ?_⟩
  unfold rsFrz at q
  cases hg : G[i]? with
  | none => rw [hg] at q; exact q.elim
  | some g =>
    rw [hg] at q
    cases g <;> first | exact False.elim q | skip
    obtain ⟨q', sq, O2⟩ := O.thaw hg
    exact ev _ σ H _ P D O2 q k
/-! ## try -/
def ExmT (K : PySem.W.Frag) (CT : Nat → Addr) (c : Value) (tbl : List (Nat × Bool)) : Prop := ∀ p ∈ tbl, PySem.W.exmOne K (.ref (CT p.1)) c = some p.2
abbrev Bs.curr (B : Bs) (a : Addr) (cls : Value) (d : Option Addr) : Bs := { B with cur := some (a, cls, d) }
theorem Ok.curr {B : Bs} {S : Addr → Prop} {σ : L2.St} {H : Hp} {G : List Sl} {a : Addr} {cls : Value} {d : Option Addr} (O : Ok B S σ H G) (hc : B.cur = none) : Ok (B.curr a cls d) S σ H G :=
  ⟨O.wok, O.ext, O.sub, O.new, O.len, O.lw, fun i g o e1 e2 => by
    have := O.sl i g o e1 e2
    cases g with
    | exc c ds =>
      obtain ⟨a', cls', dd', z, _⟩ := this
      rw [hc] at z
      cases z
    | _ => exact this, O.inj⟩
def noX : List Sl → Prop := fun G => ∀ (j c : Nat) (ds : List D), G[j]? ≠ some (.exc c ds)
theorem Ok.uncurr {B : Bs} {S : Addr → Prop} {σ : L2.St} {H : Hp} {G : List Sl} {a : Addr} {cls : Value} {d : Option Addr} (O : Ok (B.curr a cls d) S σ H G) (hn : noX G) : Ok B S σ H G :=
  ⟨O.wok, O.ext, O.sub, O.new, O.len, O.lw, fun i g o e1 e2 => by
    have := O.sl i g o e1 e2
    cases g with
    | exc c ds => exact absurd e1 (hn i c ds)
    | _ => exact this, O.inj⟩
end
end Pu
namespace Pu
open PySem PySem.Spec PyProof.Rows L2
def isX : Sl → Bool
  | .exc _ _ => true
  | _ => false
def hasX (G : List Sl) : Bool := G.any isX
theorem noX_of {G : List Sl} (h : hasX G = false) : noX G := fun j c ds e => by
  have := List.any_eq_false.mp h _ (List.mem_of_getElem? e)
  exact this rfl
theorem Ok.strip {B : Bs} {S : Addr → Prop} {σ : L2.St} {H : Hp} {G : List Sl} (O : Ok B S σ H G) : Ok B S σ H (G.map fun g => if isX g then .no else g) where
  wok := O.wok
  ext := O.ext
  sub := O.sub
  new := O.new
  len := by rw [List.length_map]; exact O.len
  lw := O.lw
  sl := fun i g o e1 e2 => by
    rw [List.getElem?_map] at e1
    cases hg : G[i]? with
    | none => rw [hg] at e1; cases e1
    | some g0 =>
      rw [hg] at e1
      cases g0 <;> (cases e1; first | exact O.sl i _ o hg e2 | trivial)
  inj := fun i j g g' q e1 e2 n1 n2 e3 e4 => by
    have back : ∀ {i : Nat} {g : Sl}, (G.map fun g => if isX g then .no else g)[i]? = some g → g.isOwn = true → G[i]? = some g := fun {i g} e n => by
      rw [List.getElem?_map] at e
      cases hg : G[i]? with
      | none => rw [hg] at e; cases e
      | some g0 =>
        rw [hg] at e
        cases g0 <;> (cases e; first | rfl | cases n)
    exact O.inj i j g g' q (back e1 n1) (back e2 n2) n1 n2 e3 e4
theorem strip_noX (G : List Sl) : noX (G.map fun g => if isX g then .no else g) := fun j c ds e => by
  rw [List.getElem?_map] at e
  cases hg : G[j]? with
  | none => rw [hg] at e; cases e
  | some g0 =>
    rw [hg] at e
    cases g0 <;> cases e
section
variable {B : Bs} {X : Cx} {Wx : WX} {a b c e tg : Expr} {es : List Expr} {pa pb pc : XP} {pos pos' np : Pos} {pas : XAp} {st b₀ : Stmt} {sts ats bts suite body : List Stmt} {p p2 pp qq : XSp} {qt : XTp} {g : XGp} {gs : XGsp}
def suPo (P : Po) (f : List Sl → List Sl) : Po := { nx := fun G2 => hasX (f G2) = false ∧ P.nx (f G2), rt := P.rt, bk := fun G2 => hasX (f G2) = false ∧ P.bk (f G2), ct := fun G2 => hasX (f G2) = false ∧ P.ct (f G2), ex := fun _ _ => False }
/-- the clauses by their classes -/
def rTry (i : Nat) (tbl : List (Nat × Bool)) (body suite : XSp) : XSp := fun G P => body G { P with ex := fun ex G1 => match tbl.lookup ex.c with
  | some true => suite (G1.set i (.exc ex.c ex.ds)) (suPo P fun G2 => G2.set i .no)
  | some false => P.ex ex G1
  | none => False }
def rTry0 (tbl : List (Nat × Bool)) (body suite : XSp) : XSp := fun G P => body G { P with ex := fun ex G1 => match tbl.lookup ex.c with
  | some true => suite G1 (suPo P id)
  | some false => P.ex ex G1
  | none => False }
theorem xs_try (i : Nat) {n x : Str} {c : Value} {tbl : List (Nat × Bool)} (h0 : B.cur = none) (hN : X.N.Nodup) (hc : Names X x c) (tk : Takes X Wx) (tb : ExmT X.K B.W.CT c tbl)
    (hb : ∀ (W : WX) (pn : List (Addr × Obj)) (xe : Value → Shared → Prop), Takes (X.tr pn xe) W → PassesOwn (model X.prog X.w) X.A X.env xe → XSs B (X.tr pn xe) W body pp)
    (hsu : ∀ (a : Addr) (oe : Obj) (cls : Value) (d : Option Addr) (pn : List (Addr × Obj)), Zc cls d oe → (∃ vs, oe.data = .fields vs) → XSs (B.curr a cls d) (X.suite a ((a, oe) :: pn)) (fun _ _ _ _ => False) (b₀ :: suite) qq)
    (hs : X.stack = X.env :: X.outer := by rfl) (hf : X.env.frame = some X.env.locals := by rfl) (hi : X.N[i]? = some n := by rfl) (hln : X.env.kindOf n = some .local := by rfl) :
    XS B X Wx (.Try body [.ExceptHandler (some (.Name x np)) (some n) (b₀ :: suite) pos'] [] [] pos) (rTry i tbl pp qq) := by
  refine ⟨_, ps_try_as (i := i) (tb := fun W => canS B W pp) (ts := fun a cls d => canS (B.curr a cls d) (fun _ _ _ _ => False) qq) (Wout := Wx) hs hf hN hi hln hc tk (fun W pn xe t1 t2 => (hb W pn xe t1 t2).can) (fun a oe cls d pn z1 z2 => (hsu a oe cls d pn z1 z2).can), fun S σ H G P D O q k => ?_⟩
  refine ⟨S, G, _, O, q, ⟨k.nx, k.rt, k.bk, k.ct, fun S1 σ1 H1 G1 cls dd ex O1 x1 h => ?_⟩⟩
  dsimp only at h
  obtain rfl := x1.1
  cases hl : tbl.lookup ex.c with
  | none => rw [hl] at h; exact h.elim
  | some b =>
    rw [hl] at h
    refine ⟨b, tb _ (lookup_mem hl), fun hb a na => ?_, fun hb => ?_⟩
    · subst hb
      refine ⟨S1, _, _, (O1.curr (a := a) (cls := .ref (B.W.CT ex.c)) (d := dd) h0).put i (g := .exc ex.c ex.ds) (o := some (.ref a)) rfl ⟨a, _, dd, rfl, rfl, x1⟩, h, ⟨fun S2 σ2 H2 G2 O2 h2 => ?_, fun S2 σ2 H2 G2 v d O2 r2 h2 => ?_, fun S2 σ2 H2 G2 O2 h2 => ?_, fun S2 σ2 H2 G2 O2 h2 => ?_, fun _ _ _ _ _ _ _ _ _ z => z⟩⟩
      · exact k.nx S2 _ H2 _ ((O2.drop i none).uncurr (noX_of h2.1)) h2.2
      · exact k.rt S2 σ2 H2 _ v d (O2.strip.uncurr (strip_noX _)) r2 h2
      · exact k.bk S2 _ H2 _ ((O2.drop i none).uncurr (noX_of h2.1)) h2.2
      · exact k.ct S2 _ H2 _ ((O2.drop i none).uncurr (noX_of h2.1)) h2.2
    · subst hb
      exact k.ex S1 σ1 H1 G1 _ dd ex O1 x1 h
theorem xs_try0 {x : Str} {c : Value} {tbl : List (Nat × Bool)} (h0 : B.cur = none) (hc : Names X x c) (tk : Takes X Wx) (tb : ExmT X.K B.W.CT c tbl)
    (hb : ∀ (W : WX) (pn : List (Addr × Obj)) (xe : Value → Shared → Prop), Takes (X.tr pn xe) W → PassesOwn (model X.prog X.w) X.A X.env xe → XSs B (X.tr pn xe) W body pp)
    (hsu : ∀ (a : Addr) (oe : Obj) (cls : Value) (d : Option Addr) (pn : List (Addr × Obj)), Zc cls d oe → (∃ vs, oe.data = .fields vs) → XSs (B.curr a cls d) (X.suite a ((a, oe) :: pn)) (fun _ _ _ _ => False) (b₀ :: suite) qq)
    (hs : X.stack = X.env :: X.outer := by rfl) (hf : X.env.frame = some X.env.locals := by rfl) :
    XS B X Wx (.Try body [.ExceptHandler (some (.Name x np)) none (b₀ :: suite) pos'] [] [] pos) (rTry0 tbl pp qq) := by
  refine ⟨_, ps_try_only (tb := fun W => canS B W pp) (ts := fun a cls d => canS (B.curr a cls d) (fun _ _ _ _ => False) qq) (Wout := Wx) hs hf hc tk (fun W pn xe t1 t2 => (hb W pn xe t1 t2).can) (fun a oe cls d pn z1 z2 => (hsu a oe cls d pn z1 z2).can), fun S σ H G P D O q k => ?_⟩
  refine ⟨S, G, _, O, q, ⟨k.nx, k.rt, k.bk, k.ct, fun S1 σ1 H1 G1 cls dd ex O1 x1 h => ?_⟩⟩
  dsimp only at h
  obtain rfl := x1.1
  cases hl : tbl.lookup ex.c with
  | none => rw [hl] at h; exact h.elim
  | some b =>
    rw [hl] at h
    refine ⟨b, tb _ (lookup_mem hl), fun hb a na => ?_, fun hb => ?_⟩
    · subst hb
      refine ⟨S1, _, _, O1.curr (a := a) (cls := .ref (B.W.CT ex.c)) (d := dd) h0, h, ⟨fun S2 σ2 H2 G2 O2 h2 => ?_, fun S2 σ2 H2 G2 v d O2 r2 h2 => ?_, fun S2 σ2 H2 G2 O2 h2 => ?_, fun S2 σ2 H2 G2 O2 h2 => ?_, fun _ _ _ _ _ _ _ _ _ z => z⟩⟩
      · exact k.nx S2 _ H2 _ (O2.uncurr (noX_of h2.1)) h2.2
      · exact k.rt S2 σ2 H2 _ v d (O2.strip.uncurr (strip_noX _)) r2 h2
      · exact k.bk S2 _ H2 _ (O2.uncurr (noX_of h2.1)) h2.2
      · exact k.ct S2 _ H2 _ (O2.uncurr (noX_of h2.1)) h2.2
    · subst hb
      exact k.ex S1 σ1 H1 G1 _ dd ex O1 x1 h
/-! the caught exception's field -/
def rXf (m : List (Nat × Nat)) (i : Nat) : XP := fun G Q _ => match G[i]? with
  | some (.exc c ds) => match m.lookup c with
    | some j => match ds[j]? with
      | some x => Q x
      | none => False
    | none => False
  | _ => False
def XfOk (K : PySem.W.Frag) (CT : Nat → Addr) (lay : Nat → List Str) (n : Str) (m : List (Nat × Nat)) : Prop := ∀ p ∈ m, XfC K (CT p.1) ∧ PySem.W.findIn K (.ref (CT p.1)) n = some none ∧ (lay p.1)[p.2]? = some n
theorem xe_xf {a : Addr} {oe : Obj} {cls : Value} {d : Option Addr} {pn : List (Addr × Obj)} {f x : Str} {m : List (Nat × Nat)} {p1 : Pos} (T : XfOk X.K B.W.CT B.W.lay f m) (hz : Zc cls d oe) (hf : ∃ vs, oe.data = .fields vs) (i : Nat)
    (hN : X.N[i]? = some x := by rfl) (hv : Vis X.env.scope x := by first | exact Or.inl rfl | exact Or.inr (Or.inl rfl) | exact Or.inr (Or.inr rfl)) (hd : (x == ("__debug__" : Str)) = false := by decide)
    (hcd : (x == ("__classdict__" : Str)) = false := by decide) (hb : attributeBase (.Name x p1) f X.env (eval (.Name x p1) X.env) = eval (.Name x p1) X.env := by rfl) :
    XE (B.curr a cls d) (X.suite a ((a, oe) :: pn)) Wx (.Attribute (.Name x p1) f pos) (rXf m i) := by
  refine ⟨fun σ H Q => ∃ C, XfC X.K C ∧ PySem.W.findIn X.K (.ref C) f = some none ∧ tXf a cls d C f (tVar i) σ H Q, ⟨fun pins s σ H Q I ⟨C, T, hno, h⟩ => ?_⟩, fun S σ H G Q E k O q ke _ => ?_⟩
  · exact (pe_xf (pos := pos) T hno hz hf (pe_var (X := X.suite a ((a, oe) :: pn)) (pos := p1) hN hv hd hcd) hb).run pins s σ H Q I h
  · unfold rXf at q
    cases hg : G[i]? with
    | none => rw [hg] at q; exact q.elim
    | some g =>
      rw [hg] at q
      cases g <;> first | exact False.elim q | skip
      rename_i c ds
      dsimp only at q
      cases hm : m.lookup c with
      | none => rw [hm] at q; exact q.elim
      | some j =>
        rw [hm] at q
        dsimp only at q
        obtain ⟨k1, k2, k3⟩ := T _ (lookup_mem hm)
        obtain ⟨o, eo, a', cls', dd, ec, rfl, e1, e2, e3⟩ := O.get hg
        cases ec
        cases hx : ds[j]? with
        | none => rw [hx] at q; exact q.elim
        | some y =>
          rw [hx] at q
          rcases e3 with e3 | ⟨d', fs, ed, n, eh, lk⟩
          · have e3' : ds = [] := e3.2
            rw [e3'] at hx
            cases hx
          · obtain ⟨v, ev, rv⟩ := lk j f y k3 hx
            exact ⟨_, k1, k2, _, eo, rfl, e1, d', fs, v, ed, eh, ev, ke v H y (Fut.refl O.wok) rv q⟩
/-! isinstance of the caught exception -/
def rIsX (tbl : List (Nat × Bool)) (i : Nat) : XP := fun G Q _ => match G[i]? with
  | some (.exc c _) => match tbl.lookup c with
    | some b => Q (.bl b)
    | none => False
  | _ => False
def rIsEd (K : PySem.W.Frag) (cls : Value) (a : Addr) (d : Option Addr) : List V → Hp → VK → Prop := fun xs H Q => ∃ (c : V) (cv : Value) (b : Bool) (D : Addr), cls = .ref D ∧ ExcC K D ∧ (d = none ∨ ∃ dd fs, d = some dd ∧ H dd = some (.xd fs)) ∧ xs = [.ref a, c] ∧ (∀ u, RelV c u → u = cv) ∧ PySem.W.kitOne K (.ref D) cv = some b ∧ Q (.bl b) H
theorem call_isEd {a : Addr} {oe : Obj} {cls : Value} {d : Option Addr} {pn : List (Addr × Obj)} (hz : Zc cls d oe) (hf : ∃ vs, oe.data = .fields vs) : CallR (X.suite a ((a, oe) :: pn)) (.builtin "isinstance") (rIsEd X.K cls a d) := by
  intro pins s σ H xs us Q I r h
  obtain ⟨c, cv, b, D, rfl, C, hd, rfl, hcv, e, q⟩ := h
  cases r with
  | cons rx rr =>
    cases rr with
    | cons rt rr =>
      cases rr
      cases rx
      have ec := hcv _ rt
      subst ec
      obtain ⟨hget, _⟩ := I.pin (a, oe) (List.mem_append.mpr (.inl List.mem_cons_self))
      obtain ⟨vs, hv⟩ := hf
      obtain ⟨od, J⟩ : ∃ od, PySem.W.InstAt s.heap a oe D od := by
        rcases hd with rfl | ⟨dd, fs, rfl, ea⟩
        · exact ⟨none, hget, hz.1, by unfold PySem.W.notCls; rw [hv] <;> rfl, by rw [hz.2]; trivial⟩
        · obtain ⟨mA, hns, hr⟩ : ObjOk X.prog X.w H s.heap dd (.xd fs) := I.hok dd _ ea
          obtain ⟨od, ho, hl⟩ := lookIn_ns hns
          exact ⟨some od, hget, hz.1, by unfold PySem.W.notCls; rw [hv] <;> rfl, by rw [hz.2]; exact ho⟩
      have hcl : (PySem.W.clsIn X.K D).isSome = true := by
        obtain ⟨cd, hc, _⟩ := PySem.W.any_some C.hd
        rw [hc]
        rfl
      exact PySem.W.kia_one (PySem.W.kitx_exc hcl C.hg C.hk C.hs C.ha C.hn C.ht C.hm) I.kIn J e (fun z => nomatch z) fun tk => ⟨.bl b, H, I.kept (t' := tk) fun _ _ z => z, rfl, q⟩
def IsxT (K : PySem.W.Frag) (CT : Nat → Addr) (cv : Value) (tbl : List (Nat × Bool)) : Prop := ∀ p ∈ tbl, ExcC K (CT p.1) ∧ PySem.W.kitOne K (.ref (CT p.1)) cv = some p.2
theorem xe_isx {a : Addr} {oe : Obj} {cls : Value} {d : Option Addr} {pn : List (Addr × Obj)} {v : V} {cv : Value} {n x : Str} {tbl : List (Nat × Bool)} {p1 p2 : Pos} (T : IsxT X.K B.W.CT cv tbl) (hz : Zc cls d oe) (hf : ∃ vs, oe.data = .fields vs) (i : Nat)
    (hm : X.mg n = none) (hbo : bootBuiltins n = some (.builtin "isinstance")) (hcv : ∀ u, RelV v u → u = cv) (hb : XE (B.curr a cls d) (X.suite a ((a, oe) :: pn)) Wx b (rC (.val v)))
    (hN : X.N[i]? = some x := by rfl) (hv : Vis X.env.scope x := by first | exact Or.inl rfl | exact Or.inr (Or.inl rfl) | exact Or.inr (Or.inr rfl)) (hd : (x == ("__debug__" : Str)) = false := by decide)
    (hcd : (x == ("__classdict__" : Str)) = false := by decide) (hg : Gl X n := by rfl) (hn : n ≠ "__name__" := by decide) (hdb : (n == ("__debug__" : Str)) = false := by decide)
    (he : starEach [.Name x p1, b] X.env = (false, eval (.Name x p1) X.env) :: starEach [b] X.env := by rfl) (he2 : starEach [b] X.env = (false, eval b X.env) :: starEach [] X.env := by rfl) (hpl : (backTo pos (starEach [b] X.env)).any (·.1) = false := by rfl) :
    XE (B.curr a cls d) (X.suite a ((a, oe) :: pn)) Wx (.Call (.Name n p2) [.Name x p1, b] [] pos) (rIsX tbl i) := by
  obtain ⟨tb, hb, eb⟩ := hb.ex
  refine ⟨_, pe_callB (X := X.suite a ((a, oe) :: pn)) (call_isEd hz hf) hg hm hbo (pa_cons (pe_var (X := X.suite a ((a, oe) :: pn)) (pos := p1) (i := i) hN hv hd hcd) (pa_cons hb pa_nil he2) he) hn hdb he hpl, fun S σ H G Q E k O q ke kx => ?_⟩
  unfold rIsX at q
  cases hg : G[i]? with
  | none => rw [hg] at q; exact q.elim
  | some g =>
    rw [hg] at q
    cases g <;> first | exact False.elim q | skip
    rename_i c ds
    dsimp only at q
    cases hm : tbl.lookup c with
    | none => rw [hm] at q; exact q.elim
    | some bb =>
      rw [hm] at q
      obtain ⟨k1, k2⟩ := T _ (lookup_mem hm)
      obtain ⟨o, eo, a', cls', dd, ec, rfl, e1, e2, e3⟩ := O.get hg
      cases ec
      refine ⟨_, eo, ?_⟩
      refine eb S σ H G (fun y => y = .val v) E _ O rfl (fun w H2 dw f2 r2 q2 => ?_) kx
      subst q2
      simp only [Rep] at r2
      subst r2
      refine ⟨_, cv, bb, _, e1, k1, ?_, rfl, hcv, k2, ke _ H2 _ f2 mkB q⟩
      rcases (ExOk.fut (W := (B.curr a cls d).W.at S) ⟨e1, e2, e3⟩ O.wok f2).2.2 with z | ⟨d', fs, ed, n', eh, _⟩
      · exact .inl z.1
      · exact .inr ⟨d', fs, ed, eh⟩
end
end Pu
namespace Pu
open PySem PySem.Spec PyProof.Rows L2
/-! ## what an evaluation needs, in one form -/
/-- no own thing stands at q -/
def NoOwn (σ : L2.St) (G : List Sl) (q : Addr) : Prop := ∀ (i : Nat) (g : Sl), G[i]? = some g → g.isOwn = true → σ[i]? ≠ some (some (.ref q))
def canE (B : Bs) (Wx : WX) (p : XP) : TE := fun σ H k => ∃ S G Q E, Ok B S σ H G ∧ p G Q E ∧ KE (B.W.at S) H Q k ∧ KX (B.W.at S) σ H E Wx
def canT (B : Bs) (Wx : WX) (p : XTp) : TT := fun σ H k => ∃ S G Q E, Ok B S σ H G ∧ p G Q E ∧ KT (B.W.at S) H Q k ∧ KX (B.W.at S) σ H E Wx
def canG (B : Bs) (vs : List Nat) (g : XGp) : TG := fun v σ H k => ∃ S G d Q, Ok B S σ H G ∧ Rep (B.W.at S) H d v ∧ g d G Q ∧ ∀ σ' H' G', Ok B S σ' H' G' → Fut (B.W.at S) H H' → wipe σ' vs = wipe σ vs → (∀ q, NoOwn σ G q → NoOwn σ' G' q) → Q G' → k σ' H'
def canI (B : Bs) (Wx : WX) (q : XAp) : TI := fun σ H R => ∃ S G Q E, Ok B S σ H G ∧ q G Q E ∧ (∀ J H1 ds, Fut (B.W.at S) H H1 → Wk B.W S H1 J ds → Q ds → R J H1) ∧ KX (B.W.at S) σ H E Wx
section
variable {B : Bs} {X : Cx} {Wx : WX} {e tg iter : Expr} {p : XP} {q : XAp} {c : XTp}
theorem XE.can (h : XE B X Wx e p) : PE X e (canE B Wx p) := by
  obtain ⟨t, h, ev⟩ := h.ex
  exact ⟨fun pins s σ H Q I ⟨S, G, Qd, E, O, q, ke, kx⟩ => h.run pins s σ H Q I (ev S σ H G Qd E Q O q ke kx)⟩
theorem XT.can (h : XT B X Wx e c) : PT X e (canT B Wx c) := by
  obtain ⟨t, h, ev⟩ := h.ex
  exact ⟨fun pins s σ H Q I ⟨S, G, Qd, E, O, q, ke, kx⟩ => h.run pins s σ H Q I (ev S σ H G Qd E Q O q ke kx)⟩
theorem XI.can (h : XI B X Wx tg iter q) : PI X tg iter (canI B Wx q) := by
  obtain ⟨t, h, ev⟩ := h.ex
  exact ⟨fun pins s σ H Q I ⟨S, G, Qd, E, O, q, ke, kx⟩ => h.run pins s σ H Q I (ev S σ H G Qd E Q O q ke kx)⟩
end
/-- a target of a block: the slots vs -/
structure XV (B : Bs) (X : Cx) (vs : List Nat) (tg : Expr) (g : XGp) : Prop where
  run : PG X tg (canG B vs g)
structure XVs (B : Bs) (X : Cx) (vs : List Nat) (tg : List Expr) (g : XGsp) : Prop where
  ex : ∃ t, PGs X tg t ∧ ∀ S σ H G ds us Q (k : L2.St → Hp → Prop), Ok B S σ H G → Reps (B.W.at S) H ds us → g ds G Q → (∀ σ' H' G', Ok B S σ' H' G' → Fut (B.W.at S) H H' → wipe σ' vs = wipe σ vs → (∀ q, NoOwn σ G q → NoOwn σ' G' q) → Q G' → k σ' H') → t us σ H k
theorem wipe_set {i : Nat} {x : Option V} : ∀ {vs : List Nat} {σ : L2.St}, i ∈ vs → wipe (σ.set i x) vs = wipe σ vs
  | [], _, h => by cases h
  | v :: vs, σ, h => by
    unfold wipe
    by_cases hv : i ∈ vs
    · rw [wipe_set hv]
    · have e : v = i := by
        rcases List.mem_cons.mp h with e | e
        · exact e.symm
        · exact absurd e hv
      subst e
      have : ∀ {us : List Nat} {σ : L2.St}, v ∉ us → wipe (σ.set v x) us = (wipe σ us).set v x := by
        intro us
        induction us with
        | nil => intro σ _; rfl
        | cons u us ih =>
          intro σ hu
          have h1 : v ≠ u := fun z => hu (by rw [z]; exact List.mem_cons_self)
          have h2 : v ∉ us := fun z => hu (List.mem_cons_of_mem _ z)
          unfold wipe
          rw [ih h2, List.set_comm _ _ h1]
      rw [this hv, List.set_set]
theorem wipe_wipe (σ : L2.St) : ∀ vs : List Nat, wipe (wipe σ vs) vs = wipe σ vs := by
  intro vs
  have gen : ∀ (us ws : List Nat), (∀ u ∈ us, u ∈ ws) → ∀ σ : L2.St, wipe (wipe σ us) ws = wipe σ ws := by
    intro us
    induction us with
    | nil => intro ws _ σ; rfl
    | cons u us ih =>
      intro ws h σ
      show wipe ((wipe σ us).set u none) ws = _
      rw [wipe_set (h u List.mem_cons_self)]
      exact ih ws (fun x hx => h x (List.mem_cons_of_mem _ hx)) σ
  exact gen vs vs (fun _ h => h) σ
def wipeG (G : List Sl) : List Nat → List Sl
  | [] => G
  | v :: vs => (wipeG G vs).set v .no
section
variable {B : Bs} {S : Addr → Prop} {σ : L2.St} {H : Hp} {G : List Sl}
theorem Ok.wipe (O : Ok B S σ H G) : ∀ vs : List Nat, Ok B S (L2.wipe σ vs) H (wipeG G vs)
  | [] => O
  | v :: vs => (O.wipe vs).drop v none
/-- a hidden thing at q -/
theorem Ok.hide (O : Ok B S σ H G) {q : Addr} {u : HO} (hq : H q = none) : Ok B (fun a => S a ∨ a = q) σ (upd H q u) G := by
  have nl : nL B.W.L q := O.wok.nl (O.wok.new hq)
  have F : Fut (B.W.at S) H (upd H q u) := fut_new O.wok hq
  have k : ∀ a u', ¬ S a → H a = some u' → upd H q u a = some u' ∧ ¬ (S a ∨ a = q) := fun a u' n e => ⟨F.keep a u' e (O.wok.nl n), fun z => z.elim n fun z => by rw [z, hq] at e; cases e⟩
  refine ⟨⟨fun s l e => ⟨F.law s l e, .inl (O.wok.law s l e).2.1, .inl (O.wok.law s l e).2.2⟩, fun a h => ?_⟩, fun a o e n => F.keep a o (O.ext a o e n) n, fun a h => .inl (O.sub a h), fun a h => ?_, O.len, O.lw, fun i g o e1 e2 => ?_, O.inj⟩
  · rcases h with h | h
    · exact (O.wok.fut F).dom a h
    · rw [h, upd_same]
      exact ⟨_, rfl⟩
  · rcases h with h | h
    · exact O.new a h
    · refine .inr ?_
      cases e : B.H0 a with
      | none => rfl
      | some o =>
        have := O.ext a o e (by rw [h]; exact nl)
        rw [h, hq] at this
        cases this
  · exact (O.sl i g o e1 e2).mono k (fun _ z => .inl z) fun q' u' _ _ _ n e => F.keep q' u' e n
theorem Ok.noOwn (O : Ok B S σ H G) {q : Addr} (hq : H q = none) : NoOwn σ G q := fun i g e n z => by
  have base := O.sl i g _ e z
  cases g with
  | no => cases n
  | d d => cases n
  | own ds =>
    obtain ⟨q', vs', e', k1, _⟩ := base
    cases e'
    exact O.wok.new hq k1
  | obj c ds =>
    obtain ⟨q', dx', vs', e', _, k1, _⟩ := base
    cases e'
    exact O.wok.new hq k1
  | exc c ds => cases n
/-- the hidden thing has changed -/
theorem Ok.hid (O : Ok B S σ H G) {q : Addr} {u : HO} (sq : S q) (n0 : ¬ B.W.S q) (h0 : B.H0 q = none) (nl : nL B.W.L q) (no : NoOwn σ G q) : Ok B S σ (upd H q u) G := by
  have k : ∀ a w, ¬ S a → H a = some w → upd H q u a = some w ∧ ¬ S a := fun a w n z => ⟨by rw [upd_ne (show a ≠ q from fun y => n (by rw [y]; exact sq))]; exact z, n⟩
  refine ⟨⟨fun s l z => ?_, fun a h => ?_⟩, fun a o z n => ?_, O.sub, O.new, O.len, O.lw, fun i g o e1 e2 => ?_, O.inj⟩
  · obtain ⟨⟨z0, i', n', cs, z1⟩, z4⟩ := O.wok.law s l z
    obtain ⟨m1, m2⟩ := nl s l z
    exact ⟨⟨z0, i', n', cs, by rw [upd_ne (Ne.symm m1)]; exact z1⟩, z4⟩
  · by_cases ha : a = q
    · rw [ha, upd_same]
      exact ⟨_, rfl⟩
    · rw [upd_ne ha]
      exact O.wok.dom a h
  · have : a ≠ q := fun y => by rw [y, h0] at z; cases z
    rw [upd_ne this]
    exact O.ext a o z n
  · refine (O.sl i g o e1 e2).mono k (fun _ z => z) fun q' w o1 o2 _ n z => ?_
    subst o2
    have : q' ≠ q := fun y => no i g e1 o1 (by rw [← y]; exact e2)
    rw [upd_ne this]
    exact z
end
theorem NoOwn.drop {σ : L2.St} {G : List Sl} {q : Addr} (h : NoOwn σ G q) (i : Nat) {g0 : Sl} {o : Option V} (hg : g0.isOwn = false) : NoOwn (σ.set i o) (G.set i g0) q := fun j g e n => by
  by_cases hj : i = j
  · subst hj
    rw [List.getElem?_set] at e
    rw [if_pos rfl] at e
    split at e
    · cases e
      rw [hg] at n
      cases n
    · cases e
  · rw [List.getElem?_set_ne hj] at e ⊢
    exact h j g e n
theorem NoOwn.wipe {σ : L2.St} {G : List Sl} {q : Addr} (h : NoOwn σ G q) : ∀ vs : List Nat, NoOwn (L2.wipe σ vs) (wipeG G vs) q
  | [] => h
  | v :: vs => (h.wipe vs).drop v rfl
/-! ## list comprehensions -/
def lcP (g : XGp) (tt : XTp) (te : XP) (G0 : List Sl) : List D → List D → (List D → Prop) → Prop
  | [], acc, Q => Q acc
  | d :: ds, acc, Q => g d G0 (fun G2 => tt G2 (fun b => if b = true then te G2 (fun y => acc.length < 100000 ∧ lcP g tt te G0 ds (acc ++ [y]) Q) (fun _ => False) else lcP g tt te G0 ds acc Q) (fun _ => False))
def rLc (vs : List Nat) (it : XAp) (g : XGp) (tt : XTp) (te : XP) : XAp := fun G Q E => it G (fun ds => lcP g tt te (wipeG G vs) ds [] Q) E
def rYes : XTp := fun _ Q _ => Q true
def EvN (B : Bs) (Wx : WX) (t : TE) (p : XAp) : Prop := ∀ S σ H G Q E (k : VK), Ok B S σ H G → p G Q E → (∀ a vs H' ds, H a = none → Fut (B.W.at S) H H' → H' a = some (.lst vs) → Reps (B.W.at fun x => S x ∨ x = a) H' ds vs → Q ds → k (.ref a) H') → KX (B.W.at S) σ H E Wx → t σ H k
abbrev wx0 : WX := fun _ _ _ _ => False
theorem kx0 {W : Wd} {σ : L2.St} {H : Hp} : KX W σ H (fun _ => False) wx0 := fun _ _ _ _ _ _ z => z
theorem lc_ev {B : Bs} {Wx : WX} {wi : TI} {q : XAp} {g : XGp} {tt : XTp} {te : XP} {vs : List Nat} (ei : ∀ S σ H G Q E (R : It → Hp → Prop), Ok B S σ H G → q G Q E → (∀ J H1 ds, Fut (B.W.at S) H H1 → Wk B.W S H1 J ds → Q ds → R J H1) → KX (B.W.at S) σ H E Wx → wi σ H R) :
    EvN B Wx (tLc wi (canG B vs g) (canT B wx0 tt) (canE B wx0 te) vs) (rLc vs q g tt te) := by
  intro S σ H G Q E k O h hk kx
  refine ei S σ H G _ E _ O h (fun J H1 ds f wk hq D hD => ?_) kx
  have O1 := O.fut f
  have w1 := O1.wok
  have nl : nL B.W.L D := w1.nl (w1.new hD)
  have O2 : Ok B (fun a => S a ∨ a = D) (L2.wipe σ vs) (upd H1 D (.lst [])) (wipeG G vs) := (O1.wipe vs).hide hD
  have no : NoOwn (L2.wipe σ vs) (wipeG G vs) D := (O1.wipe vs).noOwn hD
  have n0 : ¬ B.W.S D := fun z => w1.new hD (O.sub D z)
  have h0 : B.H0 D = none := by
    rcases O2.new D (.inr rfl) with z | z
    · exact absurd z n0
    · exact z
  refine ⟨fun i m H' => m = ds.length - i ∧ i ≤ ds.length ∧ Ok B (fun a => S a ∨ a = D) (L2.wipe σ vs) H' (wipeG G vs) ∧ (∀ a o, H1 a = some o → nL B.W.L a → H' a = some o) ∧
    ∃ acc us, H' D = some (.lst us) ∧ Reps (B.W.at fun a => S a ∨ a = D) H' acc us ∧ lcP g tt te (wipeG G vs) (ds.drop i) acc Q, ⟨_, rfl, Nat.zero_le _, O2, fun a o e _ => ?_, [], [], upd_same, Reps.nil, hq⟩, ?_⟩
  · rw [upd_ne (ne_of_none e hD)]
    exact e
  rintro i m H' ⟨rfl, hi, O', kp, acc, us, eD, racc, hl⟩
  have pr : Pr S H1 (fun a => S a ∨ a = D) H' := fun a o n e => ⟨kp a o e (w1.nl n), fun z => z.elim n fun z => by rw [z, hD] at e; cases e⟩
  have wk' := wk (fun a => S a ∨ a = D) H' pr O'.wok i
  by_cases hlt : i < ds.length
  · refine .inr ?_
    have hdr : ds.drop i = ds[i] :: ds.drop (i + 1) := List.drop_eq_getElem_cons hlt
    rw [hdr] at hl
    obtain ⟨go, yl⟩ := wk'.1 ds[i] (List.getElem?_eq_getElem hlt)
    refine ⟨go, fun H3 => Ok B (fun a => S a ∨ a = D) (L2.wipe σ vs) H3 (wipeG G vs) ∧ (∀ a o, H1 a = some o → nL B.W.L a → H3 a = some o) ∧
      ∃ acc us, H3 D = some (.lst us) ∧ Reps (B.W.at fun a => S a ∨ a = D) H3 acc us ∧ lcP g tt te (wipeG G vs) (ds.drop (i + 1)) acc Q, fun H3 ⟨a1, a2, a3⟩ => ⟨ds.length - (i + 1), by omega, rfl, hlt, a1, a2, a3⟩, fun x H2 hy => ?_⟩
    obtain ⟨f2, r2⟩ := yl x H2 hy
    refine ⟨_, _, ds[i], _, O'.fut f2, r2, hl, fun σ3 H3 G3 O3 f3 ew no3' q3 => ⟨ew.trans (wipe_wipe σ vs), ?_⟩⟩
    refine ⟨_, _, _, _, O3, q3, fun b H4 f4 q4 => ?_, kx0⟩
    have f24 := (f2.trans f3).trans f4
    cases b with
    | true =>
      dsimp only at q4 ⊢
      rw [if_pos rfl] at q4 ⊢
      refine ⟨_, _, _, _, O3.fut f4, q4, fun y H5 dy f5 r5 q5 => ?_, kx0⟩
      have f25 := f24.trans f5
      have O5 := O'.fut f25
      have eD5 := f25.keep D _ eD nl
      refine ⟨us, eD5, Nat.lt_of_lt_of_le (by rw [racc.len]; exact q5.1) (le_line (Nat.le_refl _)), O5.hid (.inr rfl) n0 h0 nl no, fun a o e n => ?_, acc ++ [dy], us ++ [y], upd_same, ?_, q5.2⟩
      · rw [upd_ne (ne_of_none e hD)]
        exact f25.keep a o (kp a o e n) n
      · have rr := (racc.fut O'.wok f25).app (Reps.cons r5 Reps.nil)
        exact Reps.mono (W := B.W.at fun a => S a ∨ a = D) (fun b u n z => ⟨by rw [upd_ne (show b ≠ D from fun y => n (.inr y))]; exact z, n⟩) _ _ rr
    | false =>
      dsimp only at q4 ⊢
      rw [if_neg Bool.false_ne_true] at q4 ⊢
      exact ⟨O'.fut f24, fun a o e n => f24.keep a o (kp a o e n) n, acc, us, f24.keep D _ eD nl, racc.fut O'.wok f24, q4⟩
  · have e : i = ds.length := by omega
    have hdr : ds.drop i = [] := by rw [e, List.drop_length]
    rw [hdr] at hl
    refine .inl ⟨wk'.2 e, hk D us H' acc (f.free hD) ⟨fun a o ea n => kp a o (f.keep a o ea n) n, fun s l el => (O'.wok.law s l el).1⟩ eD racc hl⟩
/-- two clauses -/
def lcP2 (g : XGp) (tt : XTp) (it1 : XAp) (vs1 : List Nat) (g1 : XGp) (tt1 : XTp) (te : XP) (G0 : List Sl) : List D → List D → (List D → Prop) → Prop
  | [], acc, Q => Q acc
  | d :: ds, acc, Q => g d G0 (fun G2 => tt G2 (fun b => if b = true then it1 G2 (fun es => lcP g1 tt1 te (wipeG G2 vs1) es acc fun acc => lcP2 g tt it1 vs1 g1 tt1 te G0 ds acc Q) (fun _ => False) else lcP2 g tt it1 vs1 g1 tt1 te G0 ds acc Q) (fun _ => False))
def rLc2 (vs vs1 : List Nat) (it : XAp) (g : XGp) (tt : XTp) (it1 : XAp) (g1 : XGp) (tt1 : XTp) (te : XP) : XAp := fun G Q E => it G (fun ds => lcP2 g tt it1 vs1 g1 tt1 te (wipeG G vs) ds [] Q) E
theorem lc2_ev {B : Bs} {Wx : WX} {wi : TI} {q q1 : XAp} {g g1 : XGp} {tt tt1 : XTp} {te : XP} {vs vs1 : List Nat} (ei : ∀ S σ H G Q E (R : It → Hp → Prop), Ok B S σ H G → q G Q E → (∀ J H1 ds, Fut (B.W.at S) H H1 → Wk B.W S H1 J ds → Q ds → R J H1) → KX (B.W.at S) σ H E Wx → wi σ H R) :
    EvN B Wx (tLc2 wi (canG B vs g) (canT B wx0 tt) (canI B wx0 q1) (canG B vs1 g1) (canT B wx0 tt1) (canE B wx0 te) vs vs1) (rLc2 vs vs1 q g tt q1 g1 tt1 te) := by
  intro S σ H G Q E k O h hk kx
  refine ei S σ H G _ E _ O h (fun J H1 ds f wk hq D hD => ?_) kx
  have O1 := O.fut f
  have w1 := O1.wok
  have nl : nL B.W.L D := w1.nl (w1.new hD)
  have O2 : Ok B (fun a => S a ∨ a = D) (L2.wipe σ vs) (upd H1 D (.lst [])) (wipeG G vs) := (O1.wipe vs).hide hD
  have no : NoOwn (L2.wipe σ vs) (wipeG G vs) D := (O1.wipe vs).noOwn hD
  have n0 : ¬ B.W.S D := fun z => w1.new hD (O.sub D z)
  have h0 : B.H0 D = none := by
    rcases O2.new D (.inr rfl) with z | z
    · exact absurd z n0
    · exact z
  let Iv : Hp → (List Pu.D → Prop) → Prop := fun H3 R => Ok B (fun a => S a ∨ a = D) (L2.wipe σ vs) H3 (wipeG G vs) ∧ (∀ a o, H1 a = some o → nL B.W.L a → H3 a = some o) ∧ ∃ acc us, H3 D = some (.lst us) ∧ Reps (B.W.at fun a => S a ∨ a = D) H3 acc us ∧ R acc
  refine ⟨fun i m H' => m = ds.length - i ∧ i ≤ ds.length ∧ Iv H' fun acc => lcP2 g tt q1 vs1 g1 tt1 te (wipeG G vs) (ds.drop i) acc Q, ⟨_, rfl, Nat.zero_le _, O2, fun a o e _ => ?_, [], [], upd_same, Reps.nil, hq⟩, ?_⟩
  · rw [upd_ne (ne_of_none e hD)]
    exact e
  rintro i m H' ⟨rfl, hi, O', kp, acc, us, eD, racc, hl⟩
  have prOf : ∀ {H3 : Hp}, (∀ a o, H1 a = some o → nL B.W.L a → H3 a = some o) → Pr S H1 (fun a => S a ∨ a = D) H3 := fun {H3} kp a o n e => ⟨kp a o e (w1.nl n), fun z => z.elim n fun z => by rw [z, hD] at e; cases e⟩
  have wk' := wk (fun a => S a ∨ a = D) H' (prOf kp) O'.wok i
  by_cases hlt : i < ds.length
  · refine .inr ?_
    have hdr : ds.drop i = ds[i] :: ds.drop (i + 1) := List.drop_eq_getElem_cons hlt
    rw [hdr] at hl
    obtain ⟨go, yl⟩ := wk'.1 ds[i] (List.getElem?_eq_getElem hlt)
    refine ⟨go, fun H3 => Iv H3 fun acc => lcP2 g tt q1 vs1 g1 tt1 te (wipeG G vs) (ds.drop (i + 1)) acc Q, fun H3 h3 => ⟨ds.length - (i + 1), by omega, rfl, hlt, h3⟩, fun x H2 hy => ?_⟩
    obtain ⟨f2, r2⟩ := yl x H2 hy
    refine ⟨_, _, ds[i], _, O'.fut f2, r2, hl, fun σ3 H3 G3 O3 f3 ew no3' q3 => ⟨ew.trans (wipe_wipe σ vs), ?_⟩⟩
    refine ⟨_, _, _, _, O3, q3, fun b H4 f4 q4 => ?_, kx0⟩
    have f24 := (f2.trans f3).trans f4
    cases b with
    | true =>
      dsimp only at q4 ⊢
      rw [if_pos rfl] at q4 ⊢
      have O4 := O3.fut f4
      refine ⟨_, _, _, _, O4, q4, fun J1 H5 es f5 wk5 q5 => ?_, kx0⟩
      have f25 := f24.trans f5
      have O5 : Ok B (fun a => S a ∨ a = D) (L2.wipe σ3 vs1) H5 (wipeG G3 vs1) := (O4.fut f5).wipe vs1
      have no3 : NoOwn (L2.wipe σ3 vs1) (wipeG G3 vs1) D := (no3' D no).wipe vs1
      have eD5 := f25.keep D _ eD nl
      refine ⟨fun j m H6 => m = es.length - j ∧ j ≤ es.length ∧ Ok B (fun a => S a ∨ a = D) (L2.wipe σ3 vs1) H6 (wipeG G3 vs1) ∧ Ok B (fun a => S a ∨ a = D) (L2.wipe σ vs) H6 (wipeG G vs) ∧ (∀ a o, H5 a = some o → a ≠ D → nL B.W.L a → H6 a = some o) ∧ ∃ acc us, H6 D = some (.lst us) ∧ Reps (B.W.at fun a => S a ∨ a = D) H6 acc us ∧
        lcP g1 tt1 te (wipeG G3 vs1) (es.drop j) acc fun acc => lcP2 g tt q1 vs1 g1 tt1 te (wipeG G vs) (ds.drop (i + 1)) acc Q, ⟨_, rfl, Nat.zero_le _, O5, O'.fut f25, fun a o e _ _ => e, acc, us, eD5, racc.fut O'.wok f25, q5⟩, ?_⟩
      rintro j m H6 ⟨rfl, hj, O6, O6', kp6, acc6, us6, eD6, racc6, hl6⟩
      have pr6 : Pr (fun a => S a ∨ a = D) H5 (fun a => S a ∨ a = D) H6 := fun a o n e => ⟨kp6 a o e (fun z => n (.inr z)) ((O'.fut f25).wok.nl n), n⟩
      have wk6 := wk5 (fun a => S a ∨ a = D) H6 pr6 O6.wok j
      by_cases hlt6 : j < es.length
      · refine .inr ?_
        have hdr6 : es.drop j = es[j] :: es.drop (j + 1) := List.drop_eq_getElem_cons hlt6
        rw [hdr6] at hl6
        obtain ⟨go6, yl6⟩ := wk6.1 es[j] (List.getElem?_eq_getElem hlt6)
        refine ⟨go6, fun H7 => Ok B (fun a => S a ∨ a = D) (L2.wipe σ3 vs1) H7 (wipeG G3 vs1) ∧ Ok B (fun a => S a ∨ a = D) (L2.wipe σ vs) H7 (wipeG G vs) ∧ (∀ a o, H5 a = some o → a ≠ D → nL B.W.L a → H7 a = some o) ∧ ∃ acc us, H7 D = some (.lst us) ∧ Reps (B.W.at fun a => S a ∨ a = D) H7 acc us ∧
          lcP g1 tt1 te (wipeG G3 vs1) (es.drop (j + 1)) acc fun acc => lcP2 g tt q1 vs1 g1 tt1 te (wipeG G vs) (ds.drop (i + 1)) acc Q, fun H7 h7 => ⟨es.length - (j + 1), by omega, rfl, hlt6, h7⟩, fun x H7 hy => ?_⟩
        obtain ⟨f7, r7⟩ := yl6 x H7 hy
        refine ⟨_, _, es[j], _, O6.fut f7, r7, hl6, fun σ8 H8 G8 O8 f8 ew8 _ q8 => ⟨ew8.trans (wipe_wipe σ3 vs1), ?_⟩⟩
        refine ⟨_, _, _, _, O8, q8, fun b H9 f9 q9 => ?_, kx0⟩
        have f79 := (f7.trans f8).trans f9
        cases b with
        | true =>
          dsimp only at q9 ⊢
          rw [if_pos rfl] at q9 ⊢
          refine ⟨_, _, _, _, O8.fut f9, q9, fun y H10 dy f10 r10 q10 => ?_, kx0⟩
          have g10 := f79.trans f10
          refine ⟨us6, g10.keep D _ eD6 nl, Nat.lt_of_lt_of_le (by rw [racc6.len]; exact q10.1) (le_line (Nat.le_refl _)), (O6.fut g10).hid (.inr rfl) n0 h0 nl no3, (O6'.fut g10).hid (.inr rfl) n0 h0 nl no, fun a o e nd n => ?_, acc6 ++ [dy], us6 ++ [y], upd_same, ?_, q10.2⟩
          · rw [upd_ne nd]
            exact g10.keep a o (kp6 a o e nd n) n
          · have rr := (racc6.fut O6.wok g10).app (Reps.cons r10 Reps.nil)
            exact Reps.mono (W := B.W.at fun a => S a ∨ a = D) (fun b u n z => ⟨by rw [upd_ne (show b ≠ D from fun y => n (.inr y))]; exact z, n⟩) _ _ rr
        | false =>
          dsimp only at q9 ⊢
          rw [if_neg Bool.false_ne_true] at q9 ⊢
          exact ⟨O6.fut f79, O6'.fut f79, fun a o e nd n => f79.keep a o (kp6 a o e nd n) n, acc6, us6, f79.keep D _ eD6 nl, racc6.fut O6.wok f79, q9⟩
      · have e6 : j = es.length := by omega
        have hdr6 : es.drop j = [] := by rw [e6, List.drop_length]
        rw [hdr6] at hl6
        refine .inl ⟨wk6.2 e6, O6', fun a o e n => ?_, acc6, us6, eD6, racc6, hl6⟩
        exact kp6 a o (f25.keep a o (kp a o e n) n) (ne_of_none e hD) n
    | false =>
      dsimp only at q4 ⊢
      rw [if_neg Bool.false_ne_true] at q4 ⊢
      exact ⟨O'.fut f24, fun a o e n => f24.keep a o (kp a o e n) n, acc, us, f24.keep D _ eD nl, racc.fut O'.wok f24, q4⟩
  · have e : i = ds.length := by omega
    have hdr : ds.drop i = [] := by rw [e, List.drop_length]
    rw [hdr] at hl
    refine .inl ⟨wk'.2 e, hk D us H' acc (f.free hD) ⟨fun a o ea n => kp a o (f.keep a o ea n) n, fun s l el => (O'.wok.law s l el).1⟩ eD racc hl⟩
/-! rules -/
section
variable {B : Bs} {X : Cx} {Wx : WX} {a b c e tg iter tg1 iter1 elt : Expr} {es ifs ifs1 : List Expr} {pa pb pc te : XP} {pos py spos : Pos} {pas q q1 : XAp} {tt tt1 : XTp} {g g1 : XGp} {gs : XGsp} {vs vs1 : List Nat} {scope : Scope} {own : List (Str × Nat)}
theorem xv_name (i : Nat) {x : Str} (hN : X.N.Nodup) (hi : X.N[i]? = some x := by rfl) (hx : Loc X.env.scope x := by first | exact Or.inl rfl | exact Or.inr rfl) (hf : X.fn x = true ∨ X.env.scope.names.lookup x = some .local := by first | exact .inl rfl | exact .inr rfl | assumption) (hm : i ∈ vs := by decide) : XV B X vs (.Name x pos) (gN i) :=
  ⟨⟨fun pins s σ H v u Q I r ⟨S, G, d, Qd, O, rv, q, hk⟩ => (pg_name hN hi hx hf).run pins s σ H v u Q I r (hk _ H _ (O.set i rv) (Fut.refl O.wok) (wipe_set hm) (fun q h => h.drop i rfl) q)⟩⟩
theorem xvs_nil : XVs B X vs [] gsN := ⟨gNil, pgs_nil, fun S σ H G ds us Q k O r q h => by
  cases ds with
  | nil =>
    simp only [Reps] at r
    exact ⟨r, h σ H G O (Fut.refl O.wok) rfl (fun _ h => h) q⟩
  | cons d ds => exact False.elim q⟩
theorem xvs_cons (h1 : XV B X vs e g) (h2 : XVs B X vs es gs)
    (h : (assignEach (e :: es) X.env).map (·.2) = assign e X.env :: (assignEach es X.env).map (·.2) := by rfl) : XVs B X vs (e :: es) (gsC g gs) := by
  obtain ⟨u, h2, e2⟩ := h2.ex
  refine ⟨gCons (canG B vs g) u, by first | exact pgs_cons h1.run h2 h | exact pgs_cons h1.run h2, fun S σ H G ds us Q k O r q h => ?_⟩
  cases ds with
  | nil => exact False.elim q
  | cons d ds =>
    simp only [Reps] at r
    obtain ⟨v, r', rfl, r1, r2⟩ := r
    refine ⟨v, r', rfl, S, G, d, _, O, r1, q, fun σ' H' G' O' f w n q' => ?_⟩
    exact e2 S σ' H' G' ds r' Q k O' (r2.fut O.wok f) q' fun σ2 H2 G2 O2 f2 w2 n2 q2 => h σ2 H2 G2 O2 (f.trans f2) (w2.trans w) (fun q hq => n2 q (n q hq)) q2
theorem xv_tup {kk n : Nat} (hc : X.calm = true) (h : XVs B X vs es gs) (hn : (assignEach es X.env).length = n := by rfl) (hst : (assignEach es X.env).findIdx? (·.1) = none := by rfl) : XV B X vs (.Tuple es kk pos) (gU n gs) := by
  obtain ⟨t, h, ev⟩ := h.ex
  have h1 := pg_tup (pos := pos) (k := kk) hc h hn hst
  have h2 := pg_unl (pos := pos) (k := kk) hc h hn hst
  refine ⟨⟨fun pins s σ H v u Q I r ⟨S, G, d, Qd, O, rv, q, hk⟩ => ?_⟩⟩
  cases d <;> first | exact False.elim q | skip
  · obtain ⟨p, ws, rfl, n1, e1, z1⟩ := repL rv
    exact h2.run pins s σ H _ u Q I r ⟨p, ws, rfl, SqL.of e1, by rw [z1.len]; exact q.1, ev S σ H G _ ws Qd _ O z1 q.2 hk⟩
  · obtain ⟨p, ws, rfl, n1, e1, z1⟩ := repT rv
    exact h1.run pins s σ H _ u Q I r ⟨p, ws, rfl, (.inl e1), by rw [z1.len]; exact q.1, ev S σ H G _ ws Qd _ O z1 q.2 hk⟩
/-- a clause's tests -/
structure XTs (B : Bs) (X : Cx) (ifs : List Expr) (t : XTp) : Prop where
  run : PTs X ifs (canT B wx0 t)
theorem xts_nil : XTs B X [] rYes := ⟨⟨fun _ _ _ H _ I ⟨_, _, _, _, O, q, kt, _⟩ => wpAny_tests_nil ⟨H, I, kt true H (Fut.refl O.wok) q⟩⟩⟩
theorem xts_one (h : XT B X wx0 c tt) : XTs B X [c] tt := ⟨pts_one h.can⟩
abbrev Blk (X : Cx) (scope : Scope) (P : Cx → Prop) : Prop := ∀ (s : Shared) (H : Hp) (C : Addr) (cl : List (Str × Addr)) (fp : List Addr), P (X.blk s H scope (compEnvC scope cl C X.env) fp)
theorem xn_lc (hc : X.calm = true) (hN : X.N.Nodup) (hi : XI B X Wx tg iter q) (ok : BlkOk X.N X.env.scope scope own) (hg : Blk X scope fun Y => XV B Y (own.map (·.2)) tg g) (ht : Blk X scope fun Y => XTs B Y ifs tt) (he : Blk X scope fun Y => XE B Y wx0 elt te)
    (hs : ∀ x, foldedSetIterable iter X.env x = pure x := by intro _; rfl) : XN B X Wx (.ListComp elt [⟨tg, iter, ifs, 0⟩] scope pos) (rLc (own.map (·.2)) q g tt te) := by
  obtain ⟨wi, hi, ei⟩ := hi.ex
  exact ⟨_, pe_lc hc hN hi ok (fun s H C cl fp => (hg s H C cl fp).run) (fun s H C cl fp => (ht s H C cl fp).run) (fun s H C cl fp => (he s H C cl fp).can) hs, lc_ev ei⟩
theorem xn_lc2 (hc : X.calm = true) (hN : X.N.Nodup) (hi : XI B X Wx tg iter q) (ok : BlkOk X.N X.env.scope scope own) (hv : ∀ i ∈ vs1, i ∈ own.map (·.2)) (hg : Blk X scope fun Y => XV B Y (own.map (·.2)) tg g) (ht : Blk X scope fun Y => XTs B Y ifs tt) (hi1 : Blk X scope fun Y => XI B Y wx0 tg1 iter1 q1)
    (hg1 : Blk X scope fun Y => XV B Y vs1 tg1 g1) (ht1 : Blk X scope fun Y => XTs B Y ifs1 tt1) (he : Blk X scope fun Y => XE B Y wx0 elt te)
    (hs : ∀ x, foldedSetIterable iter X.env x = pure x := by intro _; rfl) (hs1 : ∀ env x, foldedSetIterable iter1 env x = pure x := by intro _ _; rfl) : XN B X Wx (.ListComp elt [⟨tg, iter, ifs, 0⟩, ⟨tg1, iter1, ifs1, 0⟩] scope pos) (rLc2 (own.map (·.2)) vs1 q g tt q1 g1 tt1 te) := by
  obtain ⟨wi, hi, ei⟩ := hi.ex
  exact ⟨_, pe_lc2 hc hN hi ok hv (fun s H C cl fp => (hg s H C cl fp).run) (fun s H C cl fp => (ht s H C cl fp).run) (fun s H C cl fp => (hi1 s H C cl fp).can) (fun s H C cl fp => (hg1 s H C cl fp).run) (fun s H C cl fp => (ht1 s H C cl fp).run) (fun s H C cl fp => (he s H C cl fp).can) hs hs1, lc2_ev ei⟩
/-- a new list as a datum -/
def rNew (a : XAp) : XP := fun G Q E => a G (fun ds => Q (.lst ds)) E
theorem XN.xe (h : XN B X Wx e pas) : XE B X Wx e (rNew pas) := by
  obtain ⟨t, h, ev⟩ := h.ex
  refine ⟨t, h, fun S σ H G Q E k O q ke kx => ev S σ H G _ E k O q (fun a us H' ds hn f e r hq => ?_) kx⟩
  exact ke _ H' _ f (mkL (O.wok.new hn) e (Reps.mono (W := B.W.at fun x => S x ∨ x = a) (S := S) (fun b u n z => ⟨z, fun y => n (.inl y)⟩) _ _ r)) hq
/-! name = [..] on one line -/
theorem evn_set {t : TE} {i : Nat} (ev : EvN B Wx t pas) : EvS B Wx (tAsg t (gName i)) (fun G P => pas G (fun ds => P.nx (G.set i (.d (.lst ds)))) fun e => P.ex e G) := fun S σ H G P D O q k =>
  ev S σ H G _ _ _ O q (fun a us H' ds hn f e r hq => k.nx S _ H' _ ((O.fut f).set i (mkL (O.wok.new hn) e (Reps.mono (W := B.W.at fun x => S x ∨ x = a) (S := S) (fun b u n z => ⟨z, fun y => n (.inl y)⟩) _ _ r))) hq) (k.kx O)
theorem evn_own {t : TE} {i : Nat} (ev : EvN B Wx t pas) : EvS B Wx (tAsg t (gName i)) (rOwnSet i pas) := fun S σ H G P D O q k =>
  ev S σ H G _ _ _ O q (fun a us H' ds hn f e r hq => by
    have nl : nL B.W.L a := O.wok.nl (O.wok.new hn)
    have na : ¬ B.W.S a := fun z => O.wok.new hn (O.sub a z)
    exact k.nx _ _ H' _ (O.keep i (g := .own ds) hn f.keep f.law ⟨_, e⟩ nl ⟨a, us, rfl, .inr rfl, na, nl, e, r⟩) hq) (k.kx O)
def rSetN (i : Nat) (a : XAp) : XSp := fun G P => a G (fun ds => P.nx (G.set i (.d (.lst ds)))) fun e => P.ex e G
theorem xs_lc (i : Nat) {y : Str} (hc : X.calm = true) (hN : X.N.Nodup) (hi : XI B X Wx tg iter q) (ok : BlkOk X.N X.env.scope scope own) (hg : Blk X scope fun Y => XV B Y (own.map (·.2)) tg g) (ht : Blk X scope fun Y => XTs B Y ifs tt) (he : Blk X scope fun Y => XE B Y wx0 elt te)
    (hy : X.N[i]? = some y := by rfl) (hyl : X.env.scope.names.lookup y = some .local := by rfl) (hsw : swapsWith (.ListComp elt [⟨tg, iter, ifs, 0⟩] scope pos) (some (.Name y py)) spos.line X.env = pure true := by rfl)
    (hs : ∀ x, foldedSetIterable iter X.env x = pure x := by intro _; rfl) : XS B X Wx (.Assign [.Name y py] (.ListComp elt [⟨tg, iter, ifs, 0⟩] scope pos) spos) (rSetN i (rLc (own.map (·.2)) q g tt te)) ∧
      XS B X Wx (.Assign [.Name y py] (.ListComp elt [⟨tg, iter, ifs, 0⟩] scope pos) spos) (rOwnSet i (rLc (own.map (·.2)) q g tt te)) := by
  obtain ⟨wi, hi, ei⟩ := hi.ex
  have hp := ps_setLc (py := py) (spos := spos) hc hN hy hyl hsw hi ok (fun s H C cl fp => (hg s H C cl fp).run) (fun s H C cl fp => (ht s H C cl fp).run) (fun s H C cl fp => (he s H C cl fp).can) hs
  exact ⟨⟨_, hp, evn_set (lc_ev ei)⟩, ⟨_, hp, evn_own (lc_ev ei)⟩⟩
theorem xs_lc2 (i : Nat) {y : Str} (hc : X.calm = true) (hN : X.N.Nodup) (hi : XI B X Wx tg iter q) (ok : BlkOk X.N X.env.scope scope own) (hv : ∀ i ∈ vs1, i ∈ own.map (·.2)) (hg : Blk X scope fun Y => XV B Y (own.map (·.2)) tg g) (ht : Blk X scope fun Y => XTs B Y ifs tt) (hi1 : Blk X scope fun Y => XI B Y wx0 tg1 iter1 q1)
    (hg1 : Blk X scope fun Y => XV B Y vs1 tg1 g1) (ht1 : Blk X scope fun Y => XTs B Y ifs1 tt1) (he : Blk X scope fun Y => XE B Y wx0 elt te)
    (hy : X.N[i]? = some y := by rfl) (hyl : X.env.scope.names.lookup y = some .local := by rfl) (hsw : swapsWith (.ListComp elt [⟨tg, iter, ifs, 0⟩, ⟨tg1, iter1, ifs1, 0⟩] scope pos) (some (.Name y py)) spos.line X.env = pure true := by rfl)
    (hs : ∀ x, foldedSetIterable iter X.env x = pure x := by intro _; rfl) (hs1 : ∀ env x, foldedSetIterable iter1 env x = pure x := by intro _ _; rfl) :
    XS B X Wx (.Assign [.Name y py] (.ListComp elt [⟨tg, iter, ifs, 0⟩, ⟨tg1, iter1, ifs1, 0⟩] scope pos) spos) (rSetN i (rLc2 (own.map (·.2)) vs1 q g tt q1 g1 tt1 te)) ∧
      XS B X Wx (.Assign [.Name y py] (.ListComp elt [⟨tg, iter, ifs, 0⟩, ⟨tg1, iter1, ifs1, 0⟩] scope pos) spos) (rOwnSet i (rLc2 (own.map (·.2)) vs1 q g tt q1 g1 tt1 te)) := by
  obtain ⟨wi, hi, ei⟩ := hi.ex
  have hp := ps_setLc2 (py := py) (spos := spos) hc hN hy hyl hsw hi ok hv (fun s H C cl fp => (hg s H C cl fp).run) (fun s H C cl fp => (ht s H C cl fp).run) (fun s H C cl fp => (hi1 s H C cl fp).can) (fun s H C cl fp => (hg1 s H C cl fp).run) (fun s H C cl fp => (ht1 s H C cl fp).run) (fun s H C cl fp => (he s H C cl fp).can) hs hs1
  exact ⟨⟨_, hp, evn_set (lc2_ev ei)⟩, ⟨_, hp, evn_own (lc2_ev ei)⟩⟩
end
end Pu
namespace Pu
open PySem PySem.Spec PyProof.Rows L2
/-! ## tuples whose place in the heap is known -/
def wk : D → D
  | .ftp ds => .tup ds
  | d => d
theorem Rep.wk {W : Wd} {H : Hp} {d : D} {v : V} (h : Rep W H d v) : Rep W H (Pu.wk d) v := by
  cases d <;> first | exact h | exact h.thaw
def rWk (a : XP) : XP := fun G Q E => a G (fun d => Q (wk d)) E
/-- tuple(list), its place known -/
def oFtup : DFn := fun xs Q _ => match xs with
  | [.lst ds] => Q (.ftp ds)
  | _ => False
def findD (ds : List D) (x : D) : Option Nat := ds.findIdx? fun d => deq d x
/-- t.index(x), t a tuple whose place is known -/
def rIndexT (a b : XP) : XP := fun G Q E => a G (fun x => match x with
  | .ftp ds => b G (fun y => pl 50 y = true ∧ ds.all (pl 50) = true ∧ ∃ j, findD ds y = some j ∧ Q (.int (j : Int))) E
  | _ => False) E
def rIndexL (a b : XP) : XP := fun G Q E => a G (fun x => match x with
  | .lst ds => b G (fun y => pl 50 y = true ∧ ds.all (pl 50) = true ∧ ∃ j, findD ds y = some j ∧ Q (.int (j : Int))) E
  | _ => False) E
theorem findD_at {ds : List D} {x : D} {j : Nat} (h : findD ds x = some j) : (∃ d, ds[j]? = some d ∧ deq d x = true) ∧ ∀ m d, m < j → ds[m]? = some d → deq d x = false := by
  unfold findD at h
  obtain ⟨h1, h2, h3⟩ := List.findIdx?_eq_some_iff_getElem.mp h
  refine ⟨⟨ds[j], List.getElem?_eq_getElem h1, h2⟩, fun m d hm e => ?_⟩
  have hl : m < ds.length := by omega
  rw [List.getElem?_eq_getElem hl] at e
  cases e
  simpa using h3 m hm
section
variable {B : Bs} {X : Cx} {Wx : WX} {a b c e o : Expr} {es : List Expr} {pa pb pc : XP} {pos p p2 apos cpos : Pos} {pas : XAp}
theorem xe_wk (h : XE B X Wx e pa) : XE B X Wx e (rWk pa) := by
  obtain ⟨t, h, ev⟩ := h.ex
  exact ⟨t, h, fun S σ H G Q E k O q ke kx => ev S σ H G _ E k O q (fun v H' d f r q => ke v H' (wk d) f r.wk q) kx⟩
theorem call_ftup : CallR X (.type "tuple") (fun xs H Q => ∃ p ys, xs = [.ref p] ∧ SqL X.K H p ys ∧ ∀ l o, H l = none → o.dict = none → Q (.ref l) (upd H l (.frz o (.tup ys)))) := by
  intro pins s σ H xs us Q I r h
  obtain ⟨p, ys, rfl, hq, q⟩ := h
  obtain ⟨u, rfl, rx⟩ := vals1 r
  cases rx
  obtain ⟨its, r', pl, hz⟩ := I.list hq
  have hlen := r'.length
  refine call_tuple_list pl.isList (fun h' kp => ?_) (by simp only [List.size_toArray] <;> omega)
  have I1 : Inv X pins σ H { s with heap := h' } := I.kept (t' := s.toks) kp
  have I2 : Inv X pins σ (upd H h'.objs.size (.frz { cls := .type "tuple", data := .seq its.toArray } (.tup ys))) { s with heap := h'.push { cls := .type "tuple", data := .seq its.toArray } } :=
    I1.laid (t' := s.toks) (fun b o e => Heap.get?_push_of_some _ e) (Nat.le_refl _) (show ObjOk X.prog X.w _ _ _ (.frz _ (.tup ys)) from ⟨Heap.get?_push_size _ rfl, hz, its, r', IsTup.new _ _⟩)
  exact ⟨.ref h'.objs.size, _, I2, rfl, q _ _ (I1.hok.fresh (Nat.le_refl _)) rfl⟩
theorem xf_ftup : XF B X Wx (.type "tuple") oFtup := ⟨_, call_ftup, fun S H xs dxs Q E k w r q ke => by
  cases dxs with
  | nil => exact False.elim q
  | cons d ds =>
    cases ds with
    | cons d2 ds => cases d <;> exact False.elim q
    | nil =>
      obtain ⟨v, rfl, r9⟩ := reps1 r
      cases d <;> first | exact False.elim q | skip
      obtain ⟨a, vs, rfl, n, e1, z⟩ := repL r9
      refine ⟨a, vs, rfl, SqL.of e1, fun l o hl hd => ?_⟩
      have g := fut_new (o := .frz o (.tup vs)) w hl
      refine ke _ _ _ g ?_ q
      simp only [Rep]
      exact ⟨l, vs, o, rfl, w.new hl, hd, upd_same, z.fut w g⟩⟩
/-! ### methods of tuples and lists -/
def tTM (r : V → List V → Hp → VK → Prop) (to : TE) (t : TA) : TE := fun σ H Q => to σ H fun x H1 => (∃ p o vs, x = .ref p ∧ o.dict = none ∧ H1 p = some (.frz o (.tup vs))) ∧ t σ H1 fun xs H2 => r x xs H2 Q
theorem pe_tm {name : Str} {id : String} {to : TE} {t : TA} {r : V → List V → Hp → VK → Prop} (slot : Slot "tuple" name id) (hty : typeOf (.builtin id) = pure (.type "method_descriptor")) (hm : MtR X id r) (ho : PE X o to) (ha : PA X (e :: es) t)
    (hbase : attributeBase o name X.env (eval o X.env) = eval o X.env := by rfl)
    (hfew : ((backTo cpos (starEach (e :: es) X.env)).all (fun x => !x.1) && (backToKw cpos (keywordEach [] X.env)).all (fun x => x.1.isSome)
      && decide ((e :: es).length + ([] : List Keyword).length + (if ([] : List Keyword).isEmpty then 0 else 1) < 30)) = true := by rfl)
    (hline : (apos.endLine == cpos.line) = true := by rfl) (hs : starEach (e :: es) X.env = (false, eval e X.env) :: starEach es X.env := by rfl) (hplain : (backTo cpos (starEach es X.env)).any (·.1) = false := by rfl) :
    PE X (.Call (.Attribute o name apos) (e :: es) [] cpos) (tTM r to t) := by
  refine ⟨fun pins s σ H Q I h => ?_⟩
  refine wpAny_Call_method_late hbase hfew hline rfl (thn (ho.run pins s σ H _ I h) fun v s1 ⟨x, H1, I1, r1, ⟨p, ob, vs, ex, hd, eH⟩, q1⟩ => ?_)
  subst ex
  obtain rfl : v = Value.ref p := r1
  obtain ⟨eo, hok⟩ : ObjOk X.prog X.w H1 s1.heap p (.frz ob (.tup vs)) := I1.hok p _ eH
  obtain ⟨_, its, _, o2, e2, c2, _⟩ : ObjOk X.prog X.w H1 s1.heap p (.tup vs) := hok
  rw [eo] at e2
  cases e2
  refine ⟨"tuple", id, PySem.F.plainAttrs_tuple, slot, hty, ⟨ob, eo, c2⟩, fun a z => ?_, ?_⟩
  · cases z
    exact ⟨ob, eo, hd⟩
  have hA := ha.run cpos pins s1 σ H1 _ I1 q1
  rw [hs] at hA ⊢
  refine Calls.callWith_builtin (by show (false || (backTo cpos (starEach es X.env)).any (·.1)) = false; rw [hplain] <;> rfl) (Calls.evalArgs_plain ?_)
  exact thn hA fun us s2 ⟨ws, H2, I2, r2, q2⟩ => hm pins s2 σ H2 (.ref p) ws _ us Q I2 rfl r2 q2
def rIdxT : V → List V → Hp → VK → Prop := fun x xs H Q => ∃ (W : Wd) (d : D) (ds : List D) (y : V) (j : Nat), xs = [y] ∧ pl 50 d = true ∧ ds.all (pl 50) = true ∧ Rep W H d y ∧ Rep W H (.tup ds) x ∧ findD ds d = some j ∧ Q (.int (j : Nat)) H
theorem idx_fn {pins : List (Addr × Obj)} {σ : L2.St} {H : Hp} {s : Shared} {W : Wd} (I : Inv X pins σ H s) (hu : X.A.units + 64 < cLine) {d : D} {ds : List D} {y : V} {u : Value} {vs : List V} {its : List Value} {j : Nat} (h1 : pl 50 d = true) (h2 : ds.all (pl 50) = true) (ry : Rep W H d y) (ru : RelV y u)
    (rr : Reps W H ds vs) (rv : Vals vs its) (hf : findD ds d = some j) : ∃ (e : Value → Bool) (hj : j < its.length), (∀ y, y ∈ its → SeqAt.EqAt X.A.in1 s y u (e y)) ∧ e its[j] = true ∧ ∀ m (hm : m < its.length), m < j → e its[m] = false := by
  obtain ⟨⟨z, ez, hz⟩, hno⟩ := findD_at hf
  have g : ∀ (i : Nat) (hi : i < its.length), ∃ zz w, ds[i]? = some zz ∧ Rep W H zz w ∧ RelV w its[i] := fun i hi => by
    have hv : i < vs.length := by rw [rv.length]; exact hi
    obtain ⟨u', e1, e2⟩ := rv.get (List.getElem?_eq_getElem hv)
    rw [List.getElem?_eq_getElem hi] at e1
    cases e1
    obtain ⟨z', ez', rz'⟩ := rr.get' (List.getElem?_eq_getElem hv)
    exact ⟨z', _, ez', rz', e2⟩
  have hjl : j < its.length := by
    have := (List.getElem?_eq_some_iff.mp ez).1
    rw [← rv.length, rr.len]
    exact this
  have hp : ∀ {i : Nat} {zz : D}, ds[i]? = some zz → pl 50 zz = true := fun {i zz} e => List.all_eq_true.mp h2 zz (List.mem_of_getElem? e)
  have ev : ∀ (m : Nat) (hm : m < its.length) (z' : D), ds[m]? = some z' → @decide (∃ (i : Nat) (hi : i < its.length) (zz : D), its[i] = its[m] ∧ ds[i]? = some zz ∧ deq zz d = true) (Classical.propDecidable _) = deq z' d := fun m hm z' e => by
    cases hq : deq z' d with
    | true => exact @decide_eq_true _ (Classical.propDecidable _) ⟨m, hm, z', rfl, e, hq⟩
    | false =>
      refine @decide_eq_false _ (Classical.propDecidable _) ?_
      rintro ⟨i, hi, zz, e1, e2, e3⟩
      obtain ⟨z1, w1, a1, b1, c1⟩ := g i hi
      obtain ⟨z2, w2, a2, b2, c2⟩ := g m hm
      rw [e2] at a1
      rw [e] at a2
      cases a1
      cases a2
      rw [e1] at c1
      have := RelV.inj c1 c2
      subst this
      have := Rep.uniq 50 zz z' w1 (hp e2) (hp e) b1 b2
      subst this
      rw [hq] at e3
      cases e3
  refine ⟨fun y => @decide (∃ (i : Nat) (hi : i < its.length) (zz : D), its[i] = y ∧ ds[i]? = some zz ∧ deq zz d = true) (Classical.propDecidable _), hjl, fun y hy => ?_, ?_, fun m hm hmj => ?_⟩
  · obtain ⟨m, hm, rfl⟩ := List.getElem_of_mem hy
    obtain ⟨z', w, ez', rz', rw_⟩ := g m hm
    show SeqAt.EqAt X.A.in1 s its[m] u (@decide _ (Classical.propDecidable _))
    rw [ev m hm z' ez']
    exact eqAtD I 50 z' d X.A.in1 w y its[m] u (hp ez') h1 rz' ry rw_ ru (by show X.A.units + 1 + 50 < cLine; omega)
  · show @decide _ (Classical.propDecidable _) = true
    rw [ev j hjl z ez, hz]
  · obtain ⟨z', w, ez', _⟩ := g m hm
    show @decide _ (Classical.propDecidable _) = false
    rw [ev m hm z' ez', hno m z' hmj ez']
theorem mt_idxT (hu : X.A.units + 64 < cLine) : MtR X "tuple.index" rIdxT := by
  intro pins s σ H x xs v us Q I rx rxs h
  obtain ⟨W, d, ds, y, j, rfl, h1, h2, ry, rt, hf, q⟩ := h
  obtain ⟨u, rfl, ru⟩ := vals1 rxs
  obtain ⟨a, vs, its, rfl, ht, rv, rr, _⟩ := atT I rt rx
  obtain ⟨⟨cls, dd, dt, sl⟩, ho, hc, n, hd⟩ := ht
  simp only at hc hd
  subst hc
  subst hd
  obtain ⟨e, hj, he, hy, hn⟩ := idx_fn I hu h1 h2 ry ru rr rv hf
  exact call_meets PySem.F.slot_tuple_index ⟨_, ho, rfl⟩ PySem.F.entry_tuple_index (PySem.F.args_tuple_index_2 _ _)
    (TI.tuple_indexAt a its.toArray n dd sl u e j (by simpa using hj) (by simpa using hy) fun m hm hmj => by simpa using hn m (by simpa using hm) hmj) ⟨ho, fun y hy => he y (by simpa using hy), ⟨.int (j : Nat), H, I.tok _, ⟨_, rfl⟩, q⟩⟩
def rIdxL : V → List V → Hp → VK → Prop := fun x xs H Q => ∃ (W : Wd) (d : D) (ds : List D) (y : V) (j : Nat), xs = [y] ∧ pl 50 d = true ∧ ds.all (pl 50) = true ∧ Rep W H d y ∧ Rep W H (.lst ds) x ∧ findD ds d = some j ∧ Q (.int (j : Nat)) H
theorem mt_idxL (hu : X.A.units + 64 < cLine) : MtR X "list.index" rIdxL := by
  intro pins s σ H x xs v us Q I rx rxs h
  obtain ⟨W, d, ds, y, j, rfl, h1, h2, ry, rt, hf, q⟩ := h
  obtain ⟨u, rfl, ru⟩ := vals1 rxs
  obtain ⟨a, vs, rfl, _, e1, rr⟩ := repL rt
  cases rx
  obtain ⟨its, rv, ⟨⟨cls, dd, data, sl⟩, n, ho, hc, hdn, hd⟩, hlen⟩ := I.list (SqL.of (K := X.K) e1)
  simp only at hc hd
  subst hc hd
  obtain ⟨e, hj, he, hy, hn⟩ := idx_fn I hu h1 h2 ry ru rr rv hf
  have hvl := rv.length
  have hsl := sizeLine_eq
  exact call_meets PySem.F.slot_list_index ⟨_, ho, rfl⟩ PySem.F.entry_list_index (PySem.F.args_list_index_2 _ _)
    (SeqAt.list_indexAt a its.toArray n dd sl u e j (by simpa using hj) (by omega) (by simpa using hy) fun m hm hmj => by simpa using hn m (by simpa using hm) hmj) ⟨ho, fun y hy => he y (by simpa using hy), ⟨.int (j : Nat), H, I.tok _, ⟨_, rfl⟩, q⟩⟩
theorem xe_indexT {k : Nat} (hr : Room k X.A) (ho : XE B X Wx o pa) (ha : XE B X Wx e pb)
    (hbase : attributeBase o "index" X.env (eval o X.env) = eval o X.env := by rfl)
    (hfew : ((backTo cpos (starEach [e] X.env)).all (fun x => !x.1) && (backToKw cpos (keywordEach [] X.env)).all (fun x => x.1.isSome)
      && decide ([e].length + ([] : List Keyword).length + (if ([] : List Keyword).isEmpty then 0 else 1) < 30)) = true := by rfl)
    (hline : (apos.endLine == cpos.line) = true := by rfl) (hs : starEach [e] X.env = (false, eval e X.env) :: starEach [] X.env := by rfl) (hplain : (backTo cpos (starEach [] X.env)).any (·.1) = false := by rfl) :
    XE B X Wx (.Call (.Attribute o "index" apos) [e] [] cpos) (rIndexT pa pb) := by
  obtain ⟨ta, hta, ea⟩ := ho.ex
  obtain ⟨tb, htb, eb⟩ := ha.ex
  refine ⟨_, pe_tm PySem.F.slot_tuple_index PySem.F.type_tuple_index (mt_idxT hr.units) hta (pa_cons htb pa_nil hs) hbase hfew hline hs hplain, fun S σ H G Q E k O q ke kx => ?_⟩
  refine ea S σ H G _ E _ O q (fun v H1 d f1 r1 q1 => ?_) kx
  cases d <;> first | exact False.elim q1 | skip
  have r1' := r1
  simp only [Rep] at r1'
  obtain ⟨p, vs, ob, rfl, n, hd, e1, z⟩ := r1'
  refine ⟨⟨p, ob, vs, rfl, hd, e1⟩, ?_⟩
  refine eb S σ H1 G _ E _ (O.fut f1) q1 (fun w H2 d2 f2 r2 q2 => ?_) (kx.fut f1)
  obtain ⟨h1, h2, j, h3, h4⟩ := q2
  exact ⟨B.W.at S, d2, _, w, j, rfl, h1, h2, r2, (r1.fut (O.wok.fut f1) f2).thaw, h3, ke _ H2 _ (f1.trans f2) mkI h4⟩
theorem xe_indexL {k : Nat} (hr : Room k X.A) (ho : XE B X Wx o pa) (ha : XE B X Wx e pb)
    (hbase : attributeBase o "index" X.env (eval o X.env) = eval o X.env := by rfl)
    (hfew : ((backTo cpos (starEach [e] X.env)).all (fun x => !x.1) && (backToKw cpos (keywordEach [] X.env)).all (fun x => x.1.isSome)
      && decide ([e].length + ([] : List Keyword).length + (if ([] : List Keyword).isEmpty then 0 else 1) < 30)) = true := by rfl)
    (hline : (apos.endLine == cpos.line) = true := by rfl) (hs : starEach [e] X.env = (false, eval e X.env) :: starEach [] X.env := by rfl) (hplain : (backTo cpos (starEach [] X.env)).any (·.1) = false := by rfl) :
    XE B X Wx (.Call (.Attribute o "index" apos) [e] [] cpos) (rIndexL pa pb) := by
  obtain ⟨ta, hta, ea⟩ := ho.ex
  obtain ⟨tb, htb, eb⟩ := ha.ex
  refine ⟨_, pe_bm PySem.F.plainAttrs_list PySem.F.slot_list_index PySem.F.type_list_index (mt_idxL hr.units) hta (pa_cons htb pa_nil hs) hbase hfew hline hs hplain, fun S σ H G Q E k O q ke kx => ?_⟩
  refine ea S σ H G _ E _ O q (fun v H1 d f1 r1 q1 => ?_) kx
  cases d <;> first | exact False.elim q1 | skip
  obtain ⟨p, vs, rfl, n, e1, z⟩ := repL r1
  refine ⟨.inl ⟨rfl, vs, SqL.of e1⟩, ?_⟩
  refine eb S σ H1 G _ E _ (O.fut f1) q1 (fun w H2 d2 f2 r2 q2 => ?_) (kx.fut f1)
  obtain ⟨h1, h2, j, h3, h4⟩ := q2
  exact ⟨B.W.at S, d2, _, w, j, rfl, h1, h2, r2, r1.fut (O.wok.fut f1) f2, h3, ke _ H2 _ (f1.trans f2) mkI h4⟩
/-! ### all, any of a list of bools -/
def bls : List D → Option (List Bool)
  | [] => some []
  | .bl b :: ds => (bls ds).map (b :: ·)
  | _ => none
def oAll : DFn := fun xs Q _ => match xs with
  | [.lst ds] => ∃ bs, bls ds = some bs ∧ Q (.bl (bs.all id))
  | _ => False
def oAny : DFn := fun xs Q _ => match xs with
  | [.lst ds] => ∃ bs, bls ds = some bs ∧ Q (.bl (bs.any id))
  | _ => False
theorem bls_rep {W : Wd} {H : Hp} : ∀ {ds : List D} {vs : List V} {bs : List Bool}, Reps W H ds vs → bls ds = some bs → vs = bs.map V.bl
  | [], vs, bs, h, e => by
    simp only [Reps] at h
    cases e
    exact h
  | d :: ds, vs, bs, h, e => by
    simp only [Reps] at h
    obtain ⟨v, r, rfl, h1, h2⟩ := h
    cases d <;> first | (cases e; done) | skip
    simp only [bls] at e
    cases hb : bls ds with
    | none => rw [hb] at e; cases e
    | some bs' =>
      rw [hb] at e
      cases e
      rw [repB h1, bls_rep h2 hb]
      rfl
theorem xf_all (hc : X.calm = true) : XF B X Wx (.builtin "all") oAll := ⟨_, cr_all hc, fun S H xs dxs Q E k w r q ke => by
  cases dxs with
  | nil => exact False.elim q
  | cons d ds =>
    cases ds with
    | cons d2 ds => cases d <;> exact False.elim q
    | nil =>
      obtain ⟨v, rfl, r9⟩ := reps1 r
      cases d <;> first | exact False.elim q | skip
      obtain ⟨a, vs, rfl, n, e1, z⟩ := repL r9
      obtain ⟨bs, hb, q⟩ := q
      have ev := bls_rep z hb
      subst ev
      exact ⟨a, bs, rfl, SqL.of e1, ke _ H _ (Fut.refl w) mkB q⟩⟩
theorem xf_any (hc : X.calm = true) : XF B X Wx (.builtin "any") oAny := ⟨_, cr_any hc, fun S H xs dxs Q E k w r q ke => by
  cases dxs with
  | nil => exact False.elim q
  | cons d ds =>
    cases ds with
    | cons d2 ds => cases d <;> exact False.elim q
    | nil =>
      obtain ⟨v, rfl, r9⟩ := reps1 r
      cases d <;> first | exact False.elim q | skip
      obtain ⟨a, vs, rfl, n, e1, z⟩ := repL r9
      obtain ⟨bs, hb, q⟩ := q
      have ev := bls_rep z hb
      subst ev
      exact ⟨a, bs, rfl, SqL.of e1, ke _ H _ (Fut.refl w) mkB q⟩⟩
/-! ### (*x, ..) -/
def rStar (a : XP) (b : XAp) : XAp := fun G Q E => a G (fun x => match x with
  | .tup ds => b G (fun xs => Q (ds ++ xs)) E
  | .lst ds => b G (fun xs => Q (ds ++ xs)) E
  | _ => False) E
theorem xa_star (ha : XE B X Wx e pa) (hr : XA B X Wx es pas) (hs : starEach (.Starred e p :: es) X.env = (true, eval e X.env) :: starEach es X.env := by rfl) : XA B X Wx (.Starred e p :: es) (rStar pa pas) := by
  obtain ⟨ta, ha, ea⟩ := ha.ex
  obtain ⟨tr, hr, er⟩ := hr.ex
  refine ⟨_, StX.pa_star ha hr hs, fun S σ H G Q E k O q ka kx => ea S σ H G _ E _ O q (fun v H1 d f r h => ?_) kx⟩
  cases d <;> first | exact False.elim h | skip
  · obtain ⟨a, vs, rfl, n, e1, z⟩ := repL r
    refine ⟨a, vs, rfl, .inr (SqL.of e1), er S σ H1 G _ E _ (O.fut f) h (fun us H2 ds f2 r2 h2 => ?_) (kx.fut f)⟩
    exact ka (vs ++ us) H2 _ (f.trans f2) ((z.fut (O.wok.fut f) f2).app r2) h2
  · obtain ⟨a, vs, rfl, n, e1, z⟩ := repT r
    refine ⟨a, vs, rfl, .inl (.inl e1), er S σ H1 G _ E _ (O.fut f) h (fun us H2 ds f2 r2 h2 => ?_) (kx.fut f)⟩
    exact ka (vs ++ us) H2 _ (f.trans f2) ((z.fut (O.wok.fut f) f2).app r2) h2
/-! ### the signs of a text -/
def signs (z : Str) : List D := z.cps.toList.map fun c => .str ⟨#[c]⟩
def rSigns (a : XP) : XAp := fun G Q E => a G (fun d => match d with
  | .str z => Q (signs z)
  | _ => False) E
theorem wk_str {W : Wd} {S : Addr → Prop} {H : Hp} {z : Str} : Wk W S H (Its z) (signs z) := fun S' H' pr w i => by
  have hl : z.cps.size = (signs z).length := by unfold signs; simp
  refine ⟨fun d ed => ?_, fun e => ?_⟩
  · have hi := (List.getElem?_eq_some_iff.mp ed).1
    refine ⟨by show i < z.cps.size; omega, fun x H2 ⟨e, c, ec, ex⟩ => ?_⟩
    subst e
    subst ex
    unfold signs at ed
    rw [List.getElem?_map] at ed
    have : z.cps.toList[i]? = some c := by rw [Array.getElem?_toList]; exact ec
    rw [this] at ed
    cases ed
    exact ⟨Fut.refl w, mkS⟩
  · show z.cps.size ≤ i
    omega
theorem xi_str {tg : Expr} (ha : XE B X Wx a pa) : XI B X Wx tg a (rSigns pa) := by
  obtain ⟨ta, ha, ea⟩ := ha.ex
  refine ⟨_, pi_str ha, fun S σ H G Q E R O q hR kx => ea S σ H G _ E _ O q (fun v H1 d f r h => ?_) kx⟩
  cases d <;> first | exact False.elim h | skip
  exact ⟨_, repS r, hR _ H1 _ f wk_str h⟩
end
end Pu
namespace Pu
open PySem PySem.Spec PyProof.Rows L2
open PySem.W (findIn kitOne kitAny clsIn typeIn subIn mroIn isFn)
/-! ## operators of own classes -/
theorem sub_bc {K : PySem.W.Frag} {a : String} {C : Addr} (ha : a ∈ builtinTys) : subIn K (.type a) (.ref C) = some false := by
  obtain ⟨k1, k2⟩ := mro_b a ha
  obtain ⟨l, hl⟩ := Option.isSome_iff_exists.mp k1
  unfold subIn
  dsimp only
  rw [hl]
  have : l.contains (Value.ref C) = false := by
    rw [Bool.eq_false_iff]
    intro z
    have := List.all_eq_true.mp (k2 l hl) _ (List.contains_iff_mem.mp z)
    cases this
  rw [Option.map_some, this]
theorem sub_cc {K : PySem.W.Frag} {C C' : Addr} (F : ClsF K C) (h : C ≠ C') : subIn K (.ref C) (.ref C') = some false := by
  obtain ⟨cd, h1, h2⟩ := F.ex
  unfold subIn mroIn
  dsimp only
  rw [h1, Option.bind_some, h2]
  simp
  intro z
  exact h z.symm
theorem nf_ok {K : PySem.W.Frag} {CT : Nat → Addr} {cs : List Nat} (F : ClsX K CT cs) {d : D} (o : okI cs d) {c : Nat} (hc : c ∈ cs) : PySem.W.notFirst K (CT c) (tyv CT d) = true := by
  unfold PySem.W.notFirst
  by_cases hi : ∃ c ds, d = .ins c ds
  · obtain ⟨c', ds, rfl⟩ := hi
    by_cases e : CT c' = CT c
    · show (Value.ref (CT c') == Value.ref (CT c) || _) = true
      rw [e]
      simp
    · show (Value.ref (CT c') == Value.ref (CT c) || (subIn K (.ref (CT c')) (.ref (CT c)) == some false)) = true
      rw [sub_cc (F.f c' o) e]
      simp
  · have hi' : ∀ c ds, d ≠ .ins c ds := fun c ds z => hi ⟨c, ds, z⟩
    have m := tyn_mem cs o hi'
    have e1 : tyv CT d = .type (tyn d) := by cases d <;> first | rfl | exact absurd rfl (hi' _ _)
    rw [e1, sub_bc m]
    simp
structure OEnt (P : Program) (w : World) (K : PySem.W.Frag) (mg : Str → Option Value) (base : Heap) (CT : Nat → Addr) (lay : Nat → List Str) (k : Nat) (nm : Str) (q : Nat × DFn) : Prop where
  ex : ∃ g fd ps, findIn K (.ref (CT q.1)) nm = some (some (.ref g)) ∧ isFn K (.ref g) = true ∧ FnOk P w K mg base (L2.CX P w) k g fd ps (spP CT lay q.2) ∧ Binds K fd ps []
/-- x op y, x of an own class: its method -/
def oOwn (tbl : List (Nat × DFn)) (cs : List Nat) : DOp := fun x y Q E => match x with
  | .ins c ds => okI cs y ∧ (match tbl.lookup c with
    | some F => F [.ins c ds, y] Q E
    | none => False)
  | _ => False
/-- x != y by its == -/
def oOwnNe (tbl : List (Nat × DFn)) (cs : List Nat) : DOp := fun x y Q E => match x with
  | .ins c ds => okI cs y ∧ (match tbl.lookup c with
    | some F => F [.ins c ds, y] (fun z => onB z fun b => Q (.bl (!b))) E
    | none => False)
  | _ => False
/-- own classes by o, else o' -/
def oSel (o o' : DOp) : DOp := fun x y Q E => match x with
  | .ins _ _ => o x y Q E
  | _ => o' x y Q E
section
variable {B : Bs} {X : Cx} {Wx : WX} {tbl : List (Nat × DFn)} {cs : List Nat} {k : Nat}
def rOwnT (B : Bs) (K : PySem.W.Frag) (tbl : List (Nat × DFn)) (Wx : WX) : L2.St → R2 := fun σ x y H Q => ∃ (q : Nat × DFn) (a dx : Addr) (fs : List (Str × V)) (tb : Value), q ∈ tbl ∧ x = .ref a ∧ H a = some (.ins (B.W.CT q.1) dx fs) ∧ TyX K H y tb ∧ PySem.W.notFirst K (B.W.CT q.1) tb = true ∧ spP B.W.CT B.W.lay q.2 [x, y] H Q (WE Wx σ)
theorem XO.sel {f : Value → Value → Sem Value} {o o' : DOp} (h : XO B X Wx f o) (h' : XO B X Wx f o') : XO B X Wx f (oSel o o') := (h.or h').imp fun x y Q E q => by
  cases x <;> first | exact .inr q | exact .inl q
theorem ev_own {Q' : (D → Prop) → D → Prop} {kk : VK → VK} (hk : ∀ {W : Wd} {H : Hp} {Q : D → Prop} {k : VK}, KE W H Q k → KE W H (Q' Q) (kk k)) (F : ClsX X.K B.W.CT cs) (hcs : ∀ q ∈ tbl, q.1 ∈ cs) :
    ∀ S σ H x y dx dy Q E k, WOk (B.W.at S) H → Rep (B.W.at S) H dx x → Rep (B.W.at S) H dy y → (match dx with | .ins c ds => okI cs dy ∧ (match tbl.lookup c with | some F => F [.ins c ds, dy] (Q' Q) E | none => False) | _ => False) → KE (B.W.at S) H Q k → KX (B.W.at S) σ H E Wx → rOwnT B X.K tbl Wx σ x y H (kk k) := by
  intro S σ H x y dx dy Q E k w r1 r2 q ke kx
  cases dx <;> first | exact False.elim q | skip
  rename_i c ds
  obtain ⟨oy, q⟩ := q
  cases hl : tbl.lookup c with
  | none => rw [hl] at q; exact q.elim
  | some G =>
    rw [hl] at q
    have hm := lookup_mem hl
    obtain ⟨a, dxx, vs, rfl, n, e1, l1, z1⟩ := repO r1
    exact ⟨(c, G), a, dxx, _, _, hm, rfl, e1, tyX (W := B.W.at S) F r2 oy, nf_ok F oy (hcs _ hm), B.W.L, S, [.ins c ds, dy], Q' Q, E, w, Reps.cons r1 (Reps.cons r2 Reps.nil), q, hk ke, kx⟩
theorem xo_cmpO {op : CmpOp} (hop : ∀ a b, compareOp op a b = richCompare op a b) (T : ∀ q ∈ tbl, OEnt X.prog X.w X.K X.mg X.base B.W.CT B.W.lay k (cmpInfo op).2.1 q) (F : ClsX X.K B.W.CT cs) (hcs : ∀ q ∈ tbl, q.1 ∈ cs) (hr : Room k X.A) (tk : Takes X Wx) : XO B X Wx (compareOp op) (oOwn tbl cs) := by
  refine ⟨rOwnT B X.K tbl Wx, fun pins s σ H x y v u Q I rx ry ⟨q, a, dx, fs, tb, hq, ex, ea, ty, nf, h⟩ => ?_, fun S σ H x y dx dy Q E k w r1 r2 q ke kx => ?_⟩
  · subst ex
    obtain rfl : v = Value.ref a := rx
    obtain ⟨g, fd, ps, hs, hf, Fn, b⟩ := (T q hq).ex
    obtain ⟨od, J⟩ := Pt.own_inst I ea
    obtain ⟨m, hF⟩ := I.fr
    obtain ⟨P, kx, pk, _⟩ := kit_of I ry ty
    rw [hop]
    exact PySem.W.cmp_K (tb := tb) hr.units0 hF I.ok.mod.kin J (kx.ty _ _ I.kIn pk) nf hs hf (Pt.run_back Fn hr b (passAt tk σ) I (Pt.vv2 (x := V.ref a) rfl ry) h)
  · exact ev_own (Q' := fun Q => Q) (kk := fun k => k) (fun h => h) F hcs S σ H x y dx dy Q E k w r1 r2 q ke kx
def bNot (k : VK) : VK := fun v H => ∃ b, v = .bl b ∧ k (.bl (!b)) H
theorem xo_neO (N : ∀ q ∈ tbl, Pt.NeOk X.K (B.W.CT q.1)) (T : ∀ q ∈ tbl, OEnt X.prog X.w X.K X.mg X.base B.W.CT B.W.lay k "__eq__" q) (F : ClsX X.K B.W.CT cs) (hcs : ∀ q ∈ tbl, q.1 ∈ cs) (hr : Room (k + 1) X.A) (tk : Takes X Wx) : XO B X Wx (compareOp .NotEq) (oOwnNe tbl cs) := by
  refine ⟨fun σ x y H Q => rOwnT B X.K tbl Wx σ x y H (bNot Q), fun pins s σ H x y v u Q I rx ry ⟨q, a, dx, fs, tb, hq, ex, ea, ty, nf, h⟩ => ?_, fun S σ H x y dx dy Q E k w r1 r2 q ke kx => ?_⟩
  · subst ex
    obtain rfl : v = Value.ref a := rx
    obtain ⟨g, fd, ps, hs, hf, Fn, b⟩ := (T q hq).ex
    obtain ⟨od, J⟩ := Pt.own_inst I ea
    have N1 := N q hq
    have one : wpAny (model X.prog X.w) X.A (tryCompare (.ref a) "__ne__" u) (fun r s' => ∃ v, r = some v ∧ EP X pins σ Q v s') X.xe s := by
      refine Pt.try_ne (by have := hr.units; omega) I.kIn J N1.ne N1.mo hs hf (wpAny_mono (Pt.run_in1 Fn hr b (passAt tk σ) I (Pt.vv2 (x := V.ref a) rfl ry) h) (fun v s' hv => ?_) fun _ _ e => e)
      obtain ⟨z, H', I', rz, bb, ez, q⟩ := hv
      subst ez
      obtain rfl : v = Value.bool bb := rz
      exact ⟨bb, rfl, _, rfl, .bl (!bb), H', I', rfl, q⟩
    obtain ⟨P, kx, pk, _⟩ := kit_of I ry ty
    have Tb := kx.ty (model X.prog X.w) s.heap I.kIn pk
    show wpAny _ _ (richCompare .NotEq (.ref a) u) _ _ _
    unfold richCompare
    simp only [oneThing_ref]
    refine wpAny_holding (wpAny_bind (wpAny_cRoomFor hr.units0 ?_))
    refine wpAny_bind (J.type.here (wpAny_bind (Tb.here ?_)))
    rw [cmpInfo_NotEq]
    dsimp only
    split
    · rename_i q'
      have e : subIn X.K tb (.ref (B.W.CT q.1)) = some false := by
        unfold PySem.W.notFirst at nf
        rcases Bool.or_eq_true_iff.mp nf with z | z
        · rw [beq_iff_eq.mp z] at q'
          simp at q'
        · exact beq_iff_eq.mp z
      refine wpAny_bind ((PySem.W.looks_subIn I.kIn e).here ?_)
      simp only [Bool.false_eq_true, if_false]
      refine wpAny_bind (wpAny_mono one (fun r s' z => ?_) fun _ _ e => e)
      obtain ⟨v, rfl, hq⟩ := z
      exact wpAny_pure hq
    · refine wpAny_bind (wpAny_pure ?_)
      simp only [Bool.false_eq_true, if_false]
      refine wpAny_bind (wpAny_mono one (fun r s' z => ?_) fun _ _ e => e)
      obtain ⟨v, rfl, hq⟩ := z
      exact wpAny_pure hq
  · refine ev_own (Q' := fun Q z => onB z fun b => Q (.bl (!b))) (kk := bNot) (fun {W H Q k} h => ?_) F hcs S σ H x y dx dy Q E k w r1 r2 q ke kx
    intro v H' d f r q
    obtain ⟨b, rfl, q⟩ := onB_elim q
    exact ⟨b, repB r, h _ _ _ f mkB q⟩
end
/-! ## enumerate -/
/-- the tuple at a as it stands, each item in a new pair -/
def IteT (K : PySem.W.Frag) (a : Addr) : It :=
  ⟨fun i H => ∃ (xs : List V) (x : V), SqT K H a xs ∧ xs[i]? = some x, fun i H v H' => ∃ T x, v = .ref T ∧ H T = none ∧ H' = upd H T (.tup [.int (i : Nat), x]) ∧ ∀ xs, SqT K H a xs → xs[i]? = some x, fun i H => ∃ xs : List V, SqT K H a xs ∧ xs.length ≤ i⟩
theorem turn_enumT {P : Program} {w : World} {K : PySem.W.Frag} {elts : List Expr} {kk : Nat} {tpos : Pos} (a e it : Addr) :
    Turn P w K (.Tuple elts kk tpos) (IteT K a) [e, it] e (fun i h => (∃ old, IsEnum h e it ((i : Nat) : Int) old) ∧ h.IsTupleIter it a i ∧ e ≠ it) where
  mem := by simp
  obj := fun i h st b hb => by
    obtain ⟨⟨old, he⟩, ⟨o, ho, hc, hd⟩, _⟩ := st
    have e' : b = e ∨ b = it := by simpa using hb
    rcases e' with z | z
    · rw [z]; exact ⟨_, he, fun v q => nomatch q⟩
    · rw [z]; exact ⟨o, ho, fun v q => by rw [hd] at q; cases q⟩
  keep := fun i h h' st k => let ⟨⟨old, he⟩, hi, hne⟩ := st; ⟨⟨old, k e (by simp) _ he⟩, hi.at fun o q => k it (by simp) o q, hne⟩
  item := by
    intro X hP hw hK hc i pins s σ H E I hf st hg
    subst hP hw hK
    obtain ⟨⟨old, he⟩, hit, hne⟩ := st
    obtain ⟨xs, x, hq, hx⟩ := hg
    obtain ⟨its, rv, p, hz⟩ := I.tuple hq
    obtain ⟨u, hu, ru⟩ := rv.get hx
    have hel : e < s.heap.objs.size := Heap.lt_size he
    have hil : it < s.heap.objs.size := by obtain ⟨_, q, _⟩ := hit; exact Heap.lt_size q
    have hat : a ≠ it := fun z => by
      obtain ⟨o1, q1, c1, _⟩ := p
      obtain ⟨o2, q2, c2, _⟩ := hit
      rw [z, q2] at q1
      cases q1
      rw [c1] at c2
      simp at c2
    have hae : e ≠ a := fun z => by
      obtain ⟨o1, q1, c1, _⟩ := p
      rw [← z, he] at q1
      cases q1
      have c2 : Value.type "enumerate" = Value.type "tuple" := c1
      simp at c2
    have hil2 : i < its.toArray.size := by
      have := (List.getElem?_eq_some_iff.mp hu).1
      simpa using this
    refine wpAny_pyNext_enum_itemD (Draws.tuple (A := X.A.in1) (I.ok.hd hc) it a hat its.toArray) he ⟨hit, p⟩ hil2 hne (by simp [hne, hae]) fun x' h' tk hx' ho hit' hT hsz hk => ?_
    have ex' : x' = u := by
      have : its.toArray[i]? = some u := by simpa using hu
      rw [this] at hx'
      exact (Option.some.inj hx').symm
    subst ex'
    refine ⟨_, rfl, wpAny_letOwnedTupleGo_enum (s := { s with heap := h', toks := tk + 1 }) ho fun h'' he' sb => ?_⟩
    have hT2 : h''.get? s.heap.objs.size = some { cls := .type "tuple", data := .seq #[.int i tk, x'] } := (sb.2 _ (Nat.ne_of_gt hel)).trans hT
    have new : ObjOk X.prog X.w (upd H s.heap.objs.size (.tup [.int (i : Nat), x])) h'' s.heap.objs.size (.tup [.int (i : Nat), x]) :=
      ⟨by show 2 ≤ sizeLine; decide, [.int i tk, x'], .cons ⟨_, rfl⟩ (.cons ru .nil), ⟨_, hT2, rfl, _, rfl⟩⟩
    have I1 : Inv X pins σ (upd H s.heap.objs.size (.tup [.int (i : Nat), x])) { s with heap := h'', toks := tk + 1 } :=
      I.turnedNew (ch := [e, it]) (fun b ob hb q => (sb.2 b (fun z => hb (by simp [z]))).trans (hk b ob (fun z => hb (by simp [z])) (fun z => hb (by simp [z])) q)) hf (Nat.le_refl _) new
    refine ⟨.ref s.heap.objs.size, _, I1, rfl, ⟨_, x, rfl, I.hok.fresh (Nat.le_refl _), rfl, fun ys hy => by rw [I.tuple_inj hy hq]; exact hx⟩, ⟨⟨x', ?_⟩, hit'.1.at fun o q => (sb.2 it (Ne.symm hne)).trans q, hne⟩, fun b hb => ?_⟩
    · have e1 : ((i + 1 : Nat) : Int) = (i : Int) + 1 := by omega
      rw [e1]; exact he'
    · have hb' : b < s.heap.objs.size := by
        have e' : b = e ∨ b = it := by simpa using hb
        rcases e' with z | z
        · rw [z]; exact hel
        · rw [z]; exact hil
      rw [upd_ne (Nat.ne_of_lt hb')]
      exact (hf b hb).1
  done := by
    intro X hP hw hK hc i pins s σ H E I hf st hg
    subst hP hw hK
    obtain ⟨⟨old, he⟩, hit, hne⟩ := st
    obtain ⟨xs, hq, hx⟩ := hg
    obtain ⟨its, rv, p, hz⟩ := I.tuple hq
    obtain ⟨f0, f1, f2, f3, f4, f5⟩ := hf it (by simp)
    have hl := rv.length
    have hx0 : its.toArray[i]? = none := by simp; omega
    have hT : s.TypeIs (.ref e) "enumerate" := ⟨_, he, rfl⟩
    unfold pyNext
    refine wpAny_bind (wpAny_attempt (wpAny_callSpecial?_slot (name := Str.ofString "__next__") hT F.slot_enumerate_next
      (wpAny_call_entry F.slot_enumerate_next hT F.entry_enumerate_next ?_ (F.args_enumerate_next_1 _))))
    show wpAny _ _ (field (.ref e) 2 >>= _) _ _ _
    refine wpAny_bind (wpAny_field he rfl (x := .ref it) rfl ?_)
    refine wpAny_bind (wpAny_nextOf_tuple_end (A := X.A.in1) (I.ok.hd hc) hit p hx0 fun h' x he' hx' => ?_)
    obtain ⟨o, ho, hc⟩ := hx'
    refine wpAny_bind (wpAny_isInstance (T := "StopIteration") (b := true) ⟨o, ho, hc⟩ isSubtype_stop ?_)
    exact wpAny_pure ⟨rfl, I.turned (t' := s.toks) (fun b o hb q => he' b o hb q) f0 f1 f3 f4 f5⟩
  self := fun A i s Q E st h => let ⟨⟨_, he⟩, _⟩ := st; wpAny_pyIter_enum he h
theorem meets_enum1 {v : Value} {o : Obj} {H : Heap → Prop} (B : Begins v o H) :
    Meets (Builtin.«enumerate.__new__» ⟨[.type "enumerate", v], []⟩) (fun _ R s => H s.heap ∧
      R (.ok (.ret (.ref (s.heap.push o).objs.size))) { s with heap := (s.heap.push o).push { cls := .type "enumerate", data := .fields #[.none, .bool false, .ref s.heap.objs.size, rawInt 0, .none, .none] } }) :=
  .of_wp fun prog w A R s h => by
    obtain ⟨hp, g, d, tk, os⟩ := s
    obtain ⟨h1, h⟩ := h
    have hsub := sub_enumerate
    have q1 : ∀ {A' : Around} {E : Value → Shared → Prop} {Q : Value → Shared → Prop}, Q (.ref hp.objs.size) ⟨hp.push o, g, d, tk, os⟩ → wpAny (model prog w) A' (pyIter v) Q E ⟨hp, g, d, tk, os⟩ :=
      fun q => B.iter prog w _ _ ⟨hp, g, d, tk, os⟩ _ h1 q
    wp_walk using q1
    refine wpAny_stack_any fun st => wpAny_pure ?_
    split
    · rename_i c _ _ _ _ _
      cases (c == Value.type "enumerate")
      · wp_walk using q1
        exact ⟨_, rfl, h⟩
      · wp_walk using q1
        exact ⟨_, rfl, h⟩
    · wp_walk using q1
      exact ⟨_, rfl, h⟩
section
variable {prog : Program} {w : World} {A : Around} {E : Value → Shared → Prop} {s : Shared}
theorem enum_one {v : Value} {o : Obj} {H : Heap → Prop} {Q : Value → Shared → Prop} (B : Begins v o H) (h1 : H s.heap)
    (h : ∀ h', IsEnum h' (s.heap.objs.size + 1) s.heap.objs.size 0 .none → h'.get? s.heap.objs.size = some o → (∀ b o, s.heap.get? b = some o → h'.get? b = some o) → Q (.ref (s.heap.objs.size + 1)) { s with heap := h' }) :
    wpAny (model prog w) A (call (.type "enumerate") [v]) Q E s := by
  refine callType_new F.called_enumerate (by decide) (F.typeCall_enumerate_1 _) (F.newCall_enumerate_1 _) (fun obj => F.args_object_init_2 obj _) F.entry_enumerate_new (meets_enum1 B) ⟨h1, ?_⟩
  have hz : (s.heap.push o).objs.size = s.heap.objs.size + 1 := Heap.size_push ..
  show _ ∧ _
  rw [hz]
  have he : IsEnum ((s.heap.push o).push { cls := .type "enumerate", data := .fields #[.none, .bool false, .ref s.heap.objs.size, rawInt 0, .none, .none] }) (s.heap.objs.size + 1) s.heap.objs.size 0 .none := by
    have := Heap.get?_push_size (s.heap.push o) (o := { cls := .type "enumerate", data := .fields #[.none, .bool false, .ref s.heap.objs.size, rawInt 0, .none, .none] }) rfl
    rw [hz] at this
    exact this
  exact ⟨⟨_, he, rfl⟩, h _ he (Heap.get?_push_of_some _ (Heap.get?_push_size _ B.free)) fun b o x => Heap.get?_push_of_some _ (Heap.get?_push_of_some _ x)⟩
end
def iEnumT (K : PySem.W.Frag) (ta : TA) : TI := fun σ H R => ta σ H fun vs H1 => (∃ a xs, vs = [.ref a] ∧ SqT K H1 a xs ∧ R (IteT K a) H1) ∨ (∃ a xs, vs = [.ref a] ∧ SqL K H1 a xs ∧ R (Ite K a) H1)
theorem pi_enumT {X : Cx} {e : Expr} {ta : TA} {p pos tpos : Pos} {elts : List Expr} {kk : Nat} (hg : Gl X "enumerate") (hm : X.mg "enumerate" = none) (ha : PA X [e] ta) (hs : starEach [e] X.env = [(false, eval e X.env)] := by rfl) :
    PI X (.Tuple elts kk tpos) (.Call (.Name "enumerate" p) [e] [] pos) (iEnumT X.K ta) := by
  refine ⟨fun pins s σ H R I h => ?_⟩
  refine Call_ (ld_blt I hg hm boot_enumerate (PyProof.Rows.callWith_type1 (thn (ha.run pos pins s σ H _ I h) fun us s1 ⟨vs, H1, I1, r1, q1⟩ => ?_) hs rfl))
  rcases q1 with ⟨a, xs, ex, hq, q⟩ | ⟨a, xs, ex, hq, q⟩
  · subst ex
    cases r1 with
    | cons r rr =>
      cases rr
      cases r
      obtain ⟨its, rv, p', hz⟩ := I1.tuple hq
      refine enum_one (begins_tuple a its.toArray) p' fun h' he hit hk => wpAny_pyIter_enum he ?_
      have I2 : Inv X pins σ H1 { s1 with heap := h' } := I1.kept (t' := s1.toks) hk
      refine ⟨s1.heap.objs.size + 1, [s1.heap.objs.size + 1, s1.heap.objs.size], _, _, H1, rfl, I2, turn_enumT a (s1.heap.objs.size + 1) s1.heap.objs.size, ⟨⟨.none, he⟩, ⟨_, hit, rfl, rfl⟩, Nat.succ_ne_self _⟩, fun b hb => ?_, q⟩
      have e' : b = s1.heap.objs.size + 1 ∨ b = s1.heap.objs.size := by simpa using hb
      have hle : s1.heap.objs.size ≤ b := by
        rcases e' with z | z
        · rw [z]; exact Nat.le_add_right _ _
        · rw [z]; exact Nat.le_refl _
      exact I1.fpOk hle (I1.hok.fresh hle)
  · subst ex
    cases r1 with
    | cons r rr =>
      cases rr
      cases r
      obtain ⟨its, rv, p', hz⟩ := I1.list hq
      refine enum_one (begins_list a its.toArray) p'.isList fun h' he hit hk => wpAny_pyIter_enum he ?_
      have I2 : Inv X pins σ H1 { s1 with heap := h' } := I1.kept (t' := s1.toks) hk
      refine ⟨s1.heap.objs.size + 1, [s1.heap.objs.size + 1, s1.heap.objs.size], _, _, H1, rfl, I2, turn_enum a (s1.heap.objs.size + 1) s1.heap.objs.size, ⟨⟨.none, he⟩, ⟨_, hit, rfl, rfl⟩, Nat.succ_ne_self _⟩, fun b hb => ?_, q⟩
      have e' : b = s1.heap.objs.size + 1 ∨ b = s1.heap.objs.size := by simpa using hb
      have hle : s1.heap.objs.size ≤ b := by
        rcases e' with z | z
        · rw [z]; exact Nat.le_add_right _ _
        · rw [z]; exact Nat.le_refl _
      exact I1.fpOk hle (I1.hok.fresh hle)
def enumD : Nat → List D → List D
  | _, [] => []
  | i, d :: ds => .tup [.int (i : Int), d] :: enumD (i + 1) ds
theorem enumD_get : ∀ {ds : List D} {i j : Nat}, (enumD i ds)[j]? = (ds[j]?).map fun d => .tup [.int ((i + j : Nat) : Int), d]
  | [], i, j => by simp [enumD]
  | d :: ds, i, 0 => by simp [enumD]
  | d :: ds, i, j + 1 => by
    simp only [enumD, List.getElem?_cons_succ]
    rw [enumD_get]
    have : i + 1 + j = i + (j + 1) := by omega
    rw [this]
theorem enumD_len : ∀ {ds : List D} {i : Nat}, (enumD i ds).length = ds.length
  | [], i => rfl
  | d :: ds, i => by simp [enumD, enumD_len]
theorem wk_enumL {W : Wd} {K : PySem.W.Frag} {S : Addr → Prop} {H : Hp} {p : Addr} {vs : List V} {ds : List D} (n : ¬ S p) (e : H p = some (.lst vs)) (r : Reps (W.at S) H ds vs) : Wk W S H (Ite K p) (enumD 0 ds) := by
  intro S' H' pr w' i
  obtain ⟨e', n'⟩ := pr p _ n e
  have r' : Reps (W.at S') H' ds vs := Reps.mono (W := W.at S) (S := S') pr ds vs r
  refine ⟨fun d ed => ?_, fun hi => ⟨vs, SqL.of e', by rw [r.len, hi, enumD_len]; exact Nat.le_refl _⟩⟩
  rw [enumD_get] at ed
  cases hd : ds[i]? with
  | none => rw [hd] at ed; cases ed
  | some d0 =>
    rw [hd] at ed
    cases ed
    obtain ⟨v, ev, rv⟩ := r'.get hd
    refine ⟨⟨vs, v, SqL.of e', ev⟩, fun x H2 ⟨T, y, ex, hT, eH, hy⟩ => ?_⟩
    subst ex
    subst eH
    have := hy vs (SqL.of e')
    rw [ev] at this
    cases this
    have f := fut_new (o := .tup [.int (i : Nat), v]) w' hT
    exact ⟨f, mkT (w'.new hT) (.inl upd_same) (Reps.cons (by rw [Nat.zero_add]; exact mkI) (Reps.cons (rv.fut w' f) Reps.nil))⟩
theorem wk_enumT {W : Wd} {K : PySem.W.Frag} {S : Addr → Prop} {H : Hp} {p : Addr} {vs : List V} {ds : List D} (n : ¬ S p) (e : Rd H p (.tup vs)) (r : Reps (W.at S) H ds vs) : Wk W S H (IteT K p) (enumD 0 ds) := by
  intro S' H' pr w' i
  have e' : Rd H' p (.tup vs) := e.imp (fun e => (pr p _ n e).1) (fun ⟨o, e⟩ => ⟨o, (pr p _ n e).1⟩)
  have r' : Reps (W.at S') H' ds vs := Reps.mono (W := W.at S) (S := S') pr ds vs r
  refine ⟨fun d ed => ?_, fun hi => ⟨vs, .inl e', by rw [r.len, hi, enumD_len]; exact Nat.le_refl _⟩⟩
  rw [enumD_get] at ed
  cases hd : ds[i]? with
  | none => rw [hd] at ed; cases ed
  | some d0 =>
    rw [hd] at ed
    cases ed
    obtain ⟨v, ev, rv⟩ := r'.get hd
    refine ⟨⟨vs, v, .inl e', ev⟩, fun x H2 ⟨T, y, ex, hT, eH, hy⟩ => ?_⟩
    subst ex
    subst eH
    have := hy vs (.inl e')
    rw [ev] at this
    cases this
    have f := fut_new (o := .tup [.int (i : Nat), v]) w' hT
    exact ⟨f, mkT (w'.new hT) (.inl upd_same) (Reps.cons (by rw [Nat.zero_add]; exact mkI) (Reps.cons (rv.fut w' f) Reps.nil))⟩
def rEnum (a : XP) : XAp := fun G Q E => a G (fun d => match d with
  | .lst ds => Q (enumD 0 ds)
  | .tup ds => Q (enumD 0 ds)
  | _ => False) E
theorem xi_enum {B : Bs} {X : Cx} {Wx : WX} {a : Expr} {pa : XP} {p pos tpos : Pos} {elts : List Expr} {kk : Nat} (hm : X.mg "enumerate" = none) (ha : XE B X Wx a pa) (hg : Gl X "enumerate" := by rfl) (hs : starEach [a] X.env = (false, eval a X.env) :: starEach [] X.env := by rfl) (hs2 : starEach [a] X.env = [(false, eval a X.env)] := by rfl) :
    XI B X Wx (.Tuple elts kk tpos) (.Call (.Name "enumerate" p) [a] [] pos) (rEnum pa) := by
  obtain ⟨ta, ha, ea⟩ := ha.ex
  refine ⟨_, pi_enumT hg hm (pa_cons ha pa_nil hs) hs2, fun S σ H G Q E R O q hR kx => ea S σ H G _ E _ O q (fun v H1 d f r h => ?_) kx⟩
  cases d <;> first | exact False.elim h | skip
  · obtain ⟨p, vs, rfl, n, e1, z⟩ := repL r
    exact .inr ⟨p, vs, rfl, SqL.of e1, hR _ H1 _ f (wk_enumL n e1 z) h⟩
  · obtain ⟨p, vs, rfl, n, e1, z⟩ := repT r
    exact .inl ⟨p, vs, rfl, .inl e1, hR _ H1 _ f (wk_enumT n e1 z) h⟩
end Pu
namespace Pu
open PySem PySem.Spec PyProof.Rows L2
/-! ## a set of texts: how many -/
def ddS (acc : List Str) (x : Str) : List Str := if acc.any (· == x) then acc else acc ++ [x]
def dd (l : List Str) : List Str := l.foldl ddS []
theorem dd_snoc (l : List Str) (x : Str) : dd (l ++ [x]) = ddS (dd l) x := by unfold dd; rw [List.foldl_append]; rfl
theorem ddS_any (acc : List Str) (x y : Str) : (ddS acc x).any (· == y) = (acc.any (· == y) || decide (y = x)) := by
  unfold ddS
  split
  · rename_i h
    by_cases e : y = x
    · subst e
      rw [h]
      simp
    · simp [e]
  · rw [List.any_append]
    by_cases e : y = x
    · subst e
      simp
    · have : (x == y) = false := by rw [beq_eq_false_iff_ne]; exact fun z => e z.symm
      simp [this, e]
theorem dd_any : ∀ (l : List Str) (y : Str), (dd l).any (· == y) = l.any (· == y) := by
  intro l
  have gen : ∀ (l acc : List Str) (y : Str), (l.foldl ddS acc).any (· == y) = (acc.any (· == y) || l.any (· == y)) := by
    intro l
    induction l with
    | nil => intro acc y; simp
    | cons x l ih =>
      intro acc y
      rw [List.foldl_cons, ih, ddS_any, List.any_cons, Bool.or_assoc]
      congr 1
      have : decide (y = x) = (x == y) := by
        by_cases e : y = x
        · subst e; simp
        · have : (x == y) = false := by rw [beq_eq_false_iff_ne]; exact fun z => e z.symm
          rw [this]; simp [e]
      rw [this]
  intro y
  unfold dd
  rw [gen l [] y]
  simp
theorem dd_len_snoc (l : List Str) (x : Str) : (dd (l ++ [x])).length = if l.any (· == x) then (dd l).length else (dd l).length + 1 := by
  rw [dd_snoc]
  unfold ddS
  rw [dd_any]
  split <;> simp
theorem dd_le : ∀ l : List Str, (dd l).length ≤ l.length := by
  have gen : ∀ (l acc : List Str), (l.foldl ddS acc).length ≤ acc.length + l.length := by
    intro l
    induction l with
    | nil => intro acc; simp
    | cons x l ih =>
      intro acc
      rw [List.foldl_cons, List.length_cons]
      have := ih (ddS acc x)
      have h2 : (ddS acc x).length ≤ acc.length + 1 := by unfold ddS; split <;> simp
      omega
  intro l
  have := gen l []
  unfold dd
  simpa using this
section
variable {prog : Program} {w : World} {A : Around} {R : Result → Shared → Prop} {I : Addr} {fp wr : List Addr} {G : Array GenState → Array GenState → Prop} {n : Nat} {P : Nat → Value → Prop} {St : Nat → Shared → Prop}
abbrev SetS (prog : Program) (w : World) (h : Heap) (S : Addr) (l : List Str) : Prop := h.SetOf (PySem.strKind prog w) S (fun k => l.any (· == k)) (dd l).length
theorem add_loop (W : WalksS prog w A.in1 I fp wr G n P St) (S : Addr) (hSf : S ∉ fp) (xs : List Str) (hsz : xs.length = n) (hb : n + 1 < scanBound) (hval : ∀ i v, P i v → ∃ t, v = .str (xs.getD i Str.empty) t) :
    ∀ (k i : Nat) (s : Shared), n - i = k → i ≤ n → St i s → SetS prog w s.heap S (xs.take i) → (∀ s', Moved (S :: wr) G s s' → SetS prog w s'.heap S xs → R (.ok (.ret .none)) s') →
      codeAny (model prog w) A (.builtin "set.update.loop" ⟨[.ref S, .ref I], []⟩) R s := by
  have hSw : S ∉ wr := fun h => hSf (W.sub _ h)
  have hsub : ∀ b ∈ wr, b ∈ S :: wr := fun b hb => List.mem_cons_of_mem _ hb
  have stay : ∀ {s s' : Shared} {l : List Str}, SetS prog w s.heap S l → Moved wr G s s' → SetS prog w s'.heap S l := fun {s s' l} ⟨o, es, ep, t, ho, rest⟩ hm => ⟨o, es, ep, t, hm.heap S _ hSw ho, rest⟩
  intro k
  induction k with
  | zero =>
    intro i s hk hi hst hS hR
    obtain rfl : i = n := by omega
    refine codeAny_builtin PyProof.Rows.F.entry_set_update_loop ?_
    rw [Around.under_plainId PyProof.Rows.F.plain_set_update_loop _]
    show wpAny _ A.in1 (pyNext (.ref I) >>= _) _ _ s
    refine wpAny_bind (W.done s _ _ hst fun s' hm => ?_)
    rw [← hsz, List.take_length] at hS
    exact wpAny_pure (hR s' (hm.mono hsub) (stay hS hm))
  | succ k ih =>
    intro i s hk hi hst hS hR
    have hlt : i < n := by omega
    refine codeAny_builtin PyProof.Rows.F.entry_set_update_loop ?_
    rw [Around.under_plainId PyProof.Rows.F.plain_set_update_loop _]
    show wpAny _ A.in1 (pyNext (.ref I) >>= _) _ _ s
    refine wpAny_bind (W.item i s _ _ hlt hst fun v s' hP hst' hm => ?_)
    obtain ⟨t, rfl⟩ := hval i v hP
    have hS' := stay hS hm
    have hx : xs.getD i Str.empty = xs[i]'(by omega) := by rw [List.getD_eq_getElem?_getD, List.getElem?_eq_getElem (by omega)]; rfl
    have htk : xs.take (i + 1) = xs.take i ++ [xs.getD i Str.empty] := by rw [hx, List.take_succ_eq_append_getElem (by omega)]
    show wpAny _ A.in1 (holding [Value.str (xs.getD i Str.empty) t] (setAdd S (.str (xs.getD i Str.empty) t)) >>= _) _ _ s'
    refine wpAny_bind (wpAny_holding ?_)
    unfold setAdd
    refine wpAny_holding (wpAny_bind ((PySem.strKind prog w).pyHash (k := xs.getD i Str.empty) (strKind_is _ _ _ _) ?_))
    have hroom : (dd (xs.take i)).length + 1 < scanBound := by
      have h1 := dd_le (xs.take i)
      have h2 : (xs.take i).length ≤ n := by rw [List.length_take]; omega
      omega
    refine wpAny_setAddHashed_of (knd := PySem.strKind prog w) (s := { s' with toks := s'.toks + 1 }) (strKind_is _ _ _ _) rfl hS' hroom fun h' hsb hS2 => ?_
    have hSi : SetS prog w h' S (xs.take (i + 1)) := by
      rw [htk]
      refine SetOf_congr hS2 (fun k' => ?_) ?_
      · rw [List.any_append]
        congr 1
        by_cases e : k' = xs.getD i Str.empty
        · rw [e]; simp
        · have : (xs.getD i Str.empty == k') = false := by rw [beq_eq_false_iff_ne]; exact fun z => e z.symm
          simp only [List.any_cons, List.any_nil, this, e]
          rfl
      · rw [dd_len_snoc]
    refine wpAny_pure ⟨plainId_quiet PyProof.Rows.F.plain_set_update_loop _, ih (i + 1) _ (by omega) hlt (W.frame _ s' _ _ hst' (Nat.le_succ _) fun b hb o e => ?_) hSi fun s'' hm'' hS'' => ?_⟩
    · rw [hsb.2 b (fun h : b = S => hSf (by rw [← h]; exact hb))]
      exact e
    · refine hR s'' (Moved.trans W.gtrans ((hm.mono hsub).then_heap (Nat.le_succ _) fun b o hb e => ?_) hm'') hS''
      rw [hsb.2 b (fun h : b = S => hb (by rw [h]; exact List.mem_cons_self))]
      exact e
end
section
variable {prog : Program} {w : World} {A : Around} {E : Value → Shared → Prop} {s : Shared}
abbrev noSet (led : Bool) : Obj := { cls := .type "set", dict := none, data := .set #[] 0 (.fresh 0 0 led) }
/-- set(a): the new set, then its __init__ -/
theorem set_call {a : Value} {Q : Value → Shared → Prop}
    (h : ∀ led, codeAny (model prog w) A.in1 (.call (.builtin "set.__init__") ⟨[.ref s.heap.objs.size, a], []⟩) (wants (fun r s2 => r = .none ∧ Q (.ref s.heap.objs.size) s2) E) { s with heap := s.heap.push (noSet led) }) :
    wpAny (model prog w) A (call (.type "set") [a]) Q E s := by
  obtain ⟨c, tl, hmro⟩ := PySem.F.called_set.mro
  have hmade := PySem.F.called_set.made
  have hsub := PySem.F.called_set.sub
  have h1 := PySem.F.called_set.notType
  have h2 := PySem.F.called_set.canCreate
  have hct := PySem.F.typeCall_set_1 a
  refine wpAny_call (codeAny_of_tree ?_)
  show wpAny _ _ (callAny (.type "set") _) _ _ _
  refine wpAny_pure ⟨Code.quiet_builtin _ (by decide +kernel), codeAny_builtin PySem.F.entry_type_call ?_⟩
  rw [Around.under_plain (weight_type_call_type "set" [a] []) rfl]
  repeat (any_goals (first | assumption | wp_step))
  refine codeAny_mono (code_set_new_1 a (E := E) (Q₁ := fun obj s₁ => ∃ led : Bool, obj = .ref s.heap.objs.size ∧ s₁ = { s with heap := s.heap.push (noSet led) }) fun led => ⟨led, rfl, rfl⟩) fun r s₁ hr => ?_
  cases r with
  | error e => exact hr
  | ok fl =>
    cases fl with
    | ret obj =>
      obtain ⟨led, rfl, rfl⟩ := hr
      have hS : (s.heap.push (noSet led)).get? s.heap.objs.size = some (noSet led) := Heap.get?_push_size _ rfl
      have hT : Shared.TypeIs { s with heap := s.heap.push (noSet led) } (.ref s.heap.objs.size) "set" := ⟨_, hS, rfl⟩
      have hli := PySem.F.called_set.init.lookup
      have hbi := PySem.F.called_set.init.bind (.ref s.heap.objs.size)
      repeat (any_goals (first | assumption | wp_step))
      refine codeAny_mono (h led) fun r₂ s₂ hr₂ => ?_
      cases r₂ with
      | error e => exact hr₂
      | ok fl₂ =>
        cases fl₂ with
        | ret r =>
          obtain ⟨rfl, hq⟩ := hr₂
          repeat (any_goals (first | assumption | wp_step))
        | _ => exact hr₂.elim
    | _ => exact hr.elim
theorem set_strs {T : String} {l : Addr} {o io : Obj} {items : Array Value} {nl : Nat} {xs : List Str} {Hl : Heap → Prop} {St : Addr → Nat → Heap → Prop} {Q : Value → Shared → Prop} (hh : A.handled = none) (hol : s.heap.get? l = some o) (hcl : o.cls = .type T) (hdl : o.data = .seq items nl)
    (hsls : isSubtype (.type T) (.type "set") = pure false) (hslf : isSubtype (.type T) (.type "frozenset") = pure false) (hne : (Value.type T == Value.type "dict") = false) (B : Begins (.ref l) io Hl) (hl : Hl s.heap)
    (W : ∀ (A : Around) (I : Addr), A.handled = none → l ≠ I → Walks prog w A I [I, l] [I] items.size (fun i v => items[i]? = some v) (St I)) (st0 : ∀ (I : Addr) (h' : Heap), h'.get? I = some io → h'.get? l = some o → St I 0 h')
    (hi : PyProof.Rows.StrsAre items.toList xs) (hb : xs.length + 1 < scanBound)
    (h : ∀ (h' : Heap) (tk : Nat), SetS prog w h' s.heap.objs.size xs → (∀ b o, b < s.heap.objs.size → s.heap.get? b = some o → h'.get? b = some o) → Q (.ref s.heap.objs.size) { s with heap := h', toks := tk }) :
    wpAny (model prog w) A (call (.type "set") [.ref l]) Q E s := by
  refine set_call fun led => ?_
  have hS : (s.heap.push (noSet led)).get? s.heap.objs.size = some (noSet led) := Heap.get?_push_size _ rfl
  have hT : Shared.TypeIs { s with heap := s.heap.push (noSet led) } (.ref s.heap.objs.size) "set" := ⟨_, hS, rfl⟩
  refine codeAny_call_builtin PySem.F.called_set.init.plain PySem.F.entry_set_init (check_set_init_1 hT ?_)
  obtain ⟨ocls, odict, odata, oslots⟩ := o
  simp only at hcl hdl
  subst hcl
  subst hdl
  have hol' : (s.heap.push (noSet led)).get? l = some { cls := .type T, dict := odict, data := .seq items nl, slots := oslots } := Heap.get?_push_of_some _ hol
  have hl1 : Hl (s.heap.push (noSet led)) := B.keeps _ _ hl fun b o e => Heap.get?_push_of_some _ e
  unfold Builtin.«set.__init__» noKeywords Builtin.Frozenset.updateFrom
  generalize hPI : pyIter = PI
  wp_walk
  subst hPI
  refine B.iter prog w _ _ _ _ hl1 ?_
  refine wpAny_bind (wpAny_runValue ?_)
  have hlS : l < s.heap.objs.size := Heap.lt_size hol
  have hz : (s.heap.push (noSet led)).objs.size = s.heap.objs.size + 1 := Heap.size_push ..
  have hh3 : A.in1.in1.in1.handled = none := by simp [hh]
  have hneI : l ≠ (s.heap.push (noSet led)).objs.size := by rw [hz]; exact Nat.ne_of_lt (Nat.lt_succ_of_lt hlS)
  have hSf : s.heap.objs.size ∉ [(s.heap.push (noSet led)).objs.size, l] := by
    rw [hz]
    simp only [List.mem_cons, List.not_mem_nil, or_false, not_or]
    exact ⟨Nat.ne_of_lt (Nat.lt_succ_self _), Nat.ne_of_gt hlS⟩
  have hsz : xs.length = items.size := by rw [← StrsAre.len_eq hi, Array.length_toList]
  have hval : ∀ (i : Nat) (v : Value), items[i]? = some v → ∃ t, v = .str (xs.getD i Str.empty) t := fun i v hv => SS.strs_at hi i v (by rw [Array.getElem?_toList]; exact hv)
  refine add_loop ((W _ _ hh3 hneI).toS) s.heap.objs.size hSf xs hsz (by rw [← hsz]; exact hb) hval (items.size - 0) 0 _ (by omega) (Nat.zero_le _)
    (st0 _ _ (Heap.get?_push_size _ B.free) (Heap.get?_push_of_some _ hol')) ?_ ?_
  · exact SetOf_congr ((PyProof.Rows.setObjOf_fresh (knd := PySem.strKind prog w) led).setOf (Heap.get?_push_of_some _ hS) (by unfold scanBound; omega)) (fun _ => rfl) rfl
  · intro s' hm hS'
    obtain ⟨h', g', d', tk', os'⟩ := s'
    obtain rfl : g' = s.gens := hm.gens
    obtain rfl : d' = s.drawn := hm.drawn
    obtain rfl : os' = s.os := hm.os
    refine wpAny_pure ?_
    show wpAny _ _ (ret Value.none) _ _ _
    refine wpAny_pure ⟨rfl, h h' tk' hS' fun b o hb e => ?_⟩
    have hb1 : b ≠ s.heap.objs.size := Nat.ne_of_lt hb
    have hb2 : b ≠ (s.heap.push (noSet led)).objs.size := by rw [hz]; exact Nat.ne_of_lt (Nat.lt_succ_of_lt hb)
    exact hm.heap b o (by simp only [List.mem_cons, List.not_mem_nil, or_false, not_or]; exact ⟨hb1, hb2⟩) (Heap.get?_push_of_some _ (Heap.get?_push_of_some _ e))
end
end Pu
namespace Pu
open PySem PySem.Spec PyProof.Rows L2
def strsD : List D → Option (List Str)
  | [] => some []
  | .str x :: ds => (strsD ds).map (x :: ·)
  | _ => none
theorem strs_rep {W : Wd} {H : Hp} : ∀ {ds : List D} {vs : List V} {xs : List Str}, Reps W H ds vs → strsD ds = some xs → vs = xs.map V.str
  | [], vs, xs, h, e => by
    simp only [Reps] at h
    cases e
    exact h
  | d :: ds, vs, xs, h, e => by
    simp only [Reps] at h
    obtain ⟨v, r, rfl, h1, h2⟩ := h
    cases d <;> first | (cases e; done) | skip
    simp only [strsD] at e
    cases hb : strsD ds with
    | none => rw [hb] at e; cases e
    | some xs' =>
      rw [hb] at e
      cases e
      rw [repS h1, strs_rep h2 hb]
      rfl
theorem strsD_map (xs : List Str) : strsD (xs.map D.str) = some xs := by
  induction xs with
  | nil => rfl
  | cons x xs ih => simp only [List.map_cons, strsD, ih]; rfl
/-- len(set(x)), x texts -/
def rLenSet (a : XP) : XP := fun G Q E => a G (fun d => match d with
  | .lst ds => ∃ xs, strsD ds = some xs ∧ xs.length ≤ 1000 ∧ Q (.int ((dd xs).length : Int))
  | .tup ds => ∃ xs, strsD ds = some xs ∧ xs.length ≤ 1000 ∧ Q (.int ((dd xs).length : Int))
  | _ => False) E
section
variable {B : Bs} {X : Cx} {Wx : WX} {a b c e o : Expr} {es : List Expr} {pa pb pc : XP} {p p2 q pos : Pos} {pas : XAp} {qt : XTp}
def tLenSetS (K : PySem.W.Frag) (ta : TE) : TE := fun σ H Q => ta σ H fun x H1 => ∃ l, ∃ xs : List Str, x = .ref l ∧ (SqL K H1 l (xs.map V.str) ∨ SqT K H1 l (xs.map V.str)) ∧ xs.length ≤ 1000 ∧ Q (.int ((dd xs).length : Int)) H1
theorem pe_lenSetS {ta : TE} (hc : X.calm = true) (hg : Gl X "len") (hm : X.mg "len" = none) (hg2 : Gl X "set") (hm2 : X.mg "set" = none) (ha : PE X a ta)
    (na : starEach [a] X.env = (false, eval a X.env) :: starEach [] X.env := by rfl) : PE X (.Call (.Name "len" p) [.Call (.Name "set" p2) [a] [] q] [] pos) (tLenSetS X.K ta) := by
  refine ⟨fun pins s σ H Q I h => ?_⟩
  refine Call_ (ld_blt I hg hm boot_len (PyProof.Rows.callWith_builtin1 (PyProof.Rows.args_cons ?_ rfl) rfl rfl))
  refine Call_ (ld_blt I hg2 hm2 boot_set (PyProof.Rows.callWith_type1 (PyProof.Rows.args_cons (thn (ha.run pins s σ H _ I h) fun v s1 ⟨x, H1, I1, r1, q1⟩ => PyProof.Rows.args_nil ?_) na) na rfl))
  obtain ⟨l, xs, rfl, hq, hn, q1⟩ := q1
  cases r1
  have hb : xs.length + 1 < scanBound := by unfold scanBound; omega
  have fin : ∀ (h' : Heap) (tk : Nat), SetS X.prog X.w h' s1.heap.objs.size xs → (∀ b o, b < s1.heap.objs.size → s1.heap.get? b = some o → h'.get? b = some o) →
      wpAny (model X.prog X.w) X.A (spliced (backTo pos (starEach [] X.env))) (fun vs s₂ => wpAny (model X.prog X.w) X.A (call (.builtin "len") (Value.ref s1.heap.objs.size :: vs)) (EP X pins σ Q) X.xe s₂) X.xe { s1 with heap := h', toks := tk } := fun h' tk hS hk => by
    refine PyProof.Rows.args_nil ?_
    obtain ⟨o, es, ep, t, ho, hex, hd, _, _, _, hf, hn2⟩ := hS
    have I2 : Inv X pins σ H1 { s1 with heap := h', toks := tk } := I1.kept fun b o e => hk b o (Heap.lt_size e) e
    have := dd_le xs
    exact call_len_set ho hex hd hf (by rw [hn2]; omega) ⟨.int _, H1, I2.tok _, ⟨_, by rw [hn2]⟩, q1⟩
  rcases hq with hq | hq
  · obtain ⟨its, r, pl, hz⟩ := I1.list hq
    obtain ⟨o, ho, hc', n, hd⟩ := pl.isList
    exact set_strs (St := fun I i h => h.IsListIter I l i ∧ h.IsList l its.toArray) (I1.ok.hd hc) ho hc' hd PySem.F.sub_list_set PySem.F.sub_list_frozenset (by decide) (begins_list l its.toArray) pl.isList (fun A I hh hne => Walks.list hh I l hne its.toArray) (fun I h' e1 e2 => ⟨⟨_, e1, rfl, rfl⟩, ⟨o, e2, hc', n, hd⟩⟩) (by simpa using strsAre_of r) hb fin
  · obtain ⟨its, r, pl, hz⟩ := I1.tuple hq
    obtain ⟨o, ho, hc', n, hd⟩ := pl
    exact set_strs (St := fun I i h => h.IsTupleIter I l i ∧ h.IsTuple l its.toArray) (I1.ok.hd hc) ho hc' hd PySem.F.sub_tuple_set PySem.F.sub_tuple_frozenset (by decide) (begins_tuple l its.toArray) ⟨o, ho, hc', n, hd⟩ (fun A I hh hne => Walks.tuple hh I l hne its.toArray) (fun I h' e1 e2 => ⟨⟨_, e1, rfl, rfl⟩, ⟨o, e2, hc', n, hd⟩⟩) (by simpa using strsAre_of r) hb fin
theorem xe_lenSet (hc : X.calm = true) (hm : X.mg "len" = none) (hm2 : X.mg "set" = none) (ha : XE B X Wx a pa) (hg : Gl X "len" := by rfl) (hg2 : Gl X "set" := by rfl)
    (na : starEach [a] X.env = (false, eval a X.env) :: starEach [] X.env := by rfl) : XE B X Wx (.Call (.Name "len" p) [.Call (.Name "set" p2) [a] [] q] [] pos) (rLenSet pa) := by
  obtain ⟨ta, ha, ea⟩ := ha.ex
  refine ⟨_, pe_lenSetS hc hg hm hg2 hm2 ha na, fun S σ H G Q E k O q ke kx => ea S σ H G _ E _ O q (fun v H1 d f r h => ?_) kx⟩
  cases d <;> first | exact False.elim h | skip
  · obtain ⟨xs, hx, hn, h⟩ := h
    obtain ⟨l, vs, rfl, n, e1, z⟩ := repL r
    have := strs_rep z hx
    subst this
    exact ⟨l, xs, rfl, .inl (SqL.of e1), hn, ke _ H1 _ f mkI h⟩
  · obtain ⟨xs, hx, hn, h⟩ := h
    obtain ⟨l, vs, rfl, n, e1, z⟩ := repT r
    have := strs_rep z hx
    subst this
    exact ⟨l, xs, rfl, .inr (.inl e1), hn, ke _ H1 _ f mkI h⟩
/-! ## an own list read -/
mutual
/-- no list within -/
def noL : D → Bool
  | .lst _ => false
  | .val _ => false
  | .law => false
  | .tup ds => noLs ds
  | .ftp ds => noLs ds
  | .ins _ ds => noLs ds
  | .dic _ ds => noLs ds
  | .exn _ ds => noLs ds
  | _ => true
def noLs : List D → Bool
  | [] => true
  | d :: ds => noL d && noLs ds
end
mutual
/-- a list may change (or be forbidden) under what has no list within -/
theorem Rep.apart {W W' : Wd} {H H' : Hp} {q : Addr} {us : List V} (hq : H q = some (.lst us)) (h0 : W'.CT = W.CT) (h1 : W'.lay = W.lay) (k : ∀ a o, a ≠ q → ¬ W.S a → H a = some o → H' a = some o ∧ ¬ W'.S a) : ∀ (d : D) (v : V), noL d = true → Rep W H d v → Rep W' H' d v
  | .non, v, _, h => by simpa only [Rep] using h
  | .bl b, v, _, h => by simpa only [Rep] using h
  | .int i, v, _, h => by simpa only [Rep] using h
  | .str x, v, _, h => by simpa only [Rep] using h
  | .val u, v, n, h => by simp [noL] at n
  | .law, v, n, h => by simp [noL] at n
  | .lst ds, v, n, h => by simp [noL] at n
  | .tup ds, v, n, h => by
    simp only [Rep] at h ⊢
    obtain ⟨a, vs, e, n1, q1, r⟩ := h
    have ne : a ≠ q := fun z => by
      rcases q1 with q1 | ⟨o, q1⟩ <;> (rw [z, hq] at q1; cases q1)
    have k1 : Rd H' a (.tup vs) := q1.imp (fun q1 => (k a _ ne n1 q1).1) (fun ⟨o, q1⟩ => ⟨o, (k a _ ne n1 q1).1⟩)
    refine ⟨a, vs, e, ?_, k1, Reps.apart hq h0 h1 k ds vs (by simpa [noL] using n) r⟩
    rcases q1 with q1 | ⟨o, q1⟩
    · exact (k a _ ne n1 q1).2
    · exact (k a _ ne n1 q1).2
  | .ftp ds, v, n, h => by
    simp only [Rep] at h ⊢
    obtain ⟨a, vs, o, e, n1, dn, q1, r⟩ := h
    have ne : a ≠ q := fun z => by rw [z, hq] at q1; cases q1
    exact ⟨a, vs, o, e, (k a _ ne n1 q1).2, dn, (k a _ ne n1 q1).1, Reps.apart hq h0 h1 k ds vs (by simpa [noL] using n) r⟩
  | .ins c ds, v, n, h => by
    simp only [Rep] at h ⊢
    obtain ⟨a, dx, vs, e, n1, q1, l, r⟩ := h
    have ne : a ≠ q := fun z => by rw [z, hq] at q1; cases q1
    rw [h0, h1]
    exact ⟨a, dx, vs, e, (k a _ ne n1 q1).2, (k a _ ne n1 q1).1, l, Reps.apart hq h0 h1 k ds vs (by simpa [noL] using n) r⟩
  | .dic ks ds, v, n, h => by
    simp only [Rep] at h ⊢
    obtain ⟨a, vs, e, n1, q1, l, r⟩ := h
    have ne : a ≠ q := fun z => by rw [z, hq] at q1; cases q1
    exact ⟨a, vs, e, (k a _ ne n1 q1).2, (k a _ ne n1 q1).1, l, Reps.apart hq h0 h1 k ds vs (by simpa [noL] using n) r⟩
  | .exn c ds, v, n, h => by
    simp only [Rep] at h ⊢
    obtain ⟨a, dd, vs, e, n1, q1, l, x, r⟩ := h
    have ne : a ≠ q := fun z => by rw [z, hq] at q1; cases q1
    refine ⟨a, dd, vs, e, (k a _ ne n1 q1).2, ?_, by rw [h1]; exact l, x.imp id ?_, Reps.apart hq h0 h1 k ds vs (by simpa [noL] using n) r⟩
    · rw [h0]
      exact (k a _ ne n1 q1).1
    · rintro ⟨dx, fs, e1, n2, q2, y⟩
      have ne2 : dx ≠ q := fun z => by rw [z, hq] at q2; cases q2
      exact ⟨dx, fs, e1, (k dx _ ne2 n2 q2).2, (k dx _ ne2 n2 q2).1, by rw [h1]; exact y⟩
theorem Reps.apart {W W' : Wd} {H H' : Hp} {q : Addr} {us : List V} (hq : H q = some (.lst us)) (h0 : W'.CT = W.CT) (h1 : W'.lay = W.lay) (k : ∀ a o, a ≠ q → ¬ W.S a → H a = some o → H' a = some o ∧ ¬ W'.S a) : ∀ (ds : List D) (vs : List V), noLs ds = true → Reps W H ds vs → Reps W' H' ds vs
  | [], vs, _, h => by simpa only [Reps] using h
  | d :: ds, vs, n, h => by
    simp only [Reps] at h ⊢
    obtain ⟨v, r, e, h2, h3⟩ := h
    simp only [noLs, Bool.and_eq_true] at n
    exact ⟨v, r, e, Rep.apart hq h0 h1 k d v n.1 h2, Reps.apart hq h0 h1 k ds r n.2 h3⟩
end
/-- a test that reads the own list at slot i -/
def rTFrz (i : Nat) (c : XTp) : XTp := fun G Q E => match G[i]? with
  | some (.own ds) => c (G.set i (.d (.lst ds))) Q (fun _ => False)
  | _ => False
theorem xt_frz (i : Nat) (hc : XT B X Wx c qt) : XT B X Wx c (rTFrz i qt) := by
  obtain ⟨t, h, ev⟩ := hc.ex
  refine ⟨t, h, fun S σ H G Q E k O q kt kx => ?_⟩
  unfold rTFrz at q
  cases hg : G[i]? with
  | none => rw [hg] at q; exact q.elim
  | some g =>
    rw [hg] at q
    cases g <;> first | exact False.elim q | skip
    obtain ⟨a, sa, O2⟩ := O.thaw hg
    exact ev _ σ H _ Q _ k O2 q (fun b H' f h => kt b H' ⟨f.keep, f.law⟩ h) (fun _ _ _ _ _ _ z => z.elim)
/-- an expression that reads the own list at slot i, its value without lists -/
def rFrzE (i : Nat) (a : XP) : XP := fun G Q E => match G[i]? with
  | some (.own ds) => a (G.set i (.d (.lst ds))) (fun d => noL d = true ∧ Q d) (fun _ => False)
  | _ => False
theorem xe_frz (i : Nat) (ha : XE B X Wx a pa) : XE B X Wx a (rFrzE i pa) := by
  obtain ⟨t, h, ev⟩ := ha.ex
  refine ⟨t, h, fun S σ H G Q E k O q ke kx => ?_⟩
  unfold rFrzE at q
  cases hg : G[i]? with
  | none => rw [hg] at q; exact q.elim
  | some g =>
    rw [hg] at q
    cases g <;> first | exact False.elim q | skip
    obtain ⟨o, eo, p, vs, rfl, s1, s2, s3, e1, rr⟩ := O.get hg
    obtain ⟨p', sp, O2⟩ := O.thaw hg
    refine ev _ σ H _ _ _ _ O2 q (fun v H' d f r h => ?_) (fun _ _ _ _ _ _ z => z.elim)
    have f' : Fut (B.W.at S) H H' := ⟨f.keep, f.law⟩
    have e1' := f'.keep p _ e1 s3
    have pe : p' = p := by
      apply Classical.byContradiction
      intro ne
      have ⟨o2, eo2, h2⟩ := O2.get (i := i) (g := .d (.lst _)) (List.getElem?_set_self (List.getElem?_eq_some_iff.mp hg).1)
      rw [eo] at eo2
      cases eo2
      obtain ⟨v2, ev2, rv2⟩ := h2
      cases ev2
      obtain ⟨a2, vs2, ea2, na2, _⟩ := repL rv2
      cases ea2
      exact na2 ⟨s1, fun z => ne z.symm⟩
    refine ke v H' d f' (Rep.apart (W := B.W.at fun a => S a ∧ a ≠ p') (W' := B.W.at S) e1' rfl rfl (fun a o ne n e => ⟨e, fun z => n ⟨z, fun y => ne (y.trans pe)⟩⟩) d v h.1 r) h.2
end
end Pu
namespace Pu
open PySem PySem.Spec PyProof.Rows L2
/-! ## a list that is a datum changes -/
def kd : D → Nat
  | .non => 1
  | .bl _ => 2
  | .int _ => 3
  | .str _ => 4
  | .lst _ => 5
  | .tup _ => 6
  | .ftp _ => 6
  | .ins _ _ => 7
  | .dic _ _ => 8
  | .exn _ _ => 9
  | _ => 0
/-- two lists that cannot be one -/
def clash : List D → List D → Bool
  | [], [] => false
  | x :: _, y :: _ => kd x != 0 && kd y != 0 && kd x != kd y
  | _, _ => true
def kdo : HO → Nat
  | .lst _ => 5
  | .tup _ => 6
  | .frz _ u => kdo u
  | .ins _ _ _ => 7
  | .dK _ => 8
  | _ => 9
theorem kd_ref {W : Wd} {H : Hp} {d : D} {v : V} (h : Rep W H d v) : kd d = 0 ∨ (kd d < 5 ∧ (v = .non ∧ kd d = 1 ∨ (∃ b, v = .bl b) ∧ kd d = 2 ∨ (∃ i, v = .int i) ∧ kd d = 3 ∨ (∃ x, v = .str x) ∧ kd d = 4)) ∨ ∃ a o, v = .ref a ∧ H a = some o ∧ kdo o = kd d := by
  cases d with
  | non => simp only [Rep] at h; exact .inr (.inl ⟨by decide, .inl ⟨h, rfl⟩⟩)
  | bl b => simp only [Rep] at h; exact .inr (.inl ⟨by show 2 < 5; decide, .inr (.inl ⟨⟨_, h⟩, rfl⟩)⟩)
  | int b => simp only [Rep] at h; exact .inr (.inl ⟨by show 3 < 5; decide, .inr (.inr (.inl ⟨⟨_, h⟩, rfl⟩))⟩)
  | str b => simp only [Rep] at h; exact .inr (.inl ⟨by show 4 < 5; decide, .inr (.inr (.inr ⟨⟨_, h⟩, rfl⟩))⟩)
  | val u => exact .inl rfl
  | law => exact .inl rfl
  | lst ds => simp only [Rep] at h; obtain ⟨a, vs, e, n, q, r⟩ := h; exact .inr (.inr ⟨a, _, e, q, rfl⟩)
  | tup ds =>
    simp only [Rep] at h
    obtain ⟨a, vs, e, n, q, r⟩ := h
    rcases q with q | ⟨o, q⟩
    · exact .inr (.inr ⟨a, _, e, q, rfl⟩)
    · exact .inr (.inr ⟨a, _, e, q, rfl⟩)
  | ftp ds => simp only [Rep] at h; obtain ⟨a, vs, o, e, n, dn, q, r⟩ := h; exact .inr (.inr ⟨a, _, e, q, rfl⟩)
  | ins c ds => simp only [Rep] at h; obtain ⟨a, dx, vs, e, n, q, l, r⟩ := h; exact .inr (.inr ⟨a, _, e, q, rfl⟩)
  | dic ks ds => simp only [Rep] at h; obtain ⟨a, vs, e, n, q, l, r⟩ := h; exact .inr (.inr ⟨a, _, e, q, rfl⟩)
  | exn c ds => simp only [Rep] at h; obtain ⟨a, dd, vs, e, n, q, l, x, r⟩ := h; exact .inr (.inr ⟨a, _, e, q, rfl⟩)
theorem kd_ne {W W2 : Wd} {H : Hp} {d e : D} {v : V} (c : (kd d != 0 && kd e != 0 && kd d != kd e) = true) (h1 : Rep W H d v) (h2 : Rep W2 H e v) : False := by
  have c : kd d ≠ 0 ∧ kd e ≠ 0 ∧ kd d ≠ kd e := by simpa [and_assoc] using c
  obtain ⟨c1, c2, c3⟩ := c
  rcases kd_ref h1 with z | ⟨_, z⟩ | ⟨a, o, e1, e2, e3⟩
  · exact c1 z
  · rcases kd_ref h2 with y | ⟨_, y⟩ | ⟨a, o, e1, e2, e3⟩
    · exact c2 y
    · rcases z with ⟨rfl, z⟩ | ⟨⟨_, rfl⟩, z⟩ | ⟨⟨_, rfl⟩, z⟩ | ⟨⟨_, rfl⟩, z⟩ <;> rcases y with ⟨y0, y⟩ | ⟨⟨_, y0⟩, y⟩ | ⟨⟨_, y0⟩, y⟩ | ⟨⟨_, y0⟩, y⟩ <;> first | (cases y0; done) | exact c3 (z.trans y.symm)
    · subst e1
      rcases z with ⟨z, _⟩ | ⟨⟨_, z⟩, _⟩ | ⟨⟨_, z⟩, _⟩ | ⟨⟨_, z⟩, _⟩ <;> cases z
  · subst e1
    rcases kd_ref h2 with y | ⟨_, y⟩ | ⟨a', o', e1', e2', e3'⟩
    · exact c2 y
    · rcases y with ⟨z, _⟩ | ⟨⟨_, z⟩, _⟩ | ⟨⟨_, z⟩, _⟩ | ⟨⟨_, z⟩, _⟩ <;> cases z
    · cases e1'
      rw [e2] at e2'
      cases e2'
      exact c3 (e3.symm.trans e3')
theorem clash_ne {W W2 : Wd} {H : Hp} : ∀ {ds es : List D} {vs : List V}, clash ds es = true → Reps W H ds vs → Reps W2 H es vs → False
  | [], [], _, c, _, _ => by simp [clash] at c
  | [], e :: es, vs, c, h, h' => by
    simp only [Reps] at h h'
    subst h
    obtain ⟨v', r, z, _⟩ := h'
    cases z
  | d :: ds, [], vs, c, h, h' => by
    simp only [Reps] at h h'
    subst h'
    obtain ⟨v', r, z, _⟩ := h
    cases z
  | d :: ds, e :: es, vs, c, h, h' => by
    simp only [Reps] at h h'
    obtain ⟨v, r, rfl, h1, _⟩ := h
    obtain ⟨v', r', z, h2, _⟩ := h'
    cases z
    exact kd_ne c h1 h2
mutual
/-- a list of these items is not within -/
def noM (us : List D) : D → Bool
  | .lst ds => clash ds us && noMs us ds
  | .val _ => false
  | .tup ds => noMs us ds
  | .ftp ds => noMs us ds
  | .ins _ ds => noMs us ds
  | .dic _ ds => noMs us ds
  | .exn _ ds => noMs us ds
  | _ => true
def noMs (us : List D) : List D → Bool
  | [] => true
  | d :: ds => noM us d && noMs us ds
end
mutual
theorem Rep.apM {W : Wd} {H H' : Hp} {p : Addr} {us : List V} {du : List D} (hp : H p = some (.lst us)) (hu : Reps W H du us) (k : ∀ a o, a ≠ p → ¬ W.S a → H a = some o → H' a = some o ∧ ¬ W.S a) : ∀ (d : D) (v : V), noM du d = true → Rep W H d v → Rep W H' d v
  | .non, v, _, h => by simpa only [Rep] using h
  | .bl b, v, _, h => by simpa only [Rep] using h
  | .int i, v, _, h => by simpa only [Rep] using h
  | .str x, v, _, h => by simpa only [Rep] using h
  | .val u, v, n, h => by simp [noM] at n
  | .law, v, n, h => by simpa only [Rep] using h
  | .lst ds, v, n, h => by
    simp only [noM, Bool.and_eq_true] at n
    simp only [Rep] at h ⊢
    obtain ⟨a, vs, e, n1, q1, r⟩ := h
    have ne : a ≠ p := fun z => by
      rw [z, hp] at q1
      cases q1
      exact clash_ne n.1 r hu
    exact ⟨a, vs, e, n1, (k a _ ne n1 q1).1, Reps.apM hp hu k ds vs n.2 r⟩
  | .tup ds, v, n, h => by
    simp only [Rep] at h ⊢
    obtain ⟨a, vs, e, n1, q1, r⟩ := h
    have ne : a ≠ p := fun z => by
      rcases q1 with q1 | ⟨o, q1⟩ <;> (rw [z, hp] at q1; cases q1)
    have k1 : Rd H' a (.tup vs) := q1.imp (fun q1 => (k a _ ne n1 q1).1) (fun ⟨o, q1⟩ => ⟨o, (k a _ ne n1 q1).1⟩)
    exact ⟨a, vs, e, n1, k1, Reps.apM hp hu k ds vs (by simpa [noM] using n) r⟩
  | .ftp ds, v, n, h => by
    simp only [Rep] at h ⊢
    obtain ⟨a, vs, o, e, n1, dn, q1, r⟩ := h
    have ne : a ≠ p := fun z => by rw [z, hp] at q1; cases q1
    exact ⟨a, vs, o, e, n1, dn, (k a _ ne n1 q1).1, Reps.apM hp hu k ds vs (by simpa [noM] using n) r⟩
  | .ins c ds, v, n, h => by
    simp only [Rep] at h ⊢
    obtain ⟨a, dx, vs, e, n1, q1, l, r⟩ := h
    have ne : a ≠ p := fun z => by rw [z, hp] at q1; cases q1
    exact ⟨a, dx, vs, e, n1, (k a _ ne n1 q1).1, l, Reps.apM hp hu k ds vs (by simpa [noM] using n) r⟩
  | .dic ks ds, v, n, h => by
    simp only [Rep] at h ⊢
    obtain ⟨a, vs, e, n1, q1, l, r⟩ := h
    have ne : a ≠ p := fun z => by rw [z, hp] at q1; cases q1
    exact ⟨a, vs, e, n1, (k a _ ne n1 q1).1, l, Reps.apM hp hu k ds vs (by simpa [noM] using n) r⟩
  | .exn c ds, v, n, h => by
    simp only [Rep] at h ⊢
    obtain ⟨a, dd, vs, e, n1, q1, l, x, r⟩ := h
    have ne : a ≠ p := fun z => by rw [z, hp] at q1; cases q1
    refine ⟨a, dd, vs, e, n1, (k a _ ne n1 q1).1, l, x.imp id ?_, Reps.apM hp hu k ds vs (by simpa [noM] using n) r⟩
    rintro ⟨dx, fs, e1, n2, q2, y⟩
    have ne2 : dx ≠ p := fun z => by rw [z, hp] at q2; cases q2
    exact ⟨dx, fs, e1, n2, (k dx _ ne2 n2 q2).1, y⟩
theorem Reps.apM {W : Wd} {H H' : Hp} {p : Addr} {us : List V} {du : List D} (hp : H p = some (.lst us)) (hu : Reps W H du us) (k : ∀ a o, a ≠ p → ¬ W.S a → H a = some o → H' a = some o ∧ ¬ W.S a) : ∀ (ds : List D) (vs : List V), noMs du ds = true → Reps W H ds vs → Reps W H' ds vs
  | [], vs, _, h => by simpa only [Reps] using h
  | d :: ds, vs, n, h => by
    simp only [Reps] at h ⊢
    obtain ⟨v, r, e, h2, h3⟩ := h
    simp only [noMs, Bool.and_eq_true] at n
    exact ⟨v, r, e, Rep.apM hp hu k d v n.1 h2, Reps.apM hp hu k ds r n.2 h3⟩
end
def scr (du : List D) : Sl → Sl
  | .d d => if noM du d then .d d else .no
  | .own ds => if noMs du ds then .own ds else .no
  | _ => .no
def scrG (du : List D) (G : List Sl) : List Sl := G.map (scr du)
theorem Ok.mut {B : Bs} {S : Addr → Prop} {σ : L2.St} {H : Hp} {G : List Sl} (O : Ok B S σ H G) (h0 : ∀ a, B.H0 a = none) {p : Addr} {us ws : List V} {du : List D} (hp : H p = some (.lst us)) (np : ¬ S p) (hu : Reps (B.W.at S) H du us) : Ok B S σ (upd H p (.lst ws)) (scrG du G) := by
  have k : ∀ a o, a ≠ p → ¬ S a → H a = some o → upd H p (.lst ws) a = some o ∧ ¬ S a := fun a o ne n e => ⟨by rw [upd_ne ne]; exact e, n⟩
  have back : ∀ {i : Nat} {g : Sl}, (scrG du G)[i]? = some g → g.isOwn = true → G[i]? = some g := fun {i g} e n => by
    unfold scrG at e
    rw [List.getElem?_map] at e
    cases hg : G[i]? with
    | none => rw [hg] at e; cases e
    | some g0 =>
      rw [hg] at e
      cases g0 with
      | own ds =>
        by_cases hn : noMs du ds = true
        · simp only [Option.map_some, scr, if_pos hn] at e
          exact e
        · simp only [Option.map_some, scr, if_neg hn] at e
          cases e
          cases n
      | d d =>
        by_cases hn : noM du d = true
        · simp only [Option.map_some, scr, if_pos hn] at e
          cases e
          cases n
        · simp only [Option.map_some, scr, if_neg hn] at e
          cases e
          cases n
      | _ =>
        simp only [Option.map_some, scr] at e
        cases e
        cases n
  refine ⟨⟨fun s l z => ?_, fun a h => ?_⟩, fun a o z n => ?_, O.sub, O.new, by unfold scrG; rw [List.length_map]; exact O.len, O.lw, fun i g o e1 e2 => ?_, fun i j g g' q e1 e2 n1 n2 e3 e4 => O.inj i j g g' q (back e1 n1) (back e2 n2) n1 n2 e3 e4⟩
  · obtain ⟨⟨z0, i', n', cs, z1⟩, z4, z5⟩ := O.wok.law s l z
    have m1 : s ≠ p := fun y => np (y ▸ z4)
    exact ⟨⟨z0, i', n', cs, by rw [upd_ne m1]; exact z1⟩, z4, z5⟩
  · have ha : a ≠ p := fun y => np (y ▸ h)
    rw [upd_ne ha]
    exact O.wok.dom a h
  · rw [h0] at z
    cases z
  · unfold scrG at e1
    rw [List.getElem?_map] at e1
    cases hg : G[i]? with
    | none => rw [hg] at e1; cases e1
    | some g0 =>
      rw [hg] at e1
      have base := O.sl i g0 o hg e2
      cases g0 with
      | d d =>
        by_cases hn : noM du d = true
        · simp only [Option.map_some, scr, if_pos hn] at e1
          cases e1
          obtain ⟨v, ev, r⟩ := base
          exact ⟨v, ev, Rep.apM (W := B.W.at S) hp hu k d v hn r⟩
        · simp only [Option.map_some, scr, if_neg hn] at e1
          cases e1
          trivial
      | own ds =>
        by_cases hn : noMs du ds = true
        · simp only [Option.map_some, scr, if_pos hn] at e1
          cases e1
          obtain ⟨q, vs, ev, s1, s2, s3, e, r⟩ := base
          exact ⟨q, vs, ev, s1, s2, s3, by rw [upd_ne (fun y : q = p => np (y ▸ s1))]; exact e, Reps.apM (W := B.W.at S) hp hu k ds vs hn r⟩
        · simp only [Option.map_some, scr, if_neg hn] at e1
          cases e1
          trivial
      | _ =>
        simp only [Option.map_some, scr] at e1
        cases e1
        trivial
/-- what is told of an item of a list around it -/
def weak (du : List D) (x x' : D) : Prop := match x with
  | .lst _ => ∃ ws : List V, x' = .lst (ws.map D.val)
  | x => if noM du x = true then x' = x else ∃ u, x' = .val u
def weaks (du : List D) : List D → List D → Prop
  | [], es => es = []
  | x :: xs, es => ∃ x' r, es = x' :: r ∧ weak du x x' ∧ weaks du xs r
theorem reps_vals {W : Wd} {H : Hp} : ∀ us : List V, Reps W H (us.map D.val) us
  | [] => Reps.nil
  | u :: us => Reps.cons (by simp only [Rep]) (reps_vals us)
theorem Rep.weak {W : Wd} {H : Hp} {p : Addr} {us ws : List V} {du : List D} (hp : H p = some (.lst us)) (np : ¬ W.S p) (hu : Reps W H du us) (d : D) (v : V) (h : Rep W H d v) : ∃ d', weak du d d' ∧ Rep W (upd H p (.lst ws)) d' v := by
  have k : ∀ a o, a ≠ p → ¬ W.S a → H a = some o → upd H p (.lst ws) a = some o ∧ ¬ W.S a := fun a o ne n e => ⟨by rw [upd_ne ne]; exact e, n⟩
  have gen : (if noM du d = true then d = d else True) → (∀ ds, d ≠ .lst ds) → ∃ d', Pu.weak du d d' ∧ Rep W (upd H p (.lst ws)) d' v := fun _ nl => by
    by_cases c : noM du d = true
    · refine ⟨d, ?_, Rep.apM hp hu k d v c h⟩
      cases d <;> first | exact absurd rfl (nl _) | (unfold Pu.weak; dsimp only; rw [if_pos c])
    · refine ⟨.val v, ?_, by simp only [Rep]⟩
      cases d <;> first | exact absurd rfl (nl _) | (unfold Pu.weak; dsimp only; rw [if_neg c]; exact ⟨v, rfl⟩)
  cases d with
  | lst ds =>
    simp only [Rep] at h
    obtain ⟨a, vs, e, n1, q1, r⟩ := h
    by_cases z : a = p
    · subst z
      exact ⟨_, ⟨ws, rfl⟩, by rw [e]; exact mkL n1 upd_same (reps_vals ws)⟩
    · exact ⟨_, ⟨vs, rfl⟩, by rw [e]; exact mkL n1 (by rw [upd_ne z]; exact q1) (reps_vals vs)⟩
  | _ => exact gen (by split <;> trivial) fun _ => by intro z; cases z
theorem Reps.weak {W : Wd} {H : Hp} {p : Addr} {us ws : List V} {du : List D} (hp : H p = some (.lst us)) (np : ¬ W.S p) (hu : Reps W H du us) : ∀ (ds : List D) (vs : List V), Reps W H ds vs → ∃ ds', weaks du ds ds' ∧ Reps W (upd H p (.lst ws)) ds' vs
  | [], vs, h => ⟨[], rfl, by simpa only [Reps] using h⟩
  | d :: ds, vs, h => by
    simp only [Reps] at h
    obtain ⟨v, r, rfl, h1, h2⟩ := h
    obtain ⟨d', w1, r1⟩ := Rep.weak (ws := ws) hp np hu d v h1
    obtain ⟨ds', w2, r2⟩ := Reps.weak hp np hu ds r h2
    exact ⟨d' :: ds', ⟨_, _, rfl, w1, w2⟩, Reps.cons r1 r2⟩
/-- o.append(e); i: the slot of a list around it, whose items are then told no more -/
def rMutApp (i : Nat) (o a : XP) : XSp := fun G P => match G[i]? with
  | some (.d (.lst es)) => o G (fun x => match x with
    | .lst ds => clash es ds = true ∧ a G (fun d => ds.length < 100000 ∧ ∀ es', weaks ds es es' → P.nx ((scrG ds G).set i (.d (.lst es')))) (fun e => P.ex e G)
    | _ => False) (fun e => P.ex e G)
  | _ => False
/-- .. no such slot -/
def rMutApp0 (o a : XP) : XSp := fun G P => o G (fun x => match x with
    | .lst ds => a G (fun d => ds.length < 100000 ∧ P.nx (scrG ds G)) (fun e => P.ex e G)
    | _ => False) (fun e => P.ex e G)
section
variable {B : Bs} {X : Cx} {Wx : WX} {o e : Expr} {pa po : XP} {pos apos cpos : Pos}
theorem xs_mutApp (i : Nat) (h0 : ∀ a, B.H0 a = none) (ho : XE B X Wx o po) (ha : XE B X Wx e pa) (hs0 : swapsWith (.Call (.Attribute o "append" apos) [e] [] cpos) none pos.line X.env = pure false := by rfl)
    (hbase : attributeBase o "append" X.env (eval o X.env) = eval o X.env := by rfl)
    (hfew : ((backTo cpos (starEach [e] X.env)).all (fun x => !x.1) && (backToKw cpos (keywordEach [] X.env)).all (fun x => x.1.isSome)
      && decide ([e].length + ([] : List Keyword).length + (if ([] : List Keyword).isEmpty then 0 else 1) < 30)) = true := by rfl)
    (hline : (apos.endLine == cpos.line) = true := by rfl) (hs : starEach [e] X.env = (false, eval e X.env) :: starEach [] X.env := by rfl) (hplain : (backTo cpos (starEach [] X.env)).any (·.1) = false := by rfl) :
    XS B X Wx (.Expr (.Call (.Attribute o "append" apos) [e] [] cpos) pos) (rMutApp i po pa) ∧ XS B X Wx (.Expr (.Call (.Attribute o "append" apos) [e] [] cpos) pos) (rMutApp0 po pa) := by
  obtain ⟨to, ho, eo⟩ := ho.ex
  obtain ⟨ta, ha, ea⟩ := ha.ex
  have hp := ps_expr (pos := pos) (pe_bm PySem.F.plainAttrs_list PySem.F.slot_list_append PySem.F.type_list_append mt_append ho (pa_cons ha pa_nil hs) hbase hfew hline hs hplain) hs0
  refine ⟨⟨_, hp, fun S σ H G P D O q k => ?_⟩, ⟨_, hp, fun S σ H G P D O q k => ?_⟩⟩
  · unfold rMutApp at q
    cases hg : G[i]? with
    | none => rw [hg] at q; exact q.elim
    | some g =>
      rw [hg] at q
      cases g <;> first | exact False.elim q | skip
      rename_i dl
      cases dl <;> first | exact False.elim q | skip
      rename_i es
      refine eo S σ H G _ _ _ O q (fun x H1 dx f1 r1 h1 => ?_) (k.kx O)
      cases dx <;> first | exact False.elim h1 | skip
      rename_i ds
      obtain ⟨p, vs, rfl, np, e1, z1⟩ := repL r1
      obtain ⟨hc, h1⟩ := h1
      refine ⟨.inl ⟨rfl, vs, SqL.of e1⟩, ?_⟩
      refine ea S σ H1 G _ _ _ (O.fut f1) h1 (fun v H2 d f2 r2 h2 => ?_) ((k.kx O).fut f1)
      have O2 := (O.fut f1).fut f2
      have e2 := f2.keep p _ e1 ((O.fut f1).wok.nl np)
      refine ⟨p, vs, v, rfl, rfl, e2, Nat.lt_of_lt_of_le (by rw [z1.len]; exact h2.1) (le_line (Nat.le_refl _)), ?_⟩
      have zu := z1.fut (O.fut f1).wok f2
      have O3 := O2.mut h0 (ws := vs ++ [v]) e2 np zu
      obtain ⟨ov, eov, w, rfl, rw_⟩ := O2.get hg
      obtain ⟨a, us, rfl, na, ea', za⟩ := repL rw_
      have ap : a ≠ p := fun z => by
        subst z
        rw [e2] at ea'
        cases ea'
        exact clash_ne hc za zu
      obtain ⟨es', we, re⟩ := Reps.weak (ws := vs ++ [v]) e2 np zu _ _ za
      have O4 := O3.put i (g := .d (.lst es')) (o := some (.ref a)) rfl ⟨_, rfl, mkL na (by rw [upd_ne ap]; exact ea') re⟩
      rw [set_self eov] at O4
      exact k.nx S σ _ _ O4 (h2.2 es' we)
  · refine eo S σ H G _ _ _ O q (fun x H1 dx f1 r1 h1 => ?_) (k.kx O)
    cases dx <;> first | exact False.elim h1 | skip
    rename_i ds
    obtain ⟨p, vs, rfl, np, e1, z1⟩ := repL r1
    refine ⟨.inl ⟨rfl, vs, SqL.of e1⟩, ?_⟩
    refine ea S σ H1 G _ _ _ (O.fut f1) h1 (fun v H2 d f2 r2 h2 => ?_) ((k.kx O).fut f1)
    have O2 := (O.fut f1).fut f2
    have e2 := f2.keep p _ e1 ((O.fut f1).wok.nl np)
    exact ⟨p, vs, v, rfl, rfl, e2, Nat.lt_of_lt_of_le (by rw [z1.len]; exact h2.1) (le_line (Nat.le_refl _)), k.nx S σ _ _ (O2.mut h0 (ws := vs ++ [v]) e2 np (z1.fut (O.fut f1).wok f2)) h2.2⟩
end
/-! ## the law -/
def spLaw (K : PySem.W.Frag) : Sp := fun vs H Q _ => ∃ (a : Addr) (ns : List Int), vs = [.ref a] ∧ SqL K H a (ns.map V.int) ∧ ns.length ≤ 63 ∧ ∀ H', Q (.bl true) H'
def spStart (K : PySem.W.Frag) : Sp := fun vs H Q _ => ∃ (a : Addr) (ns : List Int), vs = [.ref a] ∧ SqL K H a (ns.map V.int) ∧ ns.length ≤ 63 ∧ ∀ H' s l, Same H H' → LSt H' s l → Q (.ref s) H'
def lawPo : Po := { nx := fun _ => False, rt := fun d => d = .bl true, ex := fun _ _ => False }
end Pu
namespace Pu
open PySem PySem.Spec PyProof.Rows L2
/-! ## what stands in the text, by names -/
theorem FnOk.cx {P : Program} {w : World} {K : PySem.W.Frag} {mg : Str → Option Value} {base : Heap} {k : Nat} {f : Addr} {fd : FuncData} {ps : List Str} {sp : Sp} {CX : CXT} (F : FnOk P w K mg base CX0 k f fd ps sp) : FnOk P w K mg base CX k f fd ps sp :=
  ⟨F.len, fun A outer s H args us vs Q E r e b v h => codeAny_mono (F.run A outer s H args us vs Q E r e b v h) fun r s' q => by
    cases r with
    | error e => exact q.elim
    | ok fl => cases fl <;> exact q⟩
theorem FnOk.imp {P : Program} {w : World} {K : PySem.W.Frag} {mg : Str → Option Value} {base : Heap} {k : Nat} {f : Addr} {fd : FuncData} {ps : List Str} {sp sp' : Sp} {CX : CXT} (F : FnOk P w K mg base CX k f fd ps sp) (h : ∀ vs H Q E, sp' vs H Q E → sp vs H Q E) : FnOk P w K mg base CX k f fd ps sp' :=
  ⟨fun vs H Q E q => F.len vs H Q E (h _ _ _ _ q), fun A outer s H args us vs Q E r e b v q => F.run A outer s H args us vs Q E r e b v (h _ _ _ _ q)⟩
theorem FnOk.impP {P : Program} {w : World} {K : PySem.W.Frag} {mg : Str → Option Value} {base : Heap} {k : Nat} {f : Addr} {fd : FuncData} {ps : List Str} {CT : Nat → Addr} {lay : Nat → List Str} {F F' : DFn} {CX : CXT} (G : FnOk P w K mg base CX k f fd ps (spP CT lay F)) (h : ∀ ds Q E, F' ds Q E → F ds Q E) : FnOk P w K mg base CX k f fd ps (spP CT lay F') :=
  FnOk.imp G fun vs H Q E ⟨L, S, ds, Qd, Ed, a, b, c, d, e⟩ => ⟨L, S, ds, Qd, Ed, a, b, h _ _ _ c, d, e⟩
section
variable (P : Program) (w : World) (K : PySem.W.Frag) (mg : Str → Option Value) (base : Heap) (CT : Nat → Addr) (lay : Nat → List Str)
structure FnAt (k : Nat) (x : Str) (ps : List Str) (F : DFn) : Prop where
  ex : ∃ f fd, FnOk P w K mg base (L2.CX P w) k f fd ps (spP CT lay F) ∧ mg x = some (.ref f) ∧ PySem.W.keepIn K (.ref f) = true ∧ Binds K fd ps []
/-- .. with written defaults dds for the last parameters -/
structure FnAtD (k : Nat) (x : Str) (ps : List Str) (F : DFn) (dds : List D) : Prop where
  ex : ∃ f fd dvs dsv, FnOk P w K mg base (L2.CX P w) k f fd ps (spP CT lay F) ∧ mg x = some (.ref f) ∧ PySem.W.keepIn K (.ref f) = true ∧ Binds K fd ps dsv ∧ Vals dvs dsv ∧ ∀ W H, Reps W H dds dvs
structure MkAt (k : Nat) (x : Str) (cn : Nat) (ps : List Str) (F : DIn) (dds : List D) : Prop where
  ex : ∃ f fd dvs dsv, Mk K (CT cn) f ∧ FnOk P w K mg base (L2.CX P w) k f fd ps (spI CT lay cn F) ∧ mg x = some (.ref (CT cn)) ∧ Binds K fd ps dsv ∧ Vals dvs dsv ∧ ∀ W H, Reps W H dds dvs
structure XnAt (k : Nat) (x : Str) (cn : Nat) (ps : List Str) : Prop where
  ex : ∃ fI fd, OexC K (CT cn) ∧ PySem.W.findIn K (.ref (CT cn)) "__init__" = some (some (.ref fI)) ∧ PySem.W.typeIn K (.ref fI) = some (.type "function") ∧ FnOk P w K mg base (L2.CX P w) k fI fd ps (spX (CT cn) (lay cn)) ∧ Binds K fd ps [] ∧ mg x = some (.ref (CT cn))
structure XnAt0 (x : Str) (cn : Nat) : Prop where
  ex : ∃ bmB Bn newId initId, ExcBaseFacts Bn newId initId bmB ∧ PySem.W.excIn K (CT cn) bmB newId = true ∧ mg x = some (.ref (CT cn)) ∧ PySem.W.keepIn K (.ref (CT cn)) = true ∧ PySem.W.subIn K (.ref (CT cn)) (.type "BaseException") = some true ∧ PySem.W.typeIn K (.ref (CT cn)) = some (.type "type") ∧ lay cn = []
end
section
variable {B : Bs} {X : Cx} {Wx : WX} {a b c e o : Expr} {es : List Expr} {pa pb pc : XP} {p pos apos : Pos} {pas : XAp} {k : Nat} {x m : Str} {ps : List Str} {F : DFn}
theorem xe_callA (h : FnAt X.prog X.w X.K X.mg X.base B.W.CT B.W.lay k x ps F) (hr : Room k X.A) (tk : Takes X Wx) (ha : XA B X Wx (e :: es) pas)
    (hg : Gl X x := by rfl) (hdb : (x == ("__debug__" : Str)) = false := by decide) (he : starEach (e :: es) X.env = (false, eval e X.env) :: starEach es X.env := by rfl) (hpl : (backTo pos (starEach es X.env)).any (·.1) = false := by rfl) :
    XE B X Wx (.Call (.Name x p) (e :: es) [] pos) (rFn F pas) := by
  obtain ⟨f, fd, G, m1, k1, b1⟩ := h.ex
  exact xe_call G hr m1 k1 b1 tk ha hg hdb he hpl
theorem xe_callAD {dds : List D} (h : FnAtD X.prog X.w X.K X.mg X.base B.W.CT B.W.lay k x ps F dds) (hr : Room k X.A) (tk : Takes X Wx) (ha : XA B X Wx (e :: es) pas)
    (hg : Gl X x := by rfl) (hdb : (x == ("__debug__" : Str)) = false := by decide) (he : starEach (e :: es) X.env = (false, eval e X.env) :: starEach es X.env := by rfl) (hpl : (backTo pos (starEach es X.env)).any (·.1) = false := by rfl) :
    XE B X Wx (.Call (.Name x p) (e :: es) [] pos) (rFn (fun xs => F (xs ++ dds)) pas) := by
  obtain ⟨f, fd, dvs, dsv, G, m1, k1, b1, hv, hd⟩ := h.ex
  exact xe_callD G hr m1 k1 b1 hv hd tk ha hg hdb he hpl
theorem xe_makeA {cn : Nat} {F : DIn} {dds : List D} (h : MkAt X.prog X.w X.K X.mg X.base B.W.CT B.W.lay k x cn ps F dds) (hr : Room (k + 1) X.A) (tk : Takes X Wx) (ha : XA B X Wx (e :: es) pas)
    (hg : Gl X x := by rfl) (hdb : (x == ("__debug__" : Str)) = false := by decide) (he : starEach (e :: es) X.env = (false, eval e X.env) :: starEach es X.env := by rfl) (hpl : (backTo pos (starEach es X.env)).any (·.1) = false := by rfl) :
    XE B X Wx (.Call (.Name x p) (e :: es) [] pos) (rMake cn (fun xs => F (xs ++ dds)) pas) := by
  obtain ⟨f, fd, dvs, dsv, M, G, m1, b1, hv, hd⟩ := h.ex
  exact xe_make M G hr m1 b1 hv hd tk ha hg hdb he hpl
def rExnA (cn n : Nat) (pas : XAp) : List Sl → (Exn → Prop) → Prop := fun G E => pas G (fun ds => ds.length = n ∧ n ≤ 1000 ∧ E ⟨cn, ds⟩) (fun _ => False)
theorem xr_exnA {cn n : Nat} (h : XnAt X.prog X.w X.K X.mg X.base B.W.CT B.W.lay k x cn ps) (hr : Room (k + 1) X.A) (hn : (B.W.lay cn).length = n) (ha : XA B X (fun _ _ _ _ => False) (e :: es) pas) (hg : Gl X x := by rfl)
    (hdb : (x == ("__debug__" : Str)) = false := by decide) (he : starEach (e :: es) X.env = (false, eval e X.env) :: starEach es X.env := by rfl) (hpl : (backTo pos (starEach es X.env)).any (·.1) = false := by rfl) :
    XR B X (.Call (.Name x p) (e :: es) [] pos) (rExnA cn n pas) := by
  obtain ⟨fI, fd, T, iC, tI, G, b1, m1⟩ := h.ex
  exact xr_exn T iC tI G hr b1 m1 hn ha hg hdb he hpl
theorem xr_exnA0 {cn : Nat} (h : XnAt0 X.K X.mg B.W.CT B.W.lay x cn) (hg : Gl X x := by rfl) (hdb : (x == ("__debug__" : Str)) = false := by decide) : XR B X (.Call (.Name x p) [] [] pos) (fun _ E => E ⟨cn, []⟩) := by
  obtain ⟨bmB, Bn, n1, n2, F, q, m1, kc, s1, t1, hl⟩ := h.ex
  exact xr_exn0 F q m1 kc (raises_own s1 t1) hl hg hdb
theorem names_own {cn : Nat} (h : X.mg x = some (.ref (B.W.CT cn))) (hg : Gl X x := by rfl) (hd : (x == ("__debug__" : Str)) = false := by decide) : Names X x (.ref (B.W.CT cn)) := ⟨hg, hd, .inl h⟩
end
/-! ## the law's draws -/
def Kp (s l : Addr) (H H' : Hp) : Prop := ∀ c o, H c = some o → c ≠ s → c ≠ l → H' c = some o
def spDraw : Sp := fun vs H Q _ => ∃ (s l : Addr) (m : Int), vs = [.ref s, .int m] ∧ LSt H s l ∧ 0 < m ∧ m < 1073741824 ∧ ∀ H' r, Kp s l H H' → LSt H' s l → 0 ≤ r → r < m → Q (.int r) H'
def oDraw : DFn := fun ds Q _ => ∃ m : Int, ds = [.law, .int m] ∧ 0 < m ∧ m < 1073741824 ∧ ∀ r : Int, 0 ≤ r → r < m → Q (.int r)
theorem draw_of {P : Program} {w : World} {K : PySem.W.Frag} {mg : Str → Option Value} {base : Heap} {k : Nat} {f : Addr} {fd : FuncData} {ps : List Str} {CT : Nat → Addr} {lay : Nat → List Str} (F : FnOk P w K mg base CX0 k f fd ps spDraw) : FnOk P w K mg base (L2.CX P w) k f fd ps (spP CT lay oDraw) := by
  refine FnOk.imp (FnOk.cx F) fun vs H Q E ⟨L, S, ds, Qd, Ed, wk, r, ⟨m, hd, m0, m1, q⟩, ke, kx⟩ => ?_
  subst hd
  obtain ⟨v, u, rfl, r1, r2⟩ := reps2 r
  have r2' := repI r2
  subst r2'
  simp only [Rep] at r1
  obtain ⟨s, l, hL, rfl⟩ := r1
  obtain ⟨h1, h2⟩ := wk.law s l hL
  refine ⟨s, l, m, rfl, h1, m0, m1, fun H' r kp ls r0 r1 => ke _ H' (.int r) ⟨fun a o e n => ?_, fun s' l' e => ?_⟩ mkI (q r r0 r1)⟩
  · obtain ⟨n1, n2⟩ := n s l hL
    exact kp a o e n1 n2
  · have hL' : (⟨CT, lay, L, S⟩ : Wd).L = some (s, l) := hL
    rw [hL'] at e
    cases e
    exact ls
end Pu
namespace Pu
open PySem PySem.Spec PyProof.Rows L2
def tyOkB (cs : List Nat) : Ty → Bool
  | .b n => decide (n ∈ builtinTys)
  | .c n => decide (n ∈ cs)
theorem tyOk_of {cs : List Nat} {t : Ty} (h : tyOkB cs t = true) : TyOk cs t := by
  cases t with
  | b n =>
    have h' : decide (n ∈ builtinTys) = true := h
    exact (of_decide_eq_true h' : n ∈ builtinTys)
  | c n =>
    have h' : decide (n ∈ cs) = true := h
    exact (of_decide_eq_true h' : n ∈ cs)
theorem tyOks_of {cs : List Nat} {ts : List Ty} (h : ts.all (tyOkB cs) = true) : ∀ t ∈ ts, TyOk cs t := fun t ht => tyOk_of (List.all_eq_true.mp h t ht)
/-- list(x) as a new list -/
def rListN (a : XP) : XAp := fun G Q E => a G (fun d => match d with
  | .lst ds => Q ds
  | .tup ds => Q ds
  | _ => False) E
section
variable {B : Bs} {X : Cx} {Wx : WX} {a b c e o : Expr} {es : List Expr} {pa pb pc : XP} {p pos apos : Pos} {pas : XAp} {k : Nat} {x m : Str} {ps : List Str} {F : DFn}
theorem xe_makeA0 {cn : Nat} {F : DIn} (h : MkAt X.prog X.w X.K X.mg X.base B.W.CT B.W.lay k x cn ps F []) (hr : Room (k + 1) X.A) (tk : Takes X Wx) (ha : XA B X Wx (e :: es) pas)
    (hg : Gl X x := by rfl) (hdb : (x == ("__debug__" : Str)) = false := by decide) (he : starEach (e :: es) X.env = (false, eval e X.env) :: starEach es X.env := by rfl) (hpl : (backTo pos (starEach es X.env)).any (·.1) = false := by rfl) :
    XE B X Wx (.Call (.Name x p) (e :: es) [] pos) (rMake cn F pas) := by
  have h := xe_makeA (p := p) (pos := pos) h hr tk ha hg hdb he hpl
  have e : (fun xs => F (xs ++ [])) = F := by
    funext xs
    rw [List.append_nil]
  rw [e] at h
  exact h
theorem tk_fn {P : Program} {w : World} {K : PySem.W.Frag} {mg : Str → Option Value} {base : Heap} {N : List Str} {qual : Str} {scope : Scope} {f : Addr} {cd : Value} {A : Around} {outer : List Env} {s : Shared} {H : Hp} {E : XK} : Takes (cxOf (L2.CX P w) P w K mg base N qual scope f cd A outer s H E) (fun cls d _ H => E cls d H) := takes_of rfl rfl rfl rfl
theorem po_fn {P : Program} {w : World} {K : PySem.W.Frag} {mg : Str → Option Value} {base : Heap} {N : List Str} {qual : Str} {scope : Scope} {f : Addr} {cd : Value} {A : Around} {outer : List Env} {s : Shared} {H : Hp} {E : XK} :
    PassesOwn (model (cxOf (L2.CX P w) P w K mg base N qual scope f cd A outer s H E).prog (cxOf (L2.CX P w) P w K mg base N qual scope f cd A outer s H E).w) (cxOf (L2.CX P w) P w K mg base N qual scope f cd A outer s H E).A (cxOf (L2.CX P w) P w K mg base N qual scope f cd A outer s H E).env (cxOf (L2.CX P w) P w K mg base N qual scope f cd A outer s H E).xe := passes_of rfl
end
end Pu
namespace Pu
open PySem PySem.Spec PyProof.Rows L2
/-! ## tools for the readings -/
theorem lcP_fm {g : XGp} {tt : XTp} {te : XP} {G0 : List Sl} {f : D → D} {p : D → Bool} {Q : List D → Prop} : ∀ (ds acc : List D), acc.length + ds.length ≤ 100000 →
    (∀ d ∈ ds, ∀ (K : D → Prop) (E0 : Prop), (p d = true → K (f d)) → (p d = false → E0) → g d G0 (fun G2 => tt G2 (fun b => if b = true then te G2 K (fun _ => False) else E0) (fun _ => False))) →
    Q (acc ++ (ds.filter p).map f) → lcP g tt te G0 ds acc Q
  | [], acc, _, _, q => by
    show Q acc
    simpa using q
  | d :: ds, acc, hl, h, q => by
    have hl' : acc.length + 1 + ds.length ≤ 100000 := by simp only [List.length_cons] at hl; omega
    refine h d List.mem_cons_self _ _ (fun hp => ?_) (fun hp => ?_)
    · refine ⟨by omega, lcP_fm ds _ (by rw [List.length_append, List.length_singleton]; omega) (fun d' hd => h d' (List.mem_cons_of_mem _ hd)) ?_⟩
      rw [List.filter_cons, if_pos hp, List.map_cons] at q
      simpa using q
    · refine lcP_fm ds _ (by omega) (fun d' hd => h d' (List.mem_cons_of_mem _ hd)) ?_
      rw [List.filter_cons, if_neg (by rw [hp]; exact Bool.false_ne_true)] at q
      exact q
theorem filter_yes {α : Type} (ds : List α) : ds.filter (fun _ => true) = ds := List.filter_eq_self.mpr fun _ _ => rfl
/-- without tests -/
theorem lcP_map {g : XGp} {te : XP} {G0 : List Sl} {f : D → D} {Q : List D → Prop} (ds acc : List D) (hl : acc.length + ds.length ≤ 100000)
    (h : ∀ d ∈ ds, ∀ (K : D → Prop), K (f d) → g d G0 (fun G2 => te G2 K (fun _ => False))) (q : Q (acc ++ ds.map f)) : lcP g rYes te G0 ds acc Q := by
  refine lcP_fm (f := f) (p := fun _ => true) ds acc hl (fun d hd K E0 h1 _ => ?_) (by rw [filter_yes]; exact q)
  have := h d hd K (h1 rfl)
  exact this
theorem lcP2_fm {g g1 : XGp} {tt tt1 : XTp} {it1 : XAp} {vs1 : List Nat} {te : XP} {G0 : List Sl} {f : D → List D} {Q : List D → Prop} : ∀ (ds acc : List D),
    (∀ d ∈ ds, ∀ (acc : List D) (K : List D → Prop) (E0 : Prop), acc.length + (f d).length ≤ 100000 → K (acc ++ f d) → g d G0 (fun G2 => tt G2 (fun b => if b = true then it1 G2 (fun es => lcP g1 tt1 te (wipeG G2 vs1) es acc K) (fun _ => False) else E0) (fun _ => False))) →
    acc.length + (ds.flatMap f).length ≤ 100000 → Q (acc ++ ds.flatMap f) → lcP2 g tt it1 vs1 g1 tt1 te G0 ds acc Q
  | [], acc, _, _, q => by
    show Q acc
    simpa using q
  | d :: ds, acc, h, hl, q => by
    rw [List.flatMap_cons] at hl q
    rw [List.length_append] at hl
    refine h d List.mem_cons_self acc _ _ (by omega) (lcP2_fm ds _ (fun d' hd => h d' (List.mem_cons_of_mem _ hd)) (by rw [List.length_append]; omega) ?_)
    rw [List.append_assoc]
    exact q
theorem forP_inv {g : XGp} {body : XSp} {P : Po} {I : List D → List Sl → Prop}
    (step : ∀ d ds G (K : List Sl → Prop), I (d :: ds) G → (∀ G2, I ds G2 → K G2) → g d G (fun G1 => body G1 { P with nx := K, ct := K, bk := P.nx })) (fin : ∀ G, I [] G → P.nx G) : ∀ ds G, I ds G → forP g body ds G P
  | [], G, h => fin G h
  | d :: ds, G, h => step d ds G _ h fun G2 h2 => forP_inv step fin ds G2 h2
theorem atI_lt {α : Type} {l : List α} {i : Nat} {x : α} (h : l[i]? = some x) : atI l (i : Int) = some x := by
  have hl := (List.getElem?_eq_some_iff.mp h).1
  unfold L2.atI ixN
  rw [if_pos (by omega), if_pos (by omega)]
  simpa using h
theorem atI_z {α : Type} {l : List α} {i : Int} {x : α} (h0 : 0 ≤ i) (h : l[i.toNat]? = some x) : atI l i = some x := by
  obtain ⟨n, rfl⟩ := Int.eq_ofNat_of_zero_le h0
  exact atI_lt h
theorem matI {α : Type} {l : List α} {i : Int} {x : α} {R : α → Prop} (h0 : 0 ≤ i) (h : l[i.toNat]? = some x) (r : R x) : (match atI l i with | some c => R c | none => False) := by
  rw [atI_z h0 h]
  exact r
/-- x[i] of a list or tuple -/
theorem ix_lst {ds : List D} {i : Nat} {d : D} {Q : D → Prop} {E : Exn → Prop} (h : ds[i]? = some d) (q : Q d) : oIx (.lst ds) (.int (i : Int)) Q E := by
  show (match atI ds (i : Int) with | some d => Q d | none => False)
  rw [atI_lt h]
  exact q
theorem ix_tup {ds : List D} {i : Nat} {d : D} {Q : D → Prop} {E : Exn → Prop} (h : ds[i]? = some d) (q : Q d) : oIx (.tup ds) (.int (i : Int)) Q E := by
  show (match atI ds (i : Int) with | some d => Q d | none => False)
  rw [atI_lt h]
  exact q
theorem ix_str {z : Str} {i c : Nat} {Q : D → Prop} {E : Exn → Prop} (hz : z.length ≤ 100000) (h : z.cps.toList[i]? = some c) (q : Q (.str ⟨#[c]⟩)) : oIx (.str z) (.int (i : Int)) Q E := by
  refine ⟨hz, ?_⟩
  rw [atI_lt h]
  exact q
theorem tor {a b : XTp} {G : List Sl} {Q : Bool → Prop} {E : Exn → Prop} (h : a G (fun k => if k = true then Q true else b G Q E) E) : rTOr a b G Q E := h
/-- all of bools -/
theorem bls_map {ds : List D} {p : D → Bool} : bls (ds.map fun d => .bl (p d)) = some (ds.map p) := by
  induction ds with
  | nil => rfl
  | cons d ds ih => simp only [List.map_cons, bls, ih]; rfl
/-! ### conditions -/
theorem iteB {b : Bool} {A B : Prop} (h1 : b = true → A) (h2 : b = false → B) : if b = true then A else B := by
  cases b with
  | true => exact iteT (h1 rfl)
  | false => exact iteF (h2 rfl)
theorem iteN {b : Bool} {A B : Prop} (e : b = false) (h : B) : if b = true then A else B := by
  subst e
  exact iteF h
theorem iteY {b : Bool} {A B : Prop} (e : b = true) (h : A) : if b = true then A else B := by
  subst e
  exact iteT h
/-! ### lists and tuples -/
def itemsD : D → Option (List D)
  | .lst ds => some ds
  | .tup ds => some ds
  | _ => none
def isSeq : D → Bool
  | .lst _ => true
  | .tup _ => true
  | .ftp _ => true
  | _ => false
theorem items_seq {d : D} {ds : List D} (h : itemsD d = some ds) : d = .lst ds ∨ d = .tup ds := by
  cases d <;> first | (cases h; done) | (cases h; first | exact .inl rfl | exact .inr rfl)
/-- len of a list, a tuple -/
theorem len_items {d : D} {ds : List D} {Q : D → Prop} {E : Exn → Prop} (h : itemsD d = some ds) (q : Q (.int ds.length)) : oLen [d] Q E := by
  rcases items_seq h with rfl | rfl
  · exact q
  · exact q
theorem gU_items {d : D} {ds : List D} {n : Nat} {g : XGsp} {G : List Sl} {Q : List Sl → Prop} (h : itemsD d = some ds) (hn : ds.length = n) (q : g ds G Q) : gU n g d G Q := by
  rcases items_seq h with rfl | rfl <;> exact ⟨hn, q⟩
theorem rItems_of {d : D} {ds : List D} {Q : List D → Prop} : itemsD d = some ds → Q ds → (match d with | .lst ds => Q ds | .tup ds => Q ds | _ => False) := by
  intro h q
  rcases items_seq h with rfl | rfl
  · exact q
  · exact q
theorem deq_str {x y : Str} : deq (.str x) (.str y) = (x == y) := by simp [deq]
theorem deq_int {x y : Int} : deq (.int x) (.int y) = (x == y) := by simp [deq]
theorem any_strs {xs : List Str} {y : Str} : ((xs.map D.str).any fun d => deq d (.str y)) = xs.any (· == y) := by
  rw [List.any_map]
  congr 1
  try (funext x; exact deq_str)
theorem pl_strs (n : Nat) (xs : List Str) : (xs.map D.str).all (pl n) = true := by
  rw [List.all_map]
  exact List.all_eq_true.mpr fun x _ => by cases n <;> rfl
theorem deqs_strs : ∀ xs ys : List Str, deqs (xs.map D.str) (ys.map D.str) = (xs == ys)
  | [], [] => by simp [deqs]
  | [], y :: ys => by simp [deqs]
  | x :: xs, [] => by simp [deqs]
  | x :: xs, y :: ys => by
    rw [List.map_cons, List.map_cons, deqs, deq_str, deqs_strs xs ys]
    try rfl
end Pu
namespace Pu
open PySem PySem.Spec PyProof.Rows L2
/-! ## the readings, step by step -/
section
variable {G : List Sl} {P : Po} {Q : D → Prop} {QB : Bool → Prop} {QL : List D → Prop} {QG : List Sl → Prop} {E : Exn → Prop} {a b e : XP} {c c' : XTp} {s t : XSp} {l : XAp} {o : DOp} {u : DUn} {f : DFn} {g : XGp} {gs : XGsp} {i n : Nat} {d : D} {ds : List D} {m : List (Nat × Nat)}
theorem rd_seq (h : s G { P with nx := fun G' => t G' P }) : rSeq s t G P := h
theorem rd_if (h : c G (fun k => if k = true then s G P else t G P) (fun e => P.ex e G)) : rIf c s t G P := h
theorem rd_ret (h : a G P.rt (fun e => P.ex e G)) : rRet a G P := h
theorem rd_retN (h : P.rt .non) : rRetN G P := h
theorem rd_next (h : P.nx G) : rNext G P := h
theorem rd_brk (h : P.bk G) : rBrk G P := h
theorem rd_cont (h : P.ct G) : rCont G P := h
theorem rd_set (h : a G (fun d => P.nx (G.set i (.d d))) (fun e => P.ex e G)) : rSet i a G P := h
theorem rd_setN (h : l G (fun ds => P.nx (G.set i (.d (.lst ds)))) (fun e => P.ex e G)) : rSetN i l G P := h
theorem rd_ownSet (h : l G (fun ds => P.nx (G.set i (.own ds))) (fun e => P.ex e G)) : rOwnSet i l G P := h
theorem rd_asg (h : a G (fun d => g d G P.nx) (fun e => P.ex e G)) : rAsg a g G P := h
theorem rd_drop (h : a G (fun _ => P.nx G) (fun e => P.ex e G)) : rDrop a G P := h
theorem rd_app (hg : G[i]? = some (.own ds)) (h : a (G.set i .no) (fun d => ds.length < 100000 ∧ P.nx (G.set i (.own (ds ++ [d])))) (fun e => P.ex e G)) : rApp i a G P := by
  unfold rApp
  rw [hg]
  exact h
theorem rd_appF (hg : G[i]? = some (.own ds)) (h : a (G.set i (.d (.lst ds))) (fun d => flat d = true ∧ ds.length < 100000 ∧ P.nx (G.set i (.own (ds ++ [d])))) (fun _ => False)) : rAppF i a G P := by
  unfold rAppF
  rw [hg]
  exact h
theorem rd_sFrz (hg : G[i]? = some (.own ds)) (h : s (G.set i (.d (.lst ds))) P) : rsFrz i s G P := by
  unfold rsFrz
  rw [hg]
  exact h
theorem rd_frzE (hg : G[i]? = some (.own ds)) (h : a (G.set i (.d (.lst ds))) (fun d => noL d = true ∧ Q d) (fun _ => False)) : rFrzE i a G Q E := by
  unfold rFrzE
  rw [hg]
  exact h
theorem rd_tFrz (hg : G[i]? = some (.own ds)) (h : c (G.set i (.d (.lst ds))) QB (fun _ => False)) : rTFrz i c G QB E := by
  unfold rTFrz
  rw [hg]
  exact h
theorem rd_for {q : XAp} (h : q G (fun ds => forP g s ds G P) (fun e => P.ex e G)) : rFor q g s G P := h
theorem rd_put {cc : Nat} (hg : G[i]? = some (.obj cc ds)) (hm : m.lookup cc = some ds.length) (h : a G (fun d => P.nx (G.set i (.obj cc (ds ++ [d])))) (fun e => P.ex e G)) : rPut m i a G P := by
  unfold rPut
  rw [hg]
  exact ⟨hm, h⟩
theorem rd_own {cc j : Nat} (hg : G[i]? = some (.obj cc ds)) (hm : m.lookup cc = some j) (hd : ds[j]? = some d) (h : Q d) : rOwn m i G Q E := by
  unfold rOwn
  rw [hg]
  dsimp only
  rw [hm]
  dsimp only
  rw [hd]
  exact h
theorem rd_raise {p : List Sl → (Exn → Prop) → Prop} (h : p G (fun e => P.ex e G)) : rRaise p G P := h
theorem rd_exn {cc : Nat} {E' : Exn → Prop} (h : l G (fun ds => ds.length = n ∧ n ≤ 1000 ∧ E' ⟨cc, ds⟩) (fun _ => False)) : rExnA cc n l G E' := h
/-! tests -/
theorem rd_or (h : c G (fun k => if k = true then QB true else c' G QB E) E) : rTOr c c' G QB E := h
theorem rd_and (h : c G (fun k => if k = true then c' G QB E else QB false) E) : rTAnd c c' G QB E := h
theorem rd_not (h : c G (fun k => QB (!k)) E) : rTNot c G QB E := h
theorem rd_test (h : a G (fun x => onB x QB) E) : rTest a G QB E := h
theorem rd_yes (h : QB true) : rYes G QB E := h
theorem rd_onB {k : Bool} (h : QB k) : onB (.bl k) QB := h
/-! expressions -/
theorem rd_var (hg : G[i]? = some (.d d)) (h : Q d) : rVar i G Q E := by
  unfold rVar
  rw [hg]
  exact h
theorem rd_c (h : Q d) : rC d G Q E := h
theorem rd_bin (h : a G (fun x => b G (fun y => o x y Q E) E) E) : rBin o a b G Q E := h
theorem rd_un (h : a G (fun x => u x Q E) E) : rUn u a G Q E := h
theorem rd_fn (h : l G (fun xs => f xs Q E) E) : rFn f l G Q E := h
theorem rd_eand (h : a G (fun x => onB x fun k => if k = true then b G Q E else Q (.bl false)) E) : rAnd a b G Q E := h
theorem rd_eor (h : a G (fun x => onB x fun k => if k = true then Q (.bl true) else b G Q E) E) : rOr a b G Q E := h
theorem rd_enot (h : a G (fun x => onB x fun k => Q (.bl (!k))) E) : rNot a G Q E := h
theorem rd_ifE (h : c G (fun k => if k = true then a G Q E else b G Q E) E) : rIfE c a b G Q E := h
theorem rd_nil (h : QL []) : rNil G QL E := h
theorem rd_cons (h : a G (fun x => l G (fun xs => QL (x :: xs)) E) E) : rCons a l G QL E := h
theorem rd_tup (h : l G (fun xs => xs.length ≤ 1000 ∧ Q (.tup xs)) E) : rTup l G Q E := h
theorem rd_lst (h : l G (fun xs => xs.length ≤ 1000 ∧ Q (.lst xs)) E) : rLst l G Q E := h
theorem rd_sz (h : l G (fun ds => ds.length ≤ 1000 ∧ QL ds) E) : rSz l G QL E := h
theorem rd_new (h : l G (fun ds => Q (.lst ds)) E) : rNew l G Q E := h
theorem rd_wk (h : a G (fun d => Q (wk d)) E) : rWk a G Q E := h
theorem rd_chain {o' : DOp} (h : a G (fun x => b G (fun y => o x y (fun z => onB z fun k => if k = true then e G (fun w => o' y w Q E) E else Q (.bl false)) E) E) E) : rChain o o' a b e G Q E := h
theorem rd_make {cc : Nat} {F : DIn} (h : l G (fun xs => F xs (fun fs => Q (.ins cc fs)) E) E) : rMake cc F l G Q E := h
theorem rd_star (h : a G (fun x => match x with
  | .tup ds => l G (fun xs => QL (ds ++ xs)) E
  | .lst ds => l G (fun xs => QL (ds ++ xs)) E
  | _ => False) E) : rStar a l G QL E := h
theorem rd_items (h : a G (fun d => match d with
  | .lst ds => QL ds
  | .tup ds => QL ds
  | _ => False) E) : rItems a G QL E := h
theorem rd_enum (h : a G (fun d => match d with
  | .lst ds => QL (enumD 0 ds)
  | .tup ds => QL (enumD 0 ds)
  | _ => False) E) : rEnum a G QL E := h
theorem rd_range (h : l G (fun xs => match xs with
  | [.int j] => j < 4611686018427387904 ∧ -4611686018427387904 ≤ j ∧ QL ((List.range j.toNat).map fun (i : Nat) => .int ((i : Nat) : Int))
  | _ => False) E) : rRange l G QL E := h
theorem rd_lc {vs : List Nat} {it : XAp} (h : it G (fun ds => lcP g c a (wipeG G vs) ds [] QL) E) : rLc vs it g c a G QL E := h
theorem rd_lenSet (h : a G (fun d => match d with
  | .lst ds => ∃ xs, strsD ds = some xs ∧ xs.length ≤ 1000 ∧ Q (.int ((dd xs).length : Int))
  | .tup ds => ∃ xs, strsD ds = some xs ∧ xs.length ≤ 1000 ∧ Q (.int ((dd xs).length : Int))
  | _ => False) E) : rLenSet a G Q E := h
theorem lenSet_of {R : List Str → Prop} {xs : List Str} : itemsD d = some ds → strsD ds = some xs → xs.length ≤ 1000 → R xs → (match d with
  | .lst ds => ∃ xs, strsD ds = some xs ∧ xs.length ≤ 1000 ∧ R xs
  | .tup ds => ∃ xs, strsD ds = some xs ∧ xs.length ≤ 1000 ∧ R xs
  | _ => False) := by
  intro h h1 h2 q
  rcases items_seq h with rfl | rfl
  · exact ⟨xs, h1, h2, q⟩
  · exact ⟨xs, h1, h2, q⟩
theorem rd_fld (h : a G (fun d => match d with
  | .ins c ds => match m.lookup c with
    | some i => match ds[i]? with
      | some x => Q x
      | none => False
    | none => False
  | _ => False) E) : rFld m a G Q E := h
theorem rd_fldV {cc j : Nat} (hg : G[i]? = some (.d (.ins cc ds))) (hm : m.lookup cc = some j) (hd : ds[j]? = some d) (h : Q d) : rFld m (rVar i) G Q E := by
  refine rd_fld (rd_var hg ?_)
  dsimp only
  rw [hm]
  dsimp only
  rw [hd]
  exact h
theorem rd_methV {tbl : List (Nat × DFn)} {cc : Nat} {F : DFn} (hg : G[i]? = some (.d (.ins cc ds))) (hm : tbl.lookup cc = some F) (h : l G (fun xs => F (.ins cc ds :: xs) Q E) E) : rMeth tbl (rVar i) l G Q E := by
  show rVar i G _ E
  refine rd_var hg ?_
  dsimp only
  rw [hm]
  exact h
theorem rd_meth {tbl : List (Nat × DFn)} (h : a G (fun d => match d with
  | .ins c ds => match tbl.lookup c with
    | some F => l G (fun xs => F (.ins c ds :: xs) Q E) E
    | none => False
  | _ => False) E) : rMeth tbl a l G Q E := h
theorem rd_sl {lo hi : Option XP} (h : a G (fun x => rPo lo G (fun l => rPo hi G (fun h => oSl x l h Q) E) E) E) : rSl a lo hi G Q E := h
theorem rd_poN {QO : Option Int → Prop} (h : QO none) : rPo none G QO E := h
theorem rd_poS {QO : Option Int → Prop} (h : a G (fun d => match d with
  | .int i => QO (some i)
  | _ => False) E) : rPo (some a) G QO E := h
theorem rd_slT {lo hi : Option Int} (h : Q (.tup (cutD ds lo hi))) : oSl (.tup ds) lo hi Q := h
theorem rd_slL {lo hi : Option Int} (h : Q (.lst (cutD ds lo hi))) : oSl (.lst ds) lo hi Q := h
/-! targets -/
theorem rd_gN (h : QG (G.set i (.d d))) : gN i d G QG := h
theorem rd_gsN (h : QG G) : gsN [] G QG := h
theorem rd_gsC (h : g d G (fun G1 => gs ds G1 QG)) : gsC g gs (d :: ds) G QG := h
theorem rd_gUt (hg : ds.length = n) (h : gs ds G QG) : gU n gs (.tup ds) G QG := ⟨hg, h⟩
theorem rd_gUl (hg : ds.length = n) (h : gs ds G QG) : gU n gs (.lst ds) G QG := ⟨hg, h⟩
/-! operators -/
theorem rd_le {x y : Int} (h : Q (.bl (decide (x ≤ y)))) : oLe (.int x) (.int y) Q E := h
theorem rd_lt {x y : Int} (h : Q (.bl (decide (x < y)))) : oLt (.int x) (.int y) Q E := h
theorem rd_ge {x y : Int} (h : Q (.bl (decide (y ≤ x)))) : oGe (.int x) (.int y) Q E := h
theorem rd_gt {x y : Int} (h : Q (.bl (decide (y < x)))) : oGt (.int x) (.int y) Q E := h
theorem rd_addI {x y : Int} (h : Q (.int (x + y))) : oAdd (.int x) (.int y) Q E := h
theorem rd_subI {x y : Int} (h : Q (.int (x - y))) : oSub (.int x) (.int y) Q E := ⟨trivial, h⟩
theorem rd_negI {x : Int} (h : Q (.int (-x))) : oNeg (.int x) Q E := h
theorem rd_eqI {x y : Int} (h : Q (.bl (x == y))) : oEq (.int x) (.int y) Q E := ⟨rfl, rfl, by rw [deq_int]; exact h⟩
theorem rd_neI {x y : Int} (h : Q (.bl (!(x == y)))) : oNe (.int x) (.int y) Q E := ⟨rfl, rfl, by rw [deq_int]; exact h⟩
theorem rd_eqS {x y : Str} (h : Q (.bl (x == y))) : oEq (.str x) (.str y) Q E := ⟨rfl, rfl, by rw [deq_str]; exact h⟩
theorem rd_neS {x y : Str} (h : Q (.bl (!(x == y)))) : oNe (.str x) (.str y) Q E := ⟨rfl, rfl, by rw [deq_str]; exact h⟩
theorem rd_isN (h : Q (.bl (isNon d))) : oIsN false d .non Q E := h
theorem rd_notN (h : Q (.bl (!isNon d))) : oIsN true d .non Q E := h
theorem rd_isB {x y : Bool} (h : Q (.bl (decide (x = y)))) : oIsB (.bl x) (.bl y) Q E := h
theorem rd_lenL (h : Q (.int ds.length)) : oLen [.lst ds] Q E := h
theorem rd_lenT (h : Q (.int ds.length)) : oLen [.tup ds] Q E := h
theorem rd_lenI {items : List D} (hi : itemsD d = some items) (h : Q (.int items.length)) : oLen [d] Q E := len_items hi h
theorem rd_intI {x : Int} (h : Q (.int x)) : oInt [.int x] Q E := h
theorem rd_listL (h : Q (.lst ds)) : oList [.lst ds] Q E := h
theorem rd_listT (h : Q (.lst ds)) : oList [.tup ds] Q E := h
theorem rd_tupL (h : Q (.tup ds)) : oTup [.lst ds] Q E := h
theorem rd_tupT (h : Q (.tup ds)) : oTup [.tup ds] Q E := h
theorem rd_ftup (h : Q (.ftp ds)) : oFtup [.lst ds] Q E := h
theorem rd_inS {ne : Bool} {xs : List Str} {y : Str} (h : Q (.bl (if ne then !xs.any (· == y) else xs.any (· == y)))) : oIn ne (.str y) (.lst (xs.map D.str)) Q E := by
  refine ⟨rfl, pl_strs 50 xs, ?_⟩
  rw [any_strs]
  exact h
end
end Pu
namespace Pu
open PySem PySem.Spec PyProof.Rows L2
/-! ## more tools -/
theorem isT_seq {d : D} : [Ty.b "list", Ty.b "tuple"].any (isT d) = isSeq d := by
  cases d <;> first | rfl | decide | simp [isT, isSeq, tyn]
def isStrD : D → Bool
  | .str _ => true
  | _ => false
theorem isT_str {d : D} : [Ty.b "str"].any (isT d) = isStrD d := by
  cases d <;> first | rfl | decide | simp [isT, tyn, isStrD]
theorem hd_get {l : List Nat} {n : Nat} (h : 1 ≤ l.length) : l[0]? = some (l.headD n) := by
  cases l with
  | nil => simp at h
  | cons a l => rfl
theorem cast_le {a b : Nat} : decide ((a : Int) ≤ (b : Int)) = decide (a ≤ b) := by
  by_cases h : a ≤ b
  · rw [decide_eq_true h, decide_eq_true (by omega)]
  · rw [decide_eq_false h, decide_eq_false (by omega)]
theorem sz_list {z : Str} : z.cps.toList.length = z.length := by simp [Str.length]
theorem mul_ok {i j : Nat} (h1 : i ≤ 1000000) (h2 : j ≤ 1000000) : CMulW (i : Int) (j : Int) := by
  have l : ∀ {n : Nat}, n ≤ 1000000 → ((n : Int)).natAbs.log2 < 20 := fun {n} h => by
    rw [Int.natAbs_natCast]
    by_cases z : n = 0
    · subst z
      decide
    · exact (Nat.log2_lt z).mpr (by omega)
  have a := l h1
  have b := l h2
  unfold CMulW
  omega
theorem any_mem {l : List Str} {x : Str} : l.any (· == x) = true ↔ x ∈ l := by
  rw [List.any_eq_true]
  exact ⟨fun ⟨y, h, e⟩ => by rw [beq_iff_eq] at e; exact e ▸ h, fun h => ⟨x, h, by simp⟩⟩
theorem dd_nodup : ∀ n (l : List Str), l.length = n → ¬ (dd l).length < l.length → l.Nodup
  | 0, l, hn, _ => by
    cases l with
    | nil => exact List.nodup_nil
    | cons x l => simp at hn
  | n + 1, l, hn, h => by
    rcases List.eq_nil_or_concat l with rfl | ⟨l', x, e⟩
    · exact List.nodup_nil
    · have e : l = l' ++ [x] := by rw [e, List.concat_eq_append]
      subst e
      rw [dd_len_snoc, List.length_append, List.length_singleton] at h
      have hle := dd_le l'
      by_cases hx : l'.any (· == x) = true
      · rw [if_pos hx] at h
        omega
      · rw [if_neg hx] at h
        have ih := dd_nodup n l' (by simpa using hn) (by omega)
        rw [List.nodup_append]
        refine ⟨ih, by simp, fun a ha b hb z => ?_⟩
        rw [List.mem_singleton] at hb
        subst z hb
        exact hx (any_mem.mpr ha)
theorem rd_tupI {d : D} {ds : List D} {Q : D → Prop} {E : Exn → Prop} (hi : itemsD d = some ds) (h : Q (.tup ds)) : oTup [d] Q E := by
  rcases items_seq hi with rfl | rfl <;> exact h
def isIntD : D → Bool
  | .int _ => true
  | _ => false
theorem isT_int {d : D} : [Ty.b "int"].any (isT d) = (isIntD d || match d with | .bl _ => true | _ => false) := by
  cases d <;> first | rfl | decide | simp [isT, isIntD, tyn]
theorem isT_bool {d : D} : [Ty.b "bool"].any (isT d) = (match d with | .bl _ => true | _ => false) := by
  cases d <;> first | rfl | decide | simp [isT, tyn]
def isInsD : D → Bool
  | .ins _ _ => true
  | _ => false
mutual
theorem pl_up1 : ∀ (n : Nat) (d : D), pl n d = true → pl (n + 1) d = true
  | n, .non, _ => by cases n <;> rfl
  | n, .bl b, _ => by cases n <;> rfl
  | n, .int i, _ => by cases n <;> rfl
  | n, .str x, _ => by cases n <;> rfl
  | n + 1, .lst ds, h => pls_up1 n ds h
  | n + 1, .tup ds, h => pls_up1 n ds h
  | 0, .lst ds, h => by simp [pl] at h
  | 0, .tup ds, h => by simp [pl] at h
  | n, .ftp ds, h => by cases n <;> simp [pl] at h
  | n, .ins c ds, h => by cases n <;> simp [pl] at h
  | n, .dic k ds, h => by cases n <;> simp [pl] at h
  | n, .val v, h => by cases n <;> simp [pl] at h
  | n, .law, h => by cases n <;> simp [pl] at h
  | n, .exn c ds, h => by cases n <;> simp [pl] at h
theorem pls_up1 : ∀ (n : Nat) (ds : List D), ds.all (pl n) = true → ds.all (pl (n + 1)) = true
  | n, [], _ => rfl
  | n, d :: ds, h => by
    rw [List.all_cons, Bool.and_eq_true] at h ⊢
    exact ⟨pl_up1 n d h.1, pls_up1 n ds h.2⟩
end
theorem pl_up {n m : Nat} {d : D} (h : n ≤ m) (p : pl n d = true) : pl m d = true := by
  induction h with
  | refl => exact p
  | step _ ih => exact pl_up1 _ _ ih
theorem any_find {ds : List D} {x : D} : ds.any (fun d => deq d x) = (findD ds x).isSome := by
  unfold findD
  rw [Bool.eq_iff_iff, List.any_eq_true, Option.isSome_iff_ne_none, ne_eq, List.findIdx?_eq_none_iff]
  simp
theorem draw_nat {m : Nat} {Q : D → Prop} {E : Exn → Prop} (h0 : 0 < m) (h1 : m < 1073741824) (q : ∀ r : Nat, r < m → Q (.int r)) : oDraw [.law, .int m] Q E := by
  refine ⟨m, rfl, by omega, by omega, fun r h0 h1 => ?_⟩
  obtain ⟨n, rfl⟩ := Int.eq_ofNat_of_zero_le h0
  exact q n (by omega)
theorem cutD_mem {ds : List D} {lo hi : Option Int} {x : D} (h : x ∈ cutD ds lo hi) : x ∈ ds := List.mem_of_mem_drop (List.mem_of_mem_take h)
theorem cutD_len {ds : List D} {lo hi : Option Int} : (cutD ds lo hi).length ≤ ds.length := by
  unfold cutD
  rw [List.length_take, List.length_drop]
  omega
theorem cut_from {ds : List D} (k : Nat) : cutD ds (some (k : Int)) none = ds.drop k := by
  unfold cutD
  rw [HT.sIx_nat, HT.sIx_none]
  by_cases h : k ≤ ds.length
  · rw [Nat.min_eq_left h, List.take_of_length_le (by rw [List.length_drop]; omega)]
  · rw [Nat.min_eq_right (by omega), List.drop_eq_nil_of_le (by omega), List.drop_eq_nil_of_le (i := k) (by omega), List.take_nil]
theorem cut_to {ds : List D} (k : Nat) : cutD ds none (some (k : Int)) = ds.take k := by
  unfold cutD
  rw [HT.sIx_nat, HT.sIx_none, List.drop_zero, Nat.sub_zero]
  by_cases h : k ≤ ds.length
  · rw [Nat.min_eq_left h]
  · rw [Nat.min_eq_right (by omega), List.take_of_length_le (Nat.le_refl _), List.take_of_length_le (by omega)]
theorem pl_tup {n : Nat} {ds : List D} (h : ∀ x ∈ ds, pl n x = true) : pl (n + 1) (.tup ds) = true := List.all_eq_true.mpr h
theorem pl_lst {n : Nat} {ds : List D} (h : ∀ x ∈ ds, pl n x = true) : pl (n + 1) (.lst ds) = true := List.all_eq_true.mpr h
theorem pl_app {n : Nat} {a b : List D} (h1 : ∀ x ∈ a, pl n x = true) (h2 : ∀ x ∈ b, pl n x = true) : ∀ x ∈ a ++ b, pl n x = true := fun x h => (List.mem_append.mp h).elim (h1 x) (h2 x)
theorem pl_one {n : Nat} {d : D} (h : pl n d = true) : ∀ x ∈ [d], pl n x = true := fun x hx => by
  rw [List.mem_singleton] at hx
  subst hx
  exact h
theorem cutS_len {z : Str} {lo hi : Option Int} : (cutS z lo hi).length ≤ z.length := by
  unfold cutS Str.length
  simp
  omega
theorem forP_rng {g : XGp} {body : XSp} {P : Po} {I : Nat → List Sl → Prop} (n : Nat)
    (step : ∀ i G (K : List Sl → Prop), i < n → I i G → (∀ G2, I (i + 1) G2 → K G2) → g (.int (i : Int)) G (fun G1 => body G1 { P with nx := K, ct := K, bk := P.nx })) (fin : ∀ G, I n G → P.nx G) : ∀ G, I 0 G → forP g body ((List.range n).map fun (i : Nat) => D.int ((i : Nat) : Int)) G P := by
  intro G h
  refine forP_inv (I := fun es G => ∃ i m, i + m = n ∧ es = (List.range' i m).map (fun (i : Nat) => D.int ((i : Nat) : Int)) ∧ I i G) ?_ ?_ _ _ ⟨0, n, by omega, by rw [List.range_eq_range'], h⟩
  · rintro d ds G K ⟨i, m, e, e2, hI⟩ hK
    cases m with
    | zero => cases e2
    | succ m =>
      obtain ⟨rfl, rfl⟩ := List.cons.inj (show d :: ds = D.int ((i : Nat) : Int) :: (List.range' (i + 1) m).map (fun (i : Nat) => D.int ((i : Nat) : Int)) from e2)
      exact step i G K (by omega) hI fun G2 h2 => hK G2 ⟨i + 1, m, by omega, rfl, h2⟩
  · rintro G ⟨i, m, e, e2, hI⟩
    cases m with
    | zero =>
      obtain rfl : i = n := by omega
      exact fin G hI
    | succ m => cases e2
theorem erase_len : ∀ {l : List Str} {x : Str}, x ∈ l → (l.erase x).length + 1 = l.length
  | a :: l, x, h => by
    by_cases e : a = x
    · subst e
      simp
    · have h2 : x ∈ l := (List.mem_cons.mp h).resolve_left fun z => e z.symm
      rw [List.erase_cons_tail (by simpa using e), List.length_cons, List.length_cons, erase_len h2]
/-- more names than places -/
theorem pigeon : ∀ {xs l : List Str}, xs.Nodup → (∀ x ∈ xs, x ∈ l) → xs.length ≤ l.length
  | [], _, _, _ => Nat.zero_le _
  | x :: xs, l, nd, h => by
    have hx := h x List.mem_cons_self
    obtain ⟨n1, n2⟩ := List.nodup_cons.mp nd
    have := pigeon (xs := xs) (l := l.erase x) n2 fun y hy => by
      have hne : y ≠ x := fun z => n1 (z ▸ hy)
      exact (List.mem_erase_of_ne hne).mpr (h y (List.mem_cons_of_mem _ hy))
    have := erase_len hx
    simp only [List.length_cons]
    omega
end Pu
namespace Pu
open PySem PySem.Spec PyProof.Rows L2
/-! ## an empty dict, an own item appended, defs called within a suite -/
section
variable {B : Bs} {X : Cx} {Wx : WX} {a b c e tg : Expr} {es : List Expr} {pa pb pc : XP} {pos : Pos} {pas : XAp} {st : Stmt} {sts ats bts : List Stmt} {p p2 pp qq : XSp} {qt : XTp} {g : XGp} {gs : XGsp}
theorem xe_dnew : XE B X Wx (.Dict [] [] pos) (rC (.dic [] [])) := by
  refine ⟨_, pe_dnewK, fun S σ H G Q E k O q ke kx => fun d hd => ke _ _ _ (fut_new O.wok hd) ?_ q⟩
  simp only [Rep]
  exact ⟨d, [], rfl, O.wok.new hd, upd_same, rfl, Reps.nil⟩
/-- x.append(x[j]) -/
def rAppI (i : Nat) (j : Int) : XSp := fun G P => match G[i]? with
  | some (.own ds) => match atI ds j with
    | some d => ds.length < 100000 ∧ P.nx (G.set i (.own (ds ++ [d])))
    | none => False
  | _ => False
theorem xs_appI (i : Nat) (j : Int) {x : Str} {px px2 apos cpos ipos spos : Pos} {tj} (hN : X.N[i]? = some x := by rfl) (hv : Vis X.env.scope x := by first | exact Or.inl rfl | exact Or.inr (Or.inl rfl) | exact Or.inr (Or.inr rfl)) (hd : (x == ("__debug__" : Str)) = false := by decide)
    (hcd : (x == ("__classdict__" : Str)) = false := by decide) (hs0 : swapsWith (.Call (.Attribute (.Name x px) "append" apos) [.Subscript (.Name x px2) (.Constant (.int j) tj ipos) spos] [] cpos) none pos.line X.env = pure false := by rfl)
    (hbase : attributeBase (.Name x px) "append" X.env (eval (.Name x px) X.env) = eval (.Name x px) X.env := by rfl)
    (hfew : ((backTo cpos (starEach [.Subscript (.Name x px2) (.Constant (.int j) tj ipos) spos] X.env)).all (fun x => !x.1) && (backToKw cpos (keywordEach [] X.env)).all (fun x => x.1.isSome)
      && decide ([Expr.Subscript (.Name x px2) (.Constant (.int j) tj ipos) spos].length + ([] : List Keyword).length + (if ([] : List Keyword).isEmpty then 0 else 1) < 30)) = true := by rfl)
    (hline : (apos.endLine == cpos.line) = true := by rfl) (hs : starEach [.Subscript (.Name x px2) (.Constant (.int j) tj ipos) spos] X.env = (false, eval (.Subscript (.Name x px2) (.Constant (.int j) tj ipos) spos) X.env) :: starEach [] X.env := by rfl) (hplain : (backTo cpos (starEach [] X.env)).any (·.1) = false := by rfl) :
    XS B X Wx (.Expr (.Call (.Attribute (.Name x px) "append" apos) [.Subscript (.Name x px2) (.Constant (.int j) tj ipos) spos] [] cpos) pos) (rAppI i j) := by
  have hx := pe_ix (X := X) (pos := spos) ix_list (pe_var (pos := px2) hN hv hd hcd) (pe_int (i := j) (j := tj) (pos := ipos)) (fun _ _ => rfl)
  have hp := ps_expr (pe_bm PySem.F.plainAttrs_list PySem.F.slot_list_append PySem.F.type_list_append mt_append (pe_var hN hv hd hcd) (pa_cons hx pa_nil hs) hbase hfew hline hs hplain) hs0
  refine ⟨_, hp, fun S σ H G P D O q k => ?_⟩
  unfold rAppI at q
  cases hg : G[i]? with
  | none => rw [hg] at q; exact q.elim
  | some g =>
    rw [hg] at q
    cases g <;> first | exact False.elim q | skip
    rename_i ds
    dsimp only at q
    cases hx : atI ds j with
    | none => rw [hx] at q; exact q.elim
    | some d =>
      rw [hx] at q
      obtain ⟨o, eo, a, vs, rfl, s1, s2, s3, e1, rr⟩ := O.get hg
      obtain ⟨v, ev, rv⟩ := rr.atI hx
      refine ⟨_, eo, .inl ⟨rfl, vs, SqL.of e1⟩, _, eo, a, vs, j, v, rfl, rfl, SqL.of e1, ev, ?_⟩
      refine ⟨a, vs, v, rfl, rfl, e1, Nat.lt_of_lt_of_le (by rw [rr.len]; exact q.1) (le_line (Nat.le_refl _)), ?_⟩
      refine k.nx S σ _ _ (O.turn (g' := .own (ds ++ [d])) hg rfl eo ⟨a, vs ++ [v], rfl, s1, s2, s3, upd_same, ?_⟩ rfl) q.2
      have rr' := rr.app (Reps.cons rv Reps.nil)
      exact Reps.mono (W := B.W.at S) (S := S) (fun b u n z => ⟨by rw [upd_ne (show b ≠ a from fun y => n (by rw [y]; exact s1))]; exact z, n⟩) _ _ rr'
/-- an own list or a datum becomes a datum -/
def rsFrzL (i : Nat) (a : XSp) : XSp := fun G P => match G[i]? with
  | some (.own ds) => a (G.set i (.d (.lst ds))) P
  | some (.d _) => a G P
  | _ => False
theorem xss_frzL (i : Nat) (h : XSs B X Wx sts pp) : XSs B X Wx sts (rsFrzL i pp) := by
  obtain ⟨t, h, ev⟩ := h.ex
  refine ⟨t, h, fun S σ H G P D O q k => ?_⟩
  unfold rsFrzL at q
  cases hg : G[i]? with
  | none => rw [hg] at q; exact q.elim
  | some g =>
    rw [hg] at q
    cases g <;> first | exact False.elim q | skip
    · exact ev _ σ H _ P D O q k
    · obtain ⟨q', sq, O2⟩ := O.thaw hg
      exact ev _ σ H _ P D O2 q k
end
/-! ### a small def, called where an exception is handled: it raises nothing -/
open L2H in
structure FnC (P : Program) (w : World) (K : PySem.W.Frag) (mg : Str → Option Value) (base : Heap) (k : Nat) (f : Addr) (fd : FuncData) (ps : List Str) (sp : Sp) : Prop where
  len : ∀ vs H Q E, sp vs H Q E → vs.length = ps.length
  run : ∀ (A : Around) (outer : List Env) (s : Shared) (H : Hp) (args : Args) (us : List Value) (vs : List V) (Q : VK) (E : XK) (p : Addr × Obj), RoomH k A → PinOk outer H s p → Env0 P w K mg base A outer s H →
    BindsTo s fd args (ps.zip us) → Vals vs us → sp vs H Q E → codeAny (model P w) A (.call (.ref f) args) (CR CX0 outer P w H s Q E) s
section
variable {P : Program} {w : World} {K : PySem.W.Frag} {mg : Str → Option Value} {base : Heap} {CT : Nat → Addr} {lay : Nat → List Str}
open L2H in
theorem fn_okC {x qual : Str} {st : Stmt} {f : Addr} {fd : FuncData} {N ps : List Str} {k : Nat} {F : DFn} {pb : XSp} (Fn : FunG K x qual st f fd) (Sc : FnScope N ps (defScope st)) (hF : ∀ ds Q E, F ds Q E → ds.length = ps.length ∧ pb (init0 N ds) (fnPo Q fun _ => False))
    (body : ∀ (B : Bs) (cdv : Value) (A : Around) (outer : List Env) (s : Shared) (H : Hp) (E : XK) (p : Addr × Obj), B.W.CT = CT → B.W.lay = lay → B.cur = none → RoomH k (A.deeper (envOfC qual (defScope st) s.heap.objs.size f cdv)) →
      XSs B (cxH CX0 P w K mg base N qual (defScope st) f cdv A outer s H E p) (fun _ _ _ _ => False) (defBody st) pb) : FnC P w K mg base (k + 1) f fd ps (spP CT lay F) := by
  obtain ⟨oc, od, dV, kV, doc, pm, an, cdv, ct, osl, rfl, look, code⟩ := Fn.ex
  have hlen : ∀ vs H Q E, spP CT lay F vs H Q E → vs.length = ps.length := fun vs H Q E h => by
    obtain ⟨L, S, ds, Qd, Ed, _, r, hq, _⟩ := h
    rw [r.len]
    exact (hF ds Qd Ed hq).1
  refine ⟨hlen, fun A outer s H args us vs Q E p hr pin env0 hb r hsp => ?_⟩
  have kin : K.In s.heap := env0.mod.kin.keeps fun b o z => (env0.bs b o z).1
  have nlim : s.heap.NoLimit := env0.mod.nolimit.keeps fun b o z => (env0.bs b o z).1
  have hvl := hlen _ _ _ _ hsp
  refine codeAny_call_function hr.depth (kin _ _ look) rfl Sc.co Sc.gen rfl (PySem.W.codeRec_of kin code) (hb _ _ _ _ (wpAny_newFunctionEnv_cells Sc.kind (fun y hy => ?_) fun env he s1 hc => ?_))
  · rcases Sc.par y.1 (List.of_mem_zip hy).1 with q | q
    · exact .inl q
    · exact .inr ⟨q, PySem.W.cellsFrom_some _ _ _ (.inl q)⟩
  · subst he
    refine ⟨nlim.keeps hc.toInCall.keep, codeAny_func ?_⟩
    obtain ⟨L, S, ds, Qd, Ed, wk, rr, hq, ke, kx⟩ := hsp
    let B : Bs := { W := ⟨CT, lay, L, S⟩, H0 := H }
    obtain ⟨t, h1, h2⟩ := (body B cdv A outer s H E p rfl rfl rfl (hr.deeper _)).ex
    have I := inv_startH (CX := CX0) (E := E) Sc pin env0 hvl r hc
    have hq2 : t { nx := fun _ H' => Q .non H', rt := Q } (L2.start N vs) H := h2 S _ H _ (fnPo Qd fun _ => False) _ (ok_start (B := B) wk rfl rr) (hF ds Qd Ed hq).2 ⟨fun S' σ' H' G' O' q' => ke _ H' _ ⟨O'.ext, fun s l e => (O'.wok.law s l e).1⟩ mkN q', fun S' σ' H' G' v d O' r' q' =>
      ke _ H' _ ⟨O'.ext, fun s l e => (O'.wok.law s l e).1⟩ (Rep.sub (W := B.W.at S') (S := S) r' fun a h => O'.sub a h) q', fun _ _ _ _ _ z => z.elim, fun _ _ _ _ _ z => z.elim, fun _ _ _ _ _ _ _ _ _ z => z.elim⟩
    refine wpAny_mono (h1.run [] s1 (L2.start N vs) H _ I hq2) (fun fl s' hs => ?_) fun e s' hs => hs
    have out : ∀ {σ' : L2.St} {H' : Hp} {v : V} {u : Value}, Inv (cxH CX0 P w K mg base N qual (defScope st) f cdv A outer s H E p) [] σ' H' s' → RelV v u → Q v H' → CE outer P w H s Q u s' := fun {σ' H' v u} J rv q => ⟨v, H', J.os, J.bare, J.base, J.hok, rv, q⟩
    match fl, hs with
    | .ret u, ⟨v, σ', H', J, rv, q⟩ => exact out J rv q
    | .next, ⟨σ', H', J, q⟩ => exact out (v := V.non) (u := Value.none) J rfl q
    | .brk, ⟨_, _, _, q⟩ => exact q.elim
    | .cont, ⟨_, _, _, q⟩ => exact q.elim
structure FnAtC (P : Program) (w : World) (K : PySem.W.Frag) (mg : Str → Option Value) (base : Heap) (CT : Nat → Addr) (lay : Nat → List Str) (k : Nat) (x : Str) (ps : List Str) (F : DFn) : Prop where
  ex : ∃ f fd, FnC P w K mg base k f fd ps (spP CT lay F) ∧ mg x = some (.ref f) ∧ PySem.W.keepIn K (.ref f) = true ∧ Binds K fd ps []
end
section
open L2H
variable {B : Bs} {X : Cx} {Wx : WX} {e : Expr} {es : List Expr} {pos p : Pos} {pas : XAp} {k : Nat} {x : Str} {ps : List Str} {F : DFn}
theorem xe_callC {a : Addr} {oe : Obj} {cls : Value} {d : Option Addr} {pn : List (Addr × Obj)} (h : FnAtC X.prog X.w X.K X.mg X.base B.W.CT B.W.lay k x ps F) (hr : Room k X.A) (ha : XA (B.curr a cls d) (X.suite a ((a, oe) :: pn)) Wx (e :: es) pas)
    (hg : Gl X x := by rfl) (hdb : (x == ("__debug__" : Str)) = false := by decide) (he : starEach (e :: es) X.env = (false, eval e X.env) :: starEach es X.env := by rfl) (hpl : (backTo pos (starEach es X.env)).any (·.1) = false := by rfl) :
    XE (B.curr a cls d) (X.suite a ((a, oe) :: pn)) Wx (.Call (.Name x p) (e :: es) [] pos) (rFn F pas) := by
  obtain ⟨f, fd, F1, hm, hk, hb⟩ := h.ex
  obtain ⟨t, ha, ea⟩ := ha.ex
  refine ⟨tCallS (spP B.W.CT B.W.lay F) (fun σ => fun cls d H => Wx cls d σ H) t, ⟨fun pins s σ H Q I h => ?_⟩, fun S σ H G Q E kk O q ke kx => ea S σ H G _ E _ O q (fun vs H1 ds f1 r1 q1 => ?_) kx⟩
  · refine wpAny_Call_Name_kw (ld_glob I hg hm ?_ hdb)
    refine PySem.W.callWith_K (h₀ := X.base) I.ok.mod.kin hk (thn (ha.run pos pins s σ H _ I h) fun us s1 ⟨vs, H1, I1, rv, q⟩ => ⟨I1.kIn, ?_⟩) he hpl
    have hl : us.length = ps.length := by rw [← rv.length]; exact F1.len _ _ _ _ q
    have bb := hb s1 us I1.kIn (by rw [List.append_nil]; exact hl)
    rw [List.append_nil] at bb
    have pk := I1.pin (a, oe) (List.mem_append_left _ List.mem_cons_self)
    have pin : PinOk X.stack H1 s1 (a, oe) := ⟨pk.1, pk.2.1, fun z => (List.mem_cons.mp (I1.stkSub a z)).elim pk.2.2.1 pk.2.2.2.1, pk.2.2.2.2⟩
    refine wpAny_call (codeAny_mono (F1.run _ X.stack s1 H1 ⟨us, []⟩ us vs Q _ (a, oe) ⟨hr.dp, hr.un⟩ pin I1.env0 bb rv q) fun r s' hq => ?_)
    match r, hq with
    | .ok (.ret u), hq => exact I1.after hq
    | .ok .next, hq => exact hq.elim
    | .ok .brk, hq => exact hq.elim
    | .ok .cont, hq => exact hq.elim
    | .error _, hq => exact hq.elim
  · exact ⟨B.W.L, S, ds, Q, E, O.wok.fut f1, r1, q1, ke.fut f1, kx.fut f1⟩
end
end Pu
namespace Pu
open PySem PySem.Spec PyProof.Rows L2
/-! ## exceptions held as values -/
section
variable {B : Bs} {X : Cx} {Wx : WX} {a b c e o : Expr} {es : List Expr} {pa pb pc : XP} {pos p p2 apos : Pos} {pas : XAp} {k : Nat} {x m f n : Str} {ps : List Str} {F : DFn}
theorem repX {W : Wd} {H : Hp} {c : Nat} {ds : List D} {v : V} (h : Rep W H (.exn c ds) v) : ∃ a dd vs, v = .ref a ∧ ¬ W.S a ∧ H a = some (exo a (W.CT c) dd) ∧ vs.length = (W.lay c).length ∧ ((dd = none ∧ vs = []) ∨ ∃ dx fs, dd = some dx ∧ ¬ W.S dx ∧ H dx = some (exd dx fs) ∧ (∀ (i : Nat) (f : Str) (x : V), (W.lay c)[i]? = some f → vs[i]? = some x → fs.lookup f = some x) ∧ ∀ f, f ∉ W.lay c → fs.lookup f = none) ∧ Reps W H ds vs := by simpa only [Rep] using h
/-- at a: an exception of the class at C, as an object -/
def ExA (H : Hp) (a C : Addr) (fo : Option (List (Str × V))) : Prop := ∃ dd, H a = some (exo a C dd) ∧ ((dd = none ∧ fo = none) ∨ ∃ dx fs, dd = some dx ∧ H dx = some (exd dx fs) ∧ fo = some fs)
theorem ExA.inst {pins : List (Addr × Obj)} {σ : L2.St} {H : Hp} {s : Shared} {a C : Addr} {fo : Option (List (Str × V))} (I : Inv X pins σ H s) (h : ExA H a C fo) :
    ∃ ox od, PySem.W.InstAt s.heap a ox C od ∧ match fo, od with | none, none => True | some fs, some od => ∀ g, ∃ r, PySem.W.lookIn g od = some r ∧ RelO (fs.lookup g) r | _, _ => False := by
  obtain ⟨dd, e, q⟩ := h
  obtain ⟨t1, ho⟩ := exo_at I.hok e
  rcases q with ⟨rfl, rfl⟩ | ⟨dx, fs, rfl, e2, rfl⟩
  · exact ⟨_, none, ⟨ho, rfl, rfl, True.intro⟩, True.intro⟩
  · obtain ⟨mA, hns, rel⟩ := exd_at I.hok e2
    obtain ⟨od, hd, hl⟩ := lookIn_ns hns
    exact ⟨_, some od, ⟨ho, rfl, rfl, hd⟩, fun g => ⟨_, hl g, rel g⟩⟩
/-! made -/
def tMkV (C : Addr) (sp : Sp) (Wx : WX) (ta : TA) : TE := fun σ H Q => ta σ H fun vs H1 => vs.length ≤ 1000 ∧ ∀ a, H1 a = none → sp (.ref a :: vs) (upd H1 a (exo a C none)) (fun v H2 => v = .non ∧ Q (.ref a) H2) (WE Wx σ)
def rMkV (cn n : Nat) (as : XAp) : XP := fun G Q E => as G (fun ds => ds.length = n ∧ n ≤ 1000 ∧ Q (.exn cn ds)) E
theorem pe_mkV {CX : CXT} {C fI : Addr} {fd : FuncData} {sp : Sp} {ta : TA} (T : OexC X.K C) (iC : PySem.W.findIn X.K (.ref C) "__init__" = some (some (.ref fI))) (tI : PySem.W.typeIn X.K (.ref fI) = some (.type "function"))
    (F1 : FnOk X.prog X.w X.K X.mg X.base CX k fI fd ps sp) (hr : Room (k + 1) X.A) (hb : Binds X.K fd ps []) (hx : ∀ σ, PassesAt CX X σ (WE Wx σ)) (hg : Gl X x) (hm : X.mg x = some (.ref C)) (ha : PA X (e :: es) ta)
    (hdb : (x == ("__debug__" : Str)) = false := by decide) (he : starEach (e :: es) X.env = (false, eval e X.env) :: starEach es X.env := by rfl) (hpl : (backTo pos (starEach es X.env)).any (·.1) = false := by rfl) :
    PE X (.Call (.Name x p) (e :: es) [] pos) (tMkV C sp Wx ta) := by
  refine ⟨fun pins s σ H Q I h => ?_⟩
  obtain ⟨nm, q, N, bs, bm, sn, sub, ab, col, dd, k0, k1, k2, k3, k5, hC, hbm⟩ := T.cls
  refine wpAny_Call_Name_kw (ld_glob I hg hm ?_ hdb)
  refine PySem.W.callWith_K (h₀ := X.base) I.ok.mod.kin T.kC (thn (ha.run pos pins s σ H _ I h) fun us s1 ⟨vs, H1, I1, r1, hz, q1⟩ => ⟨I1.kIn, ?_⟩) he hpl
  show wpAny _ _ (call (.ref C) us) _ _ _
  obtain ⟨hp, g, dr, tk, os⟩ := s1
  have hsz : hp.objs.size ≤ hp.objs.size + 1 := Nat.le_succ _
  have hn : H1 (hp.objs.size + 1) = none := I1.hok.fresh hsz
  have hq := q1 (hp.objs.size + 1) hn
  have kk : ∀ b o, hp.get? b = some o → ((hp.push (PySem.W.kdv_tup us)).push (PySem.HandSPX.excO C hp.objs.size)).get? b = some o := fun b o e => Heap.get?_push_of_some _ (Heap.get?_push_of_some _ e)
  have hget : ((hp.push (PySem.W.kdv_tup us)).push (PySem.HandSPX.excO C hp.objs.size)).get? (hp.objs.size + 1) = some (PySem.HandSPX.excO C hp.objs.size) := by heap_get
  have I2 : Inv X pins σ (upd H1 (hp.objs.size + 1) (exo (hp.objs.size + 1) C none)) ⟨(hp.push (PySem.W.kdv_tup us)).push (PySem.HandSPX.excO C hp.objs.size), g, dr, tk, os⟩ :=
    I1.laid (t' := tk) (a := hp.objs.size + 1) (o := exo (hp.objs.size + 1) C none) (h' := (hp.push (PySem.W.kdv_tup us)).push (PySem.HandSPX.excO C hp.objs.size)) kk hsz (exo_ok hget)
  have r2 : Vals (V.ref (hp.objs.size + 1) :: vs) (Value.ref (hp.objs.size + 1) :: us) := .cons rfl r1
  have hl : (Value.ref (hp.objs.size + 1) :: us).length = ps.length := by
    have e := r2.length
    rw [F1.len _ _ _ _ hq] at e
    exact e.symm
  have hus : us.length ≤ sizeLine := by
    rw [← Paired.length r1, sizeLine_eq]
    omega
  have bb := hb (⟨(hp.push (PySem.W.kdv_tup us)).push (PySem.HandSPX.excO C hp.objs.size), g, dr, tk, os⟩ : Shared) (Value.ref (hp.objs.size + 1) :: us) I2.kIn (by rw [List.append_nil]; exact hl)
  rw [List.append_nil] at bb
  refine wpAny_call (PySem.HandSPX.call_own F.excBase_ValueError (fun Y => PySem.HandSPX.refsVE_contains Y bm hbm) (I1.kIn _ _ hC) (PySem.W.looks_findIn I1.kIn iC) (fun self => PySem.W.bind_fn I1.kIn self tI) hus
    (codeAny_mono (F1.run _ X.stack _ _ ⟨Value.ref (hp.objs.size + 1) :: us, []⟩ (Value.ref (hp.objs.size + 1) :: us) _ _ (WE Wx σ) (hr.make C us []) (I2.env0.make C us []) bb r2 hq) fun r s' hq' => ?_))
  cases r with
  | error er => exact hx σ pins _ _ er s' I2 hq'
  | ok fl =>
    cases fl with
    | ret u =>
      obtain ⟨v, H', I3, rv, ev, q3⟩ := I2.after hq'
      subst ev
      exact ⟨rv, ⟨V.ref (hp.objs.size + 1), H', I3, rfl, q3⟩⟩
    | next => exact False.elim hq'
    | brk => exact False.elim hq'
    | cont => exact False.elim hq'
theorem xe_mkV {cn n : Nat} (h : XnAt X.prog X.w X.K X.mg X.base B.W.CT B.W.lay k x cn ps) (hr : Room (k + 1) X.A) (hn : (B.W.lay cn).length = n) (tk : Takes X Wx) (ha : XA B X Wx (e :: es) pas) (hg : Gl X x := by rfl)
    (hdb : (x == ("__debug__" : Str)) = false := by decide) (he : starEach (e :: es) X.env = (false, eval e X.env) :: starEach es X.env := by rfl) (hpl : (backTo pos (starEach es X.env)).any (·.1) = false := by rfl) :
    XE B X Wx (.Call (.Name x p) (e :: es) [] pos) (rMkV cn n pas) := by
  obtain ⟨fI, fd, T, iC, tI, F1, b1, m1⟩ := h.ex
  obtain ⟨t, ha, ea⟩ := ha.ex
  refine ⟨tMkV (B.W.CT cn) (spX (B.W.CT cn) (B.W.lay cn)) Wx t, pe_mkV T iC tI F1 hr b1 (fun σ => passAt tk σ) hg m1 ha hdb he hpl, fun S σ H G Q E kk O q ke kx => ea S σ H G _ E _ O q (fun vs H1 ds f r h => ?_) kx⟩
  obtain ⟨h1, h2, h3⟩ := h
  have w1 := O.wok.fut f
  have hlen : vs.length = n := by rw [r.len]; exact h1
  refine ⟨by rw [hlen]; exact h2, fun a na => ⟨a, vs, rfl, by rw [hlen, hn], upd_same, fun H' dx fs sm ndx ne e1 e2 look nol => ?_⟩⟩
  have ndx' : H1 dx = none := by rw [upd_ne ne] at ndx; exact ndx
  have sm' : Same H1 H' := fun b o e => by
    have h2 : b ≠ a := ne_of_none e na
    exact sm b o (by rw [upd_ne h2]; exact e) h2
  have g := Fut.same w1 sm'
  refine ⟨rfl, ke _ H' (.exn cn ds) (f.trans g) ?_ h3⟩
  simp only [Rep]
  exact ⟨a, some dx, vs, rfl, w1.new na, e1, by show vs.length = (B.W.lay cn).length; rw [hlen, hn], .inr ⟨dx, fs, rfl, w1.new ndx', e2, look, nol⟩, r.fut w1 g⟩
theorem pe_mkV0 {C : Addr} {bmB : List Value} {Bn newId initId : String} (F : ExcBaseFacts Bn newId initId bmB) (q : PySem.W.excIn X.K C bmB newId = true) (gC : X.mg x = some (.ref C)) (kC : PySem.W.keepIn X.K (.ref C) = true) (hg : Gl X x)
    (hdb : (x == ("__debug__" : Str)) = false := by decide) : PE X (.Call (.Name x p) [] [] pos) (fun _ H Q => ∀ a, H a = none → Q (.ref a) (upd H a (exo a C none))) := by
  refine ⟨fun pins s σ H Q I h => ?_⟩
  refine wpAny_Call_Name_kw (ld_glob I hg gC ?_ hdb)
  refine PySem.W.callWith_K0 I.kIn kC ?_
  obtain ⟨bm, N, nm, qn, bs, hdct, sn, sub, ab, col, dd, k0, k1, k2, k3, k5, mN, hC, hN, hni, T⟩ := exc_obj I.kIn q
  refine wpAny_call_exc_subT F T hC hN hni (fun h' a hm => ?_) (by show 0 ≤ sizeLine; omega)
  have hn : H a = none := I.hok.gone hm.new
  obtain ⟨t, ht, _, _⟩ := hm.there
  exact ⟨.ref a, upd H a (exo a C none), I.laidN hm.keeps hm.new hn (exo_ok ht), rfl, h a hn⟩
theorem xe_mkV0 {cn : Nat} (h : XnAt0 X.K X.mg B.W.CT B.W.lay x cn) (hg : Gl X x := by rfl) (hdb : (x == ("__debug__" : Str)) = false := by decide) : XE B X Wx (.Call (.Name x p) [] [] pos) (rC (.exn cn [])) := by
  obtain ⟨bmB, Bn, n1, n2, F, q, m1, kc, s1, t1, hl⟩ := h.ex
  refine ⟨_, pe_mkV0 F q m1 kc hg hdb, fun S σ H G Q E kk O q ke kx => fun a na => ?_⟩
  have g : Fut (B.W.at S) H (upd H a (exo a (B.W.CT cn) none)) := fut_new O.wok na
  refine ke _ _ (.exn cn []) g ?_ q
  simp only [Rep]
  exact ⟨a, none, [], rfl, O.wok.new na, upd_same, by show 0 = (B.W.lay cn).length; rw [hl]; rfl, .inl ⟨rfl, rfl⟩, Reps.nil⟩
/-! a field -/
def rFX (tb : List (Nat × Nat)) (a : XP) : XP := fun G Q E => a G (fun d => match d with
  | .exn c ds => match tb.lookup c with
    | some j => match ds[j]? with
      | some x => Q x
      | none => False
    | none => False
  | _ => False) E
theorem pe_fxV {te : TE} (he : PE X e te) (hb : attributeBase e f X.env (eval e X.env) = eval e X.env := by rfl) :
    PE X (.Attribute e f pos) (fun σ H Q => te σ H fun x H1 => ∃ a C fs v, x = .ref a ∧ XfC X.K C ∧ PySem.W.findIn X.K (.ref C) f = some none ∧ ExA H1 a C (some fs) ∧ fs.lookup f = some v ∧ Q v H1) := by
  refine ⟨fun pins s σ H Q I h => ?_⟩
  refine attr_of hb (thn (he.run pins s σ H _ I h) fun u s1 hh => ?_)
  obtain ⟨x, H1, I1, rx, a, C, fs, v, ex, T, hno, ea, l, q⟩ := hh
  subst ex
  obtain rfl : u = Value.ref a := rx
  obtain ⟨ox, od, J, hl⟩ := ea.inst I1
  cases od with
  | none => exact hl.elim
  | some od =>
    obtain ⟨r, hr, rel⟩ := hl f
    obtain ⟨u, hu, ru⟩ := RelO.some_of (v := v) (o := r) (by rw [← l]; exact rel)
    exact HandSPX.exc_get I1.kIn J T.ga T.gg T.exC (PySem.W.findObj_own T.hdC hno rfl (by rw [hr, hu])) (handed_of ru) ⟨v, H1, I1.tok _, ru, q⟩
theorem xe_fxV {tb : List (Nat × Nat)} (T : XfOk X.K B.W.CT B.W.lay f tb) (ha : XE B X Wx e pa) (hb : attributeBase e f X.env (eval e X.env) = eval e X.env := by rfl) :
    XE B X Wx (.Attribute e f pos) (rFX tb pa) := by
  obtain ⟨t, ha, ea⟩ := ha.ex
  refine ⟨_, pe_fxV ha hb, fun S σ H G Q E k O q ke kx => ea S σ H G _ E _ O q (fun v H1 d f1 r1 q1 => ?_) kx⟩
  cases d <;> first | exact False.elim q1 | skip
  rename_i c ds
  dsimp only at q1
  cases hm : tb.lookup c with
  | none => rw [hm] at q1; exact q1.elim
  | some j =>
    rw [hm] at q1
    dsimp only at q1
    obtain ⟨k1, k2, k3⟩ := T _ (lookup_mem hm)
    cases hx : ds[j]? with
    | none => rw [hx] at q1; exact q1.elim
    | some y =>
      rw [hx] at q1
      obtain ⟨a, dd, vs, rfl, n, e1, l, e3, rr⟩ := repX r1
      obtain ⟨v, ev, rv⟩ := rr.get hx
      rcases e3 with ⟨_, rfl⟩ | ⟨dx, fs, ed, n2, eh, lk, _⟩
      · simp at ev
      · exact ⟨a, _, fs, v, rfl, k1, k2, ⟨dd, e1, .inr ⟨dx, fs, ed, eh, rfl⟩⟩, lk j f v k3 ev, ke v H1 y f1 rv q1⟩
/-! isinstance -/
def rIV (tb : List (Nat × Bool)) (a : XP) : XP := fun G Q E => a G (fun d => match d with
  | .exn c _ => match tb.lookup c with
    | some b => Q (.bl b)
    | none => False
  | _ => False) E
def rIsV (K : PySem.W.Frag) : List V → Hp → VK → Prop := fun xs H Q => ∃ (a : Addr) (c : V) (cv : Value) (b : Bool) (D : Addr) (fo : Option (List (Str × V))), xs = [.ref a, c] ∧ ExcC K D ∧ ExA H a D fo ∧ (∀ u, RelV c u → u = cv) ∧ PySem.W.kitOne K (.ref D) cv = some b ∧ Q (.bl b) H
theorem call_isV : CallR X (.builtin "isinstance") (rIsV X.K) := by
  intro pins s σ H xs us Q I r h
  obtain ⟨a, c, cv, b, D, fo, rfl, C, ea, hcv, e, q⟩ := h
  cases r with
  | cons rx rr =>
    cases rr with
    | cons rt rr =>
      cases rr
      cases rx
      have ec := hcv _ rt
      subst ec
      obtain ⟨ox, od, J, _⟩ := ea.inst I
      have hcl : (PySem.W.clsIn X.K D).isSome = true := by
        obtain ⟨cd, hc, _⟩ := PySem.W.any_some C.hd
        rw [hc]
        rfl
      exact PySem.W.kia_one (PySem.W.kitx_exc hcl C.hg C.hk C.hs C.ha C.hn C.ht C.hm) I.kIn J e (fun z => nomatch z) fun tk => ⟨.bl b, H, I.kept (t' := tk) fun _ _ z => z, rfl, q⟩
theorem ExA.of {W : Wd} {H : Hp} {c : Nat} {ds : List D} {v : V} (h : Rep W H (.exn c ds) v) : ∃ a fo, v = .ref a ∧ ExA H a (W.CT c) fo ∧ ∀ g, g ∉ W.lay c → ∀ fs, fo = some fs → fs.lookup g = none := by
  obtain ⟨a, dd, vs, rfl, n, e1, l, e3, rr⟩ := repX h
  rcases e3 with ⟨rfl, _⟩ | ⟨dx, fs, rfl, n2, eh, lk, no⟩
  · exact ⟨a, none, rfl, ⟨none, e1, .inl ⟨rfl, rfl⟩⟩, fun _ _ _ z => nomatch z⟩
  · exact ⟨a, some fs, rfl, ⟨some dx, e1, .inr ⟨dx, fs, rfl, eh, rfl⟩⟩, fun g hg fs' z => by cases z; exact no g hg⟩
theorem xe_isV {v : V} {cv : Value} {tb : List (Nat × Bool)} (T : IsxT X.K B.W.CT cv tb)
    (hm : X.mg n = none) (hbo : bootBuiltins n = some (.builtin "isinstance")) (hcv : ∀ u, RelV v u → u = cv) (ha : XE B X Wx a pa) (hb : XE B X Wx b (rC (.val v)))
    (hg : Gl X n := by rfl) (hn : n ≠ "__name__" := by decide) (hdb : (n == ("__debug__" : Str)) = false := by decide)
    (he : starEach [a, b] X.env = (false, eval a X.env) :: starEach [b] X.env := by rfl) (he2 : starEach [b] X.env = (false, eval b X.env) :: starEach [] X.env := by rfl) (hpl : (backTo pos (starEach [b] X.env)).any (·.1) = false := by rfl) :
    XE B X Wx (.Call (.Name n p2) [a, b] [] pos) (rIV tb pa) := by
  obtain ⟨ta, ha, ea⟩ := ha.ex
  obtain ⟨t2, hb, eb⟩ := hb.ex
  refine ⟨_, pe_callB call_isV hg hm hbo (pa_cons ha (pa_cons hb pa_nil he2) he) hn hdb he hpl, fun S σ H G Q E k O q ke kx => ea S σ H G _ E _ O q (fun u H1 d f1 r1 q1 => ?_) kx⟩
  cases d <;> first | exact False.elim q1 | skip
  rename_i c ds
  dsimp only at q1
  cases hm : tb.lookup c with
  | none => rw [hm] at q1; exact q1.elim
  | some bb =>
    rw [hm] at q1
    obtain ⟨k1, k2⟩ := T _ (lookup_mem hm)
    refine eb S σ H1 G (fun y => y = .val v) E _ (O.fut f1) rfl (fun w H2 dw f2 r2 q2 => ?_) (kx.fut f1)
    subst q2
    simp only [Rep] at r2
    subst r2
    obtain ⟨a', fo, rfl, x1, _⟩ := ExA.of (r1.fut (O.wok.fut f1) f2)
    exact ⟨a', _, cv, bb, _, fo, rfl, k1, x1, hcv, k2, ke _ H2 _ (f1.trans f2) mkB q1⟩
/-! a method without arguments -/
structure MXnt (P : Program) (w : World) (K : PySem.W.Frag) (mg : Str → Option Value) (base : Heap) (CT : Nat → Addr) (lay : Nat → List Str) (k : Nat) (m : Str) (n : Nat) (q : Nat × DFn) : Prop where
  ex : ∃ f fd ps, XfC K (CT q.1) ∧ Meth K (CT q.1) m f ∧ FnOk P w K mg base (L2.CX P w) k f fd ps (spP CT lay q.2) ∧ Binds K fd ps [] ∧ m ∉ lay q.1 ∧ ps.length = n + 1
def rMethX (tbl : List (Nat × DFn)) (a : XP) : XP := fun G Q E => a G (fun d => match d with
  | .exn c ds => match tbl.lookup c with
    | some F => F [.exn c ds] Q E
    | none => False
  | _ => False) E
theorem xe_methX0 {pl : Sem Bool} {tbl : List (Nat × DFn)} {n : Nat} (M : ∀ q ∈ tbl, MXnt X.prog X.w X.K X.mg X.base B.W.CT B.W.lay k m n q) (hr : Room k X.A) (tk : Takes X Wx) (ho : XE B X Wx o pa)
    (ht : eval (.Call (.Attribute o m apos) [] [] pos) X.env = (do
      let ov ← eval o X.env
      standAt apos.atName
      let (f, first) ← holding [ov] (getMethod ov m pl)
      callWith pos f first (backTo pos (starEach [] X.env)) (backToKw pos (keywordEach [] X.env))) := by rfl) :
    XE B X Wx (.Call (.Attribute o m apos) [] [] pos) (rMethX tbl pa) := by
  obtain ⟨ta, hta, ea⟩ := ho.ex
  refine ⟨fun σ H Q => ta σ H fun x H1 => ∃ a fo q, q ∈ tbl ∧ x = .ref a ∧ ExA H1 a (B.W.CT q.1) fo ∧ (∀ fs, fo = some fs → fs.lookup m = none) ∧ spP B.W.CT B.W.lay q.2 [x] H1 Q (WE Wx σ), ⟨fun pins s σ H Q I h => ?_⟩, fun S σ H G Q E kk O q ke kx => ea S σ H G _ E _ O q (fun v H1 d f1 r1 q1 => ?_) kx⟩
  · refine PySem.W.methodCall_KW (pl := pl) (thn (hta.run pins s σ H _ I h) fun u s1 ⟨x, H1, I1, rx, a, fo, q, hq, ex, ea, hno, q9⟩ => ?_) ht
    subst ex
    obtain rfl : u = Value.ref a := rx
    obtain ⟨f, fd, ps, c1, m1, F1, b1, _⟩ := (M q hq).ex
    obtain ⟨ox, od, J, hl⟩ := ea.inst I1
    obtain ⟨mm, fr⟩ := I1.fr
    refine PySem.W.method_exc fr I1.ok.mod.kin J c1.ga c1.gg m1.at_ m1.fn ?_ ?_
    · cases fo with
      | none =>
        cases od with
        | none => rfl
        | some _ => exact hl.elim
      | some fs =>
        cases od with
        | none => exact hl.elim
        | some od =>
          obtain ⟨r, hr, rel⟩ := hl m
          rw [hno fs rfl] at rel
          have : r = none := RelO.none_of rel
          show (PySem.W.lookIn m od).map (·.isSome) = some false
          rw [hr, this]
          rfl
    · exact PySem.W.callWith_K0 (first := [.ref a]) I1.kIn m1.kp (run_pass (us := [.ref a]) (vs := [.ref a]) (E := WE Wx) F1 hr b1 (passAt tk σ) I1 (.cons rfl .nil) q9)
  · cases d <;> first | exact False.elim q1 | skip
    rename_i cc ds
    dsimp only at q1
    cases hl : tbl.lookup cc with
    | none => rw [hl] at q1; exact q1.elim
    | some F =>
      rw [hl] at q1
      dsimp only at q1
      have hm := lookup_mem hl
      obtain ⟨f, fd, ps, c1, m1, F1, b1, nf, _⟩ := (M _ hm).ex
      obtain ⟨a, fo, rfl, x1, no⟩ := ExA.of r1
      exact ⟨a, fo, (cc, F), hm, rfl, x1, no m nf, B.W.L, S, [.exn cc ds], Q, E, O.wok.fut f1, Reps.cons r1 Reps.nil, q1, ke.fut f1, kx.fut f1⟩
/-! ## {x: i} -/
theorem xe_dict1 {x : Str} {i : Int} {j1 j2} {q1 q2 : Pos} : XE B X Wx (.Dict [some (.Constant (.str x) j1 q1)] [.Constant (.int i) j2 q2] pos) (rC (.dic [.inr x] [.int i])) := by
  refine ⟨_, pe_disp (pps_cons pe_str pe_int pps_nil) rfl rfl (by simp) (by show 1 ≤ 15; decide), fun S σ H G Q E k O q ke kx => ?_⟩
  intro a na
  refine ⟨upd_same, [(.inr x, .int i)], rfl, by show 1 ≤ 15; decide, ?_⟩
  have g : Fut (B.W.at S) H (upd (upd H a (.dK [])) a (.dK (mergeK [] [(.inr x, .int i)]))) := Fut.same O.wok fun b o e => by
    have n := ne_of_none e na
    rw [upd_ne n, upd_ne n]; exact e
  refine ke _ _ (.dic [.inr x] [.int i]) g ?_ q
  simp only [Rep]
  exact ⟨a, [.int i], rfl, O.wok.new na, upd_same, rfl, Reps.cons mkI Reps.nil⟩
/-! ## a dict of one text compared with another one of this text -/
def rEqDic (neg : Bool) : R2 := fun x y H Q => ∃ (a b : Addr) (k : Key) (u w : V) (W : Wd) (d e : D), x = .ref a ∧ y = .ref b ∧ H a = some (.dK [(k, u)]) ∧ H b = some (.dK [(k, w)]) ∧ pl 40 d = true ∧ pl 40 e = true ∧ Rep W H d u ∧ Rep W H e w ∧ Q (.bl (if neg then !deq d e else deq d e)) H
theorem dic1 {pins : List (Addr × Obj)} {σ : L2.St} {H : Hp} {s : Shared} {a : Addr} {k : Key} {u : V} (I : Inv X pins σ H s) (e : H a = some (.dK [(k, u)])) : (a == sysModules) = false ∧ ∃ u', RelV u u' ∧ s.heap.DictOf (mixKind X.prog X.w) a [(k, u')] := by
  obtain ⟨z, hd, vs, r, dd⟩ := dk_of I.hok e
  unfold KV at r
  cases r with
  | cons h t =>
    cases t
    rename_i q
    obtain ⟨k', u'⟩ := q
    obtain ⟨rfl, h2⟩ := h
    exact ⟨hd, u', h2, dd⟩
theorem op_eqDic (hu : X.A.units + 64 < cLine) : OpR X (compareOp .Eq) (rEqDic false) := by
  intro pins s σ H x y v u Q I rx ry h
  obtain ⟨a, b, k, u1, w1, W, d, e, rfl, rfl, e1, e2, p1, p2, r1, r2, q⟩ := h
  cases rx
  cases ry
  obtain ⟨n1, u', ru, D1⟩ := dic1 I e1
  obtain ⟨n2, w', rw', D2⟩ := dic1 I e2
  refine PySem.W.keq_eq (r := deq d e && true) n1 n2 D1 D2 (by omega) (fun _ => .hit (y := w') (by simp [valueAt]) (eqAtD I 40 d e X.A.in1 _ _ _ _ p1 p2 r1 r2 ru rw' (by show X.A.units + 1 + 40 < cLine; omega)) .nil) ?_
  refine ⟨.bl _, H, I, ?_, q⟩
  show Value.bool _ = Value.bool _
  simp
theorem op_neDic (hu : X.A.units + 64 < cLine) : OpR X (compareOp .NotEq) (rEqDic true) := by
  intro pins s σ H x y v u Q I rx ry h
  obtain ⟨a, b, k, u1, w1, W, d, e, rfl, rfl, e1, e2, p1, p2, r1, r2, q⟩ := h
  cases rx
  cases ry
  obtain ⟨n1, u', ru, D1⟩ := dic1 I e1
  obtain ⟨n2, w', rw', D2⟩ := dic1 I e2
  refine PySem.W.keq_ne (r := deq d e && true) n1 n2 D1 D2 (by omega) (fun _ => .hit (y := w') (by simp [valueAt]) (eqAtD I 40 d e X.A.in1 _ _ _ _ p1 p2 r1 r2 ru rw' (by show X.A.units + 1 + 40 < cLine; omega)) .nil) ?_
  refine ⟨.bl _, H, I, ?_, q⟩
  show Value.bool _ = Value.bool _
  simp
def oDic (neg : Bool) : DOp := fun x y Q _ => match x, y with
  | .dic [k] [d], .dic [k'] [e] => k = k' ∧ pl 40 d = true ∧ pl 40 e = true ∧ Q (.bl (if neg then !deq d e else deq d e))
  | _, _ => False
theorem oDic_elim {neg : Bool} {x y : D} {Q : D → Prop} {E : Exn → Prop} (h : oDic neg x y Q E) : ∃ k d e, x = .dic [k] [d] ∧ y = .dic [k] [e] ∧ pl 40 d = true ∧ pl 40 e = true ∧ Q (.bl (if neg then !deq d e else deq d e)) := by
  unfold oDic at h
  split at h
  · obtain ⟨rfl, h⟩ := h
    exact ⟨_, _, _, rfl, rfl, h⟩
  · exact h.elim
theorem repD1 {W : Wd} {H : Hp} {k : Key} {d : D} {v : V} (h : Rep W H (.dic [k] [d]) v) : ∃ a u, v = .ref a ∧ H a = some (.dK [(k, u)]) ∧ Rep W H d u := by
  simp only [Rep] at h
  obtain ⟨a, vs, rfl, n, e, l, r⟩ := h
  obtain ⟨u, rfl, r1⟩ := reps1 r
  exact ⟨a, u, rfl, e, r1⟩
theorem xo_dic {f : Value → Value → Sem Value} {neg : Bool} (h : OpR X f (rEqDic neg)) : XO B X Wx f (oDic neg) := .of h fun S H x y dx dy Q E k w r1 r2 q ke => by
  obtain ⟨kk, d, e, rfl, rfl, p1, p2, q⟩ := oDic_elim q
  obtain ⟨a, u, rfl, e1, q1⟩ := repD1 r1
  obtain ⟨b, w', rfl, e2, q2⟩ := repD1 r2
  exact ⟨a, b, kk, u, w', _, d, e, rfl, rfl, e1, e2, p1, p2, q1, q2, ke _ H _ (Fut.refl w) mkB q⟩
def oEqK : DOp := fun x y Q E => oEq x y Q E ∨ oDic false x y Q E
def oNeK : DOp := fun x y Q E => oNe x y Q E ∨ oDic true x y Q E
theorem xo_eqK {k : Nat} (hr : Room k X.A) : XO B X Wx (compareOp .Eq) oEqK := (xo_eq hr).or (xo_dic (op_eqDic hr.units))
theorem xo_neK {k : Nat} (hr : Room k X.A) : XO B X Wx (compareOp .NotEq) oNeK := (xo_ne hr).or (xo_dic (op_neDic hr.units))
/-! ## a list times an int -/
def oRep : DOp := fun x y Q _ => match x, y with
  | .lst ds, .int i => 0 ≤ i ∧ i < 1000 ∧ ds.length ≤ 100 ∧ Q (.lst (List.replicate i.toNat ds).flatten)
  | _, _ => False
theorem reps_rep {W : Wd} {H : Hp} {ds : List D} {vs : List V} (r : Reps W H ds vs) : ∀ n : Nat, Reps W H (List.replicate n ds).flatten (List.replicate n vs).flatten
  | 0 => Reps.nil
  | n + 1 => by
    rw [List.replicate_succ, List.replicate_succ, List.flatten_cons, List.flatten_cons]
    exact r.app (reps_rep r n)
theorem xo_rep : XO B X Wx (binaryOp .Mult) oRep := .of op_rep fun S H x y dx dy Q E k w r1 r2 q ke => by
  cases dx <;> cases dy <;> first | exact False.elim q | skip
  rename_i ds i
  obtain ⟨h1, h2, h3, q⟩ := q
  obtain ⟨a, vs, rfl, n, e, z⟩ := repL r1
  have hl : vs.length ≤ 100 := by rw [z.len]; exact h3
  refine ⟨a, i, vs, rfl, repI r2, e, by omega, by omega, ?_, fun p hp => ?_⟩
  · have h4 : i.toNat ≤ 1000 := by omega
    have := Nat.mul_le_mul hl h4
    rw [sizeLine_eq]
    omega
  · exact ke _ _ _ (fut_new w hp) (mkL (w.new hp) upd_same ((reps_rep z i.toNat).fut w (fut_new w hp))) q
end
end Pu
namespace Pu
open PySem PySem.Spec PyProof.Rows L2
/-! ## steps for exceptions held as values -/
section
variable {G : List Sl} {P : Po} {Q : D → Prop} {QL : List D → Prop} {E : Exn → Prop} {a b e : XP} {l : XAp} {i n c k : Nat} {d x y : D} {ds es : List D} {m : List (Nat × Nat)}
theorem rd_mkV1 (h : a G (fun x => Q (.exn c [x])) E) : rMkV c 1 (rCons a rNil) G Q E := by
  show a G _ E
  have e : (fun x => ([x] : List D).length = 1 ∧ 1 ≤ 1000 ∧ Q (.exn c [x])) = fun x => Q (.exn c [x]) := by
    funext x
    simp
  exact e ▸ h
theorem rd_mkV2 (h : a G (fun x => b G (fun y => Q (.exn c [x, y])) E) E) : rMkV c 2 (rCons a (rCons b rNil)) G Q E := by
  show a G (fun x => b G (fun y => ([x, y] : List D).length = 2 ∧ 2 ≤ 1000 ∧ Q (.exn c [x, y])) E) E
  have e : (fun x => b G (fun y => ([x, y] : List D).length = 2 ∧ 2 ≤ 1000 ∧ Q (.exn c [x, y])) E) = fun x => b G (fun y => Q (.exn c [x, y])) E := by
    funext x
    have e2 : (fun y => ([x, y] : List D).length = 2 ∧ 2 ≤ 1000 ∧ Q (.exn c [x, y])) = fun y => Q (.exn c [x, y]) := by
      funext y
      simp
    rw [e2]
  exact e ▸ h
theorem rd_ivV {tb : List (Nat × Bool)} {bb : Bool} (hg : G[i]? = some (.d (.exn c ds))) (hm : tb.lookup c = some bb) (h : Q (.bl bb)) : rIV tb (rVar i) G Q E := by
  show rVar i G _ E
  refine rd_var hg ?_
  dsimp only
  rw [hm]
  exact h
theorem rd_mxV {tbl : List (Nat × DFn)} {F : DFn} (hg : G[i]? = some (.d (.exn c ds))) (hm : tbl.lookup c = some F) (h : F [.exn c ds] Q E) : rMethX tbl (rVar i) G Q E := by
  show rVar i G _ E
  refine rd_var hg ?_
  dsimp only
  rw [hm]
  exact h
theorem rd_fxL {j : Int} (hg : G[i]? = some (.d (.lst es))) (hx : atI es j = some (.exn c ds)) (hm : m.lookup c = some k) (hd : ds[k]? = some d) (h : Q d) : rFX m (rBin oIx (rVar i) (rC (.int j))) G Q E := by
  show rVar i G _ E
  refine rd_var hg ?_
  show (match atI es j with | some d => _ | none => False)
  rw [hx]
  dsimp only
  rw [hm]
  dsimp only
  rw [hd]
  exact h
theorem rd_addL (hl : decide (ds.length + es.length ≤ 100000) = true) (h : Q (.lst (ds ++ es))) : oAdd (.lst ds) (.lst es) Q E := ⟨of_decide_eq_true hl, h⟩
theorem rd_addS {x y : Str} (hl : decide (x.length + y.length ≤ 100000) = true) (h : Q (.str (x ++ y))) : oAdd (.str x) (.str y) Q E := ⟨of_decide_eq_true hl, h⟩
theorem rd_k {R : Prop} (hl : decide (ds.length ≤ 1000) = true) (h : R) : ds.length ≤ 1000 ∧ R := ⟨of_decide_eq_true hl, h⟩
theorem rd_eqP (hp : pl 60 x = true) (hq : pl 60 y = true) (h : Q (.bl (deq x y))) : oEq x y Q E := ⟨hp, hq, h⟩
theorem rd_isS {x : Str} {cs : List Nat} (h : Q (.bl true)) : oIsi cs [.b "str"] (.str x) Q E := ⟨True.intro, h⟩
/-- data that is its own equal -/
def valOk (d : D) : Prop := pl 60 d = true ∨ ∃ k e, d = .dic [k] [e] ∧ pl 40 e = true
theorem rd_neK (hv : valOk x) (h : Q (.bl false)) : oNeK x x Q E := by
  rcases hv with hv | ⟨k, e, rfl, hv⟩
  · exact .inl ⟨hv, hv, by rw [deq_refl 60 x hv]; exact h⟩
  · refine .inr ⟨rfl, hv, hv, ?_⟩
    rw [deq_refl 40 e hv]
    exact h
theorem rd_eqK (hv : valOk x) (h : Q (.bl true)) : oEqK x x Q E := by
  rcases hv with hv | ⟨k, e, rfl, hv⟩
  · exact .inl ⟨hv, hv, by rw [deq_refl 60 x hv]; exact h⟩
  · refine .inr ⟨rfl, hv, hv, ?_⟩
    rw [deq_refl 40 e hv]
    exact h
theorem pl_bls (n : Nat) : ∀ (bs : List Bool), pl (n + 1) (.lst (bs.map D.bl)) = true := fun bs => pl_lst fun x hx => by
  obtain ⟨b, _, rfl⟩ := List.mem_map.mp hx
  cases n <;> rfl
theorem ne_bls {bs : List Bool} (h : Q (.bl false)) : oNe (.lst (bs.map D.bl)) (.lst (bs.map D.bl)) Q E := by
  have p := pl_bls 59 bs
  exact ⟨p, p, by rw [deq_refl 60 _ p]; exact h⟩
end
end Pu
namespace Pu
open PySem PySem.Spec PyProof.Rows L2
/-! ## a law that makes its bags itself -/
mutual
/-- the law's state is not within -/
def noW : D → Bool
  | .law => false
  | .lst ds => noWs ds
  | .tup ds => noWs ds
  | .ftp ds => noWs ds
  | .ins _ ds => noWs ds
  | .dic _ ds => noWs ds
  | .exn _ ds => noWs ds
  | _ => true
def noWs : List D → Bool
  | [] => true
  | d :: ds => noW d && noWs ds
end
mutual
theorem Rep.reL {W W' : Wd} {H H' : Hp} (h0 : W'.CT = W.CT) (h1 : W'.lay = W.lay) (k : ∀ a o, ¬ W.S a → H a = some o → H' a = some o ∧ ¬ W'.S a) : ∀ (d : D) (v : V), noW d = true → Rep W H d v → Rep W' H' d v
  | .non, v, _, h => by simpa only [Rep] using h
  | .bl b, v, _, h => by simpa only [Rep] using h
  | .int i, v, _, h => by simpa only [Rep] using h
  | .str x, v, _, h => by simpa only [Rep] using h
  | .val u, v, n, h => by simpa only [Rep] using h
  | .law, v, n, h => by simp [noW] at n
  | .lst ds, v, n, h => by
    simp only [Rep] at h ⊢
    obtain ⟨a, vs, e, n1, q1, r⟩ := h
    exact ⟨a, vs, e, (k a _ n1 q1).2, (k a _ n1 q1).1, Reps.reL h0 h1 k ds vs (by simpa [noW] using n) r⟩
  | .tup ds, v, n, h => by
    simp only [Rep] at h ⊢
    obtain ⟨a, vs, e, n1, q1, r⟩ := h
    have k1 : Rd H' a (.tup vs) := q1.imp (fun q1 => (k a _ n1 q1).1) (fun ⟨o, q1⟩ => ⟨o, (k a _ n1 q1).1⟩)
    refine ⟨a, vs, e, ?_, k1, Reps.reL h0 h1 k ds vs (by simpa [noW] using n) r⟩
    rcases q1 with q1 | ⟨o, q1⟩
    · exact (k a _ n1 q1).2
    · exact (k a _ n1 q1).2
  | .ftp ds, v, n, h => by
    simp only [Rep] at h ⊢
    obtain ⟨a, vs, o, e, n1, dn, q1, r⟩ := h
    exact ⟨a, vs, o, e, (k a _ n1 q1).2, dn, (k a _ n1 q1).1, Reps.reL h0 h1 k ds vs (by simpa [noW] using n) r⟩
  | .ins c ds, v, n, h => by
    simp only [Rep] at h ⊢
    obtain ⟨a, dx, vs, e, n1, q1, l, r⟩ := h
    rw [h0, h1]
    exact ⟨a, dx, vs, e, (k a _ n1 q1).2, (k a _ n1 q1).1, l, Reps.reL h0 h1 k ds vs (by simpa [noW] using n) r⟩
  | .dic ks ds, v, n, h => by
    simp only [Rep] at h ⊢
    obtain ⟨a, vs, e, n1, q1, l, r⟩ := h
    exact ⟨a, vs, e, (k a _ n1 q1).2, (k a _ n1 q1).1, l, Reps.reL h0 h1 k ds vs (by simpa [noW] using n) r⟩
  | .exn c ds, v, n, h => by
    simp only [Rep] at h ⊢
    obtain ⟨a, dd, vs, e, n1, q1, l, x, r⟩ := h
    rw [h0, h1]
    refine ⟨a, dd, vs, e, (k a _ n1 q1).2, (k a _ n1 q1).1, l, x.imp id ?_, Reps.reL h0 h1 k ds vs (by simpa [noW] using n) r⟩
    rintro ⟨dx, fs, e1, n2, q2, y⟩
    exact ⟨dx, fs, e1, (k dx _ n2 q2).2, (k dx _ n2 q2).1, y⟩
theorem Reps.reL {W W' : Wd} {H H' : Hp} (h0 : W'.CT = W.CT) (h1 : W'.lay = W.lay) (k : ∀ a o, ¬ W.S a → H a = some o → H' a = some o ∧ ¬ W'.S a) : ∀ (ds : List D) (vs : List V), noWs ds = true → Reps W H ds vs → Reps W' H' ds vs
  | [], vs, _, h => by simpa only [Reps] using h
  | d :: ds, vs, n, h => by
    simp only [Reps] at h ⊢
    obtain ⟨v, r, e, h2, h3⟩ := h
    simp only [noWs, Bool.and_eq_true] at n
    exact ⟨v, r, e, Rep.reL h0 h1 k d v n.1 h2, Reps.reL h0 h1 k ds r n.2 h3⟩
end
def spBag (K : PySem.W.Frag) : Sp := fun vs H Q _ => ∃ (a : Addr) (ns : List Int) (k : Nat), vs = [.ref a, .int (k : Int)] ∧ SqL K H a (ns.map V.int) ∧ ns.length ≤ 63 ∧ k ≤ 63 ∧ ∀ H' b, Same H H' → H b = none → LSt H' b b → Q (.ref b) H'
/-- the law's first three statements make two data -/
theorem law_ok98 {P : Program} {w : World} {K : PySem.W.Frag} {mg : Str → Option Value} {base : Heap} {CT : Nat → Addr} {lay : Nat → List Str} {st : Stmt} {f fB fV : Addr} {fd fdB fdV : FuncData} {N : List Str} {k kB kV : Nat} {pb : XSp} {rest : List Stmt} {okD : D → Prop}
    {p1 p2 p3 p4 p5 p6 p7 p8 p9 p10 p11 p12 p13 p14 p15 p16 p17 p18 p19 : Pos} {j1 j2}
    (Fn : FunG K "law" "law" st f fd) (Sc : FnScope N ["_law_script"] (defScope st))
    (hb : defBody st = .Assign [.Name "_law_bag_here" p1] (.Call (.Name "_law_bag" p2) [.Name "_law_script" p3, .Constant (.int 0) j1 p4] [] p5) p6
      :: .Assign [.Name "_law_one" p7] (.Call (.Name "_law_value" p8) [.Name "_law_bag_here" p9] [] p10) p11
      :: .Assign [.Name "_law_other" p12] (.Call (.Name "_law_value" p13) [.Call (.Name "_law_bag" p14) [.Name "_law_script" p15, .Constant (.int 1) j2 p16] [] p17] [] p18) p19 :: rest)
    (FB : FnOk P w K mg base (L2.CX P w) kB fB fdB ["_law_script", "_law_k"] (spBag K)) (hkB : kB ≤ k) (mB : mg "_law_bag" = some (.ref fB)) (kpB : PySem.W.keepIn K (.ref fB) = true) (bB : Binds K fdB ["_law_script", "_law_k"] [])
    (FV : FnOk P w K mg base (L2.CX P w) kV fV fdV ["_law_bag_here"] (spP CT lay fun ds Q _ => ds = [.law] ∧ ∀ d, okD d → Q d)) (hkV : kV ≤ k) (mV : mg "_law_value" = some (.ref fV)) (kpV : PySem.W.keepIn K (.ref fV) = true) (bV : Binds K fdV ["_law_bag_here"] [])
    (hD : ∀ d, okD d → noW d = true)
    (h0 : N[0]? = some ("_law_script" : Str)) (h1 : N[1]? = some ("_law_bag_here" : Str)) (h2 : N[2]? = some ("_law_one" : Str)) (h3 : N[3]? = some ("_law_other" : Str))
    (ev : ∀ n f cdv, (let env := envOfC "law" (defScope st) n f cdv
      (Vis env.scope "_law_script" ∧ Vis env.scope "_law_bag_here" ∧ Loc env.scope "_law_bag_here" ∧ Loc env.scope "_law_one" ∧ Loc env.scope "_law_other" ∧ env.kindOf "_law_bag" = some .globalImplicit ∧ env.kindOf "_law_value" = some .globalImplicit) ∧
      (starEach [.Name "_law_script" p3, .Constant (.int 0) j1 p4] env = (false, eval (.Name "_law_script" p3) env) :: starEach [.Constant (.int 0) j1 p4] env ∧ starEach [.Constant (.int 0) j1 p4] env = (false, eval (.Constant (.int 0) j1 p4) env) :: starEach [] env ∧ (backTo p5 (starEach [.Constant (.int 0) j1 p4] env)).any (·.1) = false ∧
        swapsWith (.Call (.Name "_law_bag" p2) [.Name "_law_script" p3, .Constant (.int 0) j1 p4] [] p5) (some (.Name "_law_bag_here" p1)) p6.line env = pure false) ∧
      (starEach [.Name "_law_bag_here" p9] env = (false, eval (.Name "_law_bag_here" p9) env) :: starEach [] env ∧ swapsWith (.Call (.Name "_law_value" p8) [.Name "_law_bag_here" p9] [] p10) (some (.Name "_law_one" p7)) p11.line env = pure false) ∧
      (starEach [.Name "_law_script" p15, .Constant (.int 1) j2 p16] env = (false, eval (.Name "_law_script" p15) env) :: starEach [.Constant (.int 1) j2 p16] env ∧ starEach [.Constant (.int 1) j2 p16] env = (false, eval (.Constant (.int 1) j2 p16) env) :: starEach [] env ∧ (backTo p17 (starEach [.Constant (.int 1) j2 p16] env)).any (·.1) = false ∧
        starEach [.Call (.Name "_law_bag" p14) [.Name "_law_script" p15, .Constant (.int 1) j2 p16] [] p17] env = (false, eval (.Call (.Name "_law_bag" p14) [.Name "_law_script" p15, .Constant (.int 1) j2 p16] [] p17) env) :: starEach [] env ∧
        swapsWith (.Call (.Name "_law_value" p13) [.Call (.Name "_law_bag" p14) [.Name "_law_script" p15, .Constant (.int 1) j2 p16] [] p17] [] p18) (some (.Name "_law_other" p12)) p19.line env = pure false)))
    (body : ∀ (B : Bs) (cdv : Value) (A : Around) (outer : List Env) (s : Shared) (H : Hp) (E : XK), B.W.CT = CT → B.W.lay = lay → B.cur = none → (∀ a, B.H0 a = none) → Room k (A.deeper (envOfC "law" (defScope st) s.heap.objs.size f cdv)) →
      XSs B (cxOf (L2.CX P w) P w K mg base N "law" (defScope st) f cdv A outer s H E) (fun cls d _ H => E cls d H) rest pb)
    (pure_ : ∀ a b, okD a → okD b → pb (.no :: .no :: .d a :: .d b :: List.replicate (N.length - 4) .no) lawPo) : FnOk P w K mg base (L2.CX P w) (k + 1) f fd ["_law_script"] (spLaw K) := by
  refine Fn.ok Sc (fun vs H Q E h => ?_) (fun cdv A outer s H vs Q E hr h => ?_)
  · obtain ⟨a, ns, rfl, _⟩ := h
    rfl
  · obtain ⟨a, ns, rfl, hS, hl, q⟩ := h
    obtain ⟨⟨v0, v1, l1, l2, l3, g1, g2⟩, ⟨s1, s2, s3, s4⟩, ⟨t1, t2⟩, ⟨u1, u2, u3, u4, u5⟩⟩ := ev s.heap.objs.size f cdv
    rw [hb]
    let X := cxOf (L2.CX P w) P w K mg base N "law" (defScope st) f cdv A outer s H E
    let Bx : Bs := { W := ⟨CT, lay, none, fun _ => False⟩, H0 := fun _ => none }
    have hrest : PSs X rest (canS Bx (fun cls d _ H => E cls d H) pb) := (body Bx cdv A outer s H E rfl rfl rfl (fun _ => rfl) hr).can
    refine ⟨_, pss_cons (ps_set (X := X) (i := 1) Sc.nd h1 l1 (pe_call FB (hr.mono hkB) g1 mB kpB bB .nil passL (pa_cons (pe_var (X := X) (i := 0) h0 v0 rfl rfl) (pa_cons pe_int pa_nil s2) s1) (he := s1) (hpl := s3)) s4 (.inl rfl))
      (pss_cons (ps_set (X := X) (i := 2) Sc.nd h2 l2 (pe_call FV (hr.mono hkV) g2 mV kpV bV .nil passL (pa_cons (pe_var (X := X) (i := 1) h1 v1 rfl rfl) pa_nil t1) (he := t1)) t2 (.inl rfl))
      (pss_cons (ps_set (X := X) (i := 3) Sc.nd h3 l3 (pe_call FV (hr.mono hkV) g2 mV kpV bV .nil passL (pa_cons (pe_call FB (hr.mono hkB) g1 mB kpB bB .nil passL (pa_cons (pe_var (X := X) (i := 0) h0 v0 rfl rfl) (pa_cons pe_int pa_nil u2) u1) (he := u1) (hpl := u3)) pa_nil u4) (he := u4)) u5 (.inl rfl)) hrest)), ?_⟩
    have hN : 3 < N.length := (List.getElem?_eq_some_iff.mp h3).1
    obtain ⟨m, hm⟩ : ∃ m, N.length = m + 4 := ⟨N.length - 4, by omega⟩
    have hst : (L2.start N [V.ref a]) = some (.ref a) :: none :: none :: none :: List.replicate m none := by
      show some (V.ref a) :: List.replicate (N.length - 1) none = _
      rw [hm, show m + 4 - 1 = m + 3 by omega, List.replicate_succ, List.replicate_succ, List.replicate_succ]
    rw [hst]
    rw [hm, show m + 4 - 4 = m by omega] at pure_
    have wokB : ∀ {H : Hp} {b : Addr}, LSt H b b → WOk ⟨CT, lay, some (b, b), fun x => x = b⟩ H := fun {H b} L => by
      refine ⟨fun s l e => ?_, fun x hx => ?_⟩
      · cases e
        exact ⟨L, rfl, rfl⟩
      · obtain ⟨_, g, c, n, e⟩ := id L
        exact ⟨_, by rw [show x = b from hx]; exact e⟩
    have repB : ∀ {H : Hp} {b : Addr}, Reps ⟨CT, lay, some (b, b), fun x => x = b⟩ H [.law] [.ref b] := fun {H b} => by
      refine Reps.cons ?_ Reps.nil
      simp only [Rep]
      exact ⟨b, b, rfl, rfl⟩
    refine ⟨_, rfl, a, ns, 0, rfl, hS, hl, by decide, fun H1 b sm1 nb L1 => ?_⟩
    refine ⟨_, rfl, some (b, b), fun x => x = b, [.law], okD, fun _ => False, wokB L1, repB, ⟨rfl, fun d hd => hd⟩, fun v H2 d f2 r2 hd => ?_, fun _ _ _ _ _ _ z => z.elim⟩
    have sm2 : Same H H2 := fun c o e => f2.keep c o (sm1 c o e) fun s l z => by
      cases z
      have := ne_of_none e nb
      exact ⟨this, this⟩
    refine ⟨_, rfl, a, ns, 1, rfl, sm2.seq hS, hl, by decide, fun H3 b2 sm3 nb2 L3 => ?_⟩
    refine ⟨some (b2, b2), fun x => x = b2, [.law], okD, fun _ => False, wokB L3, repB, ⟨rfl, fun d hd => hd⟩, fun v' H4 d' f4 r4 hd' => ?_, fun _ _ _ _ _ _ z => z.elim⟩
    have ra : Rep ⟨CT, lay, some (b2, b2), fun x => x = b2⟩ H3 d v := Rep.reL (W := ⟨CT, lay, some (b, b), fun x => x = b⟩) (W' := ⟨CT, lay, some (b2, b2), fun x => x = b2⟩) rfl rfl (fun c o _ e => ⟨sm3 c o e, fun z => by
      have z' : c = b2 := z
      rw [z', nb2] at e
      cases e⟩) d v (hD d hd) r2
    have ra4 := ra.fut (wokB L3) f4
    have toN : ∀ {d : D} {v : V}, okD d → Rep ⟨CT, lay, some (b2, b2), fun x => x = b2⟩ H4 d v → Rep (Bx.W.at fun _ => False) H4 d v := fun {d v} hd r => Rep.reL (W := ⟨CT, lay, some (b2, b2), fun x => x = b2⟩) (W' := Bx.W.at fun _ => False) rfl rfl (fun c o _ e => ⟨e, fun z => z⟩) d v (hD d hd) r
    have rep0 : ∀ {j : Nat} {g : Sl}, (List.replicate m Sl.no)[j]? = some g → g = .no := fun {j g} h' => by
      rw [List.getElem?_replicate] at h'
      split at h'
      · cases h'; rfl
      · cases h'
    refine ⟨fun _ => False, .no :: .no :: .d d :: .d d' :: List.replicate m .no, lawPo, ?_, pure_ d d' hd hd', ⟨fun _ _ _ _ _ z => z.elim, fun S2 σ2 H5 G2 v2 d2 O2 r5 q2 => ?_, fun _ _ _ _ _ z => z.elim, fun _ _ _ _ _ z => z.elim, fun _ _ _ _ _ _ _ _ _ z => z.elim⟩⟩
    · refine ⟨⟨fun s2 l2 z => (by cases z), fun _ hb => hb.elim⟩, fun _ _ z => (by cases z), fun _ z => z, fun _ z => .inl z, (by simp), fun s2 l2 z => (by cases z), fun j g o g1 g2 => ?_, fun j1 j2 g g' q g1 g2 n1 => ?_⟩
      · match j, g1, g2 with
        | 0, g1, g2 => cases g1; trivial
        | 1, g1, g2 => cases g1; trivial
        | 2, g1, g2 =>
          cases g1
          cases g2
          exact ⟨_, rfl, toN hd ra4⟩
        | 3, g1, g2 =>
          cases g1
          cases g2
          exact ⟨_, rfl, toN hd' r4⟩
        | j + 4, g1, g2 =>
          have : g = .no := rep0 g1
          subst this
          trivial
      · match j1, g1 with
        | 0, g1 => cases g1; cases n1
        | 1, g1 => cases g1; cases n1
        | 2, g1 => cases g1; cases n1
        | 3, g1 => cases g1; cases n1
        | j + 4, g1 =>
          have : g = .no := rep0 g1
          subst this
          cases n1
    · have q2' : d2 = .bl true := q2
      subst q2'
      rw [Pu.repB r5]
      exact q H5
section
variable {G : List Sl} {Q : D → Prop} {E : Exn → Prop} {i j k c : Nat} {ds es : List D}
theorem rd_ivL {tb : List (Nat × Bool)} {bb : Bool} (hg : G[i]? = some (.d (.lst es))) (hj : G[j]? = some (.d (.int (k : Int)))) (hx : es[k]? = some (.exn c ds)) (hm : tb.lookup c = some bb) (h : Q (.bl bb)) : rIV tb (rBin oIx (rVar i) (rVar j)) G Q E := by
  show rVar i G _ E
  refine rd_var hg (rd_var hj ?_)
  refine ix_lst hx ?_
  dsimp only
  rw [hm]
  exact h
theorem rd_mxL {tbl : List (Nat × DFn)} {F : DFn} (hg : G[i]? = some (.d (.lst es))) (hj : G[j]? = some (.d (.int (k : Int)))) (hx : es[k]? = some (.exn c ds)) (hm : tbl.lookup c = some F) (h : F [.exn c ds] Q E) : rMethX tbl (rBin oIx (rVar i) (rVar j)) G Q E := by
  show rVar i G _ E
  refine rd_var hg (rd_var hj ?_)
  refine ix_lst hx ?_
  dsimp only
  rw [hm]
  exact h
end
end Pu
namespace Pu
open PySem PySem.Spec PyProof.Rows L2
abbrev cSpace : Nat := 0
abbrev cRegion : Nat := 1
abbrev cTable : Nat := 2
abbrev cLinear : Nat := 3
abbrev cRatio : Nat := 4
abbrev cPartError : Nat := 20
abbrev cNoRatio : Nat := 21
abbrev cNoSpace : Nat := 22
abbrev cNoCell : Nat := 23
abbrev cNoAxis : Nat := 24
abbrev cNoMember : Nat := 25
abbrev cTwice : Nat := 26
abbrev cOtherSpace : Nat := 27
abbrev cNoTable : Nat := 28
abbrev cNoRows : Nat := 29
abbrev cNoLinear : Nat := 30
abbrev cNoQuotient : Nat := 31
abbrev cNoName : Nat := 32
abbrev cNoPart : Nat := 33
abbrev cFull : Nat := 34
abbrev cNoSuch : Nat := 35
abbrev cNoValues : Nat := 36
abbrev cNoOffer : Nat := 37
abbrev cNoAsked : Nat := 38
abbrev cNoTaking : Nat := 39
abbrev cNoMeasure : Nat := 40
abbrev cNotExtreme : Nat := 41
abbrev cNotConsistent : Nat := 42
abbrev cNoKind : Nat := 43
abbrev cNoRoll : Nat := 44
abbrev cBadText : Nat := 45
abbrev cBadLine : Nat := 46
abbrev cNoCommand : Nat := 47
abbrev cNoUndo : Nat := 48
abbrev cNoRedo : Nat := 49
abbrev csL : List Nat := []
end Pu
namespace Pu
open PySem PySem.Spec PyProof.Rows L2
/-! ## what the functions promise -/
abbrev tellS (x : Str) : DFn := fun ds Q _ => ∃ d, ds = [d] ∧ Q (.str x)
def S_NoOffer_told : DFn := tellS "refused nooffer"
def S_NoAsked_told : DFn := tellS "refused noasked"
def S_NoTaking_told : DFn := tellS "refused notaking"
def S_NoMeasure_told : DFn := tellS "refused nomeasure"
def S_NotExtreme_told : DFn := tellS "refused notextreme"
def S_NotConsistent_told : DFn := tellS "refused notconsistent"
def S_NoKind_told : DFn := tellS "refused nokind"
def S_NoRoll_told : DFn := tellS "refused noroll"
def S_BadText_told : DFn := tellS "refused badtext"
def S_BadLine_told : DFn := tellS "refused badline"
def S_NoCommand_told : DFn := tellS "refused nocommand"
def S_NoUndo_told : DFn := tellS "refused noundo"
def S_NoRedo_told : DFn := tellS "refused noredo"
abbrev kinds : List (Nat × Str × Nat) := [(cNoOffer, "nooffer", 0), (cNoAsked, "noasked", 1), (cNoTaking, "notaking", 2), (cNoMeasure, "nomeasure", 3), (cNotExtreme, "notextreme", 4), (cNotConsistent, "notconsistent", 5), (cNoKind, "nokind", 6), (cNoRoll, "noroll", 7), (cBadText, "badtext", 8), (cBadLine, "badline", 9), (cNoCommand, "nocommand", 10), (cNoUndo, "noundo", 11), (cNoRedo, "noredo", 12)]
def valL (i : Int) : List D := [.non, .int 0, .int i, .int (10 ^ (40 : Int).toNat), .str "a", .str "", .lst [.str "a"], .tup [.str "a", .int i], .dic [.inr "a"] [.int 1], .bl true]
def val98 (d : D) : Prop := ∃ i, d ∈ valL i
abbrev S__law_value : DFn := fun ds Q _ => ds = [.law] ∧ ∀ d, val98 d → Q d
abbrev kindL (k : Nat) : List D := ((List.range 16).map fun j : Nat => ((j : Int) == (k : Int))).map D.bl
def S__law_kinds : DFn := fun ds Q _ => ∃ p ∈ kinds, ∃ fs, ds = [.exn p.1 fs] ∧ Q (.lst (kindL p.2.2))
abbrev madeL (a b : D) : List D := [.exn cNoOffer [a, b], .exn cNoAsked [a, b], .exn cNoTaking [a], .exn cNoMeasure [], .exn cNotExtreme [a], .exn cNotConsistent [], .exn cNoKind [a], .exn cNoRoll [], .exn cBadText [a], .exn cBadLine [a, b], .exn cNoCommand [a], .exn cNoUndo [], .exn cNoRedo []]
def nameL : List D := [.str "nooffer", .str "noasked", .str "notaking", .str "nomeasure", .str "notextreme", .str "notconsistent", .str "nokind", .str "noroll", .str "badtext", .str "badline", .str "nocommand", .str "noundo", .str "noredo"]
def S__law_fields : DFn := fun ds Q _ => ∃ a b, valOk a ∧ valOk b ∧ ds = [.lst (madeL a b), a, b] ∧ Q (.bl true)
end Pu
namespace Pu
open PySem PySem.Spec PyProof.Rows L2
abbrev is_PartError : List (Nat × Bool) := [(cNoOffer, true), (cNoAsked, true), (cNoTaking, true), (cNoMeasure, true), (cNotExtreme, true), (cNotConsistent, true), (cNoKind, true), (cNoRoll, true), (cBadText, true), (cBadLine, true), (cNoCommand, true), (cNoUndo, true), (cNoRedo, true)]
abbrev is_ValueError : List (Nat × Bool) := [(cNoOffer, true), (cNoAsked, true), (cNoTaking, true), (cNoMeasure, true), (cNotExtreme, true), (cNotConsistent, true), (cNoKind, true), (cNoRoll, true), (cBadText, true), (cBadLine, true), (cNoCommand, true), (cNoUndo, true), (cNoRedo, true)]
abbrev tb_told : List (Nat × DFn) := [(cNoOffer, S_NoOffer_told), (cNoAsked, S_NoAsked_told), (cNoTaking, S_NoTaking_told), (cNoMeasure, S_NoMeasure_told), (cNotExtreme, S_NotExtreme_told), (cNotConsistent, S_NotConsistent_told), (cNoKind, S_NoKind_told), (cNoRoll, S_NoRoll_told), (cBadText, S_BadText_told), (cBadLine, S_BadLine_told), (cNoCommand, S_NoCommand_told), (cNoUndo, S_NoUndo_told), (cNoRedo, S_NoRedo_told)]
abbrev is_NoMeasure : List (Nat × Bool) := [(cNoOffer, false), (cNoAsked, false), (cNoTaking, false), (cNoMeasure, true), (cNotExtreme, false), (cNotConsistent, false), (cNoKind, false), (cNoRoll, false), (cBadText, false), (cBadLine, false), (cNoCommand, false), (cNoUndo, false), (cNoRedo, false)]
abbrev is_NoTaking : List (Nat × Bool) := [(cNoOffer, false), (cNoAsked, false), (cNoTaking, true), (cNoMeasure, false), (cNotExtreme, false), (cNotConsistent, false), (cNoKind, false), (cNoRoll, false), (cBadText, false), (cBadLine, false), (cNoCommand, false), (cNoUndo, false), (cNoRedo, false)]
abbrev is_NoAsked : List (Nat × Bool) := [(cNoOffer, false), (cNoAsked, true), (cNoTaking, false), (cNoMeasure, false), (cNotExtreme, false), (cNotConsistent, false), (cNoKind, false), (cNoRoll, false), (cBadText, false), (cBadLine, false), (cNoCommand, false), (cNoUndo, false), (cNoRedo, false)]
abbrev is_NoOffer : List (Nat × Bool) := [(cNoOffer, true), (cNoAsked, false), (cNoTaking, false), (cNoMeasure, false), (cNotExtreme, false), (cNotConsistent, false), (cNoKind, false), (cNoRoll, false), (cBadText, false), (cBadLine, false), (cNoCommand, false), (cNoUndo, false), (cNoRedo, false)]
abbrev is_NoKind : List (Nat × Bool) := [(cNoOffer, false), (cNoAsked, false), (cNoTaking, false), (cNoMeasure, false), (cNotExtreme, false), (cNotConsistent, false), (cNoKind, true), (cNoRoll, false), (cBadText, false), (cBadLine, false), (cNoCommand, false), (cNoUndo, false), (cNoRedo, false)]
abbrev is_NotConsistent : List (Nat × Bool) := [(cNoOffer, false), (cNoAsked, false), (cNoTaking, false), (cNoMeasure, false), (cNotExtreme, false), (cNotConsistent, true), (cNoKind, false), (cNoRoll, false), (cBadText, false), (cBadLine, false), (cNoCommand, false), (cNoUndo, false), (cNoRedo, false)]
abbrev is_NotExtreme : List (Nat × Bool) := [(cNoOffer, false), (cNoAsked, false), (cNoTaking, false), (cNoMeasure, false), (cNotExtreme, true), (cNotConsistent, false), (cNoKind, false), (cNoRoll, false), (cBadText, false), (cBadLine, false), (cNoCommand, false), (cNoUndo, false), (cNoRedo, false)]
abbrev is_BadLine : List (Nat × Bool) := [(cNoOffer, false), (cNoAsked, false), (cNoTaking, false), (cNoMeasure, false), (cNotExtreme, false), (cNotConsistent, false), (cNoKind, false), (cNoRoll, false), (cBadText, false), (cBadLine, true), (cNoCommand, false), (cNoUndo, false), (cNoRedo, false)]
abbrev is_BadText : List (Nat × Bool) := [(cNoOffer, false), (cNoAsked, false), (cNoTaking, false), (cNoMeasure, false), (cNotExtreme, false), (cNotConsistent, false), (cNoKind, false), (cNoRoll, false), (cBadText, true), (cBadLine, false), (cNoCommand, false), (cNoUndo, false), (cNoRedo, false)]
abbrev is_NoRoll : List (Nat × Bool) := [(cNoOffer, false), (cNoAsked, false), (cNoTaking, false), (cNoMeasure, false), (cNotExtreme, false), (cNotConsistent, false), (cNoKind, false), (cNoRoll, true), (cBadText, false), (cBadLine, false), (cNoCommand, false), (cNoUndo, false), (cNoRedo, false)]
abbrev is_NoRedo : List (Nat × Bool) := [(cNoOffer, false), (cNoAsked, false), (cNoTaking, false), (cNoMeasure, false), (cNotExtreme, false), (cNotConsistent, false), (cNoKind, false), (cNoRoll, false), (cBadText, false), (cBadLine, false), (cNoCommand, false), (cNoUndo, false), (cNoRedo, true)]
abbrev is_NoUndo : List (Nat × Bool) := [(cNoOffer, false), (cNoAsked, false), (cNoTaking, false), (cNoMeasure, false), (cNotExtreme, false), (cNotConsistent, false), (cNoKind, false), (cNoRoll, false), (cBadText, false), (cBadLine, false), (cNoCommand, false), (cNoUndo, true), (cNoRedo, false)]
abbrev is_NoCommand : List (Nat × Bool) := [(cNoOffer, false), (cNoAsked, false), (cNoTaking, false), (cNoMeasure, false), (cNotExtreme, false), (cNotConsistent, false), (cNoKind, false), (cNoRoll, false), (cBadText, false), (cBadLine, false), (cNoCommand, true), (cNoUndo, false), (cNoRedo, false)]
abbrev is_NoTable : List (Nat × Bool) := [(cNoOffer, false), (cNoAsked, false), (cNoTaking, false), (cNoMeasure, false), (cNotExtreme, false), (cNotConsistent, false), (cNoKind, false), (cNoRoll, false), (cBadText, false), (cBadLine, false), (cNoCommand, false), (cNoUndo, false), (cNoRedo, false)]
abbrev is_NoSuch : List (Nat × Bool) := [(cNoOffer, false), (cNoAsked, false), (cNoTaking, false), (cNoMeasure, false), (cNotExtreme, false), (cNotConsistent, false), (cNoKind, false), (cNoRoll, false), (cBadText, false), (cBadLine, false), (cNoCommand, false), (cNoUndo, false), (cNoRedo, false)]
abbrev is_Full : List (Nat × Bool) := [(cNoOffer, false), (cNoAsked, false), (cNoTaking, false), (cNoMeasure, false), (cNotExtreme, false), (cNotConsistent, false), (cNoKind, false), (cNoRoll, false), (cBadText, false), (cBadLine, false), (cNoCommand, false), (cNoUndo, false), (cNoRedo, false)]
/-! BadLine.told: 0 self -/
def rd_BadLine_told : XSp := rRet (rC (.str "refused badline"))
abbrev n_BadLine_told : List Str := ["self"]
/-! BadText.told: 0 self -/
def rd_BadText_told : XSp := rRet (rC (.str "refused badtext"))
abbrev n_BadText_told : List Str := ["self"]
/-! NoAsked.told: 0 self -/
def rd_NoAsked_told : XSp := rRet (rC (.str "refused noasked"))
abbrev n_NoAsked_told : List Str := ["self"]
/-! NoCommand.told: 0 self -/
def rd_NoCommand_told : XSp := rRet (rC (.str "refused nocommand"))
abbrev n_NoCommand_told : List Str := ["self"]
/-! NoKind.told: 0 self -/
def rd_NoKind_told : XSp := rRet (rC (.str "refused nokind"))
abbrev n_NoKind_told : List Str := ["self"]
/-! NoMeasure.told: 0 self -/
def rd_NoMeasure_told : XSp := rRet (rC (.str "refused nomeasure"))
abbrev n_NoMeasure_told : List Str := ["self"]
/-! NoOffer.told: 0 self -/
def rd_NoOffer_told : XSp := rRet (rC (.str "refused nooffer"))
abbrev n_NoOffer_told : List Str := ["self"]
/-! NoRedo.told: 0 self -/
def rd_NoRedo_told : XSp := rRet (rC (.str "refused noredo"))
abbrev n_NoRedo_told : List Str := ["self"]
/-! NoRoll.told: 0 self -/
def rd_NoRoll_told : XSp := rRet (rC (.str "refused noroll"))
abbrev n_NoRoll_told : List Str := ["self"]
/-! NoTaking.told: 0 self -/
def rd_NoTaking_told : XSp := rRet (rC (.str "refused notaking"))
abbrev n_NoTaking_told : List Str := ["self"]
/-! NoUndo.told: 0 self -/
def rd_NoUndo_told : XSp := rRet (rC (.str "refused noundo"))
abbrev n_NoUndo_told : List Str := ["self"]
/-! NotConsistent.told: 0 self -/
def rd_NotConsistent_told : XSp := rRet (rC (.str "refused notconsistent"))
abbrev n_NotConsistent_told : List Str := ["self"]
/-! NotExtreme.told: 0 self -/
def rd_NotExtreme_told : XSp := rRet (rC (.str "refused notextreme"))
abbrev n_NotExtreme_told : List Str := ["self"]
/-! _law_fields: 0 _law_made, 1 _law_one, 2 _law_other -/
def rd__law_fields : XSp := rSeq (rIf (rTOr (rTest (rBin oNeK (rFX [(cNoOffer, 0), (cNoAsked, 0), (cBadText, 0), (cBadLine, 1), (cNoCommand, 0)] (rBin oIx (rVar 0) (rC (.int 0)))) (rVar 1))) (rTOr (rTest (rBin oNeK (rFX [(cNoOffer, 1), (cNoAsked, 1)] (rBin oIx (rVar 0) (rC (.int 0)))) (rVar 2))) (rTOr (rTest (rBin oNeK (rFX [(cNoOffer, 0), (cNoAsked, 0), (cBadText, 0), (cBadLine, 1), (cNoCommand, 0)] (rBin oIx (rVar 0) (rC (.int 1)))) (rVar 1))) (rTest (rBin oNeK (rFX [(cNoOffer, 1), (cNoAsked, 1)] (rBin oIx (rVar 0) (rC (.int 1)))) (rVar 2)))))) (rRet (rC (.bl false))) (rNext)) (rSeq (rIf (rTOr (rTest (rBin oNeK (rFX [(cNoTaking, 0), (cNotExtreme, 0)] (rBin oIx (rVar 0) (rC (.int 2)))) (rVar 1))) (rTOr (rTest (rBin oNeK (rFX [(cNoTaking, 0), (cNotExtreme, 0)] (rBin oIx (rVar 0) (rC (.int 4)))) (rVar 1))) (rTest (rBin oNeK (rFX [(cNoKind, 0)] (rBin oIx (rVar 0) (rC (.int 6)))) (rVar 1))))) (rRet (rC (.bl false))) (rNext)) (rRet (rAnd (rBin oEqK (rFX [(cNoOffer, 0), (cNoAsked, 0), (cBadText, 0), (cBadLine, 1), (cNoCommand, 0)] (rBin oIx (rVar 0) (rC (.int 8)))) (rVar 1)) (rAnd (rBin oEqK (rFX [(cBadLine, 0)] (rBin oIx (rVar 0) (rC (.int 9)))) (rVar 1)) (rAnd (rBin oEqK (rFX [(cNoOffer, 0), (cNoAsked, 0), (cBadText, 0), (cBadLine, 1), (cNoCommand, 0)] (rBin oIx (rVar 0) (rC (.int 9)))) (rVar 2)) (rBin oEqK (rFX [(cNoOffer, 0), (cNoAsked, 0), (cBadText, 0), (cBadLine, 1), (cNoCommand, 0)] (rBin oIx (rVar 0) (rC (.int 10)))) (rVar 1)))))))
abbrev n__law_fields : List Str := ["_law_made", "_law_one", "_law_other"]
/-! _law_kinds: 0 _law_e, 1 _law_found -/
def rd__law_kinds : XSp := rSeq (rSet 1 (rLst (rCons (rIV is_NoOffer (rVar 0)) (rCons (rIV is_NoAsked (rVar 0)) (rCons (rIV is_NoTaking (rVar 0)) (rCons (rIV is_NoMeasure (rVar 0)) (rNil))))))) (rSeq (rSet 1 (rBin oAdd (rVar 1) (rLst (rCons (rIV is_NotExtreme (rVar 0)) (rCons (rIV is_NotConsistent (rVar 0)) (rCons (rIV is_NoKind (rVar 0)) (rNil))))))) (rSeq (rSet 1 (rBin oAdd (rVar 1) (rLst (rCons (rIV is_NoRoll (rVar 0)) (rCons (rIV is_BadText (rVar 0)) (rCons (rIV is_BadLine (rVar 0)) (rNil))))))) (rSeq (rSet 1 (rBin oAdd (rVar 1) (rLst (rCons (rIV is_NoCommand (rVar 0)) (rCons (rIV is_NoUndo (rVar 0)) (rCons (rIV is_NoRedo (rVar 0)) (rNil))))))) (rRet (rBin oAdd (rVar 1) (rLst (rCons (rIV is_Full (rVar 0)) (rCons (rIV is_NoSuch (rVar 0)) (rCons (rIV is_NoTable (rVar 0)) (rNil))))))))))
abbrev n__law_kinds : List Str := ["_law_e", "_law_found"]
/-! _law_value: 0 _law_bag_here, 1 _law_number -/
def rd__law_value : XSp := rSeq (rSet 1 (rBin oSub (rFn oDraw (rCons (rVar 0) (rCons (rBin oPow (rC (.int 10)) (rC (.int 7))) (rNil)))) (rBin oMul (rC (.int 5)) (rBin oPow (rC (.int 10)) (rC (.int 6)))))) (rRet (rBin oIx (rLst (rCons (rC .non) (rCons (rC (.int 0)) (rCons (rVar 1) (rCons (rBin oPow (rC (.int 10)) (rC (.int 40))) (rCons (rC (.str "a")) (rCons (rC (.str "")) (rCons (rLst (rCons (rC (.str "a")) (rNil))) (rCons (rTup (rCons (rC (.str "a")) (rCons (rVar 1) (rNil)))) (rCons (rC (.dic [.inr "a"] [.int 1])) (rCons (rC (.bl true)) (rNil)))))))))))) (rFn oDraw (rCons (rVar 0) (rCons (rC (.int 10)) (rNil))))))
abbrev n__law_value : List Str := ["_law_bag_here", "_law_number"]
/-! law: 0 _law_script, 1 _law_bag_here, 2 _law_one, 3 _law_other, 4 _law_made, 5 _law_names, 6 _law_k, 7 _law_told, 8 _law_j -/
def rd_law : XSp := rSeq (rSet 4 (rLst (rCons (rMkV cNoOffer 2 (rCons (rVar 2) (rCons (rVar 3) (rNil)))) (rCons (rMkV cNoAsked 2 (rCons (rVar 2) (rCons (rVar 3) (rNil)))) (rCons (rMkV cNoTaking 1 (rCons (rVar 2) (rNil))) (rCons (rC (.exn cNoMeasure [])) (rCons (rMkV cNotExtreme 1 (rCons (rVar 2) (rNil))) (rCons (rC (.exn cNotConsistent [])) (rNil))))))))) (rSeq (rSet 4 (rBin oAdd (rVar 4) (rLst (rCons (rMkV cNoKind 1 (rCons (rVar 2) (rNil))) (rCons (rC (.exn cNoRoll [])) (rCons (rMkV cBadText 1 (rCons (rVar 2) (rNil))) (rCons (rMkV cBadLine 2 (rCons (rVar 2) (rCons (rVar 3) (rNil)))) (rCons (rMkV cNoCommand 1 (rCons (rVar 2) (rNil))) (rCons (rC (.exn cNoUndo [])) (rCons (rC (.exn cNoRedo [])) (rNil))))))))))) (rSeq (rSet 5 (rLst (rCons (rC (.str "nooffer")) (rCons (rC (.str "noasked")) (rCons (rC (.str "notaking")) (rCons (rC (.str "nomeasure")) (rCons (rC (.str "notextreme")) (rCons (rC (.str "notconsistent")) (rCons (rC (.str "nokind")) (rCons (rC (.str "noroll")) (rNil))))))))))) (rSeq (rSet 5 (rBin oAdd (rVar 5) (rLst (rCons (rC (.str "badtext")) (rCons (rC (.str "badline")) (rCons (rC (.str "nocommand")) (rCons (rC (.str "noundo")) (rCons (rC (.str "noredo")) (rNil))))))))) (rSeq (rFor (rRange (rCons (rFn oLen (rCons (rVar 4) (rNil))) (rNil))) (gN 6) (rSeq (rIf (rTOr (rTNot (rTest (rIV is_PartError (rBin oIx (rVar 4) (rVar 6))))) (rTNot (rTest (rIV is_ValueError (rBin oIx (rVar 4) (rVar 6)))))) (rRet (rC (.bl false))) (rNext)) (rSeq (rSet 7 (rMethX tb_told (rBin oIx (rVar 4) (rVar 6)))) (rSeq (rIf (rTOr (rTNot (rTest (rUn (oIsi csL [.b "str"]) (rVar 7)))) (rTest (rBin oNe (rVar 7) (rBin oAdd (rC (.str "refused ")) (rBin oIx (rVar 5) (rVar 6)))))) (rRet (rC (.bl false))) (rNext)) (rIf (rTest (rBin oNe (rFn S__law_kinds (rCons (rBin oIx (rVar 4) (rVar 6)) (rNil))) (rNew (rLc [8] (rRange (rCons (rC (.int 16)) (rNil))) (gN 8) (rYes) (rBin oEq (rVar 8) (rVar 6)))))) (rRet (rC (.bl false))) (rNext)))))) (rRet (rFn S__law_fields (rCons (rVar 4) (rCons (rVar 2) (rCons (rVar 3) (rNil))))))))))
abbrev n_law : List Str := ["_law_script", "_law_bag_here", "_law_one", "_law_other", "_law_made", "_law_names", "_law_k", "_law_told", "_law_j"]
end Pu
namespace Pu
open PySem PySem.Spec PyProof.Rows L2
local macro_rules | `(tactic| sizeOf_list_dec) => `(tactic| (repeat (first | (with_reducible apply rd_cons) | ((with_reducible apply rd_var); case hg => rfl) | (with_reducible apply rd_nil) | (with_reducible apply rd_c) | (with_reducible apply rd_fn) | (with_reducible apply rd_bin) | (with_reducible apply rd_seq) | (with_reducible apply rd_next) | (with_reducible apply rd_test) | (with_reducible apply rd_onB) | (with_reducible apply rd_if) | (with_reducible apply rd_or) | (with_reducible apply rd_not) | (with_reducible apply rd_ret) | (with_reducible apply rd_set) | (with_reducible apply rd_gN) | (with_reducible apply rd_gsC) | (with_reducible apply rd_gsN) | (with_reducible apply rd_un) | (with_reducible apply rd_tup) | (with_reducible apply rd_le) | (with_reducible apply rd_eqI) | (with_reducible apply rd_neI) | (with_reducible apply rd_retN) | (with_reducible apply rd_brk) | (with_reducible apply rd_cont) | (with_reducible apply rd_setN) | (with_reducible apply rd_ownSet) | (with_reducible apply rd_asg) | (with_reducible apply rd_drop) | (with_reducible apply rd_for) | (with_reducible apply rd_raise) | (with_reducible apply rd_exn) | (with_reducible apply rd_and) | (with_reducible apply rd_yes) | (with_reducible apply rd_eand) | (with_reducible apply rd_eor) | (with_reducible apply rd_enot) | (with_reducible apply rd_ifE) | (with_reducible apply rd_lst) | (with_reducible apply rd_sz) | (with_reducible apply rd_new) | (with_reducible apply rd_wk) | (with_reducible apply rd_chain) | (with_reducible apply rd_make) | (with_reducible apply rd_star) | (with_reducible apply rd_items) | (with_reducible apply rd_enum) | (with_reducible apply rd_range) | (with_reducible apply rd_lc) | (with_reducible apply rd_lenSet) | (with_reducible apply rd_meth) | (with_reducible apply rd_sl) | (with_reducible apply rd_poN) | (with_reducible apply rd_poS) | (with_reducible apply rd_slT) | (with_reducible apply rd_slL) | (with_reducible apply rd_lt) | (with_reducible apply rd_ge) | (with_reducible apply rd_gt) | (with_reducible apply rd_addI) | (with_reducible apply rd_subI) | (with_reducible apply rd_negI) | (with_reducible apply rd_eqS) | (with_reducible apply rd_neS) | (with_reducible apply rd_isN) | (with_reducible apply rd_notN) | (with_reducible apply rd_isB) | (with_reducible apply rd_lenL) | (with_reducible apply rd_lenT) | (with_reducible apply rd_intI) | (with_reducible apply rd_listL) | (with_reducible apply rd_listT) | (with_reducible apply rd_tupL) | (with_reducible apply rd_tupT) | (with_reducible apply rd_ftup) | (with_reducible apply rd_inS) | ((with_reducible apply rd_app); case hg => rfl) | ((with_reducible apply rd_appF); case hg => rfl) | ((with_reducible apply rd_sFrz); case hg => rfl) | ((with_reducible apply rd_frzE); case hg => rfl) | ((with_reducible apply rd_tFrz); case hg => rfl) | ((with_reducible apply rd_gUt); case hg => rfl) | ((with_reducible apply rd_gUl); case hg => rfl) | (with_reducible apply rd_mkV1) | (with_reducible apply rd_mkV2) | (with_reducible apply rd_isS) | ((with_reducible apply rd_ivV); (case hg => rfl); (case hm => first | assumption | rfl)) | ((with_reducible apply rd_mxV); (case hg => rfl); (case hm => rfl)) | ((with_reducible apply rd_fxL); (case hg => rfl); (case hx => rfl); (case hm => rfl); (case hd => rfl)) | ((with_reducible apply rd_addL); (case hl => rfl)) | ((with_reducible apply rd_addS); (case hl => first | rfl | decide +kernel)) | ((with_reducible apply rd_k); (case hl => rfl)) | ((with_reducible apply rd_neK); (case hv => assumption)) | ((with_reducible apply rd_eqK); (case hv => assumption)) | ((with_reducible apply rd_fldV); (case hg => rfl); (case hm => rfl); (case hd => rfl)) | ((with_reducible apply rd_methV); (case hg => rfl); (case hm => rfl)) | ((with_reducible apply iteY); case e => rfl) | ((with_reducible apply iteN); case e => rfl))))
theorem pure_tell {x : Str} {N : List Str} (ds : List D) (Q : D → Prop) (E : Exn → Prop) (h : tellS x ds Q E) : ds.length = 1 ∧ rRet (rC (.str x)) (init0 N ds) (fnPo Q E) := by
  obtain ⟨d, rfl, q⟩ := h
  exact ⟨rfl, q⟩
theorem pure_NoOffer_told (ds : List D) (Q : D → Prop) (E : Exn → Prop) (h : S_NoOffer_told ds Q E) : ds.length = 1 ∧ rd_NoOffer_told (init0 n_NoOffer_told ds) (fnPo Q E) := pure_tell ds Q E h
theorem pure_NoAsked_told (ds : List D) (Q : D → Prop) (E : Exn → Prop) (h : S_NoAsked_told ds Q E) : ds.length = 1 ∧ rd_NoAsked_told (init0 n_NoAsked_told ds) (fnPo Q E) := pure_tell ds Q E h
theorem pure_NoTaking_told (ds : List D) (Q : D → Prop) (E : Exn → Prop) (h : S_NoTaking_told ds Q E) : ds.length = 1 ∧ rd_NoTaking_told (init0 n_NoTaking_told ds) (fnPo Q E) := pure_tell ds Q E h
theorem pure_NoMeasure_told (ds : List D) (Q : D → Prop) (E : Exn → Prop) (h : S_NoMeasure_told ds Q E) : ds.length = 1 ∧ rd_NoMeasure_told (init0 n_NoMeasure_told ds) (fnPo Q E) := pure_tell ds Q E h
theorem pure_NotExtreme_told (ds : List D) (Q : D → Prop) (E : Exn → Prop) (h : S_NotExtreme_told ds Q E) : ds.length = 1 ∧ rd_NotExtreme_told (init0 n_NotExtreme_told ds) (fnPo Q E) := pure_tell ds Q E h
theorem pure_NotConsistent_told (ds : List D) (Q : D → Prop) (E : Exn → Prop) (h : S_NotConsistent_told ds Q E) : ds.length = 1 ∧ rd_NotConsistent_told (init0 n_NotConsistent_told ds) (fnPo Q E) := pure_tell ds Q E h
theorem pure_NoKind_told (ds : List D) (Q : D → Prop) (E : Exn → Prop) (h : S_NoKind_told ds Q E) : ds.length = 1 ∧ rd_NoKind_told (init0 n_NoKind_told ds) (fnPo Q E) := pure_tell ds Q E h
theorem pure_NoRoll_told (ds : List D) (Q : D → Prop) (E : Exn → Prop) (h : S_NoRoll_told ds Q E) : ds.length = 1 ∧ rd_NoRoll_told (init0 n_NoRoll_told ds) (fnPo Q E) := pure_tell ds Q E h
theorem pure_BadText_told (ds : List D) (Q : D → Prop) (E : Exn → Prop) (h : S_BadText_told ds Q E) : ds.length = 1 ∧ rd_BadText_told (init0 n_BadText_told ds) (fnPo Q E) := pure_tell ds Q E h
theorem pure_BadLine_told (ds : List D) (Q : D → Prop) (E : Exn → Prop) (h : S_BadLine_told ds Q E) : ds.length = 1 ∧ rd_BadLine_told (init0 n_BadLine_told ds) (fnPo Q E) := pure_tell ds Q E h
theorem pure_NoCommand_told (ds : List D) (Q : D → Prop) (E : Exn → Prop) (h : S_NoCommand_told ds Q E) : ds.length = 1 ∧ rd_NoCommand_told (init0 n_NoCommand_told ds) (fnPo Q E) := pure_tell ds Q E h
theorem pure_NoUndo_told (ds : List D) (Q : D → Prop) (E : Exn → Prop) (h : S_NoUndo_told ds Q E) : ds.length = 1 ∧ rd_NoUndo_told (init0 n_NoUndo_told ds) (fnPo Q E) := pure_tell ds Q E h
theorem pure_NoRedo_told (ds : List D) (Q : D → Prop) (E : Exn → Prop) (h : S_NoRedo_told ds Q E) : ds.length = 1 ∧ rd_NoRedo_told (init0 n_NoRedo_told ds) (fnPo Q E) := pure_tell ds Q E h
theorem val_all {i : Int} {R : D → Prop} (h : R .non ∧ R (.int 0) ∧ R (.int i) ∧ R (.int (10 ^ (40 : Int).toNat)) ∧ R (.str "a") ∧ R (.str "") ∧ R (.lst [.str "a"]) ∧ R (.tup [.str "a", .int i]) ∧ R (.dic [.inr "a"] [.int 1]) ∧ R (.bl true)) : ∀ d ∈ valL i, R d := by
  obtain ⟨h1, h2, h3, h4, h5, h6, h7, h8, h9, h10⟩ := h
  unfold valL
  exact List.forall_mem_cons.mpr ⟨h1, List.forall_mem_cons.mpr ⟨h2, List.forall_mem_cons.mpr ⟨h3, List.forall_mem_cons.mpr ⟨h4, List.forall_mem_cons.mpr ⟨h5, List.forall_mem_cons.mpr ⟨h6, List.forall_mem_cons.mpr ⟨h7, List.forall_mem_cons.mpr ⟨h8, List.forall_mem_cons.mpr ⟨h9, List.forall_mem_cons.mpr ⟨h10, fun _ h => nomatch h⟩⟩⟩⟩⟩⟩⟩⟩⟩⟩
theorem val98_ok {d : D} (h : val98 d) : valOk d := by
  obtain ⟨i, h⟩ := h
  exact val_all ⟨.inl rfl, .inl rfl, .inl rfl, .inl rfl, .inl rfl, .inl rfl, .inl rfl, .inl rfl, .inr ⟨_, _, rfl, rfl⟩, .inl rfl⟩ d h
theorem val98_noW (d : D) (h : val98 d) : noW d = true := by
  obtain ⟨i, h⟩ := h
  exact val_all (R := fun d => noW d = true) ⟨rfl, rfl, rfl, rfl, rfl, rfl, rfl, rfl, rfl, rfl⟩ d h
theorem pure__law_value (ds : List D) (Q : D → Prop) (E : Exn → Prop) (h : S__law_value ds Q E) : ds.length = 1 ∧ rd__law_value (init0 n__law_value ds) (fnPo Q E) := by
  obtain ⟨rfl, q⟩ := h
  refine ⟨rfl, ?_⟩
  unfold rd__law_value
  sizeOf_list_dec
  refine ⟨⟨by decide, by decide, by decide⟩, ?_⟩
  sizeOf_list_dec
  refine ⟨_, rfl, by decide, by decide, fun r h0 h1 => ?_⟩
  sizeOf_list_dec
  refine ⟨⟨by decide, by decide, by decide⟩, ?_⟩
  sizeOf_list_dec
  refine ⟨mul_ok (i := 5) (j := 1000000) (by decide) (by decide), ?_⟩
  sizeOf_list_dec
  refine ⟨⟨by decide, by decide, by decide⟩, ?_⟩
  sizeOf_list_dec
  refine draw_nat (m := 10) (by decide) (by decide) fun r2 hr => ?_
  have hl : r2 < (valL (r - 5 * 10 ^ (6 : Int).toNat)).length := hr
  exact ix_lst (List.getElem?_eq_getElem hl) (q _ ⟨_, List.getElem_mem hl⟩)
theorem pure__law_kinds (ds : List D) (Q : D → Prop) (E : Exn → Prop) (h : S__law_kinds ds Q E) : ds.length = 1 ∧ rd__law_kinds (init0 n__law_kinds ds) (fnPo Q E) := by
  obtain ⟨p, hp, fs, rfl, q⟩ := h
  refine ⟨rfl, ?_⟩
  have one : ∀ {c : Nat} {b0 b1 b2 b3 b4 b5 b6 b7 b8 b9 b10 b11 b12 b13 : Bool} (h0 : is_NoOffer.lookup c = some b0) (h1 : is_NoAsked.lookup c = some b1) (h2 : is_NoTaking.lookup c = some b2) (h3 : is_NoMeasure.lookup c = some b3) (h4 : is_NotExtreme.lookup c = some b4) (h5 : is_NotConsistent.lookup c = some b5) (h6 : is_NoKind.lookup c = some b6) (h7 : is_NoRoll.lookup c = some b7) (h8 : is_BadText.lookup c = some b8) (h9 : is_BadLine.lookup c = some b9) (h10 : is_NoCommand.lookup c = some b10) (h11 : is_NoUndo.lookup c = some b11) (h12 : is_NoRedo.lookup c = some b12) (h13 : is_Full.lookup c = some b13) (h14 : is_NoSuch.lookup c = some b13) (h15 : is_NoTable.lookup c = some b13), Q (.lst [.bl b0, .bl b1, .bl b2, .bl b3, .bl b4, .bl b5, .bl b6, .bl b7, .bl b8, .bl b9, .bl b10, .bl b11, .bl b12, .bl b13, .bl b13, .bl b13]) → rd__law_kinds (init0 n__law_kinds [.exn c fs]) (fnPo Q E) := by
    intro c b0 b1 b2 b3 b4 b5 b6 b7 b8 b9 b10 b11 b12 b13 h0 h1 h2 h3 h4 h5 h6 h7 h8 h9 h10 h11 h12 h13 h14 h15 q
    unfold rd__law_kinds
    sizeOf_list_dec
    exact q
  revert p
  unfold kinds
  repeat (refine List.forall_mem_cons.mpr ⟨fun q => one rfl rfl rfl rfl rfl rfl rfl rfl rfl rfl rfl rfl rfl rfl rfl rfl q, ?_⟩)
  exact fun _ h => nomatch h
theorem made_get (a b : D) : ∀ i (hi : i < 13), ∃ p ∈ kinds, ∃ fs, (madeL a b)[i]'hi = .exn p.1 fs ∧ p.2.2 = i ∧ nameL[i]? = some (.str p.2.1) := by
  intro i hi
  match i, hi with
  | 0, _ => exact ⟨(cNoOffer, "nooffer", 0), List.mem_of_getElem? (i := 0) rfl, _, rfl, rfl, rfl⟩
  | 1, _ => exact ⟨(cNoAsked, "noasked", 1), List.mem_of_getElem? (i := 1) rfl, _, rfl, rfl, rfl⟩
  | 2, _ => exact ⟨(cNoTaking, "notaking", 2), List.mem_of_getElem? (i := 2) rfl, _, rfl, rfl, rfl⟩
  | 3, _ => exact ⟨(cNoMeasure, "nomeasure", 3), List.mem_of_getElem? (i := 3) rfl, _, rfl, rfl, rfl⟩
  | 4, _ => exact ⟨(cNotExtreme, "notextreme", 4), List.mem_of_getElem? (i := 4) rfl, _, rfl, rfl, rfl⟩
  | 5, _ => exact ⟨(cNotConsistent, "notconsistent", 5), List.mem_of_getElem? (i := 5) rfl, _, rfl, rfl, rfl⟩
  | 6, _ => exact ⟨(cNoKind, "nokind", 6), List.mem_of_getElem? (i := 6) rfl, _, rfl, rfl, rfl⟩
  | 7, _ => exact ⟨(cNoRoll, "noroll", 7), List.mem_of_getElem? (i := 7) rfl, _, rfl, rfl, rfl⟩
  | 8, _ => exact ⟨(cBadText, "badtext", 8), List.mem_of_getElem? (i := 8) rfl, _, rfl, rfl, rfl⟩
  | 9, _ => exact ⟨(cBadLine, "badline", 9), List.mem_of_getElem? (i := 9) rfl, _, rfl, rfl, rfl⟩
  | 10, _ => exact ⟨(cNoCommand, "nocommand", 10), List.mem_of_getElem? (i := 10) rfl, _, rfl, rfl, rfl⟩
  | 11, _ => exact ⟨(cNoUndo, "noundo", 11), List.mem_of_getElem? (i := 11) rfl, _, rfl, rfl, rfl⟩
  | 12, _ => exact ⟨(cNoRedo, "noredo", 12), List.mem_of_getElem? (i := 12) rfl, _, rfl, rfl, rfl⟩
  | n + 13, h => exact absurd h (by omega)
theorem pure__law_fields (ds : List D) (Q : D → Prop) (E : Exn → Prop) (h : S__law_fields ds Q E) : ds.length = 3 ∧ rd__law_fields (init0 n__law_fields ds) (fnPo Q E) := by
  obtain ⟨a, b, ha, hb, rfl, q⟩ := h
  refine ⟨rfl, ?_⟩
  unfold rd__law_fields
  sizeOf_list_dec
  exact q
theorem told_all : ∀ p ∈ kinds, is_PartError.lookup p.1 = some true ∧ is_ValueError.lookup p.1 = some true ∧ ∃ x, tb_told.lookup p.1 = some (tellS x) ∧ ("refused " : Str).length + p.2.1.length ≤ 100000 ∧ x = ("refused " : Str) ++ p.2.1 := by
  unfold kinds
  repeat (refine List.forall_mem_cons.mpr ⟨⟨rfl, rfl, _, rfl, by decide +kernel, by decide +kernel⟩, ?_⟩)
  exact fun _ h => nomatch h
theorem pure_law (a b : D) (ha : val98 a) (hb : val98 b) : rd_law (.no :: .no :: .d a :: .d b :: List.replicate (n_law.length - 4) .no) lawPo := by
  have ka := val98_ok ha
  have kb := val98_ok hb
  unfold rd_law
  sizeOf_list_dec
  refine ⟨by show (13 : Int) < _; decide, by show _ ≤ (13 : Int); decide, ?_⟩
  refine forP_rng (I := fun i G => ∃ g1 g2 g3, G = [.no, .no, .d a, .d b, .d (.lst (madeL a b)), .d (.lst nameL), g1, g2, g3]) 13 ?_ ?_ _ ⟨_, _, _, rfl⟩
  · rintro i G K hi ⟨g1, g2, g3, rfl⟩ hK
    have hl : i < (madeL a b).length := hi
    obtain ⟨p, hp, fs, e1, e2, e3⟩ := made_get a b i hi
    obtain ⟨h1, h2, x, h3, h4, h5⟩ := told_all p hp
    have hx : (madeL a b)[i]? = some (.exn p.1 fs) := by rw [List.getElem?_eq_getElem hl, e1]
    sizeOf_list_dec
    refine rd_ivL rfl rfl hx h1 ?_
    sizeOf_list_dec
    refine rd_ivL rfl rfl hx h2 ?_
    sizeOf_list_dec
    refine rd_mxL rfl rfl hx h3 ⟨_, rfl, ?_⟩
    sizeOf_list_dec
    refine ix_lst e3 ?_
    sizeOf_list_dec
    refine ⟨h4, ?_⟩
    sizeOf_list_dec
    rw [h5, beq_self_eq_true]
    sizeOf_list_dec
    refine ix_lst hx ?_
    sizeOf_list_dec
    refine ⟨p, hp, fs, rfl, ?_⟩
    sizeOf_list_dec
    refine ⟨by decide, by decide, ?_⟩
    refine lcP_map (f := fun d => match d with | .int j => .bl (j == (i : Int)) | _ => .non) _ _ (by simp) (fun d hd K => ?_) ?_
    · obtain ⟨j, _, rfl⟩ := List.mem_map.mp hd
      intro k
      sizeOf_list_dec
      exact k
    · have e : ([] : List D) ++ ((List.range (16 : Int).toNat).map fun (i : Nat) => D.int ((i : Nat) : Int)).map (fun d => match d with | .int j => .bl (j == (i : Int)) | _ => .non) = kindL p.2.2 := by
        rw [e2, List.nil_append, List.map_map, kindL, List.map_map]
        rfl
      rw [e]
      refine ne_bls ?_
      sizeOf_list_dec
      exact hK _ ⟨_, _, _, rfl⟩
  · rintro G ⟨g1, g2, g3, rfl⟩
    sizeOf_list_dec
    exact ⟨a, b, ka, kb, rfl, rfl⟩
end Pu
namespace Pu
open PySem PySem.Spec PyProof.Rows L2
def topS (i : Nat) : Stmt := PySem.Challenge.pw_partstell_k98_further_errors_told.main.body.getD i (.Pass ⟨0, 0, 0, 0⟩)
abbrev s__law_bag : Stmt := topS 19
abbrev s__law_pick : Stmt := topS 20
abbrev s_BadLine_told : Stmt := inClass (topS 14) 1
abbrev s_BadText_told : Stmt := inClass (topS 13) 1
abbrev s_NoAsked_told : Stmt := inClass (topS 6) 1
abbrev s_NoCommand_told : Stmt := inClass (topS 15) 1
abbrev s_NoKind_told : Stmt := inClass (topS 11) 1
abbrev s_NoMeasure_told : Stmt := inClass (topS 8) 0
abbrev s_NoOffer_told : Stmt := inClass (topS 5) 1
abbrev s_NoRedo_told : Stmt := inClass (topS 17) 0
abbrev s_NoRoll_told : Stmt := inClass (topS 12) 0
abbrev s_NoTaking_told : Stmt := inClass (topS 7) 1
abbrev s_NoUndo_told : Stmt := inClass (topS 16) 0
abbrev s_NotConsistent_told : Stmt := inClass (topS 10) 0
abbrev s_NotExtreme_told : Stmt := inClass (topS 9) 1
abbrev s__law_fields : Stmt := topS 23
abbrev s__law_kinds : Stmt := topS 22
abbrev s__law_value : Stmt := topS 21
abbrev s_law : Stmt := topS 24
abbrev s_BadLine_init : Stmt := inClass (topS 14) 0
abbrev s_BadText_init : Stmt := inClass (topS 13) 0
abbrev s_NoAsked_init : Stmt := inClass (topS 6) 0
abbrev s_NoCommand_init : Stmt := inClass (topS 15) 0
abbrev s_NoKind_init : Stmt := inClass (topS 11) 0
abbrev s_NoOffer_init : Stmt := inClass (topS 5) 0
abbrev s_NoTaking_init : Stmt := inClass (topS 7) 0
abbrev s_NotExtreme_init : Stmt := inClass (topS 9) 0
theorem sc_BadLine_told : FnScope ["self"] ["self"] (defScope s_BadLine_told) := ⟨rfl, rfl, rfl, by decide +kernel, rfl, by decide +kernel, by decide +kernel⟩
theorem sc_BadText_told : FnScope ["self"] ["self"] (defScope s_BadText_told) := ⟨rfl, rfl, rfl, by decide +kernel, rfl, by decide +kernel, by decide +kernel⟩
theorem sc_NoAsked_told : FnScope ["self"] ["self"] (defScope s_NoAsked_told) := ⟨rfl, rfl, rfl, by decide +kernel, rfl, by decide +kernel, by decide +kernel⟩
theorem sc_NoCommand_told : FnScope ["self"] ["self"] (defScope s_NoCommand_told) := ⟨rfl, rfl, rfl, by decide +kernel, rfl, by decide +kernel, by decide +kernel⟩
theorem sc_NoKind_told : FnScope ["self"] ["self"] (defScope s_NoKind_told) := ⟨rfl, rfl, rfl, by decide +kernel, rfl, by decide +kernel, by decide +kernel⟩
theorem sc_NoMeasure_told : FnScope ["self"] ["self"] (defScope s_NoMeasure_told) := ⟨rfl, rfl, rfl, by decide +kernel, rfl, by decide +kernel, by decide +kernel⟩
theorem sc_NoOffer_told : FnScope ["self"] ["self"] (defScope s_NoOffer_told) := ⟨rfl, rfl, rfl, by decide +kernel, rfl, by decide +kernel, by decide +kernel⟩
theorem sc_NoRedo_told : FnScope ["self"] ["self"] (defScope s_NoRedo_told) := ⟨rfl, rfl, rfl, by decide +kernel, rfl, by decide +kernel, by decide +kernel⟩
theorem sc_NoRoll_told : FnScope ["self"] ["self"] (defScope s_NoRoll_told) := ⟨rfl, rfl, rfl, by decide +kernel, rfl, by decide +kernel, by decide +kernel⟩
theorem sc_NoTaking_told : FnScope ["self"] ["self"] (defScope s_NoTaking_told) := ⟨rfl, rfl, rfl, by decide +kernel, rfl, by decide +kernel, by decide +kernel⟩
theorem sc_NoUndo_told : FnScope ["self"] ["self"] (defScope s_NoUndo_told) := ⟨rfl, rfl, rfl, by decide +kernel, rfl, by decide +kernel, by decide +kernel⟩
theorem sc_NotConsistent_told : FnScope ["self"] ["self"] (defScope s_NotConsistent_told) := ⟨rfl, rfl, rfl, by decide +kernel, rfl, by decide +kernel, by decide +kernel⟩
theorem sc_NotExtreme_told : FnScope ["self"] ["self"] (defScope s_NotExtreme_told) := ⟨rfl, rfl, rfl, by decide +kernel, rfl, by decide +kernel, by decide +kernel⟩
theorem sc__law_fields : FnScope ["_law_made", "_law_one", "_law_other"] ["_law_made", "_law_one", "_law_other"] (defScope s__law_fields) := ⟨rfl, rfl, rfl, by decide +kernel, rfl, by decide +kernel, by decide +kernel⟩
theorem sc__law_kinds : FnScope ["_law_e", "_law_found"] ["_law_e"] (defScope s__law_kinds) := ⟨rfl, rfl, rfl, by decide +kernel, rfl, by decide +kernel, by decide +kernel⟩
theorem sc__law_value : FnScope ["_law_bag_here", "_law_number"] ["_law_bag_here"] (defScope s__law_value) := ⟨rfl, rfl, rfl, by decide +kernel, rfl, by decide +kernel, by decide +kernel⟩
theorem sc_law : FnScope ["_law_script", "_law_bag_here", "_law_one", "_law_other", "_law_made", "_law_names", "_law_k", "_law_told", "_law_j"] ["_law_script"] (defScope s_law) := ⟨rfl, rfl, rfl, by decide +kernel, rfl, by decide +kernel, by decide +kernel⟩
end Pu
namespace Pu
open PySem PySem.Spec PyProof.Rows L2
theorem ok_BadLine_told {P : Program} {w : World} {K : PySem.W.Frag} {mg : Str → Option Value} {base : Heap} {CT : Nat → Addr} {lay : Nat → List Str} {f : Addr} {fd : FuncData} (Fn : FunG K "told" "BadLine.told" s_BadLine_told f fd)  : FnOk P w K mg base (L2.CX P w) 1 f fd ["self"] (spP CT lay S_BadLine_told) := by
  refine fn_okG (k := 0) Fn sc_BadLine_told pure_BadLine_told fun B cdv A outer s H E hCT hlay hcur hr => ?_
  subst hCT hlay
  exact xss_one (xs_ret (xe_str))
theorem ok_BadText_told {P : Program} {w : World} {K : PySem.W.Frag} {mg : Str → Option Value} {base : Heap} {CT : Nat → Addr} {lay : Nat → List Str} {f : Addr} {fd : FuncData} (Fn : FunG K "told" "BadText.told" s_BadText_told f fd)  : FnOk P w K mg base (L2.CX P w) 1 f fd ["self"] (spP CT lay S_BadText_told) := by
  refine fn_okG (k := 0) Fn sc_BadText_told pure_BadText_told fun B cdv A outer s H E hCT hlay hcur hr => ?_
  subst hCT hlay
  exact xss_one (xs_ret (xe_str))
theorem ok_NoAsked_told {P : Program} {w : World} {K : PySem.W.Frag} {mg : Str → Option Value} {base : Heap} {CT : Nat → Addr} {lay : Nat → List Str} {f : Addr} {fd : FuncData} (Fn : FunG K "told" "NoAsked.told" s_NoAsked_told f fd)  : FnOk P w K mg base (L2.CX P w) 1 f fd ["self"] (spP CT lay S_NoAsked_told) := by
  refine fn_okG (k := 0) Fn sc_NoAsked_told pure_NoAsked_told fun B cdv A outer s H E hCT hlay hcur hr => ?_
  subst hCT hlay
  exact xss_one (xs_ret (xe_str))
theorem ok_NoCommand_told {P : Program} {w : World} {K : PySem.W.Frag} {mg : Str → Option Value} {base : Heap} {CT : Nat → Addr} {lay : Nat → List Str} {f : Addr} {fd : FuncData} (Fn : FunG K "told" "NoCommand.told" s_NoCommand_told f fd)  : FnOk P w K mg base (L2.CX P w) 1 f fd ["self"] (spP CT lay S_NoCommand_told) := by
  refine fn_okG (k := 0) Fn sc_NoCommand_told pure_NoCommand_told fun B cdv A outer s H E hCT hlay hcur hr => ?_
  subst hCT hlay
  exact xss_one (xs_ret (xe_str))
theorem ok_NoKind_told {P : Program} {w : World} {K : PySem.W.Frag} {mg : Str → Option Value} {base : Heap} {CT : Nat → Addr} {lay : Nat → List Str} {f : Addr} {fd : FuncData} (Fn : FunG K "told" "NoKind.told" s_NoKind_told f fd)  : FnOk P w K mg base (L2.CX P w) 1 f fd ["self"] (spP CT lay S_NoKind_told) := by
  refine fn_okG (k := 0) Fn sc_NoKind_told pure_NoKind_told fun B cdv A outer s H E hCT hlay hcur hr => ?_
  subst hCT hlay
  exact xss_one (xs_ret (xe_str))
theorem ok_NoMeasure_told {P : Program} {w : World} {K : PySem.W.Frag} {mg : Str → Option Value} {base : Heap} {CT : Nat → Addr} {lay : Nat → List Str} {f : Addr} {fd : FuncData} (Fn : FunG K "told" "NoMeasure.told" s_NoMeasure_told f fd)  : FnOk P w K mg base (L2.CX P w) 1 f fd ["self"] (spP CT lay S_NoMeasure_told) := by
  refine fn_okG (k := 0) Fn sc_NoMeasure_told pure_NoMeasure_told fun B cdv A outer s H E hCT hlay hcur hr => ?_
  subst hCT hlay
  exact xss_one (xs_ret (xe_str))
theorem ok_NoOffer_told {P : Program} {w : World} {K : PySem.W.Frag} {mg : Str → Option Value} {base : Heap} {CT : Nat → Addr} {lay : Nat → List Str} {f : Addr} {fd : FuncData} (Fn : FunG K "told" "NoOffer.told" s_NoOffer_told f fd)  : FnOk P w K mg base (L2.CX P w) 1 f fd ["self"] (spP CT lay S_NoOffer_told) := by
  refine fn_okG (k := 0) Fn sc_NoOffer_told pure_NoOffer_told fun B cdv A outer s H E hCT hlay hcur hr => ?_
  subst hCT hlay
  exact xss_one (xs_ret (xe_str))
theorem ok_NoRedo_told {P : Program} {w : World} {K : PySem.W.Frag} {mg : Str → Option Value} {base : Heap} {CT : Nat → Addr} {lay : Nat → List Str} {f : Addr} {fd : FuncData} (Fn : FunG K "told" "NoRedo.told" s_NoRedo_told f fd)  : FnOk P w K mg base (L2.CX P w) 1 f fd ["self"] (spP CT lay S_NoRedo_told) := by
  refine fn_okG (k := 0) Fn sc_NoRedo_told pure_NoRedo_told fun B cdv A outer s H E hCT hlay hcur hr => ?_
  subst hCT hlay
  exact xss_one (xs_ret (xe_str))
theorem ok_NoRoll_told {P : Program} {w : World} {K : PySem.W.Frag} {mg : Str → Option Value} {base : Heap} {CT : Nat → Addr} {lay : Nat → List Str} {f : Addr} {fd : FuncData} (Fn : FunG K "told" "NoRoll.told" s_NoRoll_told f fd)  : FnOk P w K mg base (L2.CX P w) 1 f fd ["self"] (spP CT lay S_NoRoll_told) := by
  refine fn_okG (k := 0) Fn sc_NoRoll_told pure_NoRoll_told fun B cdv A outer s H E hCT hlay hcur hr => ?_
  subst hCT hlay
  exact xss_one (xs_ret (xe_str))
theorem ok_NoTaking_told {P : Program} {w : World} {K : PySem.W.Frag} {mg : Str → Option Value} {base : Heap} {CT : Nat → Addr} {lay : Nat → List Str} {f : Addr} {fd : FuncData} (Fn : FunG K "told" "NoTaking.told" s_NoTaking_told f fd)  : FnOk P w K mg base (L2.CX P w) 1 f fd ["self"] (spP CT lay S_NoTaking_told) := by
  refine fn_okG (k := 0) Fn sc_NoTaking_told pure_NoTaking_told fun B cdv A outer s H E hCT hlay hcur hr => ?_
  subst hCT hlay
  exact xss_one (xs_ret (xe_str))
theorem ok_NoUndo_told {P : Program} {w : World} {K : PySem.W.Frag} {mg : Str → Option Value} {base : Heap} {CT : Nat → Addr} {lay : Nat → List Str} {f : Addr} {fd : FuncData} (Fn : FunG K "told" "NoUndo.told" s_NoUndo_told f fd)  : FnOk P w K mg base (L2.CX P w) 1 f fd ["self"] (spP CT lay S_NoUndo_told) := by
  refine fn_okG (k := 0) Fn sc_NoUndo_told pure_NoUndo_told fun B cdv A outer s H E hCT hlay hcur hr => ?_
  subst hCT hlay
  exact xss_one (xs_ret (xe_str))
theorem ok_NotConsistent_told {P : Program} {w : World} {K : PySem.W.Frag} {mg : Str → Option Value} {base : Heap} {CT : Nat → Addr} {lay : Nat → List Str} {f : Addr} {fd : FuncData} (Fn : FunG K "told" "NotConsistent.told" s_NotConsistent_told f fd)  : FnOk P w K mg base (L2.CX P w) 1 f fd ["self"] (spP CT lay S_NotConsistent_told) := by
  refine fn_okG (k := 0) Fn sc_NotConsistent_told pure_NotConsistent_told fun B cdv A outer s H E hCT hlay hcur hr => ?_
  subst hCT hlay
  exact xss_one (xs_ret (xe_str))
theorem ok_NotExtreme_told {P : Program} {w : World} {K : PySem.W.Frag} {mg : Str → Option Value} {base : Heap} {CT : Nat → Addr} {lay : Nat → List Str} {f : Addr} {fd : FuncData} (Fn : FunG K "told" "NotExtreme.told" s_NotExtreme_told f fd)  : FnOk P w K mg base (L2.CX P w) 1 f fd ["self"] (spP CT lay S_NotExtreme_told) := by
  refine fn_okG (k := 0) Fn sc_NotExtreme_told pure_NotExtreme_told fun B cdv A outer s H E hCT hlay hcur hr => ?_
  subst hCT hlay
  exact xss_one (xs_ret (xe_str))
theorem ok__law_fields {P : Program} {w : World} {K : PySem.W.Frag} {mg : Str → Option Value} {base : Heap} {CT : Nat → Addr} {lay : Nat → List Str} {f : Addr} {fd : FuncData} (Fn : FunG K "_law_fields" "_law_fields" s__law_fields f fd) (xf_place_NoOffer_NoAsked_BadText_BadLine_NoCommand : XfOk K CT lay "place" [(cNoOffer, 0), (cNoAsked, 0), (cBadText, 0), (cBadLine, 1), (cNoCommand, 0)]) (xf_word_NoOffer_NoAsked : XfOk K CT lay "word" [(cNoOffer, 1), (cNoAsked, 1)]) (xf_name_NoTaking_NotExtreme : XfOk K CT lay "name" [(cNoTaking, 0), (cNotExtreme, 0)]) (xf_kind_NoKind : XfOk K CT lay "kind" [(cNoKind, 0)]) (xf_line_BadLine : XfOk K CT lay "line" [(cBadLine, 0)]) : FnOk P w K mg base (L2.CX P w) 1 f fd ["_law_made", "_law_one", "_law_other"] (spP CT lay S__law_fields) := by
  refine fn_okG (k := 0) Fn sc__law_fields pure__law_fields fun B cdv A outer s H E hCT hlay hcur hr => ?_
  subst hCT hlay
  exact xss_cons (xs_if ((xw_or (xt_cmp (xo_neK hr) (xe_fxV xf_place_NoOffer_NoAsked_BadText_BadLine_NoCommand (xe_ix (xe_var 0) (xe_int))) (xe_var 1)) (xw_or (xt_cmp (xo_neK hr) (xe_fxV xf_word_NoOffer_NoAsked (xe_ix (xe_var 0) (xe_int))) (xe_var 2)) (xw_or (xt_cmp (xo_neK hr) (xe_fxV xf_place_NoOffer_NoAsked_BadText_BadLine_NoCommand (xe_ix (xe_var 0) (xe_int))) (xe_var 1)) (xw_or1 (xt_cmp (xo_neK hr) (xe_fxV xf_word_NoOffer_NoAsked (xe_ix (xe_var 0) (xe_int))) (xe_var 2)))))).xt) (xss_one (xs_ret (xe_bl))) (xss_nil)) (xss_cons (xs_if ((xw_or (xt_cmp (xo_neK hr) (xe_fxV xf_name_NoTaking_NotExtreme (xe_ix (xe_var 0) (xe_int))) (xe_var 1)) (xw_or (xt_cmp (xo_neK hr) (xe_fxV xf_name_NoTaking_NotExtreme (xe_ix (xe_var 0) (xe_int))) (xe_var 1)) (xw_or1 (xt_cmp (xo_neK hr) (xe_fxV xf_kind_NoKind (xe_ix (xe_var 0) (xe_int))) (xe_var 1))))).xt) (xss_one (xs_ret (xe_bl))) (xss_nil)) (xss_one (xs_ret (xe_and (xe_cmp (xo_eqK hr) (xe_fxV xf_place_NoOffer_NoAsked_BadText_BadLine_NoCommand (xe_ix (xe_var 0) (xe_int))) (xe_var 1)) (xe_and (xe_cmp (xo_eqK hr) (xe_fxV xf_line_BadLine (xe_ix (xe_var 0) (xe_int))) (xe_var 1)) (xe_and (xe_cmp (xo_eqK hr) (xe_fxV xf_place_NoOffer_NoAsked_BadText_BadLine_NoCommand (xe_ix (xe_var 0) (xe_int))) (xe_var 2)) (xe_one (xe_cmp (xo_eqK hr) (xe_fxV xf_place_NoOffer_NoAsked_BadText_BadLine_NoCommand (xe_ix (xe_var 0) (xe_int))) (xe_var 1)))))))))
theorem ok__law_kinds {P : Program} {w : World} {K : PySem.W.Frag} {mg : Str → Option Value} {base : Heap} {CT : Nat → Addr} {lay : Nat → List Str} {f : Addr} {fd : FuncData} (Fn : FunG K "_law_kinds" "_law_kinds" s__law_kinds f fd) (z_isinstance : mg "isinstance" = none) (c_NoMeasure : mg "NoMeasure" = some (.ref (CT cNoMeasure))) (ix_NoMeasure : IsxT K CT (.ref (CT cNoMeasure)) is_NoMeasure) (c_NoTaking : mg "NoTaking" = some (.ref (CT cNoTaking))) (ix_NoTaking : IsxT K CT (.ref (CT cNoTaking)) is_NoTaking) (c_NoAsked : mg "NoAsked" = some (.ref (CT cNoAsked))) (ix_NoAsked : IsxT K CT (.ref (CT cNoAsked)) is_NoAsked) (c_NoOffer : mg "NoOffer" = some (.ref (CT cNoOffer))) (ix_NoOffer : IsxT K CT (.ref (CT cNoOffer)) is_NoOffer) (c_NoKind : mg "NoKind" = some (.ref (CT cNoKind))) (ix_NoKind : IsxT K CT (.ref (CT cNoKind)) is_NoKind) (c_NotConsistent : mg "NotConsistent" = some (.ref (CT cNotConsistent))) (ix_NotConsistent : IsxT K CT (.ref (CT cNotConsistent)) is_NotConsistent) (c_NotExtreme : mg "NotExtreme" = some (.ref (CT cNotExtreme))) (ix_NotExtreme : IsxT K CT (.ref (CT cNotExtreme)) is_NotExtreme) (c_BadLine : mg "BadLine" = some (.ref (CT cBadLine))) (ix_BadLine : IsxT K CT (.ref (CT cBadLine)) is_BadLine) (c_BadText : mg "BadText" = some (.ref (CT cBadText))) (ix_BadText : IsxT K CT (.ref (CT cBadText)) is_BadText) (c_NoRoll : mg "NoRoll" = some (.ref (CT cNoRoll))) (ix_NoRoll : IsxT K CT (.ref (CT cNoRoll)) is_NoRoll) (c_NoRedo : mg "NoRedo" = some (.ref (CT cNoRedo))) (ix_NoRedo : IsxT K CT (.ref (CT cNoRedo)) is_NoRedo) (c_NoUndo : mg "NoUndo" = some (.ref (CT cNoUndo))) (ix_NoUndo : IsxT K CT (.ref (CT cNoUndo)) is_NoUndo) (c_NoCommand : mg "NoCommand" = some (.ref (CT cNoCommand))) (ix_NoCommand : IsxT K CT (.ref (CT cNoCommand)) is_NoCommand) (c_NoTable : mg "NoTable" = some (.ref (CT cNoTable))) (ix_NoTable : IsxT K CT (.ref (CT cNoTable)) is_NoTable) (c_NoSuch : mg "NoSuch" = some (.ref (CT cNoSuch))) (ix_NoSuch : IsxT K CT (.ref (CT cNoSuch)) is_NoSuch) (c_Full : mg "Full" = some (.ref (CT cFull))) (ix_Full : IsxT K CT (.ref (CT cFull)) is_Full) : FnOk P w K mg base (L2.CX P w) 1 f fd ["_law_e"] (spP CT lay S__law_kinds) := by
  refine fn_okG (k := 0) Fn sc__law_kinds pure__law_kinds fun B cdv A outer s H E hCT hlay hcur hr => ?_
  subst hCT hlay
  exact xss_cons (xs_set 1 (xe_lst (xa_cons (xe_isV (v := (.ref (B.W.CT cNoOffer))) ix_NoOffer z_isinstance boot_isinstance (fun _ h => h) (xe_var 0) (xe_gref c_NoOffer)) (xa_cons (xe_isV (v := (.ref (B.W.CT cNoAsked))) ix_NoAsked z_isinstance boot_isinstance (fun _ h => h) (xe_var 0) (xe_gref c_NoAsked)) (xa_cons (xe_isV (v := (.ref (B.W.CT cNoTaking))) ix_NoTaking z_isinstance boot_isinstance (fun _ h => h) (xe_var 0) (xe_gref c_NoTaking)) (xa_cons (xe_isV (v := (.ref (B.W.CT cNoMeasure))) ix_NoMeasure z_isinstance boot_isinstance (fun _ h => h) (xe_var 0) (xe_gref c_NoMeasure)) (xa_nil)))))) sc__law_kinds.nd) (xss_cons (xs_set 1 (xe_bin xo_add (xe_var 1) (xe_lst (xa_cons (xe_isV (v := (.ref (B.W.CT cNotExtreme))) ix_NotExtreme z_isinstance boot_isinstance (fun _ h => h) (xe_var 0) (xe_gref c_NotExtreme)) (xa_cons (xe_isV (v := (.ref (B.W.CT cNotConsistent))) ix_NotConsistent z_isinstance boot_isinstance (fun _ h => h) (xe_var 0) (xe_gref c_NotConsistent)) (xa_cons (xe_isV (v := (.ref (B.W.CT cNoKind))) ix_NoKind z_isinstance boot_isinstance (fun _ h => h) (xe_var 0) (xe_gref c_NoKind)) (xa_nil)))))) sc__law_kinds.nd) (xss_cons (xs_set 1 (xe_bin xo_add (xe_var 1) (xe_lst (xa_cons (xe_isV (v := (.ref (B.W.CT cNoRoll))) ix_NoRoll z_isinstance boot_isinstance (fun _ h => h) (xe_var 0) (xe_gref c_NoRoll)) (xa_cons (xe_isV (v := (.ref (B.W.CT cBadText))) ix_BadText z_isinstance boot_isinstance (fun _ h => h) (xe_var 0) (xe_gref c_BadText)) (xa_cons (xe_isV (v := (.ref (B.W.CT cBadLine))) ix_BadLine z_isinstance boot_isinstance (fun _ h => h) (xe_var 0) (xe_gref c_BadLine)) (xa_nil)))))) sc__law_kinds.nd) (xss_cons (xs_set 1 (xe_bin xo_add (xe_var 1) (xe_lst (xa_cons (xe_isV (v := (.ref (B.W.CT cNoCommand))) ix_NoCommand z_isinstance boot_isinstance (fun _ h => h) (xe_var 0) (xe_gref c_NoCommand)) (xa_cons (xe_isV (v := (.ref (B.W.CT cNoUndo))) ix_NoUndo z_isinstance boot_isinstance (fun _ h => h) (xe_var 0) (xe_gref c_NoUndo)) (xa_cons (xe_isV (v := (.ref (B.W.CT cNoRedo))) ix_NoRedo z_isinstance boot_isinstance (fun _ h => h) (xe_var 0) (xe_gref c_NoRedo)) (xa_nil)))))) sc__law_kinds.nd) (xss_one (xs_ret (xe_bin xo_add (xe_var 1) (xe_lst (xa_cons (xe_isV (v := (.ref (B.W.CT cFull))) ix_Full z_isinstance boot_isinstance (fun _ h => h) (xe_var 0) (xe_gref c_Full)) (xa_cons (xe_isV (v := (.ref (B.W.CT cNoSuch))) ix_NoSuch z_isinstance boot_isinstance (fun _ h => h) (xe_var 0) (xe_gref c_NoSuch)) (xa_cons (xe_isV (v := (.ref (B.W.CT cNoTable))) ix_NoTable z_isinstance boot_isinstance (fun _ h => h) (xe_var 0) (xe_gref c_NoTable)) (xa_nil)))))))))))
theorem ok__law_value {P : Program} {w : World} {K : PySem.W.Frag} {mg : Str → Option Value} {base : Heap} {CT : Nat → Addr} {lay : Nat → List Str} {f : Addr} {fd : FuncData} (Fn : FunG K "_law_value" "_law_value" s__law_value f fd) (h__law_pick : FnAt P w K mg base CT lay 1 "_law_pick" ["_law_bag_here", "_law_many"] oDraw) : FnOk P w K mg base (L2.CX P w) 2 f fd ["_law_bag_here"] (spP CT lay S__law_value) := by
  refine fn_okG (k := 1) Fn sc__law_value pure__law_value fun B cdv A outer s H E hCT hlay hcur hr => ?_
  subst hCT hlay
  exact xss_cons (xs_set 1 (xe_bin xo_sub (xe_callA h__law_pick (hr.mono (by decide)) tk_fn (xa_cons (xe_var 0) (xa_cons (xe_bin xo_pow (xe_int) (xe_int)) (xa_nil)))) (xe_bin xo_mul (xe_int) (xe_bin xo_pow (xe_int) (xe_int)))) sc__law_value.nd) (xss_one (xs_ret (xe_ix (xe_lst (xa_cons (xe_non) (xa_cons (xe_int) (xa_cons (xe_var 1) (xa_cons (xe_bin xo_pow (xe_int) (xe_int)) (xa_cons (xe_str) (xa_cons (xe_str) (xa_cons (xe_lst (xa_cons (xe_str) (xa_nil))) (xa_cons (xe_tup (xa_cons (xe_str) (xa_cons (xe_var 1) (xa_nil)))) (xa_cons (xe_dict1) (xa_cons (xe_bl) (xa_nil)))))))))))) (xe_callA h__law_pick (hr.mono (by decide)) tk_fn (xa_cons (xe_var 0) (xa_cons (xe_int) (xa_nil)))))))
theorem ok_law {P : Program} {w : World} {K : PySem.W.Frag} {mg : Str → Option Value} {base : Heap} {CT : Nat → Addr} {lay : Nat → List Str} {f : Addr} {fd : FuncData} (Fn : FunG K "law" "law" s_law f fd) (x_NotConsistent : XnAt0 K mg CT lay "NotConsistent" cNotConsistent) (x_NotExtreme : XnAt P w K mg base CT lay 1 "NotExtreme" cNotExtreme ["self", "name"]) (n_NotExtreme : (lay cNotExtreme).length = 1) (x_NoMeasure : XnAt0 K mg CT lay "NoMeasure" cNoMeasure) (x_NoTaking : XnAt P w K mg base CT lay 1 "NoTaking" cNoTaking ["self", "name"]) (n_NoTaking : (lay cNoTaking).length = 1) (x_NoAsked : XnAt P w K mg base CT lay 1 "NoAsked" cNoAsked ["self", "place", "word"]) (n_NoAsked : (lay cNoAsked).length = 2) (x_NoOffer : XnAt P w K mg base CT lay 1 "NoOffer" cNoOffer ["self", "place", "word"]) (n_NoOffer : (lay cNoOffer).length = 2) (x_NoRedo : XnAt0 K mg CT lay "NoRedo" cNoRedo) (x_NoUndo : XnAt0 K mg CT lay "NoUndo" cNoUndo) (x_NoCommand : XnAt P w K mg base CT lay 1 "NoCommand" cNoCommand ["self", "place"]) (n_NoCommand : (lay cNoCommand).length = 1) (x_BadLine : XnAt P w K mg base CT lay 1 "BadLine" cBadLine ["self", "line", "place"]) (n_BadLine : (lay cBadLine).length = 2) (x_BadText : XnAt P w K mg base CT lay 1 "BadText" cBadText ["self", "place"]) (n_BadText : (lay cBadText).length = 1) (x_NoRoll : XnAt0 K mg CT lay "NoRoll" cNoRoll) (x_NoKind : XnAt P w K mg base CT lay 1 "NoKind" cNoKind ["self", "kind"]) (n_NoKind : (lay cNoKind).length = 1) (z_range : mg "range" = none) (z_len : mg "len" = none) (z_isinstance : mg "isinstance" = none) (c_PartError : mg "PartError" = some (.ref (CT cPartError))) (ix_PartError : IsxT K CT (.ref (CT cPartError)) is_PartError) (z_ValueError : mg "ValueError" = none) (ix_ValueError : IsxT K CT (.type "ValueError") is_ValueError) (mx_told : ∀ q ∈ tb_told, MXnt P w K mg base CT lay 1 "told" 0 q) (clsX : ClsX K CT csL) (z_str : mg "str" = none) (h__law_kinds : FnAt P w K mg base CT lay 1 "_law_kinds" ["_law_e"] S__law_kinds) (h__law_fields : FnAt P w K mg base CT lay 1 "_law_fields" ["_law_made", "_law_one", "_law_other"] S__law_fields) {fS : Addr} {fdS : FuncData} (FS : FnOk P w K mg base (L2.CX P w) 1 fS fdS ["_law_script", "_law_k"] (spBag K)) (mS : mg "_law_bag" = some (.ref fS)) (kpS : PySem.W.keepIn K (.ref fS) = true) (bS : Binds K fdS ["_law_script", "_law_k"] []) {fV : Addr} {fdV : FuncData} (FV : FnOk P w K mg base (L2.CX P w) 2 fV fdV ["_law_bag_here"] (spP CT lay S__law_value)) (mV : mg "_law_value" = some (.ref fV)) (kpV : PySem.W.keepIn K (.ref fV) = true) (bV : Binds K fdV ["_law_bag_here"] []) : FnOk P w K mg base (L2.CX P w) 3 f fd ["_law_script"] (spLaw K) := by
  refine law_ok98 (CT := CT) (lay := lay) (k := 2) (rest := (defBody s_law).drop 3) (okD := val98) Fn sc_law rfl FS (by decide) mS kpS bS FV (by decide) mV kpV bV val98_noW rfl rfl rfl rfl (fun _ _ _ => ⟨⟨Or.inl rfl, Or.inl rfl, Or.inl rfl, Or.inl rfl, Or.inl rfl, rfl, rfl⟩, ⟨rfl, rfl, rfl, rfl⟩, ⟨rfl, rfl⟩, ⟨rfl, rfl, rfl, rfl, rfl⟩⟩) (fun B cdv A outer s H E hCT hlay hcur h0 hr => ?_) pure_law
  subst hCT hlay
  exact xss_cons (xs_set 4 (xe_lst (xa_cons (xe_mkV x_NoOffer (hr.mono (by decide)) n_NoOffer tk_fn (xa_cons (xe_var 2) (xa_cons (xe_var 3) (xa_nil)))) (xa_cons (xe_mkV x_NoAsked (hr.mono (by decide)) n_NoAsked tk_fn (xa_cons (xe_var 2) (xa_cons (xe_var 3) (xa_nil)))) (xa_cons (xe_mkV x_NoTaking (hr.mono (by decide)) n_NoTaking tk_fn (xa_cons (xe_var 2) (xa_nil))) (xa_cons (xe_mkV0 x_NoMeasure) (xa_cons (xe_mkV x_NotExtreme (hr.mono (by decide)) n_NotExtreme tk_fn (xa_cons (xe_var 2) (xa_nil))) (xa_cons (xe_mkV0 x_NotConsistent) (xa_nil)))))))) sc_law.nd) (xss_cons (xs_set 4 (xe_bin xo_add (xe_var 4) (xe_lst (xa_cons (xe_mkV x_NoKind (hr.mono (by decide)) n_NoKind tk_fn (xa_cons (xe_var 2) (xa_nil))) (xa_cons (xe_mkV0 x_NoRoll) (xa_cons (xe_mkV x_BadText (hr.mono (by decide)) n_BadText tk_fn (xa_cons (xe_var 2) (xa_nil))) (xa_cons (xe_mkV x_BadLine (hr.mono (by decide)) n_BadLine tk_fn (xa_cons (xe_var 2) (xa_cons (xe_var 3) (xa_nil)))) (xa_cons (xe_mkV x_NoCommand (hr.mono (by decide)) n_NoCommand tk_fn (xa_cons (xe_var 2) (xa_nil))) (xa_cons (xe_mkV0 x_NoUndo) (xa_cons (xe_mkV0 x_NoRedo) (xa_nil)))))))))) sc_law.nd) (xss_cons (xs_set 5 (xe_lst (xa_cons (xe_str) (xa_cons (xe_str) (xa_cons (xe_str) (xa_cons (xe_str) (xa_cons (xe_str) (xa_cons (xe_str) (xa_cons (xe_str) (xa_cons (xe_str) (xa_nil)))))))))) sc_law.nd) (xss_cons (xs_set 5 (xe_bin xo_add (xe_var 5) (xe_lst (xa_cons (xe_str) (xa_cons (xe_str) (xa_cons (xe_str) (xa_cons (xe_str) (xa_cons (xe_str) (xa_nil)))))))) sc_law.nd) (xss_cons (xs_for po_fn (xi_range z_range (xa_cons (xe_callB xf_len z_len boot_len (xa_cons (xe_var 4) (xa_nil))) (xa_nil))) (fun _ => xg_name 6 sc_law.nd) (fun _ => xss_cons (xs_if ((xw_or (xt_not (xt_val (xe_isV (v := (.ref (B.W.CT cPartError))) ix_PartError z_isinstance boot_isinstance (fun _ h => h) (xe_ix (xe_var 4) (xe_var 6)) (xe_gref c_PartError)))) (xw_or1 (xt_not (xt_val (xe_isV (v := (.ty "ValueError")) ix_ValueError z_isinstance boot_isinstance (fun _ h => h) (xe_ix (xe_var 4) (xe_var 6)) (xe_bty z_ValueError Boot.«ValueError»)))))).xt) (xss_one (xs_ret (xe_bl))) (xss_nil)) (xss_cons (xs_set 7 (xe_methX0 mx_told (hr.mono (by decide)) tk_fn (xe_ix (xe_var 4) (xe_var 6))) sc_law.nd) (xss_cons (xs_if ((xw_or (xt_not (xt_val (xe_isi (cs := csL) (t := .b "str") clsX (tyOk_of (by decide)) z_isinstance boot_isinstance (xe_var 7) (xe_bty z_str boot_str)))) (xw_or1 (xt_cmp (xo_ne hr) (xe_var 7) (xe_bin xo_add (xe_str) (xe_ix (xe_var 5) (xe_var 6)))))).xt) (xss_one (xs_ret (xe_bl))) (xss_nil)) (xss_one (xs_if (xt_cmp (xo_ne hr) (xe_callA h__law_kinds (hr.mono (by decide)) tk_fn (xa_cons (xe_ix (xe_var 4) (xe_var 6)) (xa_nil))) ((xn_lc (own := [("_law_j", 8)]) rfl sc_law.nd (xi_range z_range (xa_cons (xe_int) (xa_nil))) (blkOk_by (N := n_law) (sc := defScope s_law) (by decide +kernel)) (fun _ _ _ _ _ => xv_name 8 sc_law.nd) (fun _ _ _ _ _ => xts_nil) (fun _ _ _ _ _ => xe_cmp (xo_eq hr) (xe_var 8) (xe_var 6))).xe)) (xss_one (xs_ret (xe_bl))) (xss_nil))))))) (xss_one (xs_ret (xe_callA h__law_fields (hr.mono (by decide)) tk_fn (xa_cons (xe_var 4) (xa_cons (xe_var 2) (xa_cons (xe_var 3) (xa_nil)))))))))))
end Pu
namespace Pu
open PySem PySem.Spec PyProof.Rows L2
open PySem.W (findIn isFn kitOne)
/-- the built-in names of the text -/
structure Bl (mg : Str → Option Value) : Prop where
  gInt : mg "int" = none
  gLen : mg "len" = none
section
variable {P : Program} {w : World} {K : PySem.W.Frag} {mg : Str → Option Value} {base : Heap}
theorem fmod_pos {a m : Int} (h : 0 < m) : 0 ≤ a.fmod m ∧ a.fmod m < m := ⟨Int.fmod_nonneg_of_pos a h, Int.fmod_lt_of_pos a h⟩
theorem emod_pos {a m : Int} (h : 0 < m) : 0 ≤ a % m ∧ a % m < m := ⟨Int.emod_nonneg a (by omega), Int.emod_lt_of_pos a h⟩
theorem scBg : FnScope ["_law_script", "_law_k", "_law_cell", "_law_great"] ["_law_script", "_law_k"] (defScope s__law_bag) := ⟨rfl, rfl, rfl, by decide +kernel, rfl, by decide +kernel, by decide +kernel⟩
theorem ok_lbag {f : Addr} {fd : FuncData} (F : Fun K "_law_bag" "_law_bag" s__law_bag f fd) (T : Bl mg) : FnOk P w K mg base CX0 1 f fd ["_law_script", "_law_k"] (spBag K) := by
  refine F.ok scBg (fun vs H Q E h => ?_) (fun cdv A outer s H vs Q E hr h => ?_)
  · obtain ⟨a, ns, k, rfl, _⟩ := h
    rfl
  · obtain ⟨a, ns, k, rfl, hS, hl, hk, q⟩ := h
    refine ⟨_, pss_cons (ps_set (i := 2) scBg.nd rfl (Or.inl rfl) pe_int)
      (pss_cons (ps_if (pt_cmpR op_lt (pv 1) (pe_callB call_len_seq (by rfl) T.gLen PySem.boot_len (pa_cons (pv 0) pa_nil)) (nomark _))
        (pss_one (ps_set (i := 2) scBg.nd rfl (Or.inl rfl) (pe_ix ix_list (pv 0) (pv 1) (fun _ _ => rfl)))) pss_nil)
      (pss_cons (ps_set (i := 3) scBg.nd rfl (Or.inl rfl) pe_int)
      (pss_cons (ps_if (pt_cmpR op_ge (pv 2) (pe_op op_pow pe_int pe_int) (nomark _)) (pss_one (ps_set (i := 3) scBg.nd rfl (Or.inl rfl) (pv 2))) pss_nil)
      (pss_one (ps_ret (pe_lst (pa_cons (pv 3) (pa_cons (pe_op op_add (pe_op op_modN (pe_callTy call_int1 (by rfl) T.gInt PyProof.Rows.boot_int (pa_cons (pv 2) pa_nil)) pe_int) (pe_op op_mul pe_int (pv 1))) (pa_cons pe_int pa_nil))))))))), ?_⟩
    refine ⟨_, rfl, _, rfl, a, _, rfl, .inl hS, _, _, rfl, rfl, _, rfl, ?_⟩
    refine ite2 (fun h => ?_) (fun h => ?_)
    · have hk : k < ns.length := by
        have := of_decide_eq_true h
        rw [List.length_map] at this
        omega
      refine ⟨_, rfl, _, rfl, a, _, (k : Int), .int ns[k], rfl, rfl, hS, atI_nat (by rw [List.getElem?_map, List.getElem?_eq_getElem hk]; rfl), ?_⟩
      refine ⟨_, rfl, 10, 18, rfl, rfl, ⟨by decide, by decide, by decide⟩, _, _, rfl, rfl, _, rfl, ?_⟩
      refine ite2 (fun h => ?_) (fun h => ?_)
      · refine ⟨_, rfl, ?_⟩
        refine ⟨_, rfl, _, rfl, .inl ⟨_, rfl, _, _, rfl, rfl, (by show (2147483629 : Int) ≠ 0; decide), _, rfl, _, _, rfl, rfl, .inl ⟨by decide, by decide⟩, _, _, rfl, rfl, (by show 3 ≤ sizeLine; decide), fun p np => ?_⟩⟩
        exact q _ p (fun c o e => by rw [upd_ne (ne_of_none e np)]; exact e) np ⟨rfl, _, _, _, upd_same⟩
      · refine ⟨_, rfl, _, rfl, .inl ⟨_, rfl, _, _, rfl, rfl, (by show (2147483629 : Int) ≠ 0; decide), _, rfl, _, _, rfl, rfl, .inl ⟨by decide, by decide⟩, _, _, rfl, rfl, (by show 3 ≤ sizeLine; decide), fun p np => ?_⟩⟩
        exact q _ p (fun c o e => by rw [upd_ne (ne_of_none e np)]; exact e) np ⟨rfl, _, _, _, upd_same⟩
    · refine ⟨_, rfl, 10, 18, rfl, rfl, ⟨by decide, by decide, by decide⟩, _, _, rfl, rfl, _, rfl, ?_⟩
      refine ite2 (fun h => ?_) (fun h => ?_)
      · refine ⟨_, rfl, ?_⟩
        refine ⟨_, rfl, _, rfl, .inl ⟨_, rfl, _, _, rfl, rfl, (by show (2147483629 : Int) ≠ 0; decide), _, rfl, _, _, rfl, rfl, .inl ⟨by decide, by decide⟩, _, _, rfl, rfl, (by show 3 ≤ sizeLine; decide), fun p np => ?_⟩⟩
        exact q _ p (fun c o e => by rw [upd_ne (ne_of_none e np)]; exact e) np ⟨rfl, _, _, _, upd_same⟩
      · refine ⟨_, rfl, _, rfl, .inl ⟨_, rfl, _, _, rfl, rfl, (by show (2147483629 : Int) ≠ 0; decide), _, rfl, _, _, rfl, rfl, .inl ⟨by decide, by decide⟩, _, _, rfl, rfl, (by show 3 ≤ sizeLine; decide), fun p np => ?_⟩⟩
        exact q _ p (fun c o e => by rw [upd_ne (ne_of_none e np)]; exact e) np ⟨rfl, _, _, _, upd_same⟩
theorem scPk : FnScope ["_law_bag_here", "_law_many", "_law_digit", "_law_number"] ["_law_bag_here", "_law_many"] (defScope s__law_pick) := ⟨rfl, rfl, rfl, by decide +kernel, rfl, by decide +kernel, by decide +kernel⟩
theorem ok_lpick {f : Addr} {fd : FuncData} (F : Fun K "_law_pick" "_law_pick" s__law_pick f fd) (T : Bl mg) : FnOk P w K mg base CX0 1 f fd ["_law_bag_here", "_law_many"] spDraw := by
  refine F.ok scPk (fun vs H Q E h => ?_) (fun cdv A outer s H vs Q E hr h => ?_)
  · obtain ⟨s, l, m, rfl, _⟩ := h
    rfl
  · obtain ⟨s, l, m, rfl, L, m0, m1, k⟩ := h
    obtain ⟨rfl, g, c, n, e1⟩ := id L
    refine ⟨_, pss_cons (ps_asg (pe_op op_add (pe_ix ix_list (pv 0) pe_int (fun _ _ => rfl)) pe_int) (pg_sub (pv 0) pe_int set_list))
      (pss_cons (ps_if (pt_cmpR op_gt (pe_ix ix_list (pv 0) pe_int (fun _ _ => rfl)) pe_int (nomark _))
        (pss_cons (ps_set (i := 2) scPk.nd rfl (Or.inl rfl) (pe_op op_modN (pe_callTy call_int1 (by rfl) T.gInt PyProof.Rows.boot_int (pa_cons (pe_ix ix_list (pv 0) pe_int (fun _ _ => rfl)) pa_nil)) (pv 1)))
        (pss_cons (ps_asg (pe_op op_fdiv (pe_ix ix_list (pv 0) pe_int (fun _ _ => rfl)) (pv 1)) (pg_sub (pv 0) pe_int set_list))
        (pss_one (ps_ret (pv 2))))) pss_nil)
      (pss_cons (ps_set (i := 3) scPk.nd rfl (Or.inl rfl) (pe_op op_mod (pe_callTy call_int1 (by rfl) T.gInt PyProof.Rows.boot_int (pa_cons (pe_op op_add (pe_op op_add (pe_op op_mul (pe_ix ix_list (pv 0) pe_int (fun _ _ => rfl)) pe_int) (pe_op op_mul (pe_ix ix_list (pv 0) pe_int (fun _ _ => rfl)) pe_int)) pe_int) pa_nil)) pe_int))
      (pss_cons (ps_set (i := 3) scPk.nd rfl (Or.inl rfl) (pe_op op_mod (pe_callTy call_int1 (by rfl) T.gInt PyProof.Rows.boot_int (pa_cons (pe_op op_mul (pv 3) (pe_op op_add (pe_op op_fdiv (pv 3) pe_int) pe_int)) pa_nil)) pe_int))
      (pss_cons (ps_set (i := 3) scPk.nd rfl (Or.inl rfl) (pe_op op_mod (pe_callTy call_int1 (by rfl) T.gInt PyProof.Rows.boot_int (pa_cons (pe_op op_mul (pv 3) (pe_op op_add (pe_op op_fdiv (pv 3) pe_int) pe_int)) pa_nil)) pe_int))
      (pss_one (ps_ret (pe_op op_modN (pe_op op_fdiv (pv 3) pe_int) (pv 1)))))))), ?_⟩
    -- the turn
    refine ⟨_, rfl, l, _, 2, .int n, rfl, rfl, SqL.of e1, rfl, _, _, rfl, rfl, _, rfl, l, _, 2, 2, rfl, rfl, e1, rfl, ?_⟩
    have e1' : upd H l (.lst (([.int g, .int c, .int n] : List V).set 2 (.int (n + 1)))) l = some (.lst [.int g, .int c, .int (n + 1)]) := upd_same
    have kp1 : Kp l l H (upd H l (.lst (([.int g, .int c, .int n] : List V).set 2 (.int (n + 1))))) := fun c o e h1 h2 => by rw [upd_ne h1]; exact e
    generalize upd H l (.lst (([.int g, .int c, .int n] : List V).set 2 (.int (n + 1)))) = H1 at e1' kp1
    refine ⟨_, rfl, l, _, 0, .int g, rfl, rfl, SqL.of e1', rfl, g, 0, rfl, rfl, _, rfl, ?_⟩
    refine ite2 (fun _ => ?_) (fun _ => ?_)
    · refine ⟨_, rfl, l, _, 0, .int g, rfl, rfl, SqL.of e1', rfl, .inl ⟨g, rfl, _, rfl, g, m, rfl, rfl, by omega, ?_⟩⟩
      refine ⟨_, rfl, l, _, 0, .int g, rfl, rfl, SqL.of e1', rfl, _, rfl, g, m, rfl, rfl, ⟨m0, m1⟩, _, rfl, l, _, 0, 0, rfl, rfl, e1', rfl, ?_⟩
      have hm := fmod_pos (a := g) m0
      exact ⟨_, rfl, k _ _ (fun c' o e h1 h2 => by rw [upd_ne h2]; exact kp1 c' o e h1 h2) ⟨rfl, g / m, c, n + 1, upd_same⟩ hm.1 hm.2⟩
    · refine ⟨_, rfl, l, _, 1, .int c, rfl, rfl, SqL.of e1', rfl, _, _, rfl, rfl, .inr ⟨by decide, by decide⟩, _, rfl, l, _, 2, .int (n + 1), rfl, rfl, SqL.of e1', rfl, _, _, rfl, rfl, .inr ⟨by decide, by decide⟩, _, _, rfl, rfl, _, _, rfl, rfl, .inl ⟨_, rfl, _, _, rfl, rfl, (by show (0 : Int) < 2147483647; decide), ?_⟩⟩
      generalize (c * 48271 + (n + 1) * 69621 + 11) = z1
      have b1 := emod_pos (a := z1) (m := 2147483647) (by decide)
      generalize z1 % 2147483647 = o1 at b1
      refine ⟨_, rfl, _, rfl, _, _, rfl, rfl, ⟨by decide, by decide⟩, _, _, rfl, rfl, _, _, rfl, rfl, .inl ⟨by omega, by omega⟩, .inl ⟨_, rfl, _, _, rfl, rfl, (by show (0 : Int) < 2147483399; decide), ?_⟩⟩
      generalize o1 * (o1 / 1009 + 40692) = z2
      have b2 := emod_pos (a := z2) (m := 2147483399) (by decide)
      generalize z2 % 2147483399 = o2 at b2
      refine ⟨_, rfl, _, rfl, _, _, rfl, rfl, ⟨by decide, by decide⟩, _, _, rfl, rfl, _, _, rfl, rfl, .inl ⟨by omega, by omega⟩, .inl ⟨_, rfl, _, _, rfl, rfl, (by show (0 : Int) < 2147483629; decide), ?_⟩⟩
      generalize o2 * (o2 / 2003 + 69621) = z3
      refine ⟨_, rfl, _, _, rfl, rfl, ⟨by decide, by decide⟩, _, rfl, _, m, rfl, rfl, by omega, ?_⟩
      exact k _ _ kp1 ⟨rfl, g, c, n + 1, e1'⟩ (fmod_pos m0).1 (fmod_pos m0).2
end
end Pu
namespace Pu
open PySem PySem.Spec PyProof.Rows L2
open PySem.W (findIn isFn kitOne nsIn typeIn keepIn subIn codeIn clsIn)
theorem inj_of {CT : Nat → Addr} : ∀ {cs : List Nat}, (cs.map CT).Nodup → ∀ c ∈ cs, ∀ c' ∈ cs, CT c = CT c' → c = c'
  | [], _, _, h, _, _, _ => by cases h
  | a :: cs, nd, c, h, c', h', e => by
    rw [List.map_cons, List.nodup_cons] at nd
    rcases List.mem_cons.mp h with e1 | h1
    · rcases List.mem_cons.mp h' with e2 | h2
      · exact e1.trans e2.symm
      · subst e1
        exact absurd (List.mem_map.mpr ⟨c', h2, e.symm⟩) nd.1
    · rcases List.mem_cons.mp h' with e2 | h2
      · subst e2
        exact absurd (List.mem_map.mpr ⟨c, h1, e⟩) nd.1
      · exact inj_of nd.2 c h1 c' h2 e
def tabA (l : List (Nat × Addr)) : Nat → Addr := fun n => (l.lookup n).getD 0
def tabF (l : List (Nat × List Str)) : Nat → List Str := fun n => (l.lookup n).getD []
theorem exm_of {K : PySem.W.Frag} {C S : Addr} {b : Bool} (h1 : subIn K (.ref S) (.type "BaseException") = some true) (h2 : PySem.W.isClsIn K S = true) (h3 : typeIn K (.ref S) = some (.type "type")) (h4 : subIn K (.ref C) (.ref S) = some b) :
    PySem.W.exmOne K (.ref C) (.ref S) = some b := by
  have e1 : (subIn K (.ref S) (.type "BaseException") == some true) = true := by rw [h1] <;> rfl
  have e2 : ((clsIn K S).isSome && typeIn K (.ref S) == some (.type "type")) = true := by
    have h2' : (clsIn K S).isSome = true := h2
    rw [h2', h3] <;> rfl
  unfold PySem.W.exmOne
  rw [if_pos e1]
  unfold PySem.W.kitCls
  dsimp only
  rw [if_pos e2]
  exact h4
theorem kit_same {K : PySem.W.Frag} {C : Addr} : kitOne K (.ref C) (.ref C) = some true := if_pos (beq_self_eq_true _)
theorem kit_of {K : PySem.W.Frag} {C S : Addr} {b : Bool} (h2 : PySem.W.isClsIn K S = true) (h3 : typeIn K (.ref S) = some (.type "type")) (h4 : subIn K (.ref C) (.ref S) = some b) (h : C = S → b = true) :
    kitOne K (.ref C) (.ref S) = some b := by
  by_cases e : C = S
  · subst e
    rw [h rfl]
    exact kit_same
  · have e2 : ((clsIn K S).isSome && typeIn K (.ref S) == some (.type "type")) = true := by
      have h2' : (clsIn K S).isSome = true := h2
      rw [h2', h3] <;> rfl
    have e1 : ¬ ((Value.ref C == Value.ref S) = true) := fun he => e (by simpa using he)
    unfold kitOne
    rw [if_neg e1]
    unfold PySem.W.kitCls
    dsimp only
    rw [if_pos e2]
    exact h4
theorem kit_no {K : PySem.W.Frag} {C S : Addr} {b : Bool} (h : subIn K (.ref C) (.ref S) = some false) (h' : subIn K (.ref S) (.ref S) = some true) : C = S → b = true := by
  intro e
  subst e
  rw [h] at h'
  cases h'
theorem kit_bt {K : PySem.W.Frag} {C : Addr} {T : String} {b : Bool} (h : PySem.W.kitMeta T = true) (h4 : subIn K (.ref C) (.type T) = some b) : kitOne K (.ref C) (.type T) = some b := by
  have e1 : ¬ ((Value.ref C == Value.type T) = true) := fun he => by simp at he
  unfold kitOne
  rw [if_neg e1]
  unfold PySem.W.kitCls
  dsimp only
  rw [if_pos h]
  exact h4
theorem all_mk {l : PySem.W.OpenLaw} {w : World} {K : PySem.W.Frag} {h : Heap} {mg : Str → Option Value} {fa f__law_bag f__law_pick f_BadLine_told f_BadText_told f_NoAsked_told f_NoCommand_told f_NoKind_told f_NoMeasure_told f_NoOffer_told f_NoRedo_told f_NoRoll_told f_NoTaking_told f_NoUndo_told f_NotConsistent_told f_NotExtreme_told f__law_fields f__law_kinds f__law_value f_law f_BadLine_init f_BadText_init f_NoAsked_init f_NoCommand_init f_NoKind_init f_NoOffer_init f_NoTaking_init f_NotExtreme_init C_PartError C_NoTable C_Full C_NoSuch C_NoOffer C_NoAsked C_NoTaking C_NoMeasure C_NotExtreme C_NotConsistent C_NoKind C_NoRoll C_BadText C_BadLine C_NoCommand C_NoUndo C_NoRedo : Addr} (X : K.In h) (G : h.Ns mainGlobals mg) (hfa : mg "law" = some (.ref fa))
    {nm_NoOffer q_NoOffer : Str} {NN_NoOffer B0_NoOffer : Addr} {bs_NoOffer sub_NoOffer : List Value} {sn_NoOffer : List Str} {ab_NoOffer : Bool} {col_NoOffer : Option Bool} {dd_NoOffer : Option Addr} {k0_NoOffer k1_NoOffer k2_NoOffer k3_NoOffer k5_NoOffer : Option Value} {nm_NoAsked q_NoAsked : Str} {NN_NoAsked B0_NoAsked : Addr} {bs_NoAsked sub_NoAsked : List Value} {sn_NoAsked : List Str} {ab_NoAsked : Bool} {col_NoAsked : Option Bool} {dd_NoAsked : Option Addr} {k0_NoAsked k1_NoAsked k2_NoAsked k3_NoAsked k5_NoAsked : Option Value} {nm_NoTaking q_NoTaking : Str} {NN_NoTaking B0_NoTaking : Addr} {bs_NoTaking sub_NoTaking : List Value} {sn_NoTaking : List Str} {ab_NoTaking : Bool} {col_NoTaking : Option Bool} {dd_NoTaking : Option Addr} {k0_NoTaking k1_NoTaking k2_NoTaking k3_NoTaking k5_NoTaking : Option Value} {nm_NotExtreme q_NotExtreme : Str} {NN_NotExtreme B0_NotExtreme : Addr} {bs_NotExtreme sub_NotExtreme : List Value} {sn_NotExtreme : List Str} {ab_NotExtreme : Bool} {col_NotExtreme : Option Bool} {dd_NotExtreme : Option Addr} {k0_NotExtreme k1_NotExtreme k2_NotExtreme k3_NotExtreme k5_NotExtreme : Option Value} {nm_NoKind q_NoKind : Str} {NN_NoKind B0_NoKind : Addr} {bs_NoKind sub_NoKind : List Value} {sn_NoKind : List Str} {ab_NoKind : Bool} {col_NoKind : Option Bool} {dd_NoKind : Option Addr} {k0_NoKind k1_NoKind k2_NoKind k3_NoKind k5_NoKind : Option Value} {nm_BadText q_BadText : Str} {NN_BadText B0_BadText : Addr} {bs_BadText sub_BadText : List Value} {sn_BadText : List Str} {ab_BadText : Bool} {col_BadText : Option Bool} {dd_BadText : Option Addr} {k0_BadText k1_BadText k2_BadText k3_BadText k5_BadText : Option Value} {nm_BadLine q_BadLine : Str} {NN_BadLine B0_BadLine : Addr} {bs_BadLine sub_BadLine : List Value} {sn_BadLine : List Str} {ab_BadLine : Bool} {col_BadLine : Option Bool} {dd_BadLine : Option Addr} {k0_BadLine k1_BadLine k2_BadLine k3_BadLine k5_BadLine : Option Value} {nm_NoCommand q_NoCommand : Str} {NN_NoCommand B0_NoCommand : Addr} {bs_NoCommand sub_NoCommand : List Value} {sn_NoCommand : List Str} {ab_NoCommand : Bool} {col_NoCommand : Option Bool} {dd_NoCommand : Option Addr} {k0_NoCommand k1_NoCommand k2_NoCommand k3_NoCommand k5_NoCommand : Option Value} {oc__law_bag kV__law_bag dc__law_bag pm__law_bag cd__law_bag ct__law_bag : Value} {od__law_bag an__law_bag : Option Addr} {sl__law_bag : Array (Option Value)} {oc__law_pick kV__law_pick dc__law_pick pm__law_pick cd__law_pick ct__law_pick : Value} {od__law_pick an__law_pick : Option Addr} {sl__law_pick : Array (Option Value)} {oc_BadLine_told kV_BadLine_told dc_BadLine_told pm_BadLine_told cd_BadLine_told ct_BadLine_told : Value} {od_BadLine_told an_BadLine_told : Option Addr} {sl_BadLine_told : Array (Option Value)} {oc_BadText_told kV_BadText_told dc_BadText_told pm_BadText_told cd_BadText_told ct_BadText_told : Value} {od_BadText_told an_BadText_told : Option Addr} {sl_BadText_told : Array (Option Value)} {oc_NoAsked_told kV_NoAsked_told dc_NoAsked_told pm_NoAsked_told cd_NoAsked_told ct_NoAsked_told : Value} {od_NoAsked_told an_NoAsked_told : Option Addr} {sl_NoAsked_told : Array (Option Value)} {oc_NoCommand_told kV_NoCommand_told dc_NoCommand_told pm_NoCommand_told cd_NoCommand_told ct_NoCommand_told : Value} {od_NoCommand_told an_NoCommand_told : Option Addr} {sl_NoCommand_told : Array (Option Value)} {oc_NoKind_told kV_NoKind_told dc_NoKind_told pm_NoKind_told cd_NoKind_told ct_NoKind_told : Value} {od_NoKind_told an_NoKind_told : Option Addr} {sl_NoKind_told : Array (Option Value)} {oc_NoMeasure_told kV_NoMeasure_told dc_NoMeasure_told pm_NoMeasure_told cd_NoMeasure_told ct_NoMeasure_told : Value} {od_NoMeasure_told an_NoMeasure_told : Option Addr} {sl_NoMeasure_told : Array (Option Value)} {oc_NoOffer_told kV_NoOffer_told dc_NoOffer_told pm_NoOffer_told cd_NoOffer_told ct_NoOffer_told : Value} {od_NoOffer_told an_NoOffer_told : Option Addr} {sl_NoOffer_told : Array (Option Value)} {oc_NoRedo_told kV_NoRedo_told dc_NoRedo_told pm_NoRedo_told cd_NoRedo_told ct_NoRedo_told : Value} {od_NoRedo_told an_NoRedo_told : Option Addr} {sl_NoRedo_told : Array (Option Value)} {oc_NoRoll_told kV_NoRoll_told dc_NoRoll_told pm_NoRoll_told cd_NoRoll_told ct_NoRoll_told : Value} {od_NoRoll_told an_NoRoll_told : Option Addr} {sl_NoRoll_told : Array (Option Value)} {oc_NoTaking_told kV_NoTaking_told dc_NoTaking_told pm_NoTaking_told cd_NoTaking_told ct_NoTaking_told : Value} {od_NoTaking_told an_NoTaking_told : Option Addr} {sl_NoTaking_told : Array (Option Value)} {oc_NoUndo_told kV_NoUndo_told dc_NoUndo_told pm_NoUndo_told cd_NoUndo_told ct_NoUndo_told : Value} {od_NoUndo_told an_NoUndo_told : Option Addr} {sl_NoUndo_told : Array (Option Value)} {oc_NotConsistent_told kV_NotConsistent_told dc_NotConsistent_told pm_NotConsistent_told cd_NotConsistent_told ct_NotConsistent_told : Value} {od_NotConsistent_told an_NotConsistent_told : Option Addr} {sl_NotConsistent_told : Array (Option Value)} {oc_NotExtreme_told kV_NotExtreme_told dc_NotExtreme_told pm_NotExtreme_told cd_NotExtreme_told ct_NotExtreme_told : Value} {od_NotExtreme_told an_NotExtreme_told : Option Addr} {sl_NotExtreme_told : Array (Option Value)} {oc__law_fields kV__law_fields dc__law_fields pm__law_fields cd__law_fields ct__law_fields : Value} {od__law_fields an__law_fields : Option Addr} {sl__law_fields : Array (Option Value)} {oc__law_kinds kV__law_kinds dc__law_kinds pm__law_kinds cd__law_kinds ct__law_kinds : Value} {od__law_kinds an__law_kinds : Option Addr} {sl__law_kinds : Array (Option Value)} {oc__law_value kV__law_value dc__law_value pm__law_value cd__law_value ct__law_value : Value} {od__law_value an__law_value : Option Addr} {sl__law_value : Array (Option Value)} {oc_law kV_law dc_law pm_law cd_law ct_law : Value} {od_law an_law : Option Addr} {sl_law : Array (Option Value)} {oc_BadLine_init kV_BadLine_init dc_BadLine_init pm_BadLine_init cd_BadLine_init ct_BadLine_init : Value} {od_BadLine_init an_BadLine_init : Option Addr} {sl_BadLine_init : Array (Option Value)} {oc_BadText_init kV_BadText_init dc_BadText_init pm_BadText_init cd_BadText_init ct_BadText_init : Value} {od_BadText_init an_BadText_init : Option Addr} {sl_BadText_init : Array (Option Value)} {oc_NoAsked_init kV_NoAsked_init dc_NoAsked_init pm_NoAsked_init cd_NoAsked_init ct_NoAsked_init : Value} {od_NoAsked_init an_NoAsked_init : Option Addr} {sl_NoAsked_init : Array (Option Value)} {oc_NoCommand_init kV_NoCommand_init dc_NoCommand_init pm_NoCommand_init cd_NoCommand_init ct_NoCommand_init : Value} {od_NoCommand_init an_NoCommand_init : Option Addr} {sl_NoCommand_init : Array (Option Value)} {oc_NoKind_init kV_NoKind_init dc_NoKind_init pm_NoKind_init cd_NoKind_init ct_NoKind_init : Value} {od_NoKind_init an_NoKind_init : Option Addr} {sl_NoKind_init : Array (Option Value)} {oc_NoOffer_init kV_NoOffer_init dc_NoOffer_init pm_NoOffer_init cd_NoOffer_init ct_NoOffer_init : Value} {od_NoOffer_init an_NoOffer_init : Option Addr} {sl_NoOffer_init : Array (Option Value)} {oc_NoTaking_init kV_NoTaking_init dc_NoTaking_init pm_NoTaking_init cd_NoTaking_init ct_NoTaking_init : Value} {od_NoTaking_init an_NoTaking_init : Option Addr} {sl_NoTaking_init : Array (Option Value)} {oc_NotExtreme_init kV_NotExtreme_init dc_NotExtreme_init pm_NotExtreme_init cd_NotExtreme_init ct_NotExtreme_init : Value} {od_NotExtreme_init an_NotExtreme_init : Option Addr} {sl_NotExtreme_init : Array (Option Value)}
    (clN : PySem.W.specialIn K (.builtin "object.__class__") "__get__" = some (some (.builtin "getset_descriptor.__get__")))
    (clK : PySem.W.takesIn K (.builtin "object.__class__") = some true)
    (clD : ([] : List Addr).Nodup)
    (a_PartError : nsIn K mainGlobals "PartError" = some (some (.ref C_PartError)))
    (xe_PartError : subIn K (.ref C_PartError) (.type "BaseException") = some true)
    (xt_PartError : typeIn K (.ref C_PartError) = some (.type "type"))
    (xk_PartError : keepIn K (.ref C_PartError) = true)
    (a_NoTable : nsIn K mainGlobals "NoTable" = some (some (.ref C_NoTable)))
    (xe_NoTable : subIn K (.ref C_NoTable) (.type "BaseException") = some true)
    (xt_NoTable : typeIn K (.ref C_NoTable) = some (.type "type"))
    (xk_NoTable : keepIn K (.ref C_NoTable) = true)
    (a_Full : nsIn K mainGlobals "Full" = some (some (.ref C_Full)))
    (xe_Full : subIn K (.ref C_Full) (.type "BaseException") = some true)
    (xt_Full : typeIn K (.ref C_Full) = some (.type "type"))
    (xk_Full : keepIn K (.ref C_Full) = true)
    (a_NoSuch : nsIn K mainGlobals "NoSuch" = some (some (.ref C_NoSuch)))
    (xe_NoSuch : subIn K (.ref C_NoSuch) (.type "BaseException") = some true)
    (xt_NoSuch : typeIn K (.ref C_NoSuch) = some (.type "type"))
    (xk_NoSuch : keepIn K (.ref C_NoSuch) = true)
    (a_NoOffer : nsIn K mainGlobals "NoOffer" = some (some (.ref C_NoOffer)))
    (xl_NoOffer : K.lookup C_NoOffer = some (excClassObj nm_NoOffer q_NoOffer C_NoOffer NN_NoOffer bs_NoOffer [.ref B0_NoOffer, .type "ValueError", .type "Exception", .type "BaseException", .type "object"] true sn_NoOffer sub_NoOffer ab_NoOffer col_NoOffer dd_NoOffer k0_NoOffer k1_NoOffer k2_NoOffer k3_NoOffer k5_NoOffer "ValueError.__new__"))
    (xsa_NoOffer : findIn K (.ref C_NoOffer) "__setattr__" = some (some (.builtin "object.__setattr__")))
    (xe_NoOffer : subIn K (.ref C_NoOffer) (.type "BaseException") = some true)
    (xt_NoOffer : typeIn K (.ref C_NoOffer) = some (.type "type"))
    (xk_NoOffer : keepIn K (.ref C_NoOffer) = true)
    (a_NoAsked : nsIn K mainGlobals "NoAsked" = some (some (.ref C_NoAsked)))
    (xl_NoAsked : K.lookup C_NoAsked = some (excClassObj nm_NoAsked q_NoAsked C_NoAsked NN_NoAsked bs_NoAsked [.ref B0_NoAsked, .type "ValueError", .type "Exception", .type "BaseException", .type "object"] true sn_NoAsked sub_NoAsked ab_NoAsked col_NoAsked dd_NoAsked k0_NoAsked k1_NoAsked k2_NoAsked k3_NoAsked k5_NoAsked "ValueError.__new__"))
    (xsa_NoAsked : findIn K (.ref C_NoAsked) "__setattr__" = some (some (.builtin "object.__setattr__")))
    (xe_NoAsked : subIn K (.ref C_NoAsked) (.type "BaseException") = some true)
    (xt_NoAsked : typeIn K (.ref C_NoAsked) = some (.type "type"))
    (xk_NoAsked : keepIn K (.ref C_NoAsked) = true)
    (a_NoTaking : nsIn K mainGlobals "NoTaking" = some (some (.ref C_NoTaking)))
    (xl_NoTaking : K.lookup C_NoTaking = some (excClassObj nm_NoTaking q_NoTaking C_NoTaking NN_NoTaking bs_NoTaking [.ref B0_NoTaking, .type "ValueError", .type "Exception", .type "BaseException", .type "object"] true sn_NoTaking sub_NoTaking ab_NoTaking col_NoTaking dd_NoTaking k0_NoTaking k1_NoTaking k2_NoTaking k3_NoTaking k5_NoTaking "ValueError.__new__"))
    (xsa_NoTaking : findIn K (.ref C_NoTaking) "__setattr__" = some (some (.builtin "object.__setattr__")))
    (xe_NoTaking : subIn K (.ref C_NoTaking) (.type "BaseException") = some true)
    (xt_NoTaking : typeIn K (.ref C_NoTaking) = some (.type "type"))
    (xk_NoTaking : keepIn K (.ref C_NoTaking) = true)
    (a_NoMeasure : nsIn K mainGlobals "NoMeasure" = some (some (.ref C_NoMeasure)))
    (xi_NoMeasure : PySem.W.excIn K C_NoMeasure [.type "ValueError", .type "Exception", .type "BaseException", .type "object"] "ValueError.__new__" = true)
    (xe_NoMeasure : subIn K (.ref C_NoMeasure) (.type "BaseException") = some true)
    (xt_NoMeasure : typeIn K (.ref C_NoMeasure) = some (.type "type"))
    (xk_NoMeasure : keepIn K (.ref C_NoMeasure) = true)
    (a_NotExtreme : nsIn K mainGlobals "NotExtreme" = some (some (.ref C_NotExtreme)))
    (xl_NotExtreme : K.lookup C_NotExtreme = some (excClassObj nm_NotExtreme q_NotExtreme C_NotExtreme NN_NotExtreme bs_NotExtreme [.ref B0_NotExtreme, .type "ValueError", .type "Exception", .type "BaseException", .type "object"] true sn_NotExtreme sub_NotExtreme ab_NotExtreme col_NotExtreme dd_NotExtreme k0_NotExtreme k1_NotExtreme k2_NotExtreme k3_NotExtreme k5_NotExtreme "ValueError.__new__"))
    (xsa_NotExtreme : findIn K (.ref C_NotExtreme) "__setattr__" = some (some (.builtin "object.__setattr__")))
    (xe_NotExtreme : subIn K (.ref C_NotExtreme) (.type "BaseException") = some true)
    (xt_NotExtreme : typeIn K (.ref C_NotExtreme) = some (.type "type"))
    (xk_NotExtreme : keepIn K (.ref C_NotExtreme) = true)
    (a_NotConsistent : nsIn K mainGlobals "NotConsistent" = some (some (.ref C_NotConsistent)))
    (xi_NotConsistent : PySem.W.excIn K C_NotConsistent [.type "ValueError", .type "Exception", .type "BaseException", .type "object"] "ValueError.__new__" = true)
    (xe_NotConsistent : subIn K (.ref C_NotConsistent) (.type "BaseException") = some true)
    (xt_NotConsistent : typeIn K (.ref C_NotConsistent) = some (.type "type"))
    (xk_NotConsistent : keepIn K (.ref C_NotConsistent) = true)
    (a_NoKind : nsIn K mainGlobals "NoKind" = some (some (.ref C_NoKind)))
    (xl_NoKind : K.lookup C_NoKind = some (excClassObj nm_NoKind q_NoKind C_NoKind NN_NoKind bs_NoKind [.ref B0_NoKind, .type "ValueError", .type "Exception", .type "BaseException", .type "object"] true sn_NoKind sub_NoKind ab_NoKind col_NoKind dd_NoKind k0_NoKind k1_NoKind k2_NoKind k3_NoKind k5_NoKind "ValueError.__new__"))
    (xsa_NoKind : findIn K (.ref C_NoKind) "__setattr__" = some (some (.builtin "object.__setattr__")))
    (xe_NoKind : subIn K (.ref C_NoKind) (.type "BaseException") = some true)
    (xt_NoKind : typeIn K (.ref C_NoKind) = some (.type "type"))
    (xk_NoKind : keepIn K (.ref C_NoKind) = true)
    (a_NoRoll : nsIn K mainGlobals "NoRoll" = some (some (.ref C_NoRoll)))
    (xi_NoRoll : PySem.W.excIn K C_NoRoll [.type "ValueError", .type "Exception", .type "BaseException", .type "object"] "ValueError.__new__" = true)
    (xe_NoRoll : subIn K (.ref C_NoRoll) (.type "BaseException") = some true)
    (xt_NoRoll : typeIn K (.ref C_NoRoll) = some (.type "type"))
    (xk_NoRoll : keepIn K (.ref C_NoRoll) = true)
    (a_BadText : nsIn K mainGlobals "BadText" = some (some (.ref C_BadText)))
    (xl_BadText : K.lookup C_BadText = some (excClassObj nm_BadText q_BadText C_BadText NN_BadText bs_BadText [.ref B0_BadText, .type "ValueError", .type "Exception", .type "BaseException", .type "object"] true sn_BadText sub_BadText ab_BadText col_BadText dd_BadText k0_BadText k1_BadText k2_BadText k3_BadText k5_BadText "ValueError.__new__"))
    (xsa_BadText : findIn K (.ref C_BadText) "__setattr__" = some (some (.builtin "object.__setattr__")))
    (xe_BadText : subIn K (.ref C_BadText) (.type "BaseException") = some true)
    (xt_BadText : typeIn K (.ref C_BadText) = some (.type "type"))
    (xk_BadText : keepIn K (.ref C_BadText) = true)
    (a_BadLine : nsIn K mainGlobals "BadLine" = some (some (.ref C_BadLine)))
    (xl_BadLine : K.lookup C_BadLine = some (excClassObj nm_BadLine q_BadLine C_BadLine NN_BadLine bs_BadLine [.ref B0_BadLine, .type "ValueError", .type "Exception", .type "BaseException", .type "object"] true sn_BadLine sub_BadLine ab_BadLine col_BadLine dd_BadLine k0_BadLine k1_BadLine k2_BadLine k3_BadLine k5_BadLine "ValueError.__new__"))
    (xsa_BadLine : findIn K (.ref C_BadLine) "__setattr__" = some (some (.builtin "object.__setattr__")))
    (xe_BadLine : subIn K (.ref C_BadLine) (.type "BaseException") = some true)
    (xt_BadLine : typeIn K (.ref C_BadLine) = some (.type "type"))
    (xk_BadLine : keepIn K (.ref C_BadLine) = true)
    (a_NoCommand : nsIn K mainGlobals "NoCommand" = some (some (.ref C_NoCommand)))
    (xl_NoCommand : K.lookup C_NoCommand = some (excClassObj nm_NoCommand q_NoCommand C_NoCommand NN_NoCommand bs_NoCommand [.ref B0_NoCommand, .type "ValueError", .type "Exception", .type "BaseException", .type "object"] true sn_NoCommand sub_NoCommand ab_NoCommand col_NoCommand dd_NoCommand k0_NoCommand k1_NoCommand k2_NoCommand k3_NoCommand k5_NoCommand "ValueError.__new__"))
    (xsa_NoCommand : findIn K (.ref C_NoCommand) "__setattr__" = some (some (.builtin "object.__setattr__")))
    (xe_NoCommand : subIn K (.ref C_NoCommand) (.type "BaseException") = some true)
    (xt_NoCommand : typeIn K (.ref C_NoCommand) = some (.type "type"))
    (xk_NoCommand : keepIn K (.ref C_NoCommand) = true)
    (a_NoUndo : nsIn K mainGlobals "NoUndo" = some (some (.ref C_NoUndo)))
    (xi_NoUndo : PySem.W.excIn K C_NoUndo [.type "ValueError", .type "Exception", .type "BaseException", .type "object"] "ValueError.__new__" = true)
    (xe_NoUndo : subIn K (.ref C_NoUndo) (.type "BaseException") = some true)
    (xt_NoUndo : typeIn K (.ref C_NoUndo) = some (.type "type"))
    (xk_NoUndo : keepIn K (.ref C_NoUndo) = true)
    (a_NoRedo : nsIn K mainGlobals "NoRedo" = some (some (.ref C_NoRedo)))
    (xi_NoRedo : PySem.W.excIn K C_NoRedo [.type "ValueError", .type "Exception", .type "BaseException", .type "object"] "ValueError.__new__" = true)
    (xe_NoRedo : subIn K (.ref C_NoRedo) (.type "BaseException") = some true)
    (xt_NoRedo : typeIn K (.ref C_NoRedo) = some (.type "type"))
    (xk_NoRedo : keepIn K (.ref C_NoRedo) = true)
    (a__law_bag : nsIn K mainGlobals "_law_bag" = some (some (.ref f__law_bag)))
    (l__law_bag : K.lookup f__law_bag = some ⟨oc__law_bag, od__law_bag, .func (PySem.W.fnOf "_law_bag" "_law_bag" (defArgs s__law_bag) (defBody s__law_bag) (defScope s__law_bag) .none kV__law_bag dc__law_bag pm__law_bag an__law_bag cd__law_bag ct__law_bag), sl__law_bag⟩)
    (c__law_bag : codeIn K cd__law_bag "_law_bag" = true)
    (k__law_bag : keepIn K (.ref f__law_bag) = true)
    (a__law_pick : nsIn K mainGlobals "_law_pick" = some (some (.ref f__law_pick)))
    (l__law_pick : K.lookup f__law_pick = some ⟨oc__law_pick, od__law_pick, .func (PySem.W.fnOf "_law_pick" "_law_pick" (defArgs s__law_pick) (defBody s__law_pick) (defScope s__law_pick) .none kV__law_pick dc__law_pick pm__law_pick an__law_pick cd__law_pick ct__law_pick), sl__law_pick⟩)
    (c__law_pick : codeIn K cd__law_pick "_law_pick" = true)
    (k__law_pick : keepIn K (.ref f__law_pick) = true)
    (a_BadLine_told : findIn K (.ref C_BadLine) "told" = some (some (.ref f_BadLine_told)))
    (i_BadLine_told : isFn K (.ref f_BadLine_told) = true)
    (l_BadLine_told : K.lookup f_BadLine_told = some ⟨oc_BadLine_told, od_BadLine_told, .func (PySem.W.fnOf "told" "BadLine.told" (defArgs s_BadLine_told) (defBody s_BadLine_told) (defScope s_BadLine_told) .none kV_BadLine_told dc_BadLine_told pm_BadLine_told an_BadLine_told cd_BadLine_told ct_BadLine_told), sl_BadLine_told⟩)
    (c_BadLine_told : codeIn K cd_BadLine_told "BadLine.told" = true)
    (k_BadLine_told : keepIn K (.ref f_BadLine_told) = true)
    (a_BadText_told : findIn K (.ref C_BadText) "told" = some (some (.ref f_BadText_told)))
    (i_BadText_told : isFn K (.ref f_BadText_told) = true)
    (l_BadText_told : K.lookup f_BadText_told = some ⟨oc_BadText_told, od_BadText_told, .func (PySem.W.fnOf "told" "BadText.told" (defArgs s_BadText_told) (defBody s_BadText_told) (defScope s_BadText_told) .none kV_BadText_told dc_BadText_told pm_BadText_told an_BadText_told cd_BadText_told ct_BadText_told), sl_BadText_told⟩)
    (c_BadText_told : codeIn K cd_BadText_told "BadText.told" = true)
    (k_BadText_told : keepIn K (.ref f_BadText_told) = true)
    (a_NoAsked_told : findIn K (.ref C_NoAsked) "told" = some (some (.ref f_NoAsked_told)))
    (i_NoAsked_told : isFn K (.ref f_NoAsked_told) = true)
    (l_NoAsked_told : K.lookup f_NoAsked_told = some ⟨oc_NoAsked_told, od_NoAsked_told, .func (PySem.W.fnOf "told" "NoAsked.told" (defArgs s_NoAsked_told) (defBody s_NoAsked_told) (defScope s_NoAsked_told) .none kV_NoAsked_told dc_NoAsked_told pm_NoAsked_told an_NoAsked_told cd_NoAsked_told ct_NoAsked_told), sl_NoAsked_told⟩)
    (c_NoAsked_told : codeIn K cd_NoAsked_told "NoAsked.told" = true)
    (k_NoAsked_told : keepIn K (.ref f_NoAsked_told) = true)
    (a_NoCommand_told : findIn K (.ref C_NoCommand) "told" = some (some (.ref f_NoCommand_told)))
    (i_NoCommand_told : isFn K (.ref f_NoCommand_told) = true)
    (l_NoCommand_told : K.lookup f_NoCommand_told = some ⟨oc_NoCommand_told, od_NoCommand_told, .func (PySem.W.fnOf "told" "NoCommand.told" (defArgs s_NoCommand_told) (defBody s_NoCommand_told) (defScope s_NoCommand_told) .none kV_NoCommand_told dc_NoCommand_told pm_NoCommand_told an_NoCommand_told cd_NoCommand_told ct_NoCommand_told), sl_NoCommand_told⟩)
    (c_NoCommand_told : codeIn K cd_NoCommand_told "NoCommand.told" = true)
    (k_NoCommand_told : keepIn K (.ref f_NoCommand_told) = true)
    (a_NoKind_told : findIn K (.ref C_NoKind) "told" = some (some (.ref f_NoKind_told)))
    (i_NoKind_told : isFn K (.ref f_NoKind_told) = true)
    (l_NoKind_told : K.lookup f_NoKind_told = some ⟨oc_NoKind_told, od_NoKind_told, .func (PySem.W.fnOf "told" "NoKind.told" (defArgs s_NoKind_told) (defBody s_NoKind_told) (defScope s_NoKind_told) .none kV_NoKind_told dc_NoKind_told pm_NoKind_told an_NoKind_told cd_NoKind_told ct_NoKind_told), sl_NoKind_told⟩)
    (c_NoKind_told : codeIn K cd_NoKind_told "NoKind.told" = true)
    (k_NoKind_told : keepIn K (.ref f_NoKind_told) = true)
    (a_NoMeasure_told : findIn K (.ref C_NoMeasure) "told" = some (some (.ref f_NoMeasure_told)))
    (i_NoMeasure_told : isFn K (.ref f_NoMeasure_told) = true)
    (l_NoMeasure_told : K.lookup f_NoMeasure_told = some ⟨oc_NoMeasure_told, od_NoMeasure_told, .func (PySem.W.fnOf "told" "NoMeasure.told" (defArgs s_NoMeasure_told) (defBody s_NoMeasure_told) (defScope s_NoMeasure_told) .none kV_NoMeasure_told dc_NoMeasure_told pm_NoMeasure_told an_NoMeasure_told cd_NoMeasure_told ct_NoMeasure_told), sl_NoMeasure_told⟩)
    (c_NoMeasure_told : codeIn K cd_NoMeasure_told "NoMeasure.told" = true)
    (k_NoMeasure_told : keepIn K (.ref f_NoMeasure_told) = true)
    (a_NoOffer_told : findIn K (.ref C_NoOffer) "told" = some (some (.ref f_NoOffer_told)))
    (i_NoOffer_told : isFn K (.ref f_NoOffer_told) = true)
    (l_NoOffer_told : K.lookup f_NoOffer_told = some ⟨oc_NoOffer_told, od_NoOffer_told, .func (PySem.W.fnOf "told" "NoOffer.told" (defArgs s_NoOffer_told) (defBody s_NoOffer_told) (defScope s_NoOffer_told) .none kV_NoOffer_told dc_NoOffer_told pm_NoOffer_told an_NoOffer_told cd_NoOffer_told ct_NoOffer_told), sl_NoOffer_told⟩)
    (c_NoOffer_told : codeIn K cd_NoOffer_told "NoOffer.told" = true)
    (k_NoOffer_told : keepIn K (.ref f_NoOffer_told) = true)
    (a_NoRedo_told : findIn K (.ref C_NoRedo) "told" = some (some (.ref f_NoRedo_told)))
    (i_NoRedo_told : isFn K (.ref f_NoRedo_told) = true)
    (l_NoRedo_told : K.lookup f_NoRedo_told = some ⟨oc_NoRedo_told, od_NoRedo_told, .func (PySem.W.fnOf "told" "NoRedo.told" (defArgs s_NoRedo_told) (defBody s_NoRedo_told) (defScope s_NoRedo_told) .none kV_NoRedo_told dc_NoRedo_told pm_NoRedo_told an_NoRedo_told cd_NoRedo_told ct_NoRedo_told), sl_NoRedo_told⟩)
    (c_NoRedo_told : codeIn K cd_NoRedo_told "NoRedo.told" = true)
    (k_NoRedo_told : keepIn K (.ref f_NoRedo_told) = true)
    (a_NoRoll_told : findIn K (.ref C_NoRoll) "told" = some (some (.ref f_NoRoll_told)))
    (i_NoRoll_told : isFn K (.ref f_NoRoll_told) = true)
    (l_NoRoll_told : K.lookup f_NoRoll_told = some ⟨oc_NoRoll_told, od_NoRoll_told, .func (PySem.W.fnOf "told" "NoRoll.told" (defArgs s_NoRoll_told) (defBody s_NoRoll_told) (defScope s_NoRoll_told) .none kV_NoRoll_told dc_NoRoll_told pm_NoRoll_told an_NoRoll_told cd_NoRoll_told ct_NoRoll_told), sl_NoRoll_told⟩)
    (c_NoRoll_told : codeIn K cd_NoRoll_told "NoRoll.told" = true)
    (k_NoRoll_told : keepIn K (.ref f_NoRoll_told) = true)
    (a_NoTaking_told : findIn K (.ref C_NoTaking) "told" = some (some (.ref f_NoTaking_told)))
    (i_NoTaking_told : isFn K (.ref f_NoTaking_told) = true)
    (l_NoTaking_told : K.lookup f_NoTaking_told = some ⟨oc_NoTaking_told, od_NoTaking_told, .func (PySem.W.fnOf "told" "NoTaking.told" (defArgs s_NoTaking_told) (defBody s_NoTaking_told) (defScope s_NoTaking_told) .none kV_NoTaking_told dc_NoTaking_told pm_NoTaking_told an_NoTaking_told cd_NoTaking_told ct_NoTaking_told), sl_NoTaking_told⟩)
    (c_NoTaking_told : codeIn K cd_NoTaking_told "NoTaking.told" = true)
    (k_NoTaking_told : keepIn K (.ref f_NoTaking_told) = true)
    (a_NoUndo_told : findIn K (.ref C_NoUndo) "told" = some (some (.ref f_NoUndo_told)))
    (i_NoUndo_told : isFn K (.ref f_NoUndo_told) = true)
    (l_NoUndo_told : K.lookup f_NoUndo_told = some ⟨oc_NoUndo_told, od_NoUndo_told, .func (PySem.W.fnOf "told" "NoUndo.told" (defArgs s_NoUndo_told) (defBody s_NoUndo_told) (defScope s_NoUndo_told) .none kV_NoUndo_told dc_NoUndo_told pm_NoUndo_told an_NoUndo_told cd_NoUndo_told ct_NoUndo_told), sl_NoUndo_told⟩)
    (c_NoUndo_told : codeIn K cd_NoUndo_told "NoUndo.told" = true)
    (k_NoUndo_told : keepIn K (.ref f_NoUndo_told) = true)
    (a_NotConsistent_told : findIn K (.ref C_NotConsistent) "told" = some (some (.ref f_NotConsistent_told)))
    (i_NotConsistent_told : isFn K (.ref f_NotConsistent_told) = true)
    (l_NotConsistent_told : K.lookup f_NotConsistent_told = some ⟨oc_NotConsistent_told, od_NotConsistent_told, .func (PySem.W.fnOf "told" "NotConsistent.told" (defArgs s_NotConsistent_told) (defBody s_NotConsistent_told) (defScope s_NotConsistent_told) .none kV_NotConsistent_told dc_NotConsistent_told pm_NotConsistent_told an_NotConsistent_told cd_NotConsistent_told ct_NotConsistent_told), sl_NotConsistent_told⟩)
    (c_NotConsistent_told : codeIn K cd_NotConsistent_told "NotConsistent.told" = true)
    (k_NotConsistent_told : keepIn K (.ref f_NotConsistent_told) = true)
    (a_NotExtreme_told : findIn K (.ref C_NotExtreme) "told" = some (some (.ref f_NotExtreme_told)))
    (i_NotExtreme_told : isFn K (.ref f_NotExtreme_told) = true)
    (l_NotExtreme_told : K.lookup f_NotExtreme_told = some ⟨oc_NotExtreme_told, od_NotExtreme_told, .func (PySem.W.fnOf "told" "NotExtreme.told" (defArgs s_NotExtreme_told) (defBody s_NotExtreme_told) (defScope s_NotExtreme_told) .none kV_NotExtreme_told dc_NotExtreme_told pm_NotExtreme_told an_NotExtreme_told cd_NotExtreme_told ct_NotExtreme_told), sl_NotExtreme_told⟩)
    (c_NotExtreme_told : codeIn K cd_NotExtreme_told "NotExtreme.told" = true)
    (k_NotExtreme_told : keepIn K (.ref f_NotExtreme_told) = true)
    (a__law_fields : nsIn K mainGlobals "_law_fields" = some (some (.ref f__law_fields)))
    (l__law_fields : K.lookup f__law_fields = some ⟨oc__law_fields, od__law_fields, .func (PySem.W.fnOf "_law_fields" "_law_fields" (defArgs s__law_fields) (defBody s__law_fields) (defScope s__law_fields) .none kV__law_fields dc__law_fields pm__law_fields an__law_fields cd__law_fields ct__law_fields), sl__law_fields⟩)
    (c__law_fields : codeIn K cd__law_fields "_law_fields" = true)
    (k__law_fields : keepIn K (.ref f__law_fields) = true)
    (a__law_kinds : nsIn K mainGlobals "_law_kinds" = some (some (.ref f__law_kinds)))
    (l__law_kinds : K.lookup f__law_kinds = some ⟨oc__law_kinds, od__law_kinds, .func (PySem.W.fnOf "_law_kinds" "_law_kinds" (defArgs s__law_kinds) (defBody s__law_kinds) (defScope s__law_kinds) .none kV__law_kinds dc__law_kinds pm__law_kinds an__law_kinds cd__law_kinds ct__law_kinds), sl__law_kinds⟩)
    (c__law_kinds : codeIn K cd__law_kinds "_law_kinds" = true)
    (k__law_kinds : keepIn K (.ref f__law_kinds) = true)
    (a__law_value : nsIn K mainGlobals "_law_value" = some (some (.ref f__law_value)))
    (l__law_value : K.lookup f__law_value = some ⟨oc__law_value, od__law_value, .func (PySem.W.fnOf "_law_value" "_law_value" (defArgs s__law_value) (defBody s__law_value) (defScope s__law_value) .none kV__law_value dc__law_value pm__law_value an__law_value cd__law_value ct__law_value), sl__law_value⟩)
    (c__law_value : codeIn K cd__law_value "_law_value" = true)
    (k__law_value : keepIn K (.ref f__law_value) = true)
    (a_law : nsIn K mainGlobals "law" = some (some (.ref f_law)))
    (l_law : K.lookup f_law = some ⟨oc_law, od_law, .func (PySem.W.fnOf "law" "law" (defArgs s_law) (defBody s_law) (defScope s_law) .none kV_law dc_law pm_law an_law cd_law ct_law), sl_law⟩)
    (c_law : codeIn K cd_law "law" = true)
    (k_law : keepIn K (.ref f_law) = true)
    (a_BadLine_init : findIn K (.ref C_BadLine) "__init__" = some (some (.ref f_BadLine_init)))
    (t_BadLine_init : typeIn K (.ref f_BadLine_init) = some (.type "function"))
    (l_BadLine_init : K.lookup f_BadLine_init = some ⟨oc_BadLine_init, od_BadLine_init, .func (PySem.W.fnOf "__init__" "BadLine.__init__" (defArgs s_BadLine_init) (defBody s_BadLine_init) (defScope s_BadLine_init) .none kV_BadLine_init dc_BadLine_init pm_BadLine_init an_BadLine_init cd_BadLine_init ct_BadLine_init), sl_BadLine_init⟩)
    (c_BadLine_init : codeIn K cd_BadLine_init "BadLine.__init__" = true)
    (k_BadLine_init : keepIn K (.ref f_BadLine_init) = true)
    (nf_BadLine_line : findIn K (.ref C_BadLine) "line" = some none)
    (nf_BadLine_place : findIn K (.ref C_BadLine) "place" = some none)
    (a_BadText_init : findIn K (.ref C_BadText) "__init__" = some (some (.ref f_BadText_init)))
    (t_BadText_init : typeIn K (.ref f_BadText_init) = some (.type "function"))
    (l_BadText_init : K.lookup f_BadText_init = some ⟨oc_BadText_init, od_BadText_init, .func (PySem.W.fnOf "__init__" "BadText.__init__" (defArgs s_BadText_init) (defBody s_BadText_init) (defScope s_BadText_init) .none kV_BadText_init dc_BadText_init pm_BadText_init an_BadText_init cd_BadText_init ct_BadText_init), sl_BadText_init⟩)
    (c_BadText_init : codeIn K cd_BadText_init "BadText.__init__" = true)
    (k_BadText_init : keepIn K (.ref f_BadText_init) = true)
    (nf_BadText_place : findIn K (.ref C_BadText) "place" = some none)
    (a_NoAsked_init : findIn K (.ref C_NoAsked) "__init__" = some (some (.ref f_NoAsked_init)))
    (t_NoAsked_init : typeIn K (.ref f_NoAsked_init) = some (.type "function"))
    (l_NoAsked_init : K.lookup f_NoAsked_init = some ⟨oc_NoAsked_init, od_NoAsked_init, .func (PySem.W.fnOf "__init__" "NoAsked.__init__" (defArgs s_NoAsked_init) (defBody s_NoAsked_init) (defScope s_NoAsked_init) .none kV_NoAsked_init dc_NoAsked_init pm_NoAsked_init an_NoAsked_init cd_NoAsked_init ct_NoAsked_init), sl_NoAsked_init⟩)
    (c_NoAsked_init : codeIn K cd_NoAsked_init "NoAsked.__init__" = true)
    (k_NoAsked_init : keepIn K (.ref f_NoAsked_init) = true)
    (nf_NoAsked_place : findIn K (.ref C_NoAsked) "place" = some none)
    (nf_NoAsked_word : findIn K (.ref C_NoAsked) "word" = some none)
    (a_NoCommand_init : findIn K (.ref C_NoCommand) "__init__" = some (some (.ref f_NoCommand_init)))
    (t_NoCommand_init : typeIn K (.ref f_NoCommand_init) = some (.type "function"))
    (l_NoCommand_init : K.lookup f_NoCommand_init = some ⟨oc_NoCommand_init, od_NoCommand_init, .func (PySem.W.fnOf "__init__" "NoCommand.__init__" (defArgs s_NoCommand_init) (defBody s_NoCommand_init) (defScope s_NoCommand_init) .none kV_NoCommand_init dc_NoCommand_init pm_NoCommand_init an_NoCommand_init cd_NoCommand_init ct_NoCommand_init), sl_NoCommand_init⟩)
    (c_NoCommand_init : codeIn K cd_NoCommand_init "NoCommand.__init__" = true)
    (k_NoCommand_init : keepIn K (.ref f_NoCommand_init) = true)
    (nf_NoCommand_place : findIn K (.ref C_NoCommand) "place" = some none)
    (a_NoKind_init : findIn K (.ref C_NoKind) "__init__" = some (some (.ref f_NoKind_init)))
    (t_NoKind_init : typeIn K (.ref f_NoKind_init) = some (.type "function"))
    (l_NoKind_init : K.lookup f_NoKind_init = some ⟨oc_NoKind_init, od_NoKind_init, .func (PySem.W.fnOf "__init__" "NoKind.__init__" (defArgs s_NoKind_init) (defBody s_NoKind_init) (defScope s_NoKind_init) .none kV_NoKind_init dc_NoKind_init pm_NoKind_init an_NoKind_init cd_NoKind_init ct_NoKind_init), sl_NoKind_init⟩)
    (c_NoKind_init : codeIn K cd_NoKind_init "NoKind.__init__" = true)
    (k_NoKind_init : keepIn K (.ref f_NoKind_init) = true)
    (nf_NoKind_kind : findIn K (.ref C_NoKind) "kind" = some none)
    (a_NoOffer_init : findIn K (.ref C_NoOffer) "__init__" = some (some (.ref f_NoOffer_init)))
    (t_NoOffer_init : typeIn K (.ref f_NoOffer_init) = some (.type "function"))
    (l_NoOffer_init : K.lookup f_NoOffer_init = some ⟨oc_NoOffer_init, od_NoOffer_init, .func (PySem.W.fnOf "__init__" "NoOffer.__init__" (defArgs s_NoOffer_init) (defBody s_NoOffer_init) (defScope s_NoOffer_init) .none kV_NoOffer_init dc_NoOffer_init pm_NoOffer_init an_NoOffer_init cd_NoOffer_init ct_NoOffer_init), sl_NoOffer_init⟩)
    (c_NoOffer_init : codeIn K cd_NoOffer_init "NoOffer.__init__" = true)
    (k_NoOffer_init : keepIn K (.ref f_NoOffer_init) = true)
    (nf_NoOffer_place : findIn K (.ref C_NoOffer) "place" = some none)
    (nf_NoOffer_word : findIn K (.ref C_NoOffer) "word" = some none)
    (a_NoTaking_init : findIn K (.ref C_NoTaking) "__init__" = some (some (.ref f_NoTaking_init)))
    (t_NoTaking_init : typeIn K (.ref f_NoTaking_init) = some (.type "function"))
    (l_NoTaking_init : K.lookup f_NoTaking_init = some ⟨oc_NoTaking_init, od_NoTaking_init, .func (PySem.W.fnOf "__init__" "NoTaking.__init__" (defArgs s_NoTaking_init) (defBody s_NoTaking_init) (defScope s_NoTaking_init) .none kV_NoTaking_init dc_NoTaking_init pm_NoTaking_init an_NoTaking_init cd_NoTaking_init ct_NoTaking_init), sl_NoTaking_init⟩)
    (c_NoTaking_init : codeIn K cd_NoTaking_init "NoTaking.__init__" = true)
    (k_NoTaking_init : keepIn K (.ref f_NoTaking_init) = true)
    (nf_NoTaking_name : findIn K (.ref C_NoTaking) "name" = some none)
    (a_NotExtreme_init : findIn K (.ref C_NotExtreme) "__init__" = some (some (.ref f_NotExtreme_init)))
    (t_NotExtreme_init : typeIn K (.ref f_NotExtreme_init) = some (.type "function"))
    (l_NotExtreme_init : K.lookup f_NotExtreme_init = some ⟨oc_NotExtreme_init, od_NotExtreme_init, .func (PySem.W.fnOf "__init__" "NotExtreme.__init__" (defArgs s_NotExtreme_init) (defBody s_NotExtreme_init) (defScope s_NotExtreme_init) .none kV_NotExtreme_init dc_NotExtreme_init pm_NotExtreme_init an_NotExtreme_init cd_NotExtreme_init ct_NotExtreme_init), sl_NotExtreme_init⟩)
    (c_NotExtreme_init : codeIn K cd_NotExtreme_init "NotExtreme.__init__" = true)
    (k_NotExtreme_init : keepIn K (.ref f_NotExtreme_init) = true)
    (nf_NotExtreme_name : findIn K (.ref C_NotExtreme) "name" = some none)
    (ga_NoOffer : findIn K (.ref C_NoOffer) "__getattribute__" = some (some (.builtin "BaseException.__getattribute__")))
    (gg_NoOffer : findIn K (.ref C_NoOffer) "__getattr__" = some none)
    (xh_NoOffer : PySem.W.hasDictIn K C_NoOffer = true)
    (ga_NoAsked : findIn K (.ref C_NoAsked) "__getattribute__" = some (some (.builtin "BaseException.__getattribute__")))
    (gg_NoAsked : findIn K (.ref C_NoAsked) "__getattr__" = some none)
    (xh_NoAsked : PySem.W.hasDictIn K C_NoAsked = true)
    (ga_BadText : findIn K (.ref C_BadText) "__getattribute__" = some (some (.builtin "BaseException.__getattribute__")))
    (gg_BadText : findIn K (.ref C_BadText) "__getattr__" = some none)
    (xh_BadText : PySem.W.hasDictIn K C_BadText = true)
    (ga_BadLine : findIn K (.ref C_BadLine) "__getattribute__" = some (some (.builtin "BaseException.__getattribute__")))
    (gg_BadLine : findIn K (.ref C_BadLine) "__getattr__" = some none)
    (xh_BadLine : PySem.W.hasDictIn K C_BadLine = true)
    (ga_NoCommand : findIn K (.ref C_NoCommand) "__getattribute__" = some (some (.builtin "BaseException.__getattribute__")))
    (gg_NoCommand : findIn K (.ref C_NoCommand) "__getattr__" = some none)
    (xh_NoCommand : PySem.W.hasDictIn K C_NoCommand = true)
    (ga_NoTaking : findIn K (.ref C_NoTaking) "__getattribute__" = some (some (.builtin "BaseException.__getattribute__")))
    (gg_NoTaking : findIn K (.ref C_NoTaking) "__getattr__" = some none)
    (xh_NoTaking : PySem.W.hasDictIn K C_NoTaking = true)
    (ga_NotExtreme : findIn K (.ref C_NotExtreme) "__getattribute__" = some (some (.builtin "BaseException.__getattribute__")))
    (gg_NotExtreme : findIn K (.ref C_NotExtreme) "__getattr__" = some none)
    (xh_NotExtreme : PySem.W.hasDictIn K C_NotExtreme = true)
    (ga_NoKind : findIn K (.ref C_NoKind) "__getattribute__" = some (some (.builtin "BaseException.__getattribute__")))
    (gg_NoKind : findIn K (.ref C_NoKind) "__getattr__" = some none)
    (xh_NoKind : PySem.W.hasDictIn K C_NoKind = true)
    (xc_NoMeasure : PySem.W.isClsIn K C_NoMeasure = true)
    (xs_NoOffer_NoMeasure : subIn K (.ref C_NoOffer) (.ref C_NoMeasure) = some false)
    (xs_NoMeasure_NoMeasure : subIn K (.ref C_NoMeasure) (.ref C_NoMeasure) = some true)
    (xs_NoAsked_NoMeasure : subIn K (.ref C_NoAsked) (.ref C_NoMeasure) = some false)
    (xs_NoTaking_NoMeasure : subIn K (.ref C_NoTaking) (.ref C_NoMeasure) = some false)
    (xs_NotExtreme_NoMeasure : subIn K (.ref C_NotExtreme) (.ref C_NoMeasure) = some false)
    (xs_NotConsistent_NoMeasure : subIn K (.ref C_NotConsistent) (.ref C_NoMeasure) = some false)
    (xs_NoKind_NoMeasure : subIn K (.ref C_NoKind) (.ref C_NoMeasure) = some false)
    (xs_NoRoll_NoMeasure : subIn K (.ref C_NoRoll) (.ref C_NoMeasure) = some false)
    (xs_BadText_NoMeasure : subIn K (.ref C_BadText) (.ref C_NoMeasure) = some false)
    (xs_BadLine_NoMeasure : subIn K (.ref C_BadLine) (.ref C_NoMeasure) = some false)
    (xs_NoCommand_NoMeasure : subIn K (.ref C_NoCommand) (.ref C_NoMeasure) = some false)
    (xs_NoUndo_NoMeasure : subIn K (.ref C_NoUndo) (.ref C_NoMeasure) = some false)
    (xs_NoRedo_NoMeasure : subIn K (.ref C_NoRedo) (.ref C_NoMeasure) = some false)
    (cA_NoOffer : findIn K (.ref C_NoOffer) "__class__" = some (some (.builtin "object.__class__")))
    (no_NoOffer : PySem.W.mroIn K C_NoOffer (.type "object") = some true)
    (cA_NoAsked : findIn K (.ref C_NoAsked) "__class__" = some (some (.builtin "object.__class__")))
    (no_NoAsked : PySem.W.mroIn K C_NoAsked (.type "object") = some true)
    (cA_NoTaking : findIn K (.ref C_NoTaking) "__class__" = some (some (.builtin "object.__class__")))
    (no_NoTaking : PySem.W.mroIn K C_NoTaking (.type "object") = some true)
    (ga_NoMeasure : findIn K (.ref C_NoMeasure) "__getattribute__" = some (some (.builtin "BaseException.__getattribute__")))
    (gg_NoMeasure : findIn K (.ref C_NoMeasure) "__getattr__" = some none)
    (xh_NoMeasure : PySem.W.hasDictIn K C_NoMeasure = true)
    (cA_NoMeasure : findIn K (.ref C_NoMeasure) "__class__" = some (some (.builtin "object.__class__")))
    (no_NoMeasure : PySem.W.mroIn K C_NoMeasure (.type "object") = some true)
    (cA_NotExtreme : findIn K (.ref C_NotExtreme) "__class__" = some (some (.builtin "object.__class__")))
    (no_NotExtreme : PySem.W.mroIn K C_NotExtreme (.type "object") = some true)
    (ga_NotConsistent : findIn K (.ref C_NotConsistent) "__getattribute__" = some (some (.builtin "BaseException.__getattribute__")))
    (gg_NotConsistent : findIn K (.ref C_NotConsistent) "__getattr__" = some none)
    (xh_NotConsistent : PySem.W.hasDictIn K C_NotConsistent = true)
    (cA_NotConsistent : findIn K (.ref C_NotConsistent) "__class__" = some (some (.builtin "object.__class__")))
    (no_NotConsistent : PySem.W.mroIn K C_NotConsistent (.type "object") = some true)
    (cA_NoKind : findIn K (.ref C_NoKind) "__class__" = some (some (.builtin "object.__class__")))
    (no_NoKind : PySem.W.mroIn K C_NoKind (.type "object") = some true)
    (ga_NoRoll : findIn K (.ref C_NoRoll) "__getattribute__" = some (some (.builtin "BaseException.__getattribute__")))
    (gg_NoRoll : findIn K (.ref C_NoRoll) "__getattr__" = some none)
    (xh_NoRoll : PySem.W.hasDictIn K C_NoRoll = true)
    (cA_NoRoll : findIn K (.ref C_NoRoll) "__class__" = some (some (.builtin "object.__class__")))
    (no_NoRoll : PySem.W.mroIn K C_NoRoll (.type "object") = some true)
    (cA_BadText : findIn K (.ref C_BadText) "__class__" = some (some (.builtin "object.__class__")))
    (no_BadText : PySem.W.mroIn K C_BadText (.type "object") = some true)
    (cA_BadLine : findIn K (.ref C_BadLine) "__class__" = some (some (.builtin "object.__class__")))
    (no_BadLine : PySem.W.mroIn K C_BadLine (.type "object") = some true)
    (cA_NoCommand : findIn K (.ref C_NoCommand) "__class__" = some (some (.builtin "object.__class__")))
    (no_NoCommand : PySem.W.mroIn K C_NoCommand (.type "object") = some true)
    (ga_NoUndo : findIn K (.ref C_NoUndo) "__getattribute__" = some (some (.builtin "BaseException.__getattribute__")))
    (gg_NoUndo : findIn K (.ref C_NoUndo) "__getattr__" = some none)
    (xh_NoUndo : PySem.W.hasDictIn K C_NoUndo = true)
    (cA_NoUndo : findIn K (.ref C_NoUndo) "__class__" = some (some (.builtin "object.__class__")))
    (no_NoUndo : PySem.W.mroIn K C_NoUndo (.type "object") = some true)
    (ga_NoRedo : findIn K (.ref C_NoRedo) "__getattribute__" = some (some (.builtin "BaseException.__getattribute__")))
    (gg_NoRedo : findIn K (.ref C_NoRedo) "__getattr__" = some none)
    (xh_NoRedo : PySem.W.hasDictIn K C_NoRedo = true)
    (cA_NoRedo : findIn K (.ref C_NoRedo) "__class__" = some (some (.builtin "object.__class__")))
    (no_NoRedo : PySem.W.mroIn K C_NoRedo (.type "object") = some true)
    (xc_NoTaking : PySem.W.isClsIn K C_NoTaking = true)
    (xs_NoOffer_NoTaking : subIn K (.ref C_NoOffer) (.ref C_NoTaking) = some false)
    (xs_NoTaking_NoTaking : subIn K (.ref C_NoTaking) (.ref C_NoTaking) = some true)
    (xs_NoAsked_NoTaking : subIn K (.ref C_NoAsked) (.ref C_NoTaking) = some false)
    (xs_NoMeasure_NoTaking : subIn K (.ref C_NoMeasure) (.ref C_NoTaking) = some false)
    (xs_NotExtreme_NoTaking : subIn K (.ref C_NotExtreme) (.ref C_NoTaking) = some false)
    (xs_NotConsistent_NoTaking : subIn K (.ref C_NotConsistent) (.ref C_NoTaking) = some false)
    (xs_NoKind_NoTaking : subIn K (.ref C_NoKind) (.ref C_NoTaking) = some false)
    (xs_NoRoll_NoTaking : subIn K (.ref C_NoRoll) (.ref C_NoTaking) = some false)
    (xs_BadText_NoTaking : subIn K (.ref C_BadText) (.ref C_NoTaking) = some false)
    (xs_BadLine_NoTaking : subIn K (.ref C_BadLine) (.ref C_NoTaking) = some false)
    (xs_NoCommand_NoTaking : subIn K (.ref C_NoCommand) (.ref C_NoTaking) = some false)
    (xs_NoUndo_NoTaking : subIn K (.ref C_NoUndo) (.ref C_NoTaking) = some false)
    (xs_NoRedo_NoTaking : subIn K (.ref C_NoRedo) (.ref C_NoTaking) = some false)
    (xc_NoAsked : PySem.W.isClsIn K C_NoAsked = true)
    (xs_NoOffer_NoAsked : subIn K (.ref C_NoOffer) (.ref C_NoAsked) = some false)
    (xs_NoAsked_NoAsked : subIn K (.ref C_NoAsked) (.ref C_NoAsked) = some true)
    (xs_NoTaking_NoAsked : subIn K (.ref C_NoTaking) (.ref C_NoAsked) = some false)
    (xs_NoMeasure_NoAsked : subIn K (.ref C_NoMeasure) (.ref C_NoAsked) = some false)
    (xs_NotExtreme_NoAsked : subIn K (.ref C_NotExtreme) (.ref C_NoAsked) = some false)
    (xs_NotConsistent_NoAsked : subIn K (.ref C_NotConsistent) (.ref C_NoAsked) = some false)
    (xs_NoKind_NoAsked : subIn K (.ref C_NoKind) (.ref C_NoAsked) = some false)
    (xs_NoRoll_NoAsked : subIn K (.ref C_NoRoll) (.ref C_NoAsked) = some false)
    (xs_BadText_NoAsked : subIn K (.ref C_BadText) (.ref C_NoAsked) = some false)
    (xs_BadLine_NoAsked : subIn K (.ref C_BadLine) (.ref C_NoAsked) = some false)
    (xs_NoCommand_NoAsked : subIn K (.ref C_NoCommand) (.ref C_NoAsked) = some false)
    (xs_NoUndo_NoAsked : subIn K (.ref C_NoUndo) (.ref C_NoAsked) = some false)
    (xs_NoRedo_NoAsked : subIn K (.ref C_NoRedo) (.ref C_NoAsked) = some false)
    (xc_NoOffer : PySem.W.isClsIn K C_NoOffer = true)
    (xs_NoAsked_NoOffer : subIn K (.ref C_NoAsked) (.ref C_NoOffer) = some false)
    (xs_NoOffer_NoOffer : subIn K (.ref C_NoOffer) (.ref C_NoOffer) = some true)
    (xs_NoTaking_NoOffer : subIn K (.ref C_NoTaking) (.ref C_NoOffer) = some false)
    (xs_NoMeasure_NoOffer : subIn K (.ref C_NoMeasure) (.ref C_NoOffer) = some false)
    (xs_NotExtreme_NoOffer : subIn K (.ref C_NotExtreme) (.ref C_NoOffer) = some false)
    (xs_NotConsistent_NoOffer : subIn K (.ref C_NotConsistent) (.ref C_NoOffer) = some false)
    (xs_NoKind_NoOffer : subIn K (.ref C_NoKind) (.ref C_NoOffer) = some false)
    (xs_NoRoll_NoOffer : subIn K (.ref C_NoRoll) (.ref C_NoOffer) = some false)
    (xs_BadText_NoOffer : subIn K (.ref C_BadText) (.ref C_NoOffer) = some false)
    (xs_BadLine_NoOffer : subIn K (.ref C_BadLine) (.ref C_NoOffer) = some false)
    (xs_NoCommand_NoOffer : subIn K (.ref C_NoCommand) (.ref C_NoOffer) = some false)
    (xs_NoUndo_NoOffer : subIn K (.ref C_NoUndo) (.ref C_NoOffer) = some false)
    (xs_NoRedo_NoOffer : subIn K (.ref C_NoRedo) (.ref C_NoOffer) = some false)
    (xc_NoKind : PySem.W.isClsIn K C_NoKind = true)
    (xs_NoOffer_NoKind : subIn K (.ref C_NoOffer) (.ref C_NoKind) = some false)
    (xs_NoKind_NoKind : subIn K (.ref C_NoKind) (.ref C_NoKind) = some true)
    (xs_NoAsked_NoKind : subIn K (.ref C_NoAsked) (.ref C_NoKind) = some false)
    (xs_NoTaking_NoKind : subIn K (.ref C_NoTaking) (.ref C_NoKind) = some false)
    (xs_NoMeasure_NoKind : subIn K (.ref C_NoMeasure) (.ref C_NoKind) = some false)
    (xs_NotExtreme_NoKind : subIn K (.ref C_NotExtreme) (.ref C_NoKind) = some false)
    (xs_NotConsistent_NoKind : subIn K (.ref C_NotConsistent) (.ref C_NoKind) = some false)
    (xs_NoRoll_NoKind : subIn K (.ref C_NoRoll) (.ref C_NoKind) = some false)
    (xs_BadText_NoKind : subIn K (.ref C_BadText) (.ref C_NoKind) = some false)
    (xs_BadLine_NoKind : subIn K (.ref C_BadLine) (.ref C_NoKind) = some false)
    (xs_NoCommand_NoKind : subIn K (.ref C_NoCommand) (.ref C_NoKind) = some false)
    (xs_NoUndo_NoKind : subIn K (.ref C_NoUndo) (.ref C_NoKind) = some false)
    (xs_NoRedo_NoKind : subIn K (.ref C_NoRedo) (.ref C_NoKind) = some false)
    (xc_NotConsistent : PySem.W.isClsIn K C_NotConsistent = true)
    (xs_NoOffer_NotConsistent : subIn K (.ref C_NoOffer) (.ref C_NotConsistent) = some false)
    (xs_NotConsistent_NotConsistent : subIn K (.ref C_NotConsistent) (.ref C_NotConsistent) = some true)
    (xs_NoAsked_NotConsistent : subIn K (.ref C_NoAsked) (.ref C_NotConsistent) = some false)
    (xs_NoTaking_NotConsistent : subIn K (.ref C_NoTaking) (.ref C_NotConsistent) = some false)
    (xs_NoMeasure_NotConsistent : subIn K (.ref C_NoMeasure) (.ref C_NotConsistent) = some false)
    (xs_NotExtreme_NotConsistent : subIn K (.ref C_NotExtreme) (.ref C_NotConsistent) = some false)
    (xs_NoKind_NotConsistent : subIn K (.ref C_NoKind) (.ref C_NotConsistent) = some false)
    (xs_NoRoll_NotConsistent : subIn K (.ref C_NoRoll) (.ref C_NotConsistent) = some false)
    (xs_BadText_NotConsistent : subIn K (.ref C_BadText) (.ref C_NotConsistent) = some false)
    (xs_BadLine_NotConsistent : subIn K (.ref C_BadLine) (.ref C_NotConsistent) = some false)
    (xs_NoCommand_NotConsistent : subIn K (.ref C_NoCommand) (.ref C_NotConsistent) = some false)
    (xs_NoUndo_NotConsistent : subIn K (.ref C_NoUndo) (.ref C_NotConsistent) = some false)
    (xs_NoRedo_NotConsistent : subIn K (.ref C_NoRedo) (.ref C_NotConsistent) = some false)
    (xc_NotExtreme : PySem.W.isClsIn K C_NotExtreme = true)
    (xs_NoOffer_NotExtreme : subIn K (.ref C_NoOffer) (.ref C_NotExtreme) = some false)
    (xs_NotExtreme_NotExtreme : subIn K (.ref C_NotExtreme) (.ref C_NotExtreme) = some true)
    (xs_NoAsked_NotExtreme : subIn K (.ref C_NoAsked) (.ref C_NotExtreme) = some false)
    (xs_NoTaking_NotExtreme : subIn K (.ref C_NoTaking) (.ref C_NotExtreme) = some false)
    (xs_NoMeasure_NotExtreme : subIn K (.ref C_NoMeasure) (.ref C_NotExtreme) = some false)
    (xs_NotConsistent_NotExtreme : subIn K (.ref C_NotConsistent) (.ref C_NotExtreme) = some false)
    (xs_NoKind_NotExtreme : subIn K (.ref C_NoKind) (.ref C_NotExtreme) = some false)
    (xs_NoRoll_NotExtreme : subIn K (.ref C_NoRoll) (.ref C_NotExtreme) = some false)
    (xs_BadText_NotExtreme : subIn K (.ref C_BadText) (.ref C_NotExtreme) = some false)
    (xs_BadLine_NotExtreme : subIn K (.ref C_BadLine) (.ref C_NotExtreme) = some false)
    (xs_NoCommand_NotExtreme : subIn K (.ref C_NoCommand) (.ref C_NotExtreme) = some false)
    (xs_NoUndo_NotExtreme : subIn K (.ref C_NoUndo) (.ref C_NotExtreme) = some false)
    (xs_NoRedo_NotExtreme : subIn K (.ref C_NoRedo) (.ref C_NotExtreme) = some false)
    (xc_BadLine : PySem.W.isClsIn K C_BadLine = true)
    (xs_NoOffer_BadLine : subIn K (.ref C_NoOffer) (.ref C_BadLine) = some false)
    (xs_BadLine_BadLine : subIn K (.ref C_BadLine) (.ref C_BadLine) = some true)
    (xs_NoAsked_BadLine : subIn K (.ref C_NoAsked) (.ref C_BadLine) = some false)
    (xs_NoTaking_BadLine : subIn K (.ref C_NoTaking) (.ref C_BadLine) = some false)
    (xs_NoMeasure_BadLine : subIn K (.ref C_NoMeasure) (.ref C_BadLine) = some false)
    (xs_NotExtreme_BadLine : subIn K (.ref C_NotExtreme) (.ref C_BadLine) = some false)
    (xs_NotConsistent_BadLine : subIn K (.ref C_NotConsistent) (.ref C_BadLine) = some false)
    (xs_NoKind_BadLine : subIn K (.ref C_NoKind) (.ref C_BadLine) = some false)
    (xs_NoRoll_BadLine : subIn K (.ref C_NoRoll) (.ref C_BadLine) = some false)
    (xs_BadText_BadLine : subIn K (.ref C_BadText) (.ref C_BadLine) = some false)
    (xs_NoCommand_BadLine : subIn K (.ref C_NoCommand) (.ref C_BadLine) = some false)
    (xs_NoUndo_BadLine : subIn K (.ref C_NoUndo) (.ref C_BadLine) = some false)
    (xs_NoRedo_BadLine : subIn K (.ref C_NoRedo) (.ref C_BadLine) = some false)
    (xc_BadText : PySem.W.isClsIn K C_BadText = true)
    (xs_NoOffer_BadText : subIn K (.ref C_NoOffer) (.ref C_BadText) = some false)
    (xs_BadText_BadText : subIn K (.ref C_BadText) (.ref C_BadText) = some true)
    (xs_NoAsked_BadText : subIn K (.ref C_NoAsked) (.ref C_BadText) = some false)
    (xs_NoTaking_BadText : subIn K (.ref C_NoTaking) (.ref C_BadText) = some false)
    (xs_NoMeasure_BadText : subIn K (.ref C_NoMeasure) (.ref C_BadText) = some false)
    (xs_NotExtreme_BadText : subIn K (.ref C_NotExtreme) (.ref C_BadText) = some false)
    (xs_NotConsistent_BadText : subIn K (.ref C_NotConsistent) (.ref C_BadText) = some false)
    (xs_NoKind_BadText : subIn K (.ref C_NoKind) (.ref C_BadText) = some false)
    (xs_NoRoll_BadText : subIn K (.ref C_NoRoll) (.ref C_BadText) = some false)
    (xs_BadLine_BadText : subIn K (.ref C_BadLine) (.ref C_BadText) = some false)
    (xs_NoCommand_BadText : subIn K (.ref C_NoCommand) (.ref C_BadText) = some false)
    (xs_NoUndo_BadText : subIn K (.ref C_NoUndo) (.ref C_BadText) = some false)
    (xs_NoRedo_BadText : subIn K (.ref C_NoRedo) (.ref C_BadText) = some false)
    (xc_NoRoll : PySem.W.isClsIn K C_NoRoll = true)
    (xs_NoOffer_NoRoll : subIn K (.ref C_NoOffer) (.ref C_NoRoll) = some false)
    (xs_NoRoll_NoRoll : subIn K (.ref C_NoRoll) (.ref C_NoRoll) = some true)
    (xs_NoAsked_NoRoll : subIn K (.ref C_NoAsked) (.ref C_NoRoll) = some false)
    (xs_NoTaking_NoRoll : subIn K (.ref C_NoTaking) (.ref C_NoRoll) = some false)
    (xs_NoMeasure_NoRoll : subIn K (.ref C_NoMeasure) (.ref C_NoRoll) = some false)
    (xs_NotExtreme_NoRoll : subIn K (.ref C_NotExtreme) (.ref C_NoRoll) = some false)
    (xs_NotConsistent_NoRoll : subIn K (.ref C_NotConsistent) (.ref C_NoRoll) = some false)
    (xs_NoKind_NoRoll : subIn K (.ref C_NoKind) (.ref C_NoRoll) = some false)
    (xs_BadText_NoRoll : subIn K (.ref C_BadText) (.ref C_NoRoll) = some false)
    (xs_BadLine_NoRoll : subIn K (.ref C_BadLine) (.ref C_NoRoll) = some false)
    (xs_NoCommand_NoRoll : subIn K (.ref C_NoCommand) (.ref C_NoRoll) = some false)
    (xs_NoUndo_NoRoll : subIn K (.ref C_NoUndo) (.ref C_NoRoll) = some false)
    (xs_NoRedo_NoRoll : subIn K (.ref C_NoRedo) (.ref C_NoRoll) = some false)
    (xc_NoRedo : PySem.W.isClsIn K C_NoRedo = true)
    (xs_NoOffer_NoRedo : subIn K (.ref C_NoOffer) (.ref C_NoRedo) = some false)
    (xs_NoRedo_NoRedo : subIn K (.ref C_NoRedo) (.ref C_NoRedo) = some true)
    (xs_NoAsked_NoRedo : subIn K (.ref C_NoAsked) (.ref C_NoRedo) = some false)
    (xs_NoTaking_NoRedo : subIn K (.ref C_NoTaking) (.ref C_NoRedo) = some false)
    (xs_NoMeasure_NoRedo : subIn K (.ref C_NoMeasure) (.ref C_NoRedo) = some false)
    (xs_NotExtreme_NoRedo : subIn K (.ref C_NotExtreme) (.ref C_NoRedo) = some false)
    (xs_NotConsistent_NoRedo : subIn K (.ref C_NotConsistent) (.ref C_NoRedo) = some false)
    (xs_NoKind_NoRedo : subIn K (.ref C_NoKind) (.ref C_NoRedo) = some false)
    (xs_NoRoll_NoRedo : subIn K (.ref C_NoRoll) (.ref C_NoRedo) = some false)
    (xs_BadText_NoRedo : subIn K (.ref C_BadText) (.ref C_NoRedo) = some false)
    (xs_BadLine_NoRedo : subIn K (.ref C_BadLine) (.ref C_NoRedo) = some false)
    (xs_NoCommand_NoRedo : subIn K (.ref C_NoCommand) (.ref C_NoRedo) = some false)
    (xs_NoUndo_NoRedo : subIn K (.ref C_NoUndo) (.ref C_NoRedo) = some false)
    (xc_NoUndo : PySem.W.isClsIn K C_NoUndo = true)
    (xs_NoOffer_NoUndo : subIn K (.ref C_NoOffer) (.ref C_NoUndo) = some false)
    (xs_NoUndo_NoUndo : subIn K (.ref C_NoUndo) (.ref C_NoUndo) = some true)
    (xs_NoAsked_NoUndo : subIn K (.ref C_NoAsked) (.ref C_NoUndo) = some false)
    (xs_NoTaking_NoUndo : subIn K (.ref C_NoTaking) (.ref C_NoUndo) = some false)
    (xs_NoMeasure_NoUndo : subIn K (.ref C_NoMeasure) (.ref C_NoUndo) = some false)
    (xs_NotExtreme_NoUndo : subIn K (.ref C_NotExtreme) (.ref C_NoUndo) = some false)
    (xs_NotConsistent_NoUndo : subIn K (.ref C_NotConsistent) (.ref C_NoUndo) = some false)
    (xs_NoKind_NoUndo : subIn K (.ref C_NoKind) (.ref C_NoUndo) = some false)
    (xs_NoRoll_NoUndo : subIn K (.ref C_NoRoll) (.ref C_NoUndo) = some false)
    (xs_BadText_NoUndo : subIn K (.ref C_BadText) (.ref C_NoUndo) = some false)
    (xs_BadLine_NoUndo : subIn K (.ref C_BadLine) (.ref C_NoUndo) = some false)
    (xs_NoCommand_NoUndo : subIn K (.ref C_NoCommand) (.ref C_NoUndo) = some false)
    (xs_NoRedo_NoUndo : subIn K (.ref C_NoRedo) (.ref C_NoUndo) = some false)
    (xc_NoCommand : PySem.W.isClsIn K C_NoCommand = true)
    (xs_NoOffer_NoCommand : subIn K (.ref C_NoOffer) (.ref C_NoCommand) = some false)
    (xs_NoCommand_NoCommand : subIn K (.ref C_NoCommand) (.ref C_NoCommand) = some true)
    (xs_NoAsked_NoCommand : subIn K (.ref C_NoAsked) (.ref C_NoCommand) = some false)
    (xs_NoTaking_NoCommand : subIn K (.ref C_NoTaking) (.ref C_NoCommand) = some false)
    (xs_NoMeasure_NoCommand : subIn K (.ref C_NoMeasure) (.ref C_NoCommand) = some false)
    (xs_NotExtreme_NoCommand : subIn K (.ref C_NotExtreme) (.ref C_NoCommand) = some false)
    (xs_NotConsistent_NoCommand : subIn K (.ref C_NotConsistent) (.ref C_NoCommand) = some false)
    (xs_NoKind_NoCommand : subIn K (.ref C_NoKind) (.ref C_NoCommand) = some false)
    (xs_NoRoll_NoCommand : subIn K (.ref C_NoRoll) (.ref C_NoCommand) = some false)
    (xs_BadText_NoCommand : subIn K (.ref C_BadText) (.ref C_NoCommand) = some false)
    (xs_BadLine_NoCommand : subIn K (.ref C_BadLine) (.ref C_NoCommand) = some false)
    (xs_NoUndo_NoCommand : subIn K (.ref C_NoUndo) (.ref C_NoCommand) = some false)
    (xs_NoRedo_NoCommand : subIn K (.ref C_NoRedo) (.ref C_NoCommand) = some false)
    (xc_NoTable : PySem.W.isClsIn K C_NoTable = true)
    (xs_NoOffer_NoTable : subIn K (.ref C_NoOffer) (.ref C_NoTable) = some false)
    (xs_NoTable_NoTable : subIn K (.ref C_NoTable) (.ref C_NoTable) = some true)
    (xs_NoAsked_NoTable : subIn K (.ref C_NoAsked) (.ref C_NoTable) = some false)
    (xs_NoTaking_NoTable : subIn K (.ref C_NoTaking) (.ref C_NoTable) = some false)
    (xs_NoMeasure_NoTable : subIn K (.ref C_NoMeasure) (.ref C_NoTable) = some false)
    (xs_NotExtreme_NoTable : subIn K (.ref C_NotExtreme) (.ref C_NoTable) = some false)
    (xs_NotConsistent_NoTable : subIn K (.ref C_NotConsistent) (.ref C_NoTable) = some false)
    (xs_NoKind_NoTable : subIn K (.ref C_NoKind) (.ref C_NoTable) = some false)
    (xs_NoRoll_NoTable : subIn K (.ref C_NoRoll) (.ref C_NoTable) = some false)
    (xs_BadText_NoTable : subIn K (.ref C_BadText) (.ref C_NoTable) = some false)
    (xs_BadLine_NoTable : subIn K (.ref C_BadLine) (.ref C_NoTable) = some false)
    (xs_NoCommand_NoTable : subIn K (.ref C_NoCommand) (.ref C_NoTable) = some false)
    (xs_NoUndo_NoTable : subIn K (.ref C_NoUndo) (.ref C_NoTable) = some false)
    (xs_NoRedo_NoTable : subIn K (.ref C_NoRedo) (.ref C_NoTable) = some false)
    (xc_NoSuch : PySem.W.isClsIn K C_NoSuch = true)
    (xs_NoOffer_NoSuch : subIn K (.ref C_NoOffer) (.ref C_NoSuch) = some false)
    (xs_NoSuch_NoSuch : subIn K (.ref C_NoSuch) (.ref C_NoSuch) = some true)
    (xs_NoAsked_NoSuch : subIn K (.ref C_NoAsked) (.ref C_NoSuch) = some false)
    (xs_NoTaking_NoSuch : subIn K (.ref C_NoTaking) (.ref C_NoSuch) = some false)
    (xs_NoMeasure_NoSuch : subIn K (.ref C_NoMeasure) (.ref C_NoSuch) = some false)
    (xs_NotExtreme_NoSuch : subIn K (.ref C_NotExtreme) (.ref C_NoSuch) = some false)
    (xs_NotConsistent_NoSuch : subIn K (.ref C_NotConsistent) (.ref C_NoSuch) = some false)
    (xs_NoKind_NoSuch : subIn K (.ref C_NoKind) (.ref C_NoSuch) = some false)
    (xs_NoRoll_NoSuch : subIn K (.ref C_NoRoll) (.ref C_NoSuch) = some false)
    (xs_BadText_NoSuch : subIn K (.ref C_BadText) (.ref C_NoSuch) = some false)
    (xs_BadLine_NoSuch : subIn K (.ref C_BadLine) (.ref C_NoSuch) = some false)
    (xs_NoCommand_NoSuch : subIn K (.ref C_NoCommand) (.ref C_NoSuch) = some false)
    (xs_NoUndo_NoSuch : subIn K (.ref C_NoUndo) (.ref C_NoSuch) = some false)
    (xs_NoRedo_NoSuch : subIn K (.ref C_NoRedo) (.ref C_NoSuch) = some false)
    (xc_Full : PySem.W.isClsIn K C_Full = true)
    (xs_NoOffer_Full : subIn K (.ref C_NoOffer) (.ref C_Full) = some false)
    (xs_Full_Full : subIn K (.ref C_Full) (.ref C_Full) = some true)
    (xs_NoAsked_Full : subIn K (.ref C_NoAsked) (.ref C_Full) = some false)
    (xs_NoTaking_Full : subIn K (.ref C_NoTaking) (.ref C_Full) = some false)
    (xs_NoMeasure_Full : subIn K (.ref C_NoMeasure) (.ref C_Full) = some false)
    (xs_NotExtreme_Full : subIn K (.ref C_NotExtreme) (.ref C_Full) = some false)
    (xs_NotConsistent_Full : subIn K (.ref C_NotConsistent) (.ref C_Full) = some false)
    (xs_NoKind_Full : subIn K (.ref C_NoKind) (.ref C_Full) = some false)
    (xs_NoRoll_Full : subIn K (.ref C_NoRoll) (.ref C_Full) = some false)
    (xs_BadText_Full : subIn K (.ref C_BadText) (.ref C_Full) = some false)
    (xs_BadLine_Full : subIn K (.ref C_BadLine) (.ref C_Full) = some false)
    (xs_NoCommand_Full : subIn K (.ref C_NoCommand) (.ref C_Full) = some false)
    (xs_NoUndo_Full : subIn K (.ref C_NoUndo) (.ref C_Full) = some false)
    (xs_NoRedo_Full : subIn K (.ref C_NoRedo) (.ref C_Full) = some false)
    (xc_PartError : PySem.W.isClsIn K C_PartError = true)
    (xs_NoOffer_PartError : subIn K (.ref C_NoOffer) (.ref C_PartError) = some true)
    (xs_NoAsked_PartError : subIn K (.ref C_NoAsked) (.ref C_PartError) = some true)
    (xs_NoTaking_PartError : subIn K (.ref C_NoTaking) (.ref C_PartError) = some true)
    (xs_NoMeasure_PartError : subIn K (.ref C_NoMeasure) (.ref C_PartError) = some true)
    (xs_NotExtreme_PartError : subIn K (.ref C_NotExtreme) (.ref C_PartError) = some true)
    (xs_NotConsistent_PartError : subIn K (.ref C_NotConsistent) (.ref C_PartError) = some true)
    (xs_NoKind_PartError : subIn K (.ref C_NoKind) (.ref C_PartError) = some true)
    (xs_NoRoll_PartError : subIn K (.ref C_NoRoll) (.ref C_PartError) = some true)
    (xs_BadText_PartError : subIn K (.ref C_BadText) (.ref C_PartError) = some true)
    (xs_BadLine_PartError : subIn K (.ref C_BadLine) (.ref C_PartError) = some true)
    (xs_NoCommand_PartError : subIn K (.ref C_NoCommand) (.ref C_PartError) = some true)
    (xs_NoUndo_PartError : subIn K (.ref C_NoUndo) (.ref C_PartError) = some true)
    (xs_NoRedo_PartError : subIn K (.ref C_NoRedo) (.ref C_PartError) = some true)
    (xb_NoOffer_ValueError : subIn K (.ref C_NoOffer) (.type "ValueError") = some true)
    (xb_NoAsked_ValueError : subIn K (.ref C_NoAsked) (.type "ValueError") = some true)
    (xb_NoTaking_ValueError : subIn K (.ref C_NoTaking) (.type "ValueError") = some true)
    (xb_NoMeasure_ValueError : subIn K (.ref C_NoMeasure) (.type "ValueError") = some true)
    (xb_NotExtreme_ValueError : subIn K (.ref C_NotExtreme) (.type "ValueError") = some true)
    (xb_NotConsistent_ValueError : subIn K (.ref C_NotConsistent) (.type "ValueError") = some true)
    (xb_NoKind_ValueError : subIn K (.ref C_NoKind) (.type "ValueError") = some true)
    (xb_NoRoll_ValueError : subIn K (.ref C_NoRoll) (.type "ValueError") = some true)
    (xb_BadText_ValueError : subIn K (.ref C_BadText) (.type "ValueError") = some true)
    (xb_BadLine_ValueError : subIn K (.ref C_BadLine) (.type "ValueError") = some true)
    (xb_NoCommand_ValueError : subIn K (.ref C_NoCommand) (.type "ValueError") = some true)
    (xb_NoUndo_ValueError : subIn K (.ref C_NoUndo) (.type "ValueError") = some true)
    (xb_NoRedo_ValueError : subIn K (.ref C_NoRedo) (.type "ValueError") = some true)
    (z_ValueError : nsIn K mainGlobals "ValueError" = some none)
    (z_int : nsIn K mainGlobals "int" = some none)
    (z_isinstance : nsIn K mainGlobals "isinstance" = some none)
    (z_len : nsIn K mainGlobals "len" = some none)
    (z_range : nsIn K mainGlobals "range" = some none)
    (z_str : nsIn K mainGlobals "str" = some none)
    : ∃ fd : FuncData, (∀ (s : Shared) (v : Value), BindsTo s fd ⟨[v], []⟩ [("_law_script", v)]) ∧ ∀ base : Heap, K.In base → base.Ns mainGlobals mg → FnOk l.prog w K mg base (L2.CX l.prog w) 3 fa fd ["_law_script"] (spLaw K) := by
  have e0 := hfa.symm.trans (PySem.W.mg_of X G a_law)
  cases e0
  refine ⟨PySem.W.fnOf "law" "law" (defArgs s_law) (defBody s_law) (defScope s_law) .none kV_law dc_law pm_law an_law cd_law ct_law, fun s v => ?_, fun base KB GB => ?_⟩
  · exact .of_eq rfl
  let CT : Nat → Addr := tabA [(20, C_PartError), (28, C_NoTable), (34, C_Full), (35, C_NoSuch), (37, C_NoOffer), (38, C_NoAsked), (39, C_NoTaking), (40, C_NoMeasure), (41, C_NotExtreme), (42, C_NotConsistent), (43, C_NoKind), (44, C_NoRoll), (45, C_BadText), (46, C_BadLine), (47, C_NoCommand), (48, C_NoUndo), (49, C_NoRedo)]
  let lay : Nat → List Str := tabF [(20, []), (28, ["place", "word"]), (34, ["number"]), (35, ["name"]), (37, ["place", "word"]), (38, ["place", "word"]), (39, ["name"]), (40, []), (41, ["name"]), (42, []), (43, ["kind"]), (44, []), (45, ["place"]), (46, ["line", "place"]), (47, ["place"]), (48, []), (49, [])]
  have Z_ValueError : mg "ValueError" = none := PySem.W.mg_none_of X G z_ValueError
  have Z_int : mg "int" = none := PySem.W.mg_none_of X G z_int
  have Z_isinstance : mg "isinstance" = none := PySem.W.mg_none_of X G z_isinstance
  have Z_len : mg "len" = none := PySem.W.mg_none_of X G z_len
  have Z_range : mg "range" = none := PySem.W.mg_none_of X G z_range
  have Z_str : mg "str" = none := PySem.W.mg_none_of X G z_str
  have B : Bl mg := ⟨Z_int, Z_len⟩
  have F__law_bag := fun_mk (x := "_law_bag") (qual := "_law_bag") (st := s__law_bag) l__law_bag c__law_bag k__law_bag
  have b__law_bag := F__law_bag.binds (ps := ["_law_script", "_law_k"]) fun _ _ _ _ _ _ us hl => match us, hl with | [_, _], _ => rfl
  have m__law_bag : mg "_law_bag" = some (.ref f__law_bag) := PySem.W.mg_of X G a__law_bag
  have F__law_pick := fun_mk (x := "_law_pick") (qual := "_law_pick") (st := s__law_pick) l__law_pick c__law_pick k__law_pick
  have b__law_pick := F__law_pick.binds (ps := ["_law_bag_here", "_law_many"]) fun _ _ _ _ _ _ us hl => match us, hl with | [_, _], _ => rfl
  have m__law_pick : mg "_law_pick" = some (.ref f__law_pick) := PySem.W.mg_of X G a__law_pick
  have F_BadLine_told := fun_mk (x := "told") (qual := "BadLine.told") (st := s_BadLine_told) l_BadLine_told c_BadLine_told k_BadLine_told
  have b_BadLine_told := F_BadLine_told.binds (ps := ["self"]) fun _ _ _ _ _ _ us hl => match us, hl with | [_], _ => rfl
  have F_BadText_told := fun_mk (x := "told") (qual := "BadText.told") (st := s_BadText_told) l_BadText_told c_BadText_told k_BadText_told
  have b_BadText_told := F_BadText_told.binds (ps := ["self"]) fun _ _ _ _ _ _ us hl => match us, hl with | [_], _ => rfl
  have F_NoAsked_told := fun_mk (x := "told") (qual := "NoAsked.told") (st := s_NoAsked_told) l_NoAsked_told c_NoAsked_told k_NoAsked_told
  have b_NoAsked_told := F_NoAsked_told.binds (ps := ["self"]) fun _ _ _ _ _ _ us hl => match us, hl with | [_], _ => rfl
  have F_NoCommand_told := fun_mk (x := "told") (qual := "NoCommand.told") (st := s_NoCommand_told) l_NoCommand_told c_NoCommand_told k_NoCommand_told
  have b_NoCommand_told := F_NoCommand_told.binds (ps := ["self"]) fun _ _ _ _ _ _ us hl => match us, hl with | [_], _ => rfl
  have F_NoKind_told := fun_mk (x := "told") (qual := "NoKind.told") (st := s_NoKind_told) l_NoKind_told c_NoKind_told k_NoKind_told
  have b_NoKind_told := F_NoKind_told.binds (ps := ["self"]) fun _ _ _ _ _ _ us hl => match us, hl with | [_], _ => rfl
  have F_NoMeasure_told := fun_mk (x := "told") (qual := "NoMeasure.told") (st := s_NoMeasure_told) l_NoMeasure_told c_NoMeasure_told k_NoMeasure_told
  have b_NoMeasure_told := F_NoMeasure_told.binds (ps := ["self"]) fun _ _ _ _ _ _ us hl => match us, hl with | [_], _ => rfl
  have F_NoOffer_told := fun_mk (x := "told") (qual := "NoOffer.told") (st := s_NoOffer_told) l_NoOffer_told c_NoOffer_told k_NoOffer_told
  have b_NoOffer_told := F_NoOffer_told.binds (ps := ["self"]) fun _ _ _ _ _ _ us hl => match us, hl with | [_], _ => rfl
  have F_NoRedo_told := fun_mk (x := "told") (qual := "NoRedo.told") (st := s_NoRedo_told) l_NoRedo_told c_NoRedo_told k_NoRedo_told
  have b_NoRedo_told := F_NoRedo_told.binds (ps := ["self"]) fun _ _ _ _ _ _ us hl => match us, hl with | [_], _ => rfl
  have F_NoRoll_told := fun_mk (x := "told") (qual := "NoRoll.told") (st := s_NoRoll_told) l_NoRoll_told c_NoRoll_told k_NoRoll_told
  have b_NoRoll_told := F_NoRoll_told.binds (ps := ["self"]) fun _ _ _ _ _ _ us hl => match us, hl with | [_], _ => rfl
  have F_NoTaking_told := fun_mk (x := "told") (qual := "NoTaking.told") (st := s_NoTaking_told) l_NoTaking_told c_NoTaking_told k_NoTaking_told
  have b_NoTaking_told := F_NoTaking_told.binds (ps := ["self"]) fun _ _ _ _ _ _ us hl => match us, hl with | [_], _ => rfl
  have F_NoUndo_told := fun_mk (x := "told") (qual := "NoUndo.told") (st := s_NoUndo_told) l_NoUndo_told c_NoUndo_told k_NoUndo_told
  have b_NoUndo_told := F_NoUndo_told.binds (ps := ["self"]) fun _ _ _ _ _ _ us hl => match us, hl with | [_], _ => rfl
  have F_NotConsistent_told := fun_mk (x := "told") (qual := "NotConsistent.told") (st := s_NotConsistent_told) l_NotConsistent_told c_NotConsistent_told k_NotConsistent_told
  have b_NotConsistent_told := F_NotConsistent_told.binds (ps := ["self"]) fun _ _ _ _ _ _ us hl => match us, hl with | [_], _ => rfl
  have F_NotExtreme_told := fun_mk (x := "told") (qual := "NotExtreme.told") (st := s_NotExtreme_told) l_NotExtreme_told c_NotExtreme_told k_NotExtreme_told
  have b_NotExtreme_told := F_NotExtreme_told.binds (ps := ["self"]) fun _ _ _ _ _ _ us hl => match us, hl with | [_], _ => rfl
  have F__law_fields := fun_mk (x := "_law_fields") (qual := "_law_fields") (st := s__law_fields) l__law_fields c__law_fields k__law_fields
  have b__law_fields := F__law_fields.binds (ps := ["_law_made", "_law_one", "_law_other"]) fun _ _ _ _ _ _ us hl => match us, hl with | [_, _, _], _ => rfl
  have m__law_fields : mg "_law_fields" = some (.ref f__law_fields) := PySem.W.mg_of X G a__law_fields
  have F__law_kinds := fun_mk (x := "_law_kinds") (qual := "_law_kinds") (st := s__law_kinds) l__law_kinds c__law_kinds k__law_kinds
  have b__law_kinds := F__law_kinds.binds (ps := ["_law_e"]) fun _ _ _ _ _ _ us hl => match us, hl with | [_], _ => rfl
  have m__law_kinds : mg "_law_kinds" = some (.ref f__law_kinds) := PySem.W.mg_of X G a__law_kinds
  have F__law_value := fun_mk (x := "_law_value") (qual := "_law_value") (st := s__law_value) l__law_value c__law_value k__law_value
  have b__law_value := F__law_value.binds (ps := ["_law_bag_here"]) fun _ _ _ _ _ _ us hl => match us, hl with | [_], _ => rfl
  have m__law_value : mg "_law_value" = some (.ref f__law_value) := PySem.W.mg_of X G a__law_value
  have F_law := fun_mk (x := "law") (qual := "law") (st := s_law) l_law c_law k_law
  have F_BadLine_init := fun_mk (x := "__init__") (qual := "BadLine.__init__") (st := s_BadLine_init) l_BadLine_init c_BadLine_init k_BadLine_init
  have b_BadLine_init := F_BadLine_init.binds (ps := ["self", "line", "place"]) fun _ _ _ _ _ _ us hl => match us, hl with | [_, _, _], _ => rfl
  have Ox_BadLine : OexC K C_BadLine := ⟨⟨nm_BadLine, q_BadLine, NN_BadLine, bs_BadLine, _, sn_BadLine, sub_BadLine, ab_BadLine, col_BadLine, dd_BadLine, k0_BadLine, k1_BadLine, k2_BadLine, k3_BadLine, k5_BadLine, xl_BadLine, rfl⟩, xsa_BadLine, xe_BadLine, xt_BadLine, xk_BadLine⟩
  have Xi_BadLine := exn2_ok (P := l.prog) (w := w) (mg := mg) (base := base) (k := 0) (Fun.g F_BadLine_init) Ox_BadLine nf_BadLine_line nf_BadLine_place rfl ⟨rfl, rfl, rfl, by decide +kernel, rfl, by decide +kernel, by decide +kernel⟩ (by decide) (by decide) (by decide) (by decide) (by decide) (fun _ _ _ => ⟨Or.inl rfl, Or.inl rfl, Or.inl rfl⟩) (fun _ _ _ => ⟨rfl, rfl⟩)
  have F_BadText_init := fun_mk (x := "__init__") (qual := "BadText.__init__") (st := s_BadText_init) l_BadText_init c_BadText_init k_BadText_init
  have b_BadText_init := F_BadText_init.binds (ps := ["self", "place"]) fun _ _ _ _ _ _ us hl => match us, hl with | [_, _], _ => rfl
  have Ox_BadText : OexC K C_BadText := ⟨⟨nm_BadText, q_BadText, NN_BadText, bs_BadText, _, sn_BadText, sub_BadText, ab_BadText, col_BadText, dd_BadText, k0_BadText, k1_BadText, k2_BadText, k3_BadText, k5_BadText, xl_BadText, rfl⟩, xsa_BadText, xe_BadText, xt_BadText, xk_BadText⟩
  have Xi_BadText := exn1_ok (P := l.prog) (w := w) (mg := mg) (base := base) (k := 0) (Fun.g F_BadText_init) Ox_BadText nf_BadText_place rfl ⟨rfl, rfl, rfl, by decide +kernel, rfl, by decide +kernel, by decide +kernel⟩ (by decide) (by decide) (fun _ _ _ => ⟨Or.inl rfl, Or.inl rfl⟩) (fun _ _ _ => rfl)
  have F_NoAsked_init := fun_mk (x := "__init__") (qual := "NoAsked.__init__") (st := s_NoAsked_init) l_NoAsked_init c_NoAsked_init k_NoAsked_init
  have b_NoAsked_init := F_NoAsked_init.binds (ps := ["self", "place", "word"]) fun _ _ _ _ _ _ us hl => match us, hl with | [_, _, _], _ => rfl
  have Ox_NoAsked : OexC K C_NoAsked := ⟨⟨nm_NoAsked, q_NoAsked, NN_NoAsked, bs_NoAsked, _, sn_NoAsked, sub_NoAsked, ab_NoAsked, col_NoAsked, dd_NoAsked, k0_NoAsked, k1_NoAsked, k2_NoAsked, k3_NoAsked, k5_NoAsked, xl_NoAsked, rfl⟩, xsa_NoAsked, xe_NoAsked, xt_NoAsked, xk_NoAsked⟩
  have Xi_NoAsked := exn2_ok (P := l.prog) (w := w) (mg := mg) (base := base) (k := 0) (Fun.g F_NoAsked_init) Ox_NoAsked nf_NoAsked_place nf_NoAsked_word rfl ⟨rfl, rfl, rfl, by decide +kernel, rfl, by decide +kernel, by decide +kernel⟩ (by decide) (by decide) (by decide) (by decide) (by decide) (fun _ _ _ => ⟨Or.inl rfl, Or.inl rfl, Or.inl rfl⟩) (fun _ _ _ => ⟨rfl, rfl⟩)
  have F_NoCommand_init := fun_mk (x := "__init__") (qual := "NoCommand.__init__") (st := s_NoCommand_init) l_NoCommand_init c_NoCommand_init k_NoCommand_init
  have b_NoCommand_init := F_NoCommand_init.binds (ps := ["self", "place"]) fun _ _ _ _ _ _ us hl => match us, hl with | [_, _], _ => rfl
  have Ox_NoCommand : OexC K C_NoCommand := ⟨⟨nm_NoCommand, q_NoCommand, NN_NoCommand, bs_NoCommand, _, sn_NoCommand, sub_NoCommand, ab_NoCommand, col_NoCommand, dd_NoCommand, k0_NoCommand, k1_NoCommand, k2_NoCommand, k3_NoCommand, k5_NoCommand, xl_NoCommand, rfl⟩, xsa_NoCommand, xe_NoCommand, xt_NoCommand, xk_NoCommand⟩
  have Xi_NoCommand := exn1_ok (P := l.prog) (w := w) (mg := mg) (base := base) (k := 0) (Fun.g F_NoCommand_init) Ox_NoCommand nf_NoCommand_place rfl ⟨rfl, rfl, rfl, by decide +kernel, rfl, by decide +kernel, by decide +kernel⟩ (by decide) (by decide) (fun _ _ _ => ⟨Or.inl rfl, Or.inl rfl⟩) (fun _ _ _ => rfl)
  have F_NoKind_init := fun_mk (x := "__init__") (qual := "NoKind.__init__") (st := s_NoKind_init) l_NoKind_init c_NoKind_init k_NoKind_init
  have b_NoKind_init := F_NoKind_init.binds (ps := ["self", "kind"]) fun _ _ _ _ _ _ us hl => match us, hl with | [_, _], _ => rfl
  have Ox_NoKind : OexC K C_NoKind := ⟨⟨nm_NoKind, q_NoKind, NN_NoKind, bs_NoKind, _, sn_NoKind, sub_NoKind, ab_NoKind, col_NoKind, dd_NoKind, k0_NoKind, k1_NoKind, k2_NoKind, k3_NoKind, k5_NoKind, xl_NoKind, rfl⟩, xsa_NoKind, xe_NoKind, xt_NoKind, xk_NoKind⟩
  have Xi_NoKind := exn1_ok (P := l.prog) (w := w) (mg := mg) (base := base) (k := 0) (Fun.g F_NoKind_init) Ox_NoKind nf_NoKind_kind rfl ⟨rfl, rfl, rfl, by decide +kernel, rfl, by decide +kernel, by decide +kernel⟩ (by decide) (by decide) (fun _ _ _ => ⟨Or.inl rfl, Or.inl rfl⟩) (fun _ _ _ => rfl)
  have F_NoOffer_init := fun_mk (x := "__init__") (qual := "NoOffer.__init__") (st := s_NoOffer_init) l_NoOffer_init c_NoOffer_init k_NoOffer_init
  have b_NoOffer_init := F_NoOffer_init.binds (ps := ["self", "place", "word"]) fun _ _ _ _ _ _ us hl => match us, hl with | [_, _, _], _ => rfl
  have Ox_NoOffer : OexC K C_NoOffer := ⟨⟨nm_NoOffer, q_NoOffer, NN_NoOffer, bs_NoOffer, _, sn_NoOffer, sub_NoOffer, ab_NoOffer, col_NoOffer, dd_NoOffer, k0_NoOffer, k1_NoOffer, k2_NoOffer, k3_NoOffer, k5_NoOffer, xl_NoOffer, rfl⟩, xsa_NoOffer, xe_NoOffer, xt_NoOffer, xk_NoOffer⟩
  have Xi_NoOffer := exn2_ok (P := l.prog) (w := w) (mg := mg) (base := base) (k := 0) (Fun.g F_NoOffer_init) Ox_NoOffer nf_NoOffer_place nf_NoOffer_word rfl ⟨rfl, rfl, rfl, by decide +kernel, rfl, by decide +kernel, by decide +kernel⟩ (by decide) (by decide) (by decide) (by decide) (by decide) (fun _ _ _ => ⟨Or.inl rfl, Or.inl rfl, Or.inl rfl⟩) (fun _ _ _ => ⟨rfl, rfl⟩)
  have F_NoTaking_init := fun_mk (x := "__init__") (qual := "NoTaking.__init__") (st := s_NoTaking_init) l_NoTaking_init c_NoTaking_init k_NoTaking_init
  have b_NoTaking_init := F_NoTaking_init.binds (ps := ["self", "name"]) fun _ _ _ _ _ _ us hl => match us, hl with | [_, _], _ => rfl
  have Ox_NoTaking : OexC K C_NoTaking := ⟨⟨nm_NoTaking, q_NoTaking, NN_NoTaking, bs_NoTaking, _, sn_NoTaking, sub_NoTaking, ab_NoTaking, col_NoTaking, dd_NoTaking, k0_NoTaking, k1_NoTaking, k2_NoTaking, k3_NoTaking, k5_NoTaking, xl_NoTaking, rfl⟩, xsa_NoTaking, xe_NoTaking, xt_NoTaking, xk_NoTaking⟩
  have Xi_NoTaking := exn1_ok (P := l.prog) (w := w) (mg := mg) (base := base) (k := 0) (Fun.g F_NoTaking_init) Ox_NoTaking nf_NoTaking_name rfl ⟨rfl, rfl, rfl, by decide +kernel, rfl, by decide +kernel, by decide +kernel⟩ (by decide) (by decide) (fun _ _ _ => ⟨Or.inl rfl, Or.inl rfl⟩) (fun _ _ _ => rfl)
  have F_NotExtreme_init := fun_mk (x := "__init__") (qual := "NotExtreme.__init__") (st := s_NotExtreme_init) l_NotExtreme_init c_NotExtreme_init k_NotExtreme_init
  have b_NotExtreme_init := F_NotExtreme_init.binds (ps := ["self", "name"]) fun _ _ _ _ _ _ us hl => match us, hl with | [_, _], _ => rfl
  have Ox_NotExtreme : OexC K C_NotExtreme := ⟨⟨nm_NotExtreme, q_NotExtreme, NN_NotExtreme, bs_NotExtreme, _, sn_NotExtreme, sub_NotExtreme, ab_NotExtreme, col_NotExtreme, dd_NotExtreme, k0_NotExtreme, k1_NotExtreme, k2_NotExtreme, k3_NotExtreme, k5_NotExtreme, xl_NotExtreme, rfl⟩, xsa_NotExtreme, xe_NotExtreme, xt_NotExtreme, xk_NotExtreme⟩
  have Xi_NotExtreme := exn1_ok (P := l.prog) (w := w) (mg := mg) (base := base) (k := 0) (Fun.g F_NotExtreme_init) Ox_NotExtreme nf_NotExtreme_name rfl ⟨rfl, rfl, rfl, by decide +kernel, rfl, by decide +kernel, by decide +kernel⟩ (by decide) (by decide) (fun _ _ _ => ⟨Or.inl rfl, Or.inl rfl⟩) (fun _ _ _ => rfl)
  have G_BadLine_told := ok_BadLine_told (P := l.prog) (w := w) (mg := mg) (base := base) (CT := CT) (lay := lay) (Fn := Fun.g F_BadLine_told) 
  have G_BadText_told := ok_BadText_told (P := l.prog) (w := w) (mg := mg) (base := base) (CT := CT) (lay := lay) (Fn := Fun.g F_BadText_told) 
  have G_NoAsked_told := ok_NoAsked_told (P := l.prog) (w := w) (mg := mg) (base := base) (CT := CT) (lay := lay) (Fn := Fun.g F_NoAsked_told) 
  have G_NoCommand_told := ok_NoCommand_told (P := l.prog) (w := w) (mg := mg) (base := base) (CT := CT) (lay := lay) (Fn := Fun.g F_NoCommand_told) 
  have G_NoKind_told := ok_NoKind_told (P := l.prog) (w := w) (mg := mg) (base := base) (CT := CT) (lay := lay) (Fn := Fun.g F_NoKind_told) 
  have G_NoMeasure_told := ok_NoMeasure_told (P := l.prog) (w := w) (mg := mg) (base := base) (CT := CT) (lay := lay) (Fn := Fun.g F_NoMeasure_told) 
  have G_NoOffer_told := ok_NoOffer_told (P := l.prog) (w := w) (mg := mg) (base := base) (CT := CT) (lay := lay) (Fn := Fun.g F_NoOffer_told) 
  have G_NoRedo_told := ok_NoRedo_told (P := l.prog) (w := w) (mg := mg) (base := base) (CT := CT) (lay := lay) (Fn := Fun.g F_NoRedo_told) 
  have G_NoRoll_told := ok_NoRoll_told (P := l.prog) (w := w) (mg := mg) (base := base) (CT := CT) (lay := lay) (Fn := Fun.g F_NoRoll_told) 
  have G_NoTaking_told := ok_NoTaking_told (P := l.prog) (w := w) (mg := mg) (base := base) (CT := CT) (lay := lay) (Fn := Fun.g F_NoTaking_told) 
  have G_NoUndo_told := ok_NoUndo_told (P := l.prog) (w := w) (mg := mg) (base := base) (CT := CT) (lay := lay) (Fn := Fun.g F_NoUndo_told) 
  have G_NotConsistent_told := ok_NotConsistent_told (P := l.prog) (w := w) (mg := mg) (base := base) (CT := CT) (lay := lay) (Fn := Fun.g F_NotConsistent_told) 
  have G_NotExtreme_told := ok_NotExtreme_told (P := l.prog) (w := w) (mg := mg) (base := base) (CT := CT) (lay := lay) (Fn := Fun.g F_NotExtreme_told) 
  have V0 : XfOk K CT lay "place" [(cNoOffer, 0), (cNoAsked, 0), (cBadText, 0), (cBadLine, 1), (cNoCommand, 0)] := List.forall_mem_cons.mpr ⟨⟨⟨ga_NoOffer, gg_NoOffer, xe_NoOffer, xh_NoOffer⟩, nf_NoOffer_place, rfl⟩, List.forall_mem_cons.mpr ⟨⟨⟨ga_NoAsked, gg_NoAsked, xe_NoAsked, xh_NoAsked⟩, nf_NoAsked_place, rfl⟩, List.forall_mem_cons.mpr ⟨⟨⟨ga_BadText, gg_BadText, xe_BadText, xh_BadText⟩, nf_BadText_place, rfl⟩, List.forall_mem_cons.mpr ⟨⟨⟨ga_BadLine, gg_BadLine, xe_BadLine, xh_BadLine⟩, nf_BadLine_place, rfl⟩, List.forall_mem_cons.mpr ⟨⟨⟨ga_NoCommand, gg_NoCommand, xe_NoCommand, xh_NoCommand⟩, nf_NoCommand_place, rfl⟩, (fun _ h => nomatch h)⟩⟩⟩⟩⟩
  have V1 : XfOk K CT lay "word" [(cNoOffer, 1), (cNoAsked, 1)] := List.forall_mem_cons.mpr ⟨⟨⟨ga_NoOffer, gg_NoOffer, xe_NoOffer, xh_NoOffer⟩, nf_NoOffer_word, rfl⟩, List.forall_mem_cons.mpr ⟨⟨⟨ga_NoAsked, gg_NoAsked, xe_NoAsked, xh_NoAsked⟩, nf_NoAsked_word, rfl⟩, (fun _ h => nomatch h)⟩⟩
  have V2 : XfOk K CT lay "name" [(cNoTaking, 0), (cNotExtreme, 0)] := List.forall_mem_cons.mpr ⟨⟨⟨ga_NoTaking, gg_NoTaking, xe_NoTaking, xh_NoTaking⟩, nf_NoTaking_name, rfl⟩, List.forall_mem_cons.mpr ⟨⟨⟨ga_NotExtreme, gg_NotExtreme, xe_NotExtreme, xh_NotExtreme⟩, nf_NotExtreme_name, rfl⟩, (fun _ h => nomatch h)⟩⟩
  have V3 : XfOk K CT lay "kind" [(cNoKind, 0)] := List.forall_mem_cons.mpr ⟨⟨⟨ga_NoKind, gg_NoKind, xe_NoKind, xh_NoKind⟩, nf_NoKind_kind, rfl⟩, (fun _ h => nomatch h)⟩
  have V4 : XfOk K CT lay "line" [(cBadLine, 0)] := List.forall_mem_cons.mpr ⟨⟨⟨ga_BadLine, gg_BadLine, xe_BadLine, xh_BadLine⟩, nf_BadLine_line, rfl⟩, (fun _ h => nomatch h)⟩
  have G__law_fields := ok__law_fields (P := l.prog) (w := w) (mg := mg) (base := base) (CT := CT) (lay := lay) (Fn := Fun.g F__law_fields) (xf_place_NoOffer_NoAsked_BadText_BadLine_NoCommand := V0) (xf_word_NoOffer_NoAsked := V1) (xf_name_NoTaking_NotExtreme := V2) (xf_kind_NoKind := V3) (xf_line_BadLine := V4)
  have V5 : mg "isinstance" = none := Z_isinstance
  have V6 : mg "NoMeasure" = some (.ref (CT cNoMeasure)) := PySem.W.mg_of X G a_NoMeasure
  have V7 : IsxT K CT (.ref (CT cNoMeasure)) ([(cNoOffer, false), (cNoAsked, false), (cNoTaking, false), (cNoMeasure, true), (cNotExtreme, false), (cNotConsistent, false), (cNoKind, false), (cNoRoll, false), (cBadText, false), (cBadLine, false), (cNoCommand, false), (cNoUndo, false), (cNoRedo, false)] : List (Nat × Bool)) := List.forall_mem_cons.mpr ⟨⟨⟨ga_NoOffer, gg_NoOffer, xe_NoOffer, xh_NoOffer, cA_NoOffer, clN, clK, no_NoOffer⟩, kit_of xc_NoMeasure xt_NoMeasure xs_NoOffer_NoMeasure (kit_no xs_NoOffer_NoMeasure xs_NoMeasure_NoMeasure)⟩, List.forall_mem_cons.mpr ⟨⟨⟨ga_NoAsked, gg_NoAsked, xe_NoAsked, xh_NoAsked, cA_NoAsked, clN, clK, no_NoAsked⟩, kit_of xc_NoMeasure xt_NoMeasure xs_NoAsked_NoMeasure (kit_no xs_NoAsked_NoMeasure xs_NoMeasure_NoMeasure)⟩, List.forall_mem_cons.mpr ⟨⟨⟨ga_NoTaking, gg_NoTaking, xe_NoTaking, xh_NoTaking, cA_NoTaking, clN, clK, no_NoTaking⟩, kit_of xc_NoMeasure xt_NoMeasure xs_NoTaking_NoMeasure (kit_no xs_NoTaking_NoMeasure xs_NoMeasure_NoMeasure)⟩, List.forall_mem_cons.mpr ⟨⟨⟨ga_NoMeasure, gg_NoMeasure, xe_NoMeasure, xh_NoMeasure, cA_NoMeasure, clN, clK, no_NoMeasure⟩, kit_same⟩, List.forall_mem_cons.mpr ⟨⟨⟨ga_NotExtreme, gg_NotExtreme, xe_NotExtreme, xh_NotExtreme, cA_NotExtreme, clN, clK, no_NotExtreme⟩, kit_of xc_NoMeasure xt_NoMeasure xs_NotExtreme_NoMeasure (kit_no xs_NotExtreme_NoMeasure xs_NoMeasure_NoMeasure)⟩, List.forall_mem_cons.mpr ⟨⟨⟨ga_NotConsistent, gg_NotConsistent, xe_NotConsistent, xh_NotConsistent, cA_NotConsistent, clN, clK, no_NotConsistent⟩, kit_of xc_NoMeasure xt_NoMeasure xs_NotConsistent_NoMeasure (kit_no xs_NotConsistent_NoMeasure xs_NoMeasure_NoMeasure)⟩, List.forall_mem_cons.mpr ⟨⟨⟨ga_NoKind, gg_NoKind, xe_NoKind, xh_NoKind, cA_NoKind, clN, clK, no_NoKind⟩, kit_of xc_NoMeasure xt_NoMeasure xs_NoKind_NoMeasure (kit_no xs_NoKind_NoMeasure xs_NoMeasure_NoMeasure)⟩, List.forall_mem_cons.mpr ⟨⟨⟨ga_NoRoll, gg_NoRoll, xe_NoRoll, xh_NoRoll, cA_NoRoll, clN, clK, no_NoRoll⟩, kit_of xc_NoMeasure xt_NoMeasure xs_NoRoll_NoMeasure (kit_no xs_NoRoll_NoMeasure xs_NoMeasure_NoMeasure)⟩, List.forall_mem_cons.mpr ⟨⟨⟨ga_BadText, gg_BadText, xe_BadText, xh_BadText, cA_BadText, clN, clK, no_BadText⟩, kit_of xc_NoMeasure xt_NoMeasure xs_BadText_NoMeasure (kit_no xs_BadText_NoMeasure xs_NoMeasure_NoMeasure)⟩, List.forall_mem_cons.mpr ⟨⟨⟨ga_BadLine, gg_BadLine, xe_BadLine, xh_BadLine, cA_BadLine, clN, clK, no_BadLine⟩, kit_of xc_NoMeasure xt_NoMeasure xs_BadLine_NoMeasure (kit_no xs_BadLine_NoMeasure xs_NoMeasure_NoMeasure)⟩, List.forall_mem_cons.mpr ⟨⟨⟨ga_NoCommand, gg_NoCommand, xe_NoCommand, xh_NoCommand, cA_NoCommand, clN, clK, no_NoCommand⟩, kit_of xc_NoMeasure xt_NoMeasure xs_NoCommand_NoMeasure (kit_no xs_NoCommand_NoMeasure xs_NoMeasure_NoMeasure)⟩, List.forall_mem_cons.mpr ⟨⟨⟨ga_NoUndo, gg_NoUndo, xe_NoUndo, xh_NoUndo, cA_NoUndo, clN, clK, no_NoUndo⟩, kit_of xc_NoMeasure xt_NoMeasure xs_NoUndo_NoMeasure (kit_no xs_NoUndo_NoMeasure xs_NoMeasure_NoMeasure)⟩, List.forall_mem_cons.mpr ⟨⟨⟨ga_NoRedo, gg_NoRedo, xe_NoRedo, xh_NoRedo, cA_NoRedo, clN, clK, no_NoRedo⟩, kit_of xc_NoMeasure xt_NoMeasure xs_NoRedo_NoMeasure (kit_no xs_NoRedo_NoMeasure xs_NoMeasure_NoMeasure)⟩, (fun _ h => nomatch h)⟩⟩⟩⟩⟩⟩⟩⟩⟩⟩⟩⟩⟩
  have V8 : mg "NoTaking" = some (.ref (CT cNoTaking)) := PySem.W.mg_of X G a_NoTaking
  have V9 : IsxT K CT (.ref (CT cNoTaking)) ([(cNoOffer, false), (cNoAsked, false), (cNoTaking, true), (cNoMeasure, false), (cNotExtreme, false), (cNotConsistent, false), (cNoKind, false), (cNoRoll, false), (cBadText, false), (cBadLine, false), (cNoCommand, false), (cNoUndo, false), (cNoRedo, false)] : List (Nat × Bool)) := List.forall_mem_cons.mpr ⟨⟨⟨ga_NoOffer, gg_NoOffer, xe_NoOffer, xh_NoOffer, cA_NoOffer, clN, clK, no_NoOffer⟩, kit_of xc_NoTaking xt_NoTaking xs_NoOffer_NoTaking (kit_no xs_NoOffer_NoTaking xs_NoTaking_NoTaking)⟩, List.forall_mem_cons.mpr ⟨⟨⟨ga_NoAsked, gg_NoAsked, xe_NoAsked, xh_NoAsked, cA_NoAsked, clN, clK, no_NoAsked⟩, kit_of xc_NoTaking xt_NoTaking xs_NoAsked_NoTaking (kit_no xs_NoAsked_NoTaking xs_NoTaking_NoTaking)⟩, List.forall_mem_cons.mpr ⟨⟨⟨ga_NoTaking, gg_NoTaking, xe_NoTaking, xh_NoTaking, cA_NoTaking, clN, clK, no_NoTaking⟩, kit_same⟩, List.forall_mem_cons.mpr ⟨⟨⟨ga_NoMeasure, gg_NoMeasure, xe_NoMeasure, xh_NoMeasure, cA_NoMeasure, clN, clK, no_NoMeasure⟩, kit_of xc_NoTaking xt_NoTaking xs_NoMeasure_NoTaking (kit_no xs_NoMeasure_NoTaking xs_NoTaking_NoTaking)⟩, List.forall_mem_cons.mpr ⟨⟨⟨ga_NotExtreme, gg_NotExtreme, xe_NotExtreme, xh_NotExtreme, cA_NotExtreme, clN, clK, no_NotExtreme⟩, kit_of xc_NoTaking xt_NoTaking xs_NotExtreme_NoTaking (kit_no xs_NotExtreme_NoTaking xs_NoTaking_NoTaking)⟩, List.forall_mem_cons.mpr ⟨⟨⟨ga_NotConsistent, gg_NotConsistent, xe_NotConsistent, xh_NotConsistent, cA_NotConsistent, clN, clK, no_NotConsistent⟩, kit_of xc_NoTaking xt_NoTaking xs_NotConsistent_NoTaking (kit_no xs_NotConsistent_NoTaking xs_NoTaking_NoTaking)⟩, List.forall_mem_cons.mpr ⟨⟨⟨ga_NoKind, gg_NoKind, xe_NoKind, xh_NoKind, cA_NoKind, clN, clK, no_NoKind⟩, kit_of xc_NoTaking xt_NoTaking xs_NoKind_NoTaking (kit_no xs_NoKind_NoTaking xs_NoTaking_NoTaking)⟩, List.forall_mem_cons.mpr ⟨⟨⟨ga_NoRoll, gg_NoRoll, xe_NoRoll, xh_NoRoll, cA_NoRoll, clN, clK, no_NoRoll⟩, kit_of xc_NoTaking xt_NoTaking xs_NoRoll_NoTaking (kit_no xs_NoRoll_NoTaking xs_NoTaking_NoTaking)⟩, List.forall_mem_cons.mpr ⟨⟨⟨ga_BadText, gg_BadText, xe_BadText, xh_BadText, cA_BadText, clN, clK, no_BadText⟩, kit_of xc_NoTaking xt_NoTaking xs_BadText_NoTaking (kit_no xs_BadText_NoTaking xs_NoTaking_NoTaking)⟩, List.forall_mem_cons.mpr ⟨⟨⟨ga_BadLine, gg_BadLine, xe_BadLine, xh_BadLine, cA_BadLine, clN, clK, no_BadLine⟩, kit_of xc_NoTaking xt_NoTaking xs_BadLine_NoTaking (kit_no xs_BadLine_NoTaking xs_NoTaking_NoTaking)⟩, List.forall_mem_cons.mpr ⟨⟨⟨ga_NoCommand, gg_NoCommand, xe_NoCommand, xh_NoCommand, cA_NoCommand, clN, clK, no_NoCommand⟩, kit_of xc_NoTaking xt_NoTaking xs_NoCommand_NoTaking (kit_no xs_NoCommand_NoTaking xs_NoTaking_NoTaking)⟩, List.forall_mem_cons.mpr ⟨⟨⟨ga_NoUndo, gg_NoUndo, xe_NoUndo, xh_NoUndo, cA_NoUndo, clN, clK, no_NoUndo⟩, kit_of xc_NoTaking xt_NoTaking xs_NoUndo_NoTaking (kit_no xs_NoUndo_NoTaking xs_NoTaking_NoTaking)⟩, List.forall_mem_cons.mpr ⟨⟨⟨ga_NoRedo, gg_NoRedo, xe_NoRedo, xh_NoRedo, cA_NoRedo, clN, clK, no_NoRedo⟩, kit_of xc_NoTaking xt_NoTaking xs_NoRedo_NoTaking (kit_no xs_NoRedo_NoTaking xs_NoTaking_NoTaking)⟩, (fun _ h => nomatch h)⟩⟩⟩⟩⟩⟩⟩⟩⟩⟩⟩⟩⟩
  have V10 : mg "NoAsked" = some (.ref (CT cNoAsked)) := PySem.W.mg_of X G a_NoAsked
  have V11 : IsxT K CT (.ref (CT cNoAsked)) ([(cNoOffer, false), (cNoAsked, true), (cNoTaking, false), (cNoMeasure, false), (cNotExtreme, false), (cNotConsistent, false), (cNoKind, false), (cNoRoll, false), (cBadText, false), (cBadLine, false), (cNoCommand, false), (cNoUndo, false), (cNoRedo, false)] : List (Nat × Bool)) := List.forall_mem_cons.mpr ⟨⟨⟨ga_NoOffer, gg_NoOffer, xe_NoOffer, xh_NoOffer, cA_NoOffer, clN, clK, no_NoOffer⟩, kit_of xc_NoAsked xt_NoAsked xs_NoOffer_NoAsked (kit_no xs_NoOffer_NoAsked xs_NoAsked_NoAsked)⟩, List.forall_mem_cons.mpr ⟨⟨⟨ga_NoAsked, gg_NoAsked, xe_NoAsked, xh_NoAsked, cA_NoAsked, clN, clK, no_NoAsked⟩, kit_same⟩, List.forall_mem_cons.mpr ⟨⟨⟨ga_NoTaking, gg_NoTaking, xe_NoTaking, xh_NoTaking, cA_NoTaking, clN, clK, no_NoTaking⟩, kit_of xc_NoAsked xt_NoAsked xs_NoTaking_NoAsked (kit_no xs_NoTaking_NoAsked xs_NoAsked_NoAsked)⟩, List.forall_mem_cons.mpr ⟨⟨⟨ga_NoMeasure, gg_NoMeasure, xe_NoMeasure, xh_NoMeasure, cA_NoMeasure, clN, clK, no_NoMeasure⟩, kit_of xc_NoAsked xt_NoAsked xs_NoMeasure_NoAsked (kit_no xs_NoMeasure_NoAsked xs_NoAsked_NoAsked)⟩, List.forall_mem_cons.mpr ⟨⟨⟨ga_NotExtreme, gg_NotExtreme, xe_NotExtreme, xh_NotExtreme, cA_NotExtreme, clN, clK, no_NotExtreme⟩, kit_of xc_NoAsked xt_NoAsked xs_NotExtreme_NoAsked (kit_no xs_NotExtreme_NoAsked xs_NoAsked_NoAsked)⟩, List.forall_mem_cons.mpr ⟨⟨⟨ga_NotConsistent, gg_NotConsistent, xe_NotConsistent, xh_NotConsistent, cA_NotConsistent, clN, clK, no_NotConsistent⟩, kit_of xc_NoAsked xt_NoAsked xs_NotConsistent_NoAsked (kit_no xs_NotConsistent_NoAsked xs_NoAsked_NoAsked)⟩, List.forall_mem_cons.mpr ⟨⟨⟨ga_NoKind, gg_NoKind, xe_NoKind, xh_NoKind, cA_NoKind, clN, clK, no_NoKind⟩, kit_of xc_NoAsked xt_NoAsked xs_NoKind_NoAsked (kit_no xs_NoKind_NoAsked xs_NoAsked_NoAsked)⟩, List.forall_mem_cons.mpr ⟨⟨⟨ga_NoRoll, gg_NoRoll, xe_NoRoll, xh_NoRoll, cA_NoRoll, clN, clK, no_NoRoll⟩, kit_of xc_NoAsked xt_NoAsked xs_NoRoll_NoAsked (kit_no xs_NoRoll_NoAsked xs_NoAsked_NoAsked)⟩, List.forall_mem_cons.mpr ⟨⟨⟨ga_BadText, gg_BadText, xe_BadText, xh_BadText, cA_BadText, clN, clK, no_BadText⟩, kit_of xc_NoAsked xt_NoAsked xs_BadText_NoAsked (kit_no xs_BadText_NoAsked xs_NoAsked_NoAsked)⟩, List.forall_mem_cons.mpr ⟨⟨⟨ga_BadLine, gg_BadLine, xe_BadLine, xh_BadLine, cA_BadLine, clN, clK, no_BadLine⟩, kit_of xc_NoAsked xt_NoAsked xs_BadLine_NoAsked (kit_no xs_BadLine_NoAsked xs_NoAsked_NoAsked)⟩, List.forall_mem_cons.mpr ⟨⟨⟨ga_NoCommand, gg_NoCommand, xe_NoCommand, xh_NoCommand, cA_NoCommand, clN, clK, no_NoCommand⟩, kit_of xc_NoAsked xt_NoAsked xs_NoCommand_NoAsked (kit_no xs_NoCommand_NoAsked xs_NoAsked_NoAsked)⟩, List.forall_mem_cons.mpr ⟨⟨⟨ga_NoUndo, gg_NoUndo, xe_NoUndo, xh_NoUndo, cA_NoUndo, clN, clK, no_NoUndo⟩, kit_of xc_NoAsked xt_NoAsked xs_NoUndo_NoAsked (kit_no xs_NoUndo_NoAsked xs_NoAsked_NoAsked)⟩, List.forall_mem_cons.mpr ⟨⟨⟨ga_NoRedo, gg_NoRedo, xe_NoRedo, xh_NoRedo, cA_NoRedo, clN, clK, no_NoRedo⟩, kit_of xc_NoAsked xt_NoAsked xs_NoRedo_NoAsked (kit_no xs_NoRedo_NoAsked xs_NoAsked_NoAsked)⟩, (fun _ h => nomatch h)⟩⟩⟩⟩⟩⟩⟩⟩⟩⟩⟩⟩⟩
  have V12 : mg "NoOffer" = some (.ref (CT cNoOffer)) := PySem.W.mg_of X G a_NoOffer
  have V13 : IsxT K CT (.ref (CT cNoOffer)) ([(cNoOffer, true), (cNoAsked, false), (cNoTaking, false), (cNoMeasure, false), (cNotExtreme, false), (cNotConsistent, false), (cNoKind, false), (cNoRoll, false), (cBadText, false), (cBadLine, false), (cNoCommand, false), (cNoUndo, false), (cNoRedo, false)] : List (Nat × Bool)) := List.forall_mem_cons.mpr ⟨⟨⟨ga_NoOffer, gg_NoOffer, xe_NoOffer, xh_NoOffer, cA_NoOffer, clN, clK, no_NoOffer⟩, kit_same⟩, List.forall_mem_cons.mpr ⟨⟨⟨ga_NoAsked, gg_NoAsked, xe_NoAsked, xh_NoAsked, cA_NoAsked, clN, clK, no_NoAsked⟩, kit_of xc_NoOffer xt_NoOffer xs_NoAsked_NoOffer (kit_no xs_NoAsked_NoOffer xs_NoOffer_NoOffer)⟩, List.forall_mem_cons.mpr ⟨⟨⟨ga_NoTaking, gg_NoTaking, xe_NoTaking, xh_NoTaking, cA_NoTaking, clN, clK, no_NoTaking⟩, kit_of xc_NoOffer xt_NoOffer xs_NoTaking_NoOffer (kit_no xs_NoTaking_NoOffer xs_NoOffer_NoOffer)⟩, List.forall_mem_cons.mpr ⟨⟨⟨ga_NoMeasure, gg_NoMeasure, xe_NoMeasure, xh_NoMeasure, cA_NoMeasure, clN, clK, no_NoMeasure⟩, kit_of xc_NoOffer xt_NoOffer xs_NoMeasure_NoOffer (kit_no xs_NoMeasure_NoOffer xs_NoOffer_NoOffer)⟩, List.forall_mem_cons.mpr ⟨⟨⟨ga_NotExtreme, gg_NotExtreme, xe_NotExtreme, xh_NotExtreme, cA_NotExtreme, clN, clK, no_NotExtreme⟩, kit_of xc_NoOffer xt_NoOffer xs_NotExtreme_NoOffer (kit_no xs_NotExtreme_NoOffer xs_NoOffer_NoOffer)⟩, List.forall_mem_cons.mpr ⟨⟨⟨ga_NotConsistent, gg_NotConsistent, xe_NotConsistent, xh_NotConsistent, cA_NotConsistent, clN, clK, no_NotConsistent⟩, kit_of xc_NoOffer xt_NoOffer xs_NotConsistent_NoOffer (kit_no xs_NotConsistent_NoOffer xs_NoOffer_NoOffer)⟩, List.forall_mem_cons.mpr ⟨⟨⟨ga_NoKind, gg_NoKind, xe_NoKind, xh_NoKind, cA_NoKind, clN, clK, no_NoKind⟩, kit_of xc_NoOffer xt_NoOffer xs_NoKind_NoOffer (kit_no xs_NoKind_NoOffer xs_NoOffer_NoOffer)⟩, List.forall_mem_cons.mpr ⟨⟨⟨ga_NoRoll, gg_NoRoll, xe_NoRoll, xh_NoRoll, cA_NoRoll, clN, clK, no_NoRoll⟩, kit_of xc_NoOffer xt_NoOffer xs_NoRoll_NoOffer (kit_no xs_NoRoll_NoOffer xs_NoOffer_NoOffer)⟩, List.forall_mem_cons.mpr ⟨⟨⟨ga_BadText, gg_BadText, xe_BadText, xh_BadText, cA_BadText, clN, clK, no_BadText⟩, kit_of xc_NoOffer xt_NoOffer xs_BadText_NoOffer (kit_no xs_BadText_NoOffer xs_NoOffer_NoOffer)⟩, List.forall_mem_cons.mpr ⟨⟨⟨ga_BadLine, gg_BadLine, xe_BadLine, xh_BadLine, cA_BadLine, clN, clK, no_BadLine⟩, kit_of xc_NoOffer xt_NoOffer xs_BadLine_NoOffer (kit_no xs_BadLine_NoOffer xs_NoOffer_NoOffer)⟩, List.forall_mem_cons.mpr ⟨⟨⟨ga_NoCommand, gg_NoCommand, xe_NoCommand, xh_NoCommand, cA_NoCommand, clN, clK, no_NoCommand⟩, kit_of xc_NoOffer xt_NoOffer xs_NoCommand_NoOffer (kit_no xs_NoCommand_NoOffer xs_NoOffer_NoOffer)⟩, List.forall_mem_cons.mpr ⟨⟨⟨ga_NoUndo, gg_NoUndo, xe_NoUndo, xh_NoUndo, cA_NoUndo, clN, clK, no_NoUndo⟩, kit_of xc_NoOffer xt_NoOffer xs_NoUndo_NoOffer (kit_no xs_NoUndo_NoOffer xs_NoOffer_NoOffer)⟩, List.forall_mem_cons.mpr ⟨⟨⟨ga_NoRedo, gg_NoRedo, xe_NoRedo, xh_NoRedo, cA_NoRedo, clN, clK, no_NoRedo⟩, kit_of xc_NoOffer xt_NoOffer xs_NoRedo_NoOffer (kit_no xs_NoRedo_NoOffer xs_NoOffer_NoOffer)⟩, (fun _ h => nomatch h)⟩⟩⟩⟩⟩⟩⟩⟩⟩⟩⟩⟩⟩
  have V14 : mg "NoKind" = some (.ref (CT cNoKind)) := PySem.W.mg_of X G a_NoKind
  have V15 : IsxT K CT (.ref (CT cNoKind)) ([(cNoOffer, false), (cNoAsked, false), (cNoTaking, false), (cNoMeasure, false), (cNotExtreme, false), (cNotConsistent, false), (cNoKind, true), (cNoRoll, false), (cBadText, false), (cBadLine, false), (cNoCommand, false), (cNoUndo, false), (cNoRedo, false)] : List (Nat × Bool)) := List.forall_mem_cons.mpr ⟨⟨⟨ga_NoOffer, gg_NoOffer, xe_NoOffer, xh_NoOffer, cA_NoOffer, clN, clK, no_NoOffer⟩, kit_of xc_NoKind xt_NoKind xs_NoOffer_NoKind (kit_no xs_NoOffer_NoKind xs_NoKind_NoKind)⟩, List.forall_mem_cons.mpr ⟨⟨⟨ga_NoAsked, gg_NoAsked, xe_NoAsked, xh_NoAsked, cA_NoAsked, clN, clK, no_NoAsked⟩, kit_of xc_NoKind xt_NoKind xs_NoAsked_NoKind (kit_no xs_NoAsked_NoKind xs_NoKind_NoKind)⟩, List.forall_mem_cons.mpr ⟨⟨⟨ga_NoTaking, gg_NoTaking, xe_NoTaking, xh_NoTaking, cA_NoTaking, clN, clK, no_NoTaking⟩, kit_of xc_NoKind xt_NoKind xs_NoTaking_NoKind (kit_no xs_NoTaking_NoKind xs_NoKind_NoKind)⟩, List.forall_mem_cons.mpr ⟨⟨⟨ga_NoMeasure, gg_NoMeasure, xe_NoMeasure, xh_NoMeasure, cA_NoMeasure, clN, clK, no_NoMeasure⟩, kit_of xc_NoKind xt_NoKind xs_NoMeasure_NoKind (kit_no xs_NoMeasure_NoKind xs_NoKind_NoKind)⟩, List.forall_mem_cons.mpr ⟨⟨⟨ga_NotExtreme, gg_NotExtreme, xe_NotExtreme, xh_NotExtreme, cA_NotExtreme, clN, clK, no_NotExtreme⟩, kit_of xc_NoKind xt_NoKind xs_NotExtreme_NoKind (kit_no xs_NotExtreme_NoKind xs_NoKind_NoKind)⟩, List.forall_mem_cons.mpr ⟨⟨⟨ga_NotConsistent, gg_NotConsistent, xe_NotConsistent, xh_NotConsistent, cA_NotConsistent, clN, clK, no_NotConsistent⟩, kit_of xc_NoKind xt_NoKind xs_NotConsistent_NoKind (kit_no xs_NotConsistent_NoKind xs_NoKind_NoKind)⟩, List.forall_mem_cons.mpr ⟨⟨⟨ga_NoKind, gg_NoKind, xe_NoKind, xh_NoKind, cA_NoKind, clN, clK, no_NoKind⟩, kit_same⟩, List.forall_mem_cons.mpr ⟨⟨⟨ga_NoRoll, gg_NoRoll, xe_NoRoll, xh_NoRoll, cA_NoRoll, clN, clK, no_NoRoll⟩, kit_of xc_NoKind xt_NoKind xs_NoRoll_NoKind (kit_no xs_NoRoll_NoKind xs_NoKind_NoKind)⟩, List.forall_mem_cons.mpr ⟨⟨⟨ga_BadText, gg_BadText, xe_BadText, xh_BadText, cA_BadText, clN, clK, no_BadText⟩, kit_of xc_NoKind xt_NoKind xs_BadText_NoKind (kit_no xs_BadText_NoKind xs_NoKind_NoKind)⟩, List.forall_mem_cons.mpr ⟨⟨⟨ga_BadLine, gg_BadLine, xe_BadLine, xh_BadLine, cA_BadLine, clN, clK, no_BadLine⟩, kit_of xc_NoKind xt_NoKind xs_BadLine_NoKind (kit_no xs_BadLine_NoKind xs_NoKind_NoKind)⟩, List.forall_mem_cons.mpr ⟨⟨⟨ga_NoCommand, gg_NoCommand, xe_NoCommand, xh_NoCommand, cA_NoCommand, clN, clK, no_NoCommand⟩, kit_of xc_NoKind xt_NoKind xs_NoCommand_NoKind (kit_no xs_NoCommand_NoKind xs_NoKind_NoKind)⟩, List.forall_mem_cons.mpr ⟨⟨⟨ga_NoUndo, gg_NoUndo, xe_NoUndo, xh_NoUndo, cA_NoUndo, clN, clK, no_NoUndo⟩, kit_of xc_NoKind xt_NoKind xs_NoUndo_NoKind (kit_no xs_NoUndo_NoKind xs_NoKind_NoKind)⟩, List.forall_mem_cons.mpr ⟨⟨⟨ga_NoRedo, gg_NoRedo, xe_NoRedo, xh_NoRedo, cA_NoRedo, clN, clK, no_NoRedo⟩, kit_of xc_NoKind xt_NoKind xs_NoRedo_NoKind (kit_no xs_NoRedo_NoKind xs_NoKind_NoKind)⟩, (fun _ h => nomatch h)⟩⟩⟩⟩⟩⟩⟩⟩⟩⟩⟩⟩⟩
  have V16 : mg "NotConsistent" = some (.ref (CT cNotConsistent)) := PySem.W.mg_of X G a_NotConsistent
  have V17 : IsxT K CT (.ref (CT cNotConsistent)) ([(cNoOffer, false), (cNoAsked, false), (cNoTaking, false), (cNoMeasure, false), (cNotExtreme, false), (cNotConsistent, true), (cNoKind, false), (cNoRoll, false), (cBadText, false), (cBadLine, false), (cNoCommand, false), (cNoUndo, false), (cNoRedo, false)] : List (Nat × Bool)) := List.forall_mem_cons.mpr ⟨⟨⟨ga_NoOffer, gg_NoOffer, xe_NoOffer, xh_NoOffer, cA_NoOffer, clN, clK, no_NoOffer⟩, kit_of xc_NotConsistent xt_NotConsistent xs_NoOffer_NotConsistent (kit_no xs_NoOffer_NotConsistent xs_NotConsistent_NotConsistent)⟩, List.forall_mem_cons.mpr ⟨⟨⟨ga_NoAsked, gg_NoAsked, xe_NoAsked, xh_NoAsked, cA_NoAsked, clN, clK, no_NoAsked⟩, kit_of xc_NotConsistent xt_NotConsistent xs_NoAsked_NotConsistent (kit_no xs_NoAsked_NotConsistent xs_NotConsistent_NotConsistent)⟩, List.forall_mem_cons.mpr ⟨⟨⟨ga_NoTaking, gg_NoTaking, xe_NoTaking, xh_NoTaking, cA_NoTaking, clN, clK, no_NoTaking⟩, kit_of xc_NotConsistent xt_NotConsistent xs_NoTaking_NotConsistent (kit_no xs_NoTaking_NotConsistent xs_NotConsistent_NotConsistent)⟩, List.forall_mem_cons.mpr ⟨⟨⟨ga_NoMeasure, gg_NoMeasure, xe_NoMeasure, xh_NoMeasure, cA_NoMeasure, clN, clK, no_NoMeasure⟩, kit_of xc_NotConsistent xt_NotConsistent xs_NoMeasure_NotConsistent (kit_no xs_NoMeasure_NotConsistent xs_NotConsistent_NotConsistent)⟩, List.forall_mem_cons.mpr ⟨⟨⟨ga_NotExtreme, gg_NotExtreme, xe_NotExtreme, xh_NotExtreme, cA_NotExtreme, clN, clK, no_NotExtreme⟩, kit_of xc_NotConsistent xt_NotConsistent xs_NotExtreme_NotConsistent (kit_no xs_NotExtreme_NotConsistent xs_NotConsistent_NotConsistent)⟩, List.forall_mem_cons.mpr ⟨⟨⟨ga_NotConsistent, gg_NotConsistent, xe_NotConsistent, xh_NotConsistent, cA_NotConsistent, clN, clK, no_NotConsistent⟩, kit_same⟩, List.forall_mem_cons.mpr ⟨⟨⟨ga_NoKind, gg_NoKind, xe_NoKind, xh_NoKind, cA_NoKind, clN, clK, no_NoKind⟩, kit_of xc_NotConsistent xt_NotConsistent xs_NoKind_NotConsistent (kit_no xs_NoKind_NotConsistent xs_NotConsistent_NotConsistent)⟩, List.forall_mem_cons.mpr ⟨⟨⟨ga_NoRoll, gg_NoRoll, xe_NoRoll, xh_NoRoll, cA_NoRoll, clN, clK, no_NoRoll⟩, kit_of xc_NotConsistent xt_NotConsistent xs_NoRoll_NotConsistent (kit_no xs_NoRoll_NotConsistent xs_NotConsistent_NotConsistent)⟩, List.forall_mem_cons.mpr ⟨⟨⟨ga_BadText, gg_BadText, xe_BadText, xh_BadText, cA_BadText, clN, clK, no_BadText⟩, kit_of xc_NotConsistent xt_NotConsistent xs_BadText_NotConsistent (kit_no xs_BadText_NotConsistent xs_NotConsistent_NotConsistent)⟩, List.forall_mem_cons.mpr ⟨⟨⟨ga_BadLine, gg_BadLine, xe_BadLine, xh_BadLine, cA_BadLine, clN, clK, no_BadLine⟩, kit_of xc_NotConsistent xt_NotConsistent xs_BadLine_NotConsistent (kit_no xs_BadLine_NotConsistent xs_NotConsistent_NotConsistent)⟩, List.forall_mem_cons.mpr ⟨⟨⟨ga_NoCommand, gg_NoCommand, xe_NoCommand, xh_NoCommand, cA_NoCommand, clN, clK, no_NoCommand⟩, kit_of xc_NotConsistent xt_NotConsistent xs_NoCommand_NotConsistent (kit_no xs_NoCommand_NotConsistent xs_NotConsistent_NotConsistent)⟩, List.forall_mem_cons.mpr ⟨⟨⟨ga_NoUndo, gg_NoUndo, xe_NoUndo, xh_NoUndo, cA_NoUndo, clN, clK, no_NoUndo⟩, kit_of xc_NotConsistent xt_NotConsistent xs_NoUndo_NotConsistent (kit_no xs_NoUndo_NotConsistent xs_NotConsistent_NotConsistent)⟩, List.forall_mem_cons.mpr ⟨⟨⟨ga_NoRedo, gg_NoRedo, xe_NoRedo, xh_NoRedo, cA_NoRedo, clN, clK, no_NoRedo⟩, kit_of xc_NotConsistent xt_NotConsistent xs_NoRedo_NotConsistent (kit_no xs_NoRedo_NotConsistent xs_NotConsistent_NotConsistent)⟩, (fun _ h => nomatch h)⟩⟩⟩⟩⟩⟩⟩⟩⟩⟩⟩⟩⟩
  have V18 : mg "NotExtreme" = some (.ref (CT cNotExtreme)) := PySem.W.mg_of X G a_NotExtreme
  have V19 : IsxT K CT (.ref (CT cNotExtreme)) ([(cNoOffer, false), (cNoAsked, false), (cNoTaking, false), (cNoMeasure, false), (cNotExtreme, true), (cNotConsistent, false), (cNoKind, false), (cNoRoll, false), (cBadText, false), (cBadLine, false), (cNoCommand, false), (cNoUndo, false), (cNoRedo, false)] : List (Nat × Bool)) := List.forall_mem_cons.mpr ⟨⟨⟨ga_NoOffer, gg_NoOffer, xe_NoOffer, xh_NoOffer, cA_NoOffer, clN, clK, no_NoOffer⟩, kit_of xc_NotExtreme xt_NotExtreme xs_NoOffer_NotExtreme (kit_no xs_NoOffer_NotExtreme xs_NotExtreme_NotExtreme)⟩, List.forall_mem_cons.mpr ⟨⟨⟨ga_NoAsked, gg_NoAsked, xe_NoAsked, xh_NoAsked, cA_NoAsked, clN, clK, no_NoAsked⟩, kit_of xc_NotExtreme xt_NotExtreme xs_NoAsked_NotExtreme (kit_no xs_NoAsked_NotExtreme xs_NotExtreme_NotExtreme)⟩, List.forall_mem_cons.mpr ⟨⟨⟨ga_NoTaking, gg_NoTaking, xe_NoTaking, xh_NoTaking, cA_NoTaking, clN, clK, no_NoTaking⟩, kit_of xc_NotExtreme xt_NotExtreme xs_NoTaking_NotExtreme (kit_no xs_NoTaking_NotExtreme xs_NotExtreme_NotExtreme)⟩, List.forall_mem_cons.mpr ⟨⟨⟨ga_NoMeasure, gg_NoMeasure, xe_NoMeasure, xh_NoMeasure, cA_NoMeasure, clN, clK, no_NoMeasure⟩, kit_of xc_NotExtreme xt_NotExtreme xs_NoMeasure_NotExtreme (kit_no xs_NoMeasure_NotExtreme xs_NotExtreme_NotExtreme)⟩, List.forall_mem_cons.mpr ⟨⟨⟨ga_NotExtreme, gg_NotExtreme, xe_NotExtreme, xh_NotExtreme, cA_NotExtreme, clN, clK, no_NotExtreme⟩, kit_same⟩, List.forall_mem_cons.mpr ⟨⟨⟨ga_NotConsistent, gg_NotConsistent, xe_NotConsistent, xh_NotConsistent, cA_NotConsistent, clN, clK, no_NotConsistent⟩, kit_of xc_NotExtreme xt_NotExtreme xs_NotConsistent_NotExtreme (kit_no xs_NotConsistent_NotExtreme xs_NotExtreme_NotExtreme)⟩, List.forall_mem_cons.mpr ⟨⟨⟨ga_NoKind, gg_NoKind, xe_NoKind, xh_NoKind, cA_NoKind, clN, clK, no_NoKind⟩, kit_of xc_NotExtreme xt_NotExtreme xs_NoKind_NotExtreme (kit_no xs_NoKind_NotExtreme xs_NotExtreme_NotExtreme)⟩, List.forall_mem_cons.mpr ⟨⟨⟨ga_NoRoll, gg_NoRoll, xe_NoRoll, xh_NoRoll, cA_NoRoll, clN, clK, no_NoRoll⟩, kit_of xc_NotExtreme xt_NotExtreme xs_NoRoll_NotExtreme (kit_no xs_NoRoll_NotExtreme xs_NotExtreme_NotExtreme)⟩, List.forall_mem_cons.mpr ⟨⟨⟨ga_BadText, gg_BadText, xe_BadText, xh_BadText, cA_BadText, clN, clK, no_BadText⟩, kit_of xc_NotExtreme xt_NotExtreme xs_BadText_NotExtreme (kit_no xs_BadText_NotExtreme xs_NotExtreme_NotExtreme)⟩, List.forall_mem_cons.mpr ⟨⟨⟨ga_BadLine, gg_BadLine, xe_BadLine, xh_BadLine, cA_BadLine, clN, clK, no_BadLine⟩, kit_of xc_NotExtreme xt_NotExtreme xs_BadLine_NotExtreme (kit_no xs_BadLine_NotExtreme xs_NotExtreme_NotExtreme)⟩, List.forall_mem_cons.mpr ⟨⟨⟨ga_NoCommand, gg_NoCommand, xe_NoCommand, xh_NoCommand, cA_NoCommand, clN, clK, no_NoCommand⟩, kit_of xc_NotExtreme xt_NotExtreme xs_NoCommand_NotExtreme (kit_no xs_NoCommand_NotExtreme xs_NotExtreme_NotExtreme)⟩, List.forall_mem_cons.mpr ⟨⟨⟨ga_NoUndo, gg_NoUndo, xe_NoUndo, xh_NoUndo, cA_NoUndo, clN, clK, no_NoUndo⟩, kit_of xc_NotExtreme xt_NotExtreme xs_NoUndo_NotExtreme (kit_no xs_NoUndo_NotExtreme xs_NotExtreme_NotExtreme)⟩, List.forall_mem_cons.mpr ⟨⟨⟨ga_NoRedo, gg_NoRedo, xe_NoRedo, xh_NoRedo, cA_NoRedo, clN, clK, no_NoRedo⟩, kit_of xc_NotExtreme xt_NotExtreme xs_NoRedo_NotExtreme (kit_no xs_NoRedo_NotExtreme xs_NotExtreme_NotExtreme)⟩, (fun _ h => nomatch h)⟩⟩⟩⟩⟩⟩⟩⟩⟩⟩⟩⟩⟩
  have V20 : mg "BadLine" = some (.ref (CT cBadLine)) := PySem.W.mg_of X G a_BadLine
  have V21 : IsxT K CT (.ref (CT cBadLine)) ([(cNoOffer, false), (cNoAsked, false), (cNoTaking, false), (cNoMeasure, false), (cNotExtreme, false), (cNotConsistent, false), (cNoKind, false), (cNoRoll, false), (cBadText, false), (cBadLine, true), (cNoCommand, false), (cNoUndo, false), (cNoRedo, false)] : List (Nat × Bool)) := List.forall_mem_cons.mpr ⟨⟨⟨ga_NoOffer, gg_NoOffer, xe_NoOffer, xh_NoOffer, cA_NoOffer, clN, clK, no_NoOffer⟩, kit_of xc_BadLine xt_BadLine xs_NoOffer_BadLine (kit_no xs_NoOffer_BadLine xs_BadLine_BadLine)⟩, List.forall_mem_cons.mpr ⟨⟨⟨ga_NoAsked, gg_NoAsked, xe_NoAsked, xh_NoAsked, cA_NoAsked, clN, clK, no_NoAsked⟩, kit_of xc_BadLine xt_BadLine xs_NoAsked_BadLine (kit_no xs_NoAsked_BadLine xs_BadLine_BadLine)⟩, List.forall_mem_cons.mpr ⟨⟨⟨ga_NoTaking, gg_NoTaking, xe_NoTaking, xh_NoTaking, cA_NoTaking, clN, clK, no_NoTaking⟩, kit_of xc_BadLine xt_BadLine xs_NoTaking_BadLine (kit_no xs_NoTaking_BadLine xs_BadLine_BadLine)⟩, List.forall_mem_cons.mpr ⟨⟨⟨ga_NoMeasure, gg_NoMeasure, xe_NoMeasure, xh_NoMeasure, cA_NoMeasure, clN, clK, no_NoMeasure⟩, kit_of xc_BadLine xt_BadLine xs_NoMeasure_BadLine (kit_no xs_NoMeasure_BadLine xs_BadLine_BadLine)⟩, List.forall_mem_cons.mpr ⟨⟨⟨ga_NotExtreme, gg_NotExtreme, xe_NotExtreme, xh_NotExtreme, cA_NotExtreme, clN, clK, no_NotExtreme⟩, kit_of xc_BadLine xt_BadLine xs_NotExtreme_BadLine (kit_no xs_NotExtreme_BadLine xs_BadLine_BadLine)⟩, List.forall_mem_cons.mpr ⟨⟨⟨ga_NotConsistent, gg_NotConsistent, xe_NotConsistent, xh_NotConsistent, cA_NotConsistent, clN, clK, no_NotConsistent⟩, kit_of xc_BadLine xt_BadLine xs_NotConsistent_BadLine (kit_no xs_NotConsistent_BadLine xs_BadLine_BadLine)⟩, List.forall_mem_cons.mpr ⟨⟨⟨ga_NoKind, gg_NoKind, xe_NoKind, xh_NoKind, cA_NoKind, clN, clK, no_NoKind⟩, kit_of xc_BadLine xt_BadLine xs_NoKind_BadLine (kit_no xs_NoKind_BadLine xs_BadLine_BadLine)⟩, List.forall_mem_cons.mpr ⟨⟨⟨ga_NoRoll, gg_NoRoll, xe_NoRoll, xh_NoRoll, cA_NoRoll, clN, clK, no_NoRoll⟩, kit_of xc_BadLine xt_BadLine xs_NoRoll_BadLine (kit_no xs_NoRoll_BadLine xs_BadLine_BadLine)⟩, List.forall_mem_cons.mpr ⟨⟨⟨ga_BadText, gg_BadText, xe_BadText, xh_BadText, cA_BadText, clN, clK, no_BadText⟩, kit_of xc_BadLine xt_BadLine xs_BadText_BadLine (kit_no xs_BadText_BadLine xs_BadLine_BadLine)⟩, List.forall_mem_cons.mpr ⟨⟨⟨ga_BadLine, gg_BadLine, xe_BadLine, xh_BadLine, cA_BadLine, clN, clK, no_BadLine⟩, kit_same⟩, List.forall_mem_cons.mpr ⟨⟨⟨ga_NoCommand, gg_NoCommand, xe_NoCommand, xh_NoCommand, cA_NoCommand, clN, clK, no_NoCommand⟩, kit_of xc_BadLine xt_BadLine xs_NoCommand_BadLine (kit_no xs_NoCommand_BadLine xs_BadLine_BadLine)⟩, List.forall_mem_cons.mpr ⟨⟨⟨ga_NoUndo, gg_NoUndo, xe_NoUndo, xh_NoUndo, cA_NoUndo, clN, clK, no_NoUndo⟩, kit_of xc_BadLine xt_BadLine xs_NoUndo_BadLine (kit_no xs_NoUndo_BadLine xs_BadLine_BadLine)⟩, List.forall_mem_cons.mpr ⟨⟨⟨ga_NoRedo, gg_NoRedo, xe_NoRedo, xh_NoRedo, cA_NoRedo, clN, clK, no_NoRedo⟩, kit_of xc_BadLine xt_BadLine xs_NoRedo_BadLine (kit_no xs_NoRedo_BadLine xs_BadLine_BadLine)⟩, (fun _ h => nomatch h)⟩⟩⟩⟩⟩⟩⟩⟩⟩⟩⟩⟩⟩
  have V22 : mg "BadText" = some (.ref (CT cBadText)) := PySem.W.mg_of X G a_BadText
  have V23 : IsxT K CT (.ref (CT cBadText)) ([(cNoOffer, false), (cNoAsked, false), (cNoTaking, false), (cNoMeasure, false), (cNotExtreme, false), (cNotConsistent, false), (cNoKind, false), (cNoRoll, false), (cBadText, true), (cBadLine, false), (cNoCommand, false), (cNoUndo, false), (cNoRedo, false)] : List (Nat × Bool)) := List.forall_mem_cons.mpr ⟨⟨⟨ga_NoOffer, gg_NoOffer, xe_NoOffer, xh_NoOffer, cA_NoOffer, clN, clK, no_NoOffer⟩, kit_of xc_BadText xt_BadText xs_NoOffer_BadText (kit_no xs_NoOffer_BadText xs_BadText_BadText)⟩, List.forall_mem_cons.mpr ⟨⟨⟨ga_NoAsked, gg_NoAsked, xe_NoAsked, xh_NoAsked, cA_NoAsked, clN, clK, no_NoAsked⟩, kit_of xc_BadText xt_BadText xs_NoAsked_BadText (kit_no xs_NoAsked_BadText xs_BadText_BadText)⟩, List.forall_mem_cons.mpr ⟨⟨⟨ga_NoTaking, gg_NoTaking, xe_NoTaking, xh_NoTaking, cA_NoTaking, clN, clK, no_NoTaking⟩, kit_of xc_BadText xt_BadText xs_NoTaking_BadText (kit_no xs_NoTaking_BadText xs_BadText_BadText)⟩, List.forall_mem_cons.mpr ⟨⟨⟨ga_NoMeasure, gg_NoMeasure, xe_NoMeasure, xh_NoMeasure, cA_NoMeasure, clN, clK, no_NoMeasure⟩, kit_of xc_BadText xt_BadText xs_NoMeasure_BadText (kit_no xs_NoMeasure_BadText xs_BadText_BadText)⟩, List.forall_mem_cons.mpr ⟨⟨⟨ga_NotExtreme, gg_NotExtreme, xe_NotExtreme, xh_NotExtreme, cA_NotExtreme, clN, clK, no_NotExtreme⟩, kit_of xc_BadText xt_BadText xs_NotExtreme_BadText (kit_no xs_NotExtreme_BadText xs_BadText_BadText)⟩, List.forall_mem_cons.mpr ⟨⟨⟨ga_NotConsistent, gg_NotConsistent, xe_NotConsistent, xh_NotConsistent, cA_NotConsistent, clN, clK, no_NotConsistent⟩, kit_of xc_BadText xt_BadText xs_NotConsistent_BadText (kit_no xs_NotConsistent_BadText xs_BadText_BadText)⟩, List.forall_mem_cons.mpr ⟨⟨⟨ga_NoKind, gg_NoKind, xe_NoKind, xh_NoKind, cA_NoKind, clN, clK, no_NoKind⟩, kit_of xc_BadText xt_BadText xs_NoKind_BadText (kit_no xs_NoKind_BadText xs_BadText_BadText)⟩, List.forall_mem_cons.mpr ⟨⟨⟨ga_NoRoll, gg_NoRoll, xe_NoRoll, xh_NoRoll, cA_NoRoll, clN, clK, no_NoRoll⟩, kit_of xc_BadText xt_BadText xs_NoRoll_BadText (kit_no xs_NoRoll_BadText xs_BadText_BadText)⟩, List.forall_mem_cons.mpr ⟨⟨⟨ga_BadText, gg_BadText, xe_BadText, xh_BadText, cA_BadText, clN, clK, no_BadText⟩, kit_same⟩, List.forall_mem_cons.mpr ⟨⟨⟨ga_BadLine, gg_BadLine, xe_BadLine, xh_BadLine, cA_BadLine, clN, clK, no_BadLine⟩, kit_of xc_BadText xt_BadText xs_BadLine_BadText (kit_no xs_BadLine_BadText xs_BadText_BadText)⟩, List.forall_mem_cons.mpr ⟨⟨⟨ga_NoCommand, gg_NoCommand, xe_NoCommand, xh_NoCommand, cA_NoCommand, clN, clK, no_NoCommand⟩, kit_of xc_BadText xt_BadText xs_NoCommand_BadText (kit_no xs_NoCommand_BadText xs_BadText_BadText)⟩, List.forall_mem_cons.mpr ⟨⟨⟨ga_NoUndo, gg_NoUndo, xe_NoUndo, xh_NoUndo, cA_NoUndo, clN, clK, no_NoUndo⟩, kit_of xc_BadText xt_BadText xs_NoUndo_BadText (kit_no xs_NoUndo_BadText xs_BadText_BadText)⟩, List.forall_mem_cons.mpr ⟨⟨⟨ga_NoRedo, gg_NoRedo, xe_NoRedo, xh_NoRedo, cA_NoRedo, clN, clK, no_NoRedo⟩, kit_of xc_BadText xt_BadText xs_NoRedo_BadText (kit_no xs_NoRedo_BadText xs_BadText_BadText)⟩, (fun _ h => nomatch h)⟩⟩⟩⟩⟩⟩⟩⟩⟩⟩⟩⟩⟩
  have V24 : mg "NoRoll" = some (.ref (CT cNoRoll)) := PySem.W.mg_of X G a_NoRoll
  have V25 : IsxT K CT (.ref (CT cNoRoll)) ([(cNoOffer, false), (cNoAsked, false), (cNoTaking, false), (cNoMeasure, false), (cNotExtreme, false), (cNotConsistent, false), (cNoKind, false), (cNoRoll, true), (cBadText, false), (cBadLine, false), (cNoCommand, false), (cNoUndo, false), (cNoRedo, false)] : List (Nat × Bool)) := List.forall_mem_cons.mpr ⟨⟨⟨ga_NoOffer, gg_NoOffer, xe_NoOffer, xh_NoOffer, cA_NoOffer, clN, clK, no_NoOffer⟩, kit_of xc_NoRoll xt_NoRoll xs_NoOffer_NoRoll (kit_no xs_NoOffer_NoRoll xs_NoRoll_NoRoll)⟩, List.forall_mem_cons.mpr ⟨⟨⟨ga_NoAsked, gg_NoAsked, xe_NoAsked, xh_NoAsked, cA_NoAsked, clN, clK, no_NoAsked⟩, kit_of xc_NoRoll xt_NoRoll xs_NoAsked_NoRoll (kit_no xs_NoAsked_NoRoll xs_NoRoll_NoRoll)⟩, List.forall_mem_cons.mpr ⟨⟨⟨ga_NoTaking, gg_NoTaking, xe_NoTaking, xh_NoTaking, cA_NoTaking, clN, clK, no_NoTaking⟩, kit_of xc_NoRoll xt_NoRoll xs_NoTaking_NoRoll (kit_no xs_NoTaking_NoRoll xs_NoRoll_NoRoll)⟩, List.forall_mem_cons.mpr ⟨⟨⟨ga_NoMeasure, gg_NoMeasure, xe_NoMeasure, xh_NoMeasure, cA_NoMeasure, clN, clK, no_NoMeasure⟩, kit_of xc_NoRoll xt_NoRoll xs_NoMeasure_NoRoll (kit_no xs_NoMeasure_NoRoll xs_NoRoll_NoRoll)⟩, List.forall_mem_cons.mpr ⟨⟨⟨ga_NotExtreme, gg_NotExtreme, xe_NotExtreme, xh_NotExtreme, cA_NotExtreme, clN, clK, no_NotExtreme⟩, kit_of xc_NoRoll xt_NoRoll xs_NotExtreme_NoRoll (kit_no xs_NotExtreme_NoRoll xs_NoRoll_NoRoll)⟩, List.forall_mem_cons.mpr ⟨⟨⟨ga_NotConsistent, gg_NotConsistent, xe_NotConsistent, xh_NotConsistent, cA_NotConsistent, clN, clK, no_NotConsistent⟩, kit_of xc_NoRoll xt_NoRoll xs_NotConsistent_NoRoll (kit_no xs_NotConsistent_NoRoll xs_NoRoll_NoRoll)⟩, List.forall_mem_cons.mpr ⟨⟨⟨ga_NoKind, gg_NoKind, xe_NoKind, xh_NoKind, cA_NoKind, clN, clK, no_NoKind⟩, kit_of xc_NoRoll xt_NoRoll xs_NoKind_NoRoll (kit_no xs_NoKind_NoRoll xs_NoRoll_NoRoll)⟩, List.forall_mem_cons.mpr ⟨⟨⟨ga_NoRoll, gg_NoRoll, xe_NoRoll, xh_NoRoll, cA_NoRoll, clN, clK, no_NoRoll⟩, kit_same⟩, List.forall_mem_cons.mpr ⟨⟨⟨ga_BadText, gg_BadText, xe_BadText, xh_BadText, cA_BadText, clN, clK, no_BadText⟩, kit_of xc_NoRoll xt_NoRoll xs_BadText_NoRoll (kit_no xs_BadText_NoRoll xs_NoRoll_NoRoll)⟩, List.forall_mem_cons.mpr ⟨⟨⟨ga_BadLine, gg_BadLine, xe_BadLine, xh_BadLine, cA_BadLine, clN, clK, no_BadLine⟩, kit_of xc_NoRoll xt_NoRoll xs_BadLine_NoRoll (kit_no xs_BadLine_NoRoll xs_NoRoll_NoRoll)⟩, List.forall_mem_cons.mpr ⟨⟨⟨ga_NoCommand, gg_NoCommand, xe_NoCommand, xh_NoCommand, cA_NoCommand, clN, clK, no_NoCommand⟩, kit_of xc_NoRoll xt_NoRoll xs_NoCommand_NoRoll (kit_no xs_NoCommand_NoRoll xs_NoRoll_NoRoll)⟩, List.forall_mem_cons.mpr ⟨⟨⟨ga_NoUndo, gg_NoUndo, xe_NoUndo, xh_NoUndo, cA_NoUndo, clN, clK, no_NoUndo⟩, kit_of xc_NoRoll xt_NoRoll xs_NoUndo_NoRoll (kit_no xs_NoUndo_NoRoll xs_NoRoll_NoRoll)⟩, List.forall_mem_cons.mpr ⟨⟨⟨ga_NoRedo, gg_NoRedo, xe_NoRedo, xh_NoRedo, cA_NoRedo, clN, clK, no_NoRedo⟩, kit_of xc_NoRoll xt_NoRoll xs_NoRedo_NoRoll (kit_no xs_NoRedo_NoRoll xs_NoRoll_NoRoll)⟩, (fun _ h => nomatch h)⟩⟩⟩⟩⟩⟩⟩⟩⟩⟩⟩⟩⟩
  have V26 : mg "NoRedo" = some (.ref (CT cNoRedo)) := PySem.W.mg_of X G a_NoRedo
  have V27 : IsxT K CT (.ref (CT cNoRedo)) ([(cNoOffer, false), (cNoAsked, false), (cNoTaking, false), (cNoMeasure, false), (cNotExtreme, false), (cNotConsistent, false), (cNoKind, false), (cNoRoll, false), (cBadText, false), (cBadLine, false), (cNoCommand, false), (cNoUndo, false), (cNoRedo, true)] : List (Nat × Bool)) := List.forall_mem_cons.mpr ⟨⟨⟨ga_NoOffer, gg_NoOffer, xe_NoOffer, xh_NoOffer, cA_NoOffer, clN, clK, no_NoOffer⟩, kit_of xc_NoRedo xt_NoRedo xs_NoOffer_NoRedo (kit_no xs_NoOffer_NoRedo xs_NoRedo_NoRedo)⟩, List.forall_mem_cons.mpr ⟨⟨⟨ga_NoAsked, gg_NoAsked, xe_NoAsked, xh_NoAsked, cA_NoAsked, clN, clK, no_NoAsked⟩, kit_of xc_NoRedo xt_NoRedo xs_NoAsked_NoRedo (kit_no xs_NoAsked_NoRedo xs_NoRedo_NoRedo)⟩, List.forall_mem_cons.mpr ⟨⟨⟨ga_NoTaking, gg_NoTaking, xe_NoTaking, xh_NoTaking, cA_NoTaking, clN, clK, no_NoTaking⟩, kit_of xc_NoRedo xt_NoRedo xs_NoTaking_NoRedo (kit_no xs_NoTaking_NoRedo xs_NoRedo_NoRedo)⟩, List.forall_mem_cons.mpr ⟨⟨⟨ga_NoMeasure, gg_NoMeasure, xe_NoMeasure, xh_NoMeasure, cA_NoMeasure, clN, clK, no_NoMeasure⟩, kit_of xc_NoRedo xt_NoRedo xs_NoMeasure_NoRedo (kit_no xs_NoMeasure_NoRedo xs_NoRedo_NoRedo)⟩, List.forall_mem_cons.mpr ⟨⟨⟨ga_NotExtreme, gg_NotExtreme, xe_NotExtreme, xh_NotExtreme, cA_NotExtreme, clN, clK, no_NotExtreme⟩, kit_of xc_NoRedo xt_NoRedo xs_NotExtreme_NoRedo (kit_no xs_NotExtreme_NoRedo xs_NoRedo_NoRedo)⟩, List.forall_mem_cons.mpr ⟨⟨⟨ga_NotConsistent, gg_NotConsistent, xe_NotConsistent, xh_NotConsistent, cA_NotConsistent, clN, clK, no_NotConsistent⟩, kit_of xc_NoRedo xt_NoRedo xs_NotConsistent_NoRedo (kit_no xs_NotConsistent_NoRedo xs_NoRedo_NoRedo)⟩, List.forall_mem_cons.mpr ⟨⟨⟨ga_NoKind, gg_NoKind, xe_NoKind, xh_NoKind, cA_NoKind, clN, clK, no_NoKind⟩, kit_of xc_NoRedo xt_NoRedo xs_NoKind_NoRedo (kit_no xs_NoKind_NoRedo xs_NoRedo_NoRedo)⟩, List.forall_mem_cons.mpr ⟨⟨⟨ga_NoRoll, gg_NoRoll, xe_NoRoll, xh_NoRoll, cA_NoRoll, clN, clK, no_NoRoll⟩, kit_of xc_NoRedo xt_NoRedo xs_NoRoll_NoRedo (kit_no xs_NoRoll_NoRedo xs_NoRedo_NoRedo)⟩, List.forall_mem_cons.mpr ⟨⟨⟨ga_BadText, gg_BadText, xe_BadText, xh_BadText, cA_BadText, clN, clK, no_BadText⟩, kit_of xc_NoRedo xt_NoRedo xs_BadText_NoRedo (kit_no xs_BadText_NoRedo xs_NoRedo_NoRedo)⟩, List.forall_mem_cons.mpr ⟨⟨⟨ga_BadLine, gg_BadLine, xe_BadLine, xh_BadLine, cA_BadLine, clN, clK, no_BadLine⟩, kit_of xc_NoRedo xt_NoRedo xs_BadLine_NoRedo (kit_no xs_BadLine_NoRedo xs_NoRedo_NoRedo)⟩, List.forall_mem_cons.mpr ⟨⟨⟨ga_NoCommand, gg_NoCommand, xe_NoCommand, xh_NoCommand, cA_NoCommand, clN, clK, no_NoCommand⟩, kit_of xc_NoRedo xt_NoRedo xs_NoCommand_NoRedo (kit_no xs_NoCommand_NoRedo xs_NoRedo_NoRedo)⟩, List.forall_mem_cons.mpr ⟨⟨⟨ga_NoUndo, gg_NoUndo, xe_NoUndo, xh_NoUndo, cA_NoUndo, clN, clK, no_NoUndo⟩, kit_of xc_NoRedo xt_NoRedo xs_NoUndo_NoRedo (kit_no xs_NoUndo_NoRedo xs_NoRedo_NoRedo)⟩, List.forall_mem_cons.mpr ⟨⟨⟨ga_NoRedo, gg_NoRedo, xe_NoRedo, xh_NoRedo, cA_NoRedo, clN, clK, no_NoRedo⟩, kit_same⟩, (fun _ h => nomatch h)⟩⟩⟩⟩⟩⟩⟩⟩⟩⟩⟩⟩⟩
  have V28 : mg "NoUndo" = some (.ref (CT cNoUndo)) := PySem.W.mg_of X G a_NoUndo
  have V29 : IsxT K CT (.ref (CT cNoUndo)) ([(cNoOffer, false), (cNoAsked, false), (cNoTaking, false), (cNoMeasure, false), (cNotExtreme, false), (cNotConsistent, false), (cNoKind, false), (cNoRoll, false), (cBadText, false), (cBadLine, false), (cNoCommand, false), (cNoUndo, true), (cNoRedo, false)] : List (Nat × Bool)) := List.forall_mem_cons.mpr ⟨⟨⟨ga_NoOffer, gg_NoOffer, xe_NoOffer, xh_NoOffer, cA_NoOffer, clN, clK, no_NoOffer⟩, kit_of xc_NoUndo xt_NoUndo xs_NoOffer_NoUndo (kit_no xs_NoOffer_NoUndo xs_NoUndo_NoUndo)⟩, List.forall_mem_cons.mpr ⟨⟨⟨ga_NoAsked, gg_NoAsked, xe_NoAsked, xh_NoAsked, cA_NoAsked, clN, clK, no_NoAsked⟩, kit_of xc_NoUndo xt_NoUndo xs_NoAsked_NoUndo (kit_no xs_NoAsked_NoUndo xs_NoUndo_NoUndo)⟩, List.forall_mem_cons.mpr ⟨⟨⟨ga_NoTaking, gg_NoTaking, xe_NoTaking, xh_NoTaking, cA_NoTaking, clN, clK, no_NoTaking⟩, kit_of xc_NoUndo xt_NoUndo xs_NoTaking_NoUndo (kit_no xs_NoTaking_NoUndo xs_NoUndo_NoUndo)⟩, List.forall_mem_cons.mpr ⟨⟨⟨ga_NoMeasure, gg_NoMeasure, xe_NoMeasure, xh_NoMeasure, cA_NoMeasure, clN, clK, no_NoMeasure⟩, kit_of xc_NoUndo xt_NoUndo xs_NoMeasure_NoUndo (kit_no xs_NoMeasure_NoUndo xs_NoUndo_NoUndo)⟩, List.forall_mem_cons.mpr ⟨⟨⟨ga_NotExtreme, gg_NotExtreme, xe_NotExtreme, xh_NotExtreme, cA_NotExtreme, clN, clK, no_NotExtreme⟩, kit_of xc_NoUndo xt_NoUndo xs_NotExtreme_NoUndo (kit_no xs_NotExtreme_NoUndo xs_NoUndo_NoUndo)⟩, List.forall_mem_cons.mpr ⟨⟨⟨ga_NotConsistent, gg_NotConsistent, xe_NotConsistent, xh_NotConsistent, cA_NotConsistent, clN, clK, no_NotConsistent⟩, kit_of xc_NoUndo xt_NoUndo xs_NotConsistent_NoUndo (kit_no xs_NotConsistent_NoUndo xs_NoUndo_NoUndo)⟩, List.forall_mem_cons.mpr ⟨⟨⟨ga_NoKind, gg_NoKind, xe_NoKind, xh_NoKind, cA_NoKind, clN, clK, no_NoKind⟩, kit_of xc_NoUndo xt_NoUndo xs_NoKind_NoUndo (kit_no xs_NoKind_NoUndo xs_NoUndo_NoUndo)⟩, List.forall_mem_cons.mpr ⟨⟨⟨ga_NoRoll, gg_NoRoll, xe_NoRoll, xh_NoRoll, cA_NoRoll, clN, clK, no_NoRoll⟩, kit_of xc_NoUndo xt_NoUndo xs_NoRoll_NoUndo (kit_no xs_NoRoll_NoUndo xs_NoUndo_NoUndo)⟩, List.forall_mem_cons.mpr ⟨⟨⟨ga_BadText, gg_BadText, xe_BadText, xh_BadText, cA_BadText, clN, clK, no_BadText⟩, kit_of xc_NoUndo xt_NoUndo xs_BadText_NoUndo (kit_no xs_BadText_NoUndo xs_NoUndo_NoUndo)⟩, List.forall_mem_cons.mpr ⟨⟨⟨ga_BadLine, gg_BadLine, xe_BadLine, xh_BadLine, cA_BadLine, clN, clK, no_BadLine⟩, kit_of xc_NoUndo xt_NoUndo xs_BadLine_NoUndo (kit_no xs_BadLine_NoUndo xs_NoUndo_NoUndo)⟩, List.forall_mem_cons.mpr ⟨⟨⟨ga_NoCommand, gg_NoCommand, xe_NoCommand, xh_NoCommand, cA_NoCommand, clN, clK, no_NoCommand⟩, kit_of xc_NoUndo xt_NoUndo xs_NoCommand_NoUndo (kit_no xs_NoCommand_NoUndo xs_NoUndo_NoUndo)⟩, List.forall_mem_cons.mpr ⟨⟨⟨ga_NoUndo, gg_NoUndo, xe_NoUndo, xh_NoUndo, cA_NoUndo, clN, clK, no_NoUndo⟩, kit_same⟩, List.forall_mem_cons.mpr ⟨⟨⟨ga_NoRedo, gg_NoRedo, xe_NoRedo, xh_NoRedo, cA_NoRedo, clN, clK, no_NoRedo⟩, kit_of xc_NoUndo xt_NoUndo xs_NoRedo_NoUndo (kit_no xs_NoRedo_NoUndo xs_NoUndo_NoUndo)⟩, (fun _ h => nomatch h)⟩⟩⟩⟩⟩⟩⟩⟩⟩⟩⟩⟩⟩
  have V30 : mg "NoCommand" = some (.ref (CT cNoCommand)) := PySem.W.mg_of X G a_NoCommand
  have V31 : IsxT K CT (.ref (CT cNoCommand)) ([(cNoOffer, false), (cNoAsked, false), (cNoTaking, false), (cNoMeasure, false), (cNotExtreme, false), (cNotConsistent, false), (cNoKind, false), (cNoRoll, false), (cBadText, false), (cBadLine, false), (cNoCommand, true), (cNoUndo, false), (cNoRedo, false)] : List (Nat × Bool)) := List.forall_mem_cons.mpr ⟨⟨⟨ga_NoOffer, gg_NoOffer, xe_NoOffer, xh_NoOffer, cA_NoOffer, clN, clK, no_NoOffer⟩, kit_of xc_NoCommand xt_NoCommand xs_NoOffer_NoCommand (kit_no xs_NoOffer_NoCommand xs_NoCommand_NoCommand)⟩, List.forall_mem_cons.mpr ⟨⟨⟨ga_NoAsked, gg_NoAsked, xe_NoAsked, xh_NoAsked, cA_NoAsked, clN, clK, no_NoAsked⟩, kit_of xc_NoCommand xt_NoCommand xs_NoAsked_NoCommand (kit_no xs_NoAsked_NoCommand xs_NoCommand_NoCommand)⟩, List.forall_mem_cons.mpr ⟨⟨⟨ga_NoTaking, gg_NoTaking, xe_NoTaking, xh_NoTaking, cA_NoTaking, clN, clK, no_NoTaking⟩, kit_of xc_NoCommand xt_NoCommand xs_NoTaking_NoCommand (kit_no xs_NoTaking_NoCommand xs_NoCommand_NoCommand)⟩, List.forall_mem_cons.mpr ⟨⟨⟨ga_NoMeasure, gg_NoMeasure, xe_NoMeasure, xh_NoMeasure, cA_NoMeasure, clN, clK, no_NoMeasure⟩, kit_of xc_NoCommand xt_NoCommand xs_NoMeasure_NoCommand (kit_no xs_NoMeasure_NoCommand xs_NoCommand_NoCommand)⟩, List.forall_mem_cons.mpr ⟨⟨⟨ga_NotExtreme, gg_NotExtreme, xe_NotExtreme, xh_NotExtreme, cA_NotExtreme, clN, clK, no_NotExtreme⟩, kit_of xc_NoCommand xt_NoCommand xs_NotExtreme_NoCommand (kit_no xs_NotExtreme_NoCommand xs_NoCommand_NoCommand)⟩, List.forall_mem_cons.mpr ⟨⟨⟨ga_NotConsistent, gg_NotConsistent, xe_NotConsistent, xh_NotConsistent, cA_NotConsistent, clN, clK, no_NotConsistent⟩, kit_of xc_NoCommand xt_NoCommand xs_NotConsistent_NoCommand (kit_no xs_NotConsistent_NoCommand xs_NoCommand_NoCommand)⟩, List.forall_mem_cons.mpr ⟨⟨⟨ga_NoKind, gg_NoKind, xe_NoKind, xh_NoKind, cA_NoKind, clN, clK, no_NoKind⟩, kit_of xc_NoCommand xt_NoCommand xs_NoKind_NoCommand (kit_no xs_NoKind_NoCommand xs_NoCommand_NoCommand)⟩, List.forall_mem_cons.mpr ⟨⟨⟨ga_NoRoll, gg_NoRoll, xe_NoRoll, xh_NoRoll, cA_NoRoll, clN, clK, no_NoRoll⟩, kit_of xc_NoCommand xt_NoCommand xs_NoRoll_NoCommand (kit_no xs_NoRoll_NoCommand xs_NoCommand_NoCommand)⟩, List.forall_mem_cons.mpr ⟨⟨⟨ga_BadText, gg_BadText, xe_BadText, xh_BadText, cA_BadText, clN, clK, no_BadText⟩, kit_of xc_NoCommand xt_NoCommand xs_BadText_NoCommand (kit_no xs_BadText_NoCommand xs_NoCommand_NoCommand)⟩, List.forall_mem_cons.mpr ⟨⟨⟨ga_BadLine, gg_BadLine, xe_BadLine, xh_BadLine, cA_BadLine, clN, clK, no_BadLine⟩, kit_of xc_NoCommand xt_NoCommand xs_BadLine_NoCommand (kit_no xs_BadLine_NoCommand xs_NoCommand_NoCommand)⟩, List.forall_mem_cons.mpr ⟨⟨⟨ga_NoCommand, gg_NoCommand, xe_NoCommand, xh_NoCommand, cA_NoCommand, clN, clK, no_NoCommand⟩, kit_same⟩, List.forall_mem_cons.mpr ⟨⟨⟨ga_NoUndo, gg_NoUndo, xe_NoUndo, xh_NoUndo, cA_NoUndo, clN, clK, no_NoUndo⟩, kit_of xc_NoCommand xt_NoCommand xs_NoUndo_NoCommand (kit_no xs_NoUndo_NoCommand xs_NoCommand_NoCommand)⟩, List.forall_mem_cons.mpr ⟨⟨⟨ga_NoRedo, gg_NoRedo, xe_NoRedo, xh_NoRedo, cA_NoRedo, clN, clK, no_NoRedo⟩, kit_of xc_NoCommand xt_NoCommand xs_NoRedo_NoCommand (kit_no xs_NoRedo_NoCommand xs_NoCommand_NoCommand)⟩, (fun _ h => nomatch h)⟩⟩⟩⟩⟩⟩⟩⟩⟩⟩⟩⟩⟩
  have V32 : mg "NoTable" = some (.ref (CT cNoTable)) := PySem.W.mg_of X G a_NoTable
  have V33 : IsxT K CT (.ref (CT cNoTable)) ([(cNoOffer, false), (cNoAsked, false), (cNoTaking, false), (cNoMeasure, false), (cNotExtreme, false), (cNotConsistent, false), (cNoKind, false), (cNoRoll, false), (cBadText, false), (cBadLine, false), (cNoCommand, false), (cNoUndo, false), (cNoRedo, false)] : List (Nat × Bool)) := List.forall_mem_cons.mpr ⟨⟨⟨ga_NoOffer, gg_NoOffer, xe_NoOffer, xh_NoOffer, cA_NoOffer, clN, clK, no_NoOffer⟩, kit_of xc_NoTable xt_NoTable xs_NoOffer_NoTable (kit_no xs_NoOffer_NoTable xs_NoTable_NoTable)⟩, List.forall_mem_cons.mpr ⟨⟨⟨ga_NoAsked, gg_NoAsked, xe_NoAsked, xh_NoAsked, cA_NoAsked, clN, clK, no_NoAsked⟩, kit_of xc_NoTable xt_NoTable xs_NoAsked_NoTable (kit_no xs_NoAsked_NoTable xs_NoTable_NoTable)⟩, List.forall_mem_cons.mpr ⟨⟨⟨ga_NoTaking, gg_NoTaking, xe_NoTaking, xh_NoTaking, cA_NoTaking, clN, clK, no_NoTaking⟩, kit_of xc_NoTable xt_NoTable xs_NoTaking_NoTable (kit_no xs_NoTaking_NoTable xs_NoTable_NoTable)⟩, List.forall_mem_cons.mpr ⟨⟨⟨ga_NoMeasure, gg_NoMeasure, xe_NoMeasure, xh_NoMeasure, cA_NoMeasure, clN, clK, no_NoMeasure⟩, kit_of xc_NoTable xt_NoTable xs_NoMeasure_NoTable (kit_no xs_NoMeasure_NoTable xs_NoTable_NoTable)⟩, List.forall_mem_cons.mpr ⟨⟨⟨ga_NotExtreme, gg_NotExtreme, xe_NotExtreme, xh_NotExtreme, cA_NotExtreme, clN, clK, no_NotExtreme⟩, kit_of xc_NoTable xt_NoTable xs_NotExtreme_NoTable (kit_no xs_NotExtreme_NoTable xs_NoTable_NoTable)⟩, List.forall_mem_cons.mpr ⟨⟨⟨ga_NotConsistent, gg_NotConsistent, xe_NotConsistent, xh_NotConsistent, cA_NotConsistent, clN, clK, no_NotConsistent⟩, kit_of xc_NoTable xt_NoTable xs_NotConsistent_NoTable (kit_no xs_NotConsistent_NoTable xs_NoTable_NoTable)⟩, List.forall_mem_cons.mpr ⟨⟨⟨ga_NoKind, gg_NoKind, xe_NoKind, xh_NoKind, cA_NoKind, clN, clK, no_NoKind⟩, kit_of xc_NoTable xt_NoTable xs_NoKind_NoTable (kit_no xs_NoKind_NoTable xs_NoTable_NoTable)⟩, List.forall_mem_cons.mpr ⟨⟨⟨ga_NoRoll, gg_NoRoll, xe_NoRoll, xh_NoRoll, cA_NoRoll, clN, clK, no_NoRoll⟩, kit_of xc_NoTable xt_NoTable xs_NoRoll_NoTable (kit_no xs_NoRoll_NoTable xs_NoTable_NoTable)⟩, List.forall_mem_cons.mpr ⟨⟨⟨ga_BadText, gg_BadText, xe_BadText, xh_BadText, cA_BadText, clN, clK, no_BadText⟩, kit_of xc_NoTable xt_NoTable xs_BadText_NoTable (kit_no xs_BadText_NoTable xs_NoTable_NoTable)⟩, List.forall_mem_cons.mpr ⟨⟨⟨ga_BadLine, gg_BadLine, xe_BadLine, xh_BadLine, cA_BadLine, clN, clK, no_BadLine⟩, kit_of xc_NoTable xt_NoTable xs_BadLine_NoTable (kit_no xs_BadLine_NoTable xs_NoTable_NoTable)⟩, List.forall_mem_cons.mpr ⟨⟨⟨ga_NoCommand, gg_NoCommand, xe_NoCommand, xh_NoCommand, cA_NoCommand, clN, clK, no_NoCommand⟩, kit_of xc_NoTable xt_NoTable xs_NoCommand_NoTable (kit_no xs_NoCommand_NoTable xs_NoTable_NoTable)⟩, List.forall_mem_cons.mpr ⟨⟨⟨ga_NoUndo, gg_NoUndo, xe_NoUndo, xh_NoUndo, cA_NoUndo, clN, clK, no_NoUndo⟩, kit_of xc_NoTable xt_NoTable xs_NoUndo_NoTable (kit_no xs_NoUndo_NoTable xs_NoTable_NoTable)⟩, List.forall_mem_cons.mpr ⟨⟨⟨ga_NoRedo, gg_NoRedo, xe_NoRedo, xh_NoRedo, cA_NoRedo, clN, clK, no_NoRedo⟩, kit_of xc_NoTable xt_NoTable xs_NoRedo_NoTable (kit_no xs_NoRedo_NoTable xs_NoTable_NoTable)⟩, (fun _ h => nomatch h)⟩⟩⟩⟩⟩⟩⟩⟩⟩⟩⟩⟩⟩
  have V34 : mg "NoSuch" = some (.ref (CT cNoSuch)) := PySem.W.mg_of X G a_NoSuch
  have V35 : IsxT K CT (.ref (CT cNoSuch)) ([(cNoOffer, false), (cNoAsked, false), (cNoTaking, false), (cNoMeasure, false), (cNotExtreme, false), (cNotConsistent, false), (cNoKind, false), (cNoRoll, false), (cBadText, false), (cBadLine, false), (cNoCommand, false), (cNoUndo, false), (cNoRedo, false)] : List (Nat × Bool)) := List.forall_mem_cons.mpr ⟨⟨⟨ga_NoOffer, gg_NoOffer, xe_NoOffer, xh_NoOffer, cA_NoOffer, clN, clK, no_NoOffer⟩, kit_of xc_NoSuch xt_NoSuch xs_NoOffer_NoSuch (kit_no xs_NoOffer_NoSuch xs_NoSuch_NoSuch)⟩, List.forall_mem_cons.mpr ⟨⟨⟨ga_NoAsked, gg_NoAsked, xe_NoAsked, xh_NoAsked, cA_NoAsked, clN, clK, no_NoAsked⟩, kit_of xc_NoSuch xt_NoSuch xs_NoAsked_NoSuch (kit_no xs_NoAsked_NoSuch xs_NoSuch_NoSuch)⟩, List.forall_mem_cons.mpr ⟨⟨⟨ga_NoTaking, gg_NoTaking, xe_NoTaking, xh_NoTaking, cA_NoTaking, clN, clK, no_NoTaking⟩, kit_of xc_NoSuch xt_NoSuch xs_NoTaking_NoSuch (kit_no xs_NoTaking_NoSuch xs_NoSuch_NoSuch)⟩, List.forall_mem_cons.mpr ⟨⟨⟨ga_NoMeasure, gg_NoMeasure, xe_NoMeasure, xh_NoMeasure, cA_NoMeasure, clN, clK, no_NoMeasure⟩, kit_of xc_NoSuch xt_NoSuch xs_NoMeasure_NoSuch (kit_no xs_NoMeasure_NoSuch xs_NoSuch_NoSuch)⟩, List.forall_mem_cons.mpr ⟨⟨⟨ga_NotExtreme, gg_NotExtreme, xe_NotExtreme, xh_NotExtreme, cA_NotExtreme, clN, clK, no_NotExtreme⟩, kit_of xc_NoSuch xt_NoSuch xs_NotExtreme_NoSuch (kit_no xs_NotExtreme_NoSuch xs_NoSuch_NoSuch)⟩, List.forall_mem_cons.mpr ⟨⟨⟨ga_NotConsistent, gg_NotConsistent, xe_NotConsistent, xh_NotConsistent, cA_NotConsistent, clN, clK, no_NotConsistent⟩, kit_of xc_NoSuch xt_NoSuch xs_NotConsistent_NoSuch (kit_no xs_NotConsistent_NoSuch xs_NoSuch_NoSuch)⟩, List.forall_mem_cons.mpr ⟨⟨⟨ga_NoKind, gg_NoKind, xe_NoKind, xh_NoKind, cA_NoKind, clN, clK, no_NoKind⟩, kit_of xc_NoSuch xt_NoSuch xs_NoKind_NoSuch (kit_no xs_NoKind_NoSuch xs_NoSuch_NoSuch)⟩, List.forall_mem_cons.mpr ⟨⟨⟨ga_NoRoll, gg_NoRoll, xe_NoRoll, xh_NoRoll, cA_NoRoll, clN, clK, no_NoRoll⟩, kit_of xc_NoSuch xt_NoSuch xs_NoRoll_NoSuch (kit_no xs_NoRoll_NoSuch xs_NoSuch_NoSuch)⟩, List.forall_mem_cons.mpr ⟨⟨⟨ga_BadText, gg_BadText, xe_BadText, xh_BadText, cA_BadText, clN, clK, no_BadText⟩, kit_of xc_NoSuch xt_NoSuch xs_BadText_NoSuch (kit_no xs_BadText_NoSuch xs_NoSuch_NoSuch)⟩, List.forall_mem_cons.mpr ⟨⟨⟨ga_BadLine, gg_BadLine, xe_BadLine, xh_BadLine, cA_BadLine, clN, clK, no_BadLine⟩, kit_of xc_NoSuch xt_NoSuch xs_BadLine_NoSuch (kit_no xs_BadLine_NoSuch xs_NoSuch_NoSuch)⟩, List.forall_mem_cons.mpr ⟨⟨⟨ga_NoCommand, gg_NoCommand, xe_NoCommand, xh_NoCommand, cA_NoCommand, clN, clK, no_NoCommand⟩, kit_of xc_NoSuch xt_NoSuch xs_NoCommand_NoSuch (kit_no xs_NoCommand_NoSuch xs_NoSuch_NoSuch)⟩, List.forall_mem_cons.mpr ⟨⟨⟨ga_NoUndo, gg_NoUndo, xe_NoUndo, xh_NoUndo, cA_NoUndo, clN, clK, no_NoUndo⟩, kit_of xc_NoSuch xt_NoSuch xs_NoUndo_NoSuch (kit_no xs_NoUndo_NoSuch xs_NoSuch_NoSuch)⟩, List.forall_mem_cons.mpr ⟨⟨⟨ga_NoRedo, gg_NoRedo, xe_NoRedo, xh_NoRedo, cA_NoRedo, clN, clK, no_NoRedo⟩, kit_of xc_NoSuch xt_NoSuch xs_NoRedo_NoSuch (kit_no xs_NoRedo_NoSuch xs_NoSuch_NoSuch)⟩, (fun _ h => nomatch h)⟩⟩⟩⟩⟩⟩⟩⟩⟩⟩⟩⟩⟩
  have V36 : mg "Full" = some (.ref (CT cFull)) := PySem.W.mg_of X G a_Full
  have V37 : IsxT K CT (.ref (CT cFull)) ([(cNoOffer, false), (cNoAsked, false), (cNoTaking, false), (cNoMeasure, false), (cNotExtreme, false), (cNotConsistent, false), (cNoKind, false), (cNoRoll, false), (cBadText, false), (cBadLine, false), (cNoCommand, false), (cNoUndo, false), (cNoRedo, false)] : List (Nat × Bool)) := List.forall_mem_cons.mpr ⟨⟨⟨ga_NoOffer, gg_NoOffer, xe_NoOffer, xh_NoOffer, cA_NoOffer, clN, clK, no_NoOffer⟩, kit_of xc_Full xt_Full xs_NoOffer_Full (kit_no xs_NoOffer_Full xs_Full_Full)⟩, List.forall_mem_cons.mpr ⟨⟨⟨ga_NoAsked, gg_NoAsked, xe_NoAsked, xh_NoAsked, cA_NoAsked, clN, clK, no_NoAsked⟩, kit_of xc_Full xt_Full xs_NoAsked_Full (kit_no xs_NoAsked_Full xs_Full_Full)⟩, List.forall_mem_cons.mpr ⟨⟨⟨ga_NoTaking, gg_NoTaking, xe_NoTaking, xh_NoTaking, cA_NoTaking, clN, clK, no_NoTaking⟩, kit_of xc_Full xt_Full xs_NoTaking_Full (kit_no xs_NoTaking_Full xs_Full_Full)⟩, List.forall_mem_cons.mpr ⟨⟨⟨ga_NoMeasure, gg_NoMeasure, xe_NoMeasure, xh_NoMeasure, cA_NoMeasure, clN, clK, no_NoMeasure⟩, kit_of xc_Full xt_Full xs_NoMeasure_Full (kit_no xs_NoMeasure_Full xs_Full_Full)⟩, List.forall_mem_cons.mpr ⟨⟨⟨ga_NotExtreme, gg_NotExtreme, xe_NotExtreme, xh_NotExtreme, cA_NotExtreme, clN, clK, no_NotExtreme⟩, kit_of xc_Full xt_Full xs_NotExtreme_Full (kit_no xs_NotExtreme_Full xs_Full_Full)⟩, List.forall_mem_cons.mpr ⟨⟨⟨ga_NotConsistent, gg_NotConsistent, xe_NotConsistent, xh_NotConsistent, cA_NotConsistent, clN, clK, no_NotConsistent⟩, kit_of xc_Full xt_Full xs_NotConsistent_Full (kit_no xs_NotConsistent_Full xs_Full_Full)⟩, List.forall_mem_cons.mpr ⟨⟨⟨ga_NoKind, gg_NoKind, xe_NoKind, xh_NoKind, cA_NoKind, clN, clK, no_NoKind⟩, kit_of xc_Full xt_Full xs_NoKind_Full (kit_no xs_NoKind_Full xs_Full_Full)⟩, List.forall_mem_cons.mpr ⟨⟨⟨ga_NoRoll, gg_NoRoll, xe_NoRoll, xh_NoRoll, cA_NoRoll, clN, clK, no_NoRoll⟩, kit_of xc_Full xt_Full xs_NoRoll_Full (kit_no xs_NoRoll_Full xs_Full_Full)⟩, List.forall_mem_cons.mpr ⟨⟨⟨ga_BadText, gg_BadText, xe_BadText, xh_BadText, cA_BadText, clN, clK, no_BadText⟩, kit_of xc_Full xt_Full xs_BadText_Full (kit_no xs_BadText_Full xs_Full_Full)⟩, List.forall_mem_cons.mpr ⟨⟨⟨ga_BadLine, gg_BadLine, xe_BadLine, xh_BadLine, cA_BadLine, clN, clK, no_BadLine⟩, kit_of xc_Full xt_Full xs_BadLine_Full (kit_no xs_BadLine_Full xs_Full_Full)⟩, List.forall_mem_cons.mpr ⟨⟨⟨ga_NoCommand, gg_NoCommand, xe_NoCommand, xh_NoCommand, cA_NoCommand, clN, clK, no_NoCommand⟩, kit_of xc_Full xt_Full xs_NoCommand_Full (kit_no xs_NoCommand_Full xs_Full_Full)⟩, List.forall_mem_cons.mpr ⟨⟨⟨ga_NoUndo, gg_NoUndo, xe_NoUndo, xh_NoUndo, cA_NoUndo, clN, clK, no_NoUndo⟩, kit_of xc_Full xt_Full xs_NoUndo_Full (kit_no xs_NoUndo_Full xs_Full_Full)⟩, List.forall_mem_cons.mpr ⟨⟨⟨ga_NoRedo, gg_NoRedo, xe_NoRedo, xh_NoRedo, cA_NoRedo, clN, clK, no_NoRedo⟩, kit_of xc_Full xt_Full xs_NoRedo_Full (kit_no xs_NoRedo_Full xs_Full_Full)⟩, (fun _ h => nomatch h)⟩⟩⟩⟩⟩⟩⟩⟩⟩⟩⟩⟩⟩
  have G__law_kinds := ok__law_kinds (P := l.prog) (w := w) (mg := mg) (base := base) (CT := CT) (lay := lay) (Fn := Fun.g F__law_kinds) (z_isinstance := V5) (c_NoMeasure := V6) (ix_NoMeasure := V7) (c_NoTaking := V8) (ix_NoTaking := V9) (c_NoAsked := V10) (ix_NoAsked := V11) (c_NoOffer := V12) (ix_NoOffer := V13) (c_NoKind := V14) (ix_NoKind := V15) (c_NotConsistent := V16) (ix_NotConsistent := V17) (c_NotExtreme := V18) (ix_NotExtreme := V19) (c_BadLine := V20) (ix_BadLine := V21) (c_BadText := V22) (ix_BadText := V23) (c_NoRoll := V24) (ix_NoRoll := V25) (c_NoRedo := V26) (ix_NoRedo := V27) (c_NoUndo := V28) (ix_NoUndo := V29) (c_NoCommand := V30) (ix_NoCommand := V31) (c_NoTable := V32) (ix_NoTable := V33) (c_NoSuch := V34) (ix_NoSuch := V35) (c_Full := V36) (ix_Full := V37)
  have V38 : FnAt l.prog w K mg base CT lay 1 "_law_pick" ["_law_bag_here", "_law_many"] oDraw := ⟨_, _, draw_of (ok_lpick F__law_pick B), m__law_pick, k__law_pick, b__law_pick⟩
  have G__law_value := ok__law_value (P := l.prog) (w := w) (mg := mg) (base := base) (CT := CT) (lay := lay) (Fn := Fun.g F__law_value) (h__law_pick := V38)
  have V39 : XnAt0 K mg CT lay "NotConsistent" cNotConsistent := ⟨_, _, _, _, PySem.F.excBase_ValueError, xi_NotConsistent, PySem.W.mg_of X G a_NotConsistent, xk_NotConsistent, xe_NotConsistent, xt_NotConsistent, rfl⟩
  have V40 : XnAt l.prog w K mg base CT lay 1 "NotExtreme" cNotExtreme ["self", "name"] := ⟨_, _, Ox_NotExtreme, a_NotExtreme_init, t_NotExtreme_init, Xi_NotExtreme, b_NotExtreme_init, PySem.W.mg_of X G a_NotExtreme⟩
  have V41 : (lay cNotExtreme).length = 1 := rfl
  have V42 : XnAt0 K mg CT lay "NoMeasure" cNoMeasure := ⟨_, _, _, _, PySem.F.excBase_ValueError, xi_NoMeasure, PySem.W.mg_of X G a_NoMeasure, xk_NoMeasure, xe_NoMeasure, xt_NoMeasure, rfl⟩
  have V43 : XnAt l.prog w K mg base CT lay 1 "NoTaking" cNoTaking ["self", "name"] := ⟨_, _, Ox_NoTaking, a_NoTaking_init, t_NoTaking_init, Xi_NoTaking, b_NoTaking_init, PySem.W.mg_of X G a_NoTaking⟩
  have V44 : (lay cNoTaking).length = 1 := rfl
  have V45 : XnAt l.prog w K mg base CT lay 1 "NoAsked" cNoAsked ["self", "place", "word"] := ⟨_, _, Ox_NoAsked, a_NoAsked_init, t_NoAsked_init, Xi_NoAsked, b_NoAsked_init, PySem.W.mg_of X G a_NoAsked⟩
  have V46 : (lay cNoAsked).length = 2 := rfl
  have V47 : XnAt l.prog w K mg base CT lay 1 "NoOffer" cNoOffer ["self", "place", "word"] := ⟨_, _, Ox_NoOffer, a_NoOffer_init, t_NoOffer_init, Xi_NoOffer, b_NoOffer_init, PySem.W.mg_of X G a_NoOffer⟩
  have V48 : (lay cNoOffer).length = 2 := rfl
  have V49 : XnAt0 K mg CT lay "NoRedo" cNoRedo := ⟨_, _, _, _, PySem.F.excBase_ValueError, xi_NoRedo, PySem.W.mg_of X G a_NoRedo, xk_NoRedo, xe_NoRedo, xt_NoRedo, rfl⟩
  have V50 : XnAt0 K mg CT lay "NoUndo" cNoUndo := ⟨_, _, _, _, PySem.F.excBase_ValueError, xi_NoUndo, PySem.W.mg_of X G a_NoUndo, xk_NoUndo, xe_NoUndo, xt_NoUndo, rfl⟩
  have V51 : XnAt l.prog w K mg base CT lay 1 "NoCommand" cNoCommand ["self", "place"] := ⟨_, _, Ox_NoCommand, a_NoCommand_init, t_NoCommand_init, Xi_NoCommand, b_NoCommand_init, PySem.W.mg_of X G a_NoCommand⟩
  have V52 : (lay cNoCommand).length = 1 := rfl
  have V53 : XnAt l.prog w K mg base CT lay 1 "BadLine" cBadLine ["self", "line", "place"] := ⟨_, _, Ox_BadLine, a_BadLine_init, t_BadLine_init, Xi_BadLine, b_BadLine_init, PySem.W.mg_of X G a_BadLine⟩
  have V54 : (lay cBadLine).length = 2 := rfl
  have V55 : XnAt l.prog w K mg base CT lay 1 "BadText" cBadText ["self", "place"] := ⟨_, _, Ox_BadText, a_BadText_init, t_BadText_init, Xi_BadText, b_BadText_init, PySem.W.mg_of X G a_BadText⟩
  have V56 : (lay cBadText).length = 1 := rfl
  have V57 : XnAt0 K mg CT lay "NoRoll" cNoRoll := ⟨_, _, _, _, PySem.F.excBase_ValueError, xi_NoRoll, PySem.W.mg_of X G a_NoRoll, xk_NoRoll, xe_NoRoll, xt_NoRoll, rfl⟩
  have V58 : XnAt l.prog w K mg base CT lay 1 "NoKind" cNoKind ["self", "kind"] := ⟨_, _, Ox_NoKind, a_NoKind_init, t_NoKind_init, Xi_NoKind, b_NoKind_init, PySem.W.mg_of X G a_NoKind⟩
  have V59 : (lay cNoKind).length = 1 := rfl
  have V60 : mg "range" = none := Z_range
  have V61 : mg "len" = none := Z_len
  have V62 : mg "PartError" = some (.ref (CT cPartError)) := PySem.W.mg_of X G a_PartError
  have V63 : IsxT K CT (.ref (CT cPartError)) ([(cNoOffer, true), (cNoAsked, true), (cNoTaking, true), (cNoMeasure, true), (cNotExtreme, true), (cNotConsistent, true), (cNoKind, true), (cNoRoll, true), (cBadText, true), (cBadLine, true), (cNoCommand, true), (cNoUndo, true), (cNoRedo, true)] : List (Nat × Bool)) := List.forall_mem_cons.mpr ⟨⟨⟨ga_NoOffer, gg_NoOffer, xe_NoOffer, xh_NoOffer, cA_NoOffer, clN, clK, no_NoOffer⟩, kit_of xc_PartError xt_PartError xs_NoOffer_PartError (fun _ => rfl)⟩, List.forall_mem_cons.mpr ⟨⟨⟨ga_NoAsked, gg_NoAsked, xe_NoAsked, xh_NoAsked, cA_NoAsked, clN, clK, no_NoAsked⟩, kit_of xc_PartError xt_PartError xs_NoAsked_PartError (fun _ => rfl)⟩, List.forall_mem_cons.mpr ⟨⟨⟨ga_NoTaking, gg_NoTaking, xe_NoTaking, xh_NoTaking, cA_NoTaking, clN, clK, no_NoTaking⟩, kit_of xc_PartError xt_PartError xs_NoTaking_PartError (fun _ => rfl)⟩, List.forall_mem_cons.mpr ⟨⟨⟨ga_NoMeasure, gg_NoMeasure, xe_NoMeasure, xh_NoMeasure, cA_NoMeasure, clN, clK, no_NoMeasure⟩, kit_of xc_PartError xt_PartError xs_NoMeasure_PartError (fun _ => rfl)⟩, List.forall_mem_cons.mpr ⟨⟨⟨ga_NotExtreme, gg_NotExtreme, xe_NotExtreme, xh_NotExtreme, cA_NotExtreme, clN, clK, no_NotExtreme⟩, kit_of xc_PartError xt_PartError xs_NotExtreme_PartError (fun _ => rfl)⟩, List.forall_mem_cons.mpr ⟨⟨⟨ga_NotConsistent, gg_NotConsistent, xe_NotConsistent, xh_NotConsistent, cA_NotConsistent, clN, clK, no_NotConsistent⟩, kit_of xc_PartError xt_PartError xs_NotConsistent_PartError (fun _ => rfl)⟩, List.forall_mem_cons.mpr ⟨⟨⟨ga_NoKind, gg_NoKind, xe_NoKind, xh_NoKind, cA_NoKind, clN, clK, no_NoKind⟩, kit_of xc_PartError xt_PartError xs_NoKind_PartError (fun _ => rfl)⟩, List.forall_mem_cons.mpr ⟨⟨⟨ga_NoRoll, gg_NoRoll, xe_NoRoll, xh_NoRoll, cA_NoRoll, clN, clK, no_NoRoll⟩, kit_of xc_PartError xt_PartError xs_NoRoll_PartError (fun _ => rfl)⟩, List.forall_mem_cons.mpr ⟨⟨⟨ga_BadText, gg_BadText, xe_BadText, xh_BadText, cA_BadText, clN, clK, no_BadText⟩, kit_of xc_PartError xt_PartError xs_BadText_PartError (fun _ => rfl)⟩, List.forall_mem_cons.mpr ⟨⟨⟨ga_BadLine, gg_BadLine, xe_BadLine, xh_BadLine, cA_BadLine, clN, clK, no_BadLine⟩, kit_of xc_PartError xt_PartError xs_BadLine_PartError (fun _ => rfl)⟩, List.forall_mem_cons.mpr ⟨⟨⟨ga_NoCommand, gg_NoCommand, xe_NoCommand, xh_NoCommand, cA_NoCommand, clN, clK, no_NoCommand⟩, kit_of xc_PartError xt_PartError xs_NoCommand_PartError (fun _ => rfl)⟩, List.forall_mem_cons.mpr ⟨⟨⟨ga_NoUndo, gg_NoUndo, xe_NoUndo, xh_NoUndo, cA_NoUndo, clN, clK, no_NoUndo⟩, kit_of xc_PartError xt_PartError xs_NoUndo_PartError (fun _ => rfl)⟩, List.forall_mem_cons.mpr ⟨⟨⟨ga_NoRedo, gg_NoRedo, xe_NoRedo, xh_NoRedo, cA_NoRedo, clN, clK, no_NoRedo⟩, kit_of xc_PartError xt_PartError xs_NoRedo_PartError (fun _ => rfl)⟩, (fun _ h => nomatch h)⟩⟩⟩⟩⟩⟩⟩⟩⟩⟩⟩⟩⟩
  have V64 : mg "ValueError" = none := Z_ValueError
  have V65 : IsxT K CT (.type "ValueError") ([(cNoOffer, true), (cNoAsked, true), (cNoTaking, true), (cNoMeasure, true), (cNotExtreme, true), (cNotConsistent, true), (cNoKind, true), (cNoRoll, true), (cBadText, true), (cBadLine, true), (cNoCommand, true), (cNoUndo, true), (cNoRedo, true)] : List (Nat × Bool)) := List.forall_mem_cons.mpr ⟨⟨⟨ga_NoOffer, gg_NoOffer, xe_NoOffer, xh_NoOffer, cA_NoOffer, clN, clK, no_NoOffer⟩, kit_bt rfl xb_NoOffer_ValueError⟩, List.forall_mem_cons.mpr ⟨⟨⟨ga_NoAsked, gg_NoAsked, xe_NoAsked, xh_NoAsked, cA_NoAsked, clN, clK, no_NoAsked⟩, kit_bt rfl xb_NoAsked_ValueError⟩, List.forall_mem_cons.mpr ⟨⟨⟨ga_NoTaking, gg_NoTaking, xe_NoTaking, xh_NoTaking, cA_NoTaking, clN, clK, no_NoTaking⟩, kit_bt rfl xb_NoTaking_ValueError⟩, List.forall_mem_cons.mpr ⟨⟨⟨ga_NoMeasure, gg_NoMeasure, xe_NoMeasure, xh_NoMeasure, cA_NoMeasure, clN, clK, no_NoMeasure⟩, kit_bt rfl xb_NoMeasure_ValueError⟩, List.forall_mem_cons.mpr ⟨⟨⟨ga_NotExtreme, gg_NotExtreme, xe_NotExtreme, xh_NotExtreme, cA_NotExtreme, clN, clK, no_NotExtreme⟩, kit_bt rfl xb_NotExtreme_ValueError⟩, List.forall_mem_cons.mpr ⟨⟨⟨ga_NotConsistent, gg_NotConsistent, xe_NotConsistent, xh_NotConsistent, cA_NotConsistent, clN, clK, no_NotConsistent⟩, kit_bt rfl xb_NotConsistent_ValueError⟩, List.forall_mem_cons.mpr ⟨⟨⟨ga_NoKind, gg_NoKind, xe_NoKind, xh_NoKind, cA_NoKind, clN, clK, no_NoKind⟩, kit_bt rfl xb_NoKind_ValueError⟩, List.forall_mem_cons.mpr ⟨⟨⟨ga_NoRoll, gg_NoRoll, xe_NoRoll, xh_NoRoll, cA_NoRoll, clN, clK, no_NoRoll⟩, kit_bt rfl xb_NoRoll_ValueError⟩, List.forall_mem_cons.mpr ⟨⟨⟨ga_BadText, gg_BadText, xe_BadText, xh_BadText, cA_BadText, clN, clK, no_BadText⟩, kit_bt rfl xb_BadText_ValueError⟩, List.forall_mem_cons.mpr ⟨⟨⟨ga_BadLine, gg_BadLine, xe_BadLine, xh_BadLine, cA_BadLine, clN, clK, no_BadLine⟩, kit_bt rfl xb_BadLine_ValueError⟩, List.forall_mem_cons.mpr ⟨⟨⟨ga_NoCommand, gg_NoCommand, xe_NoCommand, xh_NoCommand, cA_NoCommand, clN, clK, no_NoCommand⟩, kit_bt rfl xb_NoCommand_ValueError⟩, List.forall_mem_cons.mpr ⟨⟨⟨ga_NoUndo, gg_NoUndo, xe_NoUndo, xh_NoUndo, cA_NoUndo, clN, clK, no_NoUndo⟩, kit_bt rfl xb_NoUndo_ValueError⟩, List.forall_mem_cons.mpr ⟨⟨⟨ga_NoRedo, gg_NoRedo, xe_NoRedo, xh_NoRedo, cA_NoRedo, clN, clK, no_NoRedo⟩, kit_bt rfl xb_NoRedo_ValueError⟩, (fun _ h => nomatch h)⟩⟩⟩⟩⟩⟩⟩⟩⟩⟩⟩⟩⟩
  have V66 : ∀ q ∈ ([(cNoOffer, S_NoOffer_told), (cNoAsked, S_NoAsked_told), (cNoTaking, S_NoTaking_told), (cNoMeasure, S_NoMeasure_told), (cNotExtreme, S_NotExtreme_told), (cNotConsistent, S_NotConsistent_told), (cNoKind, S_NoKind_told), (cNoRoll, S_NoRoll_told), (cBadText, S_BadText_told), (cBadLine, S_BadLine_told), (cNoCommand, S_NoCommand_told), (cNoUndo, S_NoUndo_told), (cNoRedo, S_NoRedo_told)] : List (Nat × DFn)), MXnt l.prog w K mg base CT lay 1 "told" 0 q := List.forall_mem_cons.mpr ⟨⟨_, _, _, ⟨ga_NoOffer, gg_NoOffer, xe_NoOffer, xh_NoOffer⟩, ⟨a_NoOffer_told, i_NoOffer_told, k_NoOffer_told⟩, G_NoOffer_told, b_NoOffer_told, by show ("told" : Str) ∉ (["place", "word"] : List Str); decide, rfl⟩, List.forall_mem_cons.mpr ⟨⟨_, _, _, ⟨ga_NoAsked, gg_NoAsked, xe_NoAsked, xh_NoAsked⟩, ⟨a_NoAsked_told, i_NoAsked_told, k_NoAsked_told⟩, G_NoAsked_told, b_NoAsked_told, by show ("told" : Str) ∉ (["place", "word"] : List Str); decide, rfl⟩, List.forall_mem_cons.mpr ⟨⟨_, _, _, ⟨ga_NoTaking, gg_NoTaking, xe_NoTaking, xh_NoTaking⟩, ⟨a_NoTaking_told, i_NoTaking_told, k_NoTaking_told⟩, G_NoTaking_told, b_NoTaking_told, by show ("told" : Str) ∉ (["name"] : List Str); decide, rfl⟩, List.forall_mem_cons.mpr ⟨⟨_, _, _, ⟨ga_NoMeasure, gg_NoMeasure, xe_NoMeasure, xh_NoMeasure⟩, ⟨a_NoMeasure_told, i_NoMeasure_told, k_NoMeasure_told⟩, G_NoMeasure_told, b_NoMeasure_told, by show ("told" : Str) ∉ ([] : List Str); decide, rfl⟩, List.forall_mem_cons.mpr ⟨⟨_, _, _, ⟨ga_NotExtreme, gg_NotExtreme, xe_NotExtreme, xh_NotExtreme⟩, ⟨a_NotExtreme_told, i_NotExtreme_told, k_NotExtreme_told⟩, G_NotExtreme_told, b_NotExtreme_told, by show ("told" : Str) ∉ (["name"] : List Str); decide, rfl⟩, List.forall_mem_cons.mpr ⟨⟨_, _, _, ⟨ga_NotConsistent, gg_NotConsistent, xe_NotConsistent, xh_NotConsistent⟩, ⟨a_NotConsistent_told, i_NotConsistent_told, k_NotConsistent_told⟩, G_NotConsistent_told, b_NotConsistent_told, by show ("told" : Str) ∉ ([] : List Str); decide, rfl⟩, List.forall_mem_cons.mpr ⟨⟨_, _, _, ⟨ga_NoKind, gg_NoKind, xe_NoKind, xh_NoKind⟩, ⟨a_NoKind_told, i_NoKind_told, k_NoKind_told⟩, G_NoKind_told, b_NoKind_told, by show ("told" : Str) ∉ (["kind"] : List Str); decide, rfl⟩, List.forall_mem_cons.mpr ⟨⟨_, _, _, ⟨ga_NoRoll, gg_NoRoll, xe_NoRoll, xh_NoRoll⟩, ⟨a_NoRoll_told, i_NoRoll_told, k_NoRoll_told⟩, G_NoRoll_told, b_NoRoll_told, by show ("told" : Str) ∉ ([] : List Str); decide, rfl⟩, List.forall_mem_cons.mpr ⟨⟨_, _, _, ⟨ga_BadText, gg_BadText, xe_BadText, xh_BadText⟩, ⟨a_BadText_told, i_BadText_told, k_BadText_told⟩, G_BadText_told, b_BadText_told, by show ("told" : Str) ∉ (["place"] : List Str); decide, rfl⟩, List.forall_mem_cons.mpr ⟨⟨_, _, _, ⟨ga_BadLine, gg_BadLine, xe_BadLine, xh_BadLine⟩, ⟨a_BadLine_told, i_BadLine_told, k_BadLine_told⟩, G_BadLine_told, b_BadLine_told, by show ("told" : Str) ∉ (["line", "place"] : List Str); decide, rfl⟩, List.forall_mem_cons.mpr ⟨⟨_, _, _, ⟨ga_NoCommand, gg_NoCommand, xe_NoCommand, xh_NoCommand⟩, ⟨a_NoCommand_told, i_NoCommand_told, k_NoCommand_told⟩, G_NoCommand_told, b_NoCommand_told, by show ("told" : Str) ∉ (["place"] : List Str); decide, rfl⟩, List.forall_mem_cons.mpr ⟨⟨_, _, _, ⟨ga_NoUndo, gg_NoUndo, xe_NoUndo, xh_NoUndo⟩, ⟨a_NoUndo_told, i_NoUndo_told, k_NoUndo_told⟩, G_NoUndo_told, b_NoUndo_told, by show ("told" : Str) ∉ ([] : List Str); decide, rfl⟩, List.forall_mem_cons.mpr ⟨⟨_, _, _, ⟨ga_NoRedo, gg_NoRedo, xe_NoRedo, xh_NoRedo⟩, ⟨a_NoRedo_told, i_NoRedo_told, k_NoRedo_told⟩, G_NoRedo_told, b_NoRedo_told, by show ("told" : Str) ∉ ([] : List Str); decide, rfl⟩, (fun _ h => nomatch h)⟩⟩⟩⟩⟩⟩⟩⟩⟩⟩⟩⟩⟩
  have V67 : ClsX K CT csL := ⟨(fun _ h => nomatch h), clN, clK, inj_of clD⟩
  have V68 : mg "str" = none := Z_str
  have V69 : FnAt l.prog w K mg base CT lay 1 "_law_kinds" ["_law_e"] S__law_kinds := ⟨_, _, G__law_kinds, m__law_kinds, k__law_kinds, b__law_kinds⟩
  have V70 : FnAt l.prog w K mg base CT lay 1 "_law_fields" ["_law_made", "_law_one", "_law_other"] S__law_fields := ⟨_, _, G__law_fields, m__law_fields, k__law_fields, b__law_fields⟩
  exact ok_law (Fun.g F_law) (x_NotConsistent := V39) (x_NotExtreme := V40) (n_NotExtreme := V41) (x_NoMeasure := V42) (x_NoTaking := V43) (n_NoTaking := V44) (x_NoAsked := V45) (n_NoAsked := V46) (x_NoOffer := V47) (n_NoOffer := V48) (x_NoRedo := V49) (x_NoUndo := V50) (x_NoCommand := V51) (n_NoCommand := V52) (x_BadLine := V53) (n_BadLine := V54) (x_BadText := V55) (n_BadText := V56) (x_NoRoll := V57) (x_NoKind := V58) (n_NoKind := V59) (z_range := V60) (z_len := V61) (z_isinstance := V5) (c_PartError := V62) (ix_PartError := V63) (z_ValueError := V64) (ix_ValueError := V65) (mx_told := V66) (clsX := V67) (z_str := V68) (h__law_kinds := V69) (h__law_fields := V70) (FS := FnOk.cx (ok_lbag F__law_bag B)) (mS := m__law_bag) (kpS := k__law_bag) (bS := b__law_bag) (FV := G__law_value) (mV := m__law_value) (kpV := k__law_value) (bV := b__law_value)
end Pu
open PySem PySem.W PyProof.Rows
set_option maxRecDepth 100000 in
set_option maxHeartbeats 0 in
theorem PySem.Challenge.cw_partstell_k98_further_errors_told_holds : PySem.Challenge.rw_partstell_k98_further_errors_told.Holds := by
  w_on; o_law; k_head; (case hw => w_witness2)
  k_fill
  refine L2.walk_of (l := PySem.Challenge.rw_partstell_k98_further_errors_told) (n := 63) (k := 3) (x := "_law_script") (CX := fun w => L2.CX PySem.Challenge.rw_partstell_k98_further_errors_told.prog w) (sp := fun w => Pu.spLaw _) rfl (by decide) rfl ⟨rfl, by decide, by decide⟩ (fun w h Y => PySem.W.kIn_of Y) ?F (fun _ _ a ns hl _ hS => ⟨a, ns, rfl, hS, hl, fun _ => rfl⟩) (fun _ _ _ _ _ ⟨_, _, _, _, _, _, _, _, _, _, _, _, z⟩ => z)
  case F =>
    intro w mg fa h KX G hmg
    refine' Pu.all_mk KX G hmg ?clN ?clK ?clD ?a_PartError ?xe_PartError ?xt_PartError ?xk_PartError ?a_NoTable ?xe_NoTable ?xt_NoTable ?xk_NoTable ?a_Full ?xe_Full ?xt_Full ?xk_Full ?a_NoSuch ?xe_NoSuch ?xt_NoSuch ?xk_NoSuch ?a_NoOffer ?xl_NoOffer ?xsa_NoOffer ?xe_NoOffer ?xt_NoOffer ?xk_NoOffer ?a_NoAsked ?xl_NoAsked ?xsa_NoAsked ?xe_NoAsked ?xt_NoAsked ?xk_NoAsked ?a_NoTaking ?xl_NoTaking ?xsa_NoTaking ?xe_NoTaking ?xt_NoTaking ?xk_NoTaking ?a_NoMeasure ?xi_NoMeasure ?xe_NoMeasure ?xt_NoMeasure ?xk_NoMeasure ?a_NotExtreme ?xl_NotExtreme ?xsa_NotExtreme ?xe_NotExtreme ?xt_NotExtreme ?xk_NotExtreme ?a_NotConsistent ?xi_NotConsistent ?xe_NotConsistent ?xt_NotConsistent ?xk_NotConsistent ?a_NoKind ?xl_NoKind ?xsa_NoKind ?xe_NoKind ?xt_NoKind ?xk_NoKind ?a_NoRoll ?xi_NoRoll ?xe_NoRoll ?xt_NoRoll ?xk_NoRoll ?a_BadText ?xl_BadText ?xsa_BadText ?xe_BadText ?xt_BadText ?xk_BadText ?a_BadLine ?xl_BadLine ?xsa_BadLine ?xe_BadLine ?xt_BadLine ?xk_BadLine ?a_NoCommand ?xl_NoCommand ?xsa_NoCommand ?xe_NoCommand ?xt_NoCommand ?xk_NoCommand ?a_NoUndo ?xi_NoUndo ?xe_NoUndo ?xt_NoUndo ?xk_NoUndo ?a_NoRedo ?xi_NoRedo ?xe_NoRedo ?xt_NoRedo ?xk_NoRedo ?a__law_bag ?l__law_bag ?c__law_bag ?k__law_bag ?a__law_pick ?l__law_pick ?c__law_pick ?k__law_pick ?a_BadLine_told ?i_BadLine_told ?l_BadLine_told ?c_BadLine_told ?k_BadLine_told ?a_BadText_told ?i_BadText_told ?l_BadText_told ?c_BadText_told ?k_BadText_told ?a_NoAsked_told ?i_NoAsked_told ?l_NoAsked_told ?c_NoAsked_told ?k_NoAsked_told ?a_NoCommand_told ?i_NoCommand_told ?l_NoCommand_told ?c_NoCommand_told ?k_NoCommand_told ?a_NoKind_told ?i_NoKind_told ?l_NoKind_told ?c_NoKind_told ?k_NoKind_told ?a_NoMeasure_told ?i_NoMeasure_told ?l_NoMeasure_told ?c_NoMeasure_told ?k_NoMeasure_told ?a_NoOffer_told ?i_NoOffer_told ?l_NoOffer_told ?c_NoOffer_told ?k_NoOffer_told ?a_NoRedo_told ?i_NoRedo_told ?l_NoRedo_told ?c_NoRedo_told ?k_NoRedo_told ?a_NoRoll_told ?i_NoRoll_told ?l_NoRoll_told ?c_NoRoll_told ?k_NoRoll_told ?a_NoTaking_told ?i_NoTaking_told ?l_NoTaking_told ?c_NoTaking_told ?k_NoTaking_told ?a_NoUndo_told ?i_NoUndo_told ?l_NoUndo_told ?c_NoUndo_told ?k_NoUndo_told ?a_NotConsistent_told ?i_NotConsistent_told ?l_NotConsistent_told ?c_NotConsistent_told ?k_NotConsistent_told ?a_NotExtreme_told ?i_NotExtreme_told ?l_NotExtreme_told ?c_NotExtreme_told ?k_NotExtreme_told ?a__law_fields ?l__law_fields ?c__law_fields ?k__law_fields ?a__law_kinds ?l__law_kinds ?c__law_kinds ?k__law_kinds ?a__law_value ?l__law_value ?c__law_value ?k__law_value ?a_law ?l_law ?c_law ?k_law ?a_BadLine_init ?t_BadLine_init ?l_BadLine_init ?c_BadLine_init ?k_BadLine_init ?nf_BadLine_line ?nf_BadLine_place ?a_BadText_init ?t_BadText_init ?l_BadText_init ?c_BadText_init ?k_BadText_init ?nf_BadText_place ?a_NoAsked_init ?t_NoAsked_init ?l_NoAsked_init ?c_NoAsked_init ?k_NoAsked_init ?nf_NoAsked_place ?nf_NoAsked_word ?a_NoCommand_init ?t_NoCommand_init ?l_NoCommand_init ?c_NoCommand_init ?k_NoCommand_init ?nf_NoCommand_place ?a_NoKind_init ?t_NoKind_init ?l_NoKind_init ?c_NoKind_init ?k_NoKind_init ?nf_NoKind_kind ?a_NoOffer_init ?t_NoOffer_init ?l_NoOffer_init ?c_NoOffer_init ?k_NoOffer_init ?nf_NoOffer_place ?nf_NoOffer_word ?a_NoTaking_init ?t_NoTaking_init ?l_NoTaking_init ?c_NoTaking_init ?k_NoTaking_init ?nf_NoTaking_name ?a_NotExtreme_init ?t_NotExtreme_init ?l_NotExtreme_init ?c_NotExtreme_init ?k_NotExtreme_init ?nf_NotExtreme_name ?ga_NoOffer ?gg_NoOffer ?xh_NoOffer ?ga_NoAsked ?gg_NoAsked ?xh_NoAsked ?ga_BadText ?gg_BadText ?xh_BadText ?ga_BadLine ?gg_BadLine ?xh_BadLine ?ga_NoCommand ?gg_NoCommand ?xh_NoCommand ?ga_NoTaking ?gg_NoTaking ?xh_NoTaking ?ga_NotExtreme ?gg_NotExtreme ?xh_NotExtreme ?ga_NoKind ?gg_NoKind ?xh_NoKind ?xc_NoMeasure ?xs_NoOffer_NoMeasure ?xs_NoMeasure_NoMeasure ?xs_NoAsked_NoMeasure ?xs_NoTaking_NoMeasure ?xs_NotExtreme_NoMeasure ?xs_NotConsistent_NoMeasure ?xs_NoKind_NoMeasure ?xs_NoRoll_NoMeasure ?xs_BadText_NoMeasure ?xs_BadLine_NoMeasure ?xs_NoCommand_NoMeasure ?xs_NoUndo_NoMeasure ?xs_NoRedo_NoMeasure ?cA_NoOffer ?no_NoOffer ?cA_NoAsked ?no_NoAsked ?cA_NoTaking ?no_NoTaking ?ga_NoMeasure ?gg_NoMeasure ?xh_NoMeasure ?cA_NoMeasure ?no_NoMeasure ?cA_NotExtreme ?no_NotExtreme ?ga_NotConsistent ?gg_NotConsistent ?xh_NotConsistent ?cA_NotConsistent ?no_NotConsistent ?cA_NoKind ?no_NoKind ?ga_NoRoll ?gg_NoRoll ?xh_NoRoll ?cA_NoRoll ?no_NoRoll ?cA_BadText ?no_BadText ?cA_BadLine ?no_BadLine ?cA_NoCommand ?no_NoCommand ?ga_NoUndo ?gg_NoUndo ?xh_NoUndo ?cA_NoUndo ?no_NoUndo ?ga_NoRedo ?gg_NoRedo ?xh_NoRedo ?cA_NoRedo ?no_NoRedo ?xc_NoTaking ?xs_NoOffer_NoTaking ?xs_NoTaking_NoTaking ?xs_NoAsked_NoTaking ?xs_NoMeasure_NoTaking ?xs_NotExtreme_NoTaking ?xs_NotConsistent_NoTaking ?xs_NoKind_NoTaking ?xs_NoRoll_NoTaking ?xs_BadText_NoTaking ?xs_BadLine_NoTaking ?xs_NoCommand_NoTaking ?xs_NoUndo_NoTaking ?xs_NoRedo_NoTaking ?xc_NoAsked ?xs_NoOffer_NoAsked ?xs_NoAsked_NoAsked ?xs_NoTaking_NoAsked ?xs_NoMeasure_NoAsked ?xs_NotExtreme_NoAsked ?xs_NotConsistent_NoAsked ?xs_NoKind_NoAsked ?xs_NoRoll_NoAsked ?xs_BadText_NoAsked ?xs_BadLine_NoAsked ?xs_NoCommand_NoAsked ?xs_NoUndo_NoAsked ?xs_NoRedo_NoAsked ?xc_NoOffer ?xs_NoAsked_NoOffer ?xs_NoOffer_NoOffer ?xs_NoTaking_NoOffer ?xs_NoMeasure_NoOffer ?xs_NotExtreme_NoOffer ?xs_NotConsistent_NoOffer ?xs_NoKind_NoOffer ?xs_NoRoll_NoOffer ?xs_BadText_NoOffer ?xs_BadLine_NoOffer ?xs_NoCommand_NoOffer ?xs_NoUndo_NoOffer ?xs_NoRedo_NoOffer ?xc_NoKind ?xs_NoOffer_NoKind ?xs_NoKind_NoKind ?xs_NoAsked_NoKind ?xs_NoTaking_NoKind ?xs_NoMeasure_NoKind ?xs_NotExtreme_NoKind ?xs_NotConsistent_NoKind ?xs_NoRoll_NoKind ?xs_BadText_NoKind ?xs_BadLine_NoKind ?xs_NoCommand_NoKind ?xs_NoUndo_NoKind ?xs_NoRedo_NoKind ?xc_NotConsistent ?xs_NoOffer_NotConsistent ?xs_NotConsistent_NotConsistent ?xs_NoAsked_NotConsistent ?xs_NoTaking_NotConsistent ?xs_NoMeasure_NotConsistent ?xs_NotExtreme_NotConsistent ?xs_NoKind_NotConsistent ?xs_NoRoll_NotConsistent ?xs_BadText_NotConsistent ?xs_BadLine_NotConsistent ?xs_NoCommand_NotConsistent ?xs_NoUndo_NotConsistent ?xs_NoRedo_NotConsistent ?xc_NotExtreme ?xs_NoOffer_NotExtreme ?xs_NotExtreme_NotExtreme ?xs_NoAsked_NotExtreme ?xs_NoTaking_NotExtreme ?xs_NoMeasure_NotExtreme ?xs_NotConsistent_NotExtreme ?xs_NoKind_NotExtreme ?xs_NoRoll_NotExtreme ?xs_BadText_NotExtreme ?xs_BadLine_NotExtreme ?xs_NoCommand_NotExtreme ?xs_NoUndo_NotExtreme ?xs_NoRedo_NotExtreme ?xc_BadLine ?xs_NoOffer_BadLine ?xs_BadLine_BadLine ?xs_NoAsked_BadLine ?xs_NoTaking_BadLine ?xs_NoMeasure_BadLine ?xs_NotExtreme_BadLine ?xs_NotConsistent_BadLine ?xs_NoKind_BadLine ?xs_NoRoll_BadLine ?xs_BadText_BadLine ?xs_NoCommand_BadLine ?xs_NoUndo_BadLine ?xs_NoRedo_BadLine ?xc_BadText ?xs_NoOffer_BadText ?xs_BadText_BadText ?xs_NoAsked_BadText ?xs_NoTaking_BadText ?xs_NoMeasure_BadText ?xs_NotExtreme_BadText ?xs_NotConsistent_BadText ?xs_NoKind_BadText ?xs_NoRoll_BadText ?xs_BadLine_BadText ?xs_NoCommand_BadText ?xs_NoUndo_BadText ?xs_NoRedo_BadText ?xc_NoRoll ?xs_NoOffer_NoRoll ?xs_NoRoll_NoRoll ?xs_NoAsked_NoRoll ?xs_NoTaking_NoRoll ?xs_NoMeasure_NoRoll ?xs_NotExtreme_NoRoll ?xs_NotConsistent_NoRoll ?xs_NoKind_NoRoll ?xs_BadText_NoRoll ?xs_BadLine_NoRoll ?xs_NoCommand_NoRoll ?xs_NoUndo_NoRoll ?xs_NoRedo_NoRoll ?xc_NoRedo ?xs_NoOffer_NoRedo ?xs_NoRedo_NoRedo ?xs_NoAsked_NoRedo ?xs_NoTaking_NoRedo ?xs_NoMeasure_NoRedo ?xs_NotExtreme_NoRedo ?xs_NotConsistent_NoRedo ?xs_NoKind_NoRedo ?xs_NoRoll_NoRedo ?xs_BadText_NoRedo ?xs_BadLine_NoRedo ?xs_NoCommand_NoRedo ?xs_NoUndo_NoRedo ?xc_NoUndo ?xs_NoOffer_NoUndo ?xs_NoUndo_NoUndo ?xs_NoAsked_NoUndo ?xs_NoTaking_NoUndo ?xs_NoMeasure_NoUndo ?xs_NotExtreme_NoUndo ?xs_NotConsistent_NoUndo ?xs_NoKind_NoUndo ?xs_NoRoll_NoUndo ?xs_BadText_NoUndo ?xs_BadLine_NoUndo ?xs_NoCommand_NoUndo ?xs_NoRedo_NoUndo ?xc_NoCommand ?xs_NoOffer_NoCommand ?xs_NoCommand_NoCommand ?xs_NoAsked_NoCommand ?xs_NoTaking_NoCommand ?xs_NoMeasure_NoCommand ?xs_NotExtreme_NoCommand ?xs_NotConsistent_NoCommand ?xs_NoKind_NoCommand ?xs_NoRoll_NoCommand ?xs_BadText_NoCommand ?xs_BadLine_NoCommand ?xs_NoUndo_NoCommand ?xs_NoRedo_NoCommand ?xc_NoTable ?xs_NoOffer_NoTable ?xs_NoTable_NoTable ?xs_NoAsked_NoTable ?xs_NoTaking_NoTable ?xs_NoMeasure_NoTable ?xs_NotExtreme_NoTable ?xs_NotConsistent_NoTable ?xs_NoKind_NoTable ?xs_NoRoll_NoTable ?xs_BadText_NoTable ?xs_BadLine_NoTable ?xs_NoCommand_NoTable ?xs_NoUndo_NoTable ?xs_NoRedo_NoTable ?xc_NoSuch ?xs_NoOffer_NoSuch ?xs_NoSuch_NoSuch ?xs_NoAsked_NoSuch ?xs_NoTaking_NoSuch ?xs_NoMeasure_NoSuch ?xs_NotExtreme_NoSuch ?xs_NotConsistent_NoSuch ?xs_NoKind_NoSuch ?xs_NoRoll_NoSuch ?xs_BadText_NoSuch ?xs_BadLine_NoSuch ?xs_NoCommand_NoSuch ?xs_NoUndo_NoSuch ?xs_NoRedo_NoSuch ?xc_Full ?xs_NoOffer_Full ?xs_Full_Full ?xs_NoAsked_Full ?xs_NoTaking_Full ?xs_NoMeasure_Full ?xs_NotExtreme_Full ?xs_NotConsistent_Full ?xs_NoKind_Full ?xs_NoRoll_Full ?xs_BadText_Full ?xs_BadLine_Full ?xs_NoCommand_Full ?xs_NoUndo_Full ?xs_NoRedo_Full ?xc_PartError ?xs_NoOffer_PartError ?xs_NoAsked_PartError ?xs_NoTaking_PartError ?xs_NoMeasure_PartError ?xs_NotExtreme_PartError ?xs_NotConsistent_PartError ?xs_NoKind_PartError ?xs_NoRoll_PartError ?xs_BadText_PartError ?xs_BadLine_PartError ?xs_NoCommand_PartError ?xs_NoUndo_PartError ?xs_NoRedo_PartError ?xb_NoOffer_ValueError ?xb_NoAsked_ValueError ?xb_NoTaking_ValueError ?xb_NoMeasure_ValueError ?xb_NotExtreme_ValueError ?xb_NotConsistent_ValueError ?xb_NoKind_ValueError ?xb_NoRoll_ValueError ?xb_BadText_ValueError ?xb_BadLine_ValueError ?xb_NoCommand_ValueError ?xb_NoUndo_ValueError ?xb_NoRedo_ValueError ?z_ValueError ?z_int ?z_isinstance ?z_len ?z_range ?z_str
    (case clN => k_is)
    (case clK => k_is)
    (case clD => decide +kernel)
    (case a_PartError => k_is)
    (case xe_PartError => k_is)
    (case xt_PartError => k_is)
    (case xk_PartError => k_is)
    (case a_NoTable => k_is)
    (case xe_NoTable => k_is)
    (case xt_NoTable => k_is)
    (case xk_NoTable => k_is)
    (case a_Full => k_is)
    (case xe_Full => k_is)
    (case xt_Full => k_is)
    (case xk_Full => k_is)
    (case a_NoSuch => k_is)
    (case xe_NoSuch => k_is)
    (case xt_NoSuch => k_is)
    (case xk_NoSuch => k_is)
    (case a_NoOffer => k_is)
    (case xl_NoOffer => k_is)
    (case xsa_NoOffer => k_is)
    (case xe_NoOffer => k_is)
    (case xt_NoOffer => k_is)
    (case xk_NoOffer => k_is)
    (case a_NoAsked => k_is)
    (case xl_NoAsked => k_is)
    (case xsa_NoAsked => k_is)
    (case xe_NoAsked => k_is)
    (case xt_NoAsked => k_is)
    (case xk_NoAsked => k_is)
    (case a_NoTaking => k_is)
    (case xl_NoTaking => k_is)
    (case xsa_NoTaking => k_is)
    (case xe_NoTaking => k_is)
    (case xt_NoTaking => k_is)
    (case xk_NoTaking => k_is)
    (case a_NoMeasure => k_is)
    (case xi_NoMeasure => k_exc)
    (case xe_NoMeasure => k_is)
    (case xt_NoMeasure => k_is)
    (case xk_NoMeasure => k_is)
    (case a_NotExtreme => k_is)
    (case xl_NotExtreme => k_is)
    (case xsa_NotExtreme => k_is)
    (case xe_NotExtreme => k_is)
    (case xt_NotExtreme => k_is)
    (case xk_NotExtreme => k_is)
    (case a_NotConsistent => k_is)
    (case xi_NotConsistent => k_exc)
    (case xe_NotConsistent => k_is)
    (case xt_NotConsistent => k_is)
    (case xk_NotConsistent => k_is)
    (case a_NoKind => k_is)
    (case xl_NoKind => k_is)
    (case xsa_NoKind => k_is)
    (case xe_NoKind => k_is)
    (case xt_NoKind => k_is)
    (case xk_NoKind => k_is)
    (case a_NoRoll => k_is)
    (case xi_NoRoll => k_exc)
    (case xe_NoRoll => k_is)
    (case xt_NoRoll => k_is)
    (case xk_NoRoll => k_is)
    (case a_BadText => k_is)
    (case xl_BadText => k_is)
    (case xsa_BadText => k_is)
    (case xe_BadText => k_is)
    (case xt_BadText => k_is)
    (case xk_BadText => k_is)
    (case a_BadLine => k_is)
    (case xl_BadLine => k_is)
    (case xsa_BadLine => k_is)
    (case xe_BadLine => k_is)
    (case xt_BadLine => k_is)
    (case xk_BadLine => k_is)
    (case a_NoCommand => k_is)
    (case xl_NoCommand => k_is)
    (case xsa_NoCommand => k_is)
    (case xe_NoCommand => k_is)
    (case xt_NoCommand => k_is)
    (case xk_NoCommand => k_is)
    (case a_NoUndo => k_is)
    (case xi_NoUndo => k_exc)
    (case xe_NoUndo => k_is)
    (case xt_NoUndo => k_is)
    (case xk_NoUndo => k_is)
    (case a_NoRedo => k_is)
    (case xi_NoRedo => k_exc)
    (case xe_NoRedo => k_is)
    (case xt_NoRedo => k_is)
    (case xk_NoRedo => k_is)
    (case a__law_bag => k_is)
    (case l__law_bag => k_is)
    (case c__law_bag => k_is)
    (case k__law_bag => k_is)
    (case a__law_pick => k_is)
    (case l__law_pick => k_is)
    (case c__law_pick => k_is)
    (case k__law_pick => k_is)
    (case a_BadLine_told => k_is)
    (case i_BadLine_told => k_is)
    (case l_BadLine_told => k_is)
    (case c_BadLine_told => k_is)
    (case k_BadLine_told => k_is)
    (case a_BadText_told => k_is)
    (case i_BadText_told => k_is)
    (case l_BadText_told => k_is)
    (case c_BadText_told => k_is)
    (case k_BadText_told => k_is)
    (case a_NoAsked_told => k_is)
    (case i_NoAsked_told => k_is)
    (case l_NoAsked_told => k_is)
    (case c_NoAsked_told => k_is)
    (case k_NoAsked_told => k_is)
    (case a_NoCommand_told => k_is)
    (case i_NoCommand_told => k_is)
    (case l_NoCommand_told => k_is)
    (case c_NoCommand_told => k_is)
    (case k_NoCommand_told => k_is)
    (case a_NoKind_told => k_is)
    (case i_NoKind_told => k_is)
    (case l_NoKind_told => k_is)
    (case c_NoKind_told => k_is)
    (case k_NoKind_told => k_is)
    (case a_NoMeasure_told => k_is)
    (case i_NoMeasure_told => k_is)
    (case l_NoMeasure_told => k_is)
    (case c_NoMeasure_told => k_is)
    (case k_NoMeasure_told => k_is)
    (case a_NoOffer_told => k_is)
    (case i_NoOffer_told => k_is)
    (case l_NoOffer_told => k_is)
    (case c_NoOffer_told => k_is)
    (case k_NoOffer_told => k_is)
    (case a_NoRedo_told => k_is)
    (case i_NoRedo_told => k_is)
    (case l_NoRedo_told => k_is)
    (case c_NoRedo_told => k_is)
    (case k_NoRedo_told => k_is)
    (case a_NoRoll_told => k_is)
    (case i_NoRoll_told => k_is)
    (case l_NoRoll_told => k_is)
    (case c_NoRoll_told => k_is)
    (case k_NoRoll_told => k_is)
    (case a_NoTaking_told => k_is)
    (case i_NoTaking_told => k_is)
    (case l_NoTaking_told => k_is)
    (case c_NoTaking_told => k_is)
    (case k_NoTaking_told => k_is)
    (case a_NoUndo_told => k_is)
    (case i_NoUndo_told => k_is)
    (case l_NoUndo_told => k_is)
    (case c_NoUndo_told => k_is)
    (case k_NoUndo_told => k_is)
    (case a_NotConsistent_told => k_is)
    (case i_NotConsistent_told => k_is)
    (case l_NotConsistent_told => k_is)
    (case c_NotConsistent_told => k_is)
    (case k_NotConsistent_told => k_is)
    (case a_NotExtreme_told => k_is)
    (case i_NotExtreme_told => k_is)
    (case l_NotExtreme_told => k_is)
    (case c_NotExtreme_told => k_is)
    (case k_NotExtreme_told => k_is)
    (case a__law_fields => k_is)
    (case l__law_fields => k_is)
    (case c__law_fields => k_is)
    (case k__law_fields => k_is)
    (case a__law_kinds => k_is)
    (case l__law_kinds => k_is)
    (case c__law_kinds => k_is)
    (case k__law_kinds => k_is)
    (case a__law_value => k_is)
    (case l__law_value => k_is)
    (case c__law_value => k_is)
    (case k__law_value => k_is)
    (case a_law => k_is)
    (case l_law => k_is)
    (case c_law => k_is)
    (case k_law => k_is)
    (case a_BadLine_init => k_is)
    (case t_BadLine_init => k_is)
    (case l_BadLine_init => k_is)
    (case c_BadLine_init => k_is)
    (case k_BadLine_init => k_is)
    (case nf_BadLine_line => k_is)
    (case nf_BadLine_place => k_is)
    (case a_BadText_init => k_is)
    (case t_BadText_init => k_is)
    (case l_BadText_init => k_is)
    (case c_BadText_init => k_is)
    (case k_BadText_init => k_is)
    (case nf_BadText_place => k_is)
    (case a_NoAsked_init => k_is)
    (case t_NoAsked_init => k_is)
    (case l_NoAsked_init => k_is)
    (case c_NoAsked_init => k_is)
    (case k_NoAsked_init => k_is)
    (case nf_NoAsked_place => k_is)
    (case nf_NoAsked_word => k_is)
    (case a_NoCommand_init => k_is)
    (case t_NoCommand_init => k_is)
    (case l_NoCommand_init => k_is)
    (case c_NoCommand_init => k_is)
    (case k_NoCommand_init => k_is)
    (case nf_NoCommand_place => k_is)
    (case a_NoKind_init => k_is)
    (case t_NoKind_init => k_is)
    (case l_NoKind_init => k_is)
    (case c_NoKind_init => k_is)
    (case k_NoKind_init => k_is)
    (case nf_NoKind_kind => k_is)
    (case a_NoOffer_init => k_is)
    (case t_NoOffer_init => k_is)
    (case l_NoOffer_init => k_is)
    (case c_NoOffer_init => k_is)
    (case k_NoOffer_init => k_is)
    (case nf_NoOffer_place => k_is)
    (case nf_NoOffer_word => k_is)
    (case a_NoTaking_init => k_is)
    (case t_NoTaking_init => k_is)
    (case l_NoTaking_init => k_is)
    (case c_NoTaking_init => k_is)
    (case k_NoTaking_init => k_is)
    (case nf_NoTaking_name => k_is)
    (case a_NotExtreme_init => k_is)
    (case t_NotExtreme_init => k_is)
    (case l_NotExtreme_init => k_is)
    (case c_NotExtreme_init => k_is)
    (case k_NotExtreme_init => k_is)
    (case nf_NotExtreme_name => k_is)
    (case ga_NoOffer => k_is)
    (case gg_NoOffer => k_is)
    (case xh_NoOffer => k_is)
    (case ga_NoAsked => k_is)
    (case gg_NoAsked => k_is)
    (case xh_NoAsked => k_is)
    (case ga_BadText => k_is)
    (case gg_BadText => k_is)
    (case xh_BadText => k_is)
    (case ga_BadLine => k_is)
    (case gg_BadLine => k_is)
    (case xh_BadLine => k_is)
    (case ga_NoCommand => k_is)
    (case gg_NoCommand => k_is)
    (case xh_NoCommand => k_is)
    (case ga_NoTaking => k_is)
    (case gg_NoTaking => k_is)
    (case xh_NoTaking => k_is)
    (case ga_NotExtreme => k_is)
    (case gg_NotExtreme => k_is)
    (case xh_NotExtreme => k_is)
    (case ga_NoKind => k_is)
    (case gg_NoKind => k_is)
    (case xh_NoKind => k_is)
    (case xc_NoMeasure => k_is)
    (case xs_NoOffer_NoMeasure => first | rfl | k_is)
    (case xs_NoMeasure_NoMeasure => first | rfl | k_is)
    (case xs_NoAsked_NoMeasure => first | rfl | k_is)
    (case xs_NoTaking_NoMeasure => first | rfl | k_is)
    (case xs_NotExtreme_NoMeasure => first | rfl | k_is)
    (case xs_NotConsistent_NoMeasure => first | rfl | k_is)
    (case xs_NoKind_NoMeasure => first | rfl | k_is)
    (case xs_NoRoll_NoMeasure => first | rfl | k_is)
    (case xs_BadText_NoMeasure => first | rfl | k_is)
    (case xs_BadLine_NoMeasure => first | rfl | k_is)
    (case xs_NoCommand_NoMeasure => first | rfl | k_is)
    (case xs_NoUndo_NoMeasure => first | rfl | k_is)
    (case xs_NoRedo_NoMeasure => first | rfl | k_is)
    (case cA_NoOffer => k_is)
    (case no_NoOffer => k_is)
    (case cA_NoAsked => k_is)
    (case no_NoAsked => k_is)
    (case cA_NoTaking => k_is)
    (case no_NoTaking => k_is)
    (case ga_NoMeasure => k_is)
    (case gg_NoMeasure => k_is)
    (case xh_NoMeasure => k_is)
    (case cA_NoMeasure => k_is)
    (case no_NoMeasure => k_is)
    (case cA_NotExtreme => k_is)
    (case no_NotExtreme => k_is)
    (case ga_NotConsistent => k_is)
    (case gg_NotConsistent => k_is)
    (case xh_NotConsistent => k_is)
    (case cA_NotConsistent => k_is)
    (case no_NotConsistent => k_is)
    (case cA_NoKind => k_is)
    (case no_NoKind => k_is)
    (case ga_NoRoll => k_is)
    (case gg_NoRoll => k_is)
    (case xh_NoRoll => k_is)
    (case cA_NoRoll => k_is)
    (case no_NoRoll => k_is)
    (case cA_BadText => k_is)
    (case no_BadText => k_is)
    (case cA_BadLine => k_is)
    (case no_BadLine => k_is)
    (case cA_NoCommand => k_is)
    (case no_NoCommand => k_is)
    (case ga_NoUndo => k_is)
    (case gg_NoUndo => k_is)
    (case xh_NoUndo => k_is)
    (case cA_NoUndo => k_is)
    (case no_NoUndo => k_is)
    (case ga_NoRedo => k_is)
    (case gg_NoRedo => k_is)
    (case xh_NoRedo => k_is)
    (case cA_NoRedo => k_is)
    (case no_NoRedo => k_is)
    (case xc_NoTaking => k_is)
    (case xs_NoOffer_NoTaking => first | rfl | k_is)
    (case xs_NoTaking_NoTaking => first | rfl | k_is)
    (case xs_NoAsked_NoTaking => first | rfl | k_is)
    (case xs_NoMeasure_NoTaking => first | rfl | k_is)
    (case xs_NotExtreme_NoTaking => first | rfl | k_is)
    (case xs_NotConsistent_NoTaking => first | rfl | k_is)
    (case xs_NoKind_NoTaking => first | rfl | k_is)
    (case xs_NoRoll_NoTaking => first | rfl | k_is)
    (case xs_BadText_NoTaking => first | rfl | k_is)
    (case xs_BadLine_NoTaking => first | rfl | k_is)
    (case xs_NoCommand_NoTaking => first | rfl | k_is)
    (case xs_NoUndo_NoTaking => first | rfl | k_is)
    (case xs_NoRedo_NoTaking => first | rfl | k_is)
    (case xc_NoAsked => k_is)
    (case xs_NoOffer_NoAsked => first | rfl | k_is)
    (case xs_NoAsked_NoAsked => first | rfl | k_is)
    (case xs_NoTaking_NoAsked => first | rfl | k_is)
    (case xs_NoMeasure_NoAsked => first | rfl | k_is)
    (case xs_NotExtreme_NoAsked => first | rfl | k_is)
    (case xs_NotConsistent_NoAsked => first | rfl | k_is)
    (case xs_NoKind_NoAsked => first | rfl | k_is)
    (case xs_NoRoll_NoAsked => first | rfl | k_is)
    (case xs_BadText_NoAsked => first | rfl | k_is)
    (case xs_BadLine_NoAsked => first | rfl | k_is)
    (case xs_NoCommand_NoAsked => first | rfl | k_is)
    (case xs_NoUndo_NoAsked => first | rfl | k_is)
    (case xs_NoRedo_NoAsked => first | rfl | k_is)
    (case xc_NoOffer => k_is)
    (case xs_NoAsked_NoOffer => first | rfl | k_is)
    (case xs_NoOffer_NoOffer => first | rfl | k_is)
    (case xs_NoTaking_NoOffer => first | rfl | k_is)
    (case xs_NoMeasure_NoOffer => first | rfl | k_is)
    (case xs_NotExtreme_NoOffer => first | rfl | k_is)
    (case xs_NotConsistent_NoOffer => first | rfl | k_is)
    (case xs_NoKind_NoOffer => first | rfl | k_is)
    (case xs_NoRoll_NoOffer => first | rfl | k_is)
    (case xs_BadText_NoOffer => first | rfl | k_is)
    (case xs_BadLine_NoOffer => first | rfl | k_is)
    (case xs_NoCommand_NoOffer => first | rfl | k_is)
    (case xs_NoUndo_NoOffer => first | rfl | k_is)
    (case xs_NoRedo_NoOffer => first | rfl | k_is)
    (case xc_NoKind => k_is)
    (case xs_NoOffer_NoKind => first | rfl | k_is)
    (case xs_NoKind_NoKind => first | rfl | k_is)
    (case xs_NoAsked_NoKind => first | rfl | k_is)
    (case xs_NoTaking_NoKind => first | rfl | k_is)
    (case xs_NoMeasure_NoKind => first | rfl | k_is)
    (case xs_NotExtreme_NoKind => first | rfl | k_is)
    (case xs_NotConsistent_NoKind => first | rfl | k_is)
    (case xs_NoRoll_NoKind => first | rfl | k_is)
    (case xs_BadText_NoKind => first | rfl | k_is)
    (case xs_BadLine_NoKind => first | rfl | k_is)
    (case xs_NoCommand_NoKind => first | rfl | k_is)
    (case xs_NoUndo_NoKind => first | rfl | k_is)
    (case xs_NoRedo_NoKind => first | rfl | k_is)
    (case xc_NotConsistent => k_is)
    (case xs_NoOffer_NotConsistent => first | rfl | k_is)
    (case xs_NotConsistent_NotConsistent => first | rfl | k_is)
    (case xs_NoAsked_NotConsistent => first | rfl | k_is)
    (case xs_NoTaking_NotConsistent => first | rfl | k_is)
    (case xs_NoMeasure_NotConsistent => first | rfl | k_is)
    (case xs_NotExtreme_NotConsistent => first | rfl | k_is)
    (case xs_NoKind_NotConsistent => first | rfl | k_is)
    (case xs_NoRoll_NotConsistent => first | rfl | k_is)
    (case xs_BadText_NotConsistent => first | rfl | k_is)
    (case xs_BadLine_NotConsistent => first | rfl | k_is)
    (case xs_NoCommand_NotConsistent => first | rfl | k_is)
    (case xs_NoUndo_NotConsistent => first | rfl | k_is)
    (case xs_NoRedo_NotConsistent => first | rfl | k_is)
    (case xc_NotExtreme => k_is)
    (case xs_NoOffer_NotExtreme => first | rfl | k_is)
    (case xs_NotExtreme_NotExtreme => first | rfl | k_is)
    (case xs_NoAsked_NotExtreme => first | rfl | k_is)
    (case xs_NoTaking_NotExtreme => first | rfl | k_is)
    (case xs_NoMeasure_NotExtreme => first | rfl | k_is)
    (case xs_NotConsistent_NotExtreme => first | rfl | k_is)
    (case xs_NoKind_NotExtreme => first | rfl | k_is)
    (case xs_NoRoll_NotExtreme => first | rfl | k_is)
    (case xs_BadText_NotExtreme => first | rfl | k_is)
    (case xs_BadLine_NotExtreme => first | rfl | k_is)
    (case xs_NoCommand_NotExtreme => first | rfl | k_is)
    (case xs_NoUndo_NotExtreme => first | rfl | k_is)
    (case xs_NoRedo_NotExtreme => first | rfl | k_is)
    (case xc_BadLine => k_is)
    (case xs_NoOffer_BadLine => first | rfl | k_is)
    (case xs_BadLine_BadLine => first | rfl | k_is)
    (case xs_NoAsked_BadLine => first | rfl | k_is)
    (case xs_NoTaking_BadLine => first | rfl | k_is)
    (case xs_NoMeasure_BadLine => first | rfl | k_is)
    (case xs_NotExtreme_BadLine => first | rfl | k_is)
    (case xs_NotConsistent_BadLine => first | rfl | k_is)
    (case xs_NoKind_BadLine => first | rfl | k_is)
    (case xs_NoRoll_BadLine => first | rfl | k_is)
    (case xs_BadText_BadLine => first | rfl | k_is)
    (case xs_NoCommand_BadLine => first | rfl | k_is)
    (case xs_NoUndo_BadLine => first | rfl | k_is)
    (case xs_NoRedo_BadLine => first | rfl | k_is)
    (case xc_BadText => k_is)
    (case xs_NoOffer_BadText => first | rfl | k_is)
    (case xs_BadText_BadText => first | rfl | k_is)
    (case xs_NoAsked_BadText => first | rfl | k_is)
    (case xs_NoTaking_BadText => first | rfl | k_is)
    (case xs_NoMeasure_BadText => first | rfl | k_is)
    (case xs_NotExtreme_BadText => first | rfl | k_is)
    (case xs_NotConsistent_BadText => first | rfl | k_is)
    (case xs_NoKind_BadText => first | rfl | k_is)
    (case xs_NoRoll_BadText => first | rfl | k_is)
    (case xs_BadLine_BadText => first | rfl | k_is)
    (case xs_NoCommand_BadText => first | rfl | k_is)
    (case xs_NoUndo_BadText => first | rfl | k_is)
    (case xs_NoRedo_BadText => first | rfl | k_is)
    (case xc_NoRoll => k_is)
    (case xs_NoOffer_NoRoll => first | rfl | k_is)
    (case xs_NoRoll_NoRoll => first | rfl | k_is)
    (case xs_NoAsked_NoRoll => first | rfl | k_is)
    (case xs_NoTaking_NoRoll => first | rfl | k_is)
    (case xs_NoMeasure_NoRoll => first | rfl | k_is)
    (case xs_NotExtreme_NoRoll => first | rfl | k_is)
    (case xs_NotConsistent_NoRoll => first | rfl | k_is)
    (case xs_NoKind_NoRoll => first | rfl | k_is)
    (case xs_BadText_NoRoll => first | rfl | k_is)
    (case xs_BadLine_NoRoll => first | rfl | k_is)
    (case xs_NoCommand_NoRoll => first | rfl | k_is)
    (case xs_NoUndo_NoRoll => first | rfl | k_is)
    (case xs_NoRedo_NoRoll => first | rfl | k_is)
    (case xc_NoRedo => k_is)
    (case xs_NoOffer_NoRedo => first | rfl | k_is)
    (case xs_NoRedo_NoRedo => first | rfl | k_is)
    (case xs_NoAsked_NoRedo => first | rfl | k_is)
    (case xs_NoTaking_NoRedo => first | rfl | k_is)
    (case xs_NoMeasure_NoRedo => first | rfl | k_is)
    (case xs_NotExtreme_NoRedo => first | rfl | k_is)
    (case xs_NotConsistent_NoRedo => first | rfl | k_is)
    (case xs_NoKind_NoRedo => first | rfl | k_is)
    (case xs_NoRoll_NoRedo => first | rfl | k_is)
    (case xs_BadText_NoRedo => first | rfl | k_is)
    (case xs_BadLine_NoRedo => first | rfl | k_is)
    (case xs_NoCommand_NoRedo => first | rfl | k_is)
    (case xs_NoUndo_NoRedo => first | rfl | k_is)
    (case xc_NoUndo => k_is)
    (case xs_NoOffer_NoUndo => first | rfl | k_is)
    (case xs_NoUndo_NoUndo => first | rfl | k_is)
    (case xs_NoAsked_NoUndo => first | rfl | k_is)
    (case xs_NoTaking_NoUndo => first | rfl | k_is)
    (case xs_NoMeasure_NoUndo => first | rfl | k_is)
    (case xs_NotExtreme_NoUndo => first | rfl | k_is)
    (case xs_NotConsistent_NoUndo => first | rfl | k_is)
    (case xs_NoKind_NoUndo => first | rfl | k_is)
    (case xs_NoRoll_NoUndo => first | rfl | k_is)
    (case xs_BadText_NoUndo => first | rfl | k_is)
    (case xs_BadLine_NoUndo => first | rfl | k_is)
    (case xs_NoCommand_NoUndo => first | rfl | k_is)
    (case xs_NoRedo_NoUndo => first | rfl | k_is)
    (case xc_NoCommand => k_is)
    (case xs_NoOffer_NoCommand => first | rfl | k_is)
    (case xs_NoCommand_NoCommand => first | rfl | k_is)
    (case xs_NoAsked_NoCommand => first | rfl | k_is)
    (case xs_NoTaking_NoCommand => first | rfl | k_is)
    (case xs_NoMeasure_NoCommand => first | rfl | k_is)
    (case xs_NotExtreme_NoCommand => first | rfl | k_is)
    (case xs_NotConsistent_NoCommand => first | rfl | k_is)
    (case xs_NoKind_NoCommand => first | rfl | k_is)
    (case xs_NoRoll_NoCommand => first | rfl | k_is)
    (case xs_BadText_NoCommand => first | rfl | k_is)
    (case xs_BadLine_NoCommand => first | rfl | k_is)
    (case xs_NoUndo_NoCommand => first | rfl | k_is)
    (case xs_NoRedo_NoCommand => first | rfl | k_is)
    (case xc_NoTable => k_is)
    (case xs_NoOffer_NoTable => first | rfl | k_is)
    (case xs_NoTable_NoTable => first | rfl | k_is)
    (case xs_NoAsked_NoTable => first | rfl | k_is)
    (case xs_NoTaking_NoTable => first | rfl | k_is)
    (case xs_NoMeasure_NoTable => first | rfl | k_is)
    (case xs_NotExtreme_NoTable => first | rfl | k_is)
    (case xs_NotConsistent_NoTable => first | rfl | k_is)
    (case xs_NoKind_NoTable => first | rfl | k_is)
    (case xs_NoRoll_NoTable => first | rfl | k_is)
    (case xs_BadText_NoTable => first | rfl | k_is)
    (case xs_BadLine_NoTable => first | rfl | k_is)
    (case xs_NoCommand_NoTable => first | rfl | k_is)
    (case xs_NoUndo_NoTable => first | rfl | k_is)
    (case xs_NoRedo_NoTable => first | rfl | k_is)
    (case xc_NoSuch => k_is)
    (case xs_NoOffer_NoSuch => first | rfl | k_is)
    (case xs_NoSuch_NoSuch => first | rfl | k_is)
    (case xs_NoAsked_NoSuch => first | rfl | k_is)
    (case xs_NoTaking_NoSuch => first | rfl | k_is)
    (case xs_NoMeasure_NoSuch => first | rfl | k_is)
    (case xs_NotExtreme_NoSuch => first | rfl | k_is)
    (case xs_NotConsistent_NoSuch => first | rfl | k_is)
    (case xs_NoKind_NoSuch => first | rfl | k_is)
    (case xs_NoRoll_NoSuch => first | rfl | k_is)
    (case xs_BadText_NoSuch => first | rfl | k_is)
    (case xs_BadLine_NoSuch => first | rfl | k_is)
    (case xs_NoCommand_NoSuch => first | rfl | k_is)
    (case xs_NoUndo_NoSuch => first | rfl | k_is)
    (case xs_NoRedo_NoSuch => first | rfl | k_is)
    (case xc_Full => k_is)
    (case xs_NoOffer_Full => first | rfl | k_is)
    (case xs_Full_Full => first | rfl | k_is)
    (case xs_NoAsked_Full => first | rfl | k_is)
    (case xs_NoTaking_Full => first | rfl | k_is)
    (case xs_NoMeasure_Full => first | rfl | k_is)
    (case xs_NotExtreme_Full => first | rfl | k_is)
    (case xs_NotConsistent_Full => first | rfl | k_is)
    (case xs_NoKind_Full => first | rfl | k_is)
    (case xs_NoRoll_Full => first | rfl | k_is)
    (case xs_BadText_Full => first | rfl | k_is)
    (case xs_BadLine_Full => first | rfl | k_is)
    (case xs_NoCommand_Full => first | rfl | k_is)
    (case xs_NoUndo_Full => first | rfl | k_is)
    (case xs_NoRedo_Full => first | rfl | k_is)
    (case xc_PartError => k_is)
    (case xs_NoOffer_PartError => first | rfl | k_is)
    (case xs_NoAsked_PartError => first | rfl | k_is)
    (case xs_NoTaking_PartError => first | rfl | k_is)
    (case xs_NoMeasure_PartError => first | rfl | k_is)
    (case xs_NotExtreme_PartError => first | rfl | k_is)
    (case xs_NotConsistent_PartError => first | rfl | k_is)
    (case xs_NoKind_PartError => first | rfl | k_is)
    (case xs_NoRoll_PartError => first | rfl | k_is)
    (case xs_BadText_PartError => first | rfl | k_is)
    (case xs_BadLine_PartError => first | rfl | k_is)
    (case xs_NoCommand_PartError => first | rfl | k_is)
    (case xs_NoUndo_PartError => first | rfl | k_is)
    (case xs_NoRedo_PartError => first | rfl | k_is)
    (case xb_NoOffer_ValueError => first | rfl | k_is)
    (case xb_NoAsked_ValueError => first | rfl | k_is)
    (case xb_NoTaking_ValueError => first | rfl | k_is)
    (case xb_NoMeasure_ValueError => first | rfl | k_is)
    (case xb_NotExtreme_ValueError => first | rfl | k_is)
    (case xb_NotConsistent_ValueError => first | rfl | k_is)
    (case xb_NoKind_ValueError => first | rfl | k_is)
    (case xb_NoRoll_ValueError => first | rfl | k_is)
    (case xb_BadText_ValueError => first | rfl | k_is)
    (case xb_BadLine_ValueError => first | rfl | k_is)
    (case xb_NoCommand_ValueError => first | rfl | k_is)
    (case xb_NoUndo_ValueError => first | rfl | k_is)
    (case xb_NoRedo_ValueError => first | rfl | k_is)
    (case z_ValueError => k_is)
    (case z_int => k_is)
    (case z_isinstance => k_is)
    (case z_len => k_is)
    (case z_range => k_is)
    (case z_str => k_is)
#print axioms PySem.Challenge.cw_partstell_k98_further_errors_told_holds
