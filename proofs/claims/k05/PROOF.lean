import PyProof.Rows.All
import Wide.All
import OpenK.AllK
import Wide.FinOn
import HandS.ForMost
import HandS.ForExc
import HandS.Wide
import HandS.IsInst
import HandS.Defaults
import HandS.ExcInit
import HandS.ExcField
import HandS.Flow
import HandS.Style
import HandS.OwnEq
import HandS.RaiseOp
import PyProof.ListMulRoad
import PyProof.FactsAll.int
import HandS.TupAny
import HandS.CallSlots
import HandS.NoneIn
import HandS.TryOnly
import HandS.TryMany
import KE.KExcIs
import HandS.ExcIs
import HandS.Star
import HandS.Strs
import HandS.Text
import KE.GoesEnum
import HandS.SetFor
import HandS.HotCalls
import HandS.StrMore
import HandS.FStr
import PyProof.StrBlock2
import PyProof.Rows.StrJoinRep
import PySem.Challenge.RW_partstell_k05_ratio_refused
set_option Elab.async false
set_option linter.all false
set_option maxRecDepth 100000
set_option maxHeartbeats 4000000
set_option exponentiation.threshold 100000
/-! Operators of an own class, with ints on either side. -/
namespace Pt
open PySem PySem.Spec PyProof.Rows L2
open Builtin
/-- an object that is no int -/
def plainObj (C dx : Addr) : Obj := PySem.W.instObj C dx
section
variable (a : Int) (t : Tok) (l C dx : Addr)
abbrev Decl (B : Builtin) (a : Int) (t : Tok) (l C dx : Addr) : Prop := Meets (B ⟨[.int a t, .ref l], []⟩) (fun _ R s => s.heap.get? l = some (PySem.W.instObj C dx) ∧ R (.ok (.ret Value.notImplemented)) s)
theorem dec_add : Decl Builtin.«int.__add__» a t l C dx := .of_wp fun prog w A R s h => by
  obtain ⟨hp, g, d, tk, os⟩ := s; obtain ⟨hl, h⟩ := h; unfold PySem.W.instObj at hl; wp_walk; exact ⟨_, rfl, h⟩
theorem dec_sub : Decl Builtin.«int.__sub__» a t l C dx := .of_wp fun prog w A R s h => by
  obtain ⟨hp, g, d, tk, os⟩ := s; obtain ⟨hl, h⟩ := h; unfold PySem.W.instObj at hl; wp_walk; exact ⟨_, rfl, h⟩
theorem dec_mul : Decl Builtin.«int.__mul__» a t l C dx := .of_wp fun prog w A R s h => by
  obtain ⟨hp, g, d, tk, os⟩ := s; obtain ⟨hl, h⟩ := h; unfold PySem.W.instObj at hl; wp_walk; exact ⟨_, rfl, h⟩
theorem dec_mod : Decl Builtin.«int.__mod__» a t l C dx := .of_wp fun prog w A R s h => by
  obtain ⟨hp, g, d, tk, os⟩ := s; obtain ⟨hl, h⟩ := h; unfold PySem.W.instObj at hl; wp_walk; exact ⟨_, rfl, h⟩
theorem dec_floordiv : Decl Builtin.«int.__floordiv__» a t l C dx := .of_wp fun prog w A R s h => by
  obtain ⟨hp, g, d, tk, os⟩ := s; obtain ⟨hl, h⟩ := h; unfold PySem.W.instObj at hl; wp_walk; exact ⟨_, rfl, h⟩
theorem dec_lt : Decl Builtin.«int.__lt__» a t l C dx := .of_wp fun prog w A R s h => by
  obtain ⟨hp, g, d, tk, os⟩ := s; obtain ⟨hl, h⟩ := h; unfold PySem.W.instObj at hl; wp_walk; exact ⟨_, rfl, h⟩
theorem dec_le : Decl Builtin.«int.__le__» a t l C dx := .of_wp fun prog w A R s h => by
  obtain ⟨hp, g, d, tk, os⟩ := s; obtain ⟨hl, h⟩ := h; unfold PySem.W.instObj at hl; wp_walk; exact ⟨_, rfl, h⟩
theorem dec_gt : Decl Builtin.«int.__gt__» a t l C dx := .of_wp fun prog w A R s h => by
  obtain ⟨hp, g, d, tk, os⟩ := s; obtain ⟨hl, h⟩ := h; unfold PySem.W.instObj at hl; wp_walk; exact ⟨_, rfl, h⟩
theorem dec_ge : Decl Builtin.«int.__ge__» a t l C dx := .of_wp fun prog w A R s h => by
  obtain ⟨hp, g, d, tk, os⟩ := s; obtain ⟨hl, h⟩ := h; unfold PySem.W.instObj at hl; wp_walk; exact ⟨_, rfl, h⟩
theorem dec_eq : Decl Builtin.«int.__eq__» a t l C dx := .of_wp fun prog w A R s h => by
  obtain ⟨hp, g, d, tk, os⟩ := s; obtain ⟨hl, h⟩ := h; unfold PySem.W.instObj at hl; wp_walk; exact ⟨_, rfl, h⟩
theorem dec_ne : Decl Builtin.«int.__ne__» a t l C dx := .of_wp fun prog w A R s h => by
  obtain ⟨hp, g, d, tk, os⟩ := s; obtain ⟨hl, h⟩ := h; unfold PySem.W.instObj at hl; wp_walk; exact ⟨_, rfl, h⟩
end
end Pt
namespace Pt
open PySem PySem.Spec PyProof.Rows L2
open PySem.W (findIn isFn subIn selfFirst Looks looks_findIn looks_subIn looks_clsIn clsIn InstAt special_fn fills_K)
/-- what an int declines: the place of an operator's method in int -/
structure IntDec (nm : Str) (f : Str) where
  id : String
  B : Builtin
  slot : Slot "int" f id
  entry : entryFor table id = some B
  args : ∀ a b, argsOk id ⟨[a, b], []⟩
  dec : ∀ a t l C dx, Decl B a t l C dx
section
variable {prog : Program} {w : World} {A : Around} {E : Value → Shared → Prop} {s : Shared} {K : PySem.W.Frag} {x C f : Addr} {ox : Obj} {od : Option Obj} {nm : Str}
theorem int_declines {fn : Str} (D : IntDec nm fn) {i : Int} {t : Tok} {dx : Addr} {Q : Value → Shared → Prop} (h : s.heap.get? x = some (PySem.W.instObj C dx)) (q : Q .notImplemented s) :
    wpAny (model prog w) A (call (.builtin D.id) [.int i t, .ref x]) Q E s :=
  call_meets D.slot (typeIs_int s i t) D.entry (D.args _ _) (D.dec i t x C dx) ⟨h, q⟩

/-- what an operator of the class at C is: its own method g, the reflected one f -/
structure OwnBin (K : PySem.W.Frag) (C : Addr) (op : Operator) (g : Addr) (rc : Option Value) : Prop where
  first : selfFirst K C = true
  mro : ∃ cd, clsIn K C = some cd ∧ cd.mro = [.ref C, .type "object"]
  here : findIn K (.ref C) (PySem.dunder op.info.2) = some (some (.ref g))
  fn : isFn K (.ref g) = true
  refl : findIn K (.ref C) (dunderR op.info.2) = some rc
  kind : rc = none ∨ ∃ f : Addr, rc = some (.ref f) ∧ isFn K (.ref f) = true
  noI : findIn K (.ref C) (dunderI op.info.2) = some none
  sub1 : subIn K (.ref C) (.type "int") = some false
  sub2 : subIn K (.type "int") (.ref C) = some false
/-- int, as operand of it -/
structure IntBin (op : Operator) where
  D : IntDec op.info.2 (PySem.dunder op.info.2)
  fills : fillsNumberSlot (.type "int") op.info.2 = pure true
  noI : typeLookup (.type "int") (dunderI op.info.2) = pure none
  ro : Option Value
  refl : typeLookup (.type "int") (dunderR op.info.2) = pure ro
abbrev Gets (Q : Value → Shared → Prop) : Option Value → Shared → Prop := fun r s' => ∃ v, r = some v ∧ Q v s'
theorem bin1_own_own {op : Operator} {rc : Option Value} {b : Value} {Q : Value → Shared → Prop} (X : K.In s.heap) (I : InstAt s.heap x ox C od) (hb : Looks (model prog w) s.heap (typeOf b) (.ref C)) (T : OwnBin K C op g rc)
    (h : wpAny (model prog w) A (call (.ref g) [.ref x, b]) (PySem.W.CmpBack Q) E s) : wpAny (model prog w) A (binaryOp1 op.info.2 (.ref x) b) (Gets Q) E s := by
  obtain ⟨cd, rest, hcd, hm⟩ := PySem.W.ksp_first T.first
  have hs := T.here
  generalize op.info.2 = nm' at hs
  have one := PySem.W.ksp_try X I hs T.fn h
  obtain ⟨hh, g', d, tt, os⟩ := s
  have Ta : Looks (model prog w) hh (typeOf (.ref x)) (.ref C) := I.type
  have Fa : Looks (model prog w) hh (fillsNumberSlot (.ref C) nm') true := fills_K X hcd hm hs
  unfold binaryOp1
  refine wpAny_bind (Ta.at (wpAny_bind (hb.at (wpAny_bind (Fa.at ?_)))))
  simp only [beq_self_eq_true, if_true, pure_bind, Bool.and_false, Bool.false_eq_true, if_false, Bool.false_and]
  refine wpAny_bind (wpAny_mono one (fun r s' hr' => ?_) fun _ _ e => e)
  obtain ⟨v, rfl, hq⟩ := hr'
  exact wpAny_pure ⟨v, rfl, hq⟩
theorem bin1_own_int {op : Operator} {rc : Option Value} {i : Int} {t : Tok} {Q : Value → Shared → Prop} (X : K.In s.heap) (I : InstAt s.heap x ox C od) (T : OwnBin K C op g rc) (Z : IntBin op)
    (h : wpAny (model prog w) A (call (.ref g) [.ref x, .int i t]) (PySem.W.CmpBack Q) E s) : wpAny (model prog w) A (binaryOp1 op.info.2 (.ref x) (.int i t)) (Gets Q) E s := by
  obtain ⟨cd, rest, hcd, hm⟩ := PySem.W.ksp_first T.first
  have hs := T.here
  have hr := T.refl
  have hp : rc = none ∨ ∃ f : Addr, rc = some (.ref f) := T.kind.imp id fun ⟨f, e, _⟩ => ⟨f, e⟩
  have hfi := Z.fills
  have hro := Z.refl
  generalize Z.ro = ro at hro
  generalize op.info.2 = nm' at hs hr hfi hro
  have one := PySem.W.ksp_try X I hs T.fn h
  obtain ⟨hh, g', d, tt, os⟩ := s
  have Ta : Looks (model prog w) hh (typeOf (.ref x)) (.ref C) := I.type
  have Tb : Looks (model prog w) hh (typeOf (.int i t)) (.type "int") := Looks.of_pure rfl
  have Fa : Looks (model prog w) hh (fillsNumberSlot (.ref C) nm') true := fills_K X hcd hm hs
  have Fb : Looks (model prog w) hh (fillsNumberSlot (.type "int") nm') true := Looks.of_pure hfi
  have Sb : Looks (model prog w) hh (isSubtype (.type "int") (.ref C)) false := looks_subIn X T.sub2
  have Pa : Looks (model prog w) hh (numberSlotInPython (.ref C) nm') true := PySem.W.ksp_inPy X hs hr hp
  have Pb : Looks (model prog w) hh (numberSlotInPython (.type "int") nm') false := Looks.of_pure rfl
  have Rb : Looks (model prog w) hh (typeLookup (.type "int") (dunderR nm')) ro := Looks.of_pure hro
  have hne : (Value.ref C == Value.type "int") = false := Bool.eq_false_iff.mpr fun q => by cases beq_iff_eq.mp q
  unfold binaryOp1
  refine wpAny_bind (Ta.at (wpAny_bind (Tb.at (wpAny_bind (Fa.at ?_)))))
  simp only [hne, Bool.false_eq_true, if_false]
  refine wpAny_bind (Fb.at ?_)
  simp only [Bool.and_self, if_true]
  refine wpAny_bind (Sb.at ?_)
  simp only [Bool.false_eq_true, if_false, pure_bind, Bool.not_false, Bool.and_self, if_true]
  refine wpAny_bind (Pa.at ?_)
  simp only [if_true]
  refine wpAny_bind (Pb.at ?_)
  simp only [Bool.not_false, if_true]
  refine wpAny_bind (Rb.at ?_)
  refine wpAny_bind (wpAny_mono one (fun r s' hr' => ?_) fun _ _ e => e)
  obtain ⟨v, rfl, hq⟩ := hr'
  exact wpAny_pure ⟨v, rfl, hq⟩
theorem bin1_int_own {op : Operator} {i : Int} {t : Tok} {dx : Addr} {Q : Value → Shared → Prop} (X : K.In s.heap) (I : InstAt s.heap x (PySem.W.instObj C dx) C od) (T : OwnBin K C op g (some (.ref f))) (hf : isFn K (.ref f) = true) (Z : IntBin op)
    (h : wpAny (model prog w) A (call (.ref f) [.ref x, .int i t]) (PySem.W.CmpBack Q) E s) : wpAny (model prog w) A (binaryOp1 op.info.2 (.int i t) (.ref x)) (Gets Q) E s := by
  obtain ⟨cd, rest, hcd, hm⟩ := PySem.W.ksp_first T.first
  have hs := T.here
  have hr := T.refl
  have hfi := Z.fills
  obtain ⟨id, B, slot, entry, args, dec⟩ := Z.D
  generalize op.info.2 = nm' at hs hr hfi slot
  have one := PySem.W.ksp_try X I hr hf h
  have decl : ∀ {Q' : Option Value → Shared → Prop}, Q' none s → wpAny (model prog w) A (tryMethod (.int i t) (PySem.dunder nm') (.ref x)) Q' E s := fun {Q'} q =>
    wpAny_tryMethod_declines (typeIs_int s i t) slot (call_meets slot (typeIs_int s i t) entry (args _ _) (dec i t x C dx) ⟨I.at_, rfl, q⟩)
  obtain ⟨hh, g', d, tt, os⟩ := s
  have Tx : Looks (model prog w) hh (typeOf (.ref x)) (.ref C) := I.type
  have Ti : Looks (model prog w) hh (typeOf (.int i t)) (.type "int") := Looks.of_pure rfl
  have Fx : Looks (model prog w) hh (fillsNumberSlot (.ref C) nm') true := fills_K X hcd hm hs
  have Fi : Looks (model prog w) hh (fillsNumberSlot (.type "int") nm') true := Looks.of_pure hfi
  have Sx : Looks (model prog w) hh (isSubtype (.ref C) (.type "int")) false := looks_subIn X T.sub1
  have Pi : Looks (model prog w) hh (numberSlotInPython (.type "int") nm') false := Looks.of_pure rfl
  have hne : (Value.type "int" == Value.ref C) = false := Bool.eq_false_iff.mpr fun q => by cases beq_iff_eq.mp q
  unfold binaryOp1
  refine wpAny_bind (Ti.at (wpAny_bind (Tx.at (wpAny_bind (Fi.at ?_)))))
  simp only [hne, Bool.false_eq_true, if_false]
  refine wpAny_bind (Fx.at ?_)
  simp only [Bool.and_self, if_true]
  refine wpAny_bind (Sx.at ?_)
  simp only [Bool.false_eq_true, if_false, pure_bind, Bool.not_false, Bool.and_self, if_true]
  refine wpAny_bind (Pi.at ?_)
  simp only [Bool.false_eq_true, if_false, pure_bind]
  refine wpAny_bind (decl ?_)
  simp only [pure_bind, Bool.false_eq_true, if_false, if_true]
  refine wpAny_bind (wpAny_mono one (fun r s' hr' => ?_) fun _ _ e => e)
  obtain ⟨v, rfl, hq⟩ := hr'
  exact wpAny_bind (wpAny_rule (wpAny_pure ⟨v, rfl, hq⟩))
theorem bin_of1 {op : Operator} {a b : Value} {Q : Value → Shared → Prop} (h : wpAny (model prog w) A (binaryOp1 op.info.2 a b) (Gets Q) E s) : wpAny (model prog w) A (binaryOp op a b) Q E s := by
  rcases hi : op.info with ⟨sym, nm'⟩
  rw [hi] at h
  simp only [binaryOp, hi]
  refine wpAny_holding (wpAny_bind (wpAny_mono h (fun r s' hr' => ?_) fun _ _ e => e))
  obtain ⟨v, rfl, hq⟩ := hr'
  exact wpAny_pure hq
theorem inp_of1 {op : Operator} {a b ta : Value} {Q : Value → Shared → Prop} (Ta : Looks (model prog w) s.heap (typeOf a) ta) (Fi : Looks (model prog w) s.heap (fillsInplaceSlot ta op.info.2 (op == .Add)) false)
    (h : wpAny (model prog w) A (binaryOp1 op.info.2 a b) (Gets Q) E s) : wpAny (model prog w) A (inplaceOp op a b) Q E s := by
  obtain ⟨hh, g', d, tt, os⟩ := s
  unfold inplaceOp
  refine wpAny_holding (wpAny_bind (Ta.at (wpAny_bind (Fi.at ?_))))
  simp only [Bool.false_eq_true, if_false, pure_bind]
  refine wpAny_bind (wpAny_mono h (fun r s' hr' => ?_) fun _ _ e => e)
  obtain ⟨v, rfl, hq⟩ := hr'
  exact wpAny_pure hq
theorem noI_own {M : Model} {h : Heap} {op : Operator} {rc : Option Value} (X : K.In h) (T : OwnBin K C op g rc) (hO : typeLookup (.type "object") (dunderI op.info.2) = pure none) : Looks M h (fillsInplaceSlot (.ref C) op.info.2 (op == .Add)) false := by
  obtain ⟨cd, hcd, hm⟩ := T.mro
  intro A Q E s k q
  have Lm : Looks M h (mroOf (.ref C)) cd.mro := (looks_clsIn X hcd).andThen (f := fun cd => pure cd.mro) .now
  have Lm' := Lm.keeps k
  have L1 : Looks M h (typeLookup (.ref C) (dunderI op.info.2)) none := looks_findIn X T.noI
  have L1' := L1.keeps k
  have L2 : Looks M s.heap (typeLookup (.type "object") (dunderI op.info.2)) none := Looks.of_pure hO
  unfold fillsInplaceSlot
  refine wpAny_bind (Lm'.at ?_)
  rw [hm, List.anyM_cons]
  refine wpAny_bind (wpAny_bind (L1'.at ?_))
  refine wpAny_pure ?_
  simp only [Bool.false_eq_true, if_false]
  rw [List.anyM_cons]
  refine wpAny_bind (wpAny_bind (L2.at ?_))
  refine wpAny_pure ?_
  simp only [Bool.false_eq_true, if_false]
  exact wpAny_pure q
theorem noI_int {M : Model} {h : Heap} {op : Operator} (Z : IntBin op) : Looks M h (fillsInplaceSlot (.type "int") op.info.2 (op == .Add)) false := by
  refine Looks.of_pure ?_
  unfold fillsInplaceSlot
  show (typeLookup (.type "int") (dunderI op.info.2) >>= fun fi => pure (fi.isSome && !isSeqSlot fi)) = pure false
  rw [Z.noI]
  rfl
/-! comparisons -/
theorem cmp_int_own {op : CmpOp} {i : Int} {t : Tok} {dx : Addr} {Q : Value → Shared → Prop} (hu : A.units < cLine) (X : K.In s.heap) (I : InstAt s.heap x (PySem.W.instObj C dx) C od) (D : IntDec (cmpInfo op).2.1 (cmpInfo op).2.1)
    (hs : findIn K (.ref C) (cmpInfo op).2.2 = some (some (.ref f))) (hf : isFn K (.ref f) = true) (hsub : subIn K (.ref C) (.type "int") = some false)
    (h : wpAny (model prog w) A (call (.ref f) [.ref x, .int i t]) (PySem.W.CmpBack Q) E s) : wpAny (model prog w) A (richCompare op (.int i t) (.ref x)) Q E s := by
  have two : wpAny (model prog w) A (tryCompare (.ref x) (cmpInfo op).2.2 (.int i t)) (fun r s' => ∃ v, r = some v ∧ Q v s') E s := by
    unfold tryCompare
    refine wpAny_bind (PySem.W.ifBound_K X I hs hf (wpAny_mono h (fun v s' hv => ?_) fun _ _ e => e))
    cases v <;> first | exact hv.elim | exact wpAny_pure ⟨_, rfl, hv⟩
  have hs1 := D.slot
  have e1 := D.entry
  have a1 := D.args
  have d1 := D.dec
  rcases hi : cmpInfo op with ⟨sym, fa, fb⟩
  have decl : ∀ {Q' : Option Value → Shared → Prop}, Q' none s → wpAny (model prog w) A (tryCompare (.int i t) (cmpInfo op).2.1 (.ref x)) Q' E s := fun {Q'} q =>
    wpAny_tryCompare_declines (typeIs_int s i t) hs1 (call_meets hs1 (typeIs_int s i t) e1 (a1 _ _) (d1 i t x C dx) ⟨I.at_, rfl, q⟩)
  rw [hi] at decl two
  have Sx : Looks (model prog w) s.heap (isSubtype (.ref C) (.type "int")) false := looks_subIn X hsub
  have hne : (Value.type "int" != Value.ref C) = true := by
    show (!(Value.type "int" == Value.ref C)) = true
    rw [show (Value.type "int" == Value.ref C) = false from Bool.eq_false_iff.mpr fun q => by cases beq_iff_eq.mp q]
    rfl
  simp only [richCompare, hi, (typeIs_int s i t).oneThing_none]
  refine wpAny_holding (wpAny_bind (wpAny_cRoomFor hu ?_))
  refine wpAny_bind (wpAny_typeOf (typeIs_int s i t) (wpAny_bind (I.type.here ?_)))
  simp only [hne, if_true]
  refine wpAny_bind (Sx.here ?_)
  simp only [Bool.false_eq_true, if_false, Bool.not_false, if_true]
  refine wpAny_bind (decl ?_)
  refine wpAny_bind (wpAny_mono two (fun r s' z => ?_) fun _ _ e => e)
  obtain ⟨v, rfl, hq⟩ := z
  exact wpAny_pure hq
end
end Pt
namespace Pt
open PySem PySem.Spec PyProof.Rows L2
open PySem.W (findIn isFn subIn selfFirst Looks looks_findIn looks_subIn looks_clsIn clsIn InstAt special_fn fills_K)
/-! ints as operands -/
def intAdd : IntBin .Add := ⟨⟨_, _, F.slot_int_add, F.entry_int_add, F.args_int_add_2, dec_add⟩, F.fills_int_add, F.noI_int_add, _, F.slot_int_radd.lookup⟩
def intSub : IntBin .Sub := ⟨⟨_, _, F.slot_int_sub, F.entry_int_sub, F.args_int_sub_2, dec_sub⟩, F.fills_int_sub, F.noI_int_sub, _, F.slot_int_rsub.lookup⟩
def intMul : IntBin .Mult := ⟨⟨_, _, F.slot_int_mul, F.entry_int_mul, F.args_int_mul_2, dec_mul⟩, F.fills_int_mul, F.noI_int_mul, _, F.slot_int_rmul.lookup⟩
def intMod : IntBin .Mod := ⟨⟨_, _, F.slot_int_mod, F.entry_int_mod, F.args_int_mod_2, dec_mod⟩, F.fills_int_mod, F.noI_int_mod, _, F.slot_int_rmod.lookup⟩
def intFloor : IntBin .FloorDiv := ⟨⟨_, _, F.slot_int_floordiv, F.entry_int_floordiv, F.args_int_floordiv_2, dec_floordiv⟩, F.fills_int_floordiv, F.noI_int_floordiv, _, F.slot_int_rfloordiv.lookup⟩
def icLt : IntDec (cmpInfo .Lt).2.1 (cmpInfo .Lt).2.1 := ⟨_, _, F.slot_int_lt, F.entry_int_lt, F.args_int_lt_2, dec_lt⟩
def icLe : IntDec (cmpInfo .LtE).2.1 (cmpInfo .LtE).2.1 := ⟨_, _, F.slot_int_le, F.entry_int_le, F.args_int_le_2, dec_le⟩
def icGt : IntDec (cmpInfo .Gt).2.1 (cmpInfo .Gt).2.1 := ⟨_, _, F.slot_int_gt, F.entry_int_gt, F.args_int_gt_2, dec_gt⟩
def icGe : IntDec (cmpInfo .GtE).2.1 (cmpInfo .GtE).2.1 := ⟨_, _, F.slot_int_ge, F.entry_int_ge, F.args_int_ge_2, dec_ge⟩
def icEq : IntDec (cmpInfo .Eq).2.1 (cmpInfo .Eq).2.1 := ⟨_, _, F.slot_int_eq, F.entry_int_eq, F.args_int_eq_2, dec_eq⟩
/-! the rules -/
def OwnV (C : Addr) (H : Hp) (x : V) : Prop := ∃ a dx fs, x = V.ref a ∧ H a = some (.ins C dx fs)
structure BinOk (P : Program) (w : World) (K : PySem.W.Frag) (mg : Str → Option Value) (base : Heap) (C : Addr) (op : Operator) (CX : CXT) (k : Nat) (sp spr : Sp) : Prop where
  ex : ∃ (g f : Addr) (fd fdr : FuncData) (ps psr : List Str), OwnBin K C op g (some (.ref f)) ∧ isFn K (.ref f) = true ∧ FnOk P w K mg base CX k g fd ps sp ∧ Binds K fd ps [] ∧ FnOk P w K mg base CX k f fdr psr spr ∧ Binds K fdr psr []
section
variable {X : Cx} {C g f : Addr} {op : Operator} {CX : CXT} {k : Nat} {sp spr : Sp} {pins : List (Addr × Obj)} {σ : L2.St} {H : Hp} {s : Shared} {Q : VK} {E : XK} {x y : V} {u v : Value}
theorem vv1 (rx : RelV x u) : Vals [x] [u] := .cons rx .nil
theorem vv2 (rx : RelV x u) (ry : RelV y v) : Vals [x, y] [u, v] := .cons rx (.cons ry .nil)
theorem back_ep {z : Value} {s' : Shared} (h : EP X pins σ Q z s') : PySem.W.CmpBack (EP X pins σ Q) z s' := by
  cases z with
  | notImplemented =>
    obtain ⟨v, H', _, r, _⟩ := h
    cases v with
    | non => exact nomatch (show Value.notImplemented = Value.none from r)
    | bl b => exact nomatch (show Value.notImplemented = Value.bool b from r)
    | int i => obtain ⟨t, e⟩ := (show ∃ t, Value.notImplemented = Value.int i t from r); cases e
    | str i => obtain ⟨t, e⟩ := (show ∃ t, Value.notImplemented = Value.str i t from r); cases e
    | byt i => obtain ⟨t, e⟩ := (show ∃ t, Value.notImplemented = Value.bytes i t from r); cases e
    | flt i => obtain ⟨t, e⟩ := (show ∃ t, Value.notImplemented = Value.float i t from r); cases e
    | ref a => exact nomatch (show Value.notImplemented = Value.ref a from r)
    | ty n => exact nomatch (show Value.notImplemented = Value.type n from r)
  | _ => exact h
theorem run_back {fd : FuncData} {ps : List Str} {us : List Value} {vs : List V} (F : FnOk X.prog X.w X.K X.mg X.base CX k f fd ps sp) (hr : Room k X.A) (hb : Binds X.K fd ps []) (hx : PassesAt CX X σ E)
    (I : Inv X pins σ H s) (r : Vals vs us) (h : sp vs H Q E) : wpAny (model X.prog X.w) X.A (call (.ref f) us) (PySem.W.CmpBack (EP X pins σ Q)) X.xe s :=
  wpAny_mono (run_fnS (E := fun _ => E) F hr hb hx I r h) (fun _ _ z => back_ep z) fun _ _ z => z
theorem own_inst (I : Inv X pins σ H s) {a dx : Addr} {fs : List (Str × V)} (e : H a = some (.ins C dx fs)) : ∃ od, InstAt s.heap a (PySem.W.instObj C dx) C (some od) := by
  obtain ⟨mA, J, _⟩ := ins_get I.hok e
  obtain ⟨od, J, _⟩ := J.look
  exact ⟨od, J⟩
theorem run_bin1 (B : BinOk X.prog X.w X.K X.mg X.base C op CX k sp spr) (Z : IntBin op) (hr : Room k X.A) (hx : PassesAt CX X σ E) (I : Inv X pins σ H s) (rx : RelV x u) (ry : RelV y v)
    (h : (OwnV C H x ∧ (OwnV C H y ∨ ∃ j, y = .int j) ∧ sp [x, y] H Q E) ∨ ((∃ i, x = .int i) ∧ OwnV C H y ∧ spr [y, x] H Q E)) :
    wpAny (model X.prog X.w) X.A (binaryOp1 op.info.2 u v) (Gets (EP X pins σ Q)) X.xe s := by
  obtain ⟨g, f, fd, fdr, ps, psr, T, hf, Fg, bg, Ff, bf⟩ := B.ex
  rcases h with ⟨⟨a, dx, fs, rfl, ha⟩, hy, h⟩ | ⟨⟨i, rfl⟩, ⟨b, dy, gs, rfl, hb⟩, h⟩
  · obtain rfl : u = Value.ref a := rx
    obtain ⟨od, J⟩ := own_inst I ha
    rcases hy with ⟨b, dy, gs, rfl, hb⟩ | ⟨j, rfl⟩
    · obtain rfl : v = Value.ref b := ry
      obtain ⟨od', J'⟩ := own_inst I hb
      exact bin1_own_own I.kIn J J'.type T (run_back Fg hr bg hx I (vv2 (x := V.ref a) (y := V.ref b) rfl rfl) h)
    · obtain ⟨t, rfl⟩ : ∃ t, v = Value.int j t := ry
      exact bin1_own_int I.kIn J T Z (run_back Fg hr bg hx I (vv2 (x := V.ref a) (y := V.int j) rfl ⟨t, rfl⟩) h)
  · obtain rfl : v = Value.ref b := ry
    obtain ⟨t, rfl⟩ : ∃ t, u = Value.int i t := rx
    obtain ⟨od, J⟩ := own_inst I hb
    exact bin1_int_own I.kIn J T hf Z (run_back Ff hr bf hx I (vv2 (x := V.ref b) (y := V.int i) rfl ⟨t, rfl⟩) h)
def rBin (r : R2) (C : Addr) (sp spr : Sp) (E : XK) : R2 := fun x y H Q =>
  r x y H Q ∨ (OwnV C H x ∧ (OwnV C H y ∨ ∃ j, y = .int j) ∧ sp [x, y] H Q E) ∨ ((∃ i, x = .int i) ∧ OwnV C H y ∧ spr [y, x] H Q E)
def tBin (r : R2) (C : Addr) (sp spr : Sp) (E : L2.St → XK) (ta tb : TE) : TE := fun σ H Q => ta σ H fun x H1 => tb σ H1 fun y H2 => rBin r C sp spr (E σ) x y H2 Q
def rNo : R2 := fun _ _ _ _ => False
theorem op_no {fn : Value → Value → Sem Value} : OpR X fn rNo := fun _ _ _ _ _ _ _ _ _ _ _ _ h => h.elim
section
variable {r : R2} {a b : Expr} {ta tb : TE} {pos : Pos}
theorem pe_bin {E : L2.St → XK} (ho : OpR X (binaryOp op) r) (B : BinOk X.prog X.w X.K X.mg X.base C op CX k sp spr) (Z : IntBin op) (hr : Room k X.A) (hx : ∀ σ, PassesAt CX X σ (E σ)) (ha : PE X a ta) (hb : PE X b tb) : PE X (.BinOp a op b pos) (tBin r C sp spr E ta tb) := by
  refine ⟨fun pins s σ H Q I h => ?_⟩
  refine wpAny_BinOp (binT ha hb (R := fun x y H2 => rBin r C sp spr (E σ) x y H2 Q) I h fun v u s2 x y H2 I2 rx ry q => ?_)
  rcases q with q | q
  · exact ho pins s2 σ H2 x y v u Q I2 rx ry q
  · exact bin_of1 (run_bin1 B Z hr (hx σ) I2 rx ry q)
theorem objI (op : Operator) (h : typeLookup (.type "object") (dunderI op.info.2) = pure none) : typeLookup (.type "object") (dunderI op.info.2) = pure none := h
theorem ip_bin (hi : PIp X op r) (B : BinOk X.prog X.w X.K X.mg X.base C op CX k sp spr) (Z : IntBin op) (hO : typeLookup (.type "object") (dunderI op.info.2) = pure none) (hr : Room k X.A) (hx : ∀ σ, PassesAt CX X σ E) : PIp X op (rBin r C sp spr E) := by
  intro pins s σ H x y v u Q I rx ry q
  rcases q with q | q
  · exact hi pins s σ H x y v u Q I rx ry q
  · have go := run_bin1 B Z hr (hx σ) I rx ry q
    obtain ⟨g, f, fd, fdr, ps, psr, T, _⟩ := B.ex
    rcases q with ⟨⟨a, dx, fs, rfl, ha⟩, _⟩ | ⟨⟨i, rfl⟩, _⟩
    · obtain rfl : v = Value.ref a := rx
      obtain ⟨od, J⟩ := own_inst I ha
      exact inp_of1 J.type (noI_own I.kIn T hO) go
    · obtain ⟨t, rfl⟩ : ∃ t, v = Value.int i t := rx
      exact inp_of1 (Looks.of_pure rfl) (noI_int Z) go
theorem ip_no : PIp X op (fun _ _ _ _ => False) := fun _ _ _ _ _ _ _ _ _ _ _ _ h => h.elim
/-- -x, +x, ~x of the class -/
structure UnOk (P : Program) (w : World) (K : PySem.W.Frag) (mg : Str → Option Value) (base : Heap) (C : Addr) (nm : Str) (CX : CXT) (k : Nat) (sp : Sp) : Prop where
  ex : ∃ (g : Addr) (fd : FuncData) (ps : List Str), findIn K (.ref C) nm = some (some (.ref g)) ∧ isFn K (.ref g) = true ∧ FnOk P w K mg base CX k g fd ps sp ∧ Binds K fd ps []
def rUnO (C : Addr) (sp : Sp) (E : XK) : V → Hp → VK → Prop := fun x H Q => OwnV C H x ∧ sp [x] H Q E
theorem un_neg_own (B : UnOk X.prog X.w X.K X.mg X.base C "__neg__" CX k sp) (hr : Room k X.A) (hx : ∀ σ, PassesAt CX X σ E) : UnR X (unaryOp .USub) (rUnO C sp E) := by
  intro pins s σ H x v Q I rx ⟨⟨a, dx, fs, e, ha⟩, h⟩
  subst e
  obtain rfl : v = Value.ref a := rx
  obtain ⟨g, fd, ps, hs, hf, F, b⟩ := B.ex
  obtain ⟨od, J⟩ := own_inst I ha
  obtain ⟨m, hF⟩ := I.fr
  exact PySem.W.ksp_neg hF I.ok.mod.kin J hs hf (run_fnS (E := fun _ => E) F hr b (hx σ) I (vv1 (x := V.ref a) rfl) h)
theorem un_pos_own (B : UnOk X.prog X.w X.K X.mg X.base C "__pos__" CX k sp) (hr : Room k X.A) (hx : ∀ σ, PassesAt CX X σ E) : UnR X (unaryOp .UAdd) (rUnO C sp E) := by
  intro pins s σ H x v Q I rx ⟨⟨a, dx, fs, e, ha⟩, h⟩
  subst e
  obtain rfl : v = Value.ref a := rx
  obtain ⟨g, fd, ps, hs, hf, F, b⟩ := B.ex
  obtain ⟨od, J⟩ := own_inst I ha
  obtain ⟨m, hF⟩ := I.fr
  exact PySem.W.ksp_pos hF I.ok.mod.kin J hs hf (run_fnS (E := fun _ => E) F hr b (hx σ) I (vv1 (x := V.ref a) rfl) h)
/-- abs(x) of the class -/
theorem run_in1 {fd : FuncData} {ps : List Str} {us : List Value} {vs : List V} (F : FnOk X.prog X.w X.K X.mg X.base CX k f fd ps sp) (hr : Room (k + 1) X.A) (hb : Binds X.K fd ps []) (hx : PassesAt CX X σ E)
    (I : Inv X pins σ H s) (r : Vals vs us) (h : sp vs H Q E) : wpAny (model X.prog X.w) X.A.in1 (call (.ref f) us) (EP X pins σ Q) X.xe s := by
  have hl : us.length = ps.length := by rw [← r.length]; exact F.len _ _ _ _ h
  have b := hb s us I.kIn (by rw [List.append_nil]; exact hl)
  rw [List.append_nil] at b
  refine wpAny_call (codeAny_mono (F.run X.A.in1 X.stack s H ⟨us, []⟩ us vs Q E hr.in1 I.env0.in1 b r h) fun z s' hq => ?_)
  match z, hq with
  | .error e, hq => exact hx pins H s e s' I hq
  | .ok (.ret u), hq => exact I.after hq
  | .ok .next, hq => exact hq.elim
  | .ok .brk, hq => exact hq.elim
  | .ok .cont, hq => exact hq.elim
theorem call_abs_own (B : UnOk X.prog X.w X.K X.mg X.base C "__abs__" CX k sp) (hr : Room (k + 1) X.A) (hx : ∀ σ, PassesAt CX X σ E) :
    CallR X (.builtin "abs") (fun xs H Q => (∃ i, xs = [.int i] ∧ Q (.int (if i < 0 then -i else i)) H) ∨ ∃ x, xs = [x] ∧ OwnV C H x ∧ sp [x] H Q E) := by
  intro pins s σ H xs us Q I r h
  rcases h with h | ⟨x, e, ⟨a, dx, fs, ex, ha⟩, h⟩
  · exact call_abs pins s σ H xs us Q I r h
  subst e ex
  obtain ⟨u, rfl, ru⟩ := vals1 r
  obtain rfl : u = Value.ref a := ru
  obtain ⟨g, fd, ps, hs, hf, F, b⟩ := B.ex
  obtain ⟨od, J⟩ := own_inst I ha
  refine Calls.call_function_entry PyProof.Rows.kind_abs PyProof.Rows.plain_abs PyProof.Rows.entry_abs (PyProof.Rows.args_abs _) ?_
  unfold Builtin.«abs»
  refine wpAny_bind (m := oneArg "abs" _) (wpAny_pure ?_)
  refine wpAny_bind (m := callSpecial? (.ref a) (Str.ofString "__abs__")) (special_fn I.kIn J hs (beq_iff_eq.mp hf) (wpAny_mono (run_in1 F hr b (hx σ) I (vv1 (x := V.ref a) rfl) h) (fun v s' hv => ?_) fun _ _ e => e))
  exact wpAny_pure ⟨_, rfl, hv⟩
end
end
end Pt
namespace Pt
open PySem PySem.Spec PyProof.Rows L2
open PySem.W (findIn isFn subIn Looks InstAt)
structure CmpOk (P : Program) (w : World) (K : PySem.W.Frag) (mg : Str → Option Value) (base : Heap) (C : Addr) (op : CmpOp) (CX : CXT) (k : Nat) (sp : Sp) : Prop where
  ex : ∃ (g : Addr) (fd : FuncData) (ps : List Str), findIn K (.ref C) (cmpInfo op).2.1 = some (some (.ref g)) ∧ isFn K (.ref g) = true ∧ FnOk P w K mg base CX k g fd ps sp ∧ Binds K fd ps []
  sub : subIn K (.type "int") (.ref C) = some false
def rCmpO (C : Addr) (sp : Sp) (E : XK) : R2 := fun x y H Q => OwnV C H x ∧ (OwnV C H y ∨ ∃ j, y = .int j) ∧ sp [x, y] H Q E
section
variable {X : Cx} {C g f : Addr} {op : CmpOp} {CX : CXT} {k : Nat} {sp spr : Sp} {E : XK}
theorem op_cmp_own (hop : ∀ a b, compareOp op a b = richCompare op a b) (B : CmpOk X.prog X.w X.K X.mg X.base C op CX k sp) (hr : Room k X.A) (hx : ∀ σ, PassesAt CX X σ E) : OpR X (compareOp op) (rCmpO C sp E) := by
  intro pins s σ H x y v u Q I rx ry q
  obtain ⟨⟨a, dx, fs, ex, ha⟩, hy, h⟩ := q
  subst ex
  obtain rfl : v = Value.ref a := rx
  obtain ⟨g, fd, ps, hs, hf, F, b⟩ := B.ex
  obtain ⟨od, J⟩ := own_inst I ha
  obtain ⟨m, hF⟩ := I.fr
  rw [hop]
  rcases hy with ⟨c, dy, gs, ey, hc⟩ | ⟨j, ey⟩
  · subst ey
    obtain rfl : u = Value.ref c := ry
    obtain ⟨od', J'⟩ := own_inst I hc
    exact PySem.W.cmp_K (tb := .ref C) hr.units0 hF I.ok.mod.kin J J'.type (by simp [PySem.W.notFirst]) hs hf (run_back F hr b (hx σ) I (vv2 (x := V.ref a) (y := V.ref c) rfl rfl) h)
  · subst ey
    obtain ⟨t, rfl⟩ : ∃ t, u = Value.int j t := ry
    exact PySem.W.cmp_K (tb := .type "int") hr.units0 hF I.ok.mod.kin J (Looks.of_pure rfl) (by unfold PySem.W.notFirst; rw [B.sub]; rfl) hs hf (run_back F hr b (hx σ) I (vv2 (x := V.ref a) (y := V.int j) rfl ⟨t, rfl⟩) h)
end
end Pt
namespace Pt
open PySem PySem.Spec PyProof.Rows L2
open PySem.W (findIn isFn subIn Looks looks_findIn looks_subIn InstAt)
section
variable {prog : Program} {w : World} {A : Around} {E : Value → Shared → Prop} {s : Shared} {K : PySem.W.Frag} {x C f : Addr} {ox : Obj} {od : Option Obj}
/-- object.__ne__ of an instance with an own __eq__ -/
theorem try_ne {u : Value} {Q : Option Value → Shared → Prop} (hu : A.units + 1 < cLine) (X : K.In s.heap) (I : InstAt s.heap x ox C od) (hn : findIn K (.ref C) "__ne__" = some (some (.builtin "object.__ne__"))) (hm : PySem.W.mroIn K C (.type "object") = some true)
    (hs : findIn K (.ref C) "__eq__" = some (some (.ref f))) (hf : isFn K (.ref f) = true)
    (h : wpAny (model prog w) A.in1 (call (.ref f) [.ref x, u]) (fun v s' => ∃ b, v = .bool b ∧ Q (some (.bool (!b))) s') E s) : wpAny (model prog w) A (tryCompare (.ref x) "__ne__" u) Q E s := by
  have body : wpAny (model prog w) A (call (.builtin "object.__ne__") [.ref x, u]) (fun v s' => ∃ b, v = .bool b ∧ Q (some (.bool b)) s') E s := by
    refine wpAny_call (codeAny_call_builtin F.cmp_object.ne.plain F.cmpEntry_ne (PySem.W.check_slot F.cmpKind_ne F.cmpSplit_ne (I.type.andThen (PySem.W.looks_mroIn X hm)) (F.cmpArgs_ne _ _) ?_))
    unfold Builtin.«object.__ne__»
    have hu1 : A.in1.units < cLine := hu
    have ask : ∀ {Q' : Option Value → Shared → Prop} {E' : Value → Shared → Prop}, wpAny (model prog w) A.in1 (call (.ref f) [.ref x, u]) (fun v => Q' (some v)) E' s → wpAny (model prog w) A.in1 (callSpecialIfBound? (.ref x) "__eq__" [u]) Q' E' s :=
      fun {Q' E'} z => PySem.W.ifBound_K X I hs hf z
    refine wpAny_bind (m := slotArgs "__ne__" 1 _) (wpAny_pure ?_)
    dsimp only
    refine wpAny_bind (wpAny_cRoomFor hu1 ?_)
    refine wpAny_bind (ask (wpAny_mono h (fun v s' hv => ?_) fun _ _ e => e))
    obtain ⟨b, rfl, q⟩ := hv
    dsimp only
    refine wpAny_bind (wpAny_truthy_bool ?_)
    exact wpAny_pure ⟨!b, rfl, q⟩
  simp only [tryCompare, callSpecialIfBound?, bindSpecialIfBound?]
  have fin : wpAny (model prog w) A (call (.builtin "object.__ne__") ([.ref x] ++ [u]) >>= fun v => pure (some v)) (fun r s' => wpAny (model prog w) A (match r with | some .notImplemented | none => pure none | some v => pure (some v)) Q E s') E s := by
    refine wpAny_bind (wpAny_mono body (fun v s' hv => ?_) fun _ _ e => e)
    obtain ⟨b, rfl, q⟩ := hv
    exact wpAny_pure (wpAny_pure q)
  refine wpAny_bind (wpAny_holding (wpAny_bind (wpAny_bind (wpAny_bind (I.type.here ((looks_findIn X hn).here ?_))))))
  dsimp only
  rw [F.cmp_object.ne.bind]
  refine wpAny_bind (wpAny_askSetting (wpAny_ite ?_))
  split
  · exact wpAny_bind (wpAny_pure (wpAny_pure fin))
  · exact wpAny_tryCatch (wpAny_bind (wpAny_pure (wpAny_pure fin)))
end
end Pt
namespace Pt
open PySem PySem.Spec PyProof.Rows L2
open PySem.W (findIn isFn subIn Looks looks_findIn looks_subIn InstAt)
/-- the type of what stands beside an instance of the class -/
inductive OtherT (C : Addr) (H : Hp) : V → Value → Prop where
  | own {x : V} (h : OwnV C H x) : OtherT C H x (.ref C)
  | int (i : Int) : OtherT C H (.int i) (.type "int")
  | non : OtherT C H .non (.type "NoneType")
  | str (z : Str) : OtherT C H (.str z) (.type "str")
  | lst {a : Addr} {xs : List V} (e : H a = some (.lst xs)) : OtherT C H (.ref a) (.type "list")
  | tup {a : Addr} {xs : List V} (e : H a = some (.tup xs)) : OtherT C H (.ref a) (.type "tuple")
section
variable {X : Cx} {C g f : Addr} {op : CmpOp} {CX : CXT} {k : Nat} {sp spr : Sp} {E : XK}
theorem looks_other {M : Model} {pins : List (Addr × Obj)} {σ : L2.St} {H : Hp} {s : Shared} {y : V} {u tb : Value} (I : Inv X pins σ H s) (ry : RelV y u) (h : OtherT C H y tb) : Looks M s.heap (typeOf u) tb := by
  cases h with
  | own h =>
    obtain ⟨a, d, fs, rfl, e⟩ := h
    obtain rfl : u = Value.ref a := ry
    obtain ⟨od, J⟩ := own_inst I e
    exact J.type
  | int i => obtain ⟨t, rfl⟩ : ∃ t, u = Value.int i t := ry; exact Looks.of_pure rfl
  | non => obtain rfl : u = Value.none := ry; exact Looks.of_pure rfl
  | str z => obtain ⟨t, rfl⟩ : ∃ t, u = Value.str z t := ry; exact Looks.of_pure rfl
  | @lst a xs e =>
    obtain rfl : u = Value.ref a := ry
    obtain ⟨_, its, n, _, ho⟩ := (show ObjOk X.prog X.w H s.heap a (.lst xs) from I.hok a _ e)
    exact fun A Q E s k q => wpAny_typeOf_ref (k _ _ ho) q
  | @tup a xs e =>
    obtain rfl : u = Value.ref a := ry
    obtain ⟨_, its, _, ob, ho, hc, _⟩ := (show ObjOk X.prog X.w H s.heap a (.tup xs) from I.hok a _ e)
    exact fun A Q E s k q => wpAny_typeOf_ref (k _ _ ho) (by rw [hc]; exact q)
def NotFirstB (K : PySem.W.Frag) (C : Addr) : Prop := subIn K (.type "int") (.ref C) = some false ∧ subIn K (.type "NoneType") (.ref C) = some false ∧ subIn K (.type "str") (.ref C) = some false ∧ subIn K (.type "list") (.ref C) = some false ∧ subIn K (.type "tuple") (.ref C) = some false
theorem nf_of {K : PySem.W.Frag} {H : Hp} {y : V} {tb : Value} (n : NotFirstB K C) (h : OtherT C H y tb) : PySem.W.notFirst K C tb = true := by
  obtain ⟨h1, h2, h3, h4, h5⟩ := n
  unfold PySem.W.notFirst
  cases h with
  | own h => simp
  | int i => rw [h1]; rfl
  | non => rw [h2]; rfl
  | str z => rw [h3]; rfl
  | lst e => rw [h4]; rfl
  | tup e => rw [h5]; rfl
structure CmpOk2 (P : Program) (w : World) (K : PySem.W.Frag) (mg : Str → Option Value) (base : Heap) (C : Addr) (nm : Str) (CX : CXT) (k : Nat) (sp : Sp) : Prop where
  ex : ∃ (g : Addr) (fd : FuncData) (ps : List Str), findIn K (.ref C) nm = some (some (.ref g)) ∧ isFn K (.ref g) = true ∧ FnOk P w K mg base CX k g fd ps sp ∧ Binds K fd ps []
  nf : NotFirstB K C
  sub1 : subIn K (.ref C) (.type "int") = some false
def rOwnY (C : Addr) (sp : Sp) (E : XK) : R2 := fun x y H Q => OwnV C H x ∧ (∃ tb, OtherT C H y tb) ∧ sp [x, y] H Q E
def rIntY (C : Addr) (spr : Sp) (E : XK) : R2 := fun x y H Q => (∃ i, x = .int i) ∧ OwnV C H y ∧ spr [y, x] H Q E
theorem op_ownY (hop : ∀ a b, compareOp op a b = richCompare op a b) (B : CmpOk2 X.prog X.w X.K X.mg X.base C (cmpInfo op).2.1 CX k sp) (hr : Room k X.A) (hx : ∀ σ, PassesAt CX X σ E) : OpR X (compareOp op) (rOwnY C sp E) := by
  intro pins s σ H x y v u Q I rx ry q
  obtain ⟨⟨a, dx, fs, ex, ha⟩, ⟨tb, ho⟩, h⟩ := q
  subst ex
  obtain rfl : v = Value.ref a := rx
  obtain ⟨g, fd, ps, hs, hf, F, b⟩ := B.ex
  obtain ⟨od, J⟩ := own_inst I ha
  obtain ⟨m, hF⟩ := I.fr
  rw [hop]
  exact PySem.W.cmp_K (tb := tb) hr.units0 hF I.ok.mod.kin J (looks_other I ry ho) (nf_of B.nf ho) hs hf (run_back F hr b (hx σ) I (vv2 (x := V.ref a) rfl ry) h)
theorem op_intY (hop : ∀ a b, compareOp op a b = richCompare op a b) (D : IntDec (cmpInfo op).2.1 (cmpInfo op).2.1) (B : CmpOk2 X.prog X.w X.K X.mg X.base C (cmpInfo op).2.2 CX k spr) (hr : Room k X.A) (hx : ∀ σ, PassesAt CX X σ E) : OpR X (compareOp op) (rIntY C spr E) := by
  intro pins s σ H x y v u Q I rx ry q
  obtain ⟨⟨i, ex⟩, ⟨a, dx, fs, ey, ha⟩, h⟩ := q
  subst ex ey
  obtain rfl : u = Value.ref a := ry
  obtain ⟨t, rfl⟩ : ∃ t, v = Value.int i t := rx
  obtain ⟨g, fd, ps, hs, hf, F, b⟩ := B.ex
  obtain ⟨od, J⟩ := own_inst I ha
  rw [hop]
  exact cmp_int_own hr.units0 I.kIn J D hs hf B.sub1 (run_back F hr b (hx σ) I (vv2 (x := V.ref a) (y := V.int i) rfl ⟨t, rfl⟩) h)
/-! != -/
structure NeOk (K : PySem.W.Frag) (C : Addr) : Prop where
  ne : findIn K (.ref C) "__ne__" = some (some (.builtin "object.__ne__"))
  mo : PySem.W.mroIn K C (.type "object") = some true
def rNeY (C : Addr) (sp : Sp) (E : XK) : R2 := fun x y H Q => OwnV C H x ∧ (∃ tb, OtherT C H y tb) ∧ sp [x, y] H (fun v H' => ∃ b, v = .bl b ∧ Q (.bl (!b)) H') E
def rNeI (C : Addr) (sp : Sp) (E : XK) : R2 := fun x y H Q => (∃ i, x = .int i) ∧ OwnV C H y ∧ sp [y, x] H (fun v H' => ∃ b, v = .bl b ∧ Q (.bl (!b)) H') E
theorem try_neV {pins : List (Addr × Obj)} {σ : L2.St} {H : Hp} {s : Shared} {a dx : Addr} {fs : List (Str × V)} {y : V} {u : Value} {Q : VK} (N : NeOk X.K C) (B : CmpOk2 X.prog X.w X.K X.mg X.base C "__eq__" CX k sp) (hr : Room (k + 1) X.A) (hx : PassesAt CX X σ E)
    (I : Inv X pins σ H s) (e : H a = some (.ins C dx fs)) (ry : RelV y u) (h : sp [.ref a, y] H (fun v H' => ∃ b, v = .bl b ∧ Q (.bl (!b)) H') E) :
    wpAny (model X.prog X.w) X.A (tryCompare (.ref a) "__ne__" u) (fun r s' => ∃ v, r = some v ∧ EP X pins σ Q v s') X.xe s := by
  obtain ⟨g, fd, ps, hs, hf, F, b⟩ := B.ex
  obtain ⟨od, J⟩ := own_inst I e
  refine try_ne (by have := hr.units; omega) I.kIn J N.ne N.mo hs hf (wpAny_mono (run_in1 F hr b hx I (vv2 (x := V.ref a) rfl ry) h) (fun v s' hv => ?_) fun _ _ e => e)
  obtain ⟨z, H', I', rz, bb, ez, q⟩ := hv
  subst ez
  obtain rfl : v = Value.bool bb := rz
  exact ⟨bb, rfl, _, rfl, .bl (!bb), H', I', rfl, q⟩
theorem op_neY (N : NeOk X.K C) (B : CmpOk2 X.prog X.w X.K X.mg X.base C "__eq__" CX k sp) (hr : Room (k + 1) X.A) (hx : ∀ σ, PassesAt CX X σ E) : OpR X (compareOp .NotEq) (rNeY C sp E) := by
  intro pins s σ H x y v u Q I rx ry q
  obtain ⟨⟨a, dx, fs, ex, ha⟩, ⟨tb, ho⟩, h⟩ := q
  subst ex
  obtain rfl : v = Value.ref a := rx
  have one := try_neV N B hr (hx σ) I ha ry h
  obtain ⟨od, J⟩ := own_inst I ha
  have nf := nf_of B.nf ho
  have Tb := looks_other (M := model X.prog X.w) I ry ho
  show wpAny _ _ (richCompare .NotEq (.ref a) u) _ _ _
  unfold richCompare
  simp only [oneThing_ref]
  refine wpAny_holding (wpAny_bind (wpAny_cRoomFor hr.units0 ?_))
  refine wpAny_bind (J.type.here (wpAny_bind (Tb.here ?_)))
  rw [cmpInfo_NotEq]
  dsimp only
  split
  · rename_i q
    have e : subIn X.K tb (.ref C) = some false := by
      unfold PySem.W.notFirst at nf
      rcases Bool.or_eq_true_iff.mp nf with z | z
      · rw [beq_iff_eq.mp z] at q
        simp at q
      · exact beq_iff_eq.mp z
    refine wpAny_bind ((looks_subIn I.kIn e).here ?_)
    simp only [Bool.false_eq_true, if_false]
    refine wpAny_bind (wpAny_mono one (fun r s' z => ?_) fun _ _ e => e)
    obtain ⟨v, rfl, hq⟩ := z
    exact wpAny_pure hq
  · refine wpAny_bind (wpAny_pure ?_)
    simp only [Bool.false_eq_true, if_false]
    refine wpAny_bind (wpAny_mono one (fun r s' z => ?_) fun _ _ e => e)
    obtain ⟨v, rfl, hq⟩ := z
    exact wpAny_pure hq
def icNe : IntDec (cmpInfo .NotEq).2.1 (cmpInfo .NotEq).2.1 := ⟨_, _, F.slot_int_ne, F.entry_int_ne, F.args_int_ne_2, dec_ne⟩
theorem op_neI (N : NeOk X.K C) (B : CmpOk2 X.prog X.w X.K X.mg X.base C "__eq__" CX k sp) (hr : Room (k + 1) X.A) (hx : ∀ σ, PassesAt CX X σ E) : OpR X (compareOp .NotEq) (rNeI C sp E) := by
  intro pins s σ H x y v u Q I rx ry q
  obtain ⟨⟨i, ex⟩, ⟨a, dx, fs, ey, ha⟩, h⟩ := q
  subst ex ey
  obtain rfl : u = Value.ref a := ry
  obtain ⟨t, rfl⟩ : ∃ t, v = Value.int i t := rx
  have two := try_neV (y := V.int i) N B hr (hx σ) I ha ⟨t, rfl⟩ h
  obtain ⟨od, J⟩ := own_inst I ha
  have decl : ∀ {Q' : Option Value → Shared → Prop}, Q' none s → wpAny (model X.prog X.w) X.A (tryCompare (.int i t) (cmpInfo .NotEq).2.1 (.ref a)) Q' X.xe s := fun {Q'} q =>
    wpAny_tryCompare_declines (typeIs_int s i t) icNe.slot (call_meets icNe.slot (typeIs_int s i t) icNe.entry (icNe.args _ _) (icNe.dec i t a C dx) ⟨J.at_, rfl, q⟩)
  rw [cmpInfo_NotEq] at decl
  have Sx : Looks (model X.prog X.w) s.heap (isSubtype (.ref C) (.type "int")) false := looks_subIn I.kIn B.sub1
  have hne : (Value.type "int" != Value.ref C) = true := by
    show (!(Value.type "int" == Value.ref C)) = true
    rw [show (Value.type "int" == Value.ref C) = false from Bool.eq_false_iff.mpr fun q => by cases beq_iff_eq.mp q]
    rfl
  show wpAny _ _ (richCompare .NotEq (.int i t) (.ref a)) _ _ _
  simp only [richCompare, cmpInfo_NotEq, (typeIs_int s i t).oneThing_none]
  refine wpAny_holding (wpAny_bind (wpAny_cRoomFor hr.units0 ?_))
  refine wpAny_bind (wpAny_typeOf (typeIs_int s i t) (wpAny_bind (J.type.here ?_)))
  simp only [hne, if_true]
  refine wpAny_bind (Sx.here ?_)
  simp only [Bool.false_eq_true, if_false, Bool.not_false, if_true]
  refine wpAny_bind (decl ?_)
  refine wpAny_bind (wpAny_mono two (fun r s' z => ?_) fun _ _ e => e)
  obtain ⟨v, rfl, hq⟩ := z
  exact wpAny_pure hq
end
end Pt
namespace Pt
open PySem PySem.Spec PyProof.Rows L2
open PySem.W (findIn isFn subIn selfFirst Looks looks_findIn looks_subIn looks_clsIn clsIn InstAt special_fn fills_K)
section
variable {X : Cx} {C g p : Addr} {mc : Value} {CX : CXT} {k : Nat} {sp : Sp} {m : Str} {fd : FuncData} {ps : List Str} {o e : Expr} {es : List Expr} {ta : TE} {t : TA} {pos apos : Pos}
/-- what a static method of the class at C is -/
structure SMet (K : PySem.W.Frag) (C : Addr) (mc : Value) (m : Str) (p g : Addr) : Prop where
  ty : PySem.W.typeIn K (.ref C) = some mc
  rd : PySem.W.readsIn K C mc = true
  ga : PySem.W.specialIn K (.ref C) "__getattribute__" = some (some (.builtin "type.__getattribute__"))
  at_ : PySem.W.findCls K (.ref C) mc m = some (.get (.builtin "staticmethod.__get__") (.ref p) .none (.ref C))
  rc : ∃ rest, PySem.W.recIn K p "staticmethod" = some (.ref g :: rest)
  hd : PySem.W.handedIn (.ref g) = true
  kp : PySem.W.keepIn K (.ref g) = true
def tSMeth (C : Addr) (sp : Sp) (E : L2.St → XK) (ta : TE) (t : TA) : TE := fun σ H Q => ta σ H fun x H1 => x = .ref C ∧ t σ H1 fun vs H2 => sp vs H2 Q (E σ)
/-- C.m(e, ..) of a static method -/
theorem pe_smeth {E : L2.St → XK} {pl : Sem Bool} (he : PE X o ta) (c : SMet X.K C mc m p g) (F : FnOk X.prog X.w X.K X.mg X.base CX k g fd ps sp) (hr : Room k X.A) (hb : Binds X.K fd ps []) (hx : ∀ σ, PassesAt CX X σ (E σ)) (ha : PA X (e :: es) t)
    (hst : starEach (e :: es) X.env = (false, eval e X.env) :: starEach es X.env := by rfl) (hpl : (backTo pos (starEach es X.env)).any (·.1) = false := by rfl)
    (ht : eval (.Call (.Attribute o m apos) (e :: es) [] pos) X.env = (do
      let ov ← eval o X.env
      standAt apos.atName
      let (f, first) ← holding [ov] (getMethod ov m pl)
      callWith pos f first (backTo pos (starEach (e :: es) X.env)) (backToKw pos (keywordEach [] X.env))) := by rfl) :
    PE X (.Call (.Attribute o m apos) (e :: es) [] pos) (tSMeth C sp E ta t) := by
  refine ⟨fun pins s σ H Q I h => ?_⟩
  refine PySem.W.methodCall_KW (pl := pl) (thn (he.run pins s σ H _ I h) fun u s1 hh => ?_) ht
  obtain ⟨x, H1, I1, rx, ex, q⟩ := hh
  subst ex
  obtain rfl : u = Value.ref C := rx
  obtain ⟨mm, hF⟩ := I1.fr
  obtain ⟨rest, hrec⟩ := c.rc
  refine PySem.W.method_cls I1.kIn c.ga (PySem.W.cls_sm hF I1.ok.mod.kin c.ty c.rd c.at_ hrec c.hd ?_)
  refine PySem.W.callWith_K (first := []) (h₀ := X.base) I1.ok.mod.kin c.kp (thn (ha.run pos pins _ σ H1 _ (I1.tok _) q) fun us s2 hh2 => ?_) hst hpl
  obtain ⟨vs, H2, I2, r, q2⟩ := hh2
  exact ⟨I2.kIn, run_fnS (us := us) (vs := vs) F hr hb (hx σ) I2 r q2⟩
/-- a ** 3 of an own class without a reflected method -/
structure PowOk (P : Program) (w : World) (K : PySem.W.Frag) (mg : Str → Option Value) (base : Heap) (C : Addr) (CX : CXT) (k : Nat) (sp : Sp) : Prop where
  ex : ∃ (g : Addr) (fd : FuncData) (ps : List Str), OwnBin K C .Pow g none ∧ FnOk P w K mg base CX k g fd ps sp ∧ Binds K fd ps []
def rPowO (C : Addr) (sp : Sp) (E : XK) : R2 := fun x y H Q => OwnV C H x ∧ (∃ j, y = .int j) ∧ sp [x, y] H Q E
theorem bin1_own_intP {K : PySem.W.Frag} {prog : Program} {w : World} {A : Around} {E : Value → Shared → Prop} {s : Shared} {x : Addr} {ox : Obj} {od : Option Obj} {i : Int} {t : Tok} {Q : Value → Shared → Prop} (X : K.In s.heap) (I : InstAt s.heap x ox C od) (T : OwnBin K C .Pow g none)
    (h : wpAny (model prog w) A (call (.ref g) [.ref x, .int i t]) (PySem.W.CmpBack Q) E s) : wpAny (model prog w) A (binaryOp1 Operator.Pow.info.2 (.ref x) (.int i t)) (Gets Q) E s := by
  obtain ⟨cd, rest, hcd, hm⟩ := PySem.W.ksp_first T.first
  have hs := T.here
  have hr := T.refl
  have hp : (none : Option Value) = none ∨ ∃ f : Addr, (none : Option Value) = some (.ref f) := .inl rfl
  have hfi : fillsNumberSlot (.type "int") Operator.Pow.info.2 = pure true := F.fills_int_pow
  have hro : ∃ ro, typeLookup (.type "int") (dunderR Operator.Pow.info.2) = pure ro := ⟨_, F.slot_int_rpow.lookup⟩
  obtain ⟨ro, hro⟩ := hro
  generalize Operator.Pow.info.2 = nm' at hs hr hfi hro
  have one := PySem.W.ksp_try X I hs T.fn h
  obtain ⟨hh, g', d, tt, os⟩ := s
  have Ta : Looks (model prog w) hh (typeOf (.ref x)) (.ref C) := I.type
  have Tb : Looks (model prog w) hh (typeOf (.int i t)) (.type "int") := Looks.of_pure rfl
  have Fa : Looks (model prog w) hh (fillsNumberSlot (.ref C) nm') true := fills_K X hcd hm hs
  have Fb : Looks (model prog w) hh (fillsNumberSlot (.type "int") nm') true := Looks.of_pure hfi
  have Sb : Looks (model prog w) hh (isSubtype (.type "int") (.ref C)) false := looks_subIn X T.sub2
  have Pa : Looks (model prog w) hh (numberSlotInPython (.ref C) nm') true := PySem.W.ksp_inPy X hs hr hp
  have Pb : Looks (model prog w) hh (numberSlotInPython (.type "int") nm') false := Looks.of_pure rfl
  have Rb : Looks (model prog w) hh (typeLookup (.type "int") (dunderR nm')) ro := Looks.of_pure hro
  have hne : (Value.ref C == Value.type "int") = false := Bool.eq_false_iff.mpr fun q => by cases beq_iff_eq.mp q
  unfold binaryOp1
  refine wpAny_bind (Ta.at (wpAny_bind (Tb.at (wpAny_bind (Fa.at ?_)))))
  simp only [hne, Bool.false_eq_true, if_false]
  refine wpAny_bind (Fb.at ?_)
  simp only [Bool.and_self, if_true]
  refine wpAny_bind (Sb.at ?_)
  simp only [Bool.false_eq_true, if_false, pure_bind, Bool.not_false, Bool.and_self, if_true]
  refine wpAny_bind (Pa.at ?_)
  simp only [if_true]
  refine wpAny_bind (Pb.at ?_)
  simp only [Bool.not_false, if_true]
  refine wpAny_bind (Rb.at ?_)
  refine wpAny_bind (wpAny_mono one (fun r s' hr' => ?_) fun _ _ e => e)
  obtain ⟨v, rfl, hq⟩ := hr'
  exact wpAny_pure ⟨v, rfl, hq⟩
theorem pe_pow {a b : Expr} {ta tb : TE} {E : L2.St → XK} (B : PowOk X.prog X.w X.K X.mg X.base C CX k sp) (hr : Room k X.A) (hx : ∀ σ, PassesAt CX X σ (E σ)) (ha : PE X a ta) (hb : PE X b tb) :
    PE X (.BinOp a .Pow b pos) (fun σ H Q => ta σ H fun x H1 => tb σ H1 fun y H2 => rPowO C sp (E σ) x y H2 Q) := by
  refine ⟨fun pins s σ H Q I h => ?_⟩
  refine wpAny_BinOp (binT ha hb (R := fun x y H2 => rPowO C sp (E σ) x y H2 Q) I h fun v u s2 x y H2 I2 rx ry q => ?_)
  obtain ⟨⟨a, dx, fs, rfl, he⟩, ⟨j, rfl⟩, q⟩ := q
  obtain ⟨g, fd, ps, T, F, bb⟩ := B.ex
  obtain rfl : v = Value.ref a := rx
  obtain ⟨t, rfl⟩ : ∃ t, u = Value.int j t := ry
  obtain ⟨od, J⟩ := own_inst I2 he
  exact bin_of1 (bin1_own_intP I2.kIn J T (run_back F hr bb (hx σ) I2 (vv2 (x := V.ref a) (y := V.int j) rfl ⟨t, rfl⟩) q))
end
end Pt
namespace Pu
open PySem PySem.Spec L2
/-! ## data, without the heap -/
inductive D where
  | non | bl (b : Bool) | int (i : Int) | str (x : Str) | val (v : V) | law
  | lst (ds : List D) | tup (ds : List D) | ftp (ds : List D) | ins (c : Nat) (ds : List D) | dic (ks : List Key) (ds : List D)
/-- an exception: its class's number, its fields -/
structure Exn where
  c : Nat
  ds : List D
/-- classes by number, the names of their fields, the law's state (its list, the list of its cells), what no datum points at -/
structure Wd where
  CT : Nat → Addr
  lay : Nat → List Str
  L : Option (Addr × Addr)
  S : Addr → Prop
def Wd.at (W : Wd) (S : Addr → Prop) : Wd := { W with S := S }
/-- the law's state at s, its cells at l -/
def LSt (H : Hp) (s l : Addr) : Prop := ∃ (i n : Int) (cs : List Int), H s = some (.lst [.ref l, .int i, .int n]) ∧ H l = some (.lst (cs.map V.int)) ∧ 0 < cs.length ∧ cs.length ≤ 64
def nL (L : Option (Addr × Addr)) (a : Addr) : Prop := ∀ s l, L = some (s, l) → a ≠ s ∧ a ≠ l
mutual
def Rep (W : Wd) (H : Hp) : D → V → Prop
  | .non, v => v = .non
  | .bl b, v => v = .bl b
  | .int i, v => v = .int i
  | .str x, v => v = .str x
  | .val u, v => v = u
  | .law, v => ∃ s l, W.L = some (s, l) ∧ v = .ref s
  | .lst ds, v => ∃ a vs, v = .ref a ∧ ¬ W.S a ∧ H a = some (.lst vs) ∧ Reps W H ds vs
  | .tup ds, v => ∃ a vs, v = .ref a ∧ ¬ W.S a ∧ Rd H a (.tup vs) ∧ Reps W H ds vs
  | .ftp ds, v => ∃ a vs o, v = .ref a ∧ ¬ W.S a ∧ o.dict = none ∧ H a = some (.frz o (.tup vs)) ∧ Reps W H ds vs
  | .ins c ds, v => ∃ a dx vs, v = .ref a ∧ ¬ W.S a ∧ H a = some (.ins (W.CT c) dx ((W.lay c).zip vs)) ∧ vs.length = (W.lay c).length ∧ Reps W H ds vs
  | .dic ks ds, v => ∃ a vs, v = .ref a ∧ ¬ W.S a ∧ H a = some (.dK (ks.zip vs)) ∧ vs.length = ks.length ∧ Reps W H ds vs
def Reps (W : Wd) (H : Hp) : List D → List V → Prop
  | [], vs => vs = []
  | d :: ds, vs => ∃ v r, vs = v :: r ∧ Rep W H d v ∧ Reps W H ds r
end
structure WOk (W : Wd) (H : Hp) : Prop where
  law : ∀ s l, W.L = some (s, l) → LSt H s l ∧ W.S s ∧ W.S l
  dom : ∀ a, W.S a → ∃ o, H a = some o
/-- all but the law's state is kept -/
structure Fut (W : Wd) (H H' : Hp) : Prop where
  keep : ∀ a o, H a = some o → nL W.L a → H' a = some o
  law : ∀ s l, W.L = some (s, l) → LSt H' s l
def FutL (L : Option (Addr × Addr)) (H H' : Hp) : Prop := ∀ a o, H a = some o → nL L a → H' a = some o
section
variable {W : Wd} {H H1 H2 : Hp}
theorem Fut.refl (w : WOk W H) : Fut W H H := ⟨fun _ _ e _ => e, fun s l e => (w.law s l e).1⟩
theorem Fut.trans (a : Fut W H H1) (b : Fut W H1 H2) : Fut W H H2 := ⟨fun c o e n => b.keep c o (a.keep c o e n) n, b.law⟩
theorem Fut.same (w : WOk W H) (s : Same H H1) : Fut W H H1 := ⟨fun c o e _ => s c o e, fun s' l e => by
  obtain ⟨⟨i, n, cs, e1, e2, r⟩, _⟩ := w.law s' l e
  exact ⟨i, n, cs, s _ _ e1, s _ _ e2, r⟩⟩
theorem Fut.at {S : Addr → Prop} (f : Fut W H H1) : Fut (W.at S) H H1 := ⟨f.keep, f.law⟩
theorem Fut.of_at {S : Addr → Prop} (f : Fut (W.at S) H H1) : Fut W H H1 := ⟨f.keep, f.law⟩
theorem WOk.fut (w : WOk W H) (f : Fut W H H1) : WOk W H1 := by
  refine ⟨fun s l e => ⟨f.law s l e, (w.law s l e).2⟩, fun a h => ?_⟩
  obtain ⟨o, e⟩ := w.dom a h
  by_cases q : nL W.L a
  · exact ⟨o, f.keep a o e q⟩
  · have : ∃ s l, W.L = some (s, l) ∧ (a = s ∨ a = l) := by
      apply Classical.byContradiction
      intro z
      refine q fun s l e' => ⟨fun z' => z ⟨s, l, e', .inl z'⟩, fun z' => z ⟨s, l, e', .inr z'⟩⟩
    obtain ⟨s, l, e', c⟩ := this
    obtain ⟨i, n, cs, e1, e2, _⟩ := f.law s l e'
    rcases c with rfl | rfl
    · exact ⟨_, e1⟩
    · exact ⟨_, e2⟩
theorem WOk.nl (w : WOk W H) {a : Addr} (h : ¬ W.S a) : nL W.L a := fun s l e => ⟨fun z => h (z ▸ (w.law s l e).2.1), fun z => h (z ▸ (w.law s l e).2.2)⟩
theorem WOk.new (w : WOk W H) {a : Addr} (h : H a = none) : ¬ W.S a := fun z => by
  obtain ⟨o, e⟩ := w.dom a z
  rw [h] at e
  cases e
mutual
/-- what is kept: a change of the heap, of what is known not to be pointed at -/
theorem Rep.mono {S : Addr → Prop} (k : ∀ a o, ¬ W.S a → H a = some o → H1 a = some o ∧ ¬ S a) : ∀ (d : D) (v : V), Rep W H d v → Rep (W.at S) H1 d v
  | .non, v, h => by simpa only [Rep] using h
  | .bl b, v, h => by simpa only [Rep] using h
  | .int i, v, h => by simpa only [Rep] using h
  | .str x, v, h => by simpa only [Rep] using h
  | .val u, v, h => by simpa only [Rep] using h
  | .law, v, h => by
    simp only [Rep] at h ⊢
    exact h
  | .lst ds, v, h => by
    simp only [Rep] at h ⊢
    obtain ⟨a, vs, e, n, q, r⟩ := h
    exact ⟨a, vs, e, (k a _ n q).2, (k a _ n q).1, Reps.mono k ds vs r⟩
  | .tup ds, v, h => by
    simp only [Rep] at h ⊢
    obtain ⟨a, vs, e, n, q, r⟩ := h
    refine ⟨a, vs, e, ?_, q.imp (fun q => (k a _ n q).1) (fun ⟨o, q⟩ => ⟨o, (k a _ n q).1⟩), Reps.mono k ds vs r⟩
    rcases q with q | ⟨o, q⟩
    · exact (k a _ n q).2
    · exact (k a _ n q).2
  | .ftp ds, v, h => by
    simp only [Rep] at h ⊢
    obtain ⟨a, vs, o, e, n, dn, q, r⟩ := h
    exact ⟨a, vs, o, e, (k a _ n q).2, dn, (k a _ n q).1, Reps.mono k ds vs r⟩
  | .ins c ds, v, h => by
    simp only [Rep] at h ⊢
    obtain ⟨a, dx, vs, e, n, q, l, r⟩ := h
    exact ⟨a, dx, vs, e, (k a _ n q).2, (k a _ n q).1, l, Reps.mono k ds vs r⟩
  | .dic ks ds, v, h => by
    simp only [Rep] at h ⊢
    obtain ⟨a, vs, e, n, q, l, r⟩ := h
    exact ⟨a, vs, e, (k a _ n q).2, (k a _ n q).1, l, Reps.mono k ds vs r⟩
theorem Reps.mono {S : Addr → Prop} (k : ∀ a o, ¬ W.S a → H a = some o → H1 a = some o ∧ ¬ S a) : ∀ (ds : List D) (vs : List V), Reps W H ds vs → Reps (W.at S) H1 ds vs
  | [], vs, h => by simpa only [Reps] using h
  | d :: ds, vs, h => by
    simp only [Reps] at h ⊢
    obtain ⟨v, r, e, h1, h2⟩ := h
    exact ⟨v, r, e, Rep.mono k d v h1, Reps.mono k ds r h2⟩
end
theorem Rep.thaw {ds : List D} {v : V} (h : Rep W H (.ftp ds) v) : Rep W H (.tup ds) v := by
  simp only [Rep] at h ⊢
  obtain ⟨a, vs, o, e, n, dn, q, r⟩ := h
  exact ⟨a, vs, e, n, .inr ⟨o, q⟩, r⟩
theorem Rep.fut {d : D} {v : V} (h : Rep W H d v) (w : WOk W H) (f : Fut W H H1) : Rep W H1 d v := Rep.mono (S := W.S) (fun a o n e => ⟨f.keep a o e (w.nl n), n⟩) d v h
theorem Reps.fut {d : List D} {v : List V} (h : Reps W H d v) (w : WOk W H) (f : Fut W H H1) : Reps W H1 d v := Reps.mono (S := W.S) (fun a o n e => ⟨f.keep a o e (w.nl n), n⟩) d v h
theorem Rep.sub {S : Addr → Prop} {d : D} {v : V} (h : Rep W H d v) (s : ∀ a, S a → W.S a) : Rep (W.at S) H d v := Rep.mono (fun a o n e => ⟨e, fun z => n (s a z)⟩) d v h
theorem Reps.sub {S : Addr → Prop} {d : List D} {v : List V} (h : Reps W H d v) (s : ∀ a, S a → W.S a) : Reps (W.at S) H d v := Reps.mono (fun a o n e => ⟨e, fun z => n (s a z)⟩) d v h
/-- a fresh place may be forbidden from now on -/
theorem Rep.ban {q : Addr} {d : D} {v : V} (h : Rep W H d v) (n : H q = none) : Rep (W.at fun a => W.S a ∨ a = q) H d v := Rep.mono (fun a o m e => ⟨e, fun z => z.elim m fun z => by rw [z, n] at e; cases e⟩) d v h
theorem Reps.ban {q : Addr} {d : List D} {v : List V} (h : Reps W H d v) (n : H q = none) : Reps (W.at fun a => W.S a ∨ a = q) H d v := Reps.mono (fun a o m e => ⟨e, fun z => z.elim m fun z => by rw [z, n] at e; cases e⟩) d v h
theorem Reps.len : ∀ {ds : List D} {vs : List V}, Reps W H ds vs → vs.length = ds.length
  | [], vs, h => by simp only [Reps] at h; rw [h] <;> rfl
  | d :: ds, vs, h => by
    simp only [Reps] at h
    obtain ⟨v, r, rfl, _, h2⟩ := h
    rw [List.length_cons, List.length_cons, Reps.len h2]
theorem Reps.get : ∀ {ds : List D} {vs : List V} {i : Nat} {d : D}, Reps W H ds vs → ds[i]? = some d → ∃ v, vs[i]? = some v ∧ Rep W H d v
  | [], vs, i, d, h, e => by cases i <;> cases e
  | d :: ds, vs, 0, d', h, e => by
    simp only [Reps] at h
    obtain ⟨v, r, rfl, h1, h2⟩ := h
    cases e
    exact ⟨v, rfl, h1⟩
  | d :: ds, vs, i + 1, d', h, e => by
    simp only [Reps] at h
    obtain ⟨v, r, rfl, h1, h2⟩ := h
    have e' : ds[i]? = some d' := by simpa using e
    obtain ⟨u, q1, q2⟩ := Reps.get (i := i) h2 e'
    exact ⟨u, by simpa using q1, q2⟩
theorem Reps.get' : ∀ {ds : List D} {vs : List V} {i : Nat} {v : V}, Reps W H ds vs → vs[i]? = some v → ∃ d, ds[i]? = some d ∧ Rep W H d v
  | [], vs, i, v, h, e => by simp only [Reps] at h; subst h; cases i <;> cases e
  | d :: ds, vs, 0, v', h, e => by
    simp only [Reps] at h
    obtain ⟨v, r, rfl, h1, h2⟩ := h
    cases e
    exact ⟨d, rfl, h1⟩
  | d :: ds, vs, i + 1, v', h, e => by
    simp only [Reps] at h
    obtain ⟨v, r, rfl, h1, h2⟩ := h
    have e' : r[i]? = some v' := by simpa using e
    obtain ⟨u, q1, q2⟩ := Reps.get' (i := i) h2 e'
    exact ⟨u, by simpa using q1, q2⟩
theorem Reps.nil : Reps W H [] [] := by simp only [Reps]
theorem Reps.cons {d : D} {v : V} {ds : List D} {vs : List V} (h : Rep W H d v) (r : Reps W H ds vs) : Reps W H (d :: ds) (v :: vs) := by
  simp only [Reps]
  exact ⟨v, vs, rfl, h, r⟩
theorem Reps.app : ∀ {ds es : List D} {vs us : List V}, Reps W H ds vs → Reps W H es us → Reps W H (ds ++ es) (vs ++ us)
  | [], es, vs, us, h, r => by simp only [Reps] at h; subst h; exact r
  | d :: ds, es, vs, us, h, r => by
    simp only [Reps] at h
    obtain ⟨v, t, rfl, h1, h2⟩ := h
    exact Reps.cons h1 (Reps.app h2 r)
theorem Reps.take (n : Nat) : ∀ {ds : List D} {vs : List V}, Reps W H ds vs → Reps W H (ds.take n) (vs.take n) := by
  induction n with
  | zero => intro ds vs h; simp only [List.take_zero]; exact Reps.nil
  | succ n ih =>
    intro ds vs h
    cases ds with
    | nil => simp only [Reps] at h; subst h; simp only [List.take_nil]; exact Reps.nil
    | cons d ds =>
      simp only [Reps] at h
      obtain ⟨v, t, rfl, h1, h2⟩ := h
      exact Reps.cons h1 (ih h2)
theorem Reps.drop (n : Nat) : ∀ {ds : List D} {vs : List V}, Reps W H ds vs → Reps W H (ds.drop n) (vs.drop n) := by
  induction n with
  | zero => intro ds vs h; exact h
  | succ n ih =>
    intro ds vs h
    cases ds with
    | nil => simp only [Reps] at h; subst h; exact Reps.nil
    | cons d ds =>
      simp only [Reps] at h
      obtain ⟨v, t, rfl, h1, h2⟩ := h
      exact ih h2
theorem Reps.set {d : D} {v : V} (r : Rep W H d v) : ∀ (i : Nat) {ds : List D} {vs : List V}, Reps W H ds vs → Reps W H (ds.set i d) (vs.set i v)
  | i, [], vs, h => by simp only [Reps] at h; subst h; exact Reps.nil
  | 0, d' :: ds, vs, h => by
    simp only [Reps] at h
    obtain ⟨v', t, rfl, h1, h2⟩ := h
    exact Reps.cons r h2
  | i + 1, d' :: ds, vs, h => by
    simp only [Reps] at h
    obtain ⟨v', t, rfl, h1, h2⟩ := h
    exact Reps.cons h1 (Reps.set r i h2)
end
def ExOk (W : Wd) (H : Hp) (ex : Exn) (cls : Value) (dd : Option Addr) : Prop :=
  cls = .ref (W.CT ex.c) ∧ ex.ds.length = (W.lay ex.c).length ∧ ((dd = none ∧ ex.ds = []) ∨ ∃ d fs, dd = some d ∧ ¬ W.S d ∧ H d = some (.xd fs) ∧ ∀ (i : Nat) (f : Str) (x : D), (W.lay ex.c)[i]? = some f → ex.ds[i]? = some x → ∃ v, fs.lookup f = some v ∧ Rep W H x v)
theorem ExOk.mono {W : Wd} {H H1 : Hp} {S : Addr → Prop} {ex : Exn} {cls : Value} {dd : Option Addr} (k : ∀ a o, ¬ W.S a → H a = some o → H1 a = some o ∧ ¬ S a) (h : ExOk W H ex cls dd) : ExOk (W.at S) H1 ex cls dd := by
  obtain ⟨h1, h2, h3⟩ := h
  refine ⟨h1, h2, h3.imp id ?_⟩
  rintro ⟨d, fs, e, n, q, r⟩
  refine ⟨d, fs, e, (k d _ n q).2, (k d _ n q).1, fun i g x e1 e2 => ?_⟩
  obtain ⟨v, l, r'⟩ := r i g x e1 e2
  exact ⟨v, l, Rep.mono k x v r'⟩
theorem ExOk.fut {W : Wd} {H H' : Hp} {ex : Exn} {cls : Value} {dd : Option Addr} (h : ExOk W H ex cls dd) (w : WOk W H) (f : Fut W H H') : ExOk W H' ex cls dd :=
  ExOk.mono (S := W.S) (fun a o n e => ⟨f.keep a o e (w.nl n), n⟩) h
end Pu
namespace Pu
open PySem PySem.Spec L2
/-! ## slots, the state of a body -/
inductive Sl where
  | no | d (d : D) | own (ds : List D) | obj (c : Nat) (ds : List D) | exc (c : Nat) (ds : List D)
def Sl.isOwn : Sl → Bool
  | .own _ => true
  | .obj _ _ => true
  | _ => false
/-- the entry: the world there, the heap there -/
structure Bs where
  W : Wd
  H0 : Hp
  cur : Option (Addr × Value × Option Addr) := none
  me : Option Addr := none
def SlOk (B : Bs) (S : Addr → Prop) (H : Hp) : Sl → Option V → Prop
  | .no, _ => True
  | .d d, o => ∃ v, o = some v ∧ Rep (B.W.at S) H d v
  | .own ds, o => ∃ q vs, o = some (.ref q) ∧ S q ∧ ¬ B.W.S q ∧ nL B.W.L q ∧ H q = some (.lst vs) ∧ Reps (B.W.at S) H ds vs
  | .obj c ds, o => ∃ q dx vs, o = some (.ref q) ∧ B.me = some q ∧ S q ∧ ¬ B.W.S q ∧ nL B.W.L q ∧ H q = some (.ins (B.W.CT c) dx ((B.W.lay c).zip vs)) ∧ vs.length ≤ (B.W.lay c).length ∧ Reps (B.W.at S) H ds vs
  | .exc c ds, o => ∃ a cls dd, B.cur = some (a, cls, dd) ∧ o = some (.ref a) ∧ ExOk (B.W.at S) H ⟨c, ds⟩ cls dd
structure Ok (B : Bs) (S : Addr → Prop) (σ : L2.St) (H : Hp) (G : List Sl) : Prop where
  wok : WOk (B.W.at S) H
  ext : ∀ a o, B.H0 a = some o → nL B.W.L a → H a = some o
  sub : ∀ a, B.W.S a → S a
  new : ∀ a, S a → B.W.S a ∨ B.H0 a = none
  len : σ.length = G.length
  lw : ∀ s l, B.W.L = some (s, l) → B.W.S s ∧ B.W.S l
  sl : ∀ (i : Nat) (g : Sl) (o : Option V), G[i]? = some g → σ[i]? = some o → SlOk B S H g o
  inj : ∀ (i j : Nat) (g g' : Sl) (q : Addr), G[i]? = some g → G[j]? = some g' → g.isOwn = true → g'.isOwn = true → σ[i]? = some (some (.ref q)) → σ[j]? = some (some (.ref q)) → i = j
section
variable {B : Bs} {S S' : Addr → Prop} {σ : L2.St} {H H' : Hp} {G : List Sl}
theorem SlOk.mono {g : Sl} {o : Option V} (k : ∀ a u, ¬ S a → H a = some u → H' a = some u ∧ ¬ S' a) (s : ∀ a, S a → S' a) (ow : ∀ q u, g.isOwn = true → o = some (.ref q) → ¬ B.W.S q → nL B.W.L q → H q = some u → H' q = some u) (h : SlOk B S H g o) : SlOk B S' H' g o := by
  cases g with
  | no => trivial
  | d d =>
    obtain ⟨v, e, r⟩ := h
    exact ⟨v, e, Rep.mono (W := B.W.at S) (S := S') k d v r⟩
  | own ds =>
    obtain ⟨q, vs, e, h1, h2, h3, h4, h5⟩ := h
    exact ⟨q, vs, e, s _ h1, h2, h3, ow q _ rfl e h2 h3 h4, Reps.mono (W := B.W.at S) (S := S') k ds vs h5⟩
  | obj c ds =>
    obtain ⟨q, dx, vs, e, me, h1, h2, h3, h4, h6, h5⟩ := h
    exact ⟨q, dx, vs, e, me, s _ h1, h2, h3, ow q _ rfl e h2 h3 h4, h6, Reps.mono (W := B.W.at S) (S := S') k ds vs h5⟩
  | exc c ds =>
    obtain ⟨a, cls, dd, h1, h2, h3⟩ := h
    exact ⟨a, cls, dd, h1, h2, ExOk.mono (W := B.W.at S) (S := S') k h3⟩
/-- an expression was evaluated -/
theorem Ok.fut (O : Ok B S σ H G) (f : Fut (B.W.at S) H H') : Ok B S σ H' G where
  wok := O.wok.fut f
  ext := fun a o e n => f.keep a o (O.ext a o e n) n
  sub := O.sub
  new := O.new
  len := O.len
  lw := O.lw
  sl := fun i g o e1 e2 => (O.sl i g o e1 e2).mono (fun a u n e => ⟨f.keep a u e (O.wok.nl n), n⟩) (fun _ z => z) fun q u _ _ _ n e => f.keep q u e n
  inj := O.inj
theorem Ok.get (O : Ok B S σ H G) {i : Nat} {g : Sl} (e : G[i]? = some g) : ∃ o, σ[i]? = some o ∧ SlOk B S H g o := by
  have h : i < σ.length := by rw [O.len]; exact (List.getElem?_eq_some_iff.mp e).1
  exact ⟨σ[i], List.getElem?_eq_getElem h, O.sl i g _ e (List.getElem?_eq_getElem h)⟩
/-- a name is stored -/
theorem Ok.put (O : Ok B S σ H G) (i : Nat) {g : Sl} {o : Option V} (hg : g.isOwn = false) (h : SlOk B S H g o) : Ok B S (σ.set i o) H (G.set i g) where
  wok := O.wok
  ext := O.ext
  sub := O.sub
  new := O.new
  len := by rw [List.length_set, List.length_set]; exact O.len
  lw := O.lw
  sl := fun j g' o' e1 e2 => by
    by_cases hj : i = j
    · subst hj
      rw [List.getElem?_set] at e1 e2
      rw [if_pos rfl] at e1 e2
      split at e1
      · split at e2
        · cases e1
          cases e2
          exact h
        · cases e2
      · cases e1
    · rw [List.getElem?_set_ne hj] at e1 e2
      exact O.sl j g' o' e1 e2
  inj := fun j k g1 g2 q e1 e2 h1 h2 e3 e4 => by
    have nj : ∀ {m : Nat} {g' : Sl}, (G.set i g)[m]? = some g' → g'.isOwn = true → i ≠ m := fun {m g'} e z y => by
      subst y
      rw [List.getElem?_set] at e
      rw [if_pos rfl] at e
      split at e
      · cases e
        rw [hg] at z
        cases z
      · cases e
    rw [List.getElem?_set_ne (nj e1 h1)] at e3
    rw [List.getElem?_set_ne (nj e2 h2)] at e4
    have m1 := nj e1 h1
    have m2 := nj e2 h2
    rw [List.getElem?_set_ne m1] at e1
    rw [List.getElem?_set_ne m2] at e2
    exact O.inj j k g1 g2 q e1 e2 h1 h2 e3 e4
theorem Ok.set (O : Ok B S σ H G) (i : Nat) {d : D} {v : V} (r : Rep (B.W.at S) H d v) : Ok B S (σ.set i (some v)) H (G.set i (.d d)) := O.put i rfl ⟨v, rfl, r⟩
theorem Ok.drop (O : Ok B S σ H G) (i : Nat) (o : Option V) : Ok B S (σ.set i o) H (G.set i .no) := O.put i (o := o) rfl trivial
/-- a slot forgotten (the value stays) -/
theorem set_self {α : Type} {l : List α} {i : Nat} {x : α} (e : l[i]? = some x) : l.set i x = l := by
  obtain ⟨h, e'⟩ := List.getElem?_eq_some_iff.mp e
  rw [← e']
  exact List.set_getElem_self h
theorem Ok.forget (O : Ok B S σ H G) (i : Nat) : Ok B S σ H (G.set i .no) := by
  by_cases h : i < σ.length
  · have e := List.getElem?_eq_getElem h
    have := O.drop i σ[i]
    rwa [set_self e] at this
  · have : G.set i .no = G := List.set_eq_of_length_le (by rw [← O.len]; omega)
    rw [this]
    exact O
/-- an own list (object) is from now on a datum -/
theorem Ok.thaw (O : Ok B S σ H G) {i : Nat} {ds : List D} (e : G[i]? = some (.own ds)) : ∃ q, S q ∧ Ok B (fun a => S a ∧ a ≠ q) σ H (G.set i (.d (.lst ds))) := by
  obtain ⟨o, eo, q, vs, rfl, h1, h2, h3, h4, h5⟩ := O.get e
  refine ⟨q, h1, ?_⟩
  have hi : i < G.length := (List.getElem?_eq_some_iff.mp e).1
  refine ⟨⟨fun s l z => ?_, fun a h => O.wok.dom a h.1⟩, O.ext, fun a h => ⟨O.sub a h, fun z => h2 (z ▸ h)⟩, fun a h => O.new a h.1, by rw [List.length_set]; exact O.len, O.lw, fun j g o e1 e2 => ?_, fun j k g1 g2 p e1 e2 n1 n2 e3 e4 => ?_⟩
  · obtain ⟨z1, z2, z3⟩ := O.wok.law s l z
    obtain ⟨n1, n2⟩ := h3 s l z
    exact ⟨z1, ⟨z2, Ne.symm n1⟩, ⟨z3, Ne.symm n2⟩⟩
  · by_cases hj : i = j
    · subst hj
      rw [List.getElem?_set_self hi] at e1
      cases e1
      rw [eo] at e2
      cases e2
      refine ⟨_, rfl, ?_⟩
      simp only [Rep]
      exact ⟨q, vs, rfl, fun z => z.2 rfl, h4, Reps.mono (W := B.W.at S) (fun a u n z => ⟨z, fun w => n w.1⟩) ds vs h5⟩
    · rw [List.getElem?_set_ne hj] at e1
      have base := O.sl j g o e1 e2
      cases g with
      | no => trivial
      | d d =>
        obtain ⟨v, e', r⟩ := base
        exact ⟨v, e', Rep.mono (W := B.W.at S) (fun a u n z => ⟨z, fun w => n w.1⟩) d v r⟩
      | own ds' =>
        obtain ⟨q', vs', e', k1, k2, k3, k4, k5⟩ := base
        subst e'
        refine ⟨q', vs', rfl, ⟨k1, fun z => hj ?_⟩, k2, k3, k4, Reps.mono (W := B.W.at S) (fun a u n z => ⟨z, fun w => n w.1⟩) ds' vs' k5⟩
        subst z
        exact O.inj i j _ _ _ e e1 rfl rfl eo e2
      | obj c ds' =>
        obtain ⟨q', dx', vs', e', me, k1, k2, k3, k4, k6, k5⟩ := base
        subst e'
        refine ⟨q', dx', vs', rfl, me, ⟨k1, fun z => hj ?_⟩, k2, k3, k4, k6, Reps.mono (W := B.W.at S) (fun a u n z => ⟨z, fun w => n w.1⟩) ds' vs' k5⟩
        subst z
        exact O.inj i j _ _ _ e e1 rfl rfl eo e2
      | exc c ds' =>
        obtain ⟨a', cls, dd, k1, k2, k3⟩ := base
        exact ⟨a', cls, dd, k1, k2, ExOk.mono (W := B.W.at S) (fun a u n z => ⟨z, fun w => n w.1⟩) k3⟩
  · have nj : ∀ {m : Nat} {g' : Sl}, (G.set i (.d (.lst ds)))[m]? = some g' → g'.isOwn = true → i ≠ m := fun {m g'} e z y => by
      subst y
      rw [List.getElem?_set_self hi] at e
      cases e
      cases z
    have m1 := nj e1 n1
    have m2 := nj e2 n2
    rw [List.getElem?_set_ne m1] at e1
    rw [List.getElem?_set_ne m2] at e2
    exact O.inj j k g1 g2 p e1 e2 n1 n2 e3 e4
/-- a new own thing stands at q, and its name is stored -/
theorem Ok.keep (O : Ok B S σ H G) (i : Nat) {q : Addr} {g : Sl} (hq : H q = none) (sm : ∀ a o, H a = some o → nL B.W.L a → H' a = some o) (lw : ∀ s l, B.W.L = some (s, l) → LSt H' s l) (hd : ∃ o, H' q = some o)
    (hn : nL B.W.L q) (h : SlOk B (fun a => S a ∨ a = q) H' g (some (.ref q))) : Ok B (fun a => S a ∨ a = q) (σ.set i (some (.ref q))) H' (G.set i g) := by
  have k : ∀ a u, ¬ S a → H a = some u → H' a = some u ∧ ¬ (S a ∨ a = q) := fun a u n e => ⟨sm a u e (O.wok.nl n), fun z => z.elim n fun z => by rw [z, hq] at e; cases e⟩
  have F : Fut (B.W.at S) H H' := ⟨sm, lw⟩
  have neq : ∀ {a : Addr}, S a → a ≠ q := fun {a} h z => by
    obtain ⟨o, e⟩ := O.wok.dom a h
    rw [z, hq] at e
    cases e
  refine ⟨⟨fun s l e => ⟨lw s l e, .inl (O.wok.law s l e).2.1, .inl (O.wok.law s l e).2.2⟩, fun a h => ?_⟩, fun a o e n => sm a o (O.ext a o e n) n, fun a h => .inl (O.sub a h), fun a h => ?_, by rw [List.length_set, List.length_set]; exact O.len, O.lw, fun j g' o e1 e2 => ?_, fun j k' g1 g2 p e1 e2 n1 n2 e3 e4 => ?_⟩
  · rcases h with h | h
    · exact (O.wok.fut F).dom a h
    · rw [h]
      exact hd
  · rcases h with h | h
    · exact O.new a h
    · refine .inr ?_
      cases e : B.H0 a with
      | none => rfl
      | some o =>
        have := O.ext a o e (by rw [h]; exact hn)
        rw [h, hq] at this
        cases this
  · by_cases hj : i = j
    · subst hj
      rw [List.getElem?_set] at e1 e2
      rw [if_pos rfl] at e1 e2
      split at e1
      · split at e2
        · cases e1
          cases e2
          exact h
        · cases e2
      · cases e1
    · rw [List.getElem?_set_ne hj] at e1 e2
      exact (O.sl j g' o e1 e2).mono k (fun _ z => .inl z) fun q' u _ _ _ n e => sm q' u e n
  · have old : ∀ {m : Nat} {g' : Sl}, i ≠ m → (G.set i g)[m]? = some g' → g'.isOwn = true → (σ.set i (some (.ref q)))[m]? = some (some (.ref p)) → p ≠ q ∧ G[m]? = some g' ∧ σ[m]? = some (some (.ref p)) := fun {m g'} nm f1 f2 f3 => by
      rw [List.getElem?_set_ne nm] at f1 f3
      refine ⟨?_, f1, f3⟩
      have base := O.sl m g' _ f1 f3
      cases g' with
      | no => cases f2
      | d d => cases f2
      | own ds' =>
        obtain ⟨q', vs', e', k1, _⟩ := base
        cases e'
        exact neq k1
      | obj c ds' =>
        obtain ⟨q', dx', vs', e', _, k1, _⟩ := base
        cases e'
        exact neq k1
      | exc c ds' => cases f2
    have isq : ∀ {m : Nat} {g' : Sl}, i = m → (G.set i g)[m]? = some g' → (σ.set i (some (.ref q)))[m]? = some (some (.ref p)) → p = q := fun {m g'} nm f1 f3 => by
      subst nm
      rw [List.getElem?_set] at f3
      rw [if_pos rfl] at f3
      split at f3
      · cases f3
        rfl
      · cases f3
    by_cases h1 : i = j
    · by_cases h2 : i = k'
      · exact h1.symm.trans h2
      · exact absurd (isq h1 e1 e3) (old h2 e2 n2 e4).1
    · by_cases h2 : i = k'
      · exact absurd (isq h2 e2 e4) (old h1 e1 n1 e3).1
      · obtain ⟨_, a1, a2⟩ := old h1 e1 n1 e3
        obtain ⟨_, b1, b2⟩ := old h2 e2 n2 e4
        exact O.inj j k' g1 g2 p a1 b1 n1 n2 a2 b2
/-- the own thing at slot i has changed -/
theorem Ok.turn (O : Ok B S σ H G) {i : Nat} {q : Addr} {g g' : Sl} {u : HO} (e : G[i]? = some g) (ow : g.isOwn = true) (es : σ[i]? = some (some (.ref q))) (h : SlOk B S (upd H q u) g' (some (.ref q))) (ow' : g'.isOwn = true) : Ok B S σ (upd H q u) (G.set i g') := by
  have hi : i < G.length := (List.getElem?_eq_some_iff.mp e).1
  have base := O.sl i g _ e es
  obtain ⟨sq, n0, nl⟩ : S q ∧ ¬ B.W.S q ∧ nL B.W.L q := by
    cases g with
    | no => cases ow
    | d d => cases ow
    | own ds' =>
      obtain ⟨q', vs', e', k1, k2, k3, _⟩ := base
      cases e'
      exact ⟨k1, k2, k3⟩
    | obj c ds' =>
      obtain ⟨q', dx', vs', e', _, k1, k2, k3, _⟩ := base
      cases e'
      exact ⟨k1, k2, k3⟩
    | exc c ds' => cases ow
  have k : ∀ a w, ¬ S a → H a = some w → upd H q u a = some w ∧ ¬ S a := fun a w n z => ⟨by rw [upd_ne (show a ≠ q from fun y => n (by rw [y]; exact sq))]; exact z, n⟩
  refine ⟨⟨fun s l z => ?_, fun a h => ?_⟩, fun a o z n => ?_, O.sub, O.new, by rw [List.length_set]; exact O.len, O.lw, fun j g1 o e1 e2 => ?_, fun j k' g1 g2 p e1 e2 n1 n2 e3 e4 => ?_⟩
  · obtain ⟨⟨i', n', cs, z1, z2, z3⟩, z4⟩ := O.wok.law s l z
    obtain ⟨m1, m2⟩ := nl s l z
    exact ⟨⟨i', n', cs, by rw [upd_ne (Ne.symm m1)]; exact z1, by rw [upd_ne (Ne.symm m2)]; exact z2, z3⟩, z4⟩
  · by_cases ha : a = q
    · rw [ha, upd_same]
      exact ⟨_, rfl⟩
    · rw [upd_ne ha]
      exact O.wok.dom a h
  · have : a ≠ q := fun y => by
      rcases O.new q sq with w | w
      · exact n0 w
      · rw [y, w] at z
        cases z
    rw [upd_ne this]
    exact O.ext a o z n
  · by_cases hj : i = j
    · subst hj
      rw [List.getElem?_set_self hi] at e1
      cases e1
      rw [es] at e2
      cases e2
      exact h
    · rw [List.getElem?_set_ne hj] at e1
      refine (O.sl j g1 o e1 e2).mono k (fun _ z => z) fun q' w o1 o2 _ n z => ?_
      subst o2
      have : q' ≠ q := fun y => by
        subst y
        exact hj (O.inj i j _ _ _ e e1 ow o1 es e2)
      rw [upd_ne this]
      exact z
  · have back : ∀ {m : Nat} {g1 : Sl}, (G.set i g')[m]? = some g1 → g1.isOwn = true → ∃ g2, G[m]? = some g2 ∧ g2.isOwn = true := fun {m g1} f1 f2 => by
      by_cases hm : i = m
      · subst hm
        exact ⟨g, e, ow⟩
      · rw [List.getElem?_set_ne hm] at f1
        exact ⟨g1, f1, f2⟩
    obtain ⟨x1, y1, z1⟩ := back e1 n1
    obtain ⟨x2, y2, z2⟩ := back e2 n2
    exact O.inj j k' x1 x2 p y1 y2 z1 z2 e3 e4
end
end Pu
namespace Pu
open PySem PySem.Spec PyProof.Rows L2
/-! ## judgements -/
abbrev XP := List Sl → (D → Prop) → (Exn → Prop) → Prop
abbrev XTp := List Sl → (Bool → Prop) → (Exn → Prop) → Prop
abbrev XAp := List Sl → (List D → Prop) → (Exn → Prop) → Prop
def KE (W : Wd) (H : Hp) (Q : D → Prop) (k : VK) : Prop := ∀ v H' d, Fut W H H' → Rep W H' d v → Q d → k v H'
def KX (W : Wd) (σ : L2.St) (H : Hp) (E : Exn → Prop) (Wx : WX) : Prop := ∀ cls dd H' ex, Fut W H H' → ExOk W H' ex cls dd → E ex → Wx cls dd σ H'
def KT (W : Wd) (H : Hp) (Q : Bool → Prop) (k : Bool → Hp → Prop) : Prop := ∀ b H', Fut W H H' → Q b → k b H'
def KA (W : Wd) (H : Hp) (Q : List D → Prop) (k : List V → Hp → Prop) : Prop := ∀ vs H' ds, Fut W H H' → Reps W H' ds vs → Q ds → k vs H'
def EvE (B : Bs) (Wx : WX) (t : TE) (p : XP) : Prop := ∀ S σ H G Q E k, Ok B S σ H G → p G Q E → KE (B.W.at S) H Q k → KX (B.W.at S) σ H E Wx → t σ H k
def EvT (B : Bs) (Wx : WX) (t : TT) (p : XTp) : Prop := ∀ S σ H G Q E k, Ok B S σ H G → p G Q E → KT (B.W.at S) H Q k → KX (B.W.at S) σ H E Wx → t σ H k
def EvA (B : Bs) (Wx : WX) (t : TA) (p : XAp) : Prop := ∀ S σ H G Q E k, Ok B S σ H G → p G Q E → KA (B.W.at S) H Q k → KX (B.W.at S) σ H E Wx → t σ H k
structure XE (B : Bs) (X : Cx) (Wx : WX) (e : Expr) (p : XP) : Prop where
  ex : ∃ t, PE X e t ∧ EvE B Wx t p
structure XT (B : Bs) (X : Cx) (Wx : WX) (e : Expr) (p : XTp) : Prop where
  ex : ∃ t, PT X e t ∧ EvT B Wx t p
structure XW (B : Bs) (X : Cx) (Wx : WX) (e : Expr) (p : XTp) : Prop where
  ex : ∃ t, PW X e t ∧ EvT B Wx t p
structure XA (B : Bs) (X : Cx) (Wx : WX) (es : List Expr) (p : XAp) : Prop where
  ex : ∃ t, PA X es t ∧ EvA B Wx t p
section
variable {W : Wd} {H H1 : Hp} {σ : L2.St} {Wx : WX} {E : Exn → Prop}
theorem KX.fut (h : KX W σ H E Wx) (f : Fut W H H1) : KX W σ H1 E Wx := fun cls dd H' ex g => h cls dd H' ex (f.trans g)
theorem KE.fut {Q : D → Prop} {k : VK} (h : KE W H Q k) (f : Fut W H H1) : KE W H1 Q k := fun v H' d g => h v H' d (f.trans g)
theorem KT.fut {Q : Bool → Prop} {k : Bool → Hp → Prop} (h : KT W H Q k) (f : Fut W H H1) : KT W H1 Q k := fun v H' g => h v H' (f.trans g)
theorem KA.fut {Q : List D → Prop} {k : List V → Hp → Prop} (h : KA W H Q k) (f : Fut W H H1) : KA W H1 Q k := fun v H' d g => h v H' d (f.trans g)
end
/-! ## readings -/
def rVar (i : Nat) : XP := fun G Q _ => match G[i]? with
  | some (.d d) => Q d
  | _ => False
def rC (d : D) : XP := fun _ Q _ => Q d
abbrev DOp := D → D → (D → Prop) → (Exn → Prop) → Prop
abbrev DUn := D → (D → Prop) → (Exn → Prop) → Prop
abbrev DFn := List D → (D → Prop) → (Exn → Prop) → Prop
def rBin (o : DOp) (a b : XP) : XP := fun G Q E => a G (fun x => b G (fun y => o x y Q E) E) E
def rUn (o : DUn) (a : XP) : XP := fun G Q E => a G (fun x => o x Q E) E
def rFn (o : DFn) (as : XAp) : XP := fun G Q E => as G (fun xs => o xs Q E) E
def onB (d : D) (f : Bool → Prop) : Prop := match d with
  | .bl b => f b
  | _ => False
def rAnd (a b : XP) : XP := fun G Q E => a G (fun x => onB x fun k => if k = true then b G Q E else Q (.bl false)) E
def rOr (a b : XP) : XP := fun G Q E => a G (fun x => onB x fun k => if k = true then Q (.bl true) else b G Q E) E
def rNot (a : XP) : XP := fun G Q E => a G (fun x => onB x fun k => Q (.bl (!k))) E
def rIfE (t : XTp) (a b : XP) : XP := fun G Q E => t G (fun k => if k = true then a G Q E else b G Q E) E
def rTest (a : XP) : XTp := fun G Q E => a G (fun x => onB x Q) E
def rTAnd (a b : XTp) : XTp := fun G Q E => a G (fun k => if k = true then b G Q E else Q false) E
def rTOr (a b : XTp) : XTp := fun G Q E => a G (fun k => if k = true then Q true else b G Q E) E
def rTNot (a : XTp) : XTp := fun G Q E => a G (fun k => Q (!k)) E
def rChain (o o' : DOp) (a b c : XP) : XP := fun G Q E => a G (fun x => b G (fun y => o x y (fun z => onB z fun k => if k = true then c G (fun w => o' y w Q E) E else Q (.bl false)) E) E) E
def rNil : XAp := fun _ Q _ => Q []
def rCons (a : XP) (b : XAp) : XAp := fun G Q E => a G (fun x => b G (fun xs => Q (x :: xs)) E) E
/-! ## rules -/
def OpS (X : Cx) (f : Value → Value → Sem Value) (r : L2.St → R2) : Prop :=
  ∀ (pins : List (Addr × Obj)) (s : Shared) (σ : L2.St) (H : Hp) (x y : V) (v u : Value) (Q : VK), Inv X pins σ H s → RelV x v → RelV y u → r σ x y H Q →
    wpAny (model X.prog X.w) X.A (f v u) (EP X pins σ Q) X.xe s
structure XO (B : Bs) (X : Cx) (Wx : WX) (f : Value → Value → Sem Value) (o : DOp) : Prop where
  ex : ∃ r, OpS X f r ∧ ∀ S σ H x y dx dy Q E k, WOk (B.W.at S) H → Rep (B.W.at S) H dx x → Rep (B.W.at S) H dy y → o dx dy Q E → KE (B.W.at S) H Q k → KX (B.W.at S) σ H E Wx → r σ x y H k
def UnS (X : Cx) (f : Value → Sem Value) (r : L2.St → V → Hp → VK → Prop) : Prop :=
  ∀ (pins : List (Addr × Obj)) (s : Shared) (σ : L2.St) (H : Hp) (x : V) (v : Value) (Q : VK), Inv X pins σ H s → RelV x v → r σ x H Q →
    wpAny (model X.prog X.w) X.A (f v) (EP X pins σ Q) X.xe s
structure XU (B : Bs) (X : Cx) (Wx : WX) (f : Value → Sem Value) (o : DUn) : Prop where
  ex : ∃ r, UnS X f r ∧ ∀ S σ H x dx Q E k, WOk (B.W.at S) H → Rep (B.W.at S) H dx x → o dx Q E → KE (B.W.at S) H Q k → KX (B.W.at S) σ H E Wx → r σ x H k
section
variable {B : Bs} {X : Cx} {Wx : WX} {a b c e : Expr} {es : List Expr} {pa pb pc : XP} {pos : Pos}
theorem evE_c {d : D} {v : V} (h : ∀ S H, Rep (B.W.at S) H d v) : EvE B Wx (tC v) (rC d) := fun S σ H G Q E k O q ke _ => ke v H d (Fut.refl O.wok) (h S H) q
theorem xe_var (i : Nat) {x : Str} (hN : X.N[i]? = some x := by rfl) (hv : Vis X.env.scope x := by first | exact Or.inl rfl | exact Or.inr (Or.inl rfl) | exact Or.inr (Or.inr rfl)) (hd : (x == ("__debug__" : Str)) = false := by decide)
    (hcd : (x == ("__classdict__" : Str)) = false := by decide) : XE B X Wx (.Name x pos) (rVar i) := by
  refine ⟨tVar i, pe_var hN hv hd hcd, fun S σ H G Q E k O q ke _ => ?_⟩
  unfold rVar at q
  cases hg : G[i]? with
  | none => rw [hg] at q; exact q.elim
  | some g =>
    rw [hg] at q
    cases g with
    | d d =>
      obtain ⟨o, eo, v, rfl, r⟩ := O.get hg
      exact ⟨v, eo, ke v H d (Fut.refl O.wok) r q⟩
    | no => exact False.elim q
    | own ds => exact False.elim q
    | obj c ds => exact False.elim q
    | exc c ds => exact False.elim q
theorem xe_int {i j} : XE B X Wx (.Constant (.int i) j pos) (rC (.int i)) := ⟨_, pe_int, evE_c fun _ _ => by simp only [Rep]⟩
theorem xe_bl {k j} : XE B X Wx (.Constant (.bool k) j pos) (rC (.bl k)) := ⟨_, pe_bl, evE_c fun _ _ => by simp only [Rep]⟩
theorem xe_non {j} : XE B X Wx (.Constant .none j pos) (rC .non) := ⟨_, pe_non, evE_c fun _ _ => by simp only [Rep]⟩
theorem xe_str {x j} : XE B X Wx (.Constant (.str x) j pos) (rC (.str x)) := ⟨_, pe_str, evE_c fun _ _ => by simp only [Rep]⟩
theorem xe_gint {x : Str} {i : Int} {t : Tok} (hm : X.mg x = some (.int i t)) (hg : Gl X x := by rfl) (hd : (x == ("__debug__" : Str)) = false := by decide) : XE B X Wx (.Name x pos) (rC (.int i)) := ⟨_, pe_glob (v := .int i) hg hm ⟨t, rfl⟩ hd, evE_c fun _ _ => by simp only [Rep]⟩
theorem xe_gstr {x : Str} {i : Str} {t : Tok} (hm : X.mg x = some (.str i t)) (hg : Gl X x := by rfl) (hd : (x == ("__debug__" : Str)) = false := by decide) : XE B X Wx (.Name x pos) (rC (.str i)) := ⟨_, pe_glob (v := .str i) hg hm ⟨t, rfl⟩ hd, evE_c fun _ _ => by simp only [Rep]⟩
theorem xe_gref {x : Str} {C : Addr} (hm : X.mg x = some (.ref C)) (hg : Gl X x := by rfl) (hd : (x == ("__debug__" : Str)) = false := by decide) : XE B X Wx (.Name x pos) (rC (.val (.ref C))) := ⟨_, pe_glob (v := .ref C) hg hm rfl hd, evE_c fun _ _ => by simp only [Rep]⟩
theorem xe_bty {x : Str} {T : String} (hm : X.mg x = none) (hv : bootBuiltins x = some (.type T)) (hg : Gl X x := by rfl) (hn : x ≠ "__name__" := by decide) (hd : (x == ("__debug__" : Str)) = false := by decide) : XE B X Wx (.Name x pos) (rC (.val (.ty T))) := ⟨_, pe_bltn (v := .ty T) hg hm hv rfl hn hd, evE_c fun _ _ => by simp only [Rep]⟩
/-! two in a row -/
theorem ev2 {ta tb : TE} (ha : EvE B Wx ta pa) (hb : EvE B Wx tb pb) {S : Addr → Prop} {σ : L2.St} {H : Hp} {G : List Sl} {E : Exn → Prop} {R : D → D → Prop} {K : V → V → Hp → Prop} (O : Ok B S σ H G) (h : pa G (fun x => pb G (fun y => R x y) E) E) (kx : KX (B.W.at S) σ H E Wx)
    (hk : ∀ x y H' dx dy, Fut (B.W.at S) H H' → Ok B S σ H' G → Rep (B.W.at S) H' dx x → Rep (B.W.at S) H' dy y → R dx dy → K x y H') : ta σ H fun x H1 => tb σ H1 fun y H2 => K x y H2 := by
  refine ha S σ H G _ E _ O h (fun x H1 dx f1 r1 q1 => ?_) kx
  refine hb S σ H1 G _ E _ (O.fut f1) q1 (fun y H2 dy f2 r2 q2 => ?_) (kx.fut f1)
  have w1 := O.wok.fut f1
  exact hk x y H2 dx dy (f1.trans f2) (O.fut (f1.trans f2)) (r1.fut w1 f2) r2 q2
def tOpS (r : L2.St → R2) (ta tb : TE) : TE := fun σ H Q => ta σ H fun x H1 => tb σ H1 fun y H2 => r σ x y H2 Q
theorem evOp {f : Value → Value → Sem Value} {o : DOp} {r : L2.St → R2} {ta tb : TE} (hr : ∀ S σ H x y dx dy Q E k, WOk (B.W.at S) H → Rep (B.W.at S) H dx x → Rep (B.W.at S) H dy y → o dx dy Q E → KE (B.W.at S) H Q k → KX (B.W.at S) σ H E Wx → r σ x y H k) (ha : EvE B Wx ta pa) (hb : EvE B Wx tb pb) : EvE B Wx (tOpS r ta tb) (rBin o pa pb) := fun S σ H G Q E k O q ke kx =>
  ev2 ha hb O q kx fun x y H' dx dy f O' r1 r2 h => hr S σ H' x y dx dy Q E k O'.wok r1 r2 h (ke.fut f) (kx.fut f)
theorem xe_bin {op : Operator} {o : DOp} (ho : XO B X Wx (binaryOp op) o) (ha : XE B X Wx a pa) (hb : XE B X Wx b pb) : XE B X Wx (.BinOp a op b pos) (rBin o pa pb) := by
  obtain ⟨r, h1, h2⟩ := ho.ex
  obtain ⟨ta, ha, ea⟩ := ha.ex
  obtain ⟨tb, hb, eb⟩ := hb.ex
  refine ⟨tOpS r ta tb, ⟨fun pins s σ H Q I h => ?_⟩, evOp (f := binaryOp op) h2 ea eb⟩
  exact wpAny_BinOp (binT ha hb I h fun v u s2 x y H2 I2 rx ry q => h1 pins s2 σ H2 x y v u Q I2 rx ry q)
theorem xe_cmp {op : CmpOp} {o : DOp} (ho : XO B X Wx (compareOp op) o) (ha : XE B X Wx a pa) (hb : XE B X Wx b pb) (hm : behindInMarks op b = false := by first | exact nomark _ | with_unfolding_all rfl) : XE B X Wx (.Compare a [op] [b] pos) (rBin o pa pb) := by
  obtain ⟨r, h1, h2⟩ := ho.ex
  obtain ⟨ta, ha, ea⟩ := ha.ex
  obtain ⟨tb, hb, eb⟩ := hb.ex
  refine ⟨tOpS r ta tb, ⟨fun pins s σ H Q I h => ?_⟩, evOp (f := compareOp op) h2 ea eb⟩
  exact wpAny_Compare1 (binT ha hb I h fun v u s2 x y H2 I2 rx ry q => h1 pins s2 σ H2 x y v u Q I2 rx ry q) hm
theorem onB_elim {d : D} {f : Bool → Prop} (h : onB d f) : ∃ k, d = .bl k ∧ f k := by
  cases d <;> first | exact ⟨_, rfl, h⟩ | exact False.elim h
theorem xt_cmp {op : CmpOp} {o : DOp} (ho : XO B X Wx (compareOp op) o) (ha : XE B X Wx a pa) (hb : XE B X Wx b pb) (hm : behindInMarks op b = false := by first | exact nomark _ | with_unfolding_all rfl) : XT B X Wx (.Compare a [op] [b] pos) (rTest (rBin o pa pb)) := by
  obtain ⟨r, h1, h2⟩ := ho.ex
  obtain ⟨ta, ha, ea⟩ := ha.ex
  obtain ⟨tb, hb, eb⟩ := hb.ex
  refine ⟨tTest (tOpS r ta tb), ⟨fun pins s σ H Q I h => ?_⟩, fun S σ H G Q E k O q kt kx => ?_⟩
  · refine wpAny_isTrue_Compare1 (thn (ha.run pins s σ H _ I h) fun v s1 ⟨x, H1, I1, r1, q1⟩ => thn (hb.run pins s1 σ H1 _ I1 q1) fun u s2 ⟨y, H2, I2, r2, q2⟩ =>
      thn (h1 pins s2 σ H2 x y v u _ I2 r1 r2 q2) fun c s3 ⟨z, H3, I3, r3, k, e, q3⟩ => ?_) hm
    subst e
    cases r3
    exact wpAny_truthy_bool ⟨H3, I3, q3⟩
  · refine evOp (f := compareOp op) h2 ea eb S σ H G _ E _ O q (fun v H' d f r q' => ?_) kx
    obtain ⟨k', rfl, q''⟩ := onB_elim q'
    simp only [Rep] at r
    exact ⟨k', r, kt k' H' f q''⟩
theorem xt_val (ha : XE B X Wx a pa) (he : ∀ whole, isTrue a X.env whole = (do let v ← whole; standAt a.pos; holding [v] (truthy v)) := by intro _; rfl) : XT B X Wx a (rTest pa) := by
  obtain ⟨ta, ha, ea⟩ := ha.ex
  refine ⟨tB ta, pt_val ha he, fun S σ H G Q E k O q kt kx => ?_⟩
  refine ea S σ H G _ E _ O q (fun v H' d f r q' => ?_) kx
  obtain ⟨k', rfl, q''⟩ := onB_elim q'
  simp only [Rep] at r
  exact ⟨k', r, kt k' H' f q''⟩
theorem xt_chain {op op' : CmpOp} {o o' : DOp} (ho : XO B X Wx (compareOp op) o) (ho' : XO B X Wx (compareOp op') o') (ha : XE B X Wx a pa) (hb : XE B X Wx b pb) (hc : XE B X Wx c pc) (hm : lastMarks [op, op'] [b, c] = false := by with_unfolding_all rfl) :
    XT B X Wx (.Compare a [op, op'] [b, c] pos) (rTest (rChain o o' pa pb pc)) ∧ XE B X Wx (.Compare a [op, op'] [b, c] pos) (rChain o o' pa pb pc) := by
  obtain ⟨r, h1, h2⟩ := ho.ex
  obtain ⟨r', h1', h2'⟩ := ho'.ex
  obtain ⟨ta, ha, ea⟩ := ha.ex
  obtain ⟨tb, hb, eb⟩ := hb.ex
  obtain ⟨tc, hc, ec⟩ := hc.ex
  let T : TE := fun σ H Q => ta σ H fun x H1 => tb σ H1 fun y H2 => r σ x y H2 fun z H3 => ∃ k, z = .bl k ∧ (if k = true then tc σ H3 fun w' H4 => r' σ y w' H4 Q else Q (.bl false) H3)
  have ev : EvE B Wx T (rChain o o' pa pb pc) := fun S σ H G Q E k O q ke kx => by
    refine ev2 ea eb O q kx fun x y H' dx dy f O' r1 r2 h => ?_
    refine h2 S σ H' x y dx dy _ E _ O'.wok r1 r2 h (fun z H3 dz f3 r3 q3 => ?_) (kx.fut f)
    obtain ⟨k', rfl, q9⟩ := onB_elim q3
    simp only [Rep] at r3
    refine ⟨k', r3, ?_⟩
    have w' := O'.wok
    cases k' with
    | false =>
      rw [if_neg Bool.false_ne_true] at q9 ⊢
      exact ke _ _ _ (f.trans f3) (by simp only [Rep]) q9
    | true =>
      rw [if_pos rfl] at q9 ⊢
      refine ec S σ H3 G _ E _ (O'.fut f3) q9 (fun w4 H4 dw f4 r4 q4 => ?_) ((kx.fut f).fut f3)
      exact h2' S σ H4 y w4 dy dw Q E k ((w'.fut f3).fut f4) ((r2.fut w' f3).fut (w'.fut f3) f4) r4 q4 (ke.fut ((f.trans f3).trans f4)) (kx.fut ((f.trans f3).trans f4))
  refine ⟨⟨tTest T, ⟨fun pins s σ H Q I h => ?_⟩, fun S σ H G Q E k O q kt kx => ?_⟩, ⟨T, ⟨fun pins s σ H Q I h => ?_⟩, ev⟩⟩
  · refine isTrue_chain (thn (ha.run pins s σ H _ I h) fun v s1 ⟨x, H1, I1, r1, q1⟩ => test_link (thn (hb.run pins s1 σ H1 _ I1 q1) fun u s2 ⟨y, H2, I2, r2, q2⟩ =>
      thn (h1 pins s2 σ H2 x y v u _ I2 r1 r2 q2) fun d s3 ⟨z, H3, I3, r3, k, e, q3⟩ => ?_)) hm
    subst e
    cases r3
    refine wpAny_truthy_bool ?_
    cases k with
    | false =>
      obtain ⟨k', e', q'⟩ := q3
      cases e'
      exact ite_ff ⟨H3, I3, q'⟩
    | true =>
      refine ite_tt (test_last (thn (hc.run pins s3 σ H3 _ I3 q3) fun w' s4 ⟨z', H4, I4, r4, q4⟩ => thn (h1' pins s4 σ H4 y z' u w' _ I4 r2 r4 q4) fun c s5 ⟨z5, H5, I5, r5, k, e, q5⟩ => ?_))
      subst e
      cases r5
      exact wpAny_truthy_bool ⟨H5, I5, q5⟩
  · refine ev S σ H G _ E _ O q (fun v H' d f r q' => ?_) kx
    obtain ⟨k', rfl, q''⟩ := onB_elim q'
    simp only [Rep] at r
    exact ⟨k', r, kt k' H' f q''⟩
  · refine Compare_chain (thn (ha.run pins s σ H _ I h) fun v s1 ⟨x, H1, I1, r1, q1⟩ => chain_link (thn (hb.run pins s1 σ H1 _ I1 q1) fun u s2 ⟨y, H2, I2, r2, q2⟩ =>
      thn (h1 pins s2 σ H2 x y v u _ I2 r1 r2 q2) fun d s3 ⟨z, H3, I3, r3, k, e, q3⟩ => ?_)) hm
    subst e
    cases r3
    refine wpAny_truthy_bool ?_
    cases k with
    | false => exact ite_ff ⟨.bl false, H3, I3, rfl, q3⟩
    | true => exact ite_tt (chain_last (thn (hc.run pins s3 σ H3 _ I3 q3) fun w' s4 ⟨z', H4, I4, r4, q4⟩ => h1' pins s4 σ H4 y z' u w' Q I4 r2 r4 q4))
/-! and, or, not -/
variable {qa qb : XTp} {rest : List Expr}
theorem xt_not (ha : XT B X Wx a qa) : XT B X Wx (.UnaryOp .Not a pos) (rTNot qa) := by
  obtain ⟨ta, ha, ea⟩ := ha.ex
  exact ⟨tNot ta, pt_not ha, fun S σ H G Q E k O q kt kx => ea S σ H G _ E _ O q (fun b H' f h => kt (!b) H' f h) kx⟩
theorem xw_and (ha : XT B X Wx a qa) (hb : XW B X Wx (.BoolOp .And (b :: rest) pos) qb) : XW B X Wx (.BoolOp .And (a :: b :: rest) pos) (rTAnd qa qb) := by
  obtain ⟨ta, ha, ea⟩ := ha.ex
  obtain ⟨tb, hb, eb⟩ := hb.ex
  refine ⟨tAnd ta tb, pw_and ha hb, fun S σ H G Q E k O q kt kx => ea S σ H G _ E _ O q (fun b H' f h => ?_) kx⟩
  cases b with
  | true =>
    rw [if_pos rfl] at h ⊢
    exact eb S σ H' G Q E k (O.fut f) h (kt.fut f) (kx.fut f)
  | false =>
    rw [if_neg Bool.false_ne_true] at h ⊢
    exact kt false H' f h
theorem xw_or (ha : XT B X Wx a qa) (hb : XW B X Wx (.BoolOp .Or (b :: rest) pos) qb) : XW B X Wx (.BoolOp .Or (a :: b :: rest) pos) (rTOr qa qb) := by
  obtain ⟨ta, ha, ea⟩ := ha.ex
  obtain ⟨tb, hb, eb⟩ := hb.ex
  refine ⟨tOr ta tb, pw_or ha hb, fun S σ H G Q E k O q kt kx => ea S σ H G _ E _ O q (fun b H' f h => ?_) kx⟩
  cases b with
  | true =>
    rw [if_pos rfl] at h ⊢
    exact kt true H' f h
  | false =>
    rw [if_neg Bool.false_ne_true] at h ⊢
    exact eb S σ H' G Q E k (O.fut f) h (kt.fut f) (kx.fut f)
theorem xw_and1 (ha : XT B X Wx a qa) : XW B X Wx (.BoolOp .And [a] pos) qa := by
  obtain ⟨ta, ha, ea⟩ := ha.ex
  exact ⟨ta, pw_and1 ha, ea⟩
theorem xw_or1 (ha : XT B X Wx a qa) : XW B X Wx (.BoolOp .Or [a] pos) qa := by
  obtain ⟨ta, ha, ea⟩ := ha.ex
  exact ⟨ta, pw_or1 ha, ea⟩
theorem XW.xt (ha : XW B X Wx a qa) : XT B X Wx a qa := by
  obtain ⟨ta, ha, ea⟩ := ha.ex
  exact ⟨ta, ha.pt, ea⟩
theorem xe_one {op} (ha : XE B X Wx a pa) : XE B X Wx (.BoolOp op [a] pos) pa := by
  obtain ⟨ta, ha, ea⟩ := ha.ex
  exact ⟨ta, pe_one ha, ea⟩
theorem xe_and (ha : XE B X Wx a pa) (hb : XE B X Wx (.BoolOp .And (b :: rest) pos) pb) : XE B X Wx (.BoolOp .And (a :: b :: rest) pos) (rAnd pa pb) := by
  obtain ⟨ta, ha, ea⟩ := ha.ex
  obtain ⟨tb, hb, eb⟩ := hb.ex
  refine ⟨tAndV ta tb, pe_and ha hb, fun S σ H G Q E k O q ke kx => ea S σ H G _ E _ O q (fun v H' d f r h => ?_) kx⟩
  obtain ⟨k', rfl, h9⟩ := onB_elim h
  simp only [Rep] at r
  refine ⟨k', r, ?_⟩
  cases k' with
  | true =>
    rw [if_pos rfl] at h9 ⊢
    exact eb S σ H' G Q E k (O.fut f) h9 (ke.fut f) (kx.fut f)
  | false =>
    rw [if_neg Bool.false_ne_true] at h9 ⊢
    exact ke _ H' _ f (by simp only [Rep]) h9
theorem xe_or (ha : XE B X Wx a pa) (hb : XE B X Wx (.BoolOp .Or (b :: rest) pos) pb) : XE B X Wx (.BoolOp .Or (a :: b :: rest) pos) (rOr pa pb) := by
  obtain ⟨ta, ha, ea⟩ := ha.ex
  obtain ⟨tb, hb, eb⟩ := hb.ex
  refine ⟨tOrV ta tb, pe_or ha hb, fun S σ H G Q E k O q ke kx => ea S σ H G _ E _ O q (fun v H' d f r h => ?_) kx⟩
  obtain ⟨k', rfl, h9⟩ := onB_elim h
  simp only [Rep] at r
  refine ⟨k', r, ?_⟩
  cases k' with
  | true =>
    rw [if_pos rfl] at h9 ⊢
    exact ke _ H' _ f (by simp only [Rep]) h9
  | false =>
    rw [if_neg Bool.false_ne_true] at h9 ⊢
    exact eb S σ H' G Q E k (O.fut f) h9 (ke.fut f) (kx.fut f)
theorem xe_not (ha : XE B X Wx a pa) : XE B X Wx (.UnaryOp .Not a pos) (rNot pa) := by
  obtain ⟨ta, ha, ea⟩ := ha.ex
  refine ⟨tNotV ta, pe_not ha, fun S σ H G Q E k O q ke kx => ea S σ H G _ E _ O q (fun v H' d f r h => ?_) kx⟩
  obtain ⟨k', rfl, h⟩ := onB_elim h
  simp only [Rep] at r
  exact ⟨k', r, ke _ H' _ f (by simp only [Rep]) h⟩
theorem xe_ifE (hc : XT B X Wx c qa) (ha : XE B X Wx a pa) (hb : XE B X Wx b pb) : XE B X Wx (.IfExp c a b pos) (rIfE qa pa pb) := by
  obtain ⟨tc, hc, ec⟩ := hc.ex
  obtain ⟨ta, ha, ea⟩ := ha.ex
  obtain ⟨tb, hb, eb⟩ := hb.ex
  refine ⟨tIf tc ta tb, pe_ifExp hc ha hb, fun S σ H G Q E k O q ke kx => ec S σ H G _ E _ O q (fun b H' f h => ?_) kx⟩
  cases b with
  | true =>
    rw [if_pos rfl] at h ⊢
    exact ea S σ H' G Q E k (O.fut f) h (ke.fut f) (kx.fut f)
  | false =>
    rw [if_neg Bool.false_ne_true] at h ⊢
    exact eb S σ H' G Q E k (O.fut f) h (ke.fut f) (kx.fut f)
theorem xe_un {op : UnaryOp} {o : DUn} (ho : XU B X Wx (unaryOp op) o) (ha : XE B X Wx a pa) : XE B X Wx (.UnaryOp op a pos) (rUn o pa) := by
  obtain ⟨r, h1, h2⟩ := ho.ex
  obtain ⟨ta, ha, ea⟩ := ha.ex
  refine ⟨fun σ H Q => ta σ H fun x H1 => r σ x H1 Q, ⟨fun pins s σ H Q I h => ?_⟩, fun S σ H G Q E k O q ke kx => ea S σ H G _ E _ O q (fun v H' d f r' h => ?_) kx⟩
  · exact UnaryOp_ (thn (ha.run pins s σ H _ I h) fun v s1 ⟨x, H1, I1, r1, q1⟩ => h1 pins s1 σ H1 x v Q I1 r1 q1)
  · exact h2 S σ H' v d Q E k (O.wok.fut f) r' h (ke.fut f) (kx.fut f)
/-! argument lists, displays -/
variable {pas : XAp}
theorem xa_nil : XA B X Wx [] rNil := ⟨tNil, pa_nil, fun S σ H G Q E k O q ka _ => ka [] H [] (Fut.refl O.wok) Reps.nil q⟩
theorem xa_cons (ha : XE B X Wx e pa) (hr : XA B X Wx es pas) (hs : starEach (e :: es) X.env = (false, eval e X.env) :: starEach es X.env := by rfl) : XA B X Wx (e :: es) (rCons pa pas) := by
  obtain ⟨ta, ha, ea⟩ := ha.ex
  obtain ⟨tr, hr, er⟩ := hr.ex
  refine ⟨tCons ta tr, pa_cons ha hr hs, fun S σ H G Q E k O q ka kx => ea S σ H G _ E _ O q (fun v H1 d f r h => ?_) kx⟩
  refine er S σ H1 G _ E _ (O.fut f) h (fun vs H2 ds f2 r2 h2 => ?_) (kx.fut f)
  exact ka (v :: vs) H2 (d :: ds) (f.trans f2) (Reps.cons (r.fut (O.wok.fut f) f2) r2) h2
def rTup (as : XAp) : XP := fun G Q E => as G (fun xs => xs.length ≤ 1000 ∧ Q (.tup xs)) E
def rLst (as : XAp) : XP := fun G Q E => as G (fun xs => xs.length ≤ 1000 ∧ Q (.lst xs)) E
theorem fut_new {W : Wd} {H : Hp} {p : Addr} {o : HO} (w : WOk W H) (h : H p = none) : Fut W H (upd H p o) := Fut.same w fun a u e => by rw [upd_ne (ne_of_none e h)]; exact e
theorem xe_tup {x1} (h : XA B X Wx es pas) : XE B X Wx (.Tuple es x1 pos) (rTup pas) := by
  obtain ⟨t, h, ev⟩ := h.ex
  refine ⟨tTup t, pe_tup h, fun S σ H G Q E k O q ke kx => ev S σ H G _ E _ O q (fun vs H1 ds f r h => ?_) kx⟩
  have w1 := O.wok.fut f
  refine ⟨Nat.le_of_lt (small1000 (by rw [r.len]; exact h.1)), fun p hp => ?_⟩
  have f2 := fut_new (o := .tup vs) w1 hp
  refine ke _ _ _ (f.trans f2) ?_ h.2
  simp only [Rep]
  exact ⟨p, vs, rfl, w1.new hp, .inl upd_same, r.fut w1 f2⟩
theorem xe_lst (h : XA B X Wx es pas) : XE B X Wx (.List es pos) (rLst pas) := by
  obtain ⟨t, h, ev⟩ := h.ex
  refine ⟨tLst t, pe_lst h, fun S σ H G Q E k O q ke kx => ev S σ H G _ E _ O q (fun vs H1 ds f r h => ?_) kx⟩
  have w1 := O.wok.fut f
  refine ⟨Nat.le_of_lt (small1000 (by rw [r.len]; exact h.1)), fun p hp => ?_⟩
  have f2 := fut_new (o := .lst vs) w1 hp
  refine ke _ _ _ (f.trans f2) ?_ h.2
  simp only [Rep]
  exact ⟨p, vs, rfl, w1.new hp, upd_same, r.fut w1 f2⟩
end
end Pu
namespace Pu
open PySem PySem.Spec PyProof.Rows L2
/-! ## == of plain data -/
/-- none, bools, ints, texts, lists and tuples of these, at most so deep -/
def pl : Nat → D → Bool
  | _, .non => true
  | _, .bl _ => true
  | _, .int _ => true
  | _, .str _ => true
  | n + 1, .lst ds => ds.all (pl n)
  | n + 1, .tup ds => ds.all (pl n)
  | _, _ => false
mutual
def deq : D → D → Bool
  | .non, .non => true
  | .bl a, .bl b => a == b
  | .bl a, .int j => (if a then 1 else 0) == j
  | .int i, .bl b => i == (if b then 1 else 0)
  | .int i, .int j => i == j
  | .str x, .str y => x == y
  | .lst xs, .lst ys => deqs xs ys
  | .tup xs, .tup ys => deqs xs ys
  | _, _ => false
def deqs : List D → List D → Bool
  | [], [] => true
  | x :: xs, y :: ys => deq x y && deqs xs ys
  | _, _ => false
end
abbrev pairD (xs ys : List D) (j : Nat) : Bool := deq (xs.getD j .non) (ys.getD j .non)
theorem deqs_eq : ∀ xs ys : List D, ((List.range (min xs.length ys.length)).all (pairD xs ys) && xs.length == ys.length) = deqs xs ys
  | [], [] => by simp [deqs]
  | [], _ :: _ => by simp [deqs]
  | _ :: _, [] => by simp [deqs]
  | x :: xs, y :: ys => by
    have ih := deqs_eq xs ys
    have e1 : min (x :: xs).length (y :: ys).length = min xs.length ys.length + 1 := by simp only [List.length_cons]; omega
    have e2 : ((x :: xs).length == (y :: ys).length) = (xs.length == ys.length) := by simp
    have e3 : (List.range (min xs.length ys.length + 1)).all (pairD (x :: xs) (y :: ys)) = (deq x y && (List.range (min xs.length ys.length)).all (pairD xs ys)) := by
      rw [List.range_succ_eq_map, List.all_cons, List.all_map]
      first | rfl | simp [pairD, Function.comp_def]
    rw [e1, e2, e3, deqs, ← ih, Bool.and_assoc]
theorem deqs_same {xs ys : List D} (h : xs.length = ys.length) : (List.range xs.length).all (pairD xs ys) = deqs xs ys := by
  have := deqs_eq xs ys
  rw [← h, Nat.min_self] at this
  simpa using this
theorem deqs_other {xs ys : List D} (h : xs.length ≠ ys.length) : deqs xs ys = false := by
  rw [← deqs_eq xs ys]
  simp [h]
mutual
theorem deq_refl : ∀ (n : Nat) (d : D), pl n d = true → deq d d = true
  | n, .non, _ => by simp [deq]
  | n, .bl b, _ => by simp [deq]
  | n, .int i, _ => by simp [deq]
  | n, .str x, _ => by simp [deq]
  | 0, .lst ds, h => by simp [pl] at h
  | 0, .tup ds, h => by simp [pl] at h
  | n + 1, .lst ds, h => by
    simp only [deq]
    exact deqs_refl n ds (by simpa [pl] using h)
  | n + 1, .tup ds, h => by
    simp only [deq]
    exact deqs_refl n ds (by simpa [pl] using h)
  | n, .val v, h => by cases n <;> simp [pl] at h
  | n, .law, h => by cases n <;> simp [pl] at h
  | n, .ins c ds, h => by cases n <;> simp [pl] at h
  | n, .dic k ds, h => by cases n <;> simp [pl] at h
  | n, .ftp ds, h => by cases n <;> simp [pl] at h
theorem deqs_refl : ∀ (n : Nat) (ds : List D), (∀ d ∈ ds, pl n d = true) → deqs ds ds = true
  | n, [], _ => by simp [deqs]
  | n, d :: ds, h => by
    simp only [deqs, Bool.and_eq_true]
    exact ⟨deq_refl n d (h d (by simp)), deqs_refl n ds (fun x hx => h x (by simp [hx]))⟩
end
theorem repL {W : Wd} {H : Hp} {ds : List D} {v : V} (h : Rep W H (.lst ds) v) : ∃ a vs, v = .ref a ∧ ¬ W.S a ∧ H a = some (.lst vs) ∧ Reps W H ds vs := by simpa only [Rep] using h
theorem repT {W : Wd} {H : Hp} {ds : List D} {v : V} (h : Rep W H (.tup ds) v) : ∃ a vs, v = .ref a ∧ ¬ W.S a ∧ Rd H a (.tup vs) ∧ Reps W H ds vs := by simpa only [Rep] using h
theorem _root_.L2.Rd.uniqT {H : Hp} {a : Addr} {vs us : List V} (h : Rd H a (.tup vs)) (h' : Rd H a (.tup us)) : vs = us := by
  rcases h with h | ⟨o, h⟩ <;> rcases h' with h' | ⟨o', h'⟩ <;> (rw [h] at h'; cases h'; try rfl)
theorem _root_.L2.Rd.noL {H : Hp} {a : Addr} {vs us : List V} (h : Rd H a (.tup vs)) (h' : H a = some (.lst us)) : False := by
  rcases h with h | ⟨o, h⟩ <;> (rw [h] at h'; cases h')
mutual
theorem Rep.uniq {W : Wd} {H : Hp} : ∀ (n : Nat) (d e : D) (v : V), pl n d = true → pl n e = true → Rep W H d v → Rep W H e v → d = e
  | n, d, e, v, h1, h2, r1, r2 => by
    cases d with
    | non => simp only [Rep] at r1; subst r1; cases e <;> simp [Rep] at r2 <;> first | rfl | (simp [pl] at h2)
    | bl b => simp only [Rep] at r1; subst r1; cases e <;> simp [Rep] at r2 <;> first | (rw [r2]) | (simp [pl] at h2)
    | int b => simp only [Rep] at r1; subst r1; cases e <;> simp [Rep] at r2 <;> first | (rw [r2]) | (simp [pl] at h2)
    | str b => simp only [Rep] at r1; subst r1; cases e <;> simp [Rep] at r2 <;> first | (rw [r2]) | (simp [pl] at h2)
    | lst ds =>
      obtain ⟨a, vs, rfl, _, q, r⟩ := repL r1
      cases n with
      | zero => simp [pl] at h1
      | succ n =>
        cases e with
        | lst es =>
          obtain ⟨a', vs', ea, _, q', r'⟩ := repL r2
          cases ea
          rw [q] at q'
          cases q'
          rw [Reps.uniq n ds es vs (by simpa [pl] using h1) (by simpa [pl] using h2) r r']
        | tup es =>
          obtain ⟨a', vs', ea, _, q', r'⟩ := repT r2
          cases ea
          exact (q'.noL q).elim
        | _ => first | (simp [Rep] at r2; done) | (simp [pl] at h2; done)
    | tup ds =>
      obtain ⟨a, vs, rfl, _, q, r⟩ := repT r1
      cases n with
      | zero => simp [pl] at h1
      | succ n =>
        cases e with
        | tup es =>
          obtain ⟨a', vs', ea, _, q', r'⟩ := repT r2
          cases ea
          cases q.uniqT q'
          rw [Reps.uniq n ds es vs (by simpa [pl] using h1) (by simpa [pl] using h2) r r']
        | lst es =>
          obtain ⟨a', vs', ea, _, q', r'⟩ := repL r2
          cases ea
          exact (q.noL q').elim
        | _ => first | (simp [Rep] at r2; done) | (simp [pl] at h2; done)
    | _ => cases n <;> simp [pl] at h1
  termination_by n => (n, 0)
theorem Reps.uniq {W : Wd} {H : Hp} : ∀ (n : Nat) (ds es : List D) (vs : List V), (∀ d ∈ ds, pl n d = true) → (∀ d ∈ es, pl n d = true) → Reps W H ds vs → Reps W H es vs → ds = es
  | n, [], es, vs, h1, h2, r1, r2 => by
    simp only [Reps] at r1
    subst r1
    cases es with
    | nil => rfl
    | cons e es => simp [Reps] at r2
  | n, d :: ds, es, vs, h1, h2, r1, r2 => by
    simp only [Reps] at r1
    obtain ⟨v, r, rfl, q1, q2⟩ := r1
    cases es with
    | nil => simp [Reps] at r2
    | cons e es =>
      simp only [Reps] at r2
      obtain ⟨v', r', e', p1, p2⟩ := r2
      cases e'
      rw [Rep.uniq n d e v (h1 d (by simp)) (h2 e (by simp)) q1 p1, Reps.uniq n ds es r (fun x hx => h1 x (by simp [hx])) (fun x hx => h2 x (by simp [hx])) q2 p2]
  termination_by n ds => (n, ds.length + 1)
end
section
variable {X : Cx} {pins : List (Addr × Obj)} {σ : L2.St} {H : Hp} {s : Shared} {W : Wd}
open SeqAt in
theorem atL (I : Inv X pins σ H s) {ds : List D} {v : V} {u : Value} (h : Rep W H (.lst ds) v) (r : RelV v u) : ∃ a vs its, u = .ref a ∧ s.heap.IsList a its.toArray ∧ Vals vs its ∧ Reps W H ds vs ∧ H a = some (.lst vs) := by
  obtain ⟨a, vs, rfl, _, q, rr⟩ := repL h
  cases r
  obtain ⟨its, rv, p, _⟩ := I.list (SqL.of (K := X.K) q)
  exact ⟨a, vs, its, rfl, p.isList, rv, rr, q⟩
open SeqAt in
theorem atT (I : Inv X pins σ H s) {ds : List D} {v : V} {u : Value} (h : Rep W H (.tup ds) v) (r : RelV v u) : ∃ a vs its, u = .ref a ∧ s.heap.IsTuple a its.toArray ∧ Vals vs its ∧ Reps W H ds vs ∧ Rd H a (.tup vs) := by
  obtain ⟨a, vs, rfl, _, q, rr⟩ := repT h
  cases r
  obtain ⟨its, rv, p, _⟩ := I.tuple ((Or.inl q : SqT X.K H a vs))
  exact ⟨a, vs, its, rfl, p, rv, rr, q⟩
theorem repC {d : D} {v : V} {u : Value} (h : Rep W H d v) (r : RelV v u) : match d with
    | .non => u = .none
    | .bl b => u = .bool b
    | .int i => ∃ t, u = .int i t
    | .str x => ∃ t, u = .str x t
    | _ => True := by
  cases d <;> simp only [Rep] at h <;> first | trivial | (subst h; exact r)
open SeqAt in
mutual
theorem eqAtD (I : Inv X pins σ H s) : ∀ (n : Nat) (d e : D) (A : Around) (v w : V) (u u' : Value), pl n d = true → pl n e = true → Rep W H d v → Rep W H e w → RelV v u → RelV w u' → A.units + n < cLine → EqAt A s u u' (deq d e)
  | n, d, e, A, v, w, u, u', h1, h2, r1, r2, q1, q2, hu => by
    have hu0 : A.units < cLine := by omega
    cases d with
    | lst ds =>
      obtain ⟨a, vs, its, rfl, hl, rv, rr, ha⟩ := atL I r1 q1
      cases n with
      | zero => simp [pl] at h1
      | succ n =>
        cases e with
        | lst es =>
          obtain ⟨b, ws, jts, rfl, hl', rv', rr', hb⟩ := atL I r2 q2
          by_cases hab : a = b
          · subst hab
            rw [ha] at hb
            cases hb
            have : ds = es := Reps.uniq n ds es vs (by simpa [pl] using h1) (by simpa [pl] using h2) rr rr'
            subst this
            rw [deq_refl (n + 1) _ h1]
            exact EqAt.same _
          · simp only [deq]
            have n1 : its.toArray.size = ds.length := by rw [List.size_toArray, ← rv.length, rr.len]
            have n2 : jts.toArray.size = es.length := by rw [List.size_toArray, ← rv'.length, rr'.len]
            by_cases hsz : its.toArray.size = jts.toArray.size
            · rw [← deqs_same (by omega : ds.length = es.length), ← n1]
              refine EqAt.of_refs hab (RcAt.lists hl hl' hsz hu0 fun j j1 j2 => ?_)
              have := eqAtDs I n ds es A.in1 vs ws its jts (by simpa [pl] using h1) (by simpa [pl] using h2) rr rr' rv rv' (by show A.units + 1 + n < cLine; omega) j (by simpa using j1) (by simpa using j2)
              simpa using this
            · rw [deqs_other (by omega : ds.length ≠ es.length)]
              exact EqAt.of_refs hab (RcAt.lists_lengths hl hl' (by simpa using hsz) hu0)
        | tup es =>
          obtain ⟨b, ws, jts, rfl, hl', rv', rr', hb⟩ := atT I r2 q2
          exact EqAt.list_tuple hl hl' hu0
        | non => cases (repC r2 q2); exact EqAt.list_none hl hu0
        | bl y => cases (repC r2 q2); exact EqAt.list_bool y hl hu0
        | int y => obtain ⟨t, rfl⟩ := repC r2 q2; exact EqAt.list_int y t hl hu0
        | str y => obtain ⟨t, rfl⟩ := repC r2 q2; exact EqAt.list_str y t hl hu0
        | _ => simp [pl] at h2
    | tup ds =>
      obtain ⟨a, vs, its, rfl, hl, rv, rr, ha⟩ := atT I r1 q1
      cases n with
      | zero => simp [pl] at h1
      | succ n =>
        cases e with
        | tup es =>
          obtain ⟨b, ws, jts, rfl, hl', rv', rr', hb⟩ := atT I r2 q2
          by_cases hab : a = b
          · subst hab
            cases ha.uniqT hb
            have : ds = es := Reps.uniq n ds es vs (by simpa [pl] using h1) (by simpa [pl] using h2) rr rr'
            subst this
            rw [deq_refl (n + 1) _ h1]
            exact EqAt.same _
          · simp only [deq]
            have n1 : its.toArray.size = ds.length := by rw [List.size_toArray, ← rv.length, rr.len]
            have n2 : jts.toArray.size = es.length := by rw [List.size_toArray, ← rv'.length, rr'.len]
            rw [← deqs_eq ds es, ← n1, ← n2]
            refine EqAt.of_refs hab (RcAt.tuples hl hl' hu0 fun j j1 j2 => ?_)
            have := eqAtDs I n ds es A.in1 vs ws its jts (by simpa [pl] using h1) (by simpa [pl] using h2) rr rr' rv rv' (by show A.units + 1 + n < cLine; omega) j (by simpa using j1) (by simpa using j2)
            simpa using this
        | lst es =>
          obtain ⟨b, ws, jts, rfl, hl', rv', rr', hb⟩ := atL I r2 q2
          exact EqAt.tuple_list hl hl' hu0
        | non => cases (repC r2 q2); exact EqAt.tuple_none hl hu0
        | bl y => cases (repC r2 q2); exact EqAt.tuple_bool y hl hu0
        | int y => obtain ⟨t, rfl⟩ := repC r2 q2; exact EqAt.tuple_int y t hl hu0
        | str y => obtain ⟨t, rfl⟩ := repC r2 q2; exact EqAt.tuple_str y t hl hu0
        | _ => simp [pl] at h2
    | non =>
      cases (repC r1 q1)
      cases e with
      | lst es => obtain ⟨b, ws, jts, rfl, hl', _⟩ := atL I r2 q2; exact EqAt.none_list hl' hu0
      | tup es => obtain ⟨b, ws, jts, rfl, hl', _⟩ := atT I r2 q2; exact EqAt.none_tuple hl' hu0
      | non => cases (repC r2 q2); exact EqAt.same _
      | bl y => cases (repC r2 q2); exact EqAt.none_bool y
      | int y => obtain ⟨t, rfl⟩ := repC r2 q2; exact EqAt.none_int y t
      | str y => obtain ⟨t, rfl⟩ := repC r2 q2; exact EqAt.none_str y t
      | _ => cases n <;> simp [pl] at h2
    | bl x =>
      cases (repC r1 q1)
      cases e with
      | lst es => obtain ⟨b, ws, jts, rfl, hl', _⟩ := atL I r2 q2; exact EqAt.bool_list x hl' hu0
      | tup es => obtain ⟨b, ws, jts, rfl, hl', _⟩ := atT I r2 q2; exact EqAt.bool_tuple x hl' hu0
      | non => cases (repC r2 q2); exact EqAt.bool_none x
      | bl y => cases (repC r2 q2); exact EqAt.bool_bool x y
      | int y => obtain ⟨t, rfl⟩ := repC r2 q2; exact EqAt.bool_int x y t
      | str y => obtain ⟨t, rfl⟩ := repC r2 q2; exact EqAt.bool_str x y t
      | _ => cases n <;> simp [pl] at h2
    | int x =>
      obtain ⟨t0, rfl⟩ := repC r1 q1
      cases e with
      | lst es => obtain ⟨b, ws, jts, rfl, hl', _⟩ := atL I r2 q2; exact EqAt.int_list x t0 hl' hu0
      | tup es => obtain ⟨b, ws, jts, rfl, hl', _⟩ := atT I r2 q2; exact EqAt.int_tuple x t0 hl' hu0
      | non => cases (repC r2 q2); exact EqAt.int_none x t0
      | bl y => cases (repC r2 q2); exact EqAt.int_bool x t0 y
      | int y => obtain ⟨t, rfl⟩ := repC r2 q2; exact EqAt.int_int x t0 y t
      | str y => obtain ⟨t, rfl⟩ := repC r2 q2; exact EqAt.int_str x t0 y t
      | _ => cases n <;> simp [pl] at h2
    | str x =>
      obtain ⟨t0, rfl⟩ := repC r1 q1
      cases e with
      | lst es => obtain ⟨b, ws, jts, rfl, hl', _⟩ := atL I r2 q2; exact EqAt.str_list x t0 hl' hu0
      | tup es => obtain ⟨b, ws, jts, rfl, hl', _⟩ := atT I r2 q2; exact EqAt.str_tuple x t0 hl' hu0
      | non => cases (repC r2 q2); exact EqAt.str_none x t0
      | bl y => cases (repC r2 q2); exact EqAt.str_bool x t0 y
      | int y => obtain ⟨t, rfl⟩ := repC r2 q2; exact EqAt.str_int x t0 y t
      | str y => obtain ⟨t, rfl⟩ := repC r2 q2; exact EqAt.str_str x t0 y t
      | _ => cases n <;> simp [pl] at h2
    | _ => cases n <;> simp [pl] at h1
  termination_by n => (n, 0)
theorem eqAtDs (I : Inv X pins σ H s) : ∀ (n : Nat) (ds es : List D) (A : Around) (vs ws : List V) (us us' : List Value), (∀ d ∈ ds, pl n d = true) → (∀ d ∈ es, pl n d = true) → Reps W H ds vs → Reps W H es ws → Vals vs us → Vals ws us' → A.units + n < cLine →
    ∀ j (h1 : j < us.length) (h2 : j < us'.length), EqAt A s us[j] us'[j] (pairD ds es j)
  | n, [], es, A, vs, ws, us, us', h1, h2, r1, r2, q1, q2, hu, j, j1, j2 => by
    simp only [Reps] at r1
    subst r1
    cases q1
    exact absurd j1 (Nat.not_lt_zero _)
  | n, d :: ds, es, A, vs, ws, us, us', h1, h2, r1, r2, q1, q2, hu, j, j1, j2 => by
    simp only [Reps] at r1
    obtain ⟨v, r, rfl, p1, p2⟩ := r1
    cases es with
    | nil =>
      simp only [Reps] at r2
      subst r2
      cases q2
      exact absurd j2 (Nat.not_lt_zero _)
    | cons e es =>
      simp only [Reps] at r2
      obtain ⟨v', r', rfl, p1', p2'⟩ := r2
      cases q1 with
      | cons a1 b1 =>
        cases q2 with
        | cons a2 b2 =>
          cases j with
          | zero => exact eqAtD I n d e A v v' _ _ (h1 d (by simp)) (h2 e (by simp)) p1 p1' a1 a2 hu
          | succ j => exact eqAtDs I n ds es A r r' _ _ (fun x hx => h1 x (by simp [hx])) (fun x hx => h2 x (by simp [hx])) p2 p2' b1 b2 hu j (Nat.lt_of_succ_lt_succ j1) (Nat.lt_of_succ_lt_succ j2)
  termination_by n ds => (n, ds.length + 1)
end
end
end Pu
namespace Pu
open PySem PySem.Spec PyProof.Rows L2
open SeqAt
section
variable {X : Cx} {pins : List (Addr × Obj)} {σ : L2.St} {H : Hp} {s : Shared} {W : Wd}
theorem rcAtD (I : Inv X pins σ H s) {n : Nat} {d e : D} {A : Around} {v w : V} {u u' : Value} (h1 : pl n d = true) (h2 : pl n e = true) (r1 : Rep W H d v) (r2 : Rep W H e w) (q1 : RelV v u) (q2 : RelV w u') (hu : A.units + n < cLine) : RcAt A s u u' (deq d e) := by
  have hu0 : A.units < cLine := by omega
  cases d with
  | lst ds =>
    obtain ⟨a, vs, its, rfl, hl, rv, rr, ha⟩ := atL I r1 q1
    cases n with
    | zero => simp [pl] at h1
    | succ n =>
      cases e with
      | lst es =>
        obtain ⟨b, ws, jts, rfl, hl', rv', rr', hb⟩ := atL I r2 q2
        simp only [deq]
        have n1 : its.toArray.size = ds.length := by rw [List.size_toArray, ← rv.length, rr.len]
        have n2 : jts.toArray.size = es.length := by rw [List.size_toArray, ← rv'.length, rr'.len]
        have he : ∀ j (j1 : j < its.toArray.size) (j2 : j < jts.toArray.size), EqAt A.in1 s its.toArray[j] jts.toArray[j] (pairD ds es j) := fun j j1 j2 => by
          have := eqAtDs I n ds es A.in1 vs ws its jts (by simpa [pl] using h1) (by simpa [pl] using h2) rr rr' rv rv' (by show A.units + 1 + n < cLine; omega) j (by simpa using j1) (by simpa using j2)
          simpa using this
        by_cases hsz : its.toArray.size = jts.toArray.size
        · rw [← deqs_same (by omega : ds.length = es.length), ← n1]
          exact RcAt.lists hl hl' hsz hu0 he
        · rw [deqs_other (by omega : ds.length ≠ es.length)]
          exact RcAt.lists_lengths hl hl' (by simpa using hsz) hu0
      | tup es =>
        obtain ⟨b, ws, jts, rfl, hl', rv', rr', hb⟩ := atT I r2 q2
        exact RcAt.list_tuple hl hl' hu0
      | non => cases (repC r2 q2); exact RcAt.list_none hl hu0
      | bl y => cases (repC r2 q2); exact RcAt.list_bool y hl hu0
      | int y => obtain ⟨t, rfl⟩ := repC r2 q2; exact RcAt.list_int y t hl hu0
      | str y => obtain ⟨t, rfl⟩ := repC r2 q2; exact RcAt.list_str y t hl hu0
      | _ => simp [pl] at h2
  | tup ds =>
    obtain ⟨a, vs, its, rfl, hl, rv, rr, ha⟩ := atT I r1 q1
    cases n with
    | zero => simp [pl] at h1
    | succ n =>
      cases e with
      | tup es =>
        obtain ⟨b, ws, jts, rfl, hl', rv', rr', hb⟩ := atT I r2 q2
        simp only [deq]
        have n1 : its.toArray.size = ds.length := by rw [List.size_toArray, ← rv.length, rr.len]
        have n2 : jts.toArray.size = es.length := by rw [List.size_toArray, ← rv'.length, rr'.len]
        have he : ∀ j (j1 : j < its.toArray.size) (j2 : j < jts.toArray.size), EqAt A.in1 s its.toArray[j] jts.toArray[j] (pairD ds es j) := fun j j1 j2 => by
          have := eqAtDs I n ds es A.in1 vs ws its jts (by simpa [pl] using h1) (by simpa [pl] using h2) rr rr' rv rv' (by show A.units + 1 + n < cLine; omega) j (by simpa using j1) (by simpa using j2)
          simpa using this
        rw [← deqs_eq ds es, ← n1, ← n2]
        exact RcAt.tuples hl hl' hu0 he
      | lst es =>
        obtain ⟨b, ws, jts, rfl, hl', rv', rr', hb⟩ := atL I r2 q2
        exact RcAt.tuple_list hl hl' hu0
      | non => cases (repC r2 q2); exact RcAt.tuple_none hl hu0
      | bl y => cases (repC r2 q2); exact RcAt.tuple_bool y hl hu0
      | int y => obtain ⟨t, rfl⟩ := repC r2 q2; exact RcAt.tuple_int y t hl hu0
      | str y => obtain ⟨t, rfl⟩ := repC r2 q2; exact RcAt.tuple_str y t hl hu0
      | _ => simp [pl] at h2
  | non =>
    cases (repC r1 q1)
    cases e with
    | lst es => obtain ⟨b, ws, jts, rfl, hl', _⟩ := atL I r2 q2; exact RcAt.none_list hl' hu0
    | tup es => obtain ⟨b, ws, jts, rfl, hl', _⟩ := atT I r2 q2; exact RcAt.none_tuple hl' hu0
    | non => cases (repC r2 q2); exact RcAt.none_none
    | bl y => cases (repC r2 q2); exact RcAt.none_bool y
    | int y => obtain ⟨t, rfl⟩ := repC r2 q2; exact RcAt.none_int y t
    | str y => obtain ⟨t, rfl⟩ := repC r2 q2; exact RcAt.none_str y t
    | _ => cases n <;> simp [pl] at h2
  | bl x =>
    cases (repC r1 q1)
    cases e with
    | lst es => obtain ⟨b, ws, jts, rfl, hl', _⟩ := atL I r2 q2; exact RcAt.bool_list x hl' hu0
    | tup es => obtain ⟨b, ws, jts, rfl, hl', _⟩ := atT I r2 q2; exact RcAt.bool_tuple x hl' hu0
    | non => cases (repC r2 q2); exact RcAt.bool_none x
    | bl y => cases (repC r2 q2); exact RcAt.bool_bool x y
    | int y => obtain ⟨t, rfl⟩ := repC r2 q2; exact RcAt.bool_int x y t
    | str y => obtain ⟨t, rfl⟩ := repC r2 q2; exact RcAt.bool_str x y t
    | _ => cases n <;> simp [pl] at h2
  | int x =>
    obtain ⟨t0, rfl⟩ := repC r1 q1
    cases e with
    | lst es => obtain ⟨b, ws, jts, rfl, hl', _⟩ := atL I r2 q2; exact RcAt.int_list x t0 hl' hu0
    | tup es => obtain ⟨b, ws, jts, rfl, hl', _⟩ := atT I r2 q2; exact RcAt.int_tuple x t0 hl' hu0
    | non => cases (repC r2 q2); exact RcAt.int_none x t0
    | bl y => cases (repC r2 q2); exact RcAt.int_bool x t0 y
    | int y => obtain ⟨t, rfl⟩ := repC r2 q2; exact RcAt.int_int x t0 y t
    | str y => obtain ⟨t, rfl⟩ := repC r2 q2; exact RcAt.int_str x t0 y t
    | _ => cases n <;> simp [pl] at h2
  | str x =>
    obtain ⟨t0, rfl⟩ := repC r1 q1
    cases e with
    | lst es => obtain ⟨b, ws, jts, rfl, hl', _⟩ := atL I r2 q2; exact RcAt.str_list x t0 hl' hu0
    | tup es => obtain ⟨b, ws, jts, rfl, hl', _⟩ := atT I r2 q2; exact RcAt.str_tuple x t0 hl' hu0
    | non => cases (repC r2 q2); exact RcAt.str_none x t0
    | bl y => cases (repC r2 q2); exact RcAt.str_bool x t0 y
    | int y => obtain ⟨t, rfl⟩ := repC r2 q2; exact RcAt.str_int x t0 y t
    | str y => obtain ⟨t, rfl⟩ := repC r2 q2; exact RcAt.str_str x t0 y t
    | _ => cases n <;> simp [pl] at h2
  | _ => cases n <;> simp [pl] at h1
theorem rcNeD (I : Inv X pins σ H s) {n : Nat} {d e : D} {A : Around} {v w : V} {u u' : Value} (h1 : pl n d = true) (h2 : pl n e = true) (r1 : Rep W H d v) (r2 : Rep W H e w) (q1 : RelV v u) (q2 : RelV w u') (hu : A.units + n < cLine) : RcNeAt A s u u' (!deq d e) := by
  have hu0 : A.units < cLine := by omega
  cases d with
  | lst ds =>
    obtain ⟨a, vs, its, rfl, hl, rv, rr, ha⟩ := atL I r1 q1
    cases n with
    | zero => simp [pl] at h1
    | succ n =>
      cases e with
      | lst es =>
        obtain ⟨b, ws, jts, rfl, hl', rv', rr', hb⟩ := atL I r2 q2
        simp only [deq]
        have n1 : its.toArray.size = ds.length := by rw [List.size_toArray, ← rv.length, rr.len]
        have n2 : jts.toArray.size = es.length := by rw [List.size_toArray, ← rv'.length, rr'.len]
        have he : ∀ j (j1 : j < its.toArray.size) (j2 : j < jts.toArray.size), EqAt A.in1 s its.toArray[j] jts.toArray[j] (pairD ds es j) := fun j j1 j2 => by
          have := eqAtDs I n ds es A.in1 vs ws its jts (by simpa [pl] using h1) (by simpa [pl] using h2) rr rr' rv rv' (by show A.units + 1 + n < cLine; omega) j (by simpa using j1) (by simpa using j2)
          simpa using this
        by_cases hsz : its.toArray.size = jts.toArray.size
        · rw [← deqs_same (by omega : ds.length = es.length), ← n1]
          exact RcNeAt.lists hl hl' hsz hu0 he
        · rw [deqs_other (by omega : ds.length ≠ es.length)]
          exact RcNeAt.lists_lengths hl hl' (by simpa using hsz) hu0
      | tup es =>
        obtain ⟨b, ws, jts, rfl, hl', rv', rr', hb⟩ := atT I r2 q2
        exact RcNeAt.list_tuple hl hl' hu0
      | non => cases (repC r2 q2); exact RcNeAt.list_none hl hu0
      | bl y => cases (repC r2 q2); exact RcNeAt.list_bool y hl hu0
      | int y => obtain ⟨t, rfl⟩ := repC r2 q2; exact RcNeAt.list_int y t hl hu0
      | str y => obtain ⟨t, rfl⟩ := repC r2 q2; exact RcNeAt.list_str y t hl hu0
      | _ => simp [pl] at h2
  | tup ds =>
    obtain ⟨a, vs, its, rfl, hl, rv, rr, ha⟩ := atT I r1 q1
    cases n with
    | zero => simp [pl] at h1
    | succ n =>
      cases e with
      | tup es =>
        obtain ⟨b, ws, jts, rfl, hl', rv', rr', hb⟩ := atT I r2 q2
        simp only [deq]
        have n1 : its.toArray.size = ds.length := by rw [List.size_toArray, ← rv.length, rr.len]
        have n2 : jts.toArray.size = es.length := by rw [List.size_toArray, ← rv'.length, rr'.len]
        have he : ∀ j (j1 : j < its.toArray.size) (j2 : j < jts.toArray.size), EqAt A.in1 s its.toArray[j] jts.toArray[j] (pairD ds es j) := fun j j1 j2 => by
          have := eqAtDs I n ds es A.in1 vs ws its jts (by simpa [pl] using h1) (by simpa [pl] using h2) rr rr' rv rv' (by show A.units + 1 + n < cLine; omega) j (by simpa using j1) (by simpa using j2)
          simpa using this
        rw [← deqs_eq ds es, ← n1, ← n2]
        exact RcNeAt.tuples hl hl' hu0 he
      | lst es =>
        obtain ⟨b, ws, jts, rfl, hl', rv', rr', hb⟩ := atL I r2 q2
        exact RcNeAt.tuple_list hl hl' hu0
      | non => cases (repC r2 q2); exact RcNeAt.tuple_none hl hu0
      | bl y => cases (repC r2 q2); exact RcNeAt.tuple_bool y hl hu0
      | int y => obtain ⟨t, rfl⟩ := repC r2 q2; exact RcNeAt.tuple_int y t hl hu0
      | str y => obtain ⟨t, rfl⟩ := repC r2 q2; exact RcNeAt.tuple_str y t hl hu0
      | _ => simp [pl] at h2
  | non =>
    cases (repC r1 q1)
    cases e with
    | lst es => obtain ⟨b, ws, jts, rfl, hl', _⟩ := atL I r2 q2; exact RcNeAt.none_list hl' hu0
    | tup es => obtain ⟨b, ws, jts, rfl, hl', _⟩ := atT I r2 q2; exact RcNeAt.none_tuple hl' hu0
    | non => cases (repC r2 q2); exact RcNeAt.none_none
    | bl y => cases (repC r2 q2); exact RcNeAt.none_bool y
    | int y => obtain ⟨t, rfl⟩ := repC r2 q2; exact RcNeAt.none_int y t
    | str y => obtain ⟨t, rfl⟩ := repC r2 q2; exact RcNeAt.none_str y t
    | _ => cases n <;> simp [pl] at h2
  | bl x =>
    cases (repC r1 q1)
    cases e with
    | lst es => obtain ⟨b, ws, jts, rfl, hl', _⟩ := atL I r2 q2; exact RcNeAt.bool_list x hl' hu0
    | tup es => obtain ⟨b, ws, jts, rfl, hl', _⟩ := atT I r2 q2; exact RcNeAt.bool_tuple x hl' hu0
    | non => cases (repC r2 q2); exact RcNeAt.bool_none x
    | bl y => cases (repC r2 q2); exact RcNeAt.bool_bool x y
    | int y => obtain ⟨t, rfl⟩ := repC r2 q2; exact RcNeAt.bool_int x y t
    | str y => obtain ⟨t, rfl⟩ := repC r2 q2; exact RcNeAt.bool_str x y t
    | _ => cases n <;> simp [pl] at h2
  | int x =>
    obtain ⟨t0, rfl⟩ := repC r1 q1
    cases e with
    | lst es => obtain ⟨b, ws, jts, rfl, hl', _⟩ := atL I r2 q2; exact RcNeAt.int_list x t0 hl' hu0
    | tup es => obtain ⟨b, ws, jts, rfl, hl', _⟩ := atT I r2 q2; exact RcNeAt.int_tuple x t0 hl' hu0
    | non => cases (repC r2 q2); exact RcNeAt.int_none x t0
    | bl y => cases (repC r2 q2); exact RcNeAt.int_bool x t0 y
    | int y => obtain ⟨t, rfl⟩ := repC r2 q2; exact RcNeAt.int_int x t0 y t
    | str y => obtain ⟨t, rfl⟩ := repC r2 q2; exact RcNeAt.int_str x t0 y t
    | _ => cases n <;> simp [pl] at h2
  | str x =>
    obtain ⟨t0, rfl⟩ := repC r1 q1
    cases e with
    | lst es => obtain ⟨b, ws, jts, rfl, hl', _⟩ := atL I r2 q2; exact RcNeAt.str_list x t0 hl' hu0
    | tup es => obtain ⟨b, ws, jts, rfl, hl', _⟩ := atT I r2 q2; exact RcNeAt.str_tuple x t0 hl' hu0
    | non => cases (repC r2 q2); exact RcNeAt.str_none x t0
    | bl y => cases (repC r2 q2); exact RcNeAt.str_bool x t0 y
    | int y => obtain ⟨t, rfl⟩ := repC r2 q2; exact RcNeAt.str_int x t0 y t
    | str y => obtain ⟨t, rfl⟩ := repC r2 q2; exact RcNeAt.str_str x t0 y t
    | _ => cases n <;> simp [pl] at h2
  | _ => cases n <;> simp [pl] at h1
end
end Pu
namespace Pu
open PySem PySem.Spec PyProof.Rows L2
/-! ## operators of data -/
def oI (C : Int → Int → Prop) (g : Int → Int → Int) : DOp := fun x y Q _ => match x, y with
  | .int i, .int j => C i j ∧ Q (.int (g i j))
  | _, _ => False
def oB (g : Int → Int → Bool) : DOp := fun x y Q _ => match x, y with
  | .int i, .int j => Q (.bl (g i j))
  | _, _ => False
def oAdd : DOp := fun x y Q _ => match x, y with
  | .int i, .int j => Q (.int (i + j))
  | .str a, .str b => a.length + b.length ≤ 100000 ∧ Q (.str (a ++ b))
  | .lst xs, .lst ys => xs.length + ys.length ≤ 100000 ∧ Q (.lst (xs ++ ys))
  | .tup xs, .tup ys => xs.length + ys.length ≤ 100000 ∧ Q (.tup (xs ++ ys))
  | _, _ => False
def oEq : DOp := fun x y Q _ => pl 60 x = true ∧ pl 60 y = true ∧ Q (.bl (deq x y))
def oNe : DOp := fun x y Q _ => pl 60 x = true ∧ pl 60 y = true ∧ Q (.bl (!deq x y))
def isNon : D → Bool
  | .non => true
  | .val v => decide (v = .non)
  | _ => false
def oIsN (neg : Bool) : DOp := fun x y Q _ => match y with
  | .non => Q (.bl (if neg then !isNon x else isNon x))
  | _ => False
def oIsB : DOp := fun x y Q _ => match x, y with
  | .bl a, .bl b => Q (.bl (decide (a = b)))
  | _, _ => False
def oIn (neg : Bool) : DOp := fun x y Q _ => match y with
  | .lst ds => pl 50 x = true ∧ ds.all (pl 50) = true ∧ Q (.bl (if neg then !ds.any (fun d => deq d x) else ds.any fun d => deq d x))
  | .tup ds => pl 50 x = true ∧ ds.all (pl 50) = true ∧ Q (.bl (if neg then !ds.any (fun d => deq d x) else ds.any fun d => deq d x))
  | .str z => ∃ c : Nat, x = .str ⟨#[c]⟩ ∧ Q (.bl (if neg then !decide (c ∈ z.cps.toList) else decide (c ∈ z.cps.toList)))
  | _ => False
theorem le_line {n : Nat} (h : n ≤ 100000) : n ≤ sizeLine := by rw [sizeLine_eq]; omega
section
variable {B : Bs} {X : Cx} {Wx : WX}
theorem XO.of {f : Value → Value → Sem Value} {o : DOp} {r : R2} (h : OpR X f r) (k : ∀ S H x y dx dy Q E k, WOk (B.W.at S) H → Rep (B.W.at S) H dx x → Rep (B.W.at S) H dy y → o dx dy Q E → KE (B.W.at S) H Q k → r x y H k) : XO B X Wx f o :=
  ⟨fun _ => r, fun pins s σ H x y v u Q => h pins s σ H x y v u Q, fun S σ H x y dx dy Q E kk w r1 r2 q ke _ => k S H x y dx dy Q E kk w r1 r2 q ke⟩
theorem XO.imp {f : Value → Value → Sem Value} {o o' : DOp} (h : XO B X Wx f o) (k : ∀ x y Q E, o' x y Q E → o x y Q E) : XO B X Wx f o' := by
  obtain ⟨r, h1, h2⟩ := h.ex
  exact ⟨r, h1, fun S σ H x y dx dy Q E kk w r1 r2 q => h2 S σ H x y dx dy Q E kk w r1 r2 (k _ _ _ _ q)⟩
theorem XO.or {f : Value → Value → Sem Value} {o o' : DOp} (h : XO B X Wx f o) (h' : XO B X Wx f o') : XO B X Wx f (fun x y Q E => o x y Q E ∨ o' x y Q E) := by
  obtain ⟨r, h1, h2⟩ := h.ex
  obtain ⟨r', h1', h2'⟩ := h'.ex
  refine ⟨fun σ x y H Q => r σ x y H Q ∨ r' σ x y H Q, fun pins s σ H x y v u Q I rx ry q => ?_, fun S σ H x y dx dy Q E kk w r1 r2 q ke kx => ?_⟩
  · rcases q with q | q
    · exact h1 pins s σ H x y v u Q I rx ry q
    · exact h1' pins s σ H x y v u Q I rx ry q
  · rcases q with q | q
    · exact .inl (h2 S σ H x y dx dy Q E kk w r1 r2 q ke kx)
    · exact .inr (h2' S σ H x y dx dy Q E kk w r1 r2 q ke kx)
theorem repI {W : Wd} {H : Hp} {i : Int} {v : V} (h : Rep W H (.int i) v) : v = .int i := by simpa only [Rep] using h
theorem repS {W : Wd} {H : Hp} {i : Str} {v : V} (h : Rep W H (.str i) v) : v = .str i := by simpa only [Rep] using h
theorem repB {W : Wd} {H : Hp} {i : Bool} {v : V} (h : Rep W H (.bl i) v) : v = .bl i := by simpa only [Rep] using h
theorem mkI {W : Wd} {H : Hp} {i : Int} : Rep W H (.int i) (.int i) := by simp only [Rep]
theorem mkS {W : Wd} {H : Hp} {i : Str} : Rep W H (.str i) (.str i) := by simp only [Rep]
theorem mkB {W : Wd} {H : Hp} {i : Bool} : Rep W H (.bl i) (.bl i) := by simp only [Rep]
theorem mkN {W : Wd} {H : Hp} : Rep W H .non .non := by simp only [Rep]
theorem mkT {W : Wd} {H : Hp} {a : Addr} {ds : List D} {vs : List V} (n : ¬ W.S a) (e : Rd H a (.tup vs)) (r : Reps W H ds vs) : Rep W H (.tup ds) (.ref a) := by
  simp only [Rep]
  exact ⟨a, vs, rfl, n, e, r⟩
theorem mkL {W : Wd} {H : Hp} {a : Addr} {ds : List D} {vs : List V} (n : ¬ W.S a) (e : H a = some (.lst vs)) (r : Reps W H ds vs) : Rep W H (.lst ds) (.ref a) := by
  simp only [Rep]
  exact ⟨a, vs, rfl, n, e, r⟩
theorem xo_I {f : Value → Value → Sem Value} {C : Int → Int → Prop} {g : Int → Int → Int} (h : OpR X f (rI C fun i j => .int (g i j))) : XO B X Wx f (oI C g) := .of h fun S H x y dx dy Q E k w r1 r2 q ke => by
  cases dx <;> cases dy <;> first | exact False.elim q | skip
  exact ⟨_, _, repI r1, repI r2, q.1, ke _ H _ (Fut.refl w) mkI q.2⟩
theorem xo_I0 {f : Value → Value → Sem Value} {g : Int → Int → Int} (h : OpR X f (rI0 fun i j => .int (g i j))) : XO B X Wx f (oI (fun _ _ => True) g) := .of h fun S H x y dx dy Q E k w r1 r2 q ke => by
  cases dx <;> cases dy <;> first | exact False.elim q | skip
  exact ⟨_, _, repI r1, repI r2, ke _ H _ (Fut.refl w) mkI q.2⟩
theorem xo_B {f : Value → Value → Sem Value} {g : Int → Int → Bool} (h : OpR X f (rI0 fun i j => .bl (g i j))) : XO B X Wx f (oB g) := .of h fun S H x y dx dy Q E k w r1 r2 q ke => by
  cases dx <;> cases dy <;> first | exact False.elim q | skip
  exact ⟨_, _, repI r1, repI r2, ke _ H _ (Fut.refl w) mkB q⟩
def oSub : DOp := oI (fun _ _ => True) fun i j => i - j
def oMul : DOp := oI CMulW fun i j => i * j
def oFdiv : DOp := oI (fun _ j => j ≠ 0 ∧ j.natAbs.log2 < 9000) Int.fdiv
def oMod : DOp := oI (fun _ j => j ≠ 0) Int.fmod
def oPow : DOp := oI CPow fun i j => i ^ j.toNat
def oLt : DOp := oB fun i j => decide (i < j)
def oLe : DOp := oB fun i j => decide (i ≤ j)
def oGt : DOp := oB fun i j => decide (j < i)
def oGe : DOp := oB fun i j => decide (j ≤ i)
theorem xo_sub : XO B X Wx (binaryOp .Sub) oSub := xo_I0 op_sub
theorem xo_mul : XO B X Wx (binaryOp .Mult) oMul := xo_I op_mulW
theorem op_fdivZ : OpR X (binaryOp .FloorDiv) (rI (fun _ j => j ≠ 0 ∧ j.natAbs.log2 < 9000) fun i j => .int (i.fdiv j)) := opI fun i j _ _ _ _ _ hc q => PyProof.Rows.floordiv_int hc.1 q (.inl (PyProof.noPylong_of_log2 hc.2))
theorem xo_fdiv : XO B X Wx (binaryOp .FloorDiv) oFdiv := xo_I op_fdivZ
theorem xo_mod : XO B X Wx (binaryOp .Mod) oMod := xo_I op_modN
theorem xo_pow : XO B X Wx (binaryOp .Pow) oPow := xo_I op_pow
theorem xo_lt : XO B X Wx (compareOp .Lt) oLt := xo_B op_lt
theorem xo_le : XO B X Wx (compareOp .LtE) oLe := xo_B op_le
theorem xo_gt : XO B X Wx (compareOp .Gt) oGt := xo_B op_gt
theorem xo_ge : XO B X Wx (compareOp .GtE) oGe := xo_B op_ge
theorem xo_add : XO B X Wx (binaryOp .Add) oAdd := .of (op_add.or (op_add_str.or (op_cat.or op_catA))) fun S H x y dx dy Q E k w r1 r2 q ke => by
  cases dx <;> cases dy <;> first | exact False.elim q | skip
  · exact .inl ⟨_, _, repI r1, repI r2, ke _ H _ (Fut.refl w) mkI q⟩
  · exact .inr (.inl ⟨_, _, repS r1, repS r2, le_line q.1, ke _ H _ (Fut.refl w) mkS q.2⟩)
  · obtain ⟨a, vs, rfl, n1, e1, z1⟩ := repL r1
    obtain ⟨b, ws, rfl, n2, e2, z2⟩ := repL r2
    refine .inr (.inr (.inl ⟨a, b, vs, ws, rfl, rfl, e1, e2, le_line (by rw [z1.len, z2.len]; exact q.1), fun p hp => ?_⟩))
    have f := fut_new (o := .lst (vs ++ ws)) w hp
    exact ke _ _ _ f (mkL (w.new hp) upd_same ((z1.app z2).fut w f)) q.2
  · rename_i xs ys
    obtain ⟨a, vs, rfl, n1, e1, z1⟩ := repT r1
    obtain ⟨b, ws, rfl, n2, e2, z2⟩ := repT r2
    refine .inr (.inr (.inr ⟨a, b, vs, ws, rfl, rfl, (.inl e1), (.inl e2), le_line (by rw [z1.len, z2.len]; exact q.1), fun h => ?_, fun _ h => ?_, fun _ _ p hp => ?_⟩))
    · subst h
      have := z1.len
      have : xs = [] := List.eq_nil_of_length_eq_zero (by simpa using this.symm)
      subst this
      exact ke _ _ _ (Fut.refl w) (mkT n2 e2 z2) q.2
    · subst h
      have := z2.len
      have : ys = [] := List.eq_nil_of_length_eq_zero (by simpa using this.symm)
      subst this
      exact ke _ _ _ (Fut.refl w) (mkT n1 e1 z1) (by have := q.2; rwa [List.append_nil] at this)
    · have f := fut_new (o := .tup (vs ++ ws)) w hp
      exact ke _ _ _ f (mkT (w.new hp) (.inl upd_same) ((z1.app z2).fut w f)) q.2
def rEqP : R2 := fun x y H Q => ∃ (W : Wd) (d e : D), pl 60 d = true ∧ pl 60 e = true ∧ Rep W H d x ∧ Rep W H e y ∧ Q (.bl (deq d e)) H
def rNeP : R2 := fun x y H Q => ∃ (W : Wd) (d e : D), pl 60 d = true ∧ pl 60 e = true ∧ Rep W H d x ∧ Rep W H e y ∧ Q (.bl (!deq d e)) H
theorem op_eqP (hu : X.A.units + 64 < cLine) : OpR X (compareOp .Eq) rEqP := by
  intro pins s σ H x y v u Q I rx ry h
  obtain ⟨W, d, e, h1, h2, r1, r2, q⟩ := h
  exact rcAtD I h1 h2 r1 r2 rx ry (by omega) _ _ _ _ ⟨.bl _, H, I, rfl, q⟩
theorem op_neP (hu : X.A.units + 64 < cLine) : OpR X (compareOp .NotEq) rNeP := by
  intro pins s σ H x y v u Q I rx ry h
  obtain ⟨W, d, e, h1, h2, r1, r2, q⟩ := h
  exact rcNeD I h1 h2 r1 r2 rx ry (by omega) _ _ _ _ ⟨.bl _, H, I, rfl, q⟩
theorem xo_eq {k : Nat} (hr : Room k X.A) : XO B X Wx (compareOp .Eq) oEq := .of (op_eqP hr.units) fun S H x y dx dy Q E k w r1 r2 q ke =>
  ⟨_, dx, dy, q.1, q.2.1, r1, r2, ke _ H _ (Fut.refl w) mkB q.2.2⟩
theorem xo_ne {k : Nat} (hr : Room k X.A) : XO B X Wx (compareOp .NotEq) oNe := .of (op_neP hr.units) fun S H x y dx dy Q E k w r1 r2 q ke =>
  ⟨_, dx, dy, q.1, q.2.1, r1, r2, ke _ H _ (Fut.refl w) mkB q.2.2⟩
theorem isNon_ok {W : Wd} {H : Hp} {d : D} {v : V} (h : Rep W H d v) : decide (v = .non) = isNon d := by
  cases d <;> simp only [Rep] at h <;> first
    | (subst h; simp [isNon]; done)
    | (obtain ⟨a, b, e, rfl⟩ := h; simp [isNon]; done)
    | (obtain ⟨a, b, rfl, _⟩ := h; simp [isNon]; done)
    | (obtain ⟨a, b, e, rfl, _⟩ := h; simp [isNon]; done)
theorem xo_isN : XO B X Wx (compareOp .Is) (oIsN false) := .of op_isN fun S H x y dx dy Q E k w r1 r2 q ke => by
  cases dy <;> first | exact False.elim q | skip
  refine ⟨by simpa only [Rep] using r2, ?_⟩
  rw [isNon_ok r1]
  exact ke _ H _ (Fut.refl w) mkB q
theorem xo_notN : XO B X Wx (compareOp .IsNot) (oIsN true) := .of op_notN fun S H x y dx dy Q E k w r1 r2 q ke => by
  cases dy <;> first | exact False.elim q | skip
  refine ⟨by simpa only [Rep] using r2, ?_⟩
  rw [isNon_ok r1]
  exact ke _ H _ (Fut.refl w) mkB q
theorem xo_isB : XO B X Wx (compareOp .Is) oIsB := .of op_isBl fun S H x y dx dy Q E k w r1 r2 q ke => by
  cases dx <;> cases dy <;> first | exact False.elim q | skip
  exact ⟨_, _, repB r1, repB r2, ke _ H _ (Fut.refl w) mkB q⟩
/-! in, not in -/
open SeqAt in
theorem mem_eqAtD {pins : List (Addr × Obj)} {σ : L2.St} {H : Hp} {s : Shared} {W : Wd} (I : Inv X pins σ H s) {A : Around} {n : Nat} {d : D} {v : V} {u : Value} (hd : pl n d = true) (r : Rep W H d v) (q : RelV v u) (hu : A.units + n < cLine) :
    ∀ {ds : List D} {vs : List V} {us : List Value}, Reps W H ds vs → Vals vs us → (∀ x ∈ ds, pl n x = true) → ∃ e : Value → Bool, (∀ y, y ∈ us → EqAt A s y u (e y)) ∧ us.any e = ds.any fun x => deq x d := by
  intro ds vs us rs qs hp
  refine ⟨fun y => @decide (∃ x w, x ∈ ds ∧ Rep W H x w ∧ RelV w y ∧ deq x d = true) (Classical.propDecidable _), ?_, ?_⟩
  · intro y hy
    obtain ⟨i, hi, rfl⟩ := List.getElem_of_mem hy
    have hl : vs.length = us.length := qs.length
    obtain ⟨w, ew, rw_⟩ : ∃ w, vs[i]? = some w ∧ RelV w us[i] := by
      have hv : i < vs.length := by omega
      obtain ⟨u', e1, e2⟩ := qs.get (List.getElem?_eq_getElem hv)
      rw [List.getElem?_eq_getElem hi] at e1
      cases e1
      exact ⟨_, List.getElem?_eq_getElem hv, e2⟩
    obtain ⟨x, ex, rx⟩ := rs.get' ew
    have hx := List.mem_of_getElem? ex
    have key := eqAtD I n x d A w v _ u (hp x hx) hd rx r rw_ q hu
    have : @decide (∃ x w, x ∈ ds ∧ Rep W H x w ∧ RelV w us[i] ∧ deq x d = true) (Classical.propDecidable _) = deq x d := by
      cases hq : deq x d with
      | true => exact @decide_eq_true _ (Classical.propDecidable _) ⟨x, w, hx, rx, rw_, hq⟩
      | false =>
        refine @decide_eq_false _ (Classical.propDecidable _) ?_
        rintro ⟨x', w', hx', rx', rw', hq'⟩
        have e1 := RelV.inj rw_ rw'
        subst e1
        rw [Rep.uniq n x x' w (hp x hx) (hp x' hx') rx rx', hq'] at hq
        cases hq
    have key2 : EqAt A s us[i] u (@decide (∃ x w, x ∈ ds ∧ Rep W H x w ∧ RelV w us[i] ∧ deq x d = true) (Classical.propDecidable _)) := by
      rw [this]
      exact key
    exact key2
  · rw [Bool.eq_iff_iff, List.any_eq_true, List.any_eq_true]
    constructor
    · rintro ⟨y, hy, h⟩
      obtain ⟨x, w, hx, _, _, hq⟩ := @of_decide_eq_true _ (Classical.propDecidable _) h
      exact ⟨x, hx, hq⟩
    · rintro ⟨x, hx, hq⟩
      obtain ⟨i, hi, rfl⟩ := List.getElem_of_mem hx
      obtain ⟨w, ew, rw_⟩ := rs.get (List.getElem?_eq_getElem hi)
      obtain ⟨u', e1, e2⟩ := qs.get ew
      exact ⟨u', List.mem_of_getElem? e1, @decide_eq_true _ (Classical.propDecidable _) ⟨_, w, hx, rw_, e2, hq⟩⟩
def rInP (neg : Bool) : R2 := fun x y H Q => ∃ (W : Wd) (d : D) (ds : List D), pl 50 d = true ∧ ds.all (pl 50) = true ∧ Rep W H d x ∧ (Rep W H (.lst ds) y ∨ Rep W H (.tup ds) y) ∧ Q (.bl (if neg then !ds.any (fun x => deq x d) else ds.any fun x => deq x d)) H
theorem op_inP (hu : X.A.units + 64 < cLine) : OpR X (compareOp .In) (rInP false) := by
  intro pins s σ H x y v u Q I rx ry h
  obtain ⟨W, d, ds, h1, h2, r1, r2, q⟩ := h
  rcases r2 with r2 | r2
  · obtain ⟨a, vs, its, rfl, hl, rv, rr, _⟩ := atL I r2 ry
    obtain ⟨e, he, ea⟩ := mem_eqAtD I (A := X.A.in1) h1 r1 rx (by show X.A.units + 1 + 50 < cLine; omega) rr rv (by simpa using h2)
    refine SeqAt.in_listAt e hl (fun y hy => he y (by simpa using hy)) ?_
    rw [List.any_toArray, ea]
    exact ⟨.bl _, H, I, rfl, q⟩
  · obtain ⟨a, vs, its, rfl, hl, rv, rr, _⟩ := atT I r2 ry
    obtain ⟨e, he, ea⟩ := mem_eqAtD I (A := X.A.in1) h1 r1 rx (by show X.A.units + 1 + 50 < cLine; omega) rr rv (by simpa using h2)
    refine SeqAt.in_tupleAt e hl (fun y hy => he y (by simpa using hy)) ?_
    rw [List.any_toArray, ea]
    exact ⟨.bl _, H, I, rfl, q⟩
theorem op_notInP (hu : X.A.units + 64 < cLine) : OpR X (compareOp .NotIn) (rInP true) := by
  intro pins s σ H x y v u Q I rx ry h
  obtain ⟨W, d, ds, h1, h2, r1, r2, q⟩ := h
  rcases r2 with r2 | r2
  · obtain ⟨a, vs, its, rfl, hl, rv, rr, _⟩ := atL I r2 ry
    obtain ⟨e, he, ea⟩ := mem_eqAtD I (A := X.A.in1) h1 r1 rx (by show X.A.units + 1 + 50 < cLine; omega) rr rv (by simpa using h2)
    refine SeqAt.notIn_listAt e hl (fun y hy => he y (by simpa using hy)) ?_
    rw [List.any_toArray, ea]
    exact ⟨.bl _, H, I, rfl, q⟩
  · obtain ⟨a, vs, its, rfl, hl, rv, rr, _⟩ := atT I r2 ry
    obtain ⟨e, he, ea⟩ := mem_eqAtD I (A := X.A.in1) h1 r1 rx (by show X.A.units + 1 + 50 < cLine; omega) rr rv (by simpa using h2)
    refine SeqAt.notIn_tupleAt e hl (fun y hy => he y (by simpa using hy)) ?_
    rw [List.any_toArray, ea]
    exact ⟨.bl _, H, I, rfl, q⟩
theorem xo_in {k : Nat} (hr : Room k X.A) : XO B X Wx (compareOp .In) (oIn false) := .of ((op_inP hr.units).or op_in_sign) fun S H x y dx dy Q E k w r1 r2 q ke => by
  cases dy <;> first | exact False.elim q | skip
  · obtain ⟨c, rfl, q⟩ := q
    exact .inr ⟨c, _, repS r1, repS r2, ke _ H _ (Fut.refl w) mkB q⟩
  · exact .inl ⟨_, dx, _, q.1, q.2.1, r1, .inl r2, ke _ H _ (Fut.refl w) mkB q.2.2⟩
  · exact .inl ⟨_, dx, _, q.1, q.2.1, r1, .inr r2, ke _ H _ (Fut.refl w) mkB q.2.2⟩
theorem xo_notIn {k : Nat} (hr : Room k X.A) : XO B X Wx (compareOp .NotIn) (oIn true) := .of ((op_notInP hr.units).or op_notIn_sign) fun S H x y dx dy Q E k w r1 r2 q ke => by
  cases dy <;> first | exact False.elim q | skip
  · obtain ⟨c, rfl, q⟩ := q
    exact .inr ⟨c, _, repS r1, repS r2, ke _ H _ (Fut.refl w) mkB q⟩
  · exact .inl ⟨_, dx, _, q.1, q.2.1, r1, .inl r2, ke _ H _ (Fut.refl w) mkB q.2.2⟩
  · exact .inl ⟨_, dx, _, q.1, q.2.1, r1, .inr r2, ke _ H _ (Fut.refl w) mkB q.2.2⟩
def oNeg : DUn := fun x Q _ => match x with
  | .int i => Q (.int (-i))
  | _ => False
theorem xu_neg : XU B X Wx (unaryOp .USub) oNeg := ⟨fun _ => rU fun i => .int (-i), fun pins s σ H x v Q => un_neg pins s σ H x v Q, fun S σ H x dx Q E k w r1 q ke _ => by
  cases dx <;> first | exact False.elim q | skip
  exact ⟨_, repI r1, ke _ H _ (Fut.refl w) mkI q⟩⟩
end
end Pu
namespace Pu
open PySem PySem.Spec PyProof.Rows L2
open PySem.W (findIn kitOne kitAny clsIn typeIn subIn mroIn)
/-! ## subscripts -/
def cutD (xs : List D) (lo hi : Option Int) : List D := (xs.drop (HT.sIx xs.length 0 lo)).take (HT.sIx xs.length xs.length hi - HT.sIx xs.length 0 lo)
def oIx : DOp := fun x y Q _ => match x, y with
  | .lst ds, .int i => match atI ds i with
    | some d => Q d
    | none => False
  | .tup ds, .int i => match atI ds i with
    | some d => Q d
    | none => False
  | .str z, .int i => z.length ≤ 100000 ∧ match atI z.cps.toList i with
    | some c => Q (.str ⟨#[c]⟩)
    | none => False
  | _, _ => False
def rPo (p : Option XP) : List Sl → (Option Int → Prop) → (Exn → Prop) → Prop := fun G Q E => match p with
  | none => Q none
  | some p => p G (fun d => match d with
    | .int i => Q (some i)
    | _ => False) E
def oSl (x : D) (lo hi : Option Int) (Q : D → Prop) : Prop := match x with
  | .lst ds => Q (.lst (cutD ds lo hi))
  | .tup ds => Q (.tup (cutD ds lo hi))
  | .str z => z.length ≤ 100000 ∧ Q (.str (cutS z lo hi))
  | _ => False
def rSl (a : XP) (lo hi : Option XP) : XP := fun G Q E => a G (fun x => rPo lo G (fun l => rPo hi G (fun h => oSl x l h Q) E) E) E
structure XPo (B : Bs) (X : Cx) (Wx : WX) (e : Option Expr) (p : Option XP) : Prop where
  ex : ∃ t, PO X e t ∧ ∀ S σ H G (Q : Option Int → Prop) (E : Exn → Prop) (k : Option Int → Hp → Prop), Ok B S σ H G → rPo p G Q E → (∀ o H', Fut (B.W.at S) H H' → Q o → k o H') → KX (B.W.at S) σ H E Wx → t σ H k
theorem Reps.cut {W : Wd} {H : Hp} {ds : List D} {vs : List V} (h : Reps W H ds vs) (lo hi : Option Int) : Reps W H (cutD ds lo hi) (cutV vs lo hi) := by
  unfold cutD cutV
  rw [h.len]
  exact (h.drop _).take _
theorem Reps.atI {W : Wd} {H : Hp} {ds : List D} {vs : List V} {i : Int} {d : D} (h : Reps W H ds vs) (e : L2.atI ds i = some d) : ∃ v, L2.atI vs i = some v ∧ Rep W H d v := by
  unfold L2.atI at e ⊢
  rw [h.len]
  cases hx : ixN ds.length i with
  | none => rw [hx] at e; cases e
  | some j =>
    rw [hx] at e
    exact h.get e
section
variable {B : Bs} {X : Cx} {Wx : WX} {a b c e : Expr} {es : List Expr} {pa pb pc : XP} {pos : Pos} {pas : XAp}
theorem xe_ix (ha : XE B X Wx a pa) (hb : XE B X Wx b pb) (hs : PlainIx b := by exact fun _ _ => rfl) : XE B X Wx (.Subscript a b pos) (rBin oIx pa pb) := by
  obtain ⟨ta, ha, ea⟩ := ha.ex
  obtain ⟨tb, hb, eb⟩ := hb.ex
  refine ⟨_, pe_ix (ix_list.or (ix_tup.or ix_str)) ha hb hs, fun S σ H G Q E k O q ke kx => ?_⟩
  refine ev2 ea eb O q kx fun x y H' dx dy f O' r1 r2 h => ?_
  cases dx <;> cases dy <;> first | exact False.elim h | skip
  · rename_i z i
    obtain ⟨h1, h2⟩ := h
    cases hx : atI z.cps.toList i with
    | none => rw [hx] at h2; exact h2.elim
    | some ch =>
      rw [hx] at h2
      exact .inr (.inr ⟨z, i, ch, repS r1, repI r2, le_line h1, hx, ke _ H' _ f mkS h2⟩)
  · rename_i ds i
    obtain ⟨p, vs, rfl, n1, e1, z1⟩ := repL r1
    have h' : (match atI ds i with | some d => Q d | none => False) := h
    cases hx : atI ds i with
    | none => rw [hx] at h'; exact h'.elim
    | some d =>
      rw [hx] at h'
      obtain ⟨v, ev, rv⟩ := z1.atI hx
      exact .inl ⟨p, vs, i, v, rfl, repI r2, SqL.of e1, ev, ke _ H' _ f rv h'⟩
  · rename_i ds i
    obtain ⟨p, vs, rfl, n1, e1, z1⟩ := repT r1
    have h' : (match atI ds i with | some d => Q d | none => False) := h
    cases hx : atI ds i with
    | none => rw [hx] at h'; exact h'.elim
    | some d =>
      rw [hx] at h'
      obtain ⟨v, ev, rv⟩ := z1.atI hx
      exact .inr (.inl ⟨p, vs, i, v, rfl, repI r2, (.inl e1), ev, ke _ H' _ f rv h'⟩)
theorem xpo_none : XPo B X Wx none none := ⟨tNoPart, po_none, fun S σ H G Q E k O q ko _ => ko none H (Fut.refl O.wok) q⟩
theorem xpo_some (h : XE B X Wx e pa) : XPo B X Wx (some e) (some pa) := by
  obtain ⟨t, h, ev⟩ := h.ex
  refine ⟨tPart t, po_some h, fun S σ H G Q E k O q ko kx => ev S σ H G _ E _ O q (fun v H' d f r h => ?_) kx⟩
  cases d <;> first | exact False.elim h | skip
  exact ⟨_, repI r, ko _ H' f h⟩
theorem xe_slice {lo hi : Option Expr} {pl ph : Option XP} {p2} (ha : XE B X Wx a pa) (hl : XPo B X Wx lo pl) (hh : XPo B X Wx hi ph) : XE B X Wx (.Subscript a (.Slice lo hi none p2) pos) (rSl pa pl ph) := by
  obtain ⟨ta, ha, ea⟩ := ha.ex
  obtain ⟨tl, hl, el⟩ := hl.ex
  obtain ⟨th, hh, eh⟩ := hh.ex
  refine ⟨_, pe_slice (sl_list.or (sl_tupA.or sl_str)) ha hl hh, fun S σ H G Q E k O q ke kx => ?_⟩
  refine ea S σ H G _ E _ O q (fun x H1 d f1 r1 q1 => ?_) kx
  refine el S σ H1 G _ E _ (O.fut f1) q1 (fun l H2 f2 q2 => ?_) (kx.fut f1)
  refine eh S σ H2 G _ E _ ((O.fut f1).fut f2) q2 (fun u H3 f3 q3 => ?_) ((kx.fut f1).fut f2)
  have f := (f1.trans f2).trans f3
  have w3 := O.wok.fut f
  have r3 := (r1.fut (O.wok.fut f1) f2).fut ((O.wok.fut f1).fut f2) f3
  cases d <;> first | exact False.elim q3 | skip
  · exact .inr (.inr ⟨_, repS r3, le_line q3.1, ke _ H3 _ f mkS q3.2⟩)
  · rename_i ds
    obtain ⟨p, vs, rfl, n1, e1, z1⟩ := repL r3
    refine .inl ⟨p, vs, rfl, SqL.of e1, fun q hq => ?_⟩
    have g := fut_new (o := .lst (cutV vs l u)) w3 hq
    exact ke _ _ _ (f.trans g) (mkL (w3.new hq) upd_same ((z1.cut l u).fut w3 g)) q3
  · rename_i ds
    obtain ⟨p, vs, rfl, n1, e1, z1⟩ := repT r3
    refine .inr (.inl ⟨p, vs, rfl, (.inl e1), fun hw => ?_, fun hw q hq => ?_⟩)
    · refine ke _ _ _ f (mkT n1 e1 z1) ?_
      have : cutD ds l u = ds := by
        unfold cutD
        rw [z1.len] at hw
        rw [hw.1, hw.2]
        simp
      have q3' : Q (.tup (cutD ds l u)) := q3
      rwa [this] at q3'
    · have g := fut_new (o := .tup (cutV vs l u)) w3 hq
      exact ke _ _ _ (f.trans g) (mkT (w3.new hq) (.inl upd_same) ((z1.cut l u).fut w3 g)) q3
/-! ## fields -/
def rFld (m : List (Nat × Nat)) (a : XP) : XP := fun G Q E => a G (fun d => match d with
  | .ins c ds => match m.lookup c with
    | some i => match ds[i]? with
      | some x => Q x
      | none => False
    | none => False
  | _ => False) E
theorem lookup_zip : ∀ {ns : List Str} {vs : List V} {i : Nat} {f : Str} {v : V}, ns.Nodup → ns[i]? = some f → vs[i]? = some v → (ns.zip vs).lookup f = some v
  | [], _, i, _, _, _, e, _ => by cases i <;> cases e
  | n :: ns, [], i, _, _, _, _, e => by cases i <;> cases e
  | n :: ns, u :: vs, 0, f, v, nd, e1, e2 => by
    cases e1
    cases e2
    simp [List.lookup]
  | n :: ns, u :: vs, i + 1, f, v, nd, e1, e2 => by
    have hn : n ∉ ns := (List.nodup_cons.mp nd).1
    have e1' : ns[i]? = some f := by simpa using e1
    have e2' : vs[i]? = some v := by simpa using e2
    have hf : (f == n) = false := by
      rw [beq_eq_false_iff_ne]
      intro z
      subst z
      exact hn (List.mem_of_getElem? e1')
    rw [List.zip_cons_cons, List.lookup_cons, hf]
    exact lookup_zip (List.nodup_cons.mp nd).2 e1' e2'
theorem lookup_mem {α : Type} : ∀ {l : List (Nat × α)} {c : Nat} {x : α}, l.lookup c = some x → (c, x) ∈ l
  | [], _, _, h => by cases h
  | (d, y) :: l, c, x, h => by
    rw [List.lookup_cons] at h
    by_cases e : c = d
    · subst e
      simp at h
      subst h
      exact List.mem_cons_self
    · have : (c == d) = false := by simpa using e
      rw [this] at h
      exact List.mem_cons_of_mem _ (lookup_mem h)
/-- what the classes say of a field -/
def FldOk (K : PySem.W.Frag) (CT : Nat → Addr) (lay : Nat → List Str) (f : Str) (m : List (Nat × Nat)) : Prop := ∀ p ∈ m, Cls K (CT p.1) ∧ NoAttr K (CT p.1) f ∧ (lay p.1)[p.2]? = some f ∧ (lay p.1).Nodup
theorem repO {W : Wd} {H : Hp} {c : Nat} {ds : List D} {v : V} (h : Rep W H (.ins c ds) v) : ∃ a dx vs, v = .ref a ∧ ¬ W.S a ∧ H a = some (.ins (W.CT c) dx ((W.lay c).zip vs)) ∧ vs.length = (W.lay c).length ∧ Reps W H ds vs := by simpa only [Rep] using h
theorem mkO {W : Wd} {H : Hp} {c : Nat} {ds : List D} {a dx : Addr} {vs : List V} (n : ¬ W.S a) (e : H a = some (.ins (W.CT c) dx ((W.lay c).zip vs))) (l : vs.length = (W.lay c).length) (r : Reps W H ds vs) : Rep W H (.ins c ds) (.ref a) := by
  simp only [Rep]
  exact ⟨a, dx, vs, rfl, n, e, l, r⟩
theorem xe_fld {f : Str} {m : List (Nat × Nat)} (h : FldOk X.K B.W.CT B.W.lay f m) (ha : XE B X Wx a pa) (hb : attributeBase a f X.env (eval a X.env) = eval a X.env := by rfl) : XE B X Wx (.Attribute a f pos) (rFld m pa) := by
  obtain ⟨ta, ha, ea⟩ := ha.ex
  refine ⟨_, pe_fld ha hb, fun S σ H G Q E k O q ke kx => ea S σ H G _ E _ O q (fun v H1 d f1 r h1 => ?_) kx⟩
  cases d <;> first | exact False.elim h1 | skip
  rename_i c ds
  have h1' : (match m.lookup c with | some i => (match ds[i]? with | some x => Q x | none => False) | none => False) := h1
  cases hm : m.lookup c with
  | none => rw [hm] at h1'; exact h1'.elim
  | some i =>
    rw [hm] at h1'
    dsimp only at h1'
    obtain ⟨k1, k2, k3, k4⟩ := h _ (lookup_mem hm)
    obtain ⟨p, dx, vs, rfl, n, e1, l, rr⟩ := repO r
    cases hx : ds[i]? with
    | none => rw [hx] at h1'; exact h1'.elim
    | some x =>
      rw [hx] at h1'
      obtain ⟨v, ev, rv⟩ := rr.get hx
      exact ⟨p, _, dx, _, v, rfl, e1, k1, k2, lookup_zip k4 k3 ev, ke _ H1 _ f1 rv h1'⟩
/-- a field of the object that is being made, in slot i -/
def rOwn (m : List (Nat × Nat)) (i : Nat) : XP := fun G Q _ => match G[i]? with
  | some (.obj c ds) => match m.lookup c with
    | some j => match ds[j]? with
      | some x => Q x
      | none => False
    | none => False
  | _ => False
theorem zip_take : ∀ (ns : List Str) (vs : List V), (ns.zip vs) = (ns.zip vs) := fun _ _ => rfl
theorem xe_own {f : Str} {m : List (Nat × Nat)} {x : Str} {p1 : Pos} (h : FldOk X.K B.W.CT B.W.lay f m) (i : Nat) (hN : X.N[i]? = some x := by rfl) (hv : Vis X.env.scope x := by first | exact Or.inl rfl | exact Or.inr (Or.inl rfl) | exact Or.inr (Or.inr rfl)) (hd : (x == ("__debug__" : Str)) = false := by decide)
    (hcd : (x == ("__classdict__" : Str)) = false := by decide) (hb : attributeBase (.Name x p1) f X.env (eval (.Name x p1) X.env) = eval (.Name x p1) X.env := by rfl) : XE B X Wx (.Attribute (.Name x p1) f pos) (rOwn m i) := by
  refine ⟨_, pe_fld (pe_var hN hv hd hcd) hb, fun S σ H G Q E k O q ke kx => ?_⟩
  unfold rOwn at q
  cases hg : G[i]? with
  | none => rw [hg] at q; exact q.elim
  | some g =>
    rw [hg] at q
    cases g <;> first | exact False.elim q | skip
    rename_i c ds
    dsimp only at q
    cases hm : m.lookup c with
    | none => rw [hm] at q; exact q.elim
    | some j =>
      rw [hm] at q
      dsimp only at q
      obtain ⟨k1, k2, k3, k4⟩ := h _ (lookup_mem hm)
      obtain ⟨o, eo, p, dx, vs, rfl, me, s1, s2, s3, e1, l, rr⟩ := O.get hg
      cases hx : ds[j]? with
      | none => rw [hx] at q; exact q.elim
      | some y =>
        rw [hx] at q
        obtain ⟨v, ev, rv⟩ := rr.get hx
        exact ⟨_, eo, p, _, dx, _, v, rfl, e1, k1, k2, lookup_zip k4 k3 ev, ke _ H _ (Fut.refl O.wok) rv q⟩
/-! ## built-in functions -/
structure XF (B : Bs) (X : Cx) (Wx : WX) (f : Value) (o : DFn) : Prop where
  ex : ∃ r, CallR X f r ∧ ∀ S H xs dxs Q E k, WOk (B.W.at S) H → Reps (B.W.at S) H dxs xs → o dxs Q E → KE (B.W.at S) H Q k → r xs H k
theorem xe_callB {id : String} {x : Str} {p : Pos} {o : DFn} (hc : XF B X Wx (.builtin id) o) (hm : X.mg x = none) (hv : bootBuiltins x = some (.builtin id)) (ha : XA B X Wx (e :: es) pas) (hg : Gl X x := by rfl) (hn : x ≠ "__name__" := by decide) (hdb : (x == ("__debug__" : Str)) = false := by decide)
    (he : starEach (e :: es) X.env = (false, eval e X.env) :: starEach es X.env := by rfl) (hpl : (backTo pos (starEach es X.env)).any (·.1) = false := by rfl) : XE B X Wx (.Call (.Name x p) (e :: es) [] pos) (rFn o pas) := by
  obtain ⟨r, h1, h2⟩ := hc.ex
  obtain ⟨t, ha, ea⟩ := ha.ex
  refine ⟨_, pe_callB h1 hg hm hv ha hn hdb he hpl, fun S σ H G Q E k O q ke kx => ea S σ H G _ E _ O q (fun vs H1 ds f1 r1 q1 => ?_) kx⟩
  exact h2 S H1 vs ds Q E k (O.wok.fut f1) r1 q1 (ke.fut f1)
theorem xe_callTy {T : String} {x : Str} {p : Pos} {o : DFn} (hc : XF B X Wx (.type T) o) (hm : X.mg x = none) (hv : bootBuiltins x = some (.type T)) (ha : XA B X Wx (e :: es) pas) (hg : Gl X x := by rfl) (hn : x ≠ "__name__" := by decide) (hdb : (x == ("__debug__" : Str)) = false := by decide)
    (he : starEach (e :: es) X.env = (false, eval e X.env) :: starEach es X.env := by rfl) (hpl : (backTo pos (starEach es X.env)).any (·.1) = false := by rfl) : XE B X Wx (.Call (.Name x p) (e :: es) [] pos) (rFn o pas) := by
  obtain ⟨r, h1, h2⟩ := hc.ex
  obtain ⟨t, ha, ea⟩ := ha.ex
  refine ⟨_, pe_callTy h1 hg hm hv ha hn hdb he hpl, fun S σ H G Q E k O q ke kx => ea S σ H G _ E _ O q (fun vs H1 ds f1 r1 q1 => ?_) kx⟩
  exact h2 S H1 vs ds Q E k (O.wok.fut f1) r1 q1 (ke.fut f1)
theorem reps1 {W : Wd} {H : Hp} {d : D} {vs : List V} (h : Reps W H [d] vs) : ∃ v, vs = [v] ∧ Rep W H d v := by
  simp only [Reps] at h
  obtain ⟨v, r, rfl, h1, rfl⟩ := h
  exact ⟨v, rfl, h1⟩
theorem reps2 {W : Wd} {H : Hp} {d e : D} {vs : List V} (h : Reps W H [d, e] vs) : ∃ v w, vs = [v, w] ∧ Rep W H d v ∧ Rep W H e w := by
  simp only [Reps] at h
  obtain ⟨v, r, rfl, h1, w, r', rfl, h2, rfl⟩ := h
  exact ⟨v, w, rfl, h1, h2⟩
def oLen : DFn := fun xs Q _ => match xs with
  | [.lst ds] => Q (.int ds.length)
  | [.tup ds] => Q (.int ds.length)
  | [.str z] => z.length ≤ 100000 ∧ Q (.int z.length)
  | _ => False
theorem xf_len : XF B X Wx (.builtin "len") oLen := ⟨_, call_len_seq.or call_len_str, fun S H xs dxs Q E k w r q ke => by
  cases dxs with
  | nil => exact False.elim q
  | cons d ds =>
    cases ds with
    | cons d2 ds => cases d <;> exact False.elim q
    | nil =>
      obtain ⟨v, rfl, r9⟩ := reps1 r
      cases d <;> first | exact False.elim q | skip
      · rw [repS r9]
        exact .inr ⟨_, rfl, le_line q.1, ke _ H _ (Fut.refl w) mkI q.2⟩
      · obtain ⟨a, vs, rfl, n, e1, z⟩ := repL r9
        exact .inl ⟨a, vs, rfl, .inl (SqL.of e1), by rw [z.len]; exact ke _ H _ (Fut.refl w) mkI q⟩
      · obtain ⟨a, vs, rfl, n, e1, z⟩ := repT r9
        exact .inl ⟨a, vs, rfl, .inr ((.inl e1)), by rw [z.len]; exact ke _ H _ (Fut.refl w) mkI q⟩⟩
def oInt : DFn := fun xs Q _ => match xs with
  | [.int i] => Q (.int i)
  | [.bl b] => Q (.int (if b = true then 1 else 0))
  | _ => False
theorem xf_int : XF B X Wx (.type "int") oInt := ⟨_, call_int1, fun S H xs dxs Q E k w r q ke => by
  cases dxs with
  | nil => exact False.elim q
  | cons d ds =>
    cases ds with
    | cons d2 ds => cases d <;> exact False.elim q
    | nil =>
      obtain ⟨v, rfl, r9⟩ := reps1 r
      cases d <;> first | exact False.elim q | skip
      · rw [repB r9]
        exact .inr ⟨_, rfl, ke _ H _ (Fut.refl w) mkI q⟩
      · rw [repI r9]
        exact .inl ⟨_, rfl, ke _ H _ (Fut.refl w) mkI q⟩⟩
def oAbs : DFn := fun xs Q _ => match xs with
  | [.int i] => Q (.int (if i < 0 then -i else i))
  | _ => False
theorem xf_abs : XF B X Wx (.builtin "abs") oAbs := ⟨_, call_abs, fun S H xs dxs Q E k w r q ke => by
  cases dxs with
  | nil => exact False.elim q
  | cons d ds =>
    cases ds with
    | cons d2 ds => cases d <;> exact False.elim q
    | nil =>
      obtain ⟨v, rfl, r9⟩ := reps1 r
      cases d <;> first | exact False.elim q | skip
      rw [repI r9]
      exact ⟨_, rfl, ke _ H _ (Fut.refl w) mkI q⟩⟩
def oMin2 : DFn := fun xs Q _ => match xs with
  | [.int i, .int j] => Q (.int (if j < i then j else i))
  | _ => False
theorem xf_min2 (hc : X.calm = true) : XF B X Wx (.builtin "min") oMin2 := ⟨_, call_min2 hc, fun S H xs dxs Q E k w r q ke => by
  cases dxs with
  | nil => exact False.elim q
  | cons d ds =>
    cases ds with
    | nil => cases d <;> exact False.elim q
    | cons d2 ds =>
      cases ds with
      | cons d3 ds => cases d <;> cases d2 <;> exact False.elim q
      | nil =>
        obtain ⟨v, u, rfl, r1, r2⟩ := reps2 r
        cases d <;> cases d2 <;> first | exact False.elim q | skip
        rw [repI r1, repI r2]
        exact ⟨_, _, rfl, ke _ H _ (Fut.refl w) mkI q⟩⟩
def oStr : DFn := fun xs Q _ => match xs with
  | [.int i] => i.natAbs.log2 < 1920 ∧ Q (.str (toString i))
  | _ => False
theorem xf_str : XF B X Wx (.type "str") oStr := ⟨_, call_str_int, fun S H xs dxs Q E k w r q ke => by
  cases dxs with
  | nil => exact False.elim q
  | cons d ds =>
    cases ds with
    | cons d2 ds => cases d <;> exact False.elim q
    | nil =>
      obtain ⟨v, rfl, r9⟩ := reps1 r
      cases d <;> first | exact False.elim q | skip
      rw [repI r9]
      exact ⟨_, rfl, q.1, ke _ H _ (Fut.refl w) mkS q.2⟩⟩
def oList : DFn := fun xs Q _ => match xs with
  | [.lst ds] => Q (.lst ds)
  | [.tup ds] => Q (.lst ds)
  | _ => False
theorem xf_list : XF B X Wx (.type "list") oList := ⟨_, call_list_of, fun S H xs dxs Q E k w r q ke => by
  cases dxs with
  | nil => exact False.elim q
  | cons d ds =>
    cases ds with
    | cons d2 ds => cases d <;> exact False.elim q
    | nil =>
      obtain ⟨v, rfl, r9⟩ := reps1 r
      cases d <;> first | exact False.elim q | skip
      · obtain ⟨a, vs, rfl, n, e1, z⟩ := repL r9
        refine ⟨a, vs, rfl, .inl (SqL.of e1), fun l hl => ?_⟩
        have g := fut_new (o := .lst vs) w hl
        exact ke _ _ _ g (mkL (w.new hl) upd_same (z.fut w g)) q
      · obtain ⟨a, vs, rfl, n, e1, z⟩ := repT r9
        refine ⟨a, vs, rfl, .inr ((.inl e1)), fun l hl => ?_⟩
        have g := fut_new (o := .lst vs) w hl
        exact ke _ _ _ g (mkL (w.new hl) upd_same (z.fut w g)) q⟩
def oTup : DFn := fun xs Q _ => match xs with
  | [.lst ds] => Q (.tup ds)
  | [.tup ds] => Q (.tup ds)
  | _ => False
theorem xf_tup : XF B X Wx (.type "tuple") oTup := ⟨_, call_tuple_of, fun S H xs dxs Q E k w r q ke => by
  cases dxs with
  | nil => exact False.elim q
  | cons d ds =>
    cases ds with
    | cons d2 ds => cases d <;> exact False.elim q
    | nil =>
      obtain ⟨v, rfl, r9⟩ := reps1 r
      cases d <;> first | exact False.elim q | skip
      · obtain ⟨a, vs, rfl, n, e1, z⟩ := repL r9
        refine ⟨a, vs, rfl, .inl ⟨SqL.of e1, fun l hl => ?_⟩⟩
        have g := fut_new (o := .tup vs) w hl
        exact ke _ _ _ g (mkT (w.new hl) (.inl upd_same) (z.fut w g)) q
      · obtain ⟨a, vs, rfl, n, e1, z⟩ := repT r9
        exact ⟨a, vs, rfl, .inr ⟨(.inl e1), ke _ H _ (Fut.refl w) (mkT n e1 z) q⟩⟩⟩
/-! ## isinstance -/
inductive Ty where
  | b (n : String) | c (n : Nat)
def tyn : D → String
  | .non => "NoneType"
  | .bl _ => "bool"
  | .int _ => "int"
  | .str _ => "str"
  | .lst _ => "list"
  | .tup _ => "tuple"
  | .ftp _ => "tuple"
  | .dic _ _ => "dict"
  | _ => ""
def isT (d : D) (t : Ty) : Bool := match d, t with
  | .ins c _, .c n => c == n
  | .ins _ _, .b _ => false
  | _, .c _ => false
  | d, .b n => tyn d == n || (tyn d == "bool" && n == "int")
def okI (cs : List Nat) : D → Prop
  | .ins c _ => c ∈ cs
  | .val _ => False
  | .law => False
  | _ => True
def oIsi (cs : List Nat) (ts : List Ty) : DUn := fun d Q _ => okI cs d ∧ Q (.bl (ts.any (isT d)))
structure ClsF (K : PySem.W.Frag) (C : Addr) : Prop where
  cl : Cls K C
  cA : findIn K (.ref C) "__class__" = some (some (.builtin "object.__class__"))
  ex : ∃ cd, clsIn K C = some cd ∧ cd.mro = [.ref C, .type "object"]
  ty : typeIn K (.ref C) = some (.type "type")
structure ClsX (K : PySem.W.Frag) (CT : Nat → Addr) (cs : List Nat) : Prop where
  f : ∀ c ∈ cs, ClsF K (CT c)
  cN : PySem.W.specialIn K (.builtin "object.__class__") "__get__" = some (some (.builtin "getset_descriptor.__get__"))
  cK : PySem.W.takesIn K (.builtin "object.__class__") = some true
  inj : ∀ c ∈ cs, ∀ c' ∈ cs, CT c = CT c' → c = c'
def builtinTys : List String := ["NoneType", "bool", "int", "str", "list", "tuple", "dict"]
theorem kit_bb : ∀ a ∈ builtinTys, ∀ b ∈ builtinTys, kitB a b = some (a == b || (a == "bool" && b == "int")) := by decide +kernel
theorem mro_b : ∀ a ∈ builtinTys, (PySem.fastBuiltinMro a).isSome = true ∧ ∀ l, PySem.fastBuiltinMro a = some l → l.all (fun v => match v with | .ref _ => false | _ => true) = true := by
  have : builtinTys.all (fun a => match PySem.fastBuiltinMro a with | some l => l.all (fun v => match v with | .ref _ => false | _ => true) | none => false) = true := by decide +kernel
  intro a ha
  have h := List.all_eq_true.mp this a ha
  cases hx : PySem.fastBuiltinMro a with
  | none => rw [hx] at h; cases h
  | some l =>
    rw [hx] at h
    refine ⟨rfl, fun l' e => ?_⟩
    cases e
    exact h
theorem kit_bc {K : PySem.W.Frag} {a : String} {C : Addr} (ha : a ∈ builtinTys) (F : ClsF K C) : kitOne K (.type a) (.ref C) = some false := by
  obtain ⟨cd, h1, h2⟩ := F.ex
  obtain ⟨k1, k2⟩ := mro_b a ha
  obtain ⟨l, hl⟩ := Option.isSome_iff_exists.mp k1
  have e : ((Value.type a == Value.ref C) = true) = False := by simp
  unfold kitOne
  rw [if_neg (by rw [e]; exact id)]
  unfold PySem.W.kitCls
  dsimp only
  rw [h1, F.ty]
  rw [if_pos (by simp)]
  unfold subIn
  dsimp only
  rw [hl]
  have : l.contains (Value.ref C) = false := by
    rw [Bool.eq_false_iff]
    intro z
    have := List.all_eq_true.mp (k2 l hl) _ (List.contains_iff_mem.mp z)
    cases this
  rw [Option.map_some, this]
theorem kit_cb {K : PySem.W.Frag} {b : String} {C : Addr} (hb : b ∈ builtinTys) (F : ClsF K C) : kitOne K (.ref C) (.type b) = some false := by
  obtain ⟨cd, h1, h2⟩ := F.ex
  have hm : ∀ b ∈ builtinTys, PySem.W.kitMeta b = true := by decide +kernel
  have ho : ∀ b ∈ builtinTys, (Value.type "object" == Value.type b) = false := by decide +kernel
  have e : ((Value.ref C == Value.type b) = true) = False := by simp
  unfold kitOne
  rw [if_neg (by rw [e]; exact id)]
  unfold PySem.W.kitCls
  dsimp only
  rw [if_pos (hm b hb)]
  unfold subIn mroIn
  dsimp only
  rw [h1, Option.bind_some, h2]
  simp
  intro z
  have := ho b hb
  rw [z] at this
  simp at this
theorem kit_cc {K : PySem.W.Frag} {C C' : Addr} (F : ClsF K C) (F' : ClsF K C') : kitOne K (.ref C) (.ref C') = some (decide (C = C')) := by
  obtain ⟨cd, h1, h2⟩ := F.ex
  obtain ⟨cd', h1', h2'⟩ := F'.ex
  unfold kitOne
  by_cases hc : C = C'
  · subst hc
    rw [if_pos (by simp), decide_eq_true rfl]
  · rw [if_neg (by simpa using hc)]
    unfold PySem.W.kitCls
    dsimp only
    rw [h1', F'.ty, if_pos (by simp)]
    unfold subIn mroIn
    dsimp only
    rw [h1, Option.bind_some, h2, decide_eq_false hc]
    simp
    intro z
    exact hc z.symm
/-- the type of a datum's value -/
def tyv (CT : Nat → Addr) : D → Value
  | .ins c _ => .ref (CT c)
  | d => .type (tyn d)
theorem tyX {W : Wd} {K : PySem.W.Frag} {H : Hp} {cs : List Nat} (F : ClsX K W.CT cs) {d : D} {v : V} (h : Rep W H d v) (o : okI cs d) : TyX K H v (tyv W.CT d) := by
  cases d with
  | non => simp only [Rep] at h; subst h; exact .base .non
  | bl b => rw [repB h]; exact .base (.bl b)
  | int i => rw [repI h]; exact .base (.int i)
  | str x => rw [repS h]; exact .base (.str x)
  | val u => exact o.elim
  | law => exact o.elim
  | lst ds => obtain ⟨a, vs, rfl, n, e, z⟩ := repL h; exact .base (.lst e)
  | tup ds => 
    obtain ⟨a, vs, rfl, n, e, z⟩ := repT h
    rcases e with e | ⟨o, e⟩
    · exact .base (.tup e)
    · exact .fTuple e
  | ftp ds =>
    simp only [Rep] at h
    obtain ⟨a, vs, o, rfl, n, dn, e, z⟩ := h
    exact .fTuple e
  | ins c ds =>
    obtain ⟨a, dx, vs, rfl, n, e, l, z⟩ := repO h
    have G := F.f c o
    obtain ⟨cd, h1, h2⟩ := G.ex
    refine .base (.ins e G.cl G.cA F.cN F.cK ?_)
    unfold mroIn
    rw [h1, Option.bind_some, h2]
    simp
  | dic ks ds =>
    simp only [Rep] at h
    obtain ⟨a, vs, rfl, n, e, l, z⟩ := h
    exact .base (.dK e)
def tyVal (CT : Nat → Addr) : Ty → Value
  | .b n => .type n
  | .c n => .ref (CT n)
def tyV' (CT : Nat → Addr) : Ty → V
  | .b n => .ty n
  | .c n => .ref (CT n)
def TyOk (cs : List Nat) : Ty → Prop
  | .b n => n ∈ builtinTys
  | .c n => n ∈ cs
theorem tyn_mem {d : D} (cs : List Nat) (o : okI cs d) (h : ∀ c ds, d ≠ .ins c ds) : tyn d ∈ builtinTys := by
  cases d <;> first | exact o.elim | (exact absurd rfl (h _ _)) | (show _ ∈ builtinTys; unfold tyn builtinTys; simp)
theorem kit_ok {K : PySem.W.Frag} {CT : Nat → Addr} {cs : List Nat} (F : ClsX K CT cs) {d : D} {t : Ty} (o : okI cs d) (ht : TyOk cs t) : kitOne K (tyv CT d) (tyVal CT t) = some (isT d t) := by
  cases t with
  | b n =>
    have hn : n ∈ builtinTys := ht
    by_cases hi : ∃ c ds, d = .ins c ds
    · obtain ⟨c, ds, rfl⟩ := hi
      exact kit_cb hn (F.f c o)
    · have hi' : ∀ c ds, d ≠ .ins c ds := fun c ds z => hi ⟨c, ds, z⟩
      have m := tyn_mem cs o hi'
      have e1 : tyv CT d = .type (tyn d) := by cases d <;> first | rfl | exact absurd rfl (hi' _ _)
      have e2 : isT d (.b n) = (tyn d == n || (tyn d == "bool" && n == "int")) := by cases d <;> first | rfl | exact absurd rfl (hi' _ _)
      rw [e1, e2]
      exact kit_ty (kit_bb _ m n hn)
  | c n =>
    have hn : n ∈ cs := ht
    by_cases hi : ∃ c ds, d = .ins c ds
    · obtain ⟨c, ds, rfl⟩ := hi
      show kitOne K (.ref (CT c)) (.ref (CT n)) = some (c == n)
      rw [kit_cc (F.f c o) (F.f n hn)]
      by_cases e : c = n
      · subst e
        simp
      · have : CT c ≠ CT n := fun z => e (F.inj c o n hn z)
        rw [decide_eq_false this]
        simp [e]
    · have hi' : ∀ c ds, d ≠ .ins c ds := fun c ds z => hi ⟨c, ds, z⟩
      have m := tyn_mem cs o hi'
      have e1 : tyv CT d = .type (tyn d) := by cases d <;> first | rfl | exact absurd rfl (hi' _ _)
      have e2 : isT d (.c n) = false := by cases d <;> first | rfl | exact absurd rfl (hi' _ _)
      rw [e1, e2]
      exact kit_bc m (F.f n hn)
theorem kitAny_ok {K : PySem.W.Frag} {CT : Nat → Addr} {cs : List Nat} (F : ClsX K CT cs) {d : D} (o : okI cs d) : ∀ {ts : List Ty}, (∀ t ∈ ts, TyOk cs t) → kitAny K (tyv CT d) (ts.map (tyVal CT)) = some (ts.any (isT d))
  | [], _ => rfl
  | t :: ts, h => by
    have h1 := kit_ok F o (h t (by simp))
    have h2 := kitAny_ok F o (ts := ts) fun x hx => h x (by simp [hx])
    rw [List.map_cons, List.any_cons]
    unfold kitAny
    rw [h1]
    cases isT d t with
    | true => rfl
    | false => exact h2
def XTy (B : Bs) (X : Cx) (Wx : WX) (e : Expr) (t : Ty) : Prop := XE B X Wx e (rC (.val (tyV' B.W.CT t)))
theorem xe_isi {cs : List Nat} {t : Ty} {x : Str} {p : Pos} (F : ClsX X.K B.W.CT cs) (ht : TyOk cs t) (hm : X.mg x = none) (hv : bootBuiltins x = some (.builtin "isinstance")) (ha : XE B X Wx a pa) (hb : XTy B X Wx b t)
    (hg : Gl X x := by rfl) (hn : x ≠ "__name__" := by decide) (hdb : (x == ("__debug__" : Str)) = false := by decide) (he : starEach [a, b] X.env = (false, eval a X.env) :: starEach [b] X.env := by rfl) (he2 : starEach [b] X.env = (false, eval b X.env) :: starEach [] X.env := by rfl) (hpl : (backTo pos (starEach [b] X.env)).any (·.1) = false := by rfl) :
    XE B X Wx (.Call (.Name x p) [a, b] [] pos) (rUn (oIsi cs [t]) pa) := by
  obtain ⟨ta, ha, ea⟩ := ha.ex
  obtain ⟨tb, hb, eb⟩ := hb.ex
  refine ⟨_, pe_callB call_isi hg hm hv (pa_cons ha (pa_cons hb pa_nil he2) he) hn hdb he hpl, fun S σ H G Q E k O q ke kx => ea S σ H G _ E _ O q (fun v H1 d f1 r1 q1 => ?_) kx⟩
  refine eb S σ H1 G (fun y => y = .val (tyV' B.W.CT t)) E _ (O.fut f1) rfl (fun w H2 dw f2 r2 q2 => ?_) (kx.fut f1)
  subst q2
  simp only [Rep] at r2
  subst r2
  obtain ⟨o, q⟩ := q1
  have w1 := O.wok.fut f1
  refine ⟨v, _, tyv B.W.CT d, tyVal B.W.CT t, isT d t, rfl, ?_, tyX (W := B.W.at S) F (r1.fut w1 f2) o, kit_ok F o ht, ?_⟩
  · cases t with
    | b n => exact .ty n
    | c n => exact .own _
  · have : [t].any (isT d) = isT d t := by simp
    rw [this] at q
    exact ke _ H2 _ (f1.trans f2) mkB q
theorem xe_isiT {cs : List Nat} {ts : List Ty} {x : Str} {p p2 : Pos} {k2 : Nat} {elts : List Expr} (F : ClsX X.K B.W.CT cs) (ht : ∀ t ∈ ts, TyOk cs t) (hl : ts.length ≤ 1000) (hm : X.mg x = none) (hv : bootBuiltins x = some (.builtin "isinstance")) (ha : XE B X Wx a pa)
    (hb : XA B X Wx elts pas) (hp : ∀ G E, pas G (fun xs => xs = ts.map fun t => .val (tyV' B.W.CT t)) E)
    (hg : Gl X x := by rfl) (hn : x ≠ "__name__" := by decide) (hdb : (x == ("__debug__" : Str)) = false := by decide) (he : starEach [a, .Tuple elts k2 p2] X.env = (false, eval a X.env) :: starEach [.Tuple elts k2 p2] X.env := by rfl) (he2 : starEach [.Tuple elts k2 p2] X.env = (false, eval (.Tuple elts k2 p2) X.env) :: starEach [] X.env := by rfl) (hpl : (backTo pos (starEach [.Tuple elts k2 p2] X.env)).any (·.1) = false := by rfl) :
    XE B X Wx (.Call (.Name x p) [a, .Tuple elts k2 p2] [] pos) (rUn (oIsi cs ts) pa) := by
  obtain ⟨ta, ha, ea⟩ := ha.ex
  obtain ⟨tb, hb, eb⟩ := hb.ex
  refine ⟨_, pe_callB call_isiT hg hm hv (pa_cons ha (pa_cons (pe_tup hb) pa_nil he2) he) hn hdb he hpl, fun S σ H G Q E k O q ke kx => ea S σ H G _ E _ O q (fun v H1 d f1 r1 q1 => ?_) kx⟩
  refine eb S σ H1 G _ E _ (O.fut f1) (hp G E) (fun ws H2 dws f2 r2 q2 => ?_) (kx.fut f1)
  subst q2
  obtain ⟨o, q⟩ := q1
  have w1 := O.wok.fut f1
  have w2 := w1.fut f2
  have hw : ∀ {ts : List Ty} {ws : List V}, Reps (B.W.at S) H2 (ts.map fun t => .val (tyV' B.W.CT t)) ws → ws = ts.map (tyV' B.W.CT) := by
    intro ts
    induction ts with
    | nil => intro ws h; simpa only [Reps, List.map_nil] using h
    | cons t ts ih =>
      intro ws h
      simp only [Reps, List.map_cons] at h
      obtain ⟨v, r, rfl, h1, h2⟩ := h
      simp only [Rep] at h1
      rw [h1, ih h2, List.map_cons]
  have ew := hw r2
  subst ew
  refine ⟨le_line (by rw [List.length_map]; omega), fun q' hq => ?_⟩
  have g := fut_new (o := .tup (ts.map (tyV' B.W.CT))) w2 hq
  have pc : ∀ ts : List Ty, Paired ClsV (ts.map (tyV' B.W.CT)) (ts.map (tyVal B.W.CT)) := by
    intro ts
    induction ts with
    | nil => exact .nil
    | cons t ts ih =>
      refine .cons ?_ ih
      cases t with
      | b n => exact .ty n
      | c n => exact .own _
  exact ⟨v, q', ts.map (tyV' B.W.CT), tyv B.W.CT d, ts.map (tyVal B.W.CT), ts.any (isT d), rfl, upd_same, pc ts, tyX (W := B.W.at S) F ((r1.fut w1 f2).fut w2 g) o, kitAny_ok F o ht, ke _ _ _ ((f1.trans f2).trans g) mkB q⟩
end
end Pu
namespace Pu
open PySem PySem.Spec PyProof.Rows L2
/-! ## promises of data -/
def spP (CT : Nat → Addr) (lay : Nat → List Str) (F : DFn) : Sp := fun vs H Q E => ∃ (L : Option (Addr × Addr)) (S : Addr → Prop) (ds : List D) (Qd : D → Prop) (Ed : Exn → Prop),
  WOk ⟨CT, lay, L, S⟩ H ∧ Reps ⟨CT, lay, L, S⟩ H ds vs ∧ F ds Qd Ed ∧ KE ⟨CT, lay, L, S⟩ H Qd Q ∧ ∀ cls dd H' ex, Fut ⟨CT, lay, L, S⟩ H H' → ExOk ⟨CT, lay, L, S⟩ H' ex cls dd → Ed ex → E cls dd H'
/-- what an __init__ makes of its arguments: the fields -/
abbrev DIn := List D → (List D → Prop) → (Exn → Prop) → Prop
def delA (H : Hp) (p : Addr) : Hp := fun a => if a = p then none else H a
theorem delA_ne {H : Hp} {p a : Addr} (h : a ≠ p) : delA H p a = H a := if_neg h
theorem delA_same {H : Hp} {p : Addr} : delA H p p = none := if_pos rfl
def spI (CT : Nat → Addr) (lay : Nat → List Str) (c : Nat) (F : DIn) : Sp := fun vs H Q E => ∃ (L : Option (Addr × Addr)) (S : Addr → Prop) (p dx : Addr) (ws : List V) (ds : List D) (Qd : List D → Prop) (Ed : Exn → Prop),
  vs = .ref p :: ws ∧ H p = some (.ins (CT c) dx []) ∧ ¬ S p ∧ nL L p ∧ WOk ⟨CT, lay, L, S⟩ (delA H p) ∧ Reps ⟨CT, lay, L, S⟩ (delA H p) ds ws ∧ F ds Qd Ed ∧
  (∀ H' dx' us fs, Fut ⟨CT, lay, L, S⟩ (delA H p) H' → H' p = some (.ins (CT c) dx' ((lay c).zip us)) → us.length = (lay c).length → Reps ⟨CT, lay, L, S⟩ H' fs us → Qd fs → Q .non H') ∧
  ∀ cls dd H' ex, Fut ⟨CT, lay, L, S⟩ (delA H p) H' → ExOk ⟨CT, lay, L, S⟩ H' ex cls dd → Ed ex → E cls dd H'
section
variable {B : Bs} {X : Cx} {Wx : WX} {a b c e o : Expr} {es : List Expr} {pa pb pc : XP} {pos p apos : Pos} {pas : XAp} {k : Nat} {f : Addr} {fd : FuncData} {ps : List Str} {F : DFn} {dvs : List V} {dds : List D} {dsv : List Value} {x m : Str}
theorem xe_call (F1 : FnOk X.prog X.w X.K X.mg X.base (L2.CX X.prog X.w) k f fd ps (spP B.W.CT B.W.lay F)) (hr : Room k X.A) (hm : X.mg x = some (.ref f)) (hk : PySem.W.keepIn X.K (.ref f) = true) (hb : Binds X.K fd ps []) (tk : Takes X Wx) (ha : XA B X Wx (e :: es) pas)
    (hg : Gl X x := by rfl) (hdb : (x == ("__debug__" : Str)) = false := by decide) (he : starEach (e :: es) X.env = (false, eval e X.env) :: starEach es X.env := by rfl) (hpl : (backTo pos (starEach es X.env)).any (·.1) = false := by rfl) :
    XE B X Wx (.Call (.Name x p) (e :: es) [] pos) (rFn F pas) := by
  obtain ⟨t, ha, ea⟩ := ha.ex
  refine ⟨_, pe_callSD F1 hr hg hm hk hb .nil (passAt tk) ha hdb he hpl, fun S σ H G Q E k O q ke kx => ea S σ H G _ E _ O q (fun vs H1 ds f1 r1 q1 => ?_) kx⟩
  refine ⟨B.W.L, S, ds, Q, E, O.wok.fut f1, by rw [List.append_nil]; exact r1, q1, ke.fut f1, ?_⟩
  exact kx.fut f1
/-- .. with written defaults -/
theorem xe_callD (F1 : FnOk X.prog X.w X.K X.mg X.base (L2.CX X.prog X.w) k f fd ps (spP B.W.CT B.W.lay F)) (hr : Room k X.A) (hm : X.mg x = some (.ref f)) (hk : PySem.W.keepIn X.K (.ref f) = true) (hb : Binds X.K fd ps dsv) (hd : Vals dvs dsv) (hdd : ∀ W H, Reps W H dds dvs) (tk : Takes X Wx) (ha : XA B X Wx (e :: es) pas)
    (hg : Gl X x := by rfl) (hdb : (x == ("__debug__" : Str)) = false := by decide) (he : starEach (e :: es) X.env = (false, eval e X.env) :: starEach es X.env := by rfl) (hpl : (backTo pos (starEach es X.env)).any (·.1) = false := by rfl) :
    XE B X Wx (.Call (.Name x p) (e :: es) [] pos) (rFn (fun xs => F (xs ++ dds)) pas) := by
  obtain ⟨t, ha, ea⟩ := ha.ex
  refine ⟨_, pe_callSD F1 hr hg hm hk hb hd (passAt tk) ha hdb he hpl, fun S σ H G Q E k O q ke kx => ea S σ H G _ E _ O q (fun vs H1 ds f1 r1 q1 => ?_) kx⟩
  refine ⟨B.W.L, S, ds ++ dds, Q, E, O.wok.fut f1, r1.app (hdd _ _), q1, ke.fut f1, ?_⟩
  exact kx.fut f1
/-! methods: the class of the object decides -/
structure MEnt (P : Program) (w : World) (K : PySem.W.Frag) (mg : Str → Option Value) (base : Heap) (CT : Nat → Addr) (lay : Nat → List Str) (k : Nat) (m : Str) (n : Nat) (q : Nat × DFn) : Prop where
  ex : ∃ f fd ps, Cls K (CT q.1) ∧ Meth K (CT q.1) m f ∧ FnOk P w K mg base (L2.CX P w) k f fd ps (spP CT lay q.2) ∧ Binds K fd ps [] ∧ m ∉ lay q.1 ∧ ps.length = n + 1
def rMeth (tbl : List (Nat × DFn)) (a : XP) (as : XAp) : XP := fun G Q E => a G (fun d => match d with
  | .ins c ds => match tbl.lookup c with
    | some F => as G (fun xs => F (.ins c ds :: xs) Q E) E
    | none => False
  | _ => False) E
theorem no_field {ns : List Str} {vs : List V} {m : Str} (h : m ∉ ns) : (ns.zip vs).lookup m = none := by
  induction ns generalizing vs with
  | nil => rfl
  | cons n ns ih =>
    cases vs with
    | nil => rfl
    | cons v vs =>
      have : (m == n) = false := by
        rw [beq_eq_false_iff_ne]
        intro z
        exact h (by rw [z]; exact List.mem_cons_self)
      rw [List.zip_cons_cons, List.lookup_cons, this]
      exact ih fun z => h (List.mem_cons_of_mem _ z)
theorem run_pass {pins : List (Addr × Obj)} {σ : L2.St} {H : Hp} {s : Shared} {Q : VK} {us : List Value} {vs : List V} {sp : Sp} {E : L2.St → XK} {CX : CXT} (F : FnOk X.prog X.w X.K X.mg X.base CX k f fd ps sp) (hr : Room k X.A) (hb : Binds X.K fd ps []) (hx : PassesAt CX X σ (E σ))
    (I : Inv X pins σ H s) (r : Vals vs us) (h : sp vs H Q (E σ)) : wpAny (model X.prog X.w) X.A (call (.ref f) us) (EP X pins σ Q) X.xe s := by
  have := run_fnSD (dvs := []) (ds := []) (E := E) F hr hb .nil hx I r (by rw [List.append_nil]; exact h)
  exact this
def tMethT (B : Bs) (K : PySem.W.Frag) (m : Str) (tbl : List (Nat × DFn)) (Wx : WX) (ta : TE) (t : TA) : TE := fun σ H Q => ta σ H fun x H1 => ∃ a dx fs q, q ∈ tbl ∧ x = .ref a ∧ H1 a = some (.ins (B.W.CT q.1) dx fs) ∧ fs.lookup m = none ∧
  t σ H1 fun vs H2 => spP B.W.CT B.W.lay q.2 (x :: vs) H2 Q (WE Wx σ)
theorem ev_meth {tbl : List (Nat × DFn)} {ta : TE} {t : TA} {P : Program} {w : World} {K : PySem.W.Frag} {mg : Str → Option Value} {base : Heap} {n : Nat} (M : ∀ q ∈ tbl, MEnt P w K mg base B.W.CT B.W.lay k m n q) (ea : EvE B Wx ta pa) (er : EvA B Wx t pas) : EvE B Wx (tMethT B K m tbl Wx ta t) (rMeth tbl pa pas) := by
  intro S σ H G Q E kk O q ke kx
  refine ea S σ H G _ E _ O q (fun v H1 d f1 r1 q1 => ?_) kx
  cases d <;> first | exact False.elim q1 | skip
  rename_i cc ds
  have q1' : (match tbl.lookup cc with | some F => pas G (fun xs => F (.ins cc ds :: xs) Q E) E | none => False) := q1
  cases hl : tbl.lookup cc with
  | none => rw [hl] at q1'; exact q1'.elim
  | some F =>
    rw [hl] at q1'
    dsimp only at q1'
    have hm := lookup_mem hl
    obtain ⟨f, fd, ps, c1, m1, F1, b1, nf, _⟩ := (M _ hm).ex
    obtain ⟨a, dx, vs, rfl, n1, e1, l1, z1⟩ := repO r1
    refine ⟨a, dx, _, (cc, F), hm, rfl, e1, no_field nf, ?_⟩
    refine er S σ H1 G _ E _ (O.fut f1) q1' (fun us H2 xs f2 r2 q2 => ?_) (kx.fut f1)
    have f12 := f1.trans f2
    exact ⟨B.W.L, S, .ins cc ds :: xs, Q, E, O.wok.fut f12, Reps.cons (r1.fut (O.wok.fut f1) f2) r2, q2, ke.fut f12, kx.fut f12⟩
theorem xe_meth {pl : Sem Bool} {tbl : List (Nat × DFn)} {n : Nat} (M : ∀ q ∈ tbl, MEnt X.prog X.w X.K X.mg X.base B.W.CT B.W.lay k m n q) (hr : Room k X.A) (tk : Takes X Wx) (ho : XE B X Wx o pa) (ha : XA B X Wx (e :: es) pas)
    (hst : starEach (e :: es) X.env = (false, eval e X.env) :: starEach es X.env := by rfl) (hpl : (backTo pos (starEach es X.env)).any (·.1) = false := by rfl)
    (ht : eval (.Call (.Attribute o m apos) (e :: es) [] pos) X.env = (do
      let ov ← eval o X.env
      standAt apos.atName
      let (f, first) ← holding [ov] (getMethod ov m pl)
      callWith pos f first (backTo pos (starEach (e :: es) X.env)) (backToKw pos (keywordEach [] X.env))) := by rfl) :
    XE B X Wx (.Call (.Attribute o m apos) (e :: es) [] pos) (rMeth tbl pa pas) := by
  obtain ⟨ta, hta, ea⟩ := ho.ex
  obtain ⟨t, htr, er⟩ := ha.ex
  refine ⟨tMethT B X.K m tbl Wx ta t, ⟨fun pins s σ H Q I h => ?_⟩, ev_meth M ea er⟩
  refine PySem.W.methodCall_KW (pl := pl) (thn (hta.run pins s σ H _ I h) fun u s1 ⟨x, H1, I1, rx, a, dx, fs, q, hq, ex, ea, l, q9⟩ => ?_) ht
  subst ex
  obtain rfl : u = Value.ref a := rx
  obtain ⟨f, fd, ps, c1, m1, F1, b1, _⟩ := (M q hq).ex
  refine getmeth_ok I1 ea c1 m1 l ?_
  refine PySem.W.callWith_K (first := [.ref a]) (h₀ := X.base) I.ok.mod.kin m1.kp (thn (htr.run pos pins s1 σ H1 _ I1 q9) fun us s2 ⟨vs, H2, I2, r, q2⟩ => ⟨I2.kIn, ?_⟩) hst hpl
  exact run_pass (us := .ref a :: us) (vs := .ref a :: vs) (E := WE Wx) F1 hr b1 (passAt tk σ) I2 (.cons rfl r) q2
theorem xe_meth0 {pl : Sem Bool} {tbl : List (Nat × DFn)} {n : Nat} (M : ∀ q ∈ tbl, MEnt X.prog X.w X.K X.mg X.base B.W.CT B.W.lay k m n q) (hr : Room k X.A) (tk : Takes X Wx) (ho : XE B X Wx o pa)
    (ht : eval (.Call (.Attribute o m apos) [] [] pos) X.env = (do
      let ov ← eval o X.env
      standAt apos.atName
      let (f, first) ← holding [ov] (getMethod ov m pl)
      callWith pos f first (backTo pos (starEach [] X.env)) (backToKw pos (keywordEach [] X.env))) := by rfl) :
    XE B X Wx (.Call (.Attribute o m apos) [] [] pos) (rMeth tbl pa rNil) := by
  obtain ⟨ta, hta, ea⟩ := ho.ex
  obtain ⟨t, htr, er⟩ := (xa_nil (B := B) (X := X) (Wx := Wx)).ex
  refine ⟨tMethT B X.K m tbl Wx ta tNil, ⟨fun pins s σ H Q I h => ?_⟩, ev_meth M ea (fun S σ H G Q E k O q ka _ => ka [] H [] (Fut.refl O.wok) Reps.nil q)⟩
  refine PySem.W.methodCall_KW (pl := pl) (thn (hta.run pins s σ H _ I h) fun u s1 ⟨x, H1, I1, rx, a, dx, fs, q, hq, ex, ea, l, q9⟩ => ?_) ht
  subst ex
  obtain rfl : u = Value.ref a := rx
  obtain ⟨f, fd, ps, c1, m1, F1, b1, _⟩ := (M q hq).ex
  refine getmeth_ok I1 ea c1 m1 l ?_
  exact PySem.W.callWith_K0 (first := [.ref a]) I1.kIn m1.kp (run_pass (us := [.ref a]) (vs := [.ref a]) (E := WE Wx) F1 hr b1 (passAt tk σ) I1 (.cons rfl .nil) q9)
/-! making objects -/
theorem run_makeSD {pins : List (Addr × Obj)} {σ : L2.St} {H : Hp} {s : Shared} {Q : VK} {us : List Value} {vs : List V} {sp : Sp} {E : L2.St → XK} {CX : CXT} {C : Addr} (M : Mk X.K C f) (F : FnOk X.prog X.w X.K X.mg X.base CX k f fd ps sp) (hr : Room (k + 1) X.A) (hb : Binds X.K fd ps dsv) (hd : Vals dvs dsv)
    (hx : PassesAt CX X σ (E σ)) (I : Inv X pins σ H s) (r : Vals vs us)
    (h : ∀ x dx, H x = none → H dx = none → dx ≠ x → sp (.ref x :: (vs ++ dvs)) (upd (upd H dx (.own x)) x (.ins C dx [])) (fun v H2 => v = .non ∧ Q (.ref x) H2) (E σ)) :
    wpAny (model X.prog X.w) X.A (call (.ref C) us) (EP X pins σ Q) X.xe s := by
  have hq := h (s.heap.objs.size + 1) s.heap.objs.size (I.hok.fresh (Nat.le_succ _)) (I.hok.fresh (Nat.le_refl _)) (Nat.ne_of_lt (Nat.lt_succ_self _))
  have I2 := Inv.made (C := C) I
  have r2 : Vals (V.ref (s.heap.objs.size + 1) :: (vs ++ dvs)) (Value.ref (s.heap.objs.size + 1) :: (us ++ dsv)) := .cons rfl (r.append hd)
  have hl : (Value.ref (s.heap.objs.size + 1) :: us ++ dsv).length = ps.length := by
    have e := r2.length
    rw [F.len _ _ _ _ hq] at e
    exact e.symm
  refine wpAny_call (make_map (f := f) I.kIn M.makes M.init (beq_iff_eq.mp M.fn) (codeAny_mono (F.run _ X.stack _ _ ⟨Value.ref (s.heap.objs.size + 1) :: us, []⟩ (Value.ref (s.heap.objs.size + 1) :: (us ++ dsv)) _ _ (E σ) (hr.make C us [])
    (I2.env0.make C us []) (hb _ (Value.ref (s.heap.objs.size + 1) :: us) I2.kIn hl) r2 hq) fun r s' hq' => ?_))
  cases r with
  | error e => exact hx pins _ _ e s' I2 hq'
  | ok fl =>
    cases fl with
    | ret u =>
      obtain ⟨v, H', I3, rv, ev, q3⟩ := I2.after hq'
      subst ev
      exact ⟨rv, ⟨V.ref (s.heap.objs.size + 1), H', I3, rfl, q3⟩⟩
    | next => exact False.elim hq'
    | brk => exact False.elim hq'
    | cont => exact False.elim hq'
def rMake (c : Nat) (F : DIn) (as : XAp) : XP := fun G Q E => as G (fun xs => F xs (fun fs => Q (.ins c fs)) E) E
theorem xe_make {cn : Nat} {F : DIn} (M : Mk X.K (B.W.CT cn) f) (F1 : FnOk X.prog X.w X.K X.mg X.base (L2.CX X.prog X.w) k f fd ps (spI B.W.CT B.W.lay cn F)) (hr : Room (k + 1) X.A) (hm : X.mg x = some (.ref (B.W.CT cn))) (hb : Binds X.K fd ps dsv) (hd : Vals dvs dsv) (hdd : ∀ W H, Reps W H dds dvs) (tk : Takes X Wx) (ha : XA B X Wx (e :: es) pas)
    (hg : Gl X x := by rfl) (hdb : (x == ("__debug__" : Str)) = false := by decide) (he : starEach (e :: es) X.env = (false, eval e X.env) :: starEach es X.env := by rfl) (hpl : (backTo pos (starEach es X.env)).any (·.1) = false := by rfl) :
    XE B X Wx (.Call (.Name x p) (e :: es) [] pos) (rMake cn (fun xs => F (xs ++ dds)) pas) := by
  obtain ⟨t, ha, ea⟩ := ha.ex
  refine ⟨fun σ H Q => t σ H fun vs H1 => ∀ x dx, H1 x = none → H1 dx = none → dx ≠ x → spI B.W.CT B.W.lay cn F (.ref x :: (vs ++ dvs)) (upd (upd H1 dx (.own x)) x (.ins (B.W.CT cn) dx [])) (fun v H2 => v = .non ∧ Q (.ref x) H2) (WE Wx σ), ⟨fun pins s σ H Q I h => ?_⟩, fun S σ H G Q E k O q ke kx => ea S σ H G _ E _ O q (fun vs H1 ds f1 r1 q1 => ?_) kx⟩
  · refine wpAny_Call_Name_kw (ld_glob I hg hm ?_ hdb)
    refine PySem.W.callWith_K (h₀ := X.base) I.ok.mod.kin M.kp (thn (ha.run pos pins s σ H _ I h) fun us s1 ⟨vs, H1, I1, r, q⟩ => ⟨I1.kIn, ?_⟩) he hpl
    exact run_makeSD (E := WE Wx) M F1 hr hb hd (passAt tk σ) I1 r q
  · intro x dx hx hdx hne
    have w1 := O.wok.fut f1
    have dw : delA (upd (upd H1 dx (.own x)) x (.ins (B.W.CT cn) dx [])) x = upd H1 dx (.own x) := by
      funext a
      by_cases h : a = x
      · rw [h, delA_same, upd_ne (Ne.symm hne), hx]
      · rw [delA_ne h, upd_ne h]
    have g1 : Fut (B.W.at S) H1 (upd H1 dx (.own x)) := fut_new w1 hdx
    refine ⟨B.W.L, S, x, dx, vs ++ dvs, ds ++ dds, fun fs => Q (.ins cn fs), E, rfl, upd_same, w1.new hx, w1.nl (w1.new hx), ?_, ?_, q1, ?_, ?_⟩
    · rw [dw]
      exact w1.fut g1
    · rw [dw]
      exact (r1.fut w1 g1).app (hdd _ _)
    · intro H' dx' us fs f2 e2 l2 r2 q2
      rw [dw] at f2
      exact ⟨rfl, ke _ H' _ ((f1.trans g1).trans f2) (mkO (w1.new hx) e2 l2 r2) q2⟩
    · intro cls dd H' ex f2 x2 e2
      rw [dw] at f2
      exact kx _ _ _ _ ((f1.trans g1).trans f2) x2 e2
end
end Pu
namespace Pu
open PySem PySem.Spec PyProof.Rows L2
/-! ## statements -/
structure Po where
  nx : List Sl → Prop
  rt : D → Prop
  bk : List Sl → Prop := fun _ => False
  ct : List Sl → Prop := fun _ => False
  ex : Exn → List Sl → Prop
abbrev XSp := List Sl → Po → Prop
structure KP (B : Bs) (Wx : WX) (P : Po) (D : Ends) : Prop where
  nx : ∀ S σ H G, Ok B S σ H G → P.nx G → D.nx σ H
  rt : ∀ S σ H G v d, Ok B S σ H G → Rep (B.W.at S) H d v → P.rt d → D.rt v H
  bk : ∀ S σ H G, Ok B S σ H G → P.bk G → D.bk σ H
  ct : ∀ S σ H G, Ok B S σ H G → P.ct G → D.ct σ H
  ex : ∀ S σ H G cls dd ex, Ok B S σ H G → ExOk (B.W.at S) H ex cls dd → P.ex ex G → Wx cls dd σ H
def EvS (B : Bs) (Wx : WX) (t : TS) (p : XSp) : Prop := ∀ S σ H G P D, Ok B S σ H G → p G P → KP B Wx P D → t D σ H
structure XS (B : Bs) (X : Cx) (Wx : WX) (st : Stmt) (p : XSp) : Prop where
  ex : ∃ t, PS X st t ∧ EvS B Wx t p
structure XSs (B : Bs) (X : Cx) (Wx : WX) (st : List Stmt) (p : XSp) : Prop where
  ex : ∃ t, PSs X st t ∧ EvS B Wx t p
theorem KP.kx {B : Bs} {Wx : WX} {P : Po} {D : Ends} (k : KP B Wx P D) {S : Addr → Prop} {σ : L2.St} {H : Hp} {G : List Sl} (O : Ok B S σ H G) : KX (B.W.at S) σ H (fun e => P.ex e G) Wx := fun cls dd H' ex f x e => k.ex S σ H' G cls dd ex (O.fut f) x e
def rNext : XSp := fun G P => P.nx G
def rSeq (a b : XSp) : XSp := fun G P => a G { P with nx := fun G' => b G' P }
def rIf (c : XTp) (a b : XSp) : XSp := fun G P => c G (fun k => if k = true then a G P else b G P) (fun e => P.ex e G)
def rRet (a : XP) : XSp := fun G P => a G P.rt (fun e => P.ex e G)
def rRetN : XSp := fun _ P => P.rt .non
def rDrop (a : XP) : XSp := fun G P => a G (fun _ => P.nx G) (fun e => P.ex e G)
def rBrk : XSp := fun G P => P.bk G
def rCont : XSp := fun G P => P.ct G
/-! targets -/
abbrev XGp := D → List Sl → (List Sl → Prop) → Prop
abbrev XGsp := List D → List Sl → (List Sl → Prop) → Prop
def gN (i : Nat) : XGp := fun d G Q => Q (G.set i (.d d))
def gsN : XGsp := fun ds G Q => match ds with
  | [] => Q G
  | _ => False
def gsC (g : XGp) (r : XGsp) : XGsp := fun ds G Q => match ds with
  | d :: ds => g d G (fun G1 => r ds G1 Q)
  | _ => False
def gT (n : Nat) (g : XGsp) : XGp := fun d G Q => match d with
  | .tup ds => ds.length = n ∧ g ds G Q
  | _ => False
structure XG (B : Bs) (X : Cx) (tg : Expr) (g : XGp) : Prop where
  ex : ∃ t, PG X tg t ∧ ∀ S σ H G d v Q (k : L2.St → Hp → Prop), Ok B S σ H G → Rep (B.W.at S) H d v → g d G Q → (∀ σ' H' G', Ok B S σ' H' G' → Fut (B.W.at S) H H' → Q G' → k σ' H') → t v σ H k
structure XGs (B : Bs) (X : Cx) (tg : List Expr) (g : XGsp) : Prop where
  ex : ∃ t, PGs X tg t ∧ ∀ S σ H G ds vs Q (k : L2.St → Hp → Prop), Ok B S σ H G → Reps (B.W.at S) H ds vs → g ds G Q → (∀ σ' H' G', Ok B S σ' H' G' → Fut (B.W.at S) H H' → Q G' → k σ' H') → t vs σ H k
def rAsg (a : XP) (g : XGp) : XSp := fun G P => a G (fun d => g d G P.nx) (fun e => P.ex e G)
section
variable {B : Bs} {X : Cx} {Wx : WX} {a b c e tg : Expr} {es : List Expr} {pa pb pc : XP} {pos : Pos} {pas : XAp} {st : Stmt} {sts ats bts : List Stmt} {p p2 pp qq : XSp} {qt : XTp} {g : XGp} {gs : XGsp}
theorem xss_nil : XSs B X Wx [] rNext := ⟨tNext, pss_nil, fun S σ H G P D O q k => k.nx S σ H G O q⟩
theorem xss_cons (h1 : XS B X Wx st pp) (h2 : XSs B X Wx sts qq) : XSs B X Wx (st :: sts) (rSeq pp qq) := by
  obtain ⟨t, h1, e1⟩ := h1.ex
  obtain ⟨u, h2, e2⟩ := h2.ex
  exact ⟨tSeq t u, pss_cons h1 h2, fun S σ H G P D O q k => e1 S σ H G { P with nx := fun G' => qq G' P } { D with nx := u D } O q ⟨fun S' σ' H' G' O' q' => e2 S' σ' H' G' P D O' q' k, k.rt, k.bk, k.ct, k.ex⟩⟩
theorem xss_one (h1 : XS B X Wx st pp) : XSs B X Wx [st] pp := by
  obtain ⟨t, h1, e1⟩ := h1.ex
  exact ⟨t, pss_one h1, e1⟩
theorem xs_if (hc : XT B X Wx c qt) (ha : XSs B X Wx ats pp) (hb : XSs B X Wx bts qq) : XS B X Wx (.If c ats bts pos) (rIf qt pp qq) := by
  obtain ⟨tc, hc, ec⟩ := hc.ex
  obtain ⟨ta, ha, ea⟩ := ha.ex
  obtain ⟨tb, hb, eb⟩ := hb.ex
  refine ⟨tIfS tc ta tb, ps_if hc ha hb, fun S σ H G P D O q k => ec S σ H G _ _ _ O q (fun b H' f h => ?_) (k.kx O)⟩
  cases b with
  | true =>
    rw [if_pos rfl] at h ⊢
    exact ea S σ H' G P D (O.fut f) h k
  | false =>
    rw [if_neg Bool.false_ne_true] at h ⊢
    exact eb S σ H' G P D (O.fut f) h k
theorem xs_ret (ha : XE B X Wx a pa) : XS B X Wx (.Return (some a) pos) (rRet pa) := by
  obtain ⟨ta, ha, ea⟩ := ha.ex
  exact ⟨tRet ta, ps_ret ha, fun S σ H G P D O q k => ea S σ H G _ _ _ O q (fun v H' d f r h => k.rt S σ H' G v d (O.fut f) r h) (k.kx O)⟩
theorem xs_retN : XS B X Wx (.Return none pos) rRetN := ⟨tRetN, ps_retN, fun S σ H G P D O q k => k.rt S σ H G .non .non O mkN q⟩
theorem xs_pass : XS B X Wx (.Pass pos) rNext := ⟨tNext, ps_pass, fun S σ H G P D O q k => k.nx S σ H G O q⟩
theorem xs_break : XS B X Wx (.Break pos) rBrk := ⟨tBreak, ps_break, fun S σ H G P D O q k => k.bk S σ H G O q⟩
theorem xs_continue : XS B X Wx (.Continue pos) rCont := ⟨tCont, ps_continue, fun S σ H G P D O q k => k.ct S σ H G O q⟩
theorem xs_expr (ha : XE B X Wx a pa) (hs : swapsWith a none pos.line X.env = pure false := by rfl) : XS B X Wx (.Expr a pos) (rDrop pa) := by
  obtain ⟨ta, ha, ea⟩ := ha.ex
  exact ⟨tDrop ta, ps_expr ha hs, fun S σ H G P D O q k => ea S σ H G _ _ _ O q (fun v H' d f r h => k.nx S σ H' G (O.fut f) h) (k.kx O)⟩
theorem xs_doc {x j pos pos'} : XS B X Wx (.Expr (.Constant (.str x) j pos) pos') rNext := ⟨tNext, ps_doc, fun S σ H G P D O q k => k.nx S σ H G O q⟩
theorem xg_name (i : Nat) {x : Str} (hN : X.N.Nodup) (hi : X.N[i]? = some x := by rfl) (hx : Loc X.env.scope x := by first | exact Or.inl rfl | exact Or.inr rfl) (hf : X.fn x = true ∨ X.env.scope.names.lookup x = some .local := by first | exact .inl rfl | exact .inr rfl | assumption) : XG B X (.Name x pos) (gN i) :=
  ⟨gName i, pg_name hN hi hx hf, fun S σ H G d v Q k O r q h => h _ H _ (O.set i r) (Fut.refl O.wok) q⟩
theorem xgs_nil : XGs B X [] gsN := ⟨gNil, pgs_nil, fun S σ H G ds vs Q k O r q h => by
  cases ds with
  | nil =>
    simp only [Reps] at r
    exact ⟨r, h σ H G O (Fut.refl O.wok) q⟩
  | cons d ds => exact False.elim q⟩
theorem xgs_cons (h1 : XG B X e g) (h2 : XGs B X es gs)
    (h : (assignEach (e :: es) X.env).map (·.2) = assign e X.env :: (assignEach es X.env).map (·.2) := by rfl) : XGs B X (e :: es) (gsC g gs) := by
  obtain ⟨t, h1, e1⟩ := h1.ex
  obtain ⟨u, h2, e2⟩ := h2.ex
  refine ⟨gCons t u, by first | exact pgs_cons h1 h2 h | exact pgs_cons h1 h2, fun S σ H G ds vs Q k O r q h => ?_⟩
  cases ds with
  | nil => exact False.elim q
  | cons d ds =>
    simp only [Reps] at r
    obtain ⟨v, r', rfl, r1, r2⟩ := r
    refine ⟨v, r', rfl, e1 S σ H G d v _ _ O r1 q fun σ' H' G' O' f q' => ?_⟩
    exact e2 S σ' H' G' ds r' Q k O' (r2.fut O.wok f) q' fun σ2 H2 G2 O2 f2 q2 => h σ2 H2 G2 O2 (f.trans f2) q2
end
end Pu
namespace Pu
open PySem PySem.Spec PyProof.Rows L2
theorem Fut.free {W : Wd} {H H1 : Hp} (f : Fut W H H1) {p : Addr} (h : H1 p = none) : H p = none := by
  cases e : H p with
  | none => rfl
  | some o =>
    by_cases n : nL W.L p
    · rw [f.keep p o e n] at h
      cases h
    · exfalso
      refine n fun s l el => ⟨fun z => ?_, fun z => ?_⟩
      · obtain ⟨i, n, cs, e1, e2, _⟩ := f.law s l el
        rw [z, e1] at h
        cases h
      · obtain ⟨i, n, cs, e1, e2, _⟩ := f.law s l el
        rw [z, e2] at h
        cases h
/-- a tuple or a list of n unpacked -/
def gU (n : Nat) (g : XGsp) : XGp := fun d G Q => match d with
  | .tup ds => ds.length = n ∧ g ds G Q
  | .lst ds => ds.length = n ∧ g ds G Q
  | _ => False
/-- an expression that gives a new list -/
structure XN (B : Bs) (X : Cx) (Wx : WX) (e : Expr) (p : XAp) : Prop where
  ex : ∃ t, PE X e t ∧ ∀ S σ H G Q E (k : VK), Ok B S σ H G → p G Q E → (∀ a vs H' ds, H a = none → Fut (B.W.at S) H H' → H' a = some (.lst vs) → Reps (B.W.at fun x => S x ∨ x = a) H' ds vs → Q ds → k (.ref a) H') → KX (B.W.at S) σ H E Wx → t σ H k
def rOwnSet (i : Nat) (a : XAp) : XSp := fun G P => a G (fun ds => P.nx (G.set i (.own ds))) (fun e => P.ex e G)
def rApp (i : Nat) (a : XP) : XSp := fun G P => match G[i]? with
  | some (.own ds) => a (G.set i .no) (fun d => ds.length < 100000 ∧ P.nx (G.set i (.own (ds ++ [d])))) (fun e => P.ex e G)
  | _ => False
def flat : D → Bool
  | .non => true
  | .bl _ => true
  | .int _ => true
  | .str _ => true
  | _ => false
theorem flat_any {W W' : Wd} {H H' : Hp} {d : D} {v : V} (f : flat d = true) (h : Rep W H d v) : Rep W' H' d v := by
  cases d <;> first | (cases f; done) | (simp only [Rep] at h ⊢; exact h)
/-- x.append(e), e reads x -/
def rAppF (i : Nat) (a : XP) : XSp := fun G P => match G[i]? with
  | some (.own ds) => a (G.set i (.d (.lst ds))) (fun d => flat d = true ∧ ds.length < 100000 ∧ P.nx (G.set i (.own (ds ++ [d])))) (fun _ => False)
  | _ => False
def rSetIx (i : Nat) (j a : XP) : XSp := fun G P => match G[i]? with
  | some (.own ds) => a (G.set i .no) (fun d => j (G.set i .no) (fun n => match n with
    | .int n => match ixN ds.length n with
      | some m => P.nx (G.set i (.own (ds.set m d)))
      | none => False
    | _ => False) (fun e => P.ex e G)) (fun e => P.ex e G)
  | _ => False
section
variable {B : Bs} {X : Cx} {Wx : WX} {a b c e tg : Expr} {es : List Expr} {pa pb pc : XP} {pos : Pos} {pas : XAp} {st : Stmt} {sts ats bts : List Stmt} {p p2 pp qq : XSp} {qt : XTp} {g : XGp} {gs : XGsp}
theorem xg_tup {kk n : Nat} (hc : X.calm = true) (h : XGs B X es gs) (hn : (assignEach es X.env).length = n := by rfl) (hst : (assignEach es X.env).findIdx? (·.1) = none := by rfl) : XG B X (.Tuple es kk pos) (gU n gs) := by
  obtain ⟨t, h, ev⟩ := h.ex
  have h1 := pg_tup (pos := pos) (k := kk) hc h hn hst
  have h2 := pg_unl (pos := pos) (k := kk) hc h hn hst
  refine ⟨fun v σ H Q => gTup X.K n t v σ H Q ∨ gUnl X.K n t v σ H Q, ⟨fun pins s σ H v u Q I r q => q.elim (fun q => h1.run pins s σ H v u Q I r q) (fun q => h2.run pins s σ H v u Q I r q)⟩, fun S σ H G d v Q k O r q hk => ?_⟩
  cases d <;> first | exact False.elim q | skip
  · obtain ⟨p, vs, rfl, n1, e1, z1⟩ := repL r
    exact .inr ⟨p, vs, rfl, SqL.of e1, by rw [z1.len]; exact q.1, ev S σ H G _ vs Q k O z1 q.2 hk⟩
  · obtain ⟨p, vs, rfl, n1, e1, z1⟩ := repT r
    exact .inl ⟨p, vs, rfl, (.inl e1), by rw [z1.len]; exact q.1, ev S σ H G _ vs Q k O z1 q.2 hk⟩
theorem xs_asg (ha : XE B X Wx a pa) (hg : XG B X tg g) (hs : swapsWithSole [tg] a pos.line X.env = pure false := by rfl) (hw : swappedStores [tg] a X.env = pure none := by rfl)
    (h1 : (assignEach [tg] X.env).map (·.2) = [assign tg X.env] := by rfl) : XS B X Wx (.Assign [tg] a pos) (rAsg pa g) := by
  obtain ⟨ta, ha, ea⟩ := ha.ex
  obtain ⟨t, hg, eg⟩ := hg.ex
  refine ⟨tAsg ta t, ps_asg ha hg hs hw h1, fun S σ H G P D O q k => ea S σ H G _ _ _ O q (fun v H' d f r h => ?_) (k.kx O)⟩
  exact eg S σ H' G d v _ _ (O.fut f) r h fun σ2 H2 G2 O2 f2 q2 => k.nx S σ2 H2 G2 O2 q2
def rSet (i : Nat) (a : XP) : XSp := fun G P => a G (fun d => P.nx (G.set i (.d d))) (fun e => P.ex e G)
theorem xs_set (i : Nat) {x : Str} {pos' : Pos} (ha : XE B X Wx a pa) (hN : X.N.Nodup) (hi : X.N[i]? = some x := by rfl) (hx : Loc X.env.scope x := by first | exact Or.inl rfl | exact Or.inr rfl) (hs : swapsWith a (some (.Name x pos')) pos.line X.env = pure false := by rfl)
    (hf : X.fn x = true ∨ X.env.scope.names.lookup x = some .local := by first | exact .inl rfl | exact .inr rfl | assumption) : XS B X Wx (.Assign [.Name x pos'] a pos) (rSet i pa) := by
  obtain ⟨ta, ha, ea⟩ := ha.ex
  exact ⟨_, ps_set hN hi hx ha hs hf, fun S σ H G P D O q k => ea S σ H G _ _ _ O q (fun v H' d f r h => k.nx S _ H' _ ((O.fut f).set i r) h) (k.kx O)⟩
theorem xs_own (i : Nat) {x : Str} {pos' : Pos} (ha : XN B X Wx a pas) (hN : X.N.Nodup) (hi : X.N[i]? = some x := by rfl) (hx : Loc X.env.scope x := by first | exact Or.inl rfl | exact Or.inr rfl) (hs : swapsWith a (some (.Name x pos')) pos.line X.env = pure false := by rfl)
    (hf : X.fn x = true ∨ X.env.scope.names.lookup x = some .local := by first | exact .inl rfl | exact .inr rfl | assumption) : XS B X Wx (.Assign [.Name x pos'] a pos) (rOwnSet i pas) := by
  obtain ⟨ta, ha, ea⟩ := ha.ex
  refine ⟨_, ps_set hN hi hx ha hs hf, fun S σ H G P D O q k => ea S σ H G _ _ _ O q (fun a vs H' ds hn f e r h => ?_) (k.kx O)⟩
  have nl : nL B.W.L a := O.wok.nl (O.wok.new hn)
  have na : ¬ B.W.S a := fun z => O.wok.new hn (O.sub a z)
  exact k.nx _ _ H' _ (O.keep i (g := .own ds) hn f.keep f.law ⟨_, e⟩ nl ⟨a, vs, rfl, .inr rfl, na, nl, e, r⟩) h
theorem xn_new {W : Wd} {H H1 : Hp} {p : Addr} {ds : List D} {vs : List V} (w : WOk W H) (f : Fut W H H1) (r : Reps W H1 ds vs) (hp : H1 p = none) : Fut W H (upd H1 p (.lst vs)) ∧ Reps (W.at fun x => W.S x ∨ x = p) (upd H1 p (.lst vs)) ds vs := by
  have g := fut_new (o := .lst vs) (w.fut f) hp
  refine ⟨f.trans g, Reps.mono (W := W) (fun a o n e => ?_) ds vs r⟩
  have : a ≠ p := fun z => by rw [z, hp] at e; cases e
  exact ⟨by rw [upd_ne this]; exact e, fun z => z.elim n this⟩
def rSz (a : XAp) : XAp := fun G Q E => a G (fun ds => ds.length ≤ 1000 ∧ Q ds) E
theorem xn_lst (h : XA B X Wx es pas) : XN B X Wx (.List es pos) (rSz pas) := by
  obtain ⟨t, h, ev⟩ := h.ex
  refine ⟨tLst t, pe_lst h, fun S σ H G Q E k O q hk kx => ev S σ H G _ E _ O q (fun vs H1 ds f r h => ?_) kx⟩
  refine ⟨Nat.le_of_lt (small1000 (by rw [r.len]; exact h.1)), fun p hp => ?_⟩
  obtain ⟨g, r'⟩ := xn_new O.wok f r hp
  exact hk p vs _ ds (f.free hp) g upd_same r' h.2
theorem xn_list {x : Str} {p : Pos} (hm : X.mg x = none) (hv : bootBuiltins x = some (.type "list")) (ha : XE B X Wx a pa) (hg : Gl X x := by rfl) (hn : x ≠ "__name__" := by decide) (hdb : (x == ("__debug__" : Str)) = false := by decide)
    (he : starEach [a] X.env = (false, eval a X.env) :: starEach [] X.env := by rfl) (hpl : (backTo pos (starEach [] X.env)).any (·.1) = false := by rfl) :
    XN B X Wx (.Call (.Name x p) [a] [] pos) (fun G Q E => pa G (fun d => match d with
      | .lst ds => Q ds
      | .tup ds => Q ds
      | _ => False) E) := by
  obtain ⟨ta, ha, ea⟩ := ha.ex
  refine ⟨_, pe_callTy call_list_of hg hm hv (pa_cons ha pa_nil he) hn hdb he hpl, fun S σ H G Q E k O q hk kx => ea S σ H G _ E _ O q (fun v H1 d f r h => ?_) kx⟩
  cases d <;> first | exact False.elim h | skip
  · obtain ⟨p, vs, rfl, n1, e1, z1⟩ := repL r
    refine ⟨p, vs, rfl, .inl (SqL.of e1), fun q hq => ?_⟩
    obtain ⟨g, r'⟩ := xn_new O.wok f z1 hq
    exact hk q vs _ _ (f.free hq) g upd_same r' h
  · obtain ⟨p, vs, rfl, n1, e1, z1⟩ := repT r
    refine ⟨p, vs, rfl, .inr ((.inl e1)), fun q hq => ?_⟩
    obtain ⟨g, r'⟩ := xn_new O.wok f z1 hq
    exact hk q vs _ _ (f.free hq) g upd_same r' h
theorem xn_cat (ha : XE B X Wx a pa) (hb : XE B X Wx b pb) : XN B X Wx (.BinOp a .Add b pos) (fun G Q E => pa G (fun x => pb G (fun y => match x, y with
      | .lst xs, .lst ys => xs.length + ys.length ≤ 100000 ∧ Q (xs ++ ys)
      | _, _ => False) E) E) := by
  obtain ⟨ta, ha, ea⟩ := ha.ex
  obtain ⟨tb, hb, eb⟩ := hb.ex
  refine ⟨_, pe_op op_cat ha hb, fun S σ H G Q E k O q hk kx => ev2 ea eb O q kx fun x y H' dx dy f O' r1 r2 h => ?_⟩
  cases dx <;> first | exact False.elim h | skip
  cases dy <;> first | exact False.elim h | skip
  obtain ⟨p, vs, rfl, n1, e1, z1⟩ := repL r1
  obtain ⟨p', ws, rfl, n2, e2, z2⟩ := repL r2
  refine ⟨p, p', vs, ws, rfl, rfl, e1, e2, le_line (by rw [z1.len, z2.len]; exact h.1), fun q hq => ?_⟩
  obtain ⟨g, r'⟩ := xn_new O.wok f (z1.app z2) hq
  exact hk q _ _ _ (f.free hq) g upd_same r' h.2
/-- x[j] = e, x an own list -/
theorem xs_setix (i : Nat) {x : Str} {px p3 : Pos} (ha : XE B X Wx e pa) (hb : XE B X Wx b pb) (hN : X.N[i]? = some x := by rfl) (hv : Vis X.env.scope x := by first | exact Or.inl rfl | exact Or.inr (Or.inl rfl) | exact Or.inr (Or.inr rfl)) (hd : (x == ("__debug__" : Str)) = false := by decide)
    (hcd : (x == ("__classdict__" : Str)) = false := by decide) (hps : ∀ {to ti : TE}, PE X (.Name x px) to → PE X b ti → PG X (.Subscript (.Name x px) b p3) (gSub to ti rSetL) := by exact fun h1 h2 => pg_sub h1 h2 set_list)
    (hs : swapsWithSole [.Subscript (.Name x px) b p3] e pos.line X.env = pure false := by rfl) (hw : swappedStores [.Subscript (.Name x px) b p3] e X.env = pure none := by rfl)
    (h1 : (assignEach [.Subscript (.Name x px) b p3] X.env).map (·.2) = [assign (.Subscript (.Name x px) b p3) X.env] := by rfl) : XS B X Wx (.Assign [.Subscript (.Name x px) b p3] e pos) (rSetIx i pb pa) := by
  obtain ⟨ta, ha, ea⟩ := ha.ex
  obtain ⟨tb, hb, eb⟩ := hb.ex
  refine ⟨_, ps_asg ha (hps (pe_var hN hv hd hcd) hb) hs hw h1, fun S σ H G P D O q k => ?_⟩
  unfold rSetIx at q
  cases hg : G[i]? with
  | none => rw [hg] at q; exact q.elim
  | some g =>
    rw [hg] at q
    cases g <;> first | exact False.elim q | skip
    rename_i ds
    obtain ⟨o, eo, a, vs, rfl, s1, s2, s3, e1, rr⟩ := O.get hg
    refine ea S σ H (G.set i .no) _ _ _ (O.forget i) q (fun v H' d f r h => ?_) (fun cls dd H' ex f x e => k.ex S σ H' G cls dd ex (O.fut f) x e)
    refine ⟨_, eo, ?_⟩
    refine eb S σ H' (G.set i .no) _ _ _ ((O.fut f).forget i) h (fun w H2 d2 f2 r2 h2 => ?_) (fun cls dd H2 ex f2 x e => k.ex S σ H2 G cls dd ex ((O.fut f).fut f2) x e)
    cases d2 <;> first | exact False.elim h2 | skip
    rename_i n
    have f12 := f.trans f2
    have e1' := f12.keep a _ e1 s3
    have h2' : (match ixN ds.length n with | some m => P.nx (G.set i (.own (ds.set m d))) | none => False) := h2
    cases hx : ixN ds.length n with
    | none => rw [hx] at h2'; exact h2'.elim
    | some m =>
      rw [hx] at h2'
      refine ⟨a, vs, n, m, rfl, repI r2, e1', by rw [rr.len]; exact hx, ?_⟩
      have O' := O.fut f12
      refine k.nx S σ _ _ (O'.turn (g' := .own (ds.set m d)) hg rfl eo ⟨a, vs.set m v, rfl, s1, s2, s3, upd_same, ?_⟩ rfl) h2'
      have rr' := Reps.set (r.fut (O.wok.fut f) f2) m (rr.fut O.wok f12)
      exact Reps.mono (W := B.W.at S) (S := S) (fun b u n z => ⟨by rw [upd_ne (show b ≠ a from fun y => n (by rw [y]; exact s1))]; exact z, n⟩) _ _ rr'
/-- x.append(e) -/
theorem xs_app (i : Nat) {x : Str} {px apos cpos : Pos} (ha : XE B X Wx e pa) (hN : X.N[i]? = some x := by rfl) (hv : Vis X.env.scope x := by first | exact Or.inl rfl | exact Or.inr (Or.inl rfl) | exact Or.inr (Or.inr rfl)) (hd : (x == ("__debug__" : Str)) = false := by decide)
    (hcd : (x == ("__classdict__" : Str)) = false := by decide) (hs0 : swapsWith (.Call (.Attribute (.Name x px) "append" apos) [e] [] cpos) none pos.line X.env = pure false := by rfl)
    (hbase : attributeBase (.Name x px) "append" X.env (eval (.Name x px) X.env) = eval (.Name x px) X.env := by rfl)
    (hfew : ((backTo cpos (starEach [e] X.env)).all (fun x => !x.1) && (backToKw cpos (keywordEach [] X.env)).all (fun x => x.1.isSome)
      && decide ([e].length + ([] : List Keyword).length + (if ([] : List Keyword).isEmpty then 0 else 1) < 30)) = true := by rfl)
    (hline : (apos.endLine == cpos.line) = true := by rfl) (hs : starEach [e] X.env = (false, eval e X.env) :: starEach [] X.env := by rfl) (hplain : (backTo cpos (starEach [] X.env)).any (·.1) = false := by rfl) :
    XS B X Wx (.Expr (.Call (.Attribute (.Name x px) "append" apos) [e] [] cpos) pos) (rApp i pa) ∧ XS B X Wx (.Expr (.Call (.Attribute (.Name x px) "append" apos) [e] [] cpos) pos) (rAppF i pa) := by
  obtain ⟨ta, ha, ea⟩ := ha.ex
  have hp := ps_expr (pe_bm PySem.F.plainAttrs_list PySem.F.slot_list_append PySem.F.type_list_append mt_append (pe_var hN hv hd hcd) (pa_cons ha pa_nil hs) hbase hfew hline hs hplain) hs0
  refine ⟨⟨_, hp, fun S σ H G P D O q k => ?_⟩, ⟨_, hp, fun S σ H G P D O q k => ?_⟩⟩
  · unfold rApp at q
    cases hg : G[i]? with
    | none => rw [hg] at q; exact q.elim
    | some g =>
      rw [hg] at q
      cases g <;> first | exact False.elim q | skip
      rename_i ds
      obtain ⟨o, eo, a, vs, rfl, s1, s2, s3, e1, rr⟩ := O.get hg
      refine ⟨_, eo, .inl ⟨rfl, vs, SqL.of e1⟩, ?_⟩
      refine ea S σ H (G.set i .no) _ _ _ (O.forget i) q (fun v H' d f r h => ?_) (fun cls dd H' ex f x e => k.ex S σ H' G cls dd ex (O.fut f) x e)
      have e1' := f.keep a _ e1 s3
      refine ⟨a, vs, v, rfl, rfl, e1', Nat.lt_of_lt_of_le (by rw [rr.len]; exact h.1) (le_line (Nat.le_refl _)), ?_⟩
      have O' := O.fut f
      refine k.nx S σ _ _ (O'.turn (g' := .own (ds ++ [d])) hg rfl eo ⟨a, vs ++ [v], rfl, s1, s2, s3, upd_same, ?_⟩ rfl) h.2
      have rr' := (rr.fut O.wok f).app (Reps.cons r Reps.nil)
      refine Reps.mono (W := B.W.at S) (S := S) (fun b u n z => ⟨by rw [upd_ne (show b ≠ a from fun y => n (by rw [y]; exact s1))]; exact z, n⟩) _ _ rr'
  · unfold rAppF at q
    cases hg : G[i]? with
    | none => rw [hg] at q; exact q.elim
    | some g =>
      rw [hg] at q
      cases g <;> first | exact False.elim q | skip
      rename_i ds
      obtain ⟨o, eo, a, vs, rfl, s1, s2, s3, e1, rr⟩ := O.get hg
      refine ⟨_, eo, .inl ⟨rfl, vs, SqL.of e1⟩, ?_⟩
      obtain ⟨a', sa', O2⟩ := O.thaw hg
      refine ea _ σ H (G.set i (.d (.lst ds))) _ _ _ O2 q (fun v H' d f r h => ?_) (fun cls dd H' ex f x e => e.elim)
      have f' : Fut (B.W.at S) H H' := ⟨f.keep, f.law⟩
      have e1' := f.keep a _ e1 s3
      refine ⟨a, vs, v, rfl, rfl, e1', Nat.lt_of_lt_of_le (by rw [rr.len]; exact h.2.1) (le_line (Nat.le_refl _)), ?_⟩
      have O' := O.fut f'
      refine k.nx S σ _ _ (O'.turn (g' := .own (ds ++ [d])) hg rfl eo ⟨a, vs ++ [v], rfl, s1, s2, s3, upd_same, ?_⟩ rfl) h.2.2
      have rr' := (rr.fut O.wok f').app (Reps.cons (flat_any h.1 r) Reps.nil)
      refine Reps.mono (W := B.W.at S) (S := S) (fun b u n z => ⟨by rw [upd_ne (show b ≠ a from fun y => n (by rw [y]; exact s1))]; exact z, n⟩) _ _ rr'
end
end Pu
namespace Pu
open PySem PySem.Spec PyProof.Rows L2
/-! ## a new base: what stands here stays -/
noncomputable def Bs.re (B : Bs) (S : Addr → Prop) (H : Hp) : Bs := { B with H0 := fun a => @ite _ (S a ∧ ¬ B.W.S a) (Classical.propDecidable _) none (H a) }
def Pr (S : Addr → Prop) (H : Hp) (S' : Addr → Prop) (H' : Hp) : Prop := ∀ a o, ¬ S a → H a = some o → H' a = some o ∧ ¬ S' a
section
variable {B : Bs} {S S' : Addr → Prop} {σ σ' : L2.St} {H H' : Hp} {G G' : List Sl}
theorem Bs.re_in {a : Addr} (h : ¬ (S a ∧ ¬ B.W.S a)) : (B.re S H).H0 a = H a := if_neg h
theorem Bs.re_out {a : Addr} (h : S a ∧ ¬ B.W.S a) : (B.re S H).H0 a = none := if_pos h
theorem Ok.re (O : Ok B S σ H G) : Ok (B.re S H) S σ H G where
  wok := O.wok
  ext := fun a o e n => by
    by_cases h : S a ∧ ¬ B.W.S a
    · rw [Bs.re_out h] at e; cases e
    · rw [Bs.re_in h] at e; exact e
  sub := O.sub
  new := fun a h => by
    by_cases hb : B.W.S a
    · exact .inl hb
    · exact .inr (Bs.re_out ⟨h, hb⟩)
  len := O.len
  lw := O.lw
  sl := fun i g o e1 e2 => by
    have := O.sl i g o e1 e2
    cases g <;> exact this
  inj := O.inj
theorem Ok.pr (O : Ok B S σ H G) (O' : Ok (B.re S H) S' σ' H' G') : Pr S H S' H' := fun a o n e => by
  have hin : (B.re S H).H0 a = some o := by rw [Bs.re_in fun z => n z.1]; exact e
  refine ⟨O'.ext a o hin (O.wok.nl n), fun z => ?_⟩
  rcases O'.new a z with w | w
  · exact n (O.sub a w)
  · rw [hin] at w; cases w
theorem Ok.un (O : Ok B S σ H G) (O' : Ok (B.re S H) S' σ' H' G') : Ok B S' σ' H' G' where
  wok := O'.wok
  ext := fun a o e n => by
    refine O'.ext a o ?_ n
    rw [Bs.re_in]
    · exact O.ext a o e n
    · rintro ⟨h1, h2⟩
      rcases O.new a h1 with w | w
      · exact h2 w
      · rw [e] at w; cases w
  sub := O'.sub
  new := fun a h => by
    by_cases hb : B.W.S a
    · exact .inl hb
    · refine .inr ?_
      cases e : B.H0 a with
      | none => rfl
      | some o =>
        exfalso
        rcases O'.new a h with w | w
        · exact hb w
        · have n : ¬ (S a ∧ ¬ B.W.S a) := by
            rintro ⟨h1, h2⟩
            rcases O.new a h1 with w | w
            · exact h2 w
            · rw [e] at w; cases w
          rw [Bs.re_in n] at w
          have nl : nL B.W.L a := fun s l el => ⟨fun z => hb (z ▸ (O.lw s l el).1), fun z => hb (z ▸ (O.lw s l el).2)⟩
          rw [O.ext a o e nl] at w
          cases w
  len := O'.len
  lw := O.lw
  sl := fun i g o e1 e2 => by
    have := O'.sl i g o e1 e2
    cases g <;> exact this
  inj := O'.inj
end
/-! ## what is walked -/
def Wk (W : Wd) (S : Addr → Prop) (H : Hp) (J : It) (ds : List D) : Prop := ∀ (S' : Addr → Prop) (H' : Hp), Pr S H S' H' → WOk (W.at S') H' → ∀ i, (∀ d, ds[i]? = some d → J.go i H' ∧ ∀ x H2, J.yld i H' x H2 → Fut (W.at S') H' H2 ∧ Rep (W.at S') H2 d x) ∧ (i = ds.length → J.stop i H')
structure XI (B : Bs) (X : Cx) (Wx : WX) (tg iter : Expr) (q : XAp) : Prop where
  ex : ∃ wi, PI X tg iter wi ∧ ∀ S σ H G Q E (R : It → Hp → Prop), Ok B S σ H G → q G Q E → (∀ J H1 ds, Fut (B.W.at S) H H1 → Wk B.W S H1 J ds → Q ds → R J H1) → KX (B.W.at S) σ H E Wx → wi σ H R
/-- the items of a list or a tuple -/
def rItems (a : XP) : XAp := fun G Q E => a G (fun d => match d with
  | .lst ds => Q ds
  | .tup ds => Q ds
  | _ => False) E
def rRange (as : XAp) : XAp := fun G Q E => as G (fun xs => match xs with
  | [.int j] => j < 4611686018427387904 ∧ -4611686018427387904 ≤ j ∧ Q ((List.range j.toNat).map fun (i : Nat) => .int ((i : Nat) : Int))
  | _ => False) E
section
variable {B : Bs} {X : Cx} {Wx : WX} {a b c e tg iter : Expr} {es : List Expr} {pa pb pc : XP} {pos : Pos} {pas q : XAp} {st : Stmt} {sts ats bts body : List Stmt} {pp qq : XSp} {qt : XTp} {g : XGp} {gs : XGsp}
theorem wk_list {W : Wd} {K : PySem.W.Frag} {S : Addr → Prop} {H : Hp} {p : Addr} {vs : List V} {ds : List D} (n : ¬ S p) (e : H p = some (.lst vs)) (r : Reps (W.at S) H ds vs) : Wk W S H (Itl K p) ds := by
  intro S' H' pr w' i
  obtain ⟨e', n'⟩ := pr p _ n e
  have r' : Reps (W.at S') H' ds vs := Reps.mono (W := W.at S) (S := S') pr ds vs r
  refine ⟨fun d ed => ?_, fun hi => ⟨vs, SqL.of e', by rw [r.len, hi]; exact Nat.le_refl _⟩⟩
  obtain ⟨v, ev, rv⟩ := r'.get ed
  refine ⟨⟨vs, v, SqL.of e', ev⟩, fun x H2 ⟨h1, h2⟩ => ?_⟩
  subst h1
  have := h2 vs (SqL.of e')
  rw [ev] at this
  cases this
  exact ⟨Fut.refl w', rv⟩
theorem wk_tup {W : Wd} {K : PySem.W.Frag} {S : Addr → Prop} {H : Hp} {p : Addr} {vs : List V} {ds : List D} (n : ¬ S p) (e : Rd H p (.tup vs)) (r : Reps (W.at S) H ds vs) : Wk W S H (Itt K p) ds := by
  intro S' H' pr w' i
  have e' : Rd H' p (.tup vs) := e.imp (fun e => (pr p _ n e).1) (fun ⟨o, e⟩ => ⟨o, (pr p _ n e).1⟩)
  have r' : Reps (W.at S') H' ds vs := Reps.mono (W := W.at S) (S := S') pr ds vs r
  refine ⟨fun d ed => ?_, fun hi => ⟨vs, (.inl e'), by rw [r.len, hi]; exact Nat.le_refl _⟩⟩
  obtain ⟨v, ev, rv⟩ := r'.get ed
  refine ⟨⟨vs, v, (.inl e'), ev⟩, fun x H2 ⟨h1, h2⟩ => ?_⟩
  subst h1
  have := h2 vs ((.inl e'))
  rw [ev] at this
  cases this
  exact ⟨Fut.refl w', rv⟩
theorem PI.or {wi wj : TI} (h : PI X tg iter wi) (h' : PI X tg iter wj) : PI X tg iter (fun σ H R => wi σ H R ∨ wj σ H R) := ⟨fun pins s σ H R I q => q.elim (fun q => h.run pins s σ H R I q) (fun q => h'.run pins s σ H R I q)⟩
theorem xi_seq (ha : XE B X Wx a pa) : XI B X Wx tg a (rItems pa) := by
  obtain ⟨ta, ha, ea⟩ := ha.ex
  have hi : PI X tg a (fun σ H R => ta σ H fun x H1 => (∃ p, x = .ref p ∧ (∃ xs, SqL X.K H1 p xs) ∧ R (Itl X.K p) H1) ∨ (∃ p, x = .ref p ∧ (∃ xs, SqT X.K H1 p xs) ∧ R (Itt X.K p) H1)) := by
    refine ⟨fun pins s σ H R I h => ?_⟩
    refine thn (ha.run pins s σ H _ I h) fun v s1 ⟨x, H1, I1, r1, q1⟩ => ?_
    have hx : PE X a (fun σ' H' Q => σ' = σ ∧ H' = H ∧ ta σ' H' Q) := ⟨fun pins s σ H Q I h => ha.run pins s σ H Q I h.2.2⟩
    rcases q1 with ⟨p, rfl, ⟨xs, hq⟩, q⟩ | ⟨p, rfl, ⟨xs, hq⟩, q⟩
    · cases r1
      obtain ⟨its, rv, pl, hz⟩ := I1.list hq
      refine wpAny_pyIter_list pl.isList ?_
      refine ⟨s1.heap.objs.size, [s1.heap.objs.size], _, _, H1, rfl, I1.kept (t' := s1.toks) fun b o e => Heap.get?_push_of_some _ e, turn_list p _, ⟨_, Heap.get?_push_size _ rfl, rfl, rfl⟩, fun b hb => ?_, q⟩
      have e : b = s1.heap.objs.size := by simpa using hb
      subst e
      exact I1.fpOk (Nat.le_refl _) (I1.hok.fresh (Nat.le_refl _))
    · cases r1
      obtain ⟨its, rv, pl, hz⟩ := I1.tuple hq
      refine wpAny_pyIter_tuple (show s1.heap.IsTuple p its.toArray from pl) ?_
      refine ⟨s1.heap.objs.size, [s1.heap.objs.size], _, _, H1, rfl, I1.kept (t' := s1.toks) fun b o e => Heap.get?_push_of_some _ e, turn_tuple p _, ⟨_, Heap.get?_push_size _ rfl, rfl, rfl⟩, fun b hb => ?_, q⟩
      have e : b = s1.heap.objs.size := by simpa using hb
      subst e
      exact I1.fpOk (Nat.le_refl _) (I1.hok.fresh (Nat.le_refl _))
  refine ⟨_, hi, fun S σ H G Q E R O q hR kx => ea S σ H G _ E _ O q (fun v H1 d f r h => ?_) kx⟩
  cases d <;> first | exact False.elim h | skip
  · obtain ⟨p, vs, rfl, n1, e1, z1⟩ := repL r
    exact .inl ⟨p, rfl, ⟨vs, SqL.of e1⟩, hR _ H1 _ f (wk_list n1 e1 z1) h⟩
  · obtain ⟨p, vs, rfl, n1, e1, z1⟩ := repT r
    exact .inr ⟨p, rfl, ⟨vs, (.inl e1)⟩, hR _ H1 _ f (wk_tup n1 e1 z1) h⟩
theorem xi_range {p : Pos} (hm : X.mg "range" = none) (ha : XA B X Wx [a] pas) (hg : Gl X "range" := by rfl) (hs : starEach [a] X.env = [(false, eval a X.env)] := by rfl) : XI B X Wx tg (.Call (.Name "range" p) [a] [] pos) (rRange pas) := by
  obtain ⟨ta, ha, ea⟩ := ha.ex
  refine ⟨_, pi_range1 hg hm ha hs, fun S σ H G Q E R O q hR kx => ea S σ H G _ E _ O q (fun vs H1 ds f r h => ?_) kx⟩
  cases ds with
  | nil => exact False.elim h
  | cons d ds =>
    cases ds with
    | cons d2 ds => cases d <;> exact False.elim h
    | nil =>
      obtain ⟨v, rfl, r9⟩ := reps1 r
      cases d <;> first | exact False.elim h | skip
      rename_i j
      rw [repI r9]
      have h' : j < 4611686018427387904 ∧ -4611686018427387904 ≤ j ∧ Q ((List.range j.toNat).map fun (i : Nat) => .int ((i : Nat) : Int)) := h
      refine ⟨j, rfl, by omega, by omega, hR _ H1 _ f ?_ h'.2.2⟩
      intro S' H' pr w' i
      refine ⟨fun d ed => ?_, fun hi => ?_⟩
      · rw [List.getElem?_map] at ed
        cases hr : (List.range j.toNat)[i]? with
        | none => rw [hr] at ed; cases ed
        | some k =>
          rw [hr] at ed
          obtain ⟨h1, h2⟩ := List.getElem?_eq_some_iff.mp hr
          rw [List.length_range] at h1
          rw [List.getElem_range] at h2
          subst h2
          cases ed
          refine ⟨h1, fun x H2 ⟨e1, e2⟩ => ?_⟩
          subst e1 e2
          refine ⟨Fut.refl w', ?_⟩
          simp only [Rep]
          simp
      · rw [List.length_map, List.length_range] at hi
        show j.toNat ≤ i
        omega
/-! ## for -/
def forP (g : XGp) (body : XSp) : List D → XSp
  | [], G, P => P.nx G
  | d :: ds, G, P => g d G (fun G1 => body G1 { P with nx := fun G2 => forP g body ds G2 P, ct := fun G2 => forP g body ds G2 P, bk := P.nx })
def rFor (q : XAp) (g : XGp) (body : XSp) : XSp := fun G P => q G (fun ds => forP g body ds G P) (fun e => P.ex e G)
theorem xs_for (hp : PassesOwn (model X.prog X.w) X.A X.env X.xe) (hi : XI B X Wx tg iter q) (hg : ∀ H0, XG { B with H0 := H0 } X tg g) (hb : ∀ H0, XSs { B with H0 := H0 } X Wx body pp) (hc : X.calm = true := by rfl)
    (hs : ∀ x, foldedSetIterable iter X.env x = pure x := by intro _; rfl) : XS B X Wx (.For tg iter body [] pos) (rFor q g pp) := by
  obtain ⟨wi, hi, ei⟩ := hi.ex
  have key : ∃ t u, PG X tg t ∧ PSs X body u ∧ (∀ H0 S σ H G d v Q (k : L2.St → Hp → Prop), Ok { B with H0 := H0 } S σ H G → Rep (B.W.at S) H d v → g d G Q → (∀ σ' H' G', Ok { B with H0 := H0 } S σ' H' G' → Fut (B.W.at S) H H' → Q G' → k σ' H') → t v σ H k) ∧ ∀ H0, EvS { B with H0 := H0 } Wx u pp := by
    let T : TG := fun v σ H k => ∃ H0 S G d Q, Ok { B with H0 := H0 } S σ H G ∧ Rep (B.W.at S) H d v ∧ g d G Q ∧ ∀ σ' H' G', Ok { B with H0 := H0 } S σ' H' G' → Fut (B.W.at S) H H' → Q G' → k σ' H'
    let U : TS := fun D σ H => ∃ H0 S G P, Ok { B with H0 := H0 } S σ H G ∧ pp G P ∧ KP { B with H0 := H0 } Wx P D
    refine ⟨T, U, ⟨fun pins s σ H v u Q I r ⟨H0, S, G, d, Q', O, rr, q, k⟩ => ?_⟩, ⟨fun pins s σ H D I ⟨H0, S, G, P, O, q, k⟩ => ?_⟩, fun H0 S σ H G d v Q k O r q h => ⟨H0, S, G, d, Q, O, r, q, h⟩, fun H0 S σ H G P D O q k => ⟨H0, S, G, P, O, q, k⟩⟩
    · obtain ⟨t, h1, h2⟩ := (hg H0).ex
      exact h1.run pins s σ H v u Q I r (h2 S σ H G d v Q' Q O rr q k)
    · obtain ⟨t, h1, h2⟩ := (hb H0).ex
      exact h1.run pins s σ H D I (h2 S σ H G P D O q k)
  obtain ⟨t, u, hg', hb', eg, eb⟩ := key
  refine ⟨_, ps_for hp hc hi hg' hb' hs, fun S σ H G P D O q k => ei S σ H G _ _ _ O q (fun J H1 ds f wk h => ?_) (k.kx O)⟩
  have O1 := O.fut f
  let B' := B.re S H1
  refine ⟨fun i m σ' H' => ∃ S' G', Ok B' S' σ' H' G' ∧ m = ds.length - i ∧ i ≤ ds.length ∧ forP g pp (ds.drop i) G' P, ⟨_, S, G, O1.re, rfl, Nat.zero_le _, h⟩, ?_⟩
  rintro i m σ' H' ⟨S', G', O', rfl, hi, hq⟩
  have pr := O1.pr O'
  have wk' := wk S' H' pr O'.wok i
  have oldP : ∀ {S2 : Addr → Prop} {σ2 : L2.St} {H2 : Hp} {G2 : List Sl}, Ok B' S2 σ2 H2 G2 → Ok B S2 σ2 H2 G2 := fun O2 => O1.un O2
  by_cases hlt : i < ds.length
  · refine .inr ?_
    have hdr : ds.drop i = ds[i] :: ds.drop (i + 1) := by rw [List.drop_eq_getElem_cons hlt]
    rw [hdr] at hq
    obtain ⟨go, yl⟩ := wk'.1 ds[i] (List.getElem?_eq_getElem hlt)
    refine ⟨go, fun σ2 H2 => ∃ S2 G2, Ok B' S2 σ2 H2 G2 ∧ forP g pp (ds.drop (i + 1)) G2 P, fun σ2 H2 ⟨S2, G2, O2, q2⟩ => ⟨ds.length - (i + 1), by omega, S2, G2, O2, rfl, hlt, q2⟩, fun x H2 hy => ?_⟩
    obtain ⟨f2, r2⟩ := yl x H2 hy
    refine eg B'.H0 S' σ' H2 G' ds[i] x _ _ (O'.fut f2) r2 hq fun σ3 H3 G3 O3 f3 q3 => ?_
    refine eb B'.H0 S' σ3 H3 G3 _ _ O3 q3 ⟨fun S4 σ4 H4 G4 O4 q4 => ⟨S4, G4, O4, q4⟩, fun S4 σ4 H4 G4 v d O4 r4 q4 => k.rt S4 σ4 H4 G4 v d (oldP O4) r4 q4, fun S4 σ4 H4 G4 O4 q4 => k.nx S4 σ4 H4 G4 (oldP O4) q4, fun S4 σ4 H4 G4 O4 q4 => ⟨S4, G4, O4, q4⟩, fun S4 σ4 H4 G4 cls dd ex O4 x4 q4 => k.ex S4 σ4 H4 G4 cls dd ex (oldP O4) x4 q4⟩
  · have e : i = ds.length := by omega
    have hdr : ds.drop i = [] := by rw [e, List.drop_length]
    rw [hdr] at hq
    exact .inl ⟨wk'.2 e, k.nx S' σ' H' G' (oldP O') hq⟩
/-! ## while -/
def rWhile (c : XTp) (body : XSp) : XSp := fun G P => ∃ Iv : Nat → List Sl → Prop, (∃ m, Iv m G) ∧ ∀ m G, Iv m G → c G (fun k => if k = true then body G { P with nx := fun G' => ∃ m', m' < m ∧ Iv m' G', ct := fun G' => ∃ m', m' < m ∧ Iv m' G', bk := P.nx } else P.nx G) (fun e => P.ex e G)
theorem xs_while (hp : PassesOwn (model X.prog X.w) X.A X.env X.xe) (hc : XT B X Wx c qt) (hb : XSs B X Wx body pp) : XS B X Wx (.While c body [] pos) (rWhile qt pp) := by
  obtain ⟨tc, hc, ec⟩ := hc.ex
  obtain ⟨tb, hb, eb⟩ := hb.ex
  refine ⟨_, ps_while hp hc hb, fun S σ H G P D O ⟨Iv, ⟨m0, i0⟩, turn⟩ k => ?_⟩
  refine ⟨fun m σ H => ∃ S G, Ok B S σ H G ∧ Iv m G, ⟨m0, S, G, O, i0⟩, fun m σ' H' ⟨S', G', O', i'⟩ => ?_⟩
  refine ec S' σ' H' G' _ _ _ O' (turn m G' i') (fun b H2 f h => ?_) (k.kx O')
  cases b with
  | true =>
    rw [if_pos rfl] at h ⊢
    refine ⟨fun σ3 H3 => ∃ m', m' < m ∧ ∃ S G, Ok B S σ3 H3 G ∧ Iv m' G, fun σ3 H3 h => h, ?_⟩
    refine eb S' σ' H2 G' _ _ (O'.fut f) h ⟨fun S4 σ4 H4 G4 O4 ⟨m', h1, h2⟩ => ⟨m', h1, S4, G4, O4, h2⟩, k.rt, k.nx, fun S4 σ4 H4 G4 O4 ⟨m', h1, h2⟩ => ⟨m', h1, S4, G4, O4, h2⟩, k.ex⟩
  | false =>
    rw [if_neg Bool.false_ne_true] at h ⊢
    exact k.nx S' σ' H2 G' (O'.fut f) h
/-! ## self.f = e -/
def rPut (m : List (Nat × Nat)) (i : Nat) (a : XP) : XSp := fun G P => match G[i]? with
  | some (.obj c ds) => m.lookup c = some ds.length ∧ a G (fun d => P.nx (G.set i (.obj c (ds ++ [d])))) (fun e => P.ex e G)
  | _ => False
theorem putF_zip : ∀ {ns : List Str} {vs : List V} {f : Str} {v : V}, ns.Nodup → ns[vs.length]? = some f → putF f v (ns.zip vs) = ns.zip (vs ++ [v])
  | [], vs, f, v, _, e => by simp at e
  | n :: ns, [], f, v, nd, e => by
    have : n = f := by simpa using e
    subst this
    simp [putF]
  | n :: ns, u :: vs, f, v, nd, e => by
    have e' : ns[vs.length]? = some f := by simpa using e
    have hn : n ∉ ns := (List.nodup_cons.mp nd).1
    have hf : ¬ n = f := fun z => by
      subst z
      exact hn (List.mem_of_getElem? e')
    show putF f v ((n, u) :: ns.zip vs) = (n, u) :: ns.zip (vs ++ [v])
    unfold putF
    rw [if_neg hf, putF_zip (List.nodup_cons.mp nd).2 e']
theorem xs_put (i : Nat) {f x : Str} {px pos' : Pos} {m : List (Nat × Nat)} (h : FldOk X.K B.W.CT B.W.lay f m) (hsz : ∀ p ∈ m, (B.W.lay p.1).length < 1000) (hv : XE B X Wx e pa) (hN : X.N[i]? = some x := by rfl) (hvx : Vis X.env.scope x := by first | exact Or.inl rfl | exact Or.inr (Or.inl rfl) | exact Or.inr (Or.inr rfl)) (hd : (x == ("__debug__" : Str)) = false := by decide)
    (hcd : (x == ("__classdict__" : Str)) = false := by decide) (hs : swapsWith e (some (.Attribute (.Name x px) f pos')) pos.line X.env = pure false := by rfl) : XS B X Wx (.Assign [.Attribute (.Name x px) f pos'] e pos) (rPut m i pa) := by
  obtain ⟨ta, hv, ea⟩ := hv.ex
  refine ⟨_, ps_fld (pe_var hN hvx hd hcd) hv hs, fun S σ H G P D O q k => ?_⟩
  unfold rPut at q
  cases hg : G[i]? with
  | none => rw [hg] at q; exact q.elim
  | some g =>
    rw [hg] at q
    cases g <;> first | exact False.elim q | skip
    rename_i c ds
    obtain ⟨hm, q⟩ := q
    obtain ⟨k1, k2, k3, k4⟩ := h _ (lookup_mem hm)
    obtain ⟨o, eo, p, dx, vs, rfl, me, s1, s2, s3, e1, l, rr⟩ := O.get hg
    refine ea S σ H G _ _ _ O q (fun v H' d f r h => ?_) (k.kx O)
    have e1' := f.keep p _ e1 s3
    have hlt : vs.length < (B.W.lay c).length := by rw [rr.len]; exact (List.getElem?_eq_some_iff.mp k3).1
    refine ⟨_, eo, p, _, dx, _, rfl, e1', k1, k2, ?_, ?_⟩
    · rw [List.length_zip]
      have := hsz _ (lookup_mem hm)
      exact Nat.lt_of_le_of_lt (Nat.min_le_left _ _) this
    have O' := O.fut f
    rw [putF_zip k4 (by rw [rr.len]; exact k3)]
    refine k.nx S σ _ _ (O'.turn (g' := .obj c (ds ++ [d])) hg rfl eo ⟨p, dx, vs ++ [v], rfl, me, s1, s2, s3, upd_same, by rw [List.length_append, List.length_singleton]; omega, ?_⟩ rfl) h
    have rr' := (rr.fut O.wok f).app (Reps.cons r Reps.nil)
    exact Reps.mono (W := B.W.at S) (S := S) (fun b u n z => ⟨by rw [upd_ne (show b ≠ p from fun y => n (by rw [y]; exact s1))]; exact z, n⟩) _ _ rr'
/-! ## raise -/
structure XR (B : Bs) (X : Cx) (e : Expr) (p : List Sl → (Exn → Prop) → Prop) : Prop where
  ex : ∃ t, PMk X e t ∧ ∀ S σ H G E (Wx : WX), Ok B S σ H G → p G E → KX (B.W.at S) σ H E Wx → t σ H fun cls d H' => Wx cls d σ H'
def rRaise (p : List Sl → (Exn → Prop) → Prop) : XSp := fun G P => p G (fun e => P.ex e G)
theorem xs_raise {p : List Sl → (Exn → Prop) → Prop} (tk : Takes X Wx) (he : XR B X e p) (hc : X.calm = true := by rfl) : XS B X Wx (.Raise (some e) none pos) (rRaise p) := by
  obtain ⟨t, he, ev⟩ := he.ex
  exact ⟨_, ps_raise hc tk he, fun S σ H G P D O q k => ev S σ H G _ Wx O q (k.kx O)⟩
/-- an exception's __init__ stores its arguments -/
def spX (C : Addr) (names : List Str) : Sp := fun vs H Q _ => ∃ (a : Addr) (ws : List V), vs = .ref a :: ws ∧ ws.length = names.length ∧ H a = some (exo a C none) ∧
  ∀ H' dx fs, (∀ b o, H b = some o → b ≠ a → H' b = some o) → H dx = none → dx ≠ a → H' a = some (exo a C (some dx)) → H' dx = some (exd dx fs) → (∀ (i : Nat) (f : Str) (y : V), names[i]? = some f → ws[i]? = some y → fs.lookup f = some y) → Q .non H'
def rExn (c : Nat) (n : Nat) (as : XAp) : List Sl → (Exn → Prop) → Prop := fun G E => as G (fun ds => ds.length = n ∧ n ≤ 1000 ∧ E ⟨c, ds⟩) E
theorem xr_exn {k cn n : Nat} {x : Str} {p : Pos} {fI : Addr} {fd : FuncData} {ps : List Str} (T : OexC X.K (B.W.CT cn)) (iC : PySem.W.findIn X.K (.ref (B.W.CT cn)) "__init__" = some (some (.ref fI))) (tI : PySem.W.typeIn X.K (.ref fI) = some (.type "function"))
    (F1 : FnOk X.prog X.w X.K X.mg X.base (L2.CX X.prog X.w) k fI fd ps (spX (B.W.CT cn) (B.W.lay cn))) (hr : Room (k + 1) X.A) (hb : Binds X.K fd ps []) (hm : X.mg x = some (.ref (B.W.CT cn))) (hn : (B.W.lay cn).length = n) (ha : XA B X (fun _ _ _ _ => False) (e :: es) pas) (hg : Gl X x := by rfl)
    (hdb : (x == ("__debug__" : Str)) = false := by decide) (he : starEach (e :: es) X.env = (false, eval e X.env) :: starEach es X.env := by rfl) (hpl : (backTo pos (starEach es X.env)).any (·.1) = false := by rfl) :
    XR B X (.Call (.Name x p) (e :: es) [] pos) (fun G E => pas G (fun ds => ds.length = n ∧ n ≤ 1000 ∧ E ⟨cn, ds⟩) (fun _ => False)) := by
  obtain ⟨t, ha, ea⟩ := ha.ex
  refine ⟨_, pmk_oex T iC tI F1 hr hb .nil passL hg hm ha hdb he hpl, fun S σ H G E Wx O q kx => ea S σ H G _ _ _ O q (fun vs H1 ds f r h => ?_) (fun _ _ _ _ _ _ z => z.elim)⟩
  obtain ⟨h1, h2, h3⟩ := h
  have w1 := O.wok.fut f
  have hlen : vs.length = n := by rw [r.len]; exact h1
  refine ⟨by rw [hlen]; exact h2, fun a na => ⟨a, vs, by rw [List.append_nil], by rw [hlen, hn], upd_same, fun H' dx fs sm ndx ne e1 e2 look => ?_⟩⟩
  have ndx' : H1 dx = none := by rw [upd_ne ne] at ndx; exact ndx
  refine ⟨rfl, dx, fs, e1, e2, ndx', ?_⟩
  have sm' : Same H1 (upd (del H' a) dx (.xd fs)) := fun b o e => by
    have h1 : b ≠ dx := ne_of_none e ndx'
    have h2 : b ≠ a := ne_of_none e na
    rw [upd_ne h1, del_ne h2]
    exact sm b o (by rw [upd_ne h2]; exact e) h2
  have g := Fut.same w1 sm'
  refine kx _ _ _ ⟨cn, ds⟩ (f.trans g) ⟨rfl, by show ds.length = (B.W.lay cn).length; rw [hn]; exact h1, .inr ⟨dx, fs, rfl, w1.new ndx', upd_same, fun i f' x e1 e2 => ?_⟩⟩ h3
  obtain ⟨v, ev, rv⟩ := r.get e2
  exact ⟨v, look i f' v e1 ev, rv.fut w1 g⟩
/-- a class without fields, no arguments -/
theorem pmk_own0 {C : Addr} {bmB : List Value} {Bn newId initId : String} {x : Str} {p pos : Pos} (F : ExcBaseFacts Bn newId initId bmB) (q : PySem.W.excIn X.K C bmB newId = true) (gC : X.mg x = some (.ref C)) (kC : PySem.W.keepIn X.K (.ref C) = true) (r : Raises X (.ref C)) (hg : Gl X x)
    (hdb : (x == ("__debug__" : Str)) = false := by decide) : PMk X (.Call (.Name x p) [] [] pos) (fun _ H Q => Q (.ref C) none H) := by
  intro pins s σ H Q I h
  refine wpAny_Call_Name_kw (ld_glob I hg gC ?_ hdb)
  refine PySem.W.callWith_K0 I.kIn kC ?_
  obtain ⟨bm, N, nm, qn, bs, hdct, sn, sub, ab, col, dd, k0, k1, k2, k3, k5, mN, hC, hN, hni, T⟩ := exc_obj I.kIn q
  refine wpAny_call_exc_subT F T hC hN hni (fun h' e hm => ?_) (by show 0 ≤ sizeLine; omega)
  exact mk_of I hm r h (I.hok.gone hm.new)
theorem xr_exn0 {cn : Nat} {bmB : List Value} {Bn newId initId : String} {x : Str} {p : Pos} (F : ExcBaseFacts Bn newId initId bmB) (q : PySem.W.excIn X.K (B.W.CT cn) bmB newId = true) (gC : X.mg x = some (.ref (B.W.CT cn))) (kC : PySem.W.keepIn X.K (.ref (B.W.CT cn)) = true) (r : Raises X (.ref (B.W.CT cn))) (hl : B.W.lay cn = [])
    (hg : Gl X x := by rfl) (hdb : (x == ("__debug__" : Str)) = false := by decide) : XR B X (.Call (.Name x p) [] [] pos) (fun _ E => E ⟨cn, []⟩) :=
  ⟨_, pmk_own0 F q gC kC r hg hdb, fun S σ H G E Wx O q kx => kx _ _ H ⟨cn, []⟩ (Fut.refl O.wok) ⟨rfl, by show 0 = (B.W.lay cn).length; rw [hl]; rfl, .inl ⟨rfl, rfl⟩⟩ q⟩
end
/-! ## defs -/
def init0 (N : List Str) (ds : List D) : List Sl := ds.map Sl.d ++ List.replicate (N.length - ds.length) Sl.no
theorem start_get {N : List Str} {vs : List V} {i : Nat} : (L2.start N vs)[i]? = (match vs[i]? with | some v => some (some v) | none => if i < vs.length + (N.length - vs.length) then some none else none) := by
  unfold L2.start
  by_cases h : i < vs.length
  · rw [List.getElem?_append_left (by simpa using h), List.getElem?_map, List.getElem?_eq_getElem h]
    rfl
  · have hn : vs[i]? = none := List.getElem?_eq_none (by omega)
    rw [List.getElem?_append_right (by simpa using h), hn, List.length_map]
    by_cases h2 : i < vs.length + (N.length - vs.length)
    · rw [if_pos h2, List.getElem?_replicate, if_pos (by omega)]
    · rw [if_neg h2, List.getElem?_replicate, if_neg (by omega)]
theorem init_get {N : List Str} {ds : List D} {i : Nat} : (init0 N ds)[i]? = (match ds[i]? with | some d => some (.d d) | none => if i < ds.length + (N.length - ds.length) then some .no else none) := by
  unfold init0
  by_cases h : i < ds.length
  · rw [List.getElem?_append_left (by simpa using h), List.getElem?_map, List.getElem?_eq_getElem h]
    rfl
  · have hn : ds[i]? = none := List.getElem?_eq_none (by omega)
    rw [List.getElem?_append_right (by simpa using h), hn, List.length_map]
    by_cases h2 : i < ds.length + (N.length - ds.length)
    · rw [if_pos h2, List.getElem?_replicate, if_pos (by omega)]
    · rw [if_neg h2, List.getElem?_replicate, if_neg (by omega)]
theorem ok_start {B : Bs} {H : Hp} {N : List Str} {ds : List D} {vs : List V} (w : WOk B.W H) (h0 : B.H0 = H) (r : Reps B.W H ds vs) : Ok B B.W.S (L2.start N vs) H (init0 N ds) where
  wok := w
  ext := fun a o e _ => by rw [h0] at e; exact e
  sub := fun _ h => h
  new := fun _ h => .inl h
  len := by
    unfold L2.start init0
    rw [List.length_append, List.length_append, List.length_map, List.length_map, List.length_replicate, List.length_replicate, r.len]
  lw := fun s l e => (w.law s l e).2
  sl := fun i g o e1 e2 => by
    rw [init_get] at e1
    rw [start_get] at e2
    cases hd : ds[i]? with
    | some d =>
      rw [hd] at e1
      cases e1
      obtain ⟨v, ev, rv⟩ := r.get hd
      rw [ev] at e2
      cases e2
      exact ⟨v, rfl, rv⟩
    | none =>
      rw [hd] at e1
      dsimp only at e1
      split at e1
      · cases e1
        trivial
      · cases e1
  inj := fun i j g g' q e1 e2 h1 h2 _ _ => by
    rw [init_get] at e1
    cases hd : ds[i]? with
    | some d => rw [hd] at e1; cases e1; cases h1
    | none =>
      rw [hd] at e1
      dsimp only at e1
      split at e1
      · cases e1; cases h1
      · cases e1
def fnPo (Q : D → Prop) (E : Exn → Prop) : Po := { nx := fun _ => Q .non, rt := Q, ex := fun e _ => E e }
section
variable {P : Program} {w : World} {K : PySem.W.Frag} {mg : Str → Option Value} {base : Heap} {CT : Nat → Addr} {lay : Nat → List Str}
theorem fn_ok {x qual : Str} {st : Stmt} {f : Addr} {fd : FuncData} {N ps : List Str} {k : Nat} {F : DFn} {pb : XSp} (Fn : Fun K x qual st f fd) (Sc : FnScope N ps (defScope st)) (hF : ∀ ds Q E, F ds Q E → ds.length = ps.length ∧ pb (init0 N ds) (fnPo Q E))
    (body : ∀ (B : Bs) (cdv : Value) (A : Around) (outer : List Env) (s : Shared) (H : Hp) (E : XK), B.W.CT = CT → B.W.lay = lay → B.cur = none → Room k (A.deeper (envOfC qual (defScope st) s.heap.objs.size f cdv)) →
      XSs B (cxOf (L2.CX P w) P w K mg base N qual (defScope st) f cdv A outer s H E) (fun cls d _ H => E cls d H) (defBody st) pb) : FnOk P w K mg base (L2.CX P w) (k + 1) f fd ps (spP CT lay F) := by
  refine Fn.okX Sc (fun vs H Q E h => ?_) (fun cdv A outer s H vs Q E hr h => ?_)
  · obtain ⟨L, S, ds, Qd, Ed, _, r, hq, _⟩ := h
    rw [r.len]
    exact (hF ds Qd Ed hq).1
  · obtain ⟨L, S, ds, Qd, Ed, wk, r, hq, ke, kx⟩ := h
    let B : Bs := { W := ⟨CT, lay, L, S⟩, H0 := H }
    obtain ⟨t, h1, h2⟩ := (body B cdv A outer s H E rfl rfl rfl hr).ex
    refine ⟨t, h1, h2 S _ H _ (fnPo Qd Ed) _ (ok_start (B := B) wk rfl r) (hF ds Qd Ed hq).2 ⟨fun S' σ' H' G' O' q' => ?_, fun S' σ' H' G' v d O' r' q' => ?_, fun _ _ _ _ _ z => z.elim, fun _ _ _ _ _ z => z.elim, fun S' σ' H' G' cls dd ex O' x' q' => ?_⟩⟩
    · have f : Fut ⟨CT, lay, L, S⟩ H H' := ⟨O'.ext, fun s l e => (O'.wok.law s l e).1⟩
      exact ke _ H' _ f mkN q'
    · have f : Fut ⟨CT, lay, L, S⟩ H H' := ⟨O'.ext, fun s l e => (O'.wok.law s l e).1⟩
      exact ke _ H' _ f (Rep.sub (W := B.W.at S') (S := S) r' fun a h => O'.sub a h) q'
    · have f : Fut ⟨CT, lay, L, S⟩ H H' := ⟨O'.ext, fun s l e => (O'.wok.law s l e).1⟩
      exact kx cls dd H' ex f (ExOk.mono (W := B.W.at S') (S := S) (fun a o n e => ⟨e, fun z => n (O'.sub a z)⟩) x') q'
end
end Pu
namespace Pu
open PySem PySem.Spec PyProof.Rows L2
/-! ## a def as it stands, with or without defaults -/
structure FunG (K : PySem.W.Frag) (x qual : Str) (st : Stmt) (f : Addr) (fd : FuncData) : Prop where
  ex : ∃ (oc : Value) (od : Option Addr) (dV kV doc pm : Value) (an : Option Addr) (cdv ct : Value) (osl : Array (Option Value)),
    fd = PySem.W.fnOf x qual (defArgs st) (defBody st) (defScope st) dV kV doc pm an cdv ct ∧ K.lookup f = some ⟨oc, od, .func fd, osl⟩ ∧ PySem.W.codeIn K cdv qual = true
theorem Fun.g {K : PySem.W.Frag} {x qual : Str} {st : Stmt} {f : Addr} {fd : FuncData} (F : Fun K x qual st f fd) : FunG K x qual st f fd := by
  obtain ⟨oc, od, kV, doc, pm, an, cdv, ct, osl, h⟩ := F.ex
  exact ⟨oc, od, _, kV, doc, pm, an, cdv, ct, osl, h⟩
theorem FunD.g {K : PySem.W.Frag} {x qual : Str} {st : Stmt} {dvs : List V} {kws : List (Str × V)} {f : Addr} {fd : FuncData} (F : FunD K x qual (defArgs st) (defBody st) (defScope st) dvs kws f fd) : FunG K x qual st f fd := by
  obtain ⟨oc, od, dV, kV, doc, pm, an, cdv, ct, osl, h1, h2, h3, _⟩ := F.ex
  exact ⟨oc, od, dV, kV, doc, pm, an, cdv, ct, osl, h1, h2, h3⟩
section
variable {P : Program} {w : World} {K : PySem.W.Frag} {mg : Str → Option Value} {base : Heap} {CT : Nat → Addr} {lay : Nat → List Str}
theorem FunG.ok {x qual : Str} {st : Stmt} {f : Addr} {fd : FuncData} {N ps : List Str} {k : Nat} {sp : Sp} (F : FunG K x qual st f fd) (S : FnScope N ps (defScope st)) (len : ∀ vs H Q E, sp vs H Q E → vs.length = ps.length)
    (hbody : ∀ (cdv : Value) (A : Around) (outer : List Env) (s : Shared) (H : Hp) (vs : List V) (Q : VK) (E : XK), Room k (A.deeper (envOfC qual (defScope st) s.heap.objs.size f cdv)) → sp vs H Q E →
      ∃ t, PSs (cxOf (L2.CX P w) P w K mg base N qual (defScope st) f cdv A outer s H E) (defBody st) t ∧ t { nx := fun _ H' => Q .non H', rt := Q } (L2.start N vs) H) : FnOk P w K mg base (L2.CX P w) (k + 1) f fd ps sp := by
  obtain ⟨oc, od, dV, kV, doc, pm, an, cdv, ct, osl, rfl, lk, hcd⟩ := F.ex
  exact fn_of lk hcd S len fun A outer s H vs Q E hr hsp => hbody cdv A outer s H vs Q E hr hsp
theorem fn_okG {x qual : Str} {st : Stmt} {f : Addr} {fd : FuncData} {N ps : List Str} {k : Nat} {F : DFn} {pb : XSp} (Fn : FunG K x qual st f fd) (Sc : FnScope N ps (defScope st)) (hF : ∀ ds Q E, F ds Q E → ds.length = ps.length ∧ pb (init0 N ds) (fnPo Q E))
    (body : ∀ (B : Bs) (cdv : Value) (A : Around) (outer : List Env) (s : Shared) (H : Hp) (E : XK), B.W.CT = CT → B.W.lay = lay → B.cur = none → Room k (A.deeper (envOfC qual (defScope st) s.heap.objs.size f cdv)) →
      XSs B (cxOf (L2.CX P w) P w K mg base N qual (defScope st) f cdv A outer s H E) (fun cls d _ H => E cls d H) (defBody st) pb) : FnOk P w K mg base (L2.CX P w) (k + 1) f fd ps (spP CT lay F) := by
  refine Fn.ok Sc (fun vs H Q E h => ?_) (fun cdv A outer s H vs Q E hr h => ?_)
  · obtain ⟨L, S, ds, Qd, Ed, _, r, hq, _⟩ := h
    rw [r.len]
    exact (hF ds Qd Ed hq).1
  · obtain ⟨L, S, ds, Qd, Ed, wk, r, hq, ke, kx⟩ := h
    let B : Bs := { W := ⟨CT, lay, L, S⟩, H0 := H }
    obtain ⟨t, h1, h2⟩ := (body B cdv A outer s H E rfl rfl rfl hr).ex
    refine ⟨t, h1, h2 S _ H _ (fnPo Qd Ed) _ (ok_start (B := B) wk rfl r) (hF ds Qd Ed hq).2 ⟨fun S' σ' H' G' O' q' => ?_, fun S' σ' H' G' v d O' r' q' => ?_, fun _ _ _ _ _ z => z.elim, fun _ _ _ _ _ z => z.elim, fun S' σ' H' G' cls dd ex O' x' q' => ?_⟩⟩
    · have f : Fut ⟨CT, lay, L, S⟩ H H' := ⟨O'.ext, fun s l e => (O'.wok.law s l e).1⟩
      exact ke _ H' _ f mkN q'
    · have f : Fut ⟨CT, lay, L, S⟩ H H' := ⟨O'.ext, fun s l e => (O'.wok.law s l e).1⟩
      exact ke _ H' _ f (Rep.sub (W := B.W.at S') (S := S) r' fun a h => O'.sub a h) q'
    · have f : Fut ⟨CT, lay, L, S⟩ H H' := ⟨O'.ext, fun s l e => (O'.wok.law s l e).1⟩
      exact kx cls dd H' ex f (ExOk.mono (W := B.W.at S') (S := S) (fun a o n e => ⟨e, fun z => n (O'.sub a z)⟩) x') q'
/-! ## an own class's __init__ -/
def initO (N : List Str) (c : Nat) (ds : List D) : List Sl := .obj c [] :: (ds.map Sl.d ++ List.replicate (N.length - (ds.length + 1)) Sl.no)
def initPo (c n : Nat) (Q : List D → Prop) (E : Exn → Prop) : Po := { nx := fun G => ∃ fs, G[0]? = some (.obj c fs) ∧ fs.length = n ∧ Q fs, rt := fun _ => False, ex := fun e _ => E e }
theorem ok_startO {B : Bs} {H : Hp} {N : List Str} {ds : List D} {ws : List V} {c : Nat} {p dx : Addr} (hp : H p = some (.ins (B.W.CT c) dx [])) (np : ¬ B.W.S p) (nl : nL B.W.L p) (w : WOk B.W (delA H p)) (h0 : B.H0 = delA H p) (me : B.me = some p) (r : Reps B.W (delA H p) ds ws) :
    Ok B (fun a => B.W.S a ∨ a = p) (L2.start N (.ref p :: ws)) H (initO N c ds) := by
  have rv : Rep B.W (delA H p) (.val (.ref p)) (.ref p) := by simp only [Rep]
  have O := ok_start (N := N) w h0 (Reps.cons rv r)
  have K := O.keep (H' := H) 0 (q := p) (g := .obj c []) delA_same (fun a o e _ => ?_) (fun s l e => ?_) ⟨_, hp⟩ nl ?_
  · have e1 : (L2.start N (.ref p :: ws)).set 0 (some (.ref p)) = L2.start N (.ref p :: ws) := rfl
    rw [e1] at K
    exact K
  · by_cases h : a = p
    · rw [h, delA_same] at e; cases e
    · rw [delA_ne h] at e; exact e
  · obtain ⟨i, n, cs, e1, e2, r'⟩ := (w.law s l e).1
    obtain ⟨n1, n2⟩ := nl s l e
    rw [delA_ne (Ne.symm n1)] at e1
    rw [delA_ne (Ne.symm n2)] at e2
    exact ⟨i, n, cs, e1, e2, r'⟩
  · exact ⟨p, dx, [], rfl, me, .inr rfl, np, nl, by rw [List.zip_nil_right]; exact hp, Nat.zero_le _, Reps.nil⟩
theorem init_ok {x qual : Str} {st : Stmt} {f : Addr} {fd : FuncData} {N : List Str} {p0 : Str} {ps : List Str} {k c n : Nat} {F : DIn} {pb : XSp} (Fn : FunG K x qual st f fd) (Sc : FnScope N (p0 :: ps) (defScope st)) (hn : (lay c).length = n)
    (hF : ∀ ds Q E, F ds Q E → ds.length = ps.length ∧ pb (initO N c ds) (initPo c n Q E))
    (body : ∀ (B : Bs) (cdv : Value) (A : Around) (outer : List Env) (s : Shared) (H : Hp) (E : XK), B.W.CT = CT → B.W.lay = lay → B.cur = none → Room k (A.deeper (envOfC qual (defScope st) s.heap.objs.size f cdv)) →
      XSs B (cxOf (L2.CX P w) P w K mg base N qual (defScope st) f cdv A outer s H E) (fun cls d _ H => E cls d H) (defBody st) pb) : FnOk P w K mg base (L2.CX P w) (k + 1) f fd (p0 :: ps) (spI CT lay c F) := by
  refine Fn.ok Sc (fun vs H Q E h => ?_) (fun cdv A outer s H vs Q E hr h => ?_)
  · obtain ⟨L, S, p, dx, ws, ds, Qd, Ed, rfl, _, _, _, _, r, hq, _⟩ := h
    rw [List.length_cons, r.len, (hF ds Qd Ed hq).1, List.length_cons]
  · obtain ⟨L, S, p, dx, ws, ds, Qd, Ed, rfl, hp, np, nl, wk, r, hq, ke, kx⟩ := h
    let B : Bs := { W := ⟨CT, lay, L, S⟩, H0 := delA H p, me := some p }
    obtain ⟨t, h1, h2⟩ := (body B cdv A outer s H E rfl rfl rfl hr).ex
    refine ⟨t, h1, h2 _ _ H _ (initPo c n Qd Ed) _ (ok_startO (B := B) hp np nl wk rfl rfl r) (hF ds Qd Ed hq).2 ⟨fun S' σ' H' G' O' q' => ?_, fun S' σ' H' G' v d O' r' q' => q'.elim, fun _ _ _ _ _ z => z.elim, fun _ _ _ _ _ z => z.elim, fun S' σ' H' G' cls dd ex O' x' q' => ?_⟩⟩
    · have f : Fut ⟨CT, lay, L, S⟩ (delA H p) H' := ⟨O'.ext, fun s l e => (O'.wok.law s l e).1⟩
      obtain ⟨fs, eg, el, q⟩ := q'
      obtain ⟨o, eo, q0, dx', us, rfl, me, s1, s2, s3, e1, l1, rr⟩ := O'.get eg
      obtain rfl : p = q0 := Option.some.inj me
      refine ke H' dx' us fs f e1 ?_ (Reps.sub (W := B.W.at S') (S := S) rr fun a h => O'.sub a h) q
      rw [rr.len, el, hn]
    · have f : Fut ⟨CT, lay, L, S⟩ (delA H p) H' := ⟨O'.ext, fun s l e => (O'.wok.law s l e).1⟩
      exact kx cls dd H' ex f (ExOk.mono (W := B.W.at S') (S := S) (fun a o n e => ⟨e, fun z => n (O'.sub a z)⟩) x') q'
/-! ## exceptions' __init__: one or two fields -/
theorem exn1_ok {qual : Str} {st : Stmt} {f : Addr} {fd : FuncData} {C : Addr} {k : Nat} {g a1 : Str} {p1 p2 p3 p4 : Pos} (Fn : FunG K "__init__" qual st f fd) (T : OexC K C) (n1 : PySem.W.findIn K (.ref C) g = some none)
    (hb : defBody st = [.Assign [.Attribute (.Name "self" p1) g p2] (.Name a1 p3) p4]) (Sc : FnScope ["self", a1] ["self", a1] (defScope st)) (hd : (a1 == ("__debug__" : Str)) = false) (hcd : (a1 == ("__classdict__" : Str)) = false)
    (hv : ∀ n f cdv, Vis (envOfC qual (defScope st) n f cdv).scope "self" ∧ Vis (envOfC qual (defScope st) n f cdv).scope a1)
    (hs : ∀ n f cdv, swapsWith (.Name a1 p3) (some (.Attribute (.Name "self" p1) g p2)) p4.line (envOfC qual (defScope st) n f cdv) = pure false) : FnOk P w K mg base (L2.CX P w) (k + 1) f fd ["self", a1] (spX C [g]) := by
  refine Fn.ok Sc (fun vs H Q E h => ?_) (fun cdv A outer s H vs Q E hr h => ?_)
  · obtain ⟨a, ws, rfl, hl, _⟩ := h
    rw [List.length_cons, hl]
    rfl
  · obtain ⟨a, ws, rfl, hl, e, q⟩ := h
    rw [hb]
    obtain ⟨v1, v2⟩ := hv s.heap.objs.size f cdv
    match ws, hl, q with
    | [y], _, q =>
      refine ⟨_, pss_one (ps_ost (pe_var (i := 0) rfl v1 rfl rfl) (pe_var (i := 1) rfl v2 hd hcd) (hs _ _ _)), ?_⟩
      refine ⟨y, rfl, _, rfl, a, C, rfl, T, n1, .inl ⟨e, fun dx nd ne => ?_⟩⟩
      refine q _ dx _ (fun b o eb nb => ?_) nd ne upd_same (by rw [upd_ne ne, upd_same]) (fun i f' y' e1 e2 => ?_)
      · rw [upd_ne nb, upd_ne (ne_of_none eb nd)]; exact eb
      · match i, e1, e2 with
        | 0, e1, e2 =>
          cases e1; cases e2
          simp [List.lookup]
theorem exn2_ok {qual : Str} {st : Stmt} {f : Addr} {fd : FuncData} {C : Addr} {k : Nat} {g g' a1 a2 : Str} {p1 p2 p3 p4 p5 p6 p7 p8 : Pos} (Fn : FunG K "__init__" qual st f fd) (T : OexC K C) (n1 : PySem.W.findIn K (.ref C) g = some none) (n2 : PySem.W.findIn K (.ref C) g' = some none)
    (hb : defBody st = [.Assign [.Attribute (.Name "self" p1) g p2] (.Name a1 p3) p4, .Assign [.Attribute (.Name "self" p5) g' p6] (.Name a2 p7) p8]) (Sc : FnScope ["self", a1, a2] ["self", a1, a2] (defScope st))
    (hd : (a1 == ("__debug__" : Str)) = false) (hcd : (a1 == ("__classdict__" : Str)) = false) (hd2 : (a2 == ("__debug__" : Str)) = false) (hcd2 : (a2 == ("__classdict__" : Str)) = false) (hg : (g == g') = false)
    (hv : ∀ n f cdv, Vis (envOfC qual (defScope st) n f cdv).scope "self" ∧ Vis (envOfC qual (defScope st) n f cdv).scope a1 ∧ Vis (envOfC qual (defScope st) n f cdv).scope a2)
    (hs : ∀ n f cdv, swapsWith (.Name a1 p3) (some (.Attribute (.Name "self" p1) g p2)) p4.line (envOfC qual (defScope st) n f cdv) = pure false ∧ swapsWith (.Name a2 p7) (some (.Attribute (.Name "self" p5) g' p6)) p8.line (envOfC qual (defScope st) n f cdv) = pure false) : FnOk P w K mg base (L2.CX P w) (k + 1) f fd ["self", a1, a2] (spX C [g, g']) := by
  refine Fn.ok Sc (fun vs H Q E h => ?_) (fun cdv A outer s H vs Q E hr h => ?_)
  · obtain ⟨a, ws, rfl, hl, _⟩ := h
    rw [List.length_cons, hl]
    rfl
  · obtain ⟨a, ws, rfl, hl, e, q⟩ := h
    rw [hb]
    obtain ⟨v1, v2, v3⟩ := hv s.heap.objs.size f cdv
    obtain ⟨s1, s2⟩ := hs s.heap.objs.size f cdv
    match ws, hl, q with
    | [y, z], _, q =>
      refine ⟨_, pss_cons (ps_ost (pe_var (i := 0) rfl v1 rfl rfl) (pe_var (i := 1) rfl v2 hd hcd) s1) (pss_one (ps_ost (pe_var (i := 0) rfl v1 rfl rfl) (pe_var (i := 2) rfl v3 hd2 hcd2) s2)), ?_⟩
      refine ⟨y, rfl, _, rfl, a, C, rfl, T, n1, .inl ⟨e, fun dx nd ne => ?_⟩⟩
      refine ⟨z, rfl, _, rfl, a, C, rfl, T, n2, .inr ⟨dx, [(g, y)], upd_same, by rw [upd_ne ne, upd_same], by show 1 ≤ 900; decide, ?_⟩⟩
      refine q _ dx ((g', z) :: [(g, y)]) (fun b o eb nb => ?_) nd ne (by rw [upd_ne (Ne.symm ne), upd_same]) upd_same (fun i f' y' e1 e2 => ?_)
      · have : b ≠ dx := ne_of_none eb nd
        rw [upd_ne this, upd_ne nb, upd_ne this]; exact eb
      · match i, e1, e2 with
        | 0, e1, e2 =>
          cases e1; cases e2
          rw [List.lookup_cons, hg]
          simp [List.lookup]
        | 1, e1, e2 =>
          cases e1; cases e2
          simp [List.lookup]
end
/-! ## an own list becomes a datum -/
def rFrz (i : Nat) (a : XP) : XP := fun G Q E => match G[i]? with
  | some (.own ds) => a (G.set i (.d (.lst ds))) Q E
  | _ => False
def rsFrz (i : Nat) (a : XSp) : XSp := fun G P => match G[i]? with
  | some (.own ds) => a (G.set i (.d (.lst ds))) P
  | _ => False
/-! what an evaluation needs, without a reading of its own -/
def canS (B : Bs) (Wx : WX) (p : XSp) : TS := fun D σ H => ∃ S G P, Ok B S σ H G ∧ p G P ∧ KP B Wx P D
theorem XSs.can {B : Bs} {X : Cx} {Wx : WX} {st : List Stmt} {p : XSp} (h : XSs B X Wx st p) : PSs X st (canS B Wx p) := by
  obtain ⟨t, h, e⟩ := h.ex
  exact ⟨fun pins s σ H D I ⟨S, G, P, O, q, k⟩ => h.run pins s σ H D I (e S σ H G P D O q k)⟩
section
variable {B : Bs} {X : Cx} {Wx : WX} {a b c e tg : Expr} {es : List Expr} {pa pb pc : XP} {pos pos' np : Pos} {pas : XAp} {st b₀ : Stmt} {sts ats bts suite body : List Stmt} {p p2 pp qq : XSp} {qt : XTp} {g : XGp} {gs : XGsp}
/-- .. before a row of statements -/
theorem xss_frz (i : Nat) (h : XSs B X Wx sts pp) : XSs B X Wx sts (rsFrz i pp) := by
  obtain ⟨t, h, ev⟩ := h.ex
  refine ⟨t, h, fun S σ H G P D O q k => ?_⟩
  unfold rsFrz at q
  cases hg : G[i]? with
  | none => rw [hg] at q; exact q.elim
  | some g =>
    rw [hg] at q
    cases g <;> first | exact False.elim q | skip
    obtain ⟨q', sq, O2⟩ := O.thaw hg
    exact ev _ σ H _ P D O2 q k
/-! ## try -/
def ExmT (K : PySem.W.Frag) (CT : Nat → Addr) (c : Value) (tbl : List (Nat × Bool)) : Prop := ∀ p ∈ tbl, PySem.W.exmOne K (.ref (CT p.1)) c = some p.2
abbrev Bs.curr (B : Bs) (a : Addr) (cls : Value) (d : Option Addr) : Bs := { B with cur := some (a, cls, d) }
theorem Ok.curr {B : Bs} {S : Addr → Prop} {σ : L2.St} {H : Hp} {G : List Sl} {a : Addr} {cls : Value} {d : Option Addr} (O : Ok B S σ H G) (hc : B.cur = none) : Ok (B.curr a cls d) S σ H G :=
  ⟨O.wok, O.ext, O.sub, O.new, O.len, O.lw, fun i g o e1 e2 => by
    have := O.sl i g o e1 e2
    cases g with
    | exc c ds =>
      obtain ⟨a', cls', dd', z, _⟩ := this
      rw [hc] at z
      cases z
    | _ => exact this, O.inj⟩
def noX : List Sl → Prop := fun G => ∀ (j c : Nat) (ds : List D), G[j]? ≠ some (.exc c ds)
theorem Ok.uncurr {B : Bs} {S : Addr → Prop} {σ : L2.St} {H : Hp} {G : List Sl} {a : Addr} {cls : Value} {d : Option Addr} (O : Ok (B.curr a cls d) S σ H G) (hn : noX G) : Ok B S σ H G :=
  ⟨O.wok, O.ext, O.sub, O.new, O.len, O.lw, fun i g o e1 e2 => by
    have := O.sl i g o e1 e2
    cases g with
    | exc c ds => exact absurd e1 (hn i c ds)
    | _ => exact this, O.inj⟩
end
end Pu
namespace Pu
open PySem PySem.Spec PyProof.Rows L2
def isX : Sl → Bool
  | .exc _ _ => true
  | _ => false
def hasX (G : List Sl) : Bool := G.any isX
theorem noX_of {G : List Sl} (h : hasX G = false) : noX G := fun j c ds e => by
  have := List.any_eq_false.mp h _ (List.mem_of_getElem? e)
  exact this rfl
theorem Ok.strip {B : Bs} {S : Addr → Prop} {σ : L2.St} {H : Hp} {G : List Sl} (O : Ok B S σ H G) : Ok B S σ H (G.map fun g => if isX g then .no else g) where
  wok := O.wok
  ext := O.ext
  sub := O.sub
  new := O.new
  len := by rw [List.length_map]; exact O.len
  lw := O.lw
  sl := fun i g o e1 e2 => by
    rw [List.getElem?_map] at e1
    cases hg : G[i]? with
    | none => rw [hg] at e1; cases e1
    | some g0 =>
      rw [hg] at e1
      cases g0 <;> (cases e1; first | exact O.sl i _ o hg e2 | trivial)
  inj := fun i j g g' q e1 e2 n1 n2 e3 e4 => by
    have back : ∀ {i : Nat} {g : Sl}, (G.map fun g => if isX g then .no else g)[i]? = some g → g.isOwn = true → G[i]? = some g := fun {i g} e n => by
      rw [List.getElem?_map] at e
      cases hg : G[i]? with
      | none => rw [hg] at e; cases e
      | some g0 =>
        rw [hg] at e
        cases g0 <;> (cases e; first | rfl | cases n)
    exact O.inj i j g g' q (back e1 n1) (back e2 n2) n1 n2 e3 e4
theorem strip_noX (G : List Sl) : noX (G.map fun g => if isX g then .no else g) := fun j c ds e => by
  rw [List.getElem?_map] at e
  cases hg : G[j]? with
  | none => rw [hg] at e; cases e
  | some g0 =>
    rw [hg] at e
    cases g0 <;> cases e
section
variable {B : Bs} {X : Cx} {Wx : WX} {a b c e tg : Expr} {es : List Expr} {pa pb pc : XP} {pos pos' np : Pos} {pas : XAp} {st b₀ : Stmt} {sts ats bts suite body : List Stmt} {p p2 pp qq : XSp} {qt : XTp} {g : XGp} {gs : XGsp}
def suPo (P : Po) (f : List Sl → List Sl) : Po := { nx := fun G2 => hasX (f G2) = false ∧ P.nx (f G2), rt := P.rt, bk := fun G2 => hasX (f G2) = false ∧ P.bk (f G2), ct := fun G2 => hasX (f G2) = false ∧ P.ct (f G2), ex := fun _ _ => False }
/-- the clauses by their classes -/
def rTry (i : Nat) (tbl : List (Nat × Bool)) (body suite : XSp) : XSp := fun G P => body G { P with ex := fun ex G1 => match tbl.lookup ex.c with
  | some true => suite (G1.set i (.exc ex.c ex.ds)) (suPo P fun G2 => G2.set i .no)
  | some false => P.ex ex G1
  | none => False }
def rTry0 (tbl : List (Nat × Bool)) (body suite : XSp) : XSp := fun G P => body G { P with ex := fun ex G1 => match tbl.lookup ex.c with
  | some true => suite G1 (suPo P id)
  | some false => P.ex ex G1
  | none => False }
theorem xs_try (i : Nat) {n x : Str} {c : Value} {tbl : List (Nat × Bool)} (h0 : B.cur = none) (hN : X.N.Nodup) (hc : Names X x c) (tk : Takes X Wx) (tb : ExmT X.K B.W.CT c tbl)
    (hb : ∀ (W : WX) (pn : List (Addr × Obj)) (xe : Value → Shared → Prop), Takes (X.tr pn xe) W → PassesOwn (model X.prog X.w) X.A X.env xe → XSs B (X.tr pn xe) W body pp)
    (hsu : ∀ (a : Addr) (oe : Obj) (cls : Value) (d : Option Addr) (pn : List (Addr × Obj)), Zc cls d oe → (∃ vs, oe.data = .fields vs) → XSs (B.curr a cls d) (X.suite a ((a, oe) :: pn)) (fun _ _ _ _ => False) (b₀ :: suite) qq)
    (hs : X.stack = X.env :: X.outer := by rfl) (hf : X.env.frame = some X.env.locals := by rfl) (hi : X.N[i]? = some n := by rfl) (hln : X.env.kindOf n = some .local := by rfl) :
    XS B X Wx (.Try body [.ExceptHandler (some (.Name x np)) (some n) (b₀ :: suite) pos'] [] [] pos) (rTry i tbl pp qq) := by
  refine ⟨_, ps_try_as (i := i) (tb := fun W => canS B W pp) (ts := fun a cls d => canS (B.curr a cls d) (fun _ _ _ _ => False) qq) (Wout := Wx) hs hf hN hi hln hc tk (fun W pn xe t1 t2 => (hb W pn xe t1 t2).can) (fun a oe cls d pn z1 z2 => (hsu a oe cls d pn z1 z2).can), fun S σ H G P D O q k => ?_⟩
  refine ⟨S, G, _, O, q, ⟨k.nx, k.rt, k.bk, k.ct, fun S1 σ1 H1 G1 cls dd ex O1 x1 h => ?_⟩⟩
  dsimp only at h
  obtain rfl := x1.1
  cases hl : tbl.lookup ex.c with
  | none => rw [hl] at h; exact h.elim
  | some b =>
    rw [hl] at h
    refine ⟨b, tb _ (lookup_mem hl), fun hb a na => ?_, fun hb => ?_⟩
    · subst hb
      refine ⟨S1, _, _, (O1.curr (a := a) (cls := .ref (B.W.CT ex.c)) (d := dd) h0).put i (g := .exc ex.c ex.ds) (o := some (.ref a)) rfl ⟨a, _, dd, rfl, rfl, x1⟩, h, ⟨fun S2 σ2 H2 G2 O2 h2 => ?_, fun S2 σ2 H2 G2 v d O2 r2 h2 => ?_, fun S2 σ2 H2 G2 O2 h2 => ?_, fun S2 σ2 H2 G2 O2 h2 => ?_, fun _ _ _ _ _ _ _ _ _ z => z⟩⟩
      · exact k.nx S2 _ H2 _ ((O2.drop i none).uncurr (noX_of h2.1)) h2.2
      · exact k.rt S2 σ2 H2 _ v d (O2.strip.uncurr (strip_noX _)) r2 h2
      · exact k.bk S2 _ H2 _ ((O2.drop i none).uncurr (noX_of h2.1)) h2.2
      · exact k.ct S2 _ H2 _ ((O2.drop i none).uncurr (noX_of h2.1)) h2.2
    · subst hb
      exact k.ex S1 σ1 H1 G1 _ dd ex O1 x1 h
theorem xs_try0 {x : Str} {c : Value} {tbl : List (Nat × Bool)} (h0 : B.cur = none) (hc : Names X x c) (tk : Takes X Wx) (tb : ExmT X.K B.W.CT c tbl)
    (hb : ∀ (W : WX) (pn : List (Addr × Obj)) (xe : Value → Shared → Prop), Takes (X.tr pn xe) W → PassesOwn (model X.prog X.w) X.A X.env xe → XSs B (X.tr pn xe) W body pp)
    (hsu : ∀ (a : Addr) (oe : Obj) (cls : Value) (d : Option Addr) (pn : List (Addr × Obj)), Zc cls d oe → (∃ vs, oe.data = .fields vs) → XSs (B.curr a cls d) (X.suite a ((a, oe) :: pn)) (fun _ _ _ _ => False) (b₀ :: suite) qq)
    (hs : X.stack = X.env :: X.outer := by rfl) (hf : X.env.frame = some X.env.locals := by rfl) :
    XS B X Wx (.Try body [.ExceptHandler (some (.Name x np)) none (b₀ :: suite) pos'] [] [] pos) (rTry0 tbl pp qq) := by
  refine ⟨_, ps_try_only (tb := fun W => canS B W pp) (ts := fun a cls d => canS (B.curr a cls d) (fun _ _ _ _ => False) qq) (Wout := Wx) hs hf hc tk (fun W pn xe t1 t2 => (hb W pn xe t1 t2).can) (fun a oe cls d pn z1 z2 => (hsu a oe cls d pn z1 z2).can), fun S σ H G P D O q k => ?_⟩
  refine ⟨S, G, _, O, q, ⟨k.nx, k.rt, k.bk, k.ct, fun S1 σ1 H1 G1 cls dd ex O1 x1 h => ?_⟩⟩
  dsimp only at h
  obtain rfl := x1.1
  cases hl : tbl.lookup ex.c with
  | none => rw [hl] at h; exact h.elim
  | some b =>
    rw [hl] at h
    refine ⟨b, tb _ (lookup_mem hl), fun hb a na => ?_, fun hb => ?_⟩
    · subst hb
      refine ⟨S1, _, _, O1.curr (a := a) (cls := .ref (B.W.CT ex.c)) (d := dd) h0, h, ⟨fun S2 σ2 H2 G2 O2 h2 => ?_, fun S2 σ2 H2 G2 v d O2 r2 h2 => ?_, fun S2 σ2 H2 G2 O2 h2 => ?_, fun S2 σ2 H2 G2 O2 h2 => ?_, fun _ _ _ _ _ _ _ _ _ z => z⟩⟩
      · exact k.nx S2 _ H2 _ (O2.uncurr (noX_of h2.1)) h2.2
      · exact k.rt S2 σ2 H2 _ v d (O2.strip.uncurr (strip_noX _)) r2 h2
      · exact k.bk S2 _ H2 _ (O2.uncurr (noX_of h2.1)) h2.2
      · exact k.ct S2 _ H2 _ (O2.uncurr (noX_of h2.1)) h2.2
    · subst hb
      exact k.ex S1 σ1 H1 G1 _ dd ex O1 x1 h
/-! the caught exception's field -/
def rXf (m : List (Nat × Nat)) (i : Nat) : XP := fun G Q _ => match G[i]? with
  | some (.exc c ds) => match m.lookup c with
    | some j => match ds[j]? with
      | some x => Q x
      | none => False
    | none => False
  | _ => False
def XfOk (K : PySem.W.Frag) (CT : Nat → Addr) (lay : Nat → List Str) (n : Str) (m : List (Nat × Nat)) : Prop := ∀ p ∈ m, XfC K (CT p.1) ∧ PySem.W.findIn K (.ref (CT p.1)) n = some none ∧ (lay p.1)[p.2]? = some n
theorem xe_xf {a : Addr} {oe : Obj} {cls : Value} {d : Option Addr} {pn : List (Addr × Obj)} {f x : Str} {m : List (Nat × Nat)} {p1 : Pos} (T : XfOk X.K B.W.CT B.W.lay f m) (hz : Zc cls d oe) (hf : ∃ vs, oe.data = .fields vs) (i : Nat)
    (hN : X.N[i]? = some x := by rfl) (hv : Vis X.env.scope x := by first | exact Or.inl rfl | exact Or.inr (Or.inl rfl) | exact Or.inr (Or.inr rfl)) (hd : (x == ("__debug__" : Str)) = false := by decide)
    (hcd : (x == ("__classdict__" : Str)) = false := by decide) (hb : attributeBase (.Name x p1) f X.env (eval (.Name x p1) X.env) = eval (.Name x p1) X.env := by rfl) :
    XE (B.curr a cls d) (X.suite a ((a, oe) :: pn)) Wx (.Attribute (.Name x p1) f pos) (rXf m i) := by
  refine ⟨fun σ H Q => ∃ C, XfC X.K C ∧ PySem.W.findIn X.K (.ref C) f = some none ∧ tXf a cls d C f (tVar i) σ H Q, ⟨fun pins s σ H Q I ⟨C, T, hno, h⟩ => ?_⟩, fun S σ H G Q E k O q ke _ => ?_⟩
  · exact (pe_xf (pos := pos) T hno hz hf (pe_var (X := X.suite a ((a, oe) :: pn)) (pos := p1) hN hv hd hcd) hb).run pins s σ H Q I h
  · unfold rXf at q
    cases hg : G[i]? with
    | none => rw [hg] at q; exact q.elim
    | some g =>
      rw [hg] at q
      cases g <;> first | exact False.elim q | skip
      rename_i c ds
      dsimp only at q
      cases hm : m.lookup c with
      | none => rw [hm] at q; exact q.elim
      | some j =>
        rw [hm] at q
        dsimp only at q
        obtain ⟨k1, k2, k3⟩ := T _ (lookup_mem hm)
        obtain ⟨o, eo, a', cls', dd, ec, rfl, e1, e2, e3⟩ := O.get hg
        cases ec
        cases hx : ds[j]? with
        | none => rw [hx] at q; exact q.elim
        | some y =>
          rw [hx] at q
          rcases e3 with e3 | ⟨d', fs, ed, n, eh, lk⟩
          · have e3' : ds = [] := e3.2
            rw [e3'] at hx
            cases hx
          · obtain ⟨v, ev, rv⟩ := lk j f y k3 hx
            exact ⟨_, k1, k2, _, eo, rfl, e1, d', fs, v, ed, eh, ev, ke v H y (Fut.refl O.wok) rv q⟩
/-! isinstance of the caught exception -/
def rIsX (tbl : List (Nat × Bool)) (i : Nat) : XP := fun G Q _ => match G[i]? with
  | some (.exc c _) => match tbl.lookup c with
    | some b => Q (.bl b)
    | none => False
  | _ => False
def rIsEd (K : PySem.W.Frag) (cls : Value) (a : Addr) (d : Option Addr) : List V → Hp → VK → Prop := fun xs H Q => ∃ (c : V) (cv : Value) (b : Bool) (D : Addr), cls = .ref D ∧ ExcC K D ∧ (d = none ∨ ∃ dd fs, d = some dd ∧ H dd = some (.xd fs)) ∧ xs = [.ref a, c] ∧ (∀ u, RelV c u → u = cv) ∧ PySem.W.kitOne K (.ref D) cv = some b ∧ Q (.bl b) H
theorem call_isEd {a : Addr} {oe : Obj} {cls : Value} {d : Option Addr} {pn : List (Addr × Obj)} (hz : Zc cls d oe) (hf : ∃ vs, oe.data = .fields vs) : CallR (X.suite a ((a, oe) :: pn)) (.builtin "isinstance") (rIsEd X.K cls a d) := by
  intro pins s σ H xs us Q I r h
  obtain ⟨c, cv, b, D, rfl, C, hd, rfl, hcv, e, q⟩ := h
  cases r with
  | cons rx rr =>
    cases rr with
    | cons rt rr =>
      cases rr
      cases rx
      have ec := hcv _ rt
      subst ec
      obtain ⟨hget, _⟩ := I.pin (a, oe) (List.mem_append.mpr (.inl List.mem_cons_self))
      obtain ⟨vs, hv⟩ := hf
      obtain ⟨od, J⟩ : ∃ od, PySem.W.InstAt s.heap a oe D od := by
        rcases hd with rfl | ⟨dd, fs, rfl, ea⟩
        · exact ⟨none, hget, hz.1, by unfold PySem.W.notCls; rw [hv] <;> rfl, by rw [hz.2]; trivial⟩
        · obtain ⟨mA, hns, hr⟩ : ObjOk X.prog X.w H s.heap dd (.xd fs) := I.hok dd _ ea
          obtain ⟨od, ho, hl⟩ := lookIn_ns hns
          exact ⟨some od, hget, hz.1, by unfold PySem.W.notCls; rw [hv] <;> rfl, by rw [hz.2]; exact ho⟩
      have hcl : (PySem.W.clsIn X.K D).isSome = true := by
        obtain ⟨cd, hc, _⟩ := PySem.W.any_some C.hd
        rw [hc]
        rfl
      exact PySem.W.kia_one (PySem.W.kitx_exc hcl C.hg C.hk C.hs C.ha C.hn C.ht C.hm) I.kIn J e (fun z => nomatch z) fun tk => ⟨.bl b, H, I.kept (t' := tk) fun _ _ z => z, rfl, q⟩
def IsxT (K : PySem.W.Frag) (CT : Nat → Addr) (cv : Value) (tbl : List (Nat × Bool)) : Prop := ∀ p ∈ tbl, ExcC K (CT p.1) ∧ PySem.W.kitOne K (.ref (CT p.1)) cv = some p.2
theorem xe_isx {a : Addr} {oe : Obj} {cls : Value} {d : Option Addr} {pn : List (Addr × Obj)} {v : V} {cv : Value} {n x : Str} {tbl : List (Nat × Bool)} {p1 p2 : Pos} (T : IsxT X.K B.W.CT cv tbl) (hz : Zc cls d oe) (hf : ∃ vs, oe.data = .fields vs) (i : Nat)
    (hm : X.mg n = none) (hbo : bootBuiltins n = some (.builtin "isinstance")) (hcv : ∀ u, RelV v u → u = cv) (hb : XE (B.curr a cls d) (X.suite a ((a, oe) :: pn)) Wx b (rC (.val v)))
    (hN : X.N[i]? = some x := by rfl) (hv : Vis X.env.scope x := by first | exact Or.inl rfl | exact Or.inr (Or.inl rfl) | exact Or.inr (Or.inr rfl)) (hd : (x == ("__debug__" : Str)) = false := by decide)
    (hcd : (x == ("__classdict__" : Str)) = false := by decide) (hg : Gl X n := by rfl) (hn : n ≠ "__name__" := by decide) (hdb : (n == ("__debug__" : Str)) = false := by decide)
    (he : starEach [.Name x p1, b] X.env = (false, eval (.Name x p1) X.env) :: starEach [b] X.env := by rfl) (he2 : starEach [b] X.env = (false, eval b X.env) :: starEach [] X.env := by rfl) (hpl : (backTo pos (starEach [b] X.env)).any (·.1) = false := by rfl) :
    XE (B.curr a cls d) (X.suite a ((a, oe) :: pn)) Wx (.Call (.Name n p2) [.Name x p1, b] [] pos) (rIsX tbl i) := by
  obtain ⟨tb, hb, eb⟩ := hb.ex
  refine ⟨_, pe_callB (X := X.suite a ((a, oe) :: pn)) (call_isEd hz hf) hg hm hbo (pa_cons (pe_var (X := X.suite a ((a, oe) :: pn)) (pos := p1) (i := i) hN hv hd hcd) (pa_cons hb pa_nil he2) he) hn hdb he hpl, fun S σ H G Q E k O q ke kx => ?_⟩
  unfold rIsX at q
  cases hg : G[i]? with
  | none => rw [hg] at q; exact q.elim
  | some g =>
    rw [hg] at q
    cases g <;> first | exact False.elim q | skip
    rename_i c ds
    dsimp only at q
    cases hm : tbl.lookup c with
    | none => rw [hm] at q; exact q.elim
    | some bb =>
      rw [hm] at q
      obtain ⟨k1, k2⟩ := T _ (lookup_mem hm)
      obtain ⟨o, eo, a', cls', dd, ec, rfl, e1, e2, e3⟩ := O.get hg
      cases ec
      refine ⟨_, eo, ?_⟩
      refine eb S σ H G (fun y => y = .val v) E _ O rfl (fun w H2 dw f2 r2 q2 => ?_) kx
      subst q2
      simp only [Rep] at r2
      subst r2
      refine ⟨_, cv, bb, _, e1, k1, ?_, rfl, hcv, k2, ke _ H2 _ f2 mkB q⟩
      rcases (ExOk.fut (W := (B.curr a cls d).W.at S) ⟨e1, e2, e3⟩ O.wok f2).2.2 with z | ⟨d', fs, ed, n', eh, _⟩
      · exact .inl z.1
      · exact .inr ⟨d', fs, ed, eh⟩
end
end Pu
namespace Pu
open PySem PySem.Spec PyProof.Rows L2
/-! ## what an evaluation needs, in one form -/
/-- no own thing stands at q -/
def NoOwn (σ : L2.St) (G : List Sl) (q : Addr) : Prop := ∀ (i : Nat) (g : Sl), G[i]? = some g → g.isOwn = true → σ[i]? ≠ some (some (.ref q))
def canE (B : Bs) (Wx : WX) (p : XP) : TE := fun σ H k => ∃ S G Q E, Ok B S σ H G ∧ p G Q E ∧ KE (B.W.at S) H Q k ∧ KX (B.W.at S) σ H E Wx
def canT (B : Bs) (Wx : WX) (p : XTp) : TT := fun σ H k => ∃ S G Q E, Ok B S σ H G ∧ p G Q E ∧ KT (B.W.at S) H Q k ∧ KX (B.W.at S) σ H E Wx
def canG (B : Bs) (vs : List Nat) (g : XGp) : TG := fun v σ H k => ∃ S G d Q, Ok B S σ H G ∧ Rep (B.W.at S) H d v ∧ g d G Q ∧ ∀ σ' H' G', Ok B S σ' H' G' → Fut (B.W.at S) H H' → wipe σ' vs = wipe σ vs → (∀ q, NoOwn σ G q → NoOwn σ' G' q) → Q G' → k σ' H'
def canI (B : Bs) (Wx : WX) (q : XAp) : TI := fun σ H R => ∃ S G Q E, Ok B S σ H G ∧ q G Q E ∧ (∀ J H1 ds, Fut (B.W.at S) H H1 → Wk B.W S H1 J ds → Q ds → R J H1) ∧ KX (B.W.at S) σ H E Wx
section
variable {B : Bs} {X : Cx} {Wx : WX} {e tg iter : Expr} {p : XP} {q : XAp} {c : XTp}
theorem XE.can (h : XE B X Wx e p) : PE X e (canE B Wx p) := by
  obtain ⟨t, h, ev⟩ := h.ex
  exact ⟨fun pins s σ H Q I ⟨S, G, Qd, E, O, q, ke, kx⟩ => h.run pins s σ H Q I (ev S σ H G Qd E Q O q ke kx)⟩
theorem XT.can (h : XT B X Wx e c) : PT X e (canT B Wx c) := by
  obtain ⟨t, h, ev⟩ := h.ex
  exact ⟨fun pins s σ H Q I ⟨S, G, Qd, E, O, q, ke, kx⟩ => h.run pins s σ H Q I (ev S σ H G Qd E Q O q ke kx)⟩
theorem XI.can (h : XI B X Wx tg iter q) : PI X tg iter (canI B Wx q) := by
  obtain ⟨t, h, ev⟩ := h.ex
  exact ⟨fun pins s σ H Q I ⟨S, G, Qd, E, O, q, ke, kx⟩ => h.run pins s σ H Q I (ev S σ H G Qd E Q O q ke kx)⟩
end
/-- a target of a block: the slots vs -/
structure XV (B : Bs) (X : Cx) (vs : List Nat) (tg : Expr) (g : XGp) : Prop where
  run : PG X tg (canG B vs g)
structure XVs (B : Bs) (X : Cx) (vs : List Nat) (tg : List Expr) (g : XGsp) : Prop where
  ex : ∃ t, PGs X tg t ∧ ∀ S σ H G ds us Q (k : L2.St → Hp → Prop), Ok B S σ H G → Reps (B.W.at S) H ds us → g ds G Q → (∀ σ' H' G', Ok B S σ' H' G' → Fut (B.W.at S) H H' → wipe σ' vs = wipe σ vs → (∀ q, NoOwn σ G q → NoOwn σ' G' q) → Q G' → k σ' H') → t us σ H k
theorem wipe_set {i : Nat} {x : Option V} : ∀ {vs : List Nat} {σ : L2.St}, i ∈ vs → wipe (σ.set i x) vs = wipe σ vs
  | [], _, h => by cases h
  | v :: vs, σ, h => by
    unfold wipe
    by_cases hv : i ∈ vs
    · rw [wipe_set hv]
    · have e : v = i := by
        rcases List.mem_cons.mp h with e | e
        · exact e.symm
        · exact absurd e hv
      subst e
      have : ∀ {us : List Nat} {σ : L2.St}, v ∉ us → wipe (σ.set v x) us = (wipe σ us).set v x := by
        intro us
        induction us with
        | nil => intro σ _; rfl
        | cons u us ih =>
          intro σ hu
          have h1 : v ≠ u := fun z => hu (by rw [z]; exact List.mem_cons_self)
          have h2 : v ∉ us := fun z => hu (List.mem_cons_of_mem _ z)
          unfold wipe
          rw [ih h2, List.set_comm _ _ h1]
      rw [this hv, List.set_set]
theorem wipe_wipe (σ : L2.St) : ∀ vs : List Nat, wipe (wipe σ vs) vs = wipe σ vs := by
  intro vs
  have gen : ∀ (us ws : List Nat), (∀ u ∈ us, u ∈ ws) → ∀ σ : L2.St, wipe (wipe σ us) ws = wipe σ ws := by
    intro us
    induction us with
    | nil => intro ws _ σ; rfl
    | cons u us ih =>
      intro ws h σ
      show wipe ((wipe σ us).set u none) ws = _
      rw [wipe_set (h u List.mem_cons_self)]
      exact ih ws (fun x hx => h x (List.mem_cons_of_mem _ hx)) σ
  exact gen vs vs (fun _ h => h) σ
def wipeG (G : List Sl) : List Nat → List Sl
  | [] => G
  | v :: vs => (wipeG G vs).set v .no
section
variable {B : Bs} {S : Addr → Prop} {σ : L2.St} {H : Hp} {G : List Sl}
theorem Ok.wipe (O : Ok B S σ H G) : ∀ vs : List Nat, Ok B S (L2.wipe σ vs) H (wipeG G vs)
  | [] => O
  | v :: vs => (O.wipe vs).drop v none
/-- a hidden thing at q -/
theorem Ok.hide (O : Ok B S σ H G) {q : Addr} {u : HO} (hq : H q = none) : Ok B (fun a => S a ∨ a = q) σ (upd H q u) G := by
  have nl : nL B.W.L q := O.wok.nl (O.wok.new hq)
  have F : Fut (B.W.at S) H (upd H q u) := fut_new O.wok hq
  have k : ∀ a u', ¬ S a → H a = some u' → upd H q u a = some u' ∧ ¬ (S a ∨ a = q) := fun a u' n e => ⟨F.keep a u' e (O.wok.nl n), fun z => z.elim n fun z => by rw [z, hq] at e; cases e⟩
  refine ⟨⟨fun s l e => ⟨F.law s l e, .inl (O.wok.law s l e).2.1, .inl (O.wok.law s l e).2.2⟩, fun a h => ?_⟩, fun a o e n => F.keep a o (O.ext a o e n) n, fun a h => .inl (O.sub a h), fun a h => ?_, O.len, O.lw, fun i g o e1 e2 => ?_, O.inj⟩
  · rcases h with h | h
    · exact (O.wok.fut F).dom a h
    · rw [h, upd_same]
      exact ⟨_, rfl⟩
  · rcases h with h | h
    · exact O.new a h
    · refine .inr ?_
      cases e : B.H0 a with
      | none => rfl
      | some o =>
        have := O.ext a o e (by rw [h]; exact nl)
        rw [h, hq] at this
        cases this
  · exact (O.sl i g o e1 e2).mono k (fun _ z => .inl z) fun q' u' _ _ _ n e => F.keep q' u' e n
theorem Ok.noOwn (O : Ok B S σ H G) {q : Addr} (hq : H q = none) : NoOwn σ G q := fun i g e n z => by
  have base := O.sl i g _ e z
  cases g with
  | no => cases n
  | d d => cases n
  | own ds =>
    obtain ⟨q', vs', e', k1, _⟩ := base
    cases e'
    exact O.wok.new hq k1
  | obj c ds =>
    obtain ⟨q', dx', vs', e', _, k1, _⟩ := base
    cases e'
    exact O.wok.new hq k1
  | exc c ds => cases n
/-- the hidden thing has changed -/
theorem Ok.hid (O : Ok B S σ H G) {q : Addr} {u : HO} (sq : S q) (n0 : ¬ B.W.S q) (h0 : B.H0 q = none) (nl : nL B.W.L q) (no : NoOwn σ G q) : Ok B S σ (upd H q u) G := by
  have k : ∀ a w, ¬ S a → H a = some w → upd H q u a = some w ∧ ¬ S a := fun a w n z => ⟨by rw [upd_ne (show a ≠ q from fun y => n (by rw [y]; exact sq))]; exact z, n⟩
  refine ⟨⟨fun s l z => ?_, fun a h => ?_⟩, fun a o z n => ?_, O.sub, O.new, O.len, O.lw, fun i g o e1 e2 => ?_, O.inj⟩
  · obtain ⟨⟨i', n', cs, z1, z2, z3⟩, z4⟩ := O.wok.law s l z
    obtain ⟨m1, m2⟩ := nl s l z
    exact ⟨⟨i', n', cs, by rw [upd_ne (Ne.symm m1)]; exact z1, by rw [upd_ne (Ne.symm m2)]; exact z2, z3⟩, z4⟩
  · by_cases ha : a = q
    · rw [ha, upd_same]
      exact ⟨_, rfl⟩
    · rw [upd_ne ha]
      exact O.wok.dom a h
  · have : a ≠ q := fun y => by rw [y, h0] at z; cases z
    rw [upd_ne this]
    exact O.ext a o z n
  · refine (O.sl i g o e1 e2).mono k (fun _ z => z) fun q' w o1 o2 _ n z => ?_
    subst o2
    have : q' ≠ q := fun y => no i g e1 o1 (by rw [← y]; exact e2)
    rw [upd_ne this]
    exact z
end
theorem NoOwn.drop {σ : L2.St} {G : List Sl} {q : Addr} (h : NoOwn σ G q) (i : Nat) {g0 : Sl} {o : Option V} (hg : g0.isOwn = false) : NoOwn (σ.set i o) (G.set i g0) q := fun j g e n => by
  by_cases hj : i = j
  · subst hj
    rw [List.getElem?_set] at e
    rw [if_pos rfl] at e
    split at e
    · cases e
      rw [hg] at n
      cases n
    · cases e
  · rw [List.getElem?_set_ne hj] at e ⊢
    exact h j g e n
theorem NoOwn.wipe {σ : L2.St} {G : List Sl} {q : Addr} (h : NoOwn σ G q) : ∀ vs : List Nat, NoOwn (L2.wipe σ vs) (wipeG G vs) q
  | [] => h
  | v :: vs => (h.wipe vs).drop v rfl
/-! ## list comprehensions -/
def lcP (g : XGp) (tt : XTp) (te : XP) (G0 : List Sl) : List D → List D → (List D → Prop) → Prop
  | [], acc, Q => Q acc
  | d :: ds, acc, Q => g d G0 (fun G2 => tt G2 (fun b => if b = true then te G2 (fun y => acc.length < 100000 ∧ lcP g tt te G0 ds (acc ++ [y]) Q) (fun _ => False) else lcP g tt te G0 ds acc Q) (fun _ => False))
def rLc (vs : List Nat) (it : XAp) (g : XGp) (tt : XTp) (te : XP) : XAp := fun G Q E => it G (fun ds => lcP g tt te (wipeG G vs) ds [] Q) E
def rYes : XTp := fun _ Q _ => Q true
def EvN (B : Bs) (Wx : WX) (t : TE) (p : XAp) : Prop := ∀ S σ H G Q E (k : VK), Ok B S σ H G → p G Q E → (∀ a vs H' ds, H a = none → Fut (B.W.at S) H H' → H' a = some (.lst vs) → Reps (B.W.at fun x => S x ∨ x = a) H' ds vs → Q ds → k (.ref a) H') → KX (B.W.at S) σ H E Wx → t σ H k
abbrev wx0 : WX := fun _ _ _ _ => False
theorem kx0 {W : Wd} {σ : L2.St} {H : Hp} : KX W σ H (fun _ => False) wx0 := fun _ _ _ _ _ _ z => z
theorem lc_ev {B : Bs} {Wx : WX} {wi : TI} {q : XAp} {g : XGp} {tt : XTp} {te : XP} {vs : List Nat} (ei : ∀ S σ H G Q E (R : It → Hp → Prop), Ok B S σ H G → q G Q E → (∀ J H1 ds, Fut (B.W.at S) H H1 → Wk B.W S H1 J ds → Q ds → R J H1) → KX (B.W.at S) σ H E Wx → wi σ H R) :
    EvN B Wx (tLc wi (canG B vs g) (canT B wx0 tt) (canE B wx0 te) vs) (rLc vs q g tt te) := by
  intro S σ H G Q E k O h hk kx
  refine ei S σ H G _ E _ O h (fun J H1 ds f wk hq D hD => ?_) kx
  have O1 := O.fut f
  have w1 := O1.wok
  have nl : nL B.W.L D := w1.nl (w1.new hD)
  have O2 : Ok B (fun a => S a ∨ a = D) (L2.wipe σ vs) (upd H1 D (.lst [])) (wipeG G vs) := (O1.wipe vs).hide hD
  have no : NoOwn (L2.wipe σ vs) (wipeG G vs) D := (O1.wipe vs).noOwn hD
  have n0 : ¬ B.W.S D := fun z => w1.new hD (O.sub D z)
  have h0 : B.H0 D = none := by
    rcases O2.new D (.inr rfl) with z | z
    · exact absurd z n0
    · exact z
  refine ⟨fun i m H' => m = ds.length - i ∧ i ≤ ds.length ∧ Ok B (fun a => S a ∨ a = D) (L2.wipe σ vs) H' (wipeG G vs) ∧ (∀ a o, H1 a = some o → nL B.W.L a → H' a = some o) ∧
    ∃ acc us, H' D = some (.lst us) ∧ Reps (B.W.at fun a => S a ∨ a = D) H' acc us ∧ lcP g tt te (wipeG G vs) (ds.drop i) acc Q, ⟨_, rfl, Nat.zero_le _, O2, fun a o e _ => ?_, [], [], upd_same, Reps.nil, hq⟩, ?_⟩
  · rw [upd_ne (ne_of_none e hD)]
    exact e
  rintro i m H' ⟨rfl, hi, O', kp, acc, us, eD, racc, hl⟩
  have pr : Pr S H1 (fun a => S a ∨ a = D) H' := fun a o n e => ⟨kp a o e (w1.nl n), fun z => z.elim n fun z => by rw [z, hD] at e; cases e⟩
  have wk' := wk (fun a => S a ∨ a = D) H' pr O'.wok i
  by_cases hlt : i < ds.length
  · refine .inr ?_
    have hdr : ds.drop i = ds[i] :: ds.drop (i + 1) := List.drop_eq_getElem_cons hlt
    rw [hdr] at hl
    obtain ⟨go, yl⟩ := wk'.1 ds[i] (List.getElem?_eq_getElem hlt)
    refine ⟨go, fun H3 => Ok B (fun a => S a ∨ a = D) (L2.wipe σ vs) H3 (wipeG G vs) ∧ (∀ a o, H1 a = some o → nL B.W.L a → H3 a = some o) ∧
      ∃ acc us, H3 D = some (.lst us) ∧ Reps (B.W.at fun a => S a ∨ a = D) H3 acc us ∧ lcP g tt te (wipeG G vs) (ds.drop (i + 1)) acc Q, fun H3 ⟨a1, a2, a3⟩ => ⟨ds.length - (i + 1), by omega, rfl, hlt, a1, a2, a3⟩, fun x H2 hy => ?_⟩
    obtain ⟨f2, r2⟩ := yl x H2 hy
    refine ⟨_, _, ds[i], _, O'.fut f2, r2, hl, fun σ3 H3 G3 O3 f3 ew no3' q3 => ⟨ew.trans (wipe_wipe σ vs), ?_⟩⟩
    refine ⟨_, _, _, _, O3, q3, fun b H4 f4 q4 => ?_, kx0⟩
    have f24 := (f2.trans f3).trans f4
    cases b with
    | true =>
      dsimp only at q4 ⊢
      rw [if_pos rfl] at q4 ⊢
      refine ⟨_, _, _, _, O3.fut f4, q4, fun y H5 dy f5 r5 q5 => ?_, kx0⟩
      have f25 := f24.trans f5
      have O5 := O'.fut f25
      have eD5 := f25.keep D _ eD nl
      refine ⟨us, eD5, Nat.lt_of_lt_of_le (by rw [racc.len]; exact q5.1) (le_line (Nat.le_refl _)), O5.hid (.inr rfl) n0 h0 nl no, fun a o e n => ?_, acc ++ [dy], us ++ [y], upd_same, ?_, q5.2⟩
      · rw [upd_ne (ne_of_none e hD)]
        exact f25.keep a o (kp a o e n) n
      · have rr := (racc.fut O'.wok f25).app (Reps.cons r5 Reps.nil)
        exact Reps.mono (W := B.W.at fun a => S a ∨ a = D) (fun b u n z => ⟨by rw [upd_ne (show b ≠ D from fun y => n (.inr y))]; exact z, n⟩) _ _ rr
    | false =>
      dsimp only at q4 ⊢
      rw [if_neg Bool.false_ne_true] at q4 ⊢
      exact ⟨O'.fut f24, fun a o e n => f24.keep a o (kp a o e n) n, acc, us, f24.keep D _ eD nl, racc.fut O'.wok f24, q4⟩
  · have e : i = ds.length := by omega
    have hdr : ds.drop i = [] := by rw [e, List.drop_length]
    rw [hdr] at hl
    refine .inl ⟨wk'.2 e, hk D us H' acc (f.free hD) ⟨fun a o ea n => kp a o (f.keep a o ea n) n, fun s l el => (O'.wok.law s l el).1⟩ eD racc hl⟩
/-- two clauses -/
def lcP2 (g : XGp) (tt : XTp) (it1 : XAp) (vs1 : List Nat) (g1 : XGp) (tt1 : XTp) (te : XP) (G0 : List Sl) : List D → List D → (List D → Prop) → Prop
  | [], acc, Q => Q acc
  | d :: ds, acc, Q => g d G0 (fun G2 => tt G2 (fun b => if b = true then it1 G2 (fun es => lcP g1 tt1 te (wipeG G2 vs1) es acc fun acc => lcP2 g tt it1 vs1 g1 tt1 te G0 ds acc Q) (fun _ => False) else lcP2 g tt it1 vs1 g1 tt1 te G0 ds acc Q) (fun _ => False))
def rLc2 (vs vs1 : List Nat) (it : XAp) (g : XGp) (tt : XTp) (it1 : XAp) (g1 : XGp) (tt1 : XTp) (te : XP) : XAp := fun G Q E => it G (fun ds => lcP2 g tt it1 vs1 g1 tt1 te (wipeG G vs) ds [] Q) E
theorem lc2_ev {B : Bs} {Wx : WX} {wi : TI} {q q1 : XAp} {g g1 : XGp} {tt tt1 : XTp} {te : XP} {vs vs1 : List Nat} (ei : ∀ S σ H G Q E (R : It → Hp → Prop), Ok B S σ H G → q G Q E → (∀ J H1 ds, Fut (B.W.at S) H H1 → Wk B.W S H1 J ds → Q ds → R J H1) → KX (B.W.at S) σ H E Wx → wi σ H R) :
    EvN B Wx (tLc2 wi (canG B vs g) (canT B wx0 tt) (canI B wx0 q1) (canG B vs1 g1) (canT B wx0 tt1) (canE B wx0 te) vs vs1) (rLc2 vs vs1 q g tt q1 g1 tt1 te) := by
  intro S σ H G Q E k O h hk kx
  refine ei S σ H G _ E _ O h (fun J H1 ds f wk hq D hD => ?_) kx
  have O1 := O.fut f
  have w1 := O1.wok
  have nl : nL B.W.L D := w1.nl (w1.new hD)
  have O2 : Ok B (fun a => S a ∨ a = D) (L2.wipe σ vs) (upd H1 D (.lst [])) (wipeG G vs) := (O1.wipe vs).hide hD
  have no : NoOwn (L2.wipe σ vs) (wipeG G vs) D := (O1.wipe vs).noOwn hD
  have n0 : ¬ B.W.S D := fun z => w1.new hD (O.sub D z)
  have h0 : B.H0 D = none := by
    rcases O2.new D (.inr rfl) with z | z
    · exact absurd z n0
    · exact z
  let Iv : Hp → (List Pu.D → Prop) → Prop := fun H3 R => Ok B (fun a => S a ∨ a = D) (L2.wipe σ vs) H3 (wipeG G vs) ∧ (∀ a o, H1 a = some o → nL B.W.L a → H3 a = some o) ∧ ∃ acc us, H3 D = some (.lst us) ∧ Reps (B.W.at fun a => S a ∨ a = D) H3 acc us ∧ R acc
  refine ⟨fun i m H' => m = ds.length - i ∧ i ≤ ds.length ∧ Iv H' fun acc => lcP2 g tt q1 vs1 g1 tt1 te (wipeG G vs) (ds.drop i) acc Q, ⟨_, rfl, Nat.zero_le _, O2, fun a o e _ => ?_, [], [], upd_same, Reps.nil, hq⟩, ?_⟩
  · rw [upd_ne (ne_of_none e hD)]
    exact e
  rintro i m H' ⟨rfl, hi, O', kp, acc, us, eD, racc, hl⟩
  have prOf : ∀ {H3 : Hp}, (∀ a o, H1 a = some o → nL B.W.L a → H3 a = some o) → Pr S H1 (fun a => S a ∨ a = D) H3 := fun {H3} kp a o n e => ⟨kp a o e (w1.nl n), fun z => z.elim n fun z => by rw [z, hD] at e; cases e⟩
  have wk' := wk (fun a => S a ∨ a = D) H' (prOf kp) O'.wok i
  by_cases hlt : i < ds.length
  · refine .inr ?_
    have hdr : ds.drop i = ds[i] :: ds.drop (i + 1) := List.drop_eq_getElem_cons hlt
    rw [hdr] at hl
    obtain ⟨go, yl⟩ := wk'.1 ds[i] (List.getElem?_eq_getElem hlt)
    refine ⟨go, fun H3 => Iv H3 fun acc => lcP2 g tt q1 vs1 g1 tt1 te (wipeG G vs) (ds.drop (i + 1)) acc Q, fun H3 h3 => ⟨ds.length - (i + 1), by omega, rfl, hlt, h3⟩, fun x H2 hy => ?_⟩
    obtain ⟨f2, r2⟩ := yl x H2 hy
    refine ⟨_, _, ds[i], _, O'.fut f2, r2, hl, fun σ3 H3 G3 O3 f3 ew no3' q3 => ⟨ew.trans (wipe_wipe σ vs), ?_⟩⟩
    refine ⟨_, _, _, _, O3, q3, fun b H4 f4 q4 => ?_, kx0⟩
    have f24 := (f2.trans f3).trans f4
    cases b with
    | true =>
      dsimp only at q4 ⊢
      rw [if_pos rfl] at q4 ⊢
      have O4 := O3.fut f4
      refine ⟨_, _, _, _, O4, q4, fun J1 H5 es f5 wk5 q5 => ?_, kx0⟩
      have f25 := f24.trans f5
      have O5 : Ok B (fun a => S a ∨ a = D) (L2.wipe σ3 vs1) H5 (wipeG G3 vs1) := (O4.fut f5).wipe vs1
      have no3 : NoOwn (L2.wipe σ3 vs1) (wipeG G3 vs1) D := (no3' D no).wipe vs1
      have eD5 := f25.keep D _ eD nl
      refine ⟨fun j m H6 => m = es.length - j ∧ j ≤ es.length ∧ Ok B (fun a => S a ∨ a = D) (L2.wipe σ3 vs1) H6 (wipeG G3 vs1) ∧ Ok B (fun a => S a ∨ a = D) (L2.wipe σ vs) H6 (wipeG G vs) ∧ (∀ a o, H5 a = some o → a ≠ D → nL B.W.L a → H6 a = some o) ∧ ∃ acc us, H6 D = some (.lst us) ∧ Reps (B.W.at fun a => S a ∨ a = D) H6 acc us ∧
        lcP g1 tt1 te (wipeG G3 vs1) (es.drop j) acc fun acc => lcP2 g tt q1 vs1 g1 tt1 te (wipeG G vs) (ds.drop (i + 1)) acc Q, ⟨_, rfl, Nat.zero_le _, O5, O'.fut f25, fun a o e _ _ => e, acc, us, eD5, racc.fut O'.wok f25, q5⟩, ?_⟩
      rintro j m H6 ⟨rfl, hj, O6, O6', kp6, acc6, us6, eD6, racc6, hl6⟩
      have pr6 : Pr (fun a => S a ∨ a = D) H5 (fun a => S a ∨ a = D) H6 := fun a o n e => ⟨kp6 a o e (fun z => n (.inr z)) ((O'.fut f25).wok.nl n), n⟩
      have wk6 := wk5 (fun a => S a ∨ a = D) H6 pr6 O6.wok j
      by_cases hlt6 : j < es.length
      · refine .inr ?_
        have hdr6 : es.drop j = es[j] :: es.drop (j + 1) := List.drop_eq_getElem_cons hlt6
        rw [hdr6] at hl6
        obtain ⟨go6, yl6⟩ := wk6.1 es[j] (List.getElem?_eq_getElem hlt6)
        refine ⟨go6, fun H7 => Ok B (fun a => S a ∨ a = D) (L2.wipe σ3 vs1) H7 (wipeG G3 vs1) ∧ Ok B (fun a => S a ∨ a = D) (L2.wipe σ vs) H7 (wipeG G vs) ∧ (∀ a o, H5 a = some o → a ≠ D → nL B.W.L a → H7 a = some o) ∧ ∃ acc us, H7 D = some (.lst us) ∧ Reps (B.W.at fun a => S a ∨ a = D) H7 acc us ∧
          lcP g1 tt1 te (wipeG G3 vs1) (es.drop (j + 1)) acc fun acc => lcP2 g tt q1 vs1 g1 tt1 te (wipeG G vs) (ds.drop (i + 1)) acc Q, fun H7 h7 => ⟨es.length - (j + 1), by omega, rfl, hlt6, h7⟩, fun x H7 hy => ?_⟩
        obtain ⟨f7, r7⟩ := yl6 x H7 hy
        refine ⟨_, _, es[j], _, O6.fut f7, r7, hl6, fun σ8 H8 G8 O8 f8 ew8 _ q8 => ⟨ew8.trans (wipe_wipe σ3 vs1), ?_⟩⟩
        refine ⟨_, _, _, _, O8, q8, fun b H9 f9 q9 => ?_, kx0⟩
        have f79 := (f7.trans f8).trans f9
        cases b with
        | true =>
          dsimp only at q9 ⊢
          rw [if_pos rfl] at q9 ⊢
          refine ⟨_, _, _, _, O8.fut f9, q9, fun y H10 dy f10 r10 q10 => ?_, kx0⟩
          have g10 := f79.trans f10
          refine ⟨us6, g10.keep D _ eD6 nl, Nat.lt_of_lt_of_le (by rw [racc6.len]; exact q10.1) (le_line (Nat.le_refl _)), (O6.fut g10).hid (.inr rfl) n0 h0 nl no3, (O6'.fut g10).hid (.inr rfl) n0 h0 nl no, fun a o e nd n => ?_, acc6 ++ [dy], us6 ++ [y], upd_same, ?_, q10.2⟩
          · rw [upd_ne nd]
            exact g10.keep a o (kp6 a o e nd n) n
          · have rr := (racc6.fut O6.wok g10).app (Reps.cons r10 Reps.nil)
            exact Reps.mono (W := B.W.at fun a => S a ∨ a = D) (fun b u n z => ⟨by rw [upd_ne (show b ≠ D from fun y => n (.inr y))]; exact z, n⟩) _ _ rr
        | false =>
          dsimp only at q9 ⊢
          rw [if_neg Bool.false_ne_true] at q9 ⊢
          exact ⟨O6.fut f79, O6'.fut f79, fun a o e nd n => f79.keep a o (kp6 a o e nd n) n, acc6, us6, f79.keep D _ eD6 nl, racc6.fut O6.wok f79, q9⟩
      · have e6 : j = es.length := by omega
        have hdr6 : es.drop j = [] := by rw [e6, List.drop_length]
        rw [hdr6] at hl6
        refine .inl ⟨wk6.2 e6, O6', fun a o e n => ?_, acc6, us6, eD6, racc6, hl6⟩
        exact kp6 a o (f25.keep a o (kp a o e n) n) (ne_of_none e hD) n
    | false =>
      dsimp only at q4 ⊢
      rw [if_neg Bool.false_ne_true] at q4 ⊢
      exact ⟨O'.fut f24, fun a o e n => f24.keep a o (kp a o e n) n, acc, us, f24.keep D _ eD nl, racc.fut O'.wok f24, q4⟩
  · have e : i = ds.length := by omega
    have hdr : ds.drop i = [] := by rw [e, List.drop_length]
    rw [hdr] at hl
    refine .inl ⟨wk'.2 e, hk D us H' acc (f.free hD) ⟨fun a o ea n => kp a o (f.keep a o ea n) n, fun s l el => (O'.wok.law s l el).1⟩ eD racc hl⟩
/-! rules -/
section
variable {B : Bs} {X : Cx} {Wx : WX} {a b c e tg iter tg1 iter1 elt : Expr} {es ifs ifs1 : List Expr} {pa pb pc te : XP} {pos py spos : Pos} {pas q q1 : XAp} {tt tt1 : XTp} {g g1 : XGp} {gs : XGsp} {vs vs1 : List Nat} {scope : Scope} {own : List (Str × Nat)}
theorem xv_name (i : Nat) {x : Str} (hN : X.N.Nodup) (hi : X.N[i]? = some x := by rfl) (hx : Loc X.env.scope x := by first | exact Or.inl rfl | exact Or.inr rfl) (hf : X.fn x = true ∨ X.env.scope.names.lookup x = some .local := by first | exact .inl rfl | exact .inr rfl | assumption) (hm : i ∈ vs := by decide) : XV B X vs (.Name x pos) (gN i) :=
  ⟨⟨fun pins s σ H v u Q I r ⟨S, G, d, Qd, O, rv, q, hk⟩ => (pg_name hN hi hx hf).run pins s σ H v u Q I r (hk _ H _ (O.set i rv) (Fut.refl O.wok) (wipe_set hm) (fun q h => h.drop i rfl) q)⟩⟩
theorem xvs_nil : XVs B X vs [] gsN := ⟨gNil, pgs_nil, fun S σ H G ds us Q k O r q h => by
  cases ds with
  | nil =>
    simp only [Reps] at r
    exact ⟨r, h σ H G O (Fut.refl O.wok) rfl (fun _ h => h) q⟩
  | cons d ds => exact False.elim q⟩
theorem xvs_cons (h1 : XV B X vs e g) (h2 : XVs B X vs es gs)
    (h : (assignEach (e :: es) X.env).map (·.2) = assign e X.env :: (assignEach es X.env).map (·.2) := by rfl) : XVs B X vs (e :: es) (gsC g gs) := by
  obtain ⟨u, h2, e2⟩ := h2.ex
  refine ⟨gCons (canG B vs g) u, by first | exact pgs_cons h1.run h2 h | exact pgs_cons h1.run h2, fun S σ H G ds us Q k O r q h => ?_⟩
  cases ds with
  | nil => exact False.elim q
  | cons d ds =>
    simp only [Reps] at r
    obtain ⟨v, r', rfl, r1, r2⟩ := r
    refine ⟨v, r', rfl, S, G, d, _, O, r1, q, fun σ' H' G' O' f w n q' => ?_⟩
    exact e2 S σ' H' G' ds r' Q k O' (r2.fut O.wok f) q' fun σ2 H2 G2 O2 f2 w2 n2 q2 => h σ2 H2 G2 O2 (f.trans f2) (w2.trans w) (fun q hq => n2 q (n q hq)) q2
theorem xv_tup {kk n : Nat} (hc : X.calm = true) (h : XVs B X vs es gs) (hn : (assignEach es X.env).length = n := by rfl) (hst : (assignEach es X.env).findIdx? (·.1) = none := by rfl) : XV B X vs (.Tuple es kk pos) (gU n gs) := by
  obtain ⟨t, h, ev⟩ := h.ex
  have h1 := pg_tup (pos := pos) (k := kk) hc h hn hst
  have h2 := pg_unl (pos := pos) (k := kk) hc h hn hst
  refine ⟨⟨fun pins s σ H v u Q I r ⟨S, G, d, Qd, O, rv, q, hk⟩ => ?_⟩⟩
  cases d <;> first | exact False.elim q | skip
  · obtain ⟨p, ws, rfl, n1, e1, z1⟩ := repL rv
    exact h2.run pins s σ H _ u Q I r ⟨p, ws, rfl, SqL.of e1, by rw [z1.len]; exact q.1, ev S σ H G _ ws Qd _ O z1 q.2 hk⟩
  · obtain ⟨p, ws, rfl, n1, e1, z1⟩ := repT rv
    exact h1.run pins s σ H _ u Q I r ⟨p, ws, rfl, (.inl e1), by rw [z1.len]; exact q.1, ev S σ H G _ ws Qd _ O z1 q.2 hk⟩
/-- a clause's tests -/
structure XTs (B : Bs) (X : Cx) (ifs : List Expr) (t : XTp) : Prop where
  run : PTs X ifs (canT B wx0 t)
theorem xts_nil : XTs B X [] rYes := ⟨⟨fun _ _ _ H _ I ⟨_, _, _, _, O, q, kt, _⟩ => wpAny_tests_nil ⟨H, I, kt true H (Fut.refl O.wok) q⟩⟩⟩
theorem xts_one (h : XT B X wx0 c tt) : XTs B X [c] tt := ⟨pts_one h.can⟩
abbrev Blk (X : Cx) (scope : Scope) (P : Cx → Prop) : Prop := ∀ (s : Shared) (H : Hp) (C : Addr) (cl : List (Str × Addr)) (fp : List Addr), P (X.blk s H scope (compEnvC scope cl C X.env) fp)
theorem xn_lc (hc : X.calm = true) (hN : X.N.Nodup) (hi : XI B X Wx tg iter q) (ok : BlkOk X.N X.env.scope scope own) (hg : Blk X scope fun Y => XV B Y (own.map (·.2)) tg g) (ht : Blk X scope fun Y => XTs B Y ifs tt) (he : Blk X scope fun Y => XE B Y wx0 elt te)
    (hs : ∀ x, foldedSetIterable iter X.env x = pure x := by intro _; rfl) : XN B X Wx (.ListComp elt [⟨tg, iter, ifs, 0⟩] scope pos) (rLc (own.map (·.2)) q g tt te) := by
  obtain ⟨wi, hi, ei⟩ := hi.ex
  exact ⟨_, pe_lc hc hN hi ok (fun s H C cl fp => (hg s H C cl fp).run) (fun s H C cl fp => (ht s H C cl fp).run) (fun s H C cl fp => (he s H C cl fp).can) hs, lc_ev ei⟩
theorem xn_lc2 (hc : X.calm = true) (hN : X.N.Nodup) (hi : XI B X Wx tg iter q) (ok : BlkOk X.N X.env.scope scope own) (hv : ∀ i ∈ vs1, i ∈ own.map (·.2)) (hg : Blk X scope fun Y => XV B Y (own.map (·.2)) tg g) (ht : Blk X scope fun Y => XTs B Y ifs tt) (hi1 : Blk X scope fun Y => XI B Y wx0 tg1 iter1 q1)
    (hg1 : Blk X scope fun Y => XV B Y vs1 tg1 g1) (ht1 : Blk X scope fun Y => XTs B Y ifs1 tt1) (he : Blk X scope fun Y => XE B Y wx0 elt te)
    (hs : ∀ x, foldedSetIterable iter X.env x = pure x := by intro _; rfl) (hs1 : ∀ env x, foldedSetIterable iter1 env x = pure x := by intro _ _; rfl) : XN B X Wx (.ListComp elt [⟨tg, iter, ifs, 0⟩, ⟨tg1, iter1, ifs1, 0⟩] scope pos) (rLc2 (own.map (·.2)) vs1 q g tt q1 g1 tt1 te) := by
  obtain ⟨wi, hi, ei⟩ := hi.ex
  exact ⟨_, pe_lc2 hc hN hi ok hv (fun s H C cl fp => (hg s H C cl fp).run) (fun s H C cl fp => (ht s H C cl fp).run) (fun s H C cl fp => (hi1 s H C cl fp).can) (fun s H C cl fp => (hg1 s H C cl fp).run) (fun s H C cl fp => (ht1 s H C cl fp).run) (fun s H C cl fp => (he s H C cl fp).can) hs hs1, lc2_ev ei⟩
/-- a new list as a datum -/
def rNew (a : XAp) : XP := fun G Q E => a G (fun ds => Q (.lst ds)) E
theorem XN.xe (h : XN B X Wx e pas) : XE B X Wx e (rNew pas) := by
  obtain ⟨t, h, ev⟩ := h.ex
  refine ⟨t, h, fun S σ H G Q E k O q ke kx => ev S σ H G _ E k O q (fun a us H' ds hn f e r hq => ?_) kx⟩
  exact ke _ H' _ f (mkL (O.wok.new hn) e (Reps.mono (W := B.W.at fun x => S x ∨ x = a) (S := S) (fun b u n z => ⟨z, fun y => n (.inl y)⟩) _ _ r)) hq
/-! name = [..] on one line -/
theorem evn_set {t : TE} {i : Nat} (ev : EvN B Wx t pas) : EvS B Wx (tAsg t (gName i)) (fun G P => pas G (fun ds => P.nx (G.set i (.d (.lst ds)))) fun e => P.ex e G) := fun S σ H G P D O q k =>
  ev S σ H G _ _ _ O q (fun a us H' ds hn f e r hq => k.nx S _ H' _ ((O.fut f).set i (mkL (O.wok.new hn) e (Reps.mono (W := B.W.at fun x => S x ∨ x = a) (S := S) (fun b u n z => ⟨z, fun y => n (.inl y)⟩) _ _ r))) hq) (k.kx O)
theorem evn_own {t : TE} {i : Nat} (ev : EvN B Wx t pas) : EvS B Wx (tAsg t (gName i)) (rOwnSet i pas) := fun S σ H G P D O q k =>
  ev S σ H G _ _ _ O q (fun a us H' ds hn f e r hq => by
    have nl : nL B.W.L a := O.wok.nl (O.wok.new hn)
    have na : ¬ B.W.S a := fun z => O.wok.new hn (O.sub a z)
    exact k.nx _ _ H' _ (O.keep i (g := .own ds) hn f.keep f.law ⟨_, e⟩ nl ⟨a, us, rfl, .inr rfl, na, nl, e, r⟩) hq) (k.kx O)
def rSetN (i : Nat) (a : XAp) : XSp := fun G P => a G (fun ds => P.nx (G.set i (.d (.lst ds)))) fun e => P.ex e G
theorem xs_lc (i : Nat) {y : Str} (hc : X.calm = true) (hN : X.N.Nodup) (hi : XI B X Wx tg iter q) (ok : BlkOk X.N X.env.scope scope own) (hg : Blk X scope fun Y => XV B Y (own.map (·.2)) tg g) (ht : Blk X scope fun Y => XTs B Y ifs tt) (he : Blk X scope fun Y => XE B Y wx0 elt te)
    (hy : X.N[i]? = some y := by rfl) (hyl : X.env.scope.names.lookup y = some .local := by rfl) (hsw : swapsWith (.ListComp elt [⟨tg, iter, ifs, 0⟩] scope pos) (some (.Name y py)) spos.line X.env = pure true := by rfl)
    (hs : ∀ x, foldedSetIterable iter X.env x = pure x := by intro _; rfl) : XS B X Wx (.Assign [.Name y py] (.ListComp elt [⟨tg, iter, ifs, 0⟩] scope pos) spos) (rSetN i (rLc (own.map (·.2)) q g tt te)) ∧
      XS B X Wx (.Assign [.Name y py] (.ListComp elt [⟨tg, iter, ifs, 0⟩] scope pos) spos) (rOwnSet i (rLc (own.map (·.2)) q g tt te)) := by
  obtain ⟨wi, hi, ei⟩ := hi.ex
  have hp := ps_setLc (py := py) (spos := spos) hc hN hy hyl hsw hi ok (fun s H C cl fp => (hg s H C cl fp).run) (fun s H C cl fp => (ht s H C cl fp).run) (fun s H C cl fp => (he s H C cl fp).can) hs
  exact ⟨⟨_, hp, evn_set (lc_ev ei)⟩, ⟨_, hp, evn_own (lc_ev ei)⟩⟩
theorem xs_lc2 (i : Nat) {y : Str} (hc : X.calm = true) (hN : X.N.Nodup) (hi : XI B X Wx tg iter q) (ok : BlkOk X.N X.env.scope scope own) (hv : ∀ i ∈ vs1, i ∈ own.map (·.2)) (hg : Blk X scope fun Y => XV B Y (own.map (·.2)) tg g) (ht : Blk X scope fun Y => XTs B Y ifs tt) (hi1 : Blk X scope fun Y => XI B Y wx0 tg1 iter1 q1)
    (hg1 : Blk X scope fun Y => XV B Y vs1 tg1 g1) (ht1 : Blk X scope fun Y => XTs B Y ifs1 tt1) (he : Blk X scope fun Y => XE B Y wx0 elt te)
    (hy : X.N[i]? = some y := by rfl) (hyl : X.env.scope.names.lookup y = some .local := by rfl) (hsw : swapsWith (.ListComp elt [⟨tg, iter, ifs, 0⟩, ⟨tg1, iter1, ifs1, 0⟩] scope pos) (some (.Name y py)) spos.line X.env = pure true := by rfl)
    (hs : ∀ x, foldedSetIterable iter X.env x = pure x := by intro _; rfl) (hs1 : ∀ env x, foldedSetIterable iter1 env x = pure x := by intro _ _; rfl) :
    XS B X Wx (.Assign [.Name y py] (.ListComp elt [⟨tg, iter, ifs, 0⟩, ⟨tg1, iter1, ifs1, 0⟩] scope pos) spos) (rSetN i (rLc2 (own.map (·.2)) vs1 q g tt q1 g1 tt1 te)) ∧
      XS B X Wx (.Assign [.Name y py] (.ListComp elt [⟨tg, iter, ifs, 0⟩, ⟨tg1, iter1, ifs1, 0⟩] scope pos) spos) (rOwnSet i (rLc2 (own.map (·.2)) vs1 q g tt q1 g1 tt1 te)) := by
  obtain ⟨wi, hi, ei⟩ := hi.ex
  have hp := ps_setLc2 (py := py) (spos := spos) hc hN hy hyl hsw hi ok hv (fun s H C cl fp => (hg s H C cl fp).run) (fun s H C cl fp => (ht s H C cl fp).run) (fun s H C cl fp => (hi1 s H C cl fp).can) (fun s H C cl fp => (hg1 s H C cl fp).run) (fun s H C cl fp => (ht1 s H C cl fp).run) (fun s H C cl fp => (he s H C cl fp).can) hs hs1
  exact ⟨⟨_, hp, evn_set (lc2_ev ei)⟩, ⟨_, hp, evn_own (lc2_ev ei)⟩⟩
end
end Pu
namespace Pu
open PySem PySem.Spec PyProof.Rows L2
/-! ## tuples whose place in the heap is known -/
def wk : D → D
  | .ftp ds => .tup ds
  | d => d
theorem Rep.wk {W : Wd} {H : Hp} {d : D} {v : V} (h : Rep W H d v) : Rep W H (Pu.wk d) v := by
  cases d <;> first | exact h | exact h.thaw
def rWk (a : XP) : XP := fun G Q E => a G (fun d => Q (wk d)) E
/-- tuple(list), its place known -/
def oFtup : DFn := fun xs Q _ => match xs with
  | [.lst ds] => Q (.ftp ds)
  | _ => False
def findD (ds : List D) (x : D) : Option Nat := ds.findIdx? fun d => deq d x
/-- t.index(x), t a tuple whose place is known -/
def rIndexT (a b : XP) : XP := fun G Q E => a G (fun x => match x with
  | .ftp ds => b G (fun y => pl 50 y = true ∧ ds.all (pl 50) = true ∧ ∃ j, findD ds y = some j ∧ Q (.int (j : Int))) E
  | _ => False) E
def rIndexL (a b : XP) : XP := fun G Q E => a G (fun x => match x with
  | .lst ds => b G (fun y => pl 50 y = true ∧ ds.all (pl 50) = true ∧ ∃ j, findD ds y = some j ∧ Q (.int (j : Int))) E
  | _ => False) E
theorem findD_at {ds : List D} {x : D} {j : Nat} (h : findD ds x = some j) : (∃ d, ds[j]? = some d ∧ deq d x = true) ∧ ∀ m d, m < j → ds[m]? = some d → deq d x = false := by
  unfold findD at h
  obtain ⟨h1, h2, h3⟩ := List.findIdx?_eq_some_iff_getElem.mp h
  refine ⟨⟨ds[j], List.getElem?_eq_getElem h1, h2⟩, fun m d hm e => ?_⟩
  have hl : m < ds.length := by omega
  rw [List.getElem?_eq_getElem hl] at e
  cases e
  simpa using h3 m hm
section
variable {B : Bs} {X : Cx} {Wx : WX} {a b c e o : Expr} {es : List Expr} {pa pb pc : XP} {pos p p2 apos cpos : Pos} {pas : XAp}
theorem xe_wk (h : XE B X Wx e pa) : XE B X Wx e (rWk pa) := by
  obtain ⟨t, h, ev⟩ := h.ex
  exact ⟨t, h, fun S σ H G Q E k O q ke kx => ev S σ H G _ E k O q (fun v H' d f r q => ke v H' (wk d) f r.wk q) kx⟩
theorem call_ftup : CallR X (.type "tuple") (fun xs H Q => ∃ p ys, xs = [.ref p] ∧ SqL X.K H p ys ∧ ∀ l o, H l = none → o.dict = none → Q (.ref l) (upd H l (.frz o (.tup ys)))) := by
  intro pins s σ H xs us Q I r h
  obtain ⟨p, ys, rfl, hq, q⟩ := h
  obtain ⟨u, rfl, rx⟩ := vals1 r
  cases rx
  obtain ⟨its, r', pl, hz⟩ := I.list hq
  have hlen := r'.length
  refine call_tuple_list pl.isList (fun h' kp => ?_) (by simp only [List.size_toArray] <;> omega)
  have I1 : Inv X pins σ H { s with heap := h' } := I.kept (t' := s.toks) kp
  have I2 : Inv X pins σ (upd H h'.objs.size (.frz { cls := .type "tuple", data := .seq its.toArray } (.tup ys))) { s with heap := h'.push { cls := .type "tuple", data := .seq its.toArray } } :=
    I1.laid (t' := s.toks) (fun b o e => Heap.get?_push_of_some _ e) (Nat.le_refl _) (show ObjOk X.prog X.w _ _ _ (.frz _ (.tup ys)) from ⟨Heap.get?_push_size _ rfl, hz, its, r', IsTup.new _ _⟩)
  exact ⟨.ref h'.objs.size, _, I2, rfl, q _ _ (I1.hok.fresh (Nat.le_refl _)) rfl⟩
theorem xf_ftup : XF B X Wx (.type "tuple") oFtup := ⟨_, call_ftup, fun S H xs dxs Q E k w r q ke => by
  cases dxs with
  | nil => exact False.elim q
  | cons d ds =>
    cases ds with
    | cons d2 ds => cases d <;> exact False.elim q
    | nil =>
      obtain ⟨v, rfl, r9⟩ := reps1 r
      cases d <;> first | exact False.elim q | skip
      obtain ⟨a, vs, rfl, n, e1, z⟩ := repL r9
      refine ⟨a, vs, rfl, SqL.of e1, fun l o hl hd => ?_⟩
      have g := fut_new (o := .frz o (.tup vs)) w hl
      refine ke _ _ _ g ?_ q
      simp only [Rep]
      exact ⟨l, vs, o, rfl, w.new hl, hd, upd_same, z.fut w g⟩⟩
/-! ### methods of tuples and lists -/
def tTM (r : V → List V → Hp → VK → Prop) (to : TE) (t : TA) : TE := fun σ H Q => to σ H fun x H1 => (∃ p o vs, x = .ref p ∧ o.dict = none ∧ H1 p = some (.frz o (.tup vs))) ∧ t σ H1 fun xs H2 => r x xs H2 Q
theorem pe_tm {name : Str} {id : String} {to : TE} {t : TA} {r : V → List V → Hp → VK → Prop} (slot : Slot "tuple" name id) (hty : typeOf (.builtin id) = pure (.type "method_descriptor")) (hm : MtR X id r) (ho : PE X o to) (ha : PA X (e :: es) t)
    (hbase : attributeBase o name X.env (eval o X.env) = eval o X.env := by rfl)
    (hfew : ((backTo cpos (starEach (e :: es) X.env)).all (fun x => !x.1) && (backToKw cpos (keywordEach [] X.env)).all (fun x => x.1.isSome)
      && decide ((e :: es).length + ([] : List Keyword).length + (if ([] : List Keyword).isEmpty then 0 else 1) < 30)) = true := by rfl)
    (hline : (apos.endLine == cpos.line) = true := by rfl) (hs : starEach (e :: es) X.env = (false, eval e X.env) :: starEach es X.env := by rfl) (hplain : (backTo cpos (starEach es X.env)).any (·.1) = false := by rfl) :
    PE X (.Call (.Attribute o name apos) (e :: es) [] cpos) (tTM r to t) := by
  refine ⟨fun pins s σ H Q I h => ?_⟩
  refine wpAny_Call_method_late hbase hfew hline rfl (thn (ho.run pins s σ H _ I h) fun v s1 ⟨x, H1, I1, r1, ⟨p, ob, vs, ex, hd, eH⟩, q1⟩ => ?_)
  subst ex
  obtain rfl : v = Value.ref p := r1
  obtain ⟨eo, hok⟩ : ObjOk X.prog X.w H1 s1.heap p (.frz ob (.tup vs)) := I1.hok p _ eH
  obtain ⟨_, its, _, o2, e2, c2, _⟩ : ObjOk X.prog X.w H1 s1.heap p (.tup vs) := hok
  rw [eo] at e2
  cases e2
  refine ⟨"tuple", id, PySem.F.plainAttrs_tuple, slot, hty, ⟨ob, eo, c2⟩, fun a z => ?_, ?_⟩
  · cases z
    exact ⟨ob, eo, hd⟩
  have hA := ha.run cpos pins s1 σ H1 _ I1 q1
  rw [hs] at hA ⊢
  refine Calls.callWith_builtin (by show (false || (backTo cpos (starEach es X.env)).any (·.1)) = false; rw [hplain] <;> rfl) (Calls.evalArgs_plain ?_)
  exact thn hA fun us s2 ⟨ws, H2, I2, r2, q2⟩ => hm pins s2 σ H2 (.ref p) ws _ us Q I2 rfl r2 q2
def rIdxT : V → List V → Hp → VK → Prop := fun x xs H Q => ∃ (W : Wd) (d : D) (ds : List D) (y : V) (j : Nat), xs = [y] ∧ pl 50 d = true ∧ ds.all (pl 50) = true ∧ Rep W H d y ∧ Rep W H (.tup ds) x ∧ findD ds d = some j ∧ Q (.int (j : Nat)) H
theorem idx_fn {pins : List (Addr × Obj)} {σ : L2.St} {H : Hp} {s : Shared} {W : Wd} (I : Inv X pins σ H s) (hu : X.A.units + 64 < cLine) {d : D} {ds : List D} {y : V} {u : Value} {vs : List V} {its : List Value} {j : Nat} (h1 : pl 50 d = true) (h2 : ds.all (pl 50) = true) (ry : Rep W H d y) (ru : RelV y u)
    (rr : Reps W H ds vs) (rv : Vals vs its) (hf : findD ds d = some j) : ∃ (e : Value → Bool) (hj : j < its.length), (∀ y, y ∈ its → SeqAt.EqAt X.A.in1 s y u (e y)) ∧ e its[j] = true ∧ ∀ m (hm : m < its.length), m < j → e its[m] = false := by
  obtain ⟨⟨z, ez, hz⟩, hno⟩ := findD_at hf
  have g : ∀ (i : Nat) (hi : i < its.length), ∃ zz w, ds[i]? = some zz ∧ Rep W H zz w ∧ RelV w its[i] := fun i hi => by
    have hv : i < vs.length := by rw [rv.length]; exact hi
    obtain ⟨u', e1, e2⟩ := rv.get (List.getElem?_eq_getElem hv)
    rw [List.getElem?_eq_getElem hi] at e1
    cases e1
    obtain ⟨z', ez', rz'⟩ := rr.get' (List.getElem?_eq_getElem hv)
    exact ⟨z', _, ez', rz', e2⟩
  have hjl : j < its.length := by
    have := (List.getElem?_eq_some_iff.mp ez).1
    rw [← rv.length, rr.len]
    exact this
  have hp : ∀ {i : Nat} {zz : D}, ds[i]? = some zz → pl 50 zz = true := fun {i zz} e => List.all_eq_true.mp h2 zz (List.mem_of_getElem? e)
  have ev : ∀ (m : Nat) (hm : m < its.length) (z' : D), ds[m]? = some z' → @decide (∃ (i : Nat) (hi : i < its.length) (zz : D), its[i] = its[m] ∧ ds[i]? = some zz ∧ deq zz d = true) (Classical.propDecidable _) = deq z' d := fun m hm z' e => by
    cases hq : deq z' d with
    | true => exact @decide_eq_true _ (Classical.propDecidable _) ⟨m, hm, z', rfl, e, hq⟩
    | false =>
      refine @decide_eq_false _ (Classical.propDecidable _) ?_
      rintro ⟨i, hi, zz, e1, e2, e3⟩
      obtain ⟨z1, w1, a1, b1, c1⟩ := g i hi
      obtain ⟨z2, w2, a2, b2, c2⟩ := g m hm
      rw [e2] at a1
      rw [e] at a2
      cases a1
      cases a2
      rw [e1] at c1
      have := RelV.inj c1 c2
      subst this
      have := Rep.uniq 50 zz z' w1 (hp e2) (hp e) b1 b2
      subst this
      rw [hq] at e3
      cases e3
  refine ⟨fun y => @decide (∃ (i : Nat) (hi : i < its.length) (zz : D), its[i] = y ∧ ds[i]? = some zz ∧ deq zz d = true) (Classical.propDecidable _), hjl, fun y hy => ?_, ?_, fun m hm hmj => ?_⟩
  · obtain ⟨m, hm, rfl⟩ := List.getElem_of_mem hy
    obtain ⟨z', w, ez', rz', rw_⟩ := g m hm
    show SeqAt.EqAt X.A.in1 s its[m] u (@decide _ (Classical.propDecidable _))
    rw [ev m hm z' ez']
    exact eqAtD I 50 z' d X.A.in1 w y its[m] u (hp ez') h1 rz' ry rw_ ru (by show X.A.units + 1 + 50 < cLine; omega)
  · show @decide _ (Classical.propDecidable _) = true
    rw [ev j hjl z ez, hz]
  · obtain ⟨z', w, ez', _⟩ := g m hm
    show @decide _ (Classical.propDecidable _) = false
    rw [ev m hm z' ez', hno m z' hmj ez']
theorem mt_idxT (hu : X.A.units + 64 < cLine) : MtR X "tuple.index" rIdxT := by
  intro pins s σ H x xs v us Q I rx rxs h
  obtain ⟨W, d, ds, y, j, rfl, h1, h2, ry, rt, hf, q⟩ := h
  obtain ⟨u, rfl, ru⟩ := vals1 rxs
  obtain ⟨a, vs, its, rfl, ht, rv, rr, _⟩ := atT I rt rx
  obtain ⟨⟨cls, dd, dt, sl⟩, ho, hc, n, hd⟩ := ht
  simp only at hc hd
  subst hc
  subst hd
  obtain ⟨e, hj, he, hy, hn⟩ := idx_fn I hu h1 h2 ry ru rr rv hf
  exact call_meets PySem.F.slot_tuple_index ⟨_, ho, rfl⟩ PySem.F.entry_tuple_index (PySem.F.args_tuple_index_2 _ _)
    (TI.tuple_indexAt a its.toArray n dd sl u e j (by simpa using hj) (by simpa using hy) fun m hm hmj => by simpa using hn m (by simpa using hm) hmj) ⟨ho, fun y hy => he y (by simpa using hy), ⟨.int (j : Nat), H, I.tok _, ⟨_, rfl⟩, q⟩⟩
def rIdxL : V → List V → Hp → VK → Prop := fun x xs H Q => ∃ (W : Wd) (d : D) (ds : List D) (y : V) (j : Nat), xs = [y] ∧ pl 50 d = true ∧ ds.all (pl 50) = true ∧ Rep W H d y ∧ Rep W H (.lst ds) x ∧ findD ds d = some j ∧ Q (.int (j : Nat)) H
theorem mt_idxL (hu : X.A.units + 64 < cLine) : MtR X "list.index" rIdxL := by
  intro pins s σ H x xs v us Q I rx rxs h
  obtain ⟨W, d, ds, y, j, rfl, h1, h2, ry, rt, hf, q⟩ := h
  obtain ⟨u, rfl, ru⟩ := vals1 rxs
  obtain ⟨a, vs, rfl, _, e1, rr⟩ := repL rt
  cases rx
  obtain ⟨its, rv, ⟨⟨cls, dd, data, sl⟩, n, ho, hc, hdn, hd⟩, hlen⟩ := I.list (SqL.of (K := X.K) e1)
  simp only at hc hd
  subst hc hd
  obtain ⟨e, hj, he, hy, hn⟩ := idx_fn I hu h1 h2 ry ru rr rv hf
  have hvl := rv.length
  have hsl := sizeLine_eq
  exact call_meets PySem.F.slot_list_index ⟨_, ho, rfl⟩ PySem.F.entry_list_index (PySem.F.args_list_index_2 _ _)
    (SeqAt.list_indexAt a its.toArray n dd sl u e j (by simpa using hj) (by omega) (by simpa using hy) fun m hm hmj => by simpa using hn m (by simpa using hm) hmj) ⟨ho, fun y hy => he y (by simpa using hy), ⟨.int (j : Nat), H, I.tok _, ⟨_, rfl⟩, q⟩⟩
theorem xe_indexT {k : Nat} (hr : Room k X.A) (ho : XE B X Wx o pa) (ha : XE B X Wx e pb)
    (hbase : attributeBase o "index" X.env (eval o X.env) = eval o X.env := by rfl)
    (hfew : ((backTo cpos (starEach [e] X.env)).all (fun x => !x.1) && (backToKw cpos (keywordEach [] X.env)).all (fun x => x.1.isSome)
      && decide ([e].length + ([] : List Keyword).length + (if ([] : List Keyword).isEmpty then 0 else 1) < 30)) = true := by rfl)
    (hline : (apos.endLine == cpos.line) = true := by rfl) (hs : starEach [e] X.env = (false, eval e X.env) :: starEach [] X.env := by rfl) (hplain : (backTo cpos (starEach [] X.env)).any (·.1) = false := by rfl) :
    XE B X Wx (.Call (.Attribute o "index" apos) [e] [] cpos) (rIndexT pa pb) := by
  obtain ⟨ta, hta, ea⟩ := ho.ex
  obtain ⟨tb, htb, eb⟩ := ha.ex
  refine ⟨_, pe_tm PySem.F.slot_tuple_index PySem.F.type_tuple_index (mt_idxT hr.units) hta (pa_cons htb pa_nil hs) hbase hfew hline hs hplain, fun S σ H G Q E k O q ke kx => ?_⟩
  refine ea S σ H G _ E _ O q (fun v H1 d f1 r1 q1 => ?_) kx
  cases d <;> first | exact False.elim q1 | skip
  have r1' := r1
  simp only [Rep] at r1'
  obtain ⟨p, vs, ob, rfl, n, hd, e1, z⟩ := r1'
  refine ⟨⟨p, ob, vs, rfl, hd, e1⟩, ?_⟩
  refine eb S σ H1 G _ E _ (O.fut f1) q1 (fun w H2 d2 f2 r2 q2 => ?_) (kx.fut f1)
  obtain ⟨h1, h2, j, h3, h4⟩ := q2
  exact ⟨B.W.at S, d2, _, w, j, rfl, h1, h2, r2, (r1.fut (O.wok.fut f1) f2).thaw, h3, ke _ H2 _ (f1.trans f2) mkI h4⟩
theorem xe_indexL {k : Nat} (hr : Room k X.A) (ho : XE B X Wx o pa) (ha : XE B X Wx e pb)
    (hbase : attributeBase o "index" X.env (eval o X.env) = eval o X.env := by rfl)
    (hfew : ((backTo cpos (starEach [e] X.env)).all (fun x => !x.1) && (backToKw cpos (keywordEach [] X.env)).all (fun x => x.1.isSome)
      && decide ([e].length + ([] : List Keyword).length + (if ([] : List Keyword).isEmpty then 0 else 1) < 30)) = true := by rfl)
    (hline : (apos.endLine == cpos.line) = true := by rfl) (hs : starEach [e] X.env = (false, eval e X.env) :: starEach [] X.env := by rfl) (hplain : (backTo cpos (starEach [] X.env)).any (·.1) = false := by rfl) :
    XE B X Wx (.Call (.Attribute o "index" apos) [e] [] cpos) (rIndexL pa pb) := by
  obtain ⟨ta, hta, ea⟩ := ho.ex
  obtain ⟨tb, htb, eb⟩ := ha.ex
  refine ⟨_, pe_bm PySem.F.plainAttrs_list PySem.F.slot_list_index PySem.F.type_list_index (mt_idxL hr.units) hta (pa_cons htb pa_nil hs) hbase hfew hline hs hplain, fun S σ H G Q E k O q ke kx => ?_⟩
  refine ea S σ H G _ E _ O q (fun v H1 d f1 r1 q1 => ?_) kx
  cases d <;> first | exact False.elim q1 | skip
  obtain ⟨p, vs, rfl, n, e1, z⟩ := repL r1
  refine ⟨.inl ⟨rfl, vs, SqL.of e1⟩, ?_⟩
  refine eb S σ H1 G _ E _ (O.fut f1) q1 (fun w H2 d2 f2 r2 q2 => ?_) (kx.fut f1)
  obtain ⟨h1, h2, j, h3, h4⟩ := q2
  exact ⟨B.W.at S, d2, _, w, j, rfl, h1, h2, r2, r1.fut (O.wok.fut f1) f2, h3, ke _ H2 _ (f1.trans f2) mkI h4⟩
/-! ### all, any of a list of bools -/
def bls : List D → Option (List Bool)
  | [] => some []
  | .bl b :: ds => (bls ds).map (b :: ·)
  | _ => none
def oAll : DFn := fun xs Q _ => match xs with
  | [.lst ds] => ∃ bs, bls ds = some bs ∧ Q (.bl (bs.all id))
  | _ => False
def oAny : DFn := fun xs Q _ => match xs with
  | [.lst ds] => ∃ bs, bls ds = some bs ∧ Q (.bl (bs.any id))
  | _ => False
theorem bls_rep {W : Wd} {H : Hp} : ∀ {ds : List D} {vs : List V} {bs : List Bool}, Reps W H ds vs → bls ds = some bs → vs = bs.map V.bl
  | [], vs, bs, h, e => by
    simp only [Reps] at h
    cases e
    exact h
  | d :: ds, vs, bs, h, e => by
    simp only [Reps] at h
    obtain ⟨v, r, rfl, h1, h2⟩ := h
    cases d <;> first | (cases e; done) | skip
    simp only [bls] at e
    cases hb : bls ds with
    | none => rw [hb] at e; cases e
    | some bs' =>
      rw [hb] at e
      cases e
      rw [repB h1, bls_rep h2 hb]
      rfl
theorem xf_all (hc : X.calm = true) : XF B X Wx (.builtin "all") oAll := ⟨_, cr_all hc, fun S H xs dxs Q E k w r q ke => by
  cases dxs with
  | nil => exact False.elim q
  | cons d ds =>
    cases ds with
    | cons d2 ds => cases d <;> exact False.elim q
    | nil =>
      obtain ⟨v, rfl, r9⟩ := reps1 r
      cases d <;> first | exact False.elim q | skip
      obtain ⟨a, vs, rfl, n, e1, z⟩ := repL r9
      obtain ⟨bs, hb, q⟩ := q
      have ev := bls_rep z hb
      subst ev
      exact ⟨a, bs, rfl, SqL.of e1, ke _ H _ (Fut.refl w) mkB q⟩⟩
theorem xf_any (hc : X.calm = true) : XF B X Wx (.builtin "any") oAny := ⟨_, cr_any hc, fun S H xs dxs Q E k w r q ke => by
  cases dxs with
  | nil => exact False.elim q
  | cons d ds =>
    cases ds with
    | cons d2 ds => cases d <;> exact False.elim q
    | nil =>
      obtain ⟨v, rfl, r9⟩ := reps1 r
      cases d <;> first | exact False.elim q | skip
      obtain ⟨a, vs, rfl, n, e1, z⟩ := repL r9
      obtain ⟨bs, hb, q⟩ := q
      have ev := bls_rep z hb
      subst ev
      exact ⟨a, bs, rfl, SqL.of e1, ke _ H _ (Fut.refl w) mkB q⟩⟩
/-! ### (*x, ..) -/
def rStar (a : XP) (b : XAp) : XAp := fun G Q E => a G (fun x => match x with
  | .tup ds => b G (fun xs => Q (ds ++ xs)) E
  | .lst ds => b G (fun xs => Q (ds ++ xs)) E
  | _ => False) E
theorem xa_star (ha : XE B X Wx e pa) (hr : XA B X Wx es pas) (hs : starEach (.Starred e p :: es) X.env = (true, eval e X.env) :: starEach es X.env := by rfl) : XA B X Wx (.Starred e p :: es) (rStar pa pas) := by
  obtain ⟨ta, ha, ea⟩ := ha.ex
  obtain ⟨tr, hr, er⟩ := hr.ex
  refine ⟨_, StX.pa_star ha hr hs, fun S σ H G Q E k O q ka kx => ea S σ H G _ E _ O q (fun v H1 d f r h => ?_) kx⟩
  cases d <;> first | exact False.elim h | skip
  · obtain ⟨a, vs, rfl, n, e1, z⟩ := repL r
    refine ⟨a, vs, rfl, .inr (SqL.of e1), er S σ H1 G _ E _ (O.fut f) h (fun us H2 ds f2 r2 h2 => ?_) (kx.fut f)⟩
    exact ka (vs ++ us) H2 _ (f.trans f2) ((z.fut (O.wok.fut f) f2).app r2) h2
  · obtain ⟨a, vs, rfl, n, e1, z⟩ := repT r
    refine ⟨a, vs, rfl, .inl (.inl e1), er S σ H1 G _ E _ (O.fut f) h (fun us H2 ds f2 r2 h2 => ?_) (kx.fut f)⟩
    exact ka (vs ++ us) H2 _ (f.trans f2) ((z.fut (O.wok.fut f) f2).app r2) h2
/-! ### the signs of a text -/
def signs (z : Str) : List D := z.cps.toList.map fun c => .str ⟨#[c]⟩
def rSigns (a : XP) : XAp := fun G Q E => a G (fun d => match d with
  | .str z => Q (signs z)
  | _ => False) E
theorem wk_str {W : Wd} {S : Addr → Prop} {H : Hp} {z : Str} : Wk W S H (Its z) (signs z) := fun S' H' pr w i => by
  have hl : z.cps.size = (signs z).length := by unfold signs; simp
  refine ⟨fun d ed => ?_, fun e => ?_⟩
  · have hi := (List.getElem?_eq_some_iff.mp ed).1
    refine ⟨by show i < z.cps.size; omega, fun x H2 ⟨e, c, ec, ex⟩ => ?_⟩
    subst e
    subst ex
    unfold signs at ed
    rw [List.getElem?_map] at ed
    have : z.cps.toList[i]? = some c := by rw [Array.getElem?_toList]; exact ec
    rw [this] at ed
    cases ed
    exact ⟨Fut.refl w, mkS⟩
  · show z.cps.size ≤ i
    omega
theorem xi_str {tg : Expr} (ha : XE B X Wx a pa) : XI B X Wx tg a (rSigns pa) := by
  obtain ⟨ta, ha, ea⟩ := ha.ex
  refine ⟨_, pi_str ha, fun S σ H G Q E R O q hR kx => ea S σ H G _ E _ O q (fun v H1 d f r h => ?_) kx⟩
  cases d <;> first | exact False.elim h | skip
  exact ⟨_, repS r, hR _ H1 _ f wk_str h⟩
end
end Pu
namespace Pu
open PySem PySem.Spec PyProof.Rows L2
open PySem.W (findIn kitOne kitAny clsIn typeIn subIn mroIn isFn)
/-! ## operators of own classes -/
theorem sub_bc {K : PySem.W.Frag} {a : String} {C : Addr} (ha : a ∈ builtinTys) : subIn K (.type a) (.ref C) = some false := by
  obtain ⟨k1, k2⟩ := mro_b a ha
  obtain ⟨l, hl⟩ := Option.isSome_iff_exists.mp k1
  unfold subIn
  dsimp only
  rw [hl]
  have : l.contains (Value.ref C) = false := by
    rw [Bool.eq_false_iff]
    intro z
    have := List.all_eq_true.mp (k2 l hl) _ (List.contains_iff_mem.mp z)
    cases this
  rw [Option.map_some, this]
theorem sub_cc {K : PySem.W.Frag} {C C' : Addr} (F : ClsF K C) (h : C ≠ C') : subIn K (.ref C) (.ref C') = some false := by
  obtain ⟨cd, h1, h2⟩ := F.ex
  unfold subIn mroIn
  dsimp only
  rw [h1, Option.bind_some, h2]
  simp
  intro z
  exact h z.symm
theorem nf_ok {K : PySem.W.Frag} {CT : Nat → Addr} {cs : List Nat} (F : ClsX K CT cs) {d : D} (o : okI cs d) {c : Nat} (hc : c ∈ cs) : PySem.W.notFirst K (CT c) (tyv CT d) = true := by
  unfold PySem.W.notFirst
  by_cases hi : ∃ c ds, d = .ins c ds
  · obtain ⟨c', ds, rfl⟩ := hi
    by_cases e : CT c' = CT c
    · show (Value.ref (CT c') == Value.ref (CT c) || _) = true
      rw [e]
      simp
    · show (Value.ref (CT c') == Value.ref (CT c) || (subIn K (.ref (CT c')) (.ref (CT c)) == some false)) = true
      rw [sub_cc (F.f c' o) e]
      simp
  · have hi' : ∀ c ds, d ≠ .ins c ds := fun c ds z => hi ⟨c, ds, z⟩
    have m := tyn_mem cs o hi'
    have e1 : tyv CT d = .type (tyn d) := by cases d <;> first | rfl | exact absurd rfl (hi' _ _)
    rw [e1, sub_bc m]
    simp
structure OEnt (P : Program) (w : World) (K : PySem.W.Frag) (mg : Str → Option Value) (base : Heap) (CT : Nat → Addr) (lay : Nat → List Str) (k : Nat) (nm : Str) (q : Nat × DFn) : Prop where
  ex : ∃ g fd ps, findIn K (.ref (CT q.1)) nm = some (some (.ref g)) ∧ isFn K (.ref g) = true ∧ FnOk P w K mg base (L2.CX P w) k g fd ps (spP CT lay q.2) ∧ Binds K fd ps []
/-- x op y, x of an own class: its method -/
def oOwn (tbl : List (Nat × DFn)) (cs : List Nat) : DOp := fun x y Q E => match x with
  | .ins c ds => okI cs y ∧ (match tbl.lookup c with
    | some F => F [.ins c ds, y] Q E
    | none => False)
  | _ => False
/-- x != y by its == -/
def oOwnNe (tbl : List (Nat × DFn)) (cs : List Nat) : DOp := fun x y Q E => match x with
  | .ins c ds => okI cs y ∧ (match tbl.lookup c with
    | some F => F [.ins c ds, y] (fun z => onB z fun b => Q (.bl (!b))) E
    | none => False)
  | _ => False
/-- own classes by o, else o' -/
def oSel (o o' : DOp) : DOp := fun x y Q E => match x with
  | .ins _ _ => o x y Q E
  | _ => o' x y Q E
section
variable {B : Bs} {X : Cx} {Wx : WX} {tbl : List (Nat × DFn)} {cs : List Nat} {k : Nat}
def rOwnT (B : Bs) (K : PySem.W.Frag) (tbl : List (Nat × DFn)) (Wx : WX) : L2.St → R2 := fun σ x y H Q => ∃ (q : Nat × DFn) (a dx : Addr) (fs : List (Str × V)) (tb : Value), q ∈ tbl ∧ x = .ref a ∧ H a = some (.ins (B.W.CT q.1) dx fs) ∧ TyX K H y tb ∧ PySem.W.notFirst K (B.W.CT q.1) tb = true ∧ spP B.W.CT B.W.lay q.2 [x, y] H Q (WE Wx σ)
theorem XO.sel {f : Value → Value → Sem Value} {o o' : DOp} (h : XO B X Wx f o) (h' : XO B X Wx f o') : XO B X Wx f (oSel o o') := (h.or h').imp fun x y Q E q => by
  cases x <;> first | exact .inr q | exact .inl q
theorem ev_own {Q' : (D → Prop) → D → Prop} {kk : VK → VK} (hk : ∀ {W : Wd} {H : Hp} {Q : D → Prop} {k : VK}, KE W H Q k → KE W H (Q' Q) (kk k)) (F : ClsX X.K B.W.CT cs) (hcs : ∀ q ∈ tbl, q.1 ∈ cs) :
    ∀ S σ H x y dx dy Q E k, WOk (B.W.at S) H → Rep (B.W.at S) H dx x → Rep (B.W.at S) H dy y → (match dx with | .ins c ds => okI cs dy ∧ (match tbl.lookup c with | some F => F [.ins c ds, dy] (Q' Q) E | none => False) | _ => False) → KE (B.W.at S) H Q k → KX (B.W.at S) σ H E Wx → rOwnT B X.K tbl Wx σ x y H (kk k) := by
  intro S σ H x y dx dy Q E k w r1 r2 q ke kx
  cases dx <;> first | exact False.elim q | skip
  rename_i c ds
  obtain ⟨oy, q⟩ := q
  cases hl : tbl.lookup c with
  | none => rw [hl] at q; exact q.elim
  | some G =>
    rw [hl] at q
    have hm := lookup_mem hl
    obtain ⟨a, dxx, vs, rfl, n, e1, l1, z1⟩ := repO r1
    exact ⟨(c, G), a, dxx, _, _, hm, rfl, e1, tyX (W := B.W.at S) F r2 oy, nf_ok F oy (hcs _ hm), B.W.L, S, [.ins c ds, dy], Q' Q, E, w, Reps.cons r1 (Reps.cons r2 Reps.nil), q, hk ke, kx⟩
theorem xo_cmpO {op : CmpOp} (hop : ∀ a b, compareOp op a b = richCompare op a b) (T : ∀ q ∈ tbl, OEnt X.prog X.w X.K X.mg X.base B.W.CT B.W.lay k (cmpInfo op).2.1 q) (F : ClsX X.K B.W.CT cs) (hcs : ∀ q ∈ tbl, q.1 ∈ cs) (hr : Room k X.A) (tk : Takes X Wx) : XO B X Wx (compareOp op) (oOwn tbl cs) := by
  refine ⟨rOwnT B X.K tbl Wx, fun pins s σ H x y v u Q I rx ry ⟨q, a, dx, fs, tb, hq, ex, ea, ty, nf, h⟩ => ?_, fun S σ H x y dx dy Q E k w r1 r2 q ke kx => ?_⟩
  · subst ex
    obtain rfl : v = Value.ref a := rx
    obtain ⟨g, fd, ps, hs, hf, Fn, b⟩ := (T q hq).ex
    obtain ⟨od, J⟩ := Pt.own_inst I ea
    obtain ⟨m, hF⟩ := I.fr
    obtain ⟨P, kx, pk, _⟩ := kit_of I ry ty
    rw [hop]
    exact PySem.W.cmp_K (tb := tb) hr.units0 hF I.ok.mod.kin J (kx.ty _ _ I.kIn pk) nf hs hf (Pt.run_back Fn hr b (passAt tk σ) I (Pt.vv2 (x := V.ref a) rfl ry) h)
  · exact ev_own (Q' := fun Q => Q) (kk := fun k => k) (fun h => h) F hcs S σ H x y dx dy Q E k w r1 r2 q ke kx
def bNot (k : VK) : VK := fun v H => ∃ b, v = .bl b ∧ k (.bl (!b)) H
theorem xo_neO (N : ∀ q ∈ tbl, Pt.NeOk X.K (B.W.CT q.1)) (T : ∀ q ∈ tbl, OEnt X.prog X.w X.K X.mg X.base B.W.CT B.W.lay k "__eq__" q) (F : ClsX X.K B.W.CT cs) (hcs : ∀ q ∈ tbl, q.1 ∈ cs) (hr : Room (k + 1) X.A) (tk : Takes X Wx) : XO B X Wx (compareOp .NotEq) (oOwnNe tbl cs) := by
  refine ⟨fun σ x y H Q => rOwnT B X.K tbl Wx σ x y H (bNot Q), fun pins s σ H x y v u Q I rx ry ⟨q, a, dx, fs, tb, hq, ex, ea, ty, nf, h⟩ => ?_, fun S σ H x y dx dy Q E k w r1 r2 q ke kx => ?_⟩
  · subst ex
    obtain rfl : v = Value.ref a := rx
    obtain ⟨g, fd, ps, hs, hf, Fn, b⟩ := (T q hq).ex
    obtain ⟨od, J⟩ := Pt.own_inst I ea
    have N1 := N q hq
    have one : wpAny (model X.prog X.w) X.A (tryCompare (.ref a) "__ne__" u) (fun r s' => ∃ v, r = some v ∧ EP X pins σ Q v s') X.xe s := by
      refine Pt.try_ne (by have := hr.units; omega) I.kIn J N1.ne N1.mo hs hf (wpAny_mono (Pt.run_in1 Fn hr b (passAt tk σ) I (Pt.vv2 (x := V.ref a) rfl ry) h) (fun v s' hv => ?_) fun _ _ e => e)
      obtain ⟨z, H', I', rz, bb, ez, q⟩ := hv
      subst ez
      obtain rfl : v = Value.bool bb := rz
      exact ⟨bb, rfl, _, rfl, .bl (!bb), H', I', rfl, q⟩
    obtain ⟨P, kx, pk, _⟩ := kit_of I ry ty
    have Tb := kx.ty (model X.prog X.w) s.heap I.kIn pk
    show wpAny _ _ (richCompare .NotEq (.ref a) u) _ _ _
    unfold richCompare
    simp only [oneThing_ref]
    refine wpAny_holding (wpAny_bind (wpAny_cRoomFor hr.units0 ?_))
    refine wpAny_bind (J.type.here (wpAny_bind (Tb.here ?_)))
    rw [cmpInfo_NotEq]
    dsimp only
    split
    · rename_i q'
      have e : subIn X.K tb (.ref (B.W.CT q.1)) = some false := by
        unfold PySem.W.notFirst at nf
        rcases Bool.or_eq_true_iff.mp nf with z | z
        · rw [beq_iff_eq.mp z] at q'
          simp at q'
        · exact beq_iff_eq.mp z
      refine wpAny_bind ((PySem.W.looks_subIn I.kIn e).here ?_)
      simp only [Bool.false_eq_true, if_false]
      refine wpAny_bind (wpAny_mono one (fun r s' z => ?_) fun _ _ e => e)
      obtain ⟨v, rfl, hq⟩ := z
      exact wpAny_pure hq
    · refine wpAny_bind (wpAny_pure ?_)
      simp only [Bool.false_eq_true, if_false]
      refine wpAny_bind (wpAny_mono one (fun r s' z => ?_) fun _ _ e => e)
      obtain ⟨v, rfl, hq⟩ := z
      exact wpAny_pure hq
  · refine ev_own (Q' := fun Q z => onB z fun b => Q (.bl (!b))) (kk := bNot) (fun {W H Q k} h => ?_) F hcs S σ H x y dx dy Q E k w r1 r2 q ke kx
    intro v H' d f r q
    obtain ⟨b, rfl, q⟩ := onB_elim q
    exact ⟨b, repB r, h _ _ _ f mkB q⟩
end
/-! ## enumerate -/
/-- the tuple at a as it stands, each item in a new pair -/
def IteT (K : PySem.W.Frag) (a : Addr) : It :=
  ⟨fun i H => ∃ (xs : List V) (x : V), SqT K H a xs ∧ xs[i]? = some x, fun i H v H' => ∃ T x, v = .ref T ∧ H T = none ∧ H' = upd H T (.tup [.int (i : Nat), x]) ∧ ∀ xs, SqT K H a xs → xs[i]? = some x, fun i H => ∃ xs : List V, SqT K H a xs ∧ xs.length ≤ i⟩
theorem turn_enumT {P : Program} {w : World} {K : PySem.W.Frag} {elts : List Expr} {kk : Nat} {tpos : Pos} (a e it : Addr) :
    Turn P w K (.Tuple elts kk tpos) (IteT K a) [e, it] e (fun i h => (∃ old, IsEnum h e it ((i : Nat) : Int) old) ∧ h.IsTupleIter it a i ∧ e ≠ it) where
  mem := by simp
  obj := fun i h st b hb => by
    obtain ⟨⟨old, he⟩, ⟨o, ho, hc, hd⟩, _⟩ := st
    have e' : b = e ∨ b = it := by simpa using hb
    rcases e' with z | z
    · rw [z]; exact ⟨_, he, fun v q => nomatch q⟩
    · rw [z]; exact ⟨o, ho, fun v q => by rw [hd] at q; cases q⟩
  keep := fun i h h' st k => let ⟨⟨old, he⟩, hi, hne⟩ := st; ⟨⟨old, k e (by simp) _ he⟩, hi.at fun o q => k it (by simp) o q, hne⟩
  item := by
    intro X hP hw hK hc i pins s σ H E I hf st hg
    subst hP hw hK
    obtain ⟨⟨old, he⟩, hit, hne⟩ := st
    obtain ⟨xs, x, hq, hx⟩ := hg
    obtain ⟨its, rv, p, hz⟩ := I.tuple hq
    obtain ⟨u, hu, ru⟩ := rv.get hx
    have hel : e < s.heap.objs.size := Heap.lt_size he
    have hil : it < s.heap.objs.size := by obtain ⟨_, q, _⟩ := hit; exact Heap.lt_size q
    have hat : a ≠ it := fun z => by
      obtain ⟨o1, q1, c1, _⟩ := p
      obtain ⟨o2, q2, c2, _⟩ := hit
      rw [z, q2] at q1
      cases q1
      rw [c1] at c2
      simp at c2
    have hae : e ≠ a := fun z => by
      obtain ⟨o1, q1, c1, _⟩ := p
      rw [← z, he] at q1
      cases q1
      have c2 : Value.type "enumerate" = Value.type "tuple" := c1
      simp at c2
    have hil2 : i < its.toArray.size := by
      have := (List.getElem?_eq_some_iff.mp hu).1
      simpa using this
    refine wpAny_pyNext_enum_itemD (Draws.tuple (A := X.A.in1) (I.ok.hd hc) it a hat its.toArray) he ⟨hit, p⟩ hil2 hne (by simp [hne, hae]) fun x' h' tk hx' ho hit' hT hsz hk => ?_
    have ex' : x' = u := by
      have : its.toArray[i]? = some u := by simpa using hu
      rw [this] at hx'
      exact (Option.some.inj hx').symm
    subst ex'
    refine ⟨_, rfl, wpAny_letOwnedTupleGo_enum (s := { s with heap := h', toks := tk + 1 }) ho fun h'' he' sb => ?_⟩
    have hT2 : h''.get? s.heap.objs.size = some { cls := .type "tuple", data := .seq #[.int i tk, x'] } := (sb.2 _ (Nat.ne_of_gt hel)).trans hT
    have new : ObjOk X.prog X.w (upd H s.heap.objs.size (.tup [.int (i : Nat), x])) h'' s.heap.objs.size (.tup [.int (i : Nat), x]) :=
      ⟨by show 2 ≤ sizeLine; decide, [.int i tk, x'], .cons ⟨_, rfl⟩ (.cons ru .nil), ⟨_, hT2, rfl, _, rfl⟩⟩
    have I1 : Inv X pins σ (upd H s.heap.objs.size (.tup [.int (i : Nat), x])) { s with heap := h'', toks := tk + 1 } :=
      I.turnedNew (ch := [e, it]) (fun b ob hb q => (sb.2 b (fun z => hb (by simp [z]))).trans (hk b ob (fun z => hb (by simp [z])) (fun z => hb (by simp [z])) q)) hf (Nat.le_refl _) new
    refine ⟨.ref s.heap.objs.size, _, I1, rfl, ⟨_, x, rfl, I.hok.fresh (Nat.le_refl _), rfl, fun ys hy => by rw [I.tuple_inj hy hq]; exact hx⟩, ⟨⟨x', ?_⟩, hit'.1.at fun o q => (sb.2 it (Ne.symm hne)).trans q, hne⟩, fun b hb => ?_⟩
    · have e1 : ((i + 1 : Nat) : Int) = (i : Int) + 1 := by omega
      rw [e1]; exact he'
    · have hb' : b < s.heap.objs.size := by
        have e' : b = e ∨ b = it := by simpa using hb
        rcases e' with z | z
        · rw [z]; exact hel
        · rw [z]; exact hil
      rw [upd_ne (Nat.ne_of_lt hb')]
      exact (hf b hb).1
  done := by
    intro X hP hw hK hc i pins s σ H E I hf st hg
    subst hP hw hK
    obtain ⟨⟨old, he⟩, hit, hne⟩ := st
    obtain ⟨xs, hq, hx⟩ := hg
    obtain ⟨its, rv, p, hz⟩ := I.tuple hq
    obtain ⟨f0, f1, f2, f3, f4, f5⟩ := hf it (by simp)
    have hl := rv.length
    have hx0 : its.toArray[i]? = none := by simp; omega
    have hT : s.TypeIs (.ref e) "enumerate" := ⟨_, he, rfl⟩
    unfold pyNext
    refine wpAny_bind (wpAny_attempt (wpAny_callSpecial?_slot (name := Str.ofString "__next__") hT F.slot_enumerate_next
      (wpAny_call_entry F.slot_enumerate_next hT F.entry_enumerate_next ?_ (F.args_enumerate_next_1 _))))
    show wpAny _ _ (field (.ref e) 2 >>= _) _ _ _
    refine wpAny_bind (wpAny_field he rfl (x := .ref it) rfl ?_)
    refine wpAny_bind (wpAny_nextOf_tuple_end (A := X.A.in1) (I.ok.hd hc) hit p hx0 fun h' x he' hx' => ?_)
    obtain ⟨o, ho, hc⟩ := hx'
    refine wpAny_bind (wpAny_isInstance (T := "StopIteration") (b := true) ⟨o, ho, hc⟩ isSubtype_stop ?_)
    exact wpAny_pure ⟨rfl, I.turned (t' := s.toks) (fun b o hb q => he' b o hb q) f0 f1 f3 f4 f5⟩
  self := fun A i s Q E st h => let ⟨⟨_, he⟩, _⟩ := st; wpAny_pyIter_enum he h
theorem meets_enum1 {v : Value} {o : Obj} {H : Heap → Prop} (B : Begins v o H) :
    Meets (Builtin.«enumerate.__new__» ⟨[.type "enumerate", v], []⟩) (fun _ R s => H s.heap ∧
      R (.ok (.ret (.ref (s.heap.push o).objs.size))) { s with heap := (s.heap.push o).push { cls := .type "enumerate", data := .fields #[.none, .bool false, .ref s.heap.objs.size, rawInt 0, .none, .none] } }) :=
  .of_wp fun prog w A R s h => by
    obtain ⟨hp, g, d, tk, os⟩ := s
    obtain ⟨h1, h⟩ := h
    have hsub := sub_enumerate
    have q1 : ∀ {A' : Around} {E : Value → Shared → Prop} {Q : Value → Shared → Prop}, Q (.ref hp.objs.size) ⟨hp.push o, g, d, tk, os⟩ → wpAny (model prog w) A' (pyIter v) Q E ⟨hp, g, d, tk, os⟩ :=
      fun q => B.iter prog w _ _ ⟨hp, g, d, tk, os⟩ _ h1 q
    wp_walk using q1
    refine wpAny_stack_any fun st => wpAny_pure ?_
    split
    · rename_i c _ _ _ _ _
      cases (c == Value.type "enumerate")
      · wp_walk using q1
        exact ⟨_, rfl, h⟩
      · wp_walk using q1
        exact ⟨_, rfl, h⟩
    · wp_walk using q1
      exact ⟨_, rfl, h⟩
section
variable {prog : Program} {w : World} {A : Around} {E : Value → Shared → Prop} {s : Shared}
theorem enum_one {v : Value} {o : Obj} {H : Heap → Prop} {Q : Value → Shared → Prop} (B : Begins v o H) (h1 : H s.heap)
    (h : ∀ h', IsEnum h' (s.heap.objs.size + 1) s.heap.objs.size 0 .none → h'.get? s.heap.objs.size = some o → (∀ b o, s.heap.get? b = some o → h'.get? b = some o) → Q (.ref (s.heap.objs.size + 1)) { s with heap := h' }) :
    wpAny (model prog w) A (call (.type "enumerate") [v]) Q E s := by
  refine callType_new F.called_enumerate (by decide) (F.typeCall_enumerate_1 _) (F.newCall_enumerate_1 _) (fun obj => F.args_object_init_2 obj _) F.entry_enumerate_new (meets_enum1 B) ⟨h1, ?_⟩
  have hz : (s.heap.push o).objs.size = s.heap.objs.size + 1 := Heap.size_push ..
  show _ ∧ _
  rw [hz]
  have he : IsEnum ((s.heap.push o).push { cls := .type "enumerate", data := .fields #[.none, .bool false, .ref s.heap.objs.size, rawInt 0, .none, .none] }) (s.heap.objs.size + 1) s.heap.objs.size 0 .none := by
    have := Heap.get?_push_size (s.heap.push o) (o := { cls := .type "enumerate", data := .fields #[.none, .bool false, .ref s.heap.objs.size, rawInt 0, .none, .none] }) rfl
    rw [hz] at this
    exact this
  exact ⟨⟨_, he, rfl⟩, h _ he (Heap.get?_push_of_some _ (Heap.get?_push_size _ B.free)) fun b o x => Heap.get?_push_of_some _ (Heap.get?_push_of_some _ x)⟩
end
def iEnumT (K : PySem.W.Frag) (ta : TA) : TI := fun σ H R => ta σ H fun vs H1 => (∃ a xs, vs = [.ref a] ∧ SqT K H1 a xs ∧ R (IteT K a) H1) ∨ (∃ a xs, vs = [.ref a] ∧ SqL K H1 a xs ∧ R (Ite K a) H1)
theorem pi_enumT {X : Cx} {e : Expr} {ta : TA} {p pos tpos : Pos} {elts : List Expr} {kk : Nat} (hg : Gl X "enumerate") (hm : X.mg "enumerate" = none) (ha : PA X [e] ta) (hs : starEach [e] X.env = [(false, eval e X.env)] := by rfl) :
    PI X (.Tuple elts kk tpos) (.Call (.Name "enumerate" p) [e] [] pos) (iEnumT X.K ta) := by
  refine ⟨fun pins s σ H R I h => ?_⟩
  refine Call_ (ld_blt I hg hm boot_enumerate (PyProof.Rows.callWith_type1 (thn (ha.run pos pins s σ H _ I h) fun us s1 ⟨vs, H1, I1, r1, q1⟩ => ?_) hs rfl))
  rcases q1 with ⟨a, xs, ex, hq, q⟩ | ⟨a, xs, ex, hq, q⟩
  · subst ex
    cases r1 with
    | cons r rr =>
      cases rr
      cases r
      obtain ⟨its, rv, p', hz⟩ := I1.tuple hq
      refine enum_one (begins_tuple a its.toArray) p' fun h' he hit hk => wpAny_pyIter_enum he ?_
      have I2 : Inv X pins σ H1 { s1 with heap := h' } := I1.kept (t' := s1.toks) hk
      refine ⟨s1.heap.objs.size + 1, [s1.heap.objs.size + 1, s1.heap.objs.size], _, _, H1, rfl, I2, turn_enumT a (s1.heap.objs.size + 1) s1.heap.objs.size, ⟨⟨.none, he⟩, ⟨_, hit, rfl, rfl⟩, Nat.succ_ne_self _⟩, fun b hb => ?_, q⟩
      have e' : b = s1.heap.objs.size + 1 ∨ b = s1.heap.objs.size := by simpa using hb
      have hle : s1.heap.objs.size ≤ b := by
        rcases e' with z | z
        · rw [z]; exact Nat.le_add_right _ _
        · rw [z]; exact Nat.le_refl _
      exact I1.fpOk hle (I1.hok.fresh hle)
  · subst ex
    cases r1 with
    | cons r rr =>
      cases rr
      cases r
      obtain ⟨its, rv, p', hz⟩ := I1.list hq
      refine enum_one (begins_list a its.toArray) p'.isList fun h' he hit hk => wpAny_pyIter_enum he ?_
      have I2 : Inv X pins σ H1 { s1 with heap := h' } := I1.kept (t' := s1.toks) hk
      refine ⟨s1.heap.objs.size + 1, [s1.heap.objs.size + 1, s1.heap.objs.size], _, _, H1, rfl, I2, turn_enum a (s1.heap.objs.size + 1) s1.heap.objs.size, ⟨⟨.none, he⟩, ⟨_, hit, rfl, rfl⟩, Nat.succ_ne_self _⟩, fun b hb => ?_, q⟩
      have e' : b = s1.heap.objs.size + 1 ∨ b = s1.heap.objs.size := by simpa using hb
      have hle : s1.heap.objs.size ≤ b := by
        rcases e' with z | z
        · rw [z]; exact Nat.le_add_right _ _
        · rw [z]; exact Nat.le_refl _
      exact I1.fpOk hle (I1.hok.fresh hle)
def enumD : Nat → List D → List D
  | _, [] => []
  | i, d :: ds => .tup [.int (i : Int), d] :: enumD (i + 1) ds
theorem enumD_get : ∀ {ds : List D} {i j : Nat}, (enumD i ds)[j]? = (ds[j]?).map fun d => .tup [.int ((i + j : Nat) : Int), d]
  | [], i, j => by simp [enumD]
  | d :: ds, i, 0 => by simp [enumD]
  | d :: ds, i, j + 1 => by
    simp only [enumD, List.getElem?_cons_succ]
    rw [enumD_get]
    have : i + 1 + j = i + (j + 1) := by omega
    rw [this]
theorem enumD_len : ∀ {ds : List D} {i : Nat}, (enumD i ds).length = ds.length
  | [], i => rfl
  | d :: ds, i => by simp [enumD, enumD_len]
theorem wk_enumL {W : Wd} {K : PySem.W.Frag} {S : Addr → Prop} {H : Hp} {p : Addr} {vs : List V} {ds : List D} (n : ¬ S p) (e : H p = some (.lst vs)) (r : Reps (W.at S) H ds vs) : Wk W S H (Ite K p) (enumD 0 ds) := by
  intro S' H' pr w' i
  obtain ⟨e', n'⟩ := pr p _ n e
  have r' : Reps (W.at S') H' ds vs := Reps.mono (W := W.at S) (S := S') pr ds vs r
  refine ⟨fun d ed => ?_, fun hi => ⟨vs, SqL.of e', by rw [r.len, hi, enumD_len]; exact Nat.le_refl _⟩⟩
  rw [enumD_get] at ed
  cases hd : ds[i]? with
  | none => rw [hd] at ed; cases ed
  | some d0 =>
    rw [hd] at ed
    cases ed
    obtain ⟨v, ev, rv⟩ := r'.get hd
    refine ⟨⟨vs, v, SqL.of e', ev⟩, fun x H2 ⟨T, y, ex, hT, eH, hy⟩ => ?_⟩
    subst ex
    subst eH
    have := hy vs (SqL.of e')
    rw [ev] at this
    cases this
    have f := fut_new (o := .tup [.int (i : Nat), v]) w' hT
    exact ⟨f, mkT (w'.new hT) (.inl upd_same) (Reps.cons (by rw [Nat.zero_add]; exact mkI) (Reps.cons (rv.fut w' f) Reps.nil))⟩
theorem wk_enumT {W : Wd} {K : PySem.W.Frag} {S : Addr → Prop} {H : Hp} {p : Addr} {vs : List V} {ds : List D} (n : ¬ S p) (e : Rd H p (.tup vs)) (r : Reps (W.at S) H ds vs) : Wk W S H (IteT K p) (enumD 0 ds) := by
  intro S' H' pr w' i
  have e' : Rd H' p (.tup vs) := e.imp (fun e => (pr p _ n e).1) (fun ⟨o, e⟩ => ⟨o, (pr p _ n e).1⟩)
  have r' : Reps (W.at S') H' ds vs := Reps.mono (W := W.at S) (S := S') pr ds vs r
  refine ⟨fun d ed => ?_, fun hi => ⟨vs, .inl e', by rw [r.len, hi, enumD_len]; exact Nat.le_refl _⟩⟩
  rw [enumD_get] at ed
  cases hd : ds[i]? with
  | none => rw [hd] at ed; cases ed
  | some d0 =>
    rw [hd] at ed
    cases ed
    obtain ⟨v, ev, rv⟩ := r'.get hd
    refine ⟨⟨vs, v, .inl e', ev⟩, fun x H2 ⟨T, y, ex, hT, eH, hy⟩ => ?_⟩
    subst ex
    subst eH
    have := hy vs (.inl e')
    rw [ev] at this
    cases this
    have f := fut_new (o := .tup [.int (i : Nat), v]) w' hT
    exact ⟨f, mkT (w'.new hT) (.inl upd_same) (Reps.cons (by rw [Nat.zero_add]; exact mkI) (Reps.cons (rv.fut w' f) Reps.nil))⟩
def rEnum (a : XP) : XAp := fun G Q E => a G (fun d => match d with
  | .lst ds => Q (enumD 0 ds)
  | .tup ds => Q (enumD 0 ds)
  | _ => False) E
theorem xi_enum {B : Bs} {X : Cx} {Wx : WX} {a : Expr} {pa : XP} {p pos tpos : Pos} {elts : List Expr} {kk : Nat} (hm : X.mg "enumerate" = none) (ha : XE B X Wx a pa) (hg : Gl X "enumerate" := by rfl) (hs : starEach [a] X.env = (false, eval a X.env) :: starEach [] X.env := by rfl) (hs2 : starEach [a] X.env = [(false, eval a X.env)] := by rfl) :
    XI B X Wx (.Tuple elts kk tpos) (.Call (.Name "enumerate" p) [a] [] pos) (rEnum pa) := by
  obtain ⟨ta, ha, ea⟩ := ha.ex
  refine ⟨_, pi_enumT hg hm (pa_cons ha pa_nil hs) hs2, fun S σ H G Q E R O q hR kx => ea S σ H G _ E _ O q (fun v H1 d f r h => ?_) kx⟩
  cases d <;> first | exact False.elim h | skip
  · obtain ⟨p, vs, rfl, n, e1, z⟩ := repL r
    exact .inr ⟨p, vs, rfl, SqL.of e1, hR _ H1 _ f (wk_enumL n e1 z) h⟩
  · obtain ⟨p, vs, rfl, n, e1, z⟩ := repT r
    exact .inl ⟨p, vs, rfl, .inl e1, hR _ H1 _ f (wk_enumT n e1 z) h⟩
end Pu
namespace Pu
open PySem PySem.Spec PyProof.Rows L2
/-! ## a set of texts: how many -/
def ddS (acc : List Str) (x : Str) : List Str := if acc.any (· == x) then acc else acc ++ [x]
def dd (l : List Str) : List Str := l.foldl ddS []
theorem dd_snoc (l : List Str) (x : Str) : dd (l ++ [x]) = ddS (dd l) x := by unfold dd; rw [List.foldl_append]; rfl
theorem ddS_any (acc : List Str) (x y : Str) : (ddS acc x).any (· == y) = (acc.any (· == y) || decide (y = x)) := by
  unfold ddS
  split
  · rename_i h
    by_cases e : y = x
    · subst e
      rw [h]
      simp
    · simp [e]
  · rw [List.any_append]
    by_cases e : y = x
    · subst e
      simp
    · have : (x == y) = false := by rw [beq_eq_false_iff_ne]; exact fun z => e z.symm
      simp [this, e]
theorem dd_any : ∀ (l : List Str) (y : Str), (dd l).any (· == y) = l.any (· == y) := by
  intro l
  have gen : ∀ (l acc : List Str) (y : Str), (l.foldl ddS acc).any (· == y) = (acc.any (· == y) || l.any (· == y)) := by
    intro l
    induction l with
    | nil => intro acc y; simp
    | cons x l ih =>
      intro acc y
      rw [List.foldl_cons, ih, ddS_any, List.any_cons, Bool.or_assoc]
      congr 1
      have : decide (y = x) = (x == y) := by
        by_cases e : y = x
        · subst e; simp
        · have : (x == y) = false := by rw [beq_eq_false_iff_ne]; exact fun z => e z.symm
          rw [this]; simp [e]
      rw [this]
  intro y
  unfold dd
  rw [gen l [] y]
  simp
theorem dd_len_snoc (l : List Str) (x : Str) : (dd (l ++ [x])).length = if l.any (· == x) then (dd l).length else (dd l).length + 1 := by
  rw [dd_snoc]
  unfold ddS
  rw [dd_any]
  split <;> simp
theorem dd_le : ∀ l : List Str, (dd l).length ≤ l.length := by
  have gen : ∀ (l acc : List Str), (l.foldl ddS acc).length ≤ acc.length + l.length := by
    intro l
    induction l with
    | nil => intro acc; simp
    | cons x l ih =>
      intro acc
      rw [List.foldl_cons, List.length_cons]
      have := ih (ddS acc x)
      have h2 : (ddS acc x).length ≤ acc.length + 1 := by unfold ddS; split <;> simp
      omega
  intro l
  have := gen l []
  unfold dd
  simpa using this
section
variable {prog : Program} {w : World} {A : Around} {R : Result → Shared → Prop} {I : Addr} {fp wr : List Addr} {G : Array GenState → Array GenState → Prop} {n : Nat} {P : Nat → Value → Prop} {St : Nat → Shared → Prop}
abbrev SetS (prog : Program) (w : World) (h : Heap) (S : Addr) (l : List Str) : Prop := h.SetOf (PySem.strKind prog w) S (fun k => l.any (· == k)) (dd l).length
theorem add_loop (W : WalksS prog w A.in1 I fp wr G n P St) (S : Addr) (hSf : S ∉ fp) (xs : List Str) (hsz : xs.length = n) (hb : n + 1 < scanBound) (hval : ∀ i v, P i v → ∃ t, v = .str (xs.getD i Str.empty) t) :
    ∀ (k i : Nat) (s : Shared), n - i = k → i ≤ n → St i s → SetS prog w s.heap S (xs.take i) → (∀ s', Moved (S :: wr) G s s' → SetS prog w s'.heap S xs → R (.ok (.ret .none)) s') →
      codeAny (model prog w) A (.builtin "set.update.loop" ⟨[.ref S, .ref I], []⟩) R s := by
  have hSw : S ∉ wr := fun h => hSf (W.sub _ h)
  have hsub : ∀ b ∈ wr, b ∈ S :: wr := fun b hb => List.mem_cons_of_mem _ hb
  have stay : ∀ {s s' : Shared} {l : List Str}, SetS prog w s.heap S l → Moved wr G s s' → SetS prog w s'.heap S l := fun {s s' l} ⟨o, es, ep, t, ho, rest⟩ hm => ⟨o, es, ep, t, hm.heap S _ hSw ho, rest⟩
  intro k
  induction k with
  | zero =>
    intro i s hk hi hst hS hR
    obtain rfl : i = n := by omega
    refine codeAny_builtin PyProof.Rows.F.entry_set_update_loop ?_
    rw [Around.under_plainId PyProof.Rows.F.plain_set_update_loop _]
    show wpAny _ A.in1 (pyNext (.ref I) >>= _) _ _ s
    refine wpAny_bind (W.done s _ _ hst fun s' hm => ?_)
    rw [← hsz, List.take_length] at hS
    exact wpAny_pure (hR s' (hm.mono hsub) (stay hS hm))
  | succ k ih =>
    intro i s hk hi hst hS hR
    have hlt : i < n := by omega
    refine codeAny_builtin PyProof.Rows.F.entry_set_update_loop ?_
    rw [Around.under_plainId PyProof.Rows.F.plain_set_update_loop _]
    show wpAny _ A.in1 (pyNext (.ref I) >>= _) _ _ s
    refine wpAny_bind (W.item i s _ _ hlt hst fun v s' hP hst' hm => ?_)
    obtain ⟨t, rfl⟩ := hval i v hP
    have hS' := stay hS hm
    have hx : xs.getD i Str.empty = xs[i]'(by omega) := by rw [List.getD_eq_getElem?_getD, List.getElem?_eq_getElem (by omega)]; rfl
    have htk : xs.take (i + 1) = xs.take i ++ [xs.getD i Str.empty] := by rw [hx, List.take_succ_eq_append_getElem (by omega)]
    show wpAny _ A.in1 (holding [Value.str (xs.getD i Str.empty) t] (setAdd S (.str (xs.getD i Str.empty) t)) >>= _) _ _ s'
    refine wpAny_bind (wpAny_holding ?_)
    unfold setAdd
    refine wpAny_holding (wpAny_bind ((PySem.strKind prog w).pyHash (k := xs.getD i Str.empty) (strKind_is _ _ _ _) ?_))
    have hroom : (dd (xs.take i)).length + 1 < scanBound := by
      have h1 := dd_le (xs.take i)
      have h2 : (xs.take i).length ≤ n := by rw [List.length_take]; omega
      omega
    refine wpAny_setAddHashed_of (knd := PySem.strKind prog w) (s := { s' with toks := s'.toks + 1 }) (strKind_is _ _ _ _) rfl hS' hroom fun h' hsb hS2 => ?_
    have hSi : SetS prog w h' S (xs.take (i + 1)) := by
      rw [htk]
      refine SetOf_congr hS2 (fun k' => ?_) ?_
      · rw [List.any_append]
        congr 1
        by_cases e : k' = xs.getD i Str.empty
        · rw [e]; simp
        · have : (xs.getD i Str.empty == k') = false := by rw [beq_eq_false_iff_ne]; exact fun z => e z.symm
          simp only [List.any_cons, List.any_nil, this, e]
          rfl
      · rw [dd_len_snoc]
    refine wpAny_pure ⟨plainId_quiet PyProof.Rows.F.plain_set_update_loop _, ih (i + 1) _ (by omega) hlt (W.frame _ s' _ _ hst' (Nat.le_succ _) fun b hb o e => ?_) hSi fun s'' hm'' hS'' => ?_⟩
    · rw [hsb.2 b (fun h : b = S => hSf (by rw [← h]; exact hb))]
      exact e
    · refine hR s'' (Moved.trans W.gtrans ((hm.mono hsub).then_heap (Nat.le_succ _) fun b o hb e => ?_) hm'') hS''
      rw [hsb.2 b (fun h : b = S => hb (by rw [h]; exact List.mem_cons_self))]
      exact e
end
section
variable {prog : Program} {w : World} {A : Around} {E : Value → Shared → Prop} {s : Shared}
abbrev noSet (led : Bool) : Obj := { cls := .type "set", dict := none, data := .set #[] 0 (.fresh 0 0 led) }
/-- set(a): the new set, then its __init__ -/
theorem set_call {a : Value} {Q : Value → Shared → Prop}
    (h : ∀ led, codeAny (model prog w) A.in1 (.call (.builtin "set.__init__") ⟨[.ref s.heap.objs.size, a], []⟩) (wants (fun r s2 => r = .none ∧ Q (.ref s.heap.objs.size) s2) E) { s with heap := s.heap.push (noSet led) }) :
    wpAny (model prog w) A (call (.type "set") [a]) Q E s := by
  obtain ⟨c, tl, hmro⟩ := PySem.F.called_set.mro
  have hmade := PySem.F.called_set.made
  have hsub := PySem.F.called_set.sub
  have h1 := PySem.F.called_set.notType
  have h2 := PySem.F.called_set.canCreate
  have hct := PySem.F.typeCall_set_1 a
  refine wpAny_call (codeAny_of_tree ?_)
  show wpAny _ _ (callAny (.type "set") _) _ _ _
  refine wpAny_pure ⟨Code.quiet_builtin _ (by decide +kernel), codeAny_builtin PySem.F.entry_type_call ?_⟩
  rw [Around.under_plain (weight_type_call_type "set" [a] []) rfl]
  repeat (any_goals (first | assumption | wp_step))
  refine codeAny_mono (code_set_new_1 a (E := E) (Q₁ := fun obj s₁ => ∃ led : Bool, obj = .ref s.heap.objs.size ∧ s₁ = { s with heap := s.heap.push (noSet led) }) fun led => ⟨led, rfl, rfl⟩) fun r s₁ hr => ?_
  cases r with
  | error e => exact hr
  | ok fl =>
    cases fl with
    | ret obj =>
      obtain ⟨led, rfl, rfl⟩ := hr
      have hS : (s.heap.push (noSet led)).get? s.heap.objs.size = some (noSet led) := Heap.get?_push_size _ rfl
      have hT : Shared.TypeIs { s with heap := s.heap.push (noSet led) } (.ref s.heap.objs.size) "set" := ⟨_, hS, rfl⟩
      have hli := PySem.F.called_set.init.lookup
      have hbi := PySem.F.called_set.init.bind (.ref s.heap.objs.size)
      repeat (any_goals (first | assumption | wp_step))
      refine codeAny_mono (h led) fun r₂ s₂ hr₂ => ?_
      cases r₂ with
      | error e => exact hr₂
      | ok fl₂ =>
        cases fl₂ with
        | ret r =>
          obtain ⟨rfl, hq⟩ := hr₂
          repeat (any_goals (first | assumption | wp_step))
        | _ => exact hr₂.elim
    | _ => exact hr.elim
theorem set_strs {T : String} {l : Addr} {o io : Obj} {items : Array Value} {nl : Nat} {xs : List Str} {Hl : Heap → Prop} {St : Addr → Nat → Heap → Prop} {Q : Value → Shared → Prop} (hh : A.handled = none) (hol : s.heap.get? l = some o) (hcl : o.cls = .type T) (hdl : o.data = .seq items nl)
    (hsls : isSubtype (.type T) (.type "set") = pure false) (hslf : isSubtype (.type T) (.type "frozenset") = pure false) (hne : (Value.type T == Value.type "dict") = false) (B : Begins (.ref l) io Hl) (hl : Hl s.heap)
    (W : ∀ (A : Around) (I : Addr), A.handled = none → l ≠ I → Walks prog w A I [I, l] [I] items.size (fun i v => items[i]? = some v) (St I)) (st0 : ∀ (I : Addr) (h' : Heap), h'.get? I = some io → h'.get? l = some o → St I 0 h')
    (hi : PyProof.Rows.StrsAre items.toList xs) (hb : xs.length + 1 < scanBound)
    (h : ∀ (h' : Heap) (tk : Nat), SetS prog w h' s.heap.objs.size xs → (∀ b o, b < s.heap.objs.size → s.heap.get? b = some o → h'.get? b = some o) → Q (.ref s.heap.objs.size) { s with heap := h', toks := tk }) :
    wpAny (model prog w) A (call (.type "set") [.ref l]) Q E s := by
  refine set_call fun led => ?_
  have hS : (s.heap.push (noSet led)).get? s.heap.objs.size = some (noSet led) := Heap.get?_push_size _ rfl
  have hT : Shared.TypeIs { s with heap := s.heap.push (noSet led) } (.ref s.heap.objs.size) "set" := ⟨_, hS, rfl⟩
  refine codeAny_call_builtin PySem.F.called_set.init.plain PySem.F.entry_set_init (check_set_init_1 hT ?_)
  obtain ⟨ocls, odict, odata, oslots⟩ := o
  simp only at hcl hdl
  subst hcl
  subst hdl
  have hol' : (s.heap.push (noSet led)).get? l = some { cls := .type T, dict := odict, data := .seq items nl, slots := oslots } := Heap.get?_push_of_some _ hol
  have hl1 : Hl (s.heap.push (noSet led)) := B.keeps _ _ hl fun b o e => Heap.get?_push_of_some _ e
  unfold Builtin.«set.__init__» noKeywords Builtin.Frozenset.updateFrom
  generalize hPI : pyIter = PI
  wp_walk
  subst hPI
  refine B.iter prog w _ _ _ _ hl1 ?_
  refine wpAny_bind (wpAny_runValue ?_)
  have hlS : l < s.heap.objs.size := Heap.lt_size hol
  have hz : (s.heap.push (noSet led)).objs.size = s.heap.objs.size + 1 := Heap.size_push ..
  have hh3 : A.in1.in1.in1.handled = none := by simp [hh]
  have hneI : l ≠ (s.heap.push (noSet led)).objs.size := by rw [hz]; exact Nat.ne_of_lt (Nat.lt_succ_of_lt hlS)
  have hSf : s.heap.objs.size ∉ [(s.heap.push (noSet led)).objs.size, l] := by
    rw [hz]
    simp only [List.mem_cons, List.not_mem_nil, or_false, not_or]
    exact ⟨Nat.ne_of_lt (Nat.lt_succ_self _), Nat.ne_of_gt hlS⟩
  have hsz : xs.length = items.size := by rw [← StrsAre.len_eq hi, Array.length_toList]
  have hval : ∀ (i : Nat) (v : Value), items[i]? = some v → ∃ t, v = .str (xs.getD i Str.empty) t := fun i v hv => SS.strs_at hi i v (by rw [Array.getElem?_toList]; exact hv)
  refine add_loop ((W _ _ hh3 hneI).toS) s.heap.objs.size hSf xs hsz (by rw [← hsz]; exact hb) hval (items.size - 0) 0 _ (by omega) (Nat.zero_le _)
    (st0 _ _ (Heap.get?_push_size _ B.free) (Heap.get?_push_of_some _ hol')) ?_ ?_
  · exact SetOf_congr ((PyProof.Rows.setObjOf_fresh (knd := PySem.strKind prog w) led).setOf (Heap.get?_push_of_some _ hS) (by unfold scanBound; omega)) (fun _ => rfl) rfl
  · intro s' hm hS'
    obtain ⟨h', g', d', tk', os'⟩ := s'
    obtain rfl : g' = s.gens := hm.gens
    obtain rfl : d' = s.drawn := hm.drawn
    obtain rfl : os' = s.os := hm.os
    refine wpAny_pure ?_
    show wpAny _ _ (ret Value.none) _ _ _
    refine wpAny_pure ⟨rfl, h h' tk' hS' fun b o hb e => ?_⟩
    have hb1 : b ≠ s.heap.objs.size := Nat.ne_of_lt hb
    have hb2 : b ≠ (s.heap.push (noSet led)).objs.size := by rw [hz]; exact Nat.ne_of_lt (Nat.lt_succ_of_lt hb)
    exact hm.heap b o (by simp only [List.mem_cons, List.not_mem_nil, or_false, not_or]; exact ⟨hb1, hb2⟩) (Heap.get?_push_of_some _ (Heap.get?_push_of_some _ e))
end
end Pu
namespace Pu
open PySem PySem.Spec PyProof.Rows L2
def strsD : List D → Option (List Str)
  | [] => some []
  | .str x :: ds => (strsD ds).map (x :: ·)
  | _ => none
theorem strs_rep {W : Wd} {H : Hp} : ∀ {ds : List D} {vs : List V} {xs : List Str}, Reps W H ds vs → strsD ds = some xs → vs = xs.map V.str
  | [], vs, xs, h, e => by
    simp only [Reps] at h
    cases e
    exact h
  | d :: ds, vs, xs, h, e => by
    simp only [Reps] at h
    obtain ⟨v, r, rfl, h1, h2⟩ := h
    cases d <;> first | (cases e; done) | skip
    simp only [strsD] at e
    cases hb : strsD ds with
    | none => rw [hb] at e; cases e
    | some xs' =>
      rw [hb] at e
      cases e
      rw [repS h1, strs_rep h2 hb]
      rfl
theorem strsD_map (xs : List Str) : strsD (xs.map D.str) = some xs := by
  induction xs with
  | nil => rfl
  | cons x xs ih => simp only [List.map_cons, strsD, ih]; rfl
/-- len(set(x)), x texts -/
def rLenSet (a : XP) : XP := fun G Q E => a G (fun d => match d with
  | .lst ds => ∃ xs, strsD ds = some xs ∧ xs.length ≤ 1000 ∧ Q (.int ((dd xs).length : Int))
  | .tup ds => ∃ xs, strsD ds = some xs ∧ xs.length ≤ 1000 ∧ Q (.int ((dd xs).length : Int))
  | _ => False) E
section
variable {B : Bs} {X : Cx} {Wx : WX} {a b c e o : Expr} {es : List Expr} {pa pb pc : XP} {p p2 q pos : Pos} {pas : XAp} {qt : XTp}
def tLenSetS (K : PySem.W.Frag) (ta : TE) : TE := fun σ H Q => ta σ H fun x H1 => ∃ l, ∃ xs : List Str, x = .ref l ∧ (SqL K H1 l (xs.map V.str) ∨ SqT K H1 l (xs.map V.str)) ∧ xs.length ≤ 1000 ∧ Q (.int ((dd xs).length : Int)) H1
theorem pe_lenSetS {ta : TE} (hc : X.calm = true) (hg : Gl X "len") (hm : X.mg "len" = none) (hg2 : Gl X "set") (hm2 : X.mg "set" = none) (ha : PE X a ta)
    (na : starEach [a] X.env = (false, eval a X.env) :: starEach [] X.env := by rfl) : PE X (.Call (.Name "len" p) [.Call (.Name "set" p2) [a] [] q] [] pos) (tLenSetS X.K ta) := by
  refine ⟨fun pins s σ H Q I h => ?_⟩
  refine Call_ (ld_blt I hg hm boot_len (PyProof.Rows.callWith_builtin1 (PyProof.Rows.args_cons ?_ rfl) rfl rfl))
  refine Call_ (ld_blt I hg2 hm2 boot_set (PyProof.Rows.callWith_type1 (PyProof.Rows.args_cons (thn (ha.run pins s σ H _ I h) fun v s1 ⟨x, H1, I1, r1, q1⟩ => PyProof.Rows.args_nil ?_) na) na rfl))
  obtain ⟨l, xs, rfl, hq, hn, q1⟩ := q1
  cases r1
  have hb : xs.length + 1 < scanBound := by unfold scanBound; omega
  have fin : ∀ (h' : Heap) (tk : Nat), SetS X.prog X.w h' s1.heap.objs.size xs → (∀ b o, b < s1.heap.objs.size → s1.heap.get? b = some o → h'.get? b = some o) →
      wpAny (model X.prog X.w) X.A (spliced (backTo pos (starEach [] X.env))) (fun vs s₂ => wpAny (model X.prog X.w) X.A (call (.builtin "len") (Value.ref s1.heap.objs.size :: vs)) (EP X pins σ Q) X.xe s₂) X.xe { s1 with heap := h', toks := tk } := fun h' tk hS hk => by
    refine PyProof.Rows.args_nil ?_
    obtain ⟨o, es, ep, t, ho, hex, hd, _, _, _, hf, hn2⟩ := hS
    have I2 : Inv X pins σ H1 { s1 with heap := h', toks := tk } := I1.kept fun b o e => hk b o (Heap.lt_size e) e
    have := dd_le xs
    exact call_len_set ho hex hd hf (by rw [hn2]; omega) ⟨.int _, H1, I2.tok _, ⟨_, by rw [hn2]⟩, q1⟩
  rcases hq with hq | hq
  · obtain ⟨its, r, pl, hz⟩ := I1.list hq
    obtain ⟨o, ho, hc', n, hd⟩ := pl.isList
    exact set_strs (St := fun I i h => h.IsListIter I l i ∧ h.IsList l its.toArray) (I1.ok.hd hc) ho hc' hd PySem.F.sub_list_set PySem.F.sub_list_frozenset (by decide) (begins_list l its.toArray) pl.isList (fun A I hh hne => Walks.list hh I l hne its.toArray) (fun I h' e1 e2 => ⟨⟨_, e1, rfl, rfl⟩, ⟨o, e2, hc', n, hd⟩⟩) (by simpa using strsAre_of r) hb fin
  · obtain ⟨its, r, pl, hz⟩ := I1.tuple hq
    obtain ⟨o, ho, hc', n, hd⟩ := pl
    exact set_strs (St := fun I i h => h.IsTupleIter I l i ∧ h.IsTuple l its.toArray) (I1.ok.hd hc) ho hc' hd PySem.F.sub_tuple_set PySem.F.sub_tuple_frozenset (by decide) (begins_tuple l its.toArray) ⟨o, ho, hc', n, hd⟩ (fun A I hh hne => Walks.tuple hh I l hne its.toArray) (fun I h' e1 e2 => ⟨⟨_, e1, rfl, rfl⟩, ⟨o, e2, hc', n, hd⟩⟩) (by simpa using strsAre_of r) hb fin
theorem xe_lenSet (hc : X.calm = true) (hm : X.mg "len" = none) (hm2 : X.mg "set" = none) (ha : XE B X Wx a pa) (hg : Gl X "len" := by rfl) (hg2 : Gl X "set" := by rfl)
    (na : starEach [a] X.env = (false, eval a X.env) :: starEach [] X.env := by rfl) : XE B X Wx (.Call (.Name "len" p) [.Call (.Name "set" p2) [a] [] q] [] pos) (rLenSet pa) := by
  obtain ⟨ta, ha, ea⟩ := ha.ex
  refine ⟨_, pe_lenSetS hc hg hm hg2 hm2 ha na, fun S σ H G Q E k O q ke kx => ea S σ H G _ E _ O q (fun v H1 d f r h => ?_) kx⟩
  cases d <;> first | exact False.elim h | skip
  · obtain ⟨xs, hx, hn, h⟩ := h
    obtain ⟨l, vs, rfl, n, e1, z⟩ := repL r
    have := strs_rep z hx
    subst this
    exact ⟨l, xs, rfl, .inl (SqL.of e1), hn, ke _ H1 _ f mkI h⟩
  · obtain ⟨xs, hx, hn, h⟩ := h
    obtain ⟨l, vs, rfl, n, e1, z⟩ := repT r
    have := strs_rep z hx
    subst this
    exact ⟨l, xs, rfl, .inr (.inl e1), hn, ke _ H1 _ f mkI h⟩
/-! ## an own list read -/
mutual
/-- no list within -/
def noL : D → Bool
  | .lst _ => false
  | .val _ => false
  | .law => false
  | .tup ds => noLs ds
  | .ftp ds => noLs ds
  | .ins _ ds => noLs ds
  | .dic _ ds => noLs ds
  | _ => true
def noLs : List D → Bool
  | [] => true
  | d :: ds => noL d && noLs ds
end
mutual
/-- a list may change (or be forbidden) under what has no list within -/
theorem Rep.apart {W W' : Wd} {H H' : Hp} {q : Addr} {us : List V} (hq : H q = some (.lst us)) (h0 : W'.CT = W.CT) (h1 : W'.lay = W.lay) (k : ∀ a o, a ≠ q → ¬ W.S a → H a = some o → H' a = some o ∧ ¬ W'.S a) : ∀ (d : D) (v : V), noL d = true → Rep W H d v → Rep W' H' d v
  | .non, v, _, h => by simpa only [Rep] using h
  | .bl b, v, _, h => by simpa only [Rep] using h
  | .int i, v, _, h => by simpa only [Rep] using h
  | .str x, v, _, h => by simpa only [Rep] using h
  | .val u, v, n, h => by simp [noL] at n
  | .law, v, n, h => by simp [noL] at n
  | .lst ds, v, n, h => by simp [noL] at n
  | .tup ds, v, n, h => by
    simp only [Rep] at h ⊢
    obtain ⟨a, vs, e, n1, q1, r⟩ := h
    have ne : a ≠ q := fun z => by
      rcases q1 with q1 | ⟨o, q1⟩ <;> (rw [z, hq] at q1; cases q1)
    have k1 : Rd H' a (.tup vs) := q1.imp (fun q1 => (k a _ ne n1 q1).1) (fun ⟨o, q1⟩ => ⟨o, (k a _ ne n1 q1).1⟩)
    refine ⟨a, vs, e, ?_, k1, Reps.apart hq h0 h1 k ds vs (by simpa [noL] using n) r⟩
    rcases q1 with q1 | ⟨o, q1⟩
    · exact (k a _ ne n1 q1).2
    · exact (k a _ ne n1 q1).2
  | .ftp ds, v, n, h => by
    simp only [Rep] at h ⊢
    obtain ⟨a, vs, o, e, n1, dn, q1, r⟩ := h
    have ne : a ≠ q := fun z => by rw [z, hq] at q1; cases q1
    exact ⟨a, vs, o, e, (k a _ ne n1 q1).2, dn, (k a _ ne n1 q1).1, Reps.apart hq h0 h1 k ds vs (by simpa [noL] using n) r⟩
  | .ins c ds, v, n, h => by
    simp only [Rep] at h ⊢
    obtain ⟨a, dx, vs, e, n1, q1, l, r⟩ := h
    have ne : a ≠ q := fun z => by rw [z, hq] at q1; cases q1
    rw [h0, h1]
    exact ⟨a, dx, vs, e, (k a _ ne n1 q1).2, (k a _ ne n1 q1).1, l, Reps.apart hq h0 h1 k ds vs (by simpa [noL] using n) r⟩
  | .dic ks ds, v, n, h => by
    simp only [Rep] at h ⊢
    obtain ⟨a, vs, e, n1, q1, l, r⟩ := h
    have ne : a ≠ q := fun z => by rw [z, hq] at q1; cases q1
    exact ⟨a, vs, e, (k a _ ne n1 q1).2, (k a _ ne n1 q1).1, l, Reps.apart hq h0 h1 k ds vs (by simpa [noL] using n) r⟩
theorem Reps.apart {W W' : Wd} {H H' : Hp} {q : Addr} {us : List V} (hq : H q = some (.lst us)) (h0 : W'.CT = W.CT) (h1 : W'.lay = W.lay) (k : ∀ a o, a ≠ q → ¬ W.S a → H a = some o → H' a = some o ∧ ¬ W'.S a) : ∀ (ds : List D) (vs : List V), noLs ds = true → Reps W H ds vs → Reps W' H' ds vs
  | [], vs, _, h => by simpa only [Reps] using h
  | d :: ds, vs, n, h => by
    simp only [Reps] at h ⊢
    obtain ⟨v, r, e, h2, h3⟩ := h
    simp only [noLs, Bool.and_eq_true] at n
    exact ⟨v, r, e, Rep.apart hq h0 h1 k d v n.1 h2, Reps.apart hq h0 h1 k ds r n.2 h3⟩
end
/-- a test that reads the own list at slot i -/
def rTFrz (i : Nat) (c : XTp) : XTp := fun G Q E => match G[i]? with
  | some (.own ds) => c (G.set i (.d (.lst ds))) Q (fun _ => False)
  | _ => False
theorem xt_frz (i : Nat) (hc : XT B X Wx c qt) : XT B X Wx c (rTFrz i qt) := by
  obtain ⟨t, h, ev⟩ := hc.ex
  refine ⟨t, h, fun S σ H G Q E k O q kt kx => ?_⟩
  unfold rTFrz at q
  cases hg : G[i]? with
  | none => rw [hg] at q; exact q.elim
  | some g =>
    rw [hg] at q
    cases g <;> first | exact False.elim q | skip
    obtain ⟨a, sa, O2⟩ := O.thaw hg
    exact ev _ σ H _ Q _ k O2 q (fun b H' f h => kt b H' ⟨f.keep, f.law⟩ h) (fun _ _ _ _ _ _ z => z.elim)
/-- an expression that reads the own list at slot i, its value without lists -/
def rFrzE (i : Nat) (a : XP) : XP := fun G Q E => match G[i]? with
  | some (.own ds) => a (G.set i (.d (.lst ds))) (fun d => noL d = true ∧ Q d) (fun _ => False)
  | _ => False
theorem xe_frz (i : Nat) (ha : XE B X Wx a pa) : XE B X Wx a (rFrzE i pa) := by
  obtain ⟨t, h, ev⟩ := ha.ex
  refine ⟨t, h, fun S σ H G Q E k O q ke kx => ?_⟩
  unfold rFrzE at q
  cases hg : G[i]? with
  | none => rw [hg] at q; exact q.elim
  | some g =>
    rw [hg] at q
    cases g <;> first | exact False.elim q | skip
    obtain ⟨o, eo, p, vs, rfl, s1, s2, s3, e1, rr⟩ := O.get hg
    obtain ⟨p', sp, O2⟩ := O.thaw hg
    refine ev _ σ H _ _ _ _ O2 q (fun v H' d f r h => ?_) (fun _ _ _ _ _ _ z => z.elim)
    have f' : Fut (B.W.at S) H H' := ⟨f.keep, f.law⟩
    have e1' := f'.keep p _ e1 s3
    have pe : p' = p := by
      apply Classical.byContradiction
      intro ne
      have ⟨o2, eo2, h2⟩ := O2.get (i := i) (g := .d (.lst _)) (List.getElem?_set_self (List.getElem?_eq_some_iff.mp hg).1)
      rw [eo] at eo2
      cases eo2
      obtain ⟨v2, ev2, rv2⟩ := h2
      cases ev2
      obtain ⟨a2, vs2, ea2, na2, _⟩ := repL rv2
      cases ea2
      exact na2 ⟨s1, fun z => ne z.symm⟩
    refine ke v H' d f' (Rep.apart (W := B.W.at fun a => S a ∧ a ≠ p') (W' := B.W.at S) e1' rfl rfl (fun a o ne n e => ⟨e, fun z => n ⟨z, fun y => ne (y.trans pe)⟩⟩) d v h.1 r) h.2
end
end Pu
namespace Pu
open PySem PySem.Spec PyProof.Rows L2
/-! ## a list that is a datum changes -/
def kd : D → Nat
  | .non => 1
  | .bl _ => 2
  | .int _ => 3
  | .str _ => 4
  | .lst _ => 5
  | .tup _ => 6
  | .ftp _ => 6
  | .ins _ _ => 7
  | .dic _ _ => 8
  | _ => 0
/-- two lists that cannot be one -/
def clash : List D → List D → Bool
  | [], [] => false
  | x :: _, y :: _ => kd x != 0 && kd y != 0 && kd x != kd y
  | _, _ => true
def kdo : HO → Nat
  | .lst _ => 5
  | .tup _ => 6
  | .frz _ u => kdo u
  | .ins _ _ _ => 7
  | .dK _ => 8
  | _ => 9
theorem kd_ref {W : Wd} {H : Hp} {d : D} {v : V} (h : Rep W H d v) : kd d = 0 ∨ (kd d < 5 ∧ (v = .non ∧ kd d = 1 ∨ (∃ b, v = .bl b) ∧ kd d = 2 ∨ (∃ i, v = .int i) ∧ kd d = 3 ∨ (∃ x, v = .str x) ∧ kd d = 4)) ∨ ∃ a o, v = .ref a ∧ H a = some o ∧ kdo o = kd d := by
  cases d with
  | non => simp only [Rep] at h; exact .inr (.inl ⟨by decide, .inl ⟨h, rfl⟩⟩)
  | bl b => simp only [Rep] at h; exact .inr (.inl ⟨by show 2 < 5; decide, .inr (.inl ⟨⟨_, h⟩, rfl⟩)⟩)
  | int b => simp only [Rep] at h; exact .inr (.inl ⟨by show 3 < 5; decide, .inr (.inr (.inl ⟨⟨_, h⟩, rfl⟩))⟩)
  | str b => simp only [Rep] at h; exact .inr (.inl ⟨by show 4 < 5; decide, .inr (.inr (.inr ⟨⟨_, h⟩, rfl⟩))⟩)
  | val u => exact .inl rfl
  | law => exact .inl rfl
  | lst ds => simp only [Rep] at h; obtain ⟨a, vs, e, n, q, r⟩ := h; exact .inr (.inr ⟨a, _, e, q, rfl⟩)
  | tup ds =>
    simp only [Rep] at h
    obtain ⟨a, vs, e, n, q, r⟩ := h
    rcases q with q | ⟨o, q⟩
    · exact .inr (.inr ⟨a, _, e, q, rfl⟩)
    · exact .inr (.inr ⟨a, _, e, q, rfl⟩)
  | ftp ds => simp only [Rep] at h; obtain ⟨a, vs, o, e, n, dn, q, r⟩ := h; exact .inr (.inr ⟨a, _, e, q, rfl⟩)
  | ins c ds => simp only [Rep] at h; obtain ⟨a, dx, vs, e, n, q, l, r⟩ := h; exact .inr (.inr ⟨a, _, e, q, rfl⟩)
  | dic ks ds => simp only [Rep] at h; obtain ⟨a, vs, e, n, q, l, r⟩ := h; exact .inr (.inr ⟨a, _, e, q, rfl⟩)
theorem kd_ne {W W2 : Wd} {H : Hp} {d e : D} {v : V} (c : (kd d != 0 && kd e != 0 && kd d != kd e) = true) (h1 : Rep W H d v) (h2 : Rep W2 H e v) : False := by
  have c : kd d ≠ 0 ∧ kd e ≠ 0 ∧ kd d ≠ kd e := by simpa [and_assoc] using c
  obtain ⟨c1, c2, c3⟩ := c
  rcases kd_ref h1 with z | ⟨_, z⟩ | ⟨a, o, e1, e2, e3⟩
  · exact c1 z
  · rcases kd_ref h2 with y | ⟨_, y⟩ | ⟨a, o, e1, e2, e3⟩
    · exact c2 y
    · rcases z with ⟨rfl, z⟩ | ⟨⟨_, rfl⟩, z⟩ | ⟨⟨_, rfl⟩, z⟩ | ⟨⟨_, rfl⟩, z⟩ <;> rcases y with ⟨y0, y⟩ | ⟨⟨_, y0⟩, y⟩ | ⟨⟨_, y0⟩, y⟩ | ⟨⟨_, y0⟩, y⟩ <;> first | (cases y0; done) | exact c3 (z.trans y.symm)
    · subst e1
      rcases z with ⟨z, _⟩ | ⟨⟨_, z⟩, _⟩ | ⟨⟨_, z⟩, _⟩ | ⟨⟨_, z⟩, _⟩ <;> cases z
  · subst e1
    rcases kd_ref h2 with y | ⟨_, y⟩ | ⟨a', o', e1', e2', e3'⟩
    · exact c2 y
    · rcases y with ⟨z, _⟩ | ⟨⟨_, z⟩, _⟩ | ⟨⟨_, z⟩, _⟩ | ⟨⟨_, z⟩, _⟩ <;> cases z
    · cases e1'
      rw [e2] at e2'
      cases e2'
      exact c3 (e3.symm.trans e3')
theorem clash_ne {W W2 : Wd} {H : Hp} : ∀ {ds es : List D} {vs : List V}, clash ds es = true → Reps W H ds vs → Reps W2 H es vs → False
  | [], [], _, c, _, _ => by simp [clash] at c
  | [], e :: es, vs, c, h, h' => by
    simp only [Reps] at h h'
    subst h
    obtain ⟨v', r, z, _⟩ := h'
    cases z
  | d :: ds, [], vs, c, h, h' => by
    simp only [Reps] at h h'
    subst h'
    obtain ⟨v', r, z, _⟩ := h
    cases z
  | d :: ds, e :: es, vs, c, h, h' => by
    simp only [Reps] at h h'
    obtain ⟨v, r, rfl, h1, _⟩ := h
    obtain ⟨v', r', z, h2, _⟩ := h'
    cases z
    exact kd_ne c h1 h2
mutual
/-- a list of these items is not within -/
def noM (us : List D) : D → Bool
  | .lst ds => clash ds us && noMs us ds
  | .val _ => false
  | .tup ds => noMs us ds
  | .ftp ds => noMs us ds
  | .ins _ ds => noMs us ds
  | .dic _ ds => noMs us ds
  | _ => true
def noMs (us : List D) : List D → Bool
  | [] => true
  | d :: ds => noM us d && noMs us ds
end
mutual
theorem Rep.apM {W : Wd} {H H' : Hp} {p : Addr} {us : List V} {du : List D} (hp : H p = some (.lst us)) (hu : Reps W H du us) (k : ∀ a o, a ≠ p → ¬ W.S a → H a = some o → H' a = some o ∧ ¬ W.S a) : ∀ (d : D) (v : V), noM du d = true → Rep W H d v → Rep W H' d v
  | .non, v, _, h => by simpa only [Rep] using h
  | .bl b, v, _, h => by simpa only [Rep] using h
  | .int i, v, _, h => by simpa only [Rep] using h
  | .str x, v, _, h => by simpa only [Rep] using h
  | .val u, v, n, h => by simp [noM] at n
  | .law, v, n, h => by simpa only [Rep] using h
  | .lst ds, v, n, h => by
    simp only [noM, Bool.and_eq_true] at n
    simp only [Rep] at h ⊢
    obtain ⟨a, vs, e, n1, q1, r⟩ := h
    have ne : a ≠ p := fun z => by
      rw [z, hp] at q1
      cases q1
      exact clash_ne n.1 r hu
    exact ⟨a, vs, e, n1, (k a _ ne n1 q1).1, Reps.apM hp hu k ds vs n.2 r⟩
  | .tup ds, v, n, h => by
    simp only [Rep] at h ⊢
    obtain ⟨a, vs, e, n1, q1, r⟩ := h
    have ne : a ≠ p := fun z => by
      rcases q1 with q1 | ⟨o, q1⟩ <;> (rw [z, hp] at q1; cases q1)
    have k1 : Rd H' a (.tup vs) := q1.imp (fun q1 => (k a _ ne n1 q1).1) (fun ⟨o, q1⟩ => ⟨o, (k a _ ne n1 q1).1⟩)
    exact ⟨a, vs, e, n1, k1, Reps.apM hp hu k ds vs (by simpa [noM] using n) r⟩
  | .ftp ds, v, n, h => by
    simp only [Rep] at h ⊢
    obtain ⟨a, vs, o, e, n1, dn, q1, r⟩ := h
    have ne : a ≠ p := fun z => by rw [z, hp] at q1; cases q1
    exact ⟨a, vs, o, e, n1, dn, (k a _ ne n1 q1).1, Reps.apM hp hu k ds vs (by simpa [noM] using n) r⟩
  | .ins c ds, v, n, h => by
    simp only [Rep] at h ⊢
    obtain ⟨a, dx, vs, e, n1, q1, l, r⟩ := h
    have ne : a ≠ p := fun z => by rw [z, hp] at q1; cases q1
    exact ⟨a, dx, vs, e, n1, (k a _ ne n1 q1).1, l, Reps.apM hp hu k ds vs (by simpa [noM] using n) r⟩
  | .dic ks ds, v, n, h => by
    simp only [Rep] at h ⊢
    obtain ⟨a, vs, e, n1, q1, l, r⟩ := h
    have ne : a ≠ p := fun z => by rw [z, hp] at q1; cases q1
    exact ⟨a, vs, e, n1, (k a _ ne n1 q1).1, l, Reps.apM hp hu k ds vs (by simpa [noM] using n) r⟩
theorem Reps.apM {W : Wd} {H H' : Hp} {p : Addr} {us : List V} {du : List D} (hp : H p = some (.lst us)) (hu : Reps W H du us) (k : ∀ a o, a ≠ p → ¬ W.S a → H a = some o → H' a = some o ∧ ¬ W.S a) : ∀ (ds : List D) (vs : List V), noMs du ds = true → Reps W H ds vs → Reps W H' ds vs
  | [], vs, _, h => by simpa only [Reps] using h
  | d :: ds, vs, n, h => by
    simp only [Reps] at h ⊢
    obtain ⟨v, r, e, h2, h3⟩ := h
    simp only [noMs, Bool.and_eq_true] at n
    exact ⟨v, r, e, Rep.apM hp hu k d v n.1 h2, Reps.apM hp hu k ds r n.2 h3⟩
end
def scr (du : List D) : Sl → Sl
  | .d d => if noM du d then .d d else .no
  | .own ds => if noMs du ds then .own ds else .no
  | _ => .no
def scrG (du : List D) (G : List Sl) : List Sl := G.map (scr du)
theorem Ok.mut {B : Bs} {S : Addr → Prop} {σ : L2.St} {H : Hp} {G : List Sl} (O : Ok B S σ H G) (h0 : ∀ a, B.H0 a = none) {p : Addr} {us ws : List V} {du : List D} (hp : H p = some (.lst us)) (np : ¬ S p) (hu : Reps (B.W.at S) H du us) : Ok B S σ (upd H p (.lst ws)) (scrG du G) := by
  have k : ∀ a o, a ≠ p → ¬ S a → H a = some o → upd H p (.lst ws) a = some o ∧ ¬ S a := fun a o ne n e => ⟨by rw [upd_ne ne]; exact e, n⟩
  have back : ∀ {i : Nat} {g : Sl}, (scrG du G)[i]? = some g → g.isOwn = true → G[i]? = some g := fun {i g} e n => by
    unfold scrG at e
    rw [List.getElem?_map] at e
    cases hg : G[i]? with
    | none => rw [hg] at e; cases e
    | some g0 =>
      rw [hg] at e
      cases g0 with
      | own ds =>
        by_cases hn : noMs du ds = true
        · simp only [Option.map_some, scr, if_pos hn] at e
          exact e
        · simp only [Option.map_some, scr, if_neg hn] at e
          cases e
          cases n
      | d d =>
        by_cases hn : noM du d = true
        · simp only [Option.map_some, scr, if_pos hn] at e
          cases e
          cases n
        · simp only [Option.map_some, scr, if_neg hn] at e
          cases e
          cases n
      | _ =>
        simp only [Option.map_some, scr] at e
        cases e
        cases n
  refine ⟨⟨fun s l z => ?_, fun a h => ?_⟩, fun a o z n => ?_, O.sub, O.new, by unfold scrG; rw [List.length_map]; exact O.len, O.lw, fun i g o e1 e2 => ?_, fun i j g g' q e1 e2 n1 n2 e3 e4 => O.inj i j g g' q (back e1 n1) (back e2 n2) n1 n2 e3 e4⟩
  · obtain ⟨⟨i', n', cs, z1, z2, z3⟩, z4, z5⟩ := O.wok.law s l z
    have m1 : s ≠ p := fun y => np (y ▸ z4)
    have m2 : l ≠ p := fun y => np (y ▸ z5)
    exact ⟨⟨i', n', cs, by rw [upd_ne m1]; exact z1, by rw [upd_ne m2]; exact z2, z3⟩, z4, z5⟩
  · have ha : a ≠ p := fun y => np (y ▸ h)
    rw [upd_ne ha]
    exact O.wok.dom a h
  · rw [h0] at z
    cases z
  · unfold scrG at e1
    rw [List.getElem?_map] at e1
    cases hg : G[i]? with
    | none => rw [hg] at e1; cases e1
    | some g0 =>
      rw [hg] at e1
      have base := O.sl i g0 o hg e2
      cases g0 with
      | d d =>
        by_cases hn : noM du d = true
        · simp only [Option.map_some, scr, if_pos hn] at e1
          cases e1
          obtain ⟨v, ev, r⟩ := base
          exact ⟨v, ev, Rep.apM (W := B.W.at S) hp hu k d v hn r⟩
        · simp only [Option.map_some, scr, if_neg hn] at e1
          cases e1
          trivial
      | own ds =>
        by_cases hn : noMs du ds = true
        · simp only [Option.map_some, scr, if_pos hn] at e1
          cases e1
          obtain ⟨q, vs, ev, s1, s2, s3, e, r⟩ := base
          exact ⟨q, vs, ev, s1, s2, s3, by rw [upd_ne (fun y : q = p => np (y ▸ s1))]; exact e, Reps.apM (W := B.W.at S) hp hu k ds vs hn r⟩
        · simp only [Option.map_some, scr, if_neg hn] at e1
          cases e1
          trivial
      | _ =>
        simp only [Option.map_some, scr] at e1
        cases e1
        trivial
/-- what is told of an item of a list around it -/
def weak (du : List D) (x x' : D) : Prop := match x with
  | .lst _ => ∃ ws : List V, x' = .lst (ws.map D.val)
  | x => if noM du x = true then x' = x else ∃ u, x' = .val u
def weaks (du : List D) : List D → List D → Prop
  | [], es => es = []
  | x :: xs, es => ∃ x' r, es = x' :: r ∧ weak du x x' ∧ weaks du xs r
theorem reps_vals {W : Wd} {H : Hp} : ∀ us : List V, Reps W H (us.map D.val) us
  | [] => Reps.nil
  | u :: us => Reps.cons (by simp only [Rep]) (reps_vals us)
theorem Rep.weak {W : Wd} {H : Hp} {p : Addr} {us ws : List V} {du : List D} (hp : H p = some (.lst us)) (np : ¬ W.S p) (hu : Reps W H du us) (d : D) (v : V) (h : Rep W H d v) : ∃ d', weak du d d' ∧ Rep W (upd H p (.lst ws)) d' v := by
  have k : ∀ a o, a ≠ p → ¬ W.S a → H a = some o → upd H p (.lst ws) a = some o ∧ ¬ W.S a := fun a o ne n e => ⟨by rw [upd_ne ne]; exact e, n⟩
  have gen : (if noM du d = true then d = d else True) → (∀ ds, d ≠ .lst ds) → ∃ d', Pu.weak du d d' ∧ Rep W (upd H p (.lst ws)) d' v := fun _ nl => by
    by_cases c : noM du d = true
    · refine ⟨d, ?_, Rep.apM hp hu k d v c h⟩
      cases d <;> first | exact absurd rfl (nl _) | (unfold Pu.weak; dsimp only; rw [if_pos c])
    · refine ⟨.val v, ?_, by simp only [Rep]⟩
      cases d <;> first | exact absurd rfl (nl _) | (unfold Pu.weak; dsimp only; rw [if_neg c]; exact ⟨v, rfl⟩)
  cases d with
  | lst ds =>
    simp only [Rep] at h
    obtain ⟨a, vs, e, n1, q1, r⟩ := h
    by_cases z : a = p
    · subst z
      exact ⟨_, ⟨ws, rfl⟩, by rw [e]; exact mkL n1 upd_same (reps_vals ws)⟩
    · exact ⟨_, ⟨vs, rfl⟩, by rw [e]; exact mkL n1 (by rw [upd_ne z]; exact q1) (reps_vals vs)⟩
  | _ => exact gen (by split <;> trivial) fun _ => by intro z; cases z
theorem Reps.weak {W : Wd} {H : Hp} {p : Addr} {us ws : List V} {du : List D} (hp : H p = some (.lst us)) (np : ¬ W.S p) (hu : Reps W H du us) : ∀ (ds : List D) (vs : List V), Reps W H ds vs → ∃ ds', weaks du ds ds' ∧ Reps W (upd H p (.lst ws)) ds' vs
  | [], vs, h => ⟨[], rfl, by simpa only [Reps] using h⟩
  | d :: ds, vs, h => by
    simp only [Reps] at h
    obtain ⟨v, r, rfl, h1, h2⟩ := h
    obtain ⟨d', w1, r1⟩ := Rep.weak (ws := ws) hp np hu d v h1
    obtain ⟨ds', w2, r2⟩ := Reps.weak hp np hu ds r h2
    exact ⟨d' :: ds', ⟨_, _, rfl, w1, w2⟩, Reps.cons r1 r2⟩
/-- o.append(e); i: the slot of a list around it, whose items are then told no more -/
def rMutApp (i : Nat) (o a : XP) : XSp := fun G P => match G[i]? with
  | some (.d (.lst es)) => o G (fun x => match x with
    | .lst ds => clash es ds = true ∧ a G (fun d => ds.length < 100000 ∧ ∀ es', weaks ds es es' → P.nx ((scrG ds G).set i (.d (.lst es')))) (fun e => P.ex e G)
    | _ => False) (fun e => P.ex e G)
  | _ => False
/-- .. no such slot -/
def rMutApp0 (o a : XP) : XSp := fun G P => o G (fun x => match x with
    | .lst ds => a G (fun d => ds.length < 100000 ∧ P.nx (scrG ds G)) (fun e => P.ex e G)
    | _ => False) (fun e => P.ex e G)
section
variable {B : Bs} {X : Cx} {Wx : WX} {o e : Expr} {pa po : XP} {pos apos cpos : Pos}
theorem xs_mutApp (i : Nat) (h0 : ∀ a, B.H0 a = none) (ho : XE B X Wx o po) (ha : XE B X Wx e pa) (hs0 : swapsWith (.Call (.Attribute o "append" apos) [e] [] cpos) none pos.line X.env = pure false := by rfl)
    (hbase : attributeBase o "append" X.env (eval o X.env) = eval o X.env := by rfl)
    (hfew : ((backTo cpos (starEach [e] X.env)).all (fun x => !x.1) && (backToKw cpos (keywordEach [] X.env)).all (fun x => x.1.isSome)
      && decide ([e].length + ([] : List Keyword).length + (if ([] : List Keyword).isEmpty then 0 else 1) < 30)) = true := by rfl)
    (hline : (apos.endLine == cpos.line) = true := by rfl) (hs : starEach [e] X.env = (false, eval e X.env) :: starEach [] X.env := by rfl) (hplain : (backTo cpos (starEach [] X.env)).any (·.1) = false := by rfl) :
    XS B X Wx (.Expr (.Call (.Attribute o "append" apos) [e] [] cpos) pos) (rMutApp i po pa) ∧ XS B X Wx (.Expr (.Call (.Attribute o "append" apos) [e] [] cpos) pos) (rMutApp0 po pa) := by
  obtain ⟨to, ho, eo⟩ := ho.ex
  obtain ⟨ta, ha, ea⟩ := ha.ex
  have hp := ps_expr (pos := pos) (pe_bm PySem.F.plainAttrs_list PySem.F.slot_list_append PySem.F.type_list_append mt_append ho (pa_cons ha pa_nil hs) hbase hfew hline hs hplain) hs0
  refine ⟨⟨_, hp, fun S σ H G P D O q k => ?_⟩, ⟨_, hp, fun S σ H G P D O q k => ?_⟩⟩
  · unfold rMutApp at q
    cases hg : G[i]? with
    | none => rw [hg] at q; exact q.elim
    | some g =>
      rw [hg] at q
      cases g <;> first | exact False.elim q | skip
      rename_i dl
      cases dl <;> first | exact False.elim q | skip
      rename_i es
      refine eo S σ H G _ _ _ O q (fun x H1 dx f1 r1 h1 => ?_) (k.kx O)
      cases dx <;> first | exact False.elim h1 | skip
      rename_i ds
      obtain ⟨p, vs, rfl, np, e1, z1⟩ := repL r1
      obtain ⟨hc, h1⟩ := h1
      refine ⟨.inl ⟨rfl, vs, SqL.of e1⟩, ?_⟩
      refine ea S σ H1 G _ _ _ (O.fut f1) h1 (fun v H2 d f2 r2 h2 => ?_) ((k.kx O).fut f1)
      have O2 := (O.fut f1).fut f2
      have e2 := f2.keep p _ e1 ((O.fut f1).wok.nl np)
      refine ⟨p, vs, v, rfl, rfl, e2, Nat.lt_of_lt_of_le (by rw [z1.len]; exact h2.1) (le_line (Nat.le_refl _)), ?_⟩
      have zu := z1.fut (O.fut f1).wok f2
      have O3 := O2.mut h0 (ws := vs ++ [v]) e2 np zu
      obtain ⟨ov, eov, w, rfl, rw_⟩ := O2.get hg
      obtain ⟨a, us, rfl, na, ea', za⟩ := repL rw_
      have ap : a ≠ p := fun z => by
        subst z
        rw [e2] at ea'
        cases ea'
        exact clash_ne hc za zu
      obtain ⟨es', we, re⟩ := Reps.weak (ws := vs ++ [v]) e2 np zu _ _ za
      have O4 := O3.put i (g := .d (.lst es')) (o := some (.ref a)) rfl ⟨_, rfl, mkL na (by rw [upd_ne ap]; exact ea') re⟩
      rw [set_self eov] at O4
      exact k.nx S σ _ _ O4 (h2.2 es' we)
  · refine eo S σ H G _ _ _ O q (fun x H1 dx f1 r1 h1 => ?_) (k.kx O)
    cases dx <;> first | exact False.elim h1 | skip
    rename_i ds
    obtain ⟨p, vs, rfl, np, e1, z1⟩ := repL r1
    refine ⟨.inl ⟨rfl, vs, SqL.of e1⟩, ?_⟩
    refine ea S σ H1 G _ _ _ (O.fut f1) h1 (fun v H2 d f2 r2 h2 => ?_) ((k.kx O).fut f1)
    have O2 := (O.fut f1).fut f2
    have e2 := f2.keep p _ e1 ((O.fut f1).wok.nl np)
    exact ⟨p, vs, v, rfl, rfl, e2, Nat.lt_of_lt_of_le (by rw [z1.len]; exact h2.1) (le_line (Nat.le_refl _)), k.nx S σ _ _ (O2.mut h0 (ws := vs ++ [v]) e2 np (z1.fut (O.fut f1).wok f2)) h2.2⟩
end
/-! ## the law -/
def spLaw (K : PySem.W.Frag) : Sp := fun vs H Q _ => ∃ (a : Addr) (ns : List Int), vs = [.ref a] ∧ SqL K H a (ns.map V.int) ∧ ns.length ≤ 63 ∧ ∀ H', Q (.bl true) H'
def spStart (K : PySem.W.Frag) : Sp := fun vs H Q _ => ∃ (a : Addr) (ns : List Int), vs = [.ref a] ∧ SqL K H a (ns.map V.int) ∧ ns.length ≤ 63 ∧ ∀ H' s l, Same H H' → LSt H' s l → Q (.ref s) H'
def lawPo : Po := { nx := fun _ => False, rt := fun d => d = .bl true, ex := fun _ _ => False }
theorem law_ok {P : Program} {w : World} {K : PySem.W.Frag} {mg : Str → Option Value} {base : Heap} {CT : Nat → Addr} {lay : Nat → List Str} {st : Stmt} {f fS : Addr} {fd fdS : FuncData} {N : List Str} {k kS : Nat} {pb : XSp} {rest : List Stmt} {p1 p2 p3 p4 p5 : Pos}
    (Fn : FunG K "law" "law" st f fd) (Sc : FnScope N ["_law_script"] (defScope st)) (hb : defBody st = .Assign [.Name "_law_state" p1] (.Call (.Name "_law_start" p2) [.Name "_law_script" p3] [] p4) p5 :: rest)
    (FS : FnOk P w K mg base (L2.CX P w) kS fS fdS ["_law_script"] (spStart K)) (hk : kS ≤ k) (mS : mg "_law_start" = some (.ref fS)) (kpS : PySem.W.keepIn K (.ref fS) = true) (bS : Binds K fdS ["_law_script"] []) (h0 : N[0]? = some ("_law_script" : Str)) (h1 : N[1]? = some ("_law_state" : Str))
    (ev : ∀ n f cdv, Vis (envOfC "law" (defScope st) n f cdv).scope "_law_script" ∧ Loc (envOfC "law" (defScope st) n f cdv).scope "_law_state" ∧ (envOfC "law" (defScope st) n f cdv).kindOf "_law_start" = some .globalImplicit ∧
      swapsWith (.Call (.Name "_law_start" p2) [.Name "_law_script" p3] [] p4) (some (.Name "_law_state" p1)) p5.line (envOfC "law" (defScope st) n f cdv) = pure false ∧
      starEach [.Name "_law_script" p3] (envOfC "law" (defScope st) n f cdv) = (false, eval (.Name "_law_script" p3) (envOfC "law" (defScope st) n f cdv)) :: starEach [] (envOfC "law" (defScope st) n f cdv))
    (body : ∀ (B : Bs) (cdv : Value) (A : Around) (outer : List Env) (s : Shared) (H : Hp) (E : XK), B.W.CT = CT → B.W.lay = lay → B.cur = none → (∀ a, B.H0 a = none) → Room k (A.deeper (envOfC "law" (defScope st) s.heap.objs.size f cdv)) →
      XSs B (cxOf (L2.CX P w) P w K mg base N "law" (defScope st) f cdv A outer s H E) (fun cls d _ H => E cls d H) rest pb)
    (pure_ : pb (.no :: .d .law :: List.replicate (N.length - 2) .no) lawPo) : FnOk P w K mg base (L2.CX P w) (k + 1) f fd ["_law_script"] (spLaw K) := by
  refine Fn.ok Sc (fun vs H Q E h => ?_) (fun cdv A outer s H vs Q E hr h => ?_)
  · obtain ⟨a, ns, rfl, _⟩ := h
    rfl
  · obtain ⟨a, ns, rfl, hS, hl, q⟩ := h
    obtain ⟨v0, v1, v2, v3, v4⟩ := ev s.heap.objs.size f cdv
    rw [hb]
    let X := cxOf (L2.CX P w) P w K mg base N "law" (defScope st) f cdv A outer s H E
    let Bx : Addr → Addr → Bs := fun s l => { W := ⟨CT, lay, some (s, l), fun a => a = s ∨ a = l⟩, H0 := fun _ => none }
    have hrest : PSs X rest (fun D σ H' => ∃ s l, canS (Bx s l) (fun cls d _ H => E cls d H) pb D σ H') :=
      ⟨fun pins s' σ H' D I ⟨a, l, h⟩ => (body (Bx a l) cdv A outer s H E rfl rfl rfl (fun _ => rfl) hr).can.run pins s' σ H' D I h⟩
    refine ⟨_, pss_cons (ps_set (X := X) (i := 1) Sc.nd h1 v1 (pe_call FS (hr.mono hk) v2 mS kpS bS .nil passL (pa_cons (pe_var (X := X) (i := 0) h0 v0 rfl rfl) pa_nil v4) (he := v4)) v3 (.inl rfl)) hrest, ?_⟩
    have hN : 1 < N.length := (List.getElem?_eq_some_iff.mp h1).1
    have hst : (L2.start N [V.ref a]) = some (.ref a) :: List.replicate (N.length - 1) none := rfl
    rw [hst]
    refine ⟨_, rfl, a, ns, rfl, hS, hl, fun H' s' l' sm L => ⟨s', l', fun b => b = s' ∨ b = l', _, lawPo, ?_, pure_, ⟨fun _ _ _ _ _ z => z.elim, fun S2 σ2 H2 G2 v d O2 r2 q2 => ?_, fun _ _ _ _ _ z => z.elim, fun _ _ _ _ _ z => z.elim, fun _ _ _ _ _ _ _ _ _ z => z.elim⟩⟩⟩
    · obtain ⟨m, hm⟩ : ∃ m, N.length = m + 2 := ⟨N.length - 2, by omega⟩
      rw [hm]
      have e1 : m + 2 - 1 = m + 1 := by omega
      have e2 : m + 2 - 2 = m := by omega
      rw [e1, e2, List.replicate_succ]
      obtain ⟨i, n, cs, c1, c2, c3⟩ := id L
      refine ⟨⟨fun s2 l2 z => ?_, fun b hb => ?_⟩, fun _ _ z => (by cases z), fun _ z => z, fun _ z => .inl z, (by simp), fun s2 l2 z => ?_, fun j g o g1 g2 => ?_, fun j1 j2 g g' q g1 g2 n1 => ?_⟩
      · cases z
        exact ⟨L, .inl rfl, .inr rfl⟩
      · rcases hb with hb | hb
        · rw [hb]; exact ⟨_, c1⟩
        · rw [hb]; exact ⟨_, c2⟩
      · cases z
        exact ⟨.inl rfl, .inr rfl⟩
      · match j, g1, g2 with
        | 0, g1, g2 =>
          cases g1
          trivial
        | 1, g1, g2 =>
          cases g1
          cases g2
          refine ⟨_, rfl, ?_⟩
          simp only [Rep]
          exact ⟨s', l', rfl, rfl⟩
        | j + 2, g1, g2 =>
          have : g = .no := by
            have h' : (List.replicate m Sl.no)[j]? = some g := g1
            rw [List.getElem?_replicate] at h'
            split at h'
            · cases h'; rfl
            · cases h'
          subst this
          trivial
      · match j1, g1 with
        | 0, g1 => cases g1; cases n1
        | 1, g1 => cases g1; cases n1
        | j + 2, g1 =>
          have : g = .no := by
            have h' : (List.replicate m Sl.no)[j]? = some g := g1
            rw [List.getElem?_replicate] at h'
            split at h'
            · cases h'; rfl
            · cases h'
          subst this
          cases n1
    · have q2' : d = .bl true := q2
      subst q2'
      rw [repB r2]
      exact q H2
end Pu
namespace Pu
open PySem PySem.Spec PyProof.Rows L2
/-! ## what stands in the text, by names -/
theorem FnOk.cx {P : Program} {w : World} {K : PySem.W.Frag} {mg : Str → Option Value} {base : Heap} {k : Nat} {f : Addr} {fd : FuncData} {ps : List Str} {sp : Sp} {CX : CXT} (F : FnOk P w K mg base CX0 k f fd ps sp) : FnOk P w K mg base CX k f fd ps sp :=
  ⟨F.len, fun A outer s H args us vs Q E r e b v h => codeAny_mono (F.run A outer s H args us vs Q E r e b v h) fun r s' q => by
    cases r with
    | error e => exact q.elim
    | ok fl => cases fl <;> exact q⟩
theorem FnOk.imp {P : Program} {w : World} {K : PySem.W.Frag} {mg : Str → Option Value} {base : Heap} {k : Nat} {f : Addr} {fd : FuncData} {ps : List Str} {sp sp' : Sp} {CX : CXT} (F : FnOk P w K mg base CX k f fd ps sp) (h : ∀ vs H Q E, sp' vs H Q E → sp vs H Q E) : FnOk P w K mg base CX k f fd ps sp' :=
  ⟨fun vs H Q E q => F.len vs H Q E (h _ _ _ _ q), fun A outer s H args us vs Q E r e b v q => F.run A outer s H args us vs Q E r e b v (h _ _ _ _ q)⟩
theorem FnOk.impP {P : Program} {w : World} {K : PySem.W.Frag} {mg : Str → Option Value} {base : Heap} {k : Nat} {f : Addr} {fd : FuncData} {ps : List Str} {CT : Nat → Addr} {lay : Nat → List Str} {F F' : DFn} {CX : CXT} (G : FnOk P w K mg base CX k f fd ps (spP CT lay F)) (h : ∀ ds Q E, F' ds Q E → F ds Q E) : FnOk P w K mg base CX k f fd ps (spP CT lay F') :=
  FnOk.imp G fun vs H Q E ⟨L, S, ds, Qd, Ed, a, b, c, d, e⟩ => ⟨L, S, ds, Qd, Ed, a, b, h _ _ _ c, d, e⟩
section
variable (P : Program) (w : World) (K : PySem.W.Frag) (mg : Str → Option Value) (base : Heap) (CT : Nat → Addr) (lay : Nat → List Str)
structure FnAt (k : Nat) (x : Str) (ps : List Str) (F : DFn) : Prop where
  ex : ∃ f fd, FnOk P w K mg base (L2.CX P w) k f fd ps (spP CT lay F) ∧ mg x = some (.ref f) ∧ PySem.W.keepIn K (.ref f) = true ∧ Binds K fd ps []
/-- .. with written defaults dds for the last parameters -/
structure FnAtD (k : Nat) (x : Str) (ps : List Str) (F : DFn) (dds : List D) : Prop where
  ex : ∃ f fd dvs dsv, FnOk P w K mg base (L2.CX P w) k f fd ps (spP CT lay F) ∧ mg x = some (.ref f) ∧ PySem.W.keepIn K (.ref f) = true ∧ Binds K fd ps dsv ∧ Vals dvs dsv ∧ ∀ W H, Reps W H dds dvs
structure MkAt (k : Nat) (x : Str) (cn : Nat) (ps : List Str) (F : DIn) (dds : List D) : Prop where
  ex : ∃ f fd dvs dsv, Mk K (CT cn) f ∧ FnOk P w K mg base (L2.CX P w) k f fd ps (spI CT lay cn F) ∧ mg x = some (.ref (CT cn)) ∧ Binds K fd ps dsv ∧ Vals dvs dsv ∧ ∀ W H, Reps W H dds dvs
structure XnAt (k : Nat) (x : Str) (cn : Nat) (ps : List Str) : Prop where
  ex : ∃ fI fd, OexC K (CT cn) ∧ PySem.W.findIn K (.ref (CT cn)) "__init__" = some (some (.ref fI)) ∧ PySem.W.typeIn K (.ref fI) = some (.type "function") ∧ FnOk P w K mg base (L2.CX P w) k fI fd ps (spX (CT cn) (lay cn)) ∧ Binds K fd ps [] ∧ mg x = some (.ref (CT cn))
structure XnAt0 (x : Str) (cn : Nat) : Prop where
  ex : ∃ bmB Bn newId initId, ExcBaseFacts Bn newId initId bmB ∧ PySem.W.excIn K (CT cn) bmB newId = true ∧ mg x = some (.ref (CT cn)) ∧ PySem.W.keepIn K (.ref (CT cn)) = true ∧ PySem.W.subIn K (.ref (CT cn)) (.type "BaseException") = some true ∧ PySem.W.typeIn K (.ref (CT cn)) = some (.type "type") ∧ lay cn = []
end
section
variable {B : Bs} {X : Cx} {Wx : WX} {a b c e o : Expr} {es : List Expr} {pa pb pc : XP} {p pos apos : Pos} {pas : XAp} {k : Nat} {x m : Str} {ps : List Str} {F : DFn}
theorem xe_callA (h : FnAt X.prog X.w X.K X.mg X.base B.W.CT B.W.lay k x ps F) (hr : Room k X.A) (tk : Takes X Wx) (ha : XA B X Wx (e :: es) pas)
    (hg : Gl X x := by rfl) (hdb : (x == ("__debug__" : Str)) = false := by decide) (he : starEach (e :: es) X.env = (false, eval e X.env) :: starEach es X.env := by rfl) (hpl : (backTo pos (starEach es X.env)).any (·.1) = false := by rfl) :
    XE B X Wx (.Call (.Name x p) (e :: es) [] pos) (rFn F pas) := by
  obtain ⟨f, fd, G, m1, k1, b1⟩ := h.ex
  exact xe_call G hr m1 k1 b1 tk ha hg hdb he hpl
theorem xe_callAD {dds : List D} (h : FnAtD X.prog X.w X.K X.mg X.base B.W.CT B.W.lay k x ps F dds) (hr : Room k X.A) (tk : Takes X Wx) (ha : XA B X Wx (e :: es) pas)
    (hg : Gl X x := by rfl) (hdb : (x == ("__debug__" : Str)) = false := by decide) (he : starEach (e :: es) X.env = (false, eval e X.env) :: starEach es X.env := by rfl) (hpl : (backTo pos (starEach es X.env)).any (·.1) = false := by rfl) :
    XE B X Wx (.Call (.Name x p) (e :: es) [] pos) (rFn (fun xs => F (xs ++ dds)) pas) := by
  obtain ⟨f, fd, dvs, dsv, G, m1, k1, b1, hv, hd⟩ := h.ex
  exact xe_callD G hr m1 k1 b1 hv hd tk ha hg hdb he hpl
theorem xe_makeA {cn : Nat} {F : DIn} {dds : List D} (h : MkAt X.prog X.w X.K X.mg X.base B.W.CT B.W.lay k x cn ps F dds) (hr : Room (k + 1) X.A) (tk : Takes X Wx) (ha : XA B X Wx (e :: es) pas)
    (hg : Gl X x := by rfl) (hdb : (x == ("__debug__" : Str)) = false := by decide) (he : starEach (e :: es) X.env = (false, eval e X.env) :: starEach es X.env := by rfl) (hpl : (backTo pos (starEach es X.env)).any (·.1) = false := by rfl) :
    XE B X Wx (.Call (.Name x p) (e :: es) [] pos) (rMake cn (fun xs => F (xs ++ dds)) pas) := by
  obtain ⟨f, fd, dvs, dsv, M, G, m1, b1, hv, hd⟩ := h.ex
  exact xe_make M G hr m1 b1 hv hd tk ha hg hdb he hpl
def rExnA (cn n : Nat) (pas : XAp) : List Sl → (Exn → Prop) → Prop := fun G E => pas G (fun ds => ds.length = n ∧ n ≤ 1000 ∧ E ⟨cn, ds⟩) (fun _ => False)
theorem xr_exnA {cn n : Nat} (h : XnAt X.prog X.w X.K X.mg X.base B.W.CT B.W.lay k x cn ps) (hr : Room (k + 1) X.A) (hn : (B.W.lay cn).length = n) (ha : XA B X (fun _ _ _ _ => False) (e :: es) pas) (hg : Gl X x := by rfl)
    (hdb : (x == ("__debug__" : Str)) = false := by decide) (he : starEach (e :: es) X.env = (false, eval e X.env) :: starEach es X.env := by rfl) (hpl : (backTo pos (starEach es X.env)).any (·.1) = false := by rfl) :
    XR B X (.Call (.Name x p) (e :: es) [] pos) (rExnA cn n pas) := by
  obtain ⟨fI, fd, T, iC, tI, G, b1, m1⟩ := h.ex
  exact xr_exn T iC tI G hr b1 m1 hn ha hg hdb he hpl
theorem xr_exnA0 {cn : Nat} (h : XnAt0 X.K X.mg B.W.CT B.W.lay x cn) (hg : Gl X x := by rfl) (hdb : (x == ("__debug__" : Str)) = false := by decide) : XR B X (.Call (.Name x p) [] [] pos) (fun _ E => E ⟨cn, []⟩) := by
  obtain ⟨bmB, Bn, n1, n2, F, q, m1, kc, s1, t1, hl⟩ := h.ex
  exact xr_exn0 F q m1 kc (raises_own s1 t1) hl hg hdb
theorem names_own {cn : Nat} (h : X.mg x = some (.ref (B.W.CT cn))) (hg : Gl X x := by rfl) (hd : (x == ("__debug__" : Str)) = false := by decide) : Names X x (.ref (B.W.CT cn)) := ⟨hg, hd, .inl h⟩
end
/-! ## the law's draws -/
def Kp (s l : Addr) (H H' : Hp) : Prop := ∀ c o, H c = some o → c ≠ s → c ≠ l → H' c = some o
theorem LSt.ne {H : Hp} {s l : Addr} (h : LSt H s l) : s ≠ l := by
  obtain ⟨i, n, cs, e1, e2, _⟩ := h
  refine ne_of e1 e2 fun z => ?_
  have z2 := HO.lst.inj z
  cases cs with
  | nil => cases z2
  | cons c r =>
    have z3 := (List.cons.inj z2).1
    cases z3
def spDraw : Sp := fun vs H Q _ => ∃ (s l : Addr) (m : Int), vs = [.ref s, .int m] ∧ LSt H s l ∧ 0 < m ∧ m < 1073741824 ∧ ∀ H' r, Kp s l H H' → LSt H' s l → 0 ≤ r → r < m → Q (.int r) H'
def oDraw : DFn := fun ds Q _ => ∃ m : Int, ds = [.law, .int m] ∧ 0 < m ∧ m < 1073741824 ∧ ∀ r : Int, 0 ≤ r → r < m → Q (.int r)
theorem draw_of {P : Program} {w : World} {K : PySem.W.Frag} {mg : Str → Option Value} {base : Heap} {k : Nat} {f : Addr} {fd : FuncData} {ps : List Str} {CT : Nat → Addr} {lay : Nat → List Str} (F : FnOk P w K mg base CX0 k f fd ps spDraw) : FnOk P w K mg base (L2.CX P w) k f fd ps (spP CT lay oDraw) := by
  refine FnOk.imp (FnOk.cx F) fun vs H Q E ⟨L, S, ds, Qd, Ed, wk, r, ⟨m, hd, m0, m1, q⟩, ke, kx⟩ => ?_
  subst hd
  obtain ⟨v, u, rfl, r1, r2⟩ := reps2 r
  have r2' := repI r2
  subst r2'
  simp only [Rep] at r1
  obtain ⟨s, l, hL, rfl⟩ := r1
  obtain ⟨h1, h2⟩ := wk.law s l hL
  refine ⟨s, l, m, rfl, h1, m0, m1, fun H' r kp ls r0 r1 => ke _ H' (.int r) ⟨fun a o e n => ?_, fun s' l' e => ?_⟩ mkI (q r r0 r1)⟩
  · obtain ⟨n1, n2⟩ := n s l hL
    exact kp a o e n1 n2
  · have hL' : (⟨CT, lay, L, S⟩ : Wd).L = some (s, l) := hL
    rw [hL'] at e
    cases e
    exact ls
end Pu
namespace Pu
open PySem PySem.Spec PyProof.Rows L2
def tyOkB (cs : List Nat) : Ty → Bool
  | .b n => decide (n ∈ builtinTys)
  | .c n => decide (n ∈ cs)
theorem tyOk_of {cs : List Nat} {t : Ty} (h : tyOkB cs t = true) : TyOk cs t := by
  cases t with
  | b n =>
    have h' : decide (n ∈ builtinTys) = true := h
    exact (of_decide_eq_true h' : n ∈ builtinTys)
  | c n =>
    have h' : decide (n ∈ cs) = true := h
    exact (of_decide_eq_true h' : n ∈ cs)
theorem tyOks_of {cs : List Nat} {ts : List Ty} (h : ts.all (tyOkB cs) = true) : ∀ t ∈ ts, TyOk cs t := fun t ht => tyOk_of (List.all_eq_true.mp h t ht)
/-- list(x) as a new list -/
def rListN (a : XP) : XAp := fun G Q E => a G (fun d => match d with
  | .lst ds => Q ds
  | .tup ds => Q ds
  | _ => False) E
section
variable {B : Bs} {X : Cx} {Wx : WX} {a b c e o : Expr} {es : List Expr} {pa pb pc : XP} {p pos apos : Pos} {pas : XAp} {k : Nat} {x m : Str} {ps : List Str} {F : DFn}
theorem xe_makeA0 {cn : Nat} {F : DIn} (h : MkAt X.prog X.w X.K X.mg X.base B.W.CT B.W.lay k x cn ps F []) (hr : Room (k + 1) X.A) (tk : Takes X Wx) (ha : XA B X Wx (e :: es) pas)
    (hg : Gl X x := by rfl) (hdb : (x == ("__debug__" : Str)) = false := by decide) (he : starEach (e :: es) X.env = (false, eval e X.env) :: starEach es X.env := by rfl) (hpl : (backTo pos (starEach es X.env)).any (·.1) = false := by rfl) :
    XE B X Wx (.Call (.Name x p) (e :: es) [] pos) (rMake cn F pas) := by
  have h := xe_makeA (p := p) (pos := pos) h hr tk ha hg hdb he hpl
  have e : (fun xs => F (xs ++ [])) = F := by
    funext xs
    rw [List.append_nil]
  rw [e] at h
  exact h
theorem tk_fn {P : Program} {w : World} {K : PySem.W.Frag} {mg : Str → Option Value} {base : Heap} {N : List Str} {qual : Str} {scope : Scope} {f : Addr} {cd : Value} {A : Around} {outer : List Env} {s : Shared} {H : Hp} {E : XK} : Takes (cxOf (L2.CX P w) P w K mg base N qual scope f cd A outer s H E) (fun cls d _ H => E cls d H) := takes_of rfl rfl rfl rfl
theorem po_fn {P : Program} {w : World} {K : PySem.W.Frag} {mg : Str → Option Value} {base : Heap} {N : List Str} {qual : Str} {scope : Scope} {f : Addr} {cd : Value} {A : Around} {outer : List Env} {s : Shared} {H : Hp} {E : XK} :
    PassesOwn (model (cxOf (L2.CX P w) P w K mg base N qual scope f cd A outer s H E).prog (cxOf (L2.CX P w) P w K mg base N qual scope f cd A outer s H E).w) (cxOf (L2.CX P w) P w K mg base N qual scope f cd A outer s H E).A (cxOf (L2.CX P w) P w K mg base N qual scope f cd A outer s H E).env (cxOf (L2.CX P w) P w K mg base N qual scope f cd A outer s H E).xe := passes_of rfl
end
end Pu
namespace Pu
open PySem PySem.Spec PyProof.Rows L2
/-! ## tools for the readings -/
theorem lcP_fm {g : XGp} {tt : XTp} {te : XP} {G0 : List Sl} {f : D → D} {p : D → Bool} {Q : List D → Prop} : ∀ (ds acc : List D), acc.length + ds.length ≤ 100000 →
    (∀ d ∈ ds, ∀ (K : D → Prop) (E0 : Prop), (p d = true → K (f d)) → (p d = false → E0) → g d G0 (fun G2 => tt G2 (fun b => if b = true then te G2 K (fun _ => False) else E0) (fun _ => False))) →
    Q (acc ++ (ds.filter p).map f) → lcP g tt te G0 ds acc Q
  | [], acc, _, _, q => by
    show Q acc
    simpa using q
  | d :: ds, acc, hl, h, q => by
    have hl' : acc.length + 1 + ds.length ≤ 100000 := by simp only [List.length_cons] at hl; omega
    refine h d List.mem_cons_self _ _ (fun hp => ?_) (fun hp => ?_)
    · refine ⟨by omega, lcP_fm ds _ (by rw [List.length_append, List.length_singleton]; omega) (fun d' hd => h d' (List.mem_cons_of_mem _ hd)) ?_⟩
      rw [List.filter_cons, if_pos hp, List.map_cons] at q
      simpa using q
    · refine lcP_fm ds _ (by omega) (fun d' hd => h d' (List.mem_cons_of_mem _ hd)) ?_
      rw [List.filter_cons, if_neg (by rw [hp]; exact Bool.false_ne_true)] at q
      exact q
theorem filter_yes {α : Type} (ds : List α) : ds.filter (fun _ => true) = ds := List.filter_eq_self.mpr fun _ _ => rfl
/-- without tests -/
theorem lcP_map {g : XGp} {te : XP} {G0 : List Sl} {f : D → D} {Q : List D → Prop} (ds acc : List D) (hl : acc.length + ds.length ≤ 100000)
    (h : ∀ d ∈ ds, ∀ (K : D → Prop), K (f d) → g d G0 (fun G2 => te G2 K (fun _ => False))) (q : Q (acc ++ ds.map f)) : lcP g rYes te G0 ds acc Q := by
  refine lcP_fm (f := f) (p := fun _ => true) ds acc hl (fun d hd K E0 h1 _ => ?_) (by rw [filter_yes]; exact q)
  have := h d hd K (h1 rfl)
  exact this
theorem lcP2_fm {g g1 : XGp} {tt tt1 : XTp} {it1 : XAp} {vs1 : List Nat} {te : XP} {G0 : List Sl} {f : D → List D} {Q : List D → Prop} : ∀ (ds acc : List D),
    (∀ d ∈ ds, ∀ (acc : List D) (K : List D → Prop) (E0 : Prop), acc.length + (f d).length ≤ 100000 → K (acc ++ f d) → g d G0 (fun G2 => tt G2 (fun b => if b = true then it1 G2 (fun es => lcP g1 tt1 te (wipeG G2 vs1) es acc K) (fun _ => False) else E0) (fun _ => False))) →
    acc.length + (ds.flatMap f).length ≤ 100000 → Q (acc ++ ds.flatMap f) → lcP2 g tt it1 vs1 g1 tt1 te G0 ds acc Q
  | [], acc, _, _, q => by
    show Q acc
    simpa using q
  | d :: ds, acc, h, hl, q => by
    rw [List.flatMap_cons] at hl q
    rw [List.length_append] at hl
    refine h d List.mem_cons_self acc _ _ (by omega) (lcP2_fm ds _ (fun d' hd => h d' (List.mem_cons_of_mem _ hd)) (by rw [List.length_append]; omega) ?_)
    rw [List.append_assoc]
    exact q
theorem forP_inv {g : XGp} {body : XSp} {P : Po} {I : List D → List Sl → Prop}
    (step : ∀ d ds G (K : List Sl → Prop), I (d :: ds) G → (∀ G2, I ds G2 → K G2) → g d G (fun G1 => body G1 { P with nx := K, ct := K, bk := P.nx })) (fin : ∀ G, I [] G → P.nx G) : ∀ ds G, I ds G → forP g body ds G P
  | [], G, h => fin G h
  | d :: ds, G, h => step d ds G _ h fun G2 h2 => forP_inv step fin ds G2 h2
theorem atI_lt {α : Type} {l : List α} {i : Nat} {x : α} (h : l[i]? = some x) : atI l (i : Int) = some x := by
  have hl := (List.getElem?_eq_some_iff.mp h).1
  unfold L2.atI ixN
  rw [if_pos (by omega), if_pos (by omega)]
  simpa using h
theorem atI_z {α : Type} {l : List α} {i : Int} {x : α} (h0 : 0 ≤ i) (h : l[i.toNat]? = some x) : atI l i = some x := by
  obtain ⟨n, rfl⟩ := Int.eq_ofNat_of_zero_le h0
  exact atI_lt h
theorem matI {α : Type} {l : List α} {i : Int} {x : α} {R : α → Prop} (h0 : 0 ≤ i) (h : l[i.toNat]? = some x) (r : R x) : (match atI l i with | some c => R c | none => False) := by
  rw [atI_z h0 h]
  exact r
/-- x[i] of a list or tuple -/
theorem ix_lst {ds : List D} {i : Nat} {d : D} {Q : D → Prop} {E : Exn → Prop} (h : ds[i]? = some d) (q : Q d) : oIx (.lst ds) (.int (i : Int)) Q E := by
  show (match atI ds (i : Int) with | some d => Q d | none => False)
  rw [atI_lt h]
  exact q
theorem ix_tup {ds : List D} {i : Nat} {d : D} {Q : D → Prop} {E : Exn → Prop} (h : ds[i]? = some d) (q : Q d) : oIx (.tup ds) (.int (i : Int)) Q E := by
  show (match atI ds (i : Int) with | some d => Q d | none => False)
  rw [atI_lt h]
  exact q
theorem ix_str {z : Str} {i c : Nat} {Q : D → Prop} {E : Exn → Prop} (hz : z.length ≤ 100000) (h : z.cps.toList[i]? = some c) (q : Q (.str ⟨#[c]⟩)) : oIx (.str z) (.int (i : Int)) Q E := by
  refine ⟨hz, ?_⟩
  rw [atI_lt h]
  exact q
theorem tor {a b : XTp} {G : List Sl} {Q : Bool → Prop} {E : Exn → Prop} (h : a G (fun k => if k = true then Q true else b G Q E) E) : rTOr a b G Q E := h
/-- all of bools -/
theorem bls_map {ds : List D} {p : D → Bool} : bls (ds.map fun d => .bl (p d)) = some (ds.map p) := by
  induction ds with
  | nil => rfl
  | cons d ds ih => simp only [List.map_cons, bls, ih]; rfl
/-! ### conditions -/
theorem iteB {b : Bool} {A B : Prop} (h1 : b = true → A) (h2 : b = false → B) : if b = true then A else B := by
  cases b with
  | true => exact iteT (h1 rfl)
  | false => exact iteF (h2 rfl)
theorem iteN {b : Bool} {A B : Prop} (e : b = false) (h : B) : if b = true then A else B := by
  subst e
  exact iteF h
theorem iteY {b : Bool} {A B : Prop} (e : b = true) (h : A) : if b = true then A else B := by
  subst e
  exact iteT h
/-! ### lists and tuples -/
def itemsD : D → Option (List D)
  | .lst ds => some ds
  | .tup ds => some ds
  | _ => none
def isSeq : D → Bool
  | .lst _ => true
  | .tup _ => true
  | .ftp _ => true
  | _ => false
theorem items_seq {d : D} {ds : List D} (h : itemsD d = some ds) : d = .lst ds ∨ d = .tup ds := by
  cases d <;> first | (cases h; done) | (cases h; first | exact .inl rfl | exact .inr rfl)
/-- len of a list, a tuple -/
theorem len_items {d : D} {ds : List D} {Q : D → Prop} {E : Exn → Prop} (h : itemsD d = some ds) (q : Q (.int ds.length)) : oLen [d] Q E := by
  rcases items_seq h with rfl | rfl
  · exact q
  · exact q
theorem gU_items {d : D} {ds : List D} {n : Nat} {g : XGsp} {G : List Sl} {Q : List Sl → Prop} (h : itemsD d = some ds) (hn : ds.length = n) (q : g ds G Q) : gU n g d G Q := by
  rcases items_seq h with rfl | rfl <;> exact ⟨hn, q⟩
theorem rItems_of {d : D} {ds : List D} {Q : List D → Prop} : itemsD d = some ds → Q ds → (match d with | .lst ds => Q ds | .tup ds => Q ds | _ => False) := by
  intro h q
  rcases items_seq h with rfl | rfl
  · exact q
  · exact q
theorem deq_str {x y : Str} : deq (.str x) (.str y) = (x == y) := by simp [deq]
theorem deq_int {x y : Int} : deq (.int x) (.int y) = (x == y) := by simp [deq]
theorem any_strs {xs : List Str} {y : Str} : ((xs.map D.str).any fun d => deq d (.str y)) = xs.any (· == y) := by
  rw [List.any_map]
  congr 1
  try (funext x; exact deq_str)
theorem pl_strs (n : Nat) (xs : List Str) : (xs.map D.str).all (pl n) = true := by
  rw [List.all_map]
  exact List.all_eq_true.mpr fun x _ => by cases n <;> rfl
theorem deqs_strs : ∀ xs ys : List Str, deqs (xs.map D.str) (ys.map D.str) = (xs == ys)
  | [], [] => by simp [deqs]
  | [], y :: ys => by simp [deqs]
  | x :: xs, [] => by simp [deqs]
  | x :: xs, y :: ys => by
    rw [List.map_cons, List.map_cons, deqs, deq_str, deqs_strs xs ys]
    try rfl
end Pu
namespace Pu
open PySem PySem.Spec PyProof.Rows L2
/-! ## the readings, step by step -/
section
variable {G : List Sl} {P : Po} {Q : D → Prop} {QB : Bool → Prop} {QL : List D → Prop} {QG : List Sl → Prop} {E : Exn → Prop} {a b e : XP} {c c' : XTp} {s t : XSp} {l : XAp} {o : DOp} {u : DUn} {f : DFn} {g : XGp} {gs : XGsp} {i n : Nat} {d : D} {ds : List D} {m : List (Nat × Nat)}
theorem rd_seq (h : s G { P with nx := fun G' => t G' P }) : rSeq s t G P := h
theorem rd_if (h : c G (fun k => if k = true then s G P else t G P) (fun e => P.ex e G)) : rIf c s t G P := h
theorem rd_ret (h : a G P.rt (fun e => P.ex e G)) : rRet a G P := h
theorem rd_retN (h : P.rt .non) : rRetN G P := h
theorem rd_next (h : P.nx G) : rNext G P := h
theorem rd_brk (h : P.bk G) : rBrk G P := h
theorem rd_cont (h : P.ct G) : rCont G P := h
theorem rd_set (h : a G (fun d => P.nx (G.set i (.d d))) (fun e => P.ex e G)) : rSet i a G P := h
theorem rd_setN (h : l G (fun ds => P.nx (G.set i (.d (.lst ds)))) (fun e => P.ex e G)) : rSetN i l G P := h
theorem rd_ownSet (h : l G (fun ds => P.nx (G.set i (.own ds))) (fun e => P.ex e G)) : rOwnSet i l G P := h
theorem rd_asg (h : a G (fun d => g d G P.nx) (fun e => P.ex e G)) : rAsg a g G P := h
theorem rd_drop (h : a G (fun _ => P.nx G) (fun e => P.ex e G)) : rDrop a G P := h
theorem rd_app (hg : G[i]? = some (.own ds)) (h : a (G.set i .no) (fun d => ds.length < 100000 ∧ P.nx (G.set i (.own (ds ++ [d])))) (fun e => P.ex e G)) : rApp i a G P := by
  unfold rApp
  rw [hg]
  exact h
theorem rd_appF (hg : G[i]? = some (.own ds)) (h : a (G.set i (.d (.lst ds))) (fun d => flat d = true ∧ ds.length < 100000 ∧ P.nx (G.set i (.own (ds ++ [d])))) (fun _ => False)) : rAppF i a G P := by
  unfold rAppF
  rw [hg]
  exact h
theorem rd_sFrz (hg : G[i]? = some (.own ds)) (h : s (G.set i (.d (.lst ds))) P) : rsFrz i s G P := by
  unfold rsFrz
  rw [hg]
  exact h
theorem rd_frzE (hg : G[i]? = some (.own ds)) (h : a (G.set i (.d (.lst ds))) (fun d => noL d = true ∧ Q d) (fun _ => False)) : rFrzE i a G Q E := by
  unfold rFrzE
  rw [hg]
  exact h
theorem rd_tFrz (hg : G[i]? = some (.own ds)) (h : c (G.set i (.d (.lst ds))) QB (fun _ => False)) : rTFrz i c G QB E := by
  unfold rTFrz
  rw [hg]
  exact h
theorem rd_for {q : XAp} (h : q G (fun ds => forP g s ds G P) (fun e => P.ex e G)) : rFor q g s G P := h
theorem rd_put {cc : Nat} (hg : G[i]? = some (.obj cc ds)) (hm : m.lookup cc = some ds.length) (h : a G (fun d => P.nx (G.set i (.obj cc (ds ++ [d])))) (fun e => P.ex e G)) : rPut m i a G P := by
  unfold rPut
  rw [hg]
  exact ⟨hm, h⟩
theorem rd_own {cc j : Nat} (hg : G[i]? = some (.obj cc ds)) (hm : m.lookup cc = some j) (hd : ds[j]? = some d) (h : Q d) : rOwn m i G Q E := by
  unfold rOwn
  rw [hg]
  dsimp only
  rw [hm]
  dsimp only
  rw [hd]
  exact h
theorem rd_raise {p : List Sl → (Exn → Prop) → Prop} (h : p G (fun e => P.ex e G)) : rRaise p G P := h
theorem rd_exn {cc : Nat} {E' : Exn → Prop} (h : l G (fun ds => ds.length = n ∧ n ≤ 1000 ∧ E' ⟨cc, ds⟩) (fun _ => False)) : rExnA cc n l G E' := h
/-! tests -/
theorem rd_or (h : c G (fun k => if k = true then QB true else c' G QB E) E) : rTOr c c' G QB E := h
theorem rd_and (h : c G (fun k => if k = true then c' G QB E else QB false) E) : rTAnd c c' G QB E := h
theorem rd_not (h : c G (fun k => QB (!k)) E) : rTNot c G QB E := h
theorem rd_test (h : a G (fun x => onB x QB) E) : rTest a G QB E := h
theorem rd_yes (h : QB true) : rYes G QB E := h
theorem rd_onB {k : Bool} (h : QB k) : onB (.bl k) QB := h
/-! expressions -/
theorem rd_var (hg : G[i]? = some (.d d)) (h : Q d) : rVar i G Q E := by
  unfold rVar
  rw [hg]
  exact h
theorem rd_c (h : Q d) : rC d G Q E := h
theorem rd_bin (h : a G (fun x => b G (fun y => o x y Q E) E) E) : rBin o a b G Q E := h
theorem rd_un (h : a G (fun x => u x Q E) E) : rUn u a G Q E := h
theorem rd_fn (h : l G (fun xs => f xs Q E) E) : rFn f l G Q E := h
theorem rd_eand (h : a G (fun x => onB x fun k => if k = true then b G Q E else Q (.bl false)) E) : rAnd a b G Q E := h
theorem rd_eor (h : a G (fun x => onB x fun k => if k = true then Q (.bl true) else b G Q E) E) : rOr a b G Q E := h
theorem rd_enot (h : a G (fun x => onB x fun k => Q (.bl (!k))) E) : rNot a G Q E := h
theorem rd_ifE (h : c G (fun k => if k = true then a G Q E else b G Q E) E) : rIfE c a b G Q E := h
theorem rd_nil (h : QL []) : rNil G QL E := h
theorem rd_cons (h : a G (fun x => l G (fun xs => QL (x :: xs)) E) E) : rCons a l G QL E := h
theorem rd_tup (h : l G (fun xs => xs.length ≤ 1000 ∧ Q (.tup xs)) E) : rTup l G Q E := h
theorem rd_lst (h : l G (fun xs => xs.length ≤ 1000 ∧ Q (.lst xs)) E) : rLst l G Q E := h
theorem rd_sz (h : l G (fun ds => ds.length ≤ 1000 ∧ QL ds) E) : rSz l G QL E := h
theorem rd_new (h : l G (fun ds => Q (.lst ds)) E) : rNew l G Q E := h
theorem rd_wk (h : a G (fun d => Q (wk d)) E) : rWk a G Q E := h
theorem rd_chain {o' : DOp} (h : a G (fun x => b G (fun y => o x y (fun z => onB z fun k => if k = true then e G (fun w => o' y w Q E) E else Q (.bl false)) E) E) E) : rChain o o' a b e G Q E := h
theorem rd_make {cc : Nat} {F : DIn} (h : l G (fun xs => F xs (fun fs => Q (.ins cc fs)) E) E) : rMake cc F l G Q E := h
theorem rd_star (h : a G (fun x => match x with
  | .tup ds => l G (fun xs => QL (ds ++ xs)) E
  | .lst ds => l G (fun xs => QL (ds ++ xs)) E
  | _ => False) E) : rStar a l G QL E := h
theorem rd_items (h : a G (fun d => match d with
  | .lst ds => QL ds
  | .tup ds => QL ds
  | _ => False) E) : rItems a G QL E := h
theorem rd_enum (h : a G (fun d => match d with
  | .lst ds => QL (enumD 0 ds)
  | .tup ds => QL (enumD 0 ds)
  | _ => False) E) : rEnum a G QL E := h
theorem rd_range (h : l G (fun xs => match xs with
  | [.int j] => j < 4611686018427387904 ∧ -4611686018427387904 ≤ j ∧ QL ((List.range j.toNat).map fun (i : Nat) => .int ((i : Nat) : Int))
  | _ => False) E) : rRange l G QL E := h
theorem rd_lc {vs : List Nat} {it : XAp} (h : it G (fun ds => lcP g c a (wipeG G vs) ds [] QL) E) : rLc vs it g c a G QL E := h
theorem rd_lenSet (h : a G (fun d => match d with
  | .lst ds => ∃ xs, strsD ds = some xs ∧ xs.length ≤ 1000 ∧ Q (.int ((dd xs).length : Int))
  | .tup ds => ∃ xs, strsD ds = some xs ∧ xs.length ≤ 1000 ∧ Q (.int ((dd xs).length : Int))
  | _ => False) E) : rLenSet a G Q E := h
theorem lenSet_of {R : List Str → Prop} {xs : List Str} : itemsD d = some ds → strsD ds = some xs → xs.length ≤ 1000 → R xs → (match d with
  | .lst ds => ∃ xs, strsD ds = some xs ∧ xs.length ≤ 1000 ∧ R xs
  | .tup ds => ∃ xs, strsD ds = some xs ∧ xs.length ≤ 1000 ∧ R xs
  | _ => False) := by
  intro h h1 h2 q
  rcases items_seq h with rfl | rfl
  · exact ⟨xs, h1, h2, q⟩
  · exact ⟨xs, h1, h2, q⟩
theorem rd_fld (h : a G (fun d => match d with
  | .ins c ds => match m.lookup c with
    | some i => match ds[i]? with
      | some x => Q x
      | none => False
    | none => False
  | _ => False) E) : rFld m a G Q E := h
theorem rd_fldV {cc j : Nat} (hg : G[i]? = some (.d (.ins cc ds))) (hm : m.lookup cc = some j) (hd : ds[j]? = some d) (h : Q d) : rFld m (rVar i) G Q E := by
  refine rd_fld (rd_var hg ?_)
  dsimp only
  rw [hm]
  dsimp only
  rw [hd]
  exact h
theorem rd_methV {tbl : List (Nat × DFn)} {cc : Nat} {F : DFn} (hg : G[i]? = some (.d (.ins cc ds))) (hm : tbl.lookup cc = some F) (h : l G (fun xs => F (.ins cc ds :: xs) Q E) E) : rMeth tbl (rVar i) l G Q E := by
  show rVar i G _ E
  refine rd_var hg ?_
  dsimp only
  rw [hm]
  exact h
theorem rd_meth {tbl : List (Nat × DFn)} (h : a G (fun d => match d with
  | .ins c ds => match tbl.lookup c with
    | some F => l G (fun xs => F (.ins c ds :: xs) Q E) E
    | none => False
  | _ => False) E) : rMeth tbl a l G Q E := h
theorem rd_sl {lo hi : Option XP} (h : a G (fun x => rPo lo G (fun l => rPo hi G (fun h => oSl x l h Q) E) E) E) : rSl a lo hi G Q E := h
theorem rd_poN {QO : Option Int → Prop} (h : QO none) : rPo none G QO E := h
theorem rd_poS {QO : Option Int → Prop} (h : a G (fun d => match d with
  | .int i => QO (some i)
  | _ => False) E) : rPo (some a) G QO E := h
theorem rd_slT {lo hi : Option Int} (h : Q (.tup (cutD ds lo hi))) : oSl (.tup ds) lo hi Q := h
theorem rd_slL {lo hi : Option Int} (h : Q (.lst (cutD ds lo hi))) : oSl (.lst ds) lo hi Q := h
/-! targets -/
theorem rd_gN (h : QG (G.set i (.d d))) : gN i d G QG := h
theorem rd_gsN (h : QG G) : gsN [] G QG := h
theorem rd_gsC (h : g d G (fun G1 => gs ds G1 QG)) : gsC g gs (d :: ds) G QG := h
theorem rd_gUt (hg : ds.length = n) (h : gs ds G QG) : gU n gs (.tup ds) G QG := ⟨hg, h⟩
theorem rd_gUl (hg : ds.length = n) (h : gs ds G QG) : gU n gs (.lst ds) G QG := ⟨hg, h⟩
/-! operators -/
theorem rd_le {x y : Int} (h : Q (.bl (decide (x ≤ y)))) : oLe (.int x) (.int y) Q E := h
theorem rd_lt {x y : Int} (h : Q (.bl (decide (x < y)))) : oLt (.int x) (.int y) Q E := h
theorem rd_ge {x y : Int} (h : Q (.bl (decide (y ≤ x)))) : oGe (.int x) (.int y) Q E := h
theorem rd_gt {x y : Int} (h : Q (.bl (decide (y < x)))) : oGt (.int x) (.int y) Q E := h
theorem rd_addI {x y : Int} (h : Q (.int (x + y))) : oAdd (.int x) (.int y) Q E := h
theorem rd_subI {x y : Int} (h : Q (.int (x - y))) : oSub (.int x) (.int y) Q E := ⟨trivial, h⟩
theorem rd_negI {x : Int} (h : Q (.int (-x))) : oNeg (.int x) Q E := h
theorem rd_eqI {x y : Int} (h : Q (.bl (x == y))) : oEq (.int x) (.int y) Q E := ⟨rfl, rfl, by rw [deq_int]; exact h⟩
theorem rd_neI {x y : Int} (h : Q (.bl (!(x == y)))) : oNe (.int x) (.int y) Q E := ⟨rfl, rfl, by rw [deq_int]; exact h⟩
theorem rd_eqS {x y : Str} (h : Q (.bl (x == y))) : oEq (.str x) (.str y) Q E := ⟨rfl, rfl, by rw [deq_str]; exact h⟩
theorem rd_neS {x y : Str} (h : Q (.bl (!(x == y)))) : oNe (.str x) (.str y) Q E := ⟨rfl, rfl, by rw [deq_str]; exact h⟩
theorem rd_isN (h : Q (.bl (isNon d))) : oIsN false d .non Q E := h
theorem rd_notN (h : Q (.bl (!isNon d))) : oIsN true d .non Q E := h
theorem rd_isB {x y : Bool} (h : Q (.bl (decide (x = y)))) : oIsB (.bl x) (.bl y) Q E := h
theorem rd_lenL (h : Q (.int ds.length)) : oLen [.lst ds] Q E := h
theorem rd_lenT (h : Q (.int ds.length)) : oLen [.tup ds] Q E := h
theorem rd_lenI {items : List D} (hi : itemsD d = some items) (h : Q (.int items.length)) : oLen [d] Q E := len_items hi h
theorem rd_intI {x : Int} (h : Q (.int x)) : oInt [.int x] Q E := h
theorem rd_listL (h : Q (.lst ds)) : oList [.lst ds] Q E := h
theorem rd_listT (h : Q (.lst ds)) : oList [.tup ds] Q E := h
theorem rd_tupL (h : Q (.tup ds)) : oTup [.lst ds] Q E := h
theorem rd_tupT (h : Q (.tup ds)) : oTup [.tup ds] Q E := h
theorem rd_ftup (h : Q (.ftp ds)) : oFtup [.lst ds] Q E := h
theorem rd_inS {ne : Bool} {xs : List Str} {y : Str} (h : Q (.bl (if ne then !xs.any (· == y) else xs.any (· == y)))) : oIn ne (.str y) (.lst (xs.map D.str)) Q E := by
  refine ⟨rfl, pl_strs 50 xs, ?_⟩
  rw [any_strs]
  exact h
end
end Pu
namespace Pu
open PySem PySem.Spec PyProof.Rows L2
/-! ## more tools -/
theorem isT_seq {d : D} : [Ty.b "list", Ty.b "tuple"].any (isT d) = isSeq d := by
  cases d <;> first | rfl | decide | simp [isT, isSeq, tyn]
def isStrD : D → Bool
  | .str _ => true
  | _ => false
theorem isT_str {d : D} : [Ty.b "str"].any (isT d) = isStrD d := by
  cases d <;> first | rfl | decide | simp [isT, tyn, isStrD]
theorem hd_get {l : List Nat} {n : Nat} (h : 1 ≤ l.length) : l[0]? = some (l.headD n) := by
  cases l with
  | nil => simp at h
  | cons a l => rfl
theorem cast_le {a b : Nat} : decide ((a : Int) ≤ (b : Int)) = decide (a ≤ b) := by
  by_cases h : a ≤ b
  · rw [decide_eq_true h, decide_eq_true (by omega)]
  · rw [decide_eq_false h, decide_eq_false (by omega)]
theorem sz_list {z : Str} : z.cps.toList.length = z.length := by simp [Str.length]
theorem mul_ok {i j : Nat} (h1 : i ≤ 1000000) (h2 : j ≤ 1000000) : CMulW (i : Int) (j : Int) := by
  have l : ∀ {n : Nat}, n ≤ 1000000 → ((n : Int)).natAbs.log2 < 20 := fun {n} h => by
    rw [Int.natAbs_natCast]
    by_cases z : n = 0
    · subst z
      decide
    · exact (Nat.log2_lt z).mpr (by omega)
  have a := l h1
  have b := l h2
  unfold CMulW
  omega
theorem any_mem {l : List Str} {x : Str} : l.any (· == x) = true ↔ x ∈ l := by
  rw [List.any_eq_true]
  exact ⟨fun ⟨y, h, e⟩ => by rw [beq_iff_eq] at e; exact e ▸ h, fun h => ⟨x, h, by simp⟩⟩
theorem dd_nodup : ∀ n (l : List Str), l.length = n → ¬ (dd l).length < l.length → l.Nodup
  | 0, l, hn, _ => by
    cases l with
    | nil => exact List.nodup_nil
    | cons x l => simp at hn
  | n + 1, l, hn, h => by
    rcases List.eq_nil_or_concat l with rfl | ⟨l', x, e⟩
    · exact List.nodup_nil
    · have e : l = l' ++ [x] := by rw [e, List.concat_eq_append]
      subst e
      rw [dd_len_snoc, List.length_append, List.length_singleton] at h
      have hle := dd_le l'
      by_cases hx : l'.any (· == x) = true
      · rw [if_pos hx] at h
        omega
      · rw [if_neg hx] at h
        have ih := dd_nodup n l' (by simpa using hn) (by omega)
        rw [List.nodup_append]
        refine ⟨ih, by simp, fun a ha b hb z => ?_⟩
        rw [List.mem_singleton] at hb
        subst z hb
        exact hx (any_mem.mpr ha)
theorem rd_tupI {d : D} {ds : List D} {Q : D → Prop} {E : Exn → Prop} (hi : itemsD d = some ds) (h : Q (.tup ds)) : oTup [d] Q E := by
  rcases items_seq hi with rfl | rfl <;> exact h
def isIntD : D → Bool
  | .int _ => true
  | _ => false
theorem isT_int {d : D} : [Ty.b "int"].any (isT d) = (isIntD d || match d with | .bl _ => true | _ => false) := by
  cases d <;> first | rfl | decide | simp [isT, isIntD, tyn]
theorem isT_bool {d : D} : [Ty.b "bool"].any (isT d) = (match d with | .bl _ => true | _ => false) := by
  cases d <;> first | rfl | decide | simp [isT, tyn]
def isInsD : D → Bool
  | .ins _ _ => true
  | _ => false
mutual
theorem pl_up1 : ∀ (n : Nat) (d : D), pl n d = true → pl (n + 1) d = true
  | n, .non, _ => by cases n <;> rfl
  | n, .bl b, _ => by cases n <;> rfl
  | n, .int i, _ => by cases n <;> rfl
  | n, .str x, _ => by cases n <;> rfl
  | n + 1, .lst ds, h => pls_up1 n ds h
  | n + 1, .tup ds, h => pls_up1 n ds h
  | 0, .lst ds, h => by simp [pl] at h
  | 0, .tup ds, h => by simp [pl] at h
  | n, .ftp ds, h => by cases n <;> simp [pl] at h
  | n, .ins c ds, h => by cases n <;> simp [pl] at h
  | n, .dic k ds, h => by cases n <;> simp [pl] at h
  | n, .val v, h => by cases n <;> simp [pl] at h
  | n, .law, h => by cases n <;> simp [pl] at h
theorem pls_up1 : ∀ (n : Nat) (ds : List D), ds.all (pl n) = true → ds.all (pl (n + 1)) = true
  | n, [], _ => rfl
  | n, d :: ds, h => by
    rw [List.all_cons, Bool.and_eq_true] at h ⊢
    exact ⟨pl_up1 n d h.1, pls_up1 n ds h.2⟩
end
theorem pl_up {n m : Nat} {d : D} (h : n ≤ m) (p : pl n d = true) : pl m d = true := by
  induction h with
  | refl => exact p
  | step _ ih => exact pl_up1 _ _ ih
theorem any_find {ds : List D} {x : D} : ds.any (fun d => deq d x) = (findD ds x).isSome := by
  unfold findD
  rw [Bool.eq_iff_iff, List.any_eq_true, Option.isSome_iff_ne_none, ne_eq, List.findIdx?_eq_none_iff]
  simp
theorem draw_nat {m : Nat} {Q : D → Prop} {E : Exn → Prop} (h0 : 0 < m) (h1 : m < 1073741824) (q : ∀ r : Nat, r < m → Q (.int r)) : oDraw [.law, .int m] Q E := by
  refine ⟨m, rfl, by omega, by omega, fun r h0 h1 => ?_⟩
  obtain ⟨n, rfl⟩ := Int.eq_ofNat_of_zero_le h0
  exact q n (by omega)
theorem cutD_mem {ds : List D} {lo hi : Option Int} {x : D} (h : x ∈ cutD ds lo hi) : x ∈ ds := List.mem_of_mem_drop (List.mem_of_mem_take h)
theorem cutD_len {ds : List D} {lo hi : Option Int} : (cutD ds lo hi).length ≤ ds.length := by
  unfold cutD
  rw [List.length_take, List.length_drop]
  omega
theorem cut_from {ds : List D} (k : Nat) : cutD ds (some (k : Int)) none = ds.drop k := by
  unfold cutD
  rw [HT.sIx_nat, HT.sIx_none]
  by_cases h : k ≤ ds.length
  · rw [Nat.min_eq_left h, List.take_of_length_le (by rw [List.length_drop]; omega)]
  · rw [Nat.min_eq_right (by omega), List.drop_eq_nil_of_le (by omega), List.drop_eq_nil_of_le (i := k) (by omega), List.take_nil]
theorem cut_to {ds : List D} (k : Nat) : cutD ds none (some (k : Int)) = ds.take k := by
  unfold cutD
  rw [HT.sIx_nat, HT.sIx_none, List.drop_zero, Nat.sub_zero]
  by_cases h : k ≤ ds.length
  · rw [Nat.min_eq_left h]
  · rw [Nat.min_eq_right (by omega), List.take_of_length_le (Nat.le_refl _), List.take_of_length_le (by omega)]
theorem pl_tup {n : Nat} {ds : List D} (h : ∀ x ∈ ds, pl n x = true) : pl (n + 1) (.tup ds) = true := List.all_eq_true.mpr h
theorem pl_lst {n : Nat} {ds : List D} (h : ∀ x ∈ ds, pl n x = true) : pl (n + 1) (.lst ds) = true := List.all_eq_true.mpr h
theorem pl_app {n : Nat} {a b : List D} (h1 : ∀ x ∈ a, pl n x = true) (h2 : ∀ x ∈ b, pl n x = true) : ∀ x ∈ a ++ b, pl n x = true := fun x h => (List.mem_append.mp h).elim (h1 x) (h2 x)
theorem pl_one {n : Nat} {d : D} (h : pl n d = true) : ∀ x ∈ [d], pl n x = true := fun x hx => by
  rw [List.mem_singleton] at hx
  subst hx
  exact h
theorem cutS_len {z : Str} {lo hi : Option Int} : (cutS z lo hi).length ≤ z.length := by
  unfold cutS Str.length
  simp
  omega
theorem forP_rng {g : XGp} {body : XSp} {P : Po} {I : Nat → List Sl → Prop} (n : Nat)
    (step : ∀ i G (K : List Sl → Prop), i < n → I i G → (∀ G2, I (i + 1) G2 → K G2) → g (.int (i : Int)) G (fun G1 => body G1 { P with nx := K, ct := K, bk := P.nx })) (fin : ∀ G, I n G → P.nx G) : ∀ G, I 0 G → forP g body ((List.range n).map fun (i : Nat) => D.int ((i : Nat) : Int)) G P := by
  intro G h
  refine forP_inv (I := fun es G => ∃ i m, i + m = n ∧ es = (List.range' i m).map (fun (i : Nat) => D.int ((i : Nat) : Int)) ∧ I i G) ?_ ?_ _ _ ⟨0, n, by omega, by rw [List.range_eq_range'], h⟩
  · rintro d ds G K ⟨i, m, e, e2, hI⟩ hK
    cases m with
    | zero => cases e2
    | succ m =>
      obtain ⟨rfl, rfl⟩ := List.cons.inj (show d :: ds = D.int ((i : Nat) : Int) :: (List.range' (i + 1) m).map (fun (i : Nat) => D.int ((i : Nat) : Int)) from e2)
      exact step i G K (by omega) hI fun G2 h2 => hK G2 ⟨i + 1, m, by omega, rfl, h2⟩
  · rintro G ⟨i, m, e, e2, hI⟩
    cases m with
    | zero =>
      obtain rfl : i = n := by omega
      exact fin G hI
    | succ m => cases e2
theorem erase_len : ∀ {l : List Str} {x : Str}, x ∈ l → (l.erase x).length + 1 = l.length
  | a :: l, x, h => by
    by_cases e : a = x
    · subst e
      simp
    · have h2 : x ∈ l := (List.mem_cons.mp h).resolve_left fun z => e z.symm
      rw [List.erase_cons_tail (by simpa using e), List.length_cons, List.length_cons, erase_len h2]
/-- more names than places -/
theorem pigeon : ∀ {xs l : List Str}, xs.Nodup → (∀ x ∈ xs, x ∈ l) → xs.length ≤ l.length
  | [], _, _, _ => Nat.zero_le _
  | x :: xs, l, nd, h => by
    have hx := h x List.mem_cons_self
    obtain ⟨n1, n2⟩ := List.nodup_cons.mp nd
    have := pigeon (xs := xs) (l := l.erase x) n2 fun y hy => by
      have hne : y ≠ x := fun z => n1 (z ▸ hy)
      exact (List.mem_erase_of_ne hne).mpr (h y (List.mem_cons_of_mem _ hy))
    have := erase_len hx
    simp only [List.length_cons]
    omega
end Pu
namespace Pu
open PySem PySem.Spec PyProof.Rows L2
/-! ## an empty dict, an own item appended, defs called within a suite -/
section
variable {B : Bs} {X : Cx} {Wx : WX} {a b c e tg : Expr} {es : List Expr} {pa pb pc : XP} {pos : Pos} {pas : XAp} {st : Stmt} {sts ats bts : List Stmt} {p p2 pp qq : XSp} {qt : XTp} {g : XGp} {gs : XGsp}
theorem xe_dnew : XE B X Wx (.Dict [] [] pos) (rC (.dic [] [])) := by
  refine ⟨_, pe_dnewK, fun S σ H G Q E k O q ke kx => fun d hd => ke _ _ _ (fut_new O.wok hd) ?_ q⟩
  simp only [Rep]
  exact ⟨d, [], rfl, O.wok.new hd, upd_same, rfl, Reps.nil⟩
/-- x.append(x[j]) -/
def rAppI (i : Nat) (j : Int) : XSp := fun G P => match G[i]? with
  | some (.own ds) => match atI ds j with
    | some d => ds.length < 100000 ∧ P.nx (G.set i (.own (ds ++ [d])))
    | none => False
  | _ => False
theorem xs_appI (i : Nat) (j : Int) {x : Str} {px px2 apos cpos ipos spos : Pos} {tj} (hN : X.N[i]? = some x := by rfl) (hv : Vis X.env.scope x := by first | exact Or.inl rfl | exact Or.inr (Or.inl rfl) | exact Or.inr (Or.inr rfl)) (hd : (x == ("__debug__" : Str)) = false := by decide)
    (hcd : (x == ("__classdict__" : Str)) = false := by decide) (hs0 : swapsWith (.Call (.Attribute (.Name x px) "append" apos) [.Subscript (.Name x px2) (.Constant (.int j) tj ipos) spos] [] cpos) none pos.line X.env = pure false := by rfl)
    (hbase : attributeBase (.Name x px) "append" X.env (eval (.Name x px) X.env) = eval (.Name x px) X.env := by rfl)
    (hfew : ((backTo cpos (starEach [.Subscript (.Name x px2) (.Constant (.int j) tj ipos) spos] X.env)).all (fun x => !x.1) && (backToKw cpos (keywordEach [] X.env)).all (fun x => x.1.isSome)
      && decide ([Expr.Subscript (.Name x px2) (.Constant (.int j) tj ipos) spos].length + ([] : List Keyword).length + (if ([] : List Keyword).isEmpty then 0 else 1) < 30)) = true := by rfl)
    (hline : (apos.endLine == cpos.line) = true := by rfl) (hs : starEach [.Subscript (.Name x px2) (.Constant (.int j) tj ipos) spos] X.env = (false, eval (.Subscript (.Name x px2) (.Constant (.int j) tj ipos) spos) X.env) :: starEach [] X.env := by rfl) (hplain : (backTo cpos (starEach [] X.env)).any (·.1) = false := by rfl) :
    XS B X Wx (.Expr (.Call (.Attribute (.Name x px) "append" apos) [.Subscript (.Name x px2) (.Constant (.int j) tj ipos) spos] [] cpos) pos) (rAppI i j) := by
  have hx := pe_ix (X := X) (pos := spos) ix_list (pe_var (pos := px2) hN hv hd hcd) (pe_int (i := j) (j := tj) (pos := ipos)) (fun _ _ => rfl)
  have hp := ps_expr (pe_bm PySem.F.plainAttrs_list PySem.F.slot_list_append PySem.F.type_list_append mt_append (pe_var hN hv hd hcd) (pa_cons hx pa_nil hs) hbase hfew hline hs hplain) hs0
  refine ⟨_, hp, fun S σ H G P D O q k => ?_⟩
  unfold rAppI at q
  cases hg : G[i]? with
  | none => rw [hg] at q; exact q.elim
  | some g =>
    rw [hg] at q
    cases g <;> first | exact False.elim q | skip
    rename_i ds
    dsimp only at q
    cases hx : atI ds j with
    | none => rw [hx] at q; exact q.elim
    | some d =>
      rw [hx] at q
      obtain ⟨o, eo, a, vs, rfl, s1, s2, s3, e1, rr⟩ := O.get hg
      obtain ⟨v, ev, rv⟩ := rr.atI hx
      refine ⟨_, eo, .inl ⟨rfl, vs, SqL.of e1⟩, _, eo, a, vs, j, v, rfl, rfl, SqL.of e1, ev, ?_⟩
      refine ⟨a, vs, v, rfl, rfl, e1, Nat.lt_of_lt_of_le (by rw [rr.len]; exact q.1) (le_line (Nat.le_refl _)), ?_⟩
      refine k.nx S σ _ _ (O.turn (g' := .own (ds ++ [d])) hg rfl eo ⟨a, vs ++ [v], rfl, s1, s2, s3, upd_same, ?_⟩ rfl) q.2
      have rr' := rr.app (Reps.cons rv Reps.nil)
      exact Reps.mono (W := B.W.at S) (S := S) (fun b u n z => ⟨by rw [upd_ne (show b ≠ a from fun y => n (by rw [y]; exact s1))]; exact z, n⟩) _ _ rr'
/-- an own list or a datum becomes a datum -/
def rsFrzL (i : Nat) (a : XSp) : XSp := fun G P => match G[i]? with
  | some (.own ds) => a (G.set i (.d (.lst ds))) P
  | some (.d _) => a G P
  | _ => False
theorem xss_frzL (i : Nat) (h : XSs B X Wx sts pp) : XSs B X Wx sts (rsFrzL i pp) := by
  obtain ⟨t, h, ev⟩ := h.ex
  refine ⟨t, h, fun S σ H G P D O q k => ?_⟩
  unfold rsFrzL at q
  cases hg : G[i]? with
  | none => rw [hg] at q; exact q.elim
  | some g =>
    rw [hg] at q
    cases g <;> first | exact False.elim q | skip
    · exact ev _ σ H _ P D O q k
    · obtain ⟨q', sq, O2⟩ := O.thaw hg
      exact ev _ σ H _ P D O2 q k
end
/-! ### a small def, called where an exception is handled: it raises nothing -/
open L2H in
structure FnC (P : Program) (w : World) (K : PySem.W.Frag) (mg : Str → Option Value) (base : Heap) (k : Nat) (f : Addr) (fd : FuncData) (ps : List Str) (sp : Sp) : Prop where
  len : ∀ vs H Q E, sp vs H Q E → vs.length = ps.length
  run : ∀ (A : Around) (outer : List Env) (s : Shared) (H : Hp) (args : Args) (us : List Value) (vs : List V) (Q : VK) (E : XK) (p : Addr × Obj), RoomH k A → PinOk outer H s p → Env0 P w K mg base A outer s H →
    BindsTo s fd args (ps.zip us) → Vals vs us → sp vs H Q E → codeAny (model P w) A (.call (.ref f) args) (CR CX0 outer P w H s Q E) s
section
variable {P : Program} {w : World} {K : PySem.W.Frag} {mg : Str → Option Value} {base : Heap} {CT : Nat → Addr} {lay : Nat → List Str}
open L2H in
theorem fn_okC {x qual : Str} {st : Stmt} {f : Addr} {fd : FuncData} {N ps : List Str} {k : Nat} {F : DFn} {pb : XSp} (Fn : FunG K x qual st f fd) (Sc : FnScope N ps (defScope st)) (hF : ∀ ds Q E, F ds Q E → ds.length = ps.length ∧ pb (init0 N ds) (fnPo Q fun _ => False))
    (body : ∀ (B : Bs) (cdv : Value) (A : Around) (outer : List Env) (s : Shared) (H : Hp) (E : XK) (p : Addr × Obj), B.W.CT = CT → B.W.lay = lay → B.cur = none → RoomH k (A.deeper (envOfC qual (defScope st) s.heap.objs.size f cdv)) →
      XSs B (cxH CX0 P w K mg base N qual (defScope st) f cdv A outer s H E p) (fun _ _ _ _ => False) (defBody st) pb) : FnC P w K mg base (k + 1) f fd ps (spP CT lay F) := by
  obtain ⟨oc, od, dV, kV, doc, pm, an, cdv, ct, osl, rfl, look, code⟩ := Fn.ex
  have hlen : ∀ vs H Q E, spP CT lay F vs H Q E → vs.length = ps.length := fun vs H Q E h => by
    obtain ⟨L, S, ds, Qd, Ed, _, r, hq, _⟩ := h
    rw [r.len]
    exact (hF ds Qd Ed hq).1
  refine ⟨hlen, fun A outer s H args us vs Q E p hr pin env0 hb r hsp => ?_⟩
  have kin : K.In s.heap := env0.mod.kin.keeps fun b o z => (env0.bs b o z).1
  have nlim : s.heap.NoLimit := env0.mod.nolimit.keeps fun b o z => (env0.bs b o z).1
  have hvl := hlen _ _ _ _ hsp
  refine codeAny_call_function hr.depth (kin _ _ look) rfl Sc.co Sc.gen rfl (PySem.W.codeRec_of kin code) (hb _ _ _ _ (wpAny_newFunctionEnv_cells Sc.kind (fun y hy => ?_) fun env he s1 hc => ?_))
  · rcases Sc.par y.1 (List.of_mem_zip hy).1 with q | q
    · exact .inl q
    · exact .inr ⟨q, PySem.W.cellsFrom_some _ _ _ (.inl q)⟩
  · subst he
    refine ⟨nlim.keeps hc.toInCall.keep, codeAny_func ?_⟩
    obtain ⟨L, S, ds, Qd, Ed, wk, rr, hq, ke, kx⟩ := hsp
    let B : Bs := { W := ⟨CT, lay, L, S⟩, H0 := H }
    obtain ⟨t, h1, h2⟩ := (body B cdv A outer s H E p rfl rfl rfl (hr.deeper _)).ex
    have I := inv_startH (CX := CX0) (E := E) Sc pin env0 hvl r hc
    have hq2 : t { nx := fun _ H' => Q .non H', rt := Q } (L2.start N vs) H := h2 S _ H _ (fnPo Qd fun _ => False) _ (ok_start (B := B) wk rfl rr) (hF ds Qd Ed hq).2 ⟨fun S' σ' H' G' O' q' => ke _ H' _ ⟨O'.ext, fun s l e => (O'.wok.law s l e).1⟩ mkN q', fun S' σ' H' G' v d O' r' q' =>
      ke _ H' _ ⟨O'.ext, fun s l e => (O'.wok.law s l e).1⟩ (Rep.sub (W := B.W.at S') (S := S) r' fun a h => O'.sub a h) q', fun _ _ _ _ _ z => z.elim, fun _ _ _ _ _ z => z.elim, fun _ _ _ _ _ _ _ _ _ z => z.elim⟩
    refine wpAny_mono (h1.run [] s1 (L2.start N vs) H _ I hq2) (fun fl s' hs => ?_) fun e s' hs => hs
    have out : ∀ {σ' : L2.St} {H' : Hp} {v : V} {u : Value}, Inv (cxH CX0 P w K mg base N qual (defScope st) f cdv A outer s H E p) [] σ' H' s' → RelV v u → Q v H' → CE outer P w H s Q u s' := fun {σ' H' v u} J rv q => ⟨v, H', J.os, J.bare, J.base, J.hok, rv, q⟩
    match fl, hs with
    | .ret u, ⟨v, σ', H', J, rv, q⟩ => exact out J rv q
    | .next, ⟨σ', H', J, q⟩ => exact out (v := V.non) (u := Value.none) J rfl q
    | .brk, ⟨_, _, _, q⟩ => exact q.elim
    | .cont, ⟨_, _, _, q⟩ => exact q.elim
structure FnAtC (P : Program) (w : World) (K : PySem.W.Frag) (mg : Str → Option Value) (base : Heap) (CT : Nat → Addr) (lay : Nat → List Str) (k : Nat) (x : Str) (ps : List Str) (F : DFn) : Prop where
  ex : ∃ f fd, FnC P w K mg base k f fd ps (spP CT lay F) ∧ mg x = some (.ref f) ∧ PySem.W.keepIn K (.ref f) = true ∧ Binds K fd ps []
end
section
open L2H
variable {B : Bs} {X : Cx} {Wx : WX} {e : Expr} {es : List Expr} {pos p : Pos} {pas : XAp} {k : Nat} {x : Str} {ps : List Str} {F : DFn}
theorem xe_callC {a : Addr} {oe : Obj} {cls : Value} {d : Option Addr} {pn : List (Addr × Obj)} (h : FnAtC X.prog X.w X.K X.mg X.base B.W.CT B.W.lay k x ps F) (hr : Room k X.A) (ha : XA (B.curr a cls d) (X.suite a ((a, oe) :: pn)) Wx (e :: es) pas)
    (hg : Gl X x := by rfl) (hdb : (x == ("__debug__" : Str)) = false := by decide) (he : starEach (e :: es) X.env = (false, eval e X.env) :: starEach es X.env := by rfl) (hpl : (backTo pos (starEach es X.env)).any (·.1) = false := by rfl) :
    XE (B.curr a cls d) (X.suite a ((a, oe) :: pn)) Wx (.Call (.Name x p) (e :: es) [] pos) (rFn F pas) := by
  obtain ⟨f, fd, F1, hm, hk, hb⟩ := h.ex
  obtain ⟨t, ha, ea⟩ := ha.ex
  refine ⟨tCallS (spP B.W.CT B.W.lay F) (fun σ => fun cls d H => Wx cls d σ H) t, ⟨fun pins s σ H Q I h => ?_⟩, fun S σ H G Q E kk O q ke kx => ea S σ H G _ E _ O q (fun vs H1 ds f1 r1 q1 => ?_) kx⟩
  · refine wpAny_Call_Name_kw (ld_glob I hg hm ?_ hdb)
    refine PySem.W.callWith_K (h₀ := X.base) I.ok.mod.kin hk (thn (ha.run pos pins s σ H _ I h) fun us s1 ⟨vs, H1, I1, rv, q⟩ => ⟨I1.kIn, ?_⟩) he hpl
    have hl : us.length = ps.length := by rw [← rv.length]; exact F1.len _ _ _ _ q
    have bb := hb s1 us I1.kIn (by rw [List.append_nil]; exact hl)
    rw [List.append_nil] at bb
    have pk := I1.pin (a, oe) (List.mem_append_left _ List.mem_cons_self)
    have pin : PinOk X.stack H1 s1 (a, oe) := ⟨pk.1, pk.2.1, fun z => (List.mem_cons.mp (I1.stkSub a z)).elim pk.2.2.1 pk.2.2.2.1, pk.2.2.2.2⟩
    refine wpAny_call (codeAny_mono (F1.run _ X.stack s1 H1 ⟨us, []⟩ us vs Q _ (a, oe) ⟨hr.dp, hr.un⟩ pin I1.env0 bb rv q) fun r s' hq => ?_)
    match r, hq with
    | .ok (.ret u), hq => exact I1.after hq
    | .ok .next, hq => exact hq.elim
    | .ok .brk, hq => exact hq.elim
    | .ok .cont, hq => exact hq.elim
    | .error _, hq => exact hq.elim
  · exact ⟨B.W.L, S, ds, Q, E, O.wok.fut f1, r1, q1, ke.fut f1, kx.fut f1⟩
end
end Pu
namespace Pu
open PySem PySem.Spec PyProof.Rows L2
/-! ## texts -/
def toS (i : Int) : Str := Str.ofString (toString i)
def rStr2 (f : Str → Str → (D → Prop) → Prop) (a b : XP) : XP := fun G Q E => a G (fun x => match x with
  | .str u => b G (fun y => match y with
    | .str v => f u v Q
    | _ => False) E
  | _ => False) E
def fPart (u v : Str) (Q : D → Prop) : Prop := (v.length == 0) = false ∧ u.length ≤ 100000 ∧ Q (.tup [.str (Txt.partition u v).1, .str (Txt.partition u v).2.1, .str (Txt.partition u v).2.2])
def fRmp (u v : Str) (Q : D → Prop) : Prop := u.length ≤ 100000 ∧ Q (.str (Txt.removeprefix u v))
def fSplit (u v : Str) (Q : D → Prop) : Prop := (v.length == 0) = false ∧ u.length ≤ 100000 ∧ Q (.lst ((Txt.split u v).map D.str))
theorem reps_strs {W : Wd} {H : Hp} : ∀ l : List Str, Reps W H (l.map D.str) (l.map V.str)
  | [] => Reps.nil
  | x :: l => Reps.cons mkS (reps_strs l)
section
variable {B : Bs} {X : Cx} {Wx : WX} {a b c e o : Expr} {es : List Expr} {pa pb pc : XP} {p pos apos : Pos} {pas : XAp} {k : Nat} {x m : Str} {ps : List Str} {F : DFn}
theorem ev_m1 {r : V → List V → Hp → VK → Prop} {f : Str → Str → (D → Prop) → Prop} {ta tb : TE} (hr : ∀ S H u v Q k, WOk (B.W.at S) H → f u v Q → KE (B.W.at S) H Q k → r (.str u) [.str v] H k) (ea : EvE B Wx ta pa) (eb : EvE B Wx tb pb) : EvE B Wx (tM1 r ta tb) (rStr2 f pa pb) := by
  intro S σ H G Q E k O q ke kx
  refine ea S σ H G _ E _ O q (fun v H1 d f1 r1 q1 => ?_) kx
  cases d <;> first | exact False.elim q1 | skip
  rename_i u
  obtain rfl := repS r1
  refine ⟨⟨u, rfl⟩, ?_⟩
  refine eb S σ H1 G _ E _ (O.fut f1) q1 (fun w H2 dw f2 r2 q2 => ?_) (kx.fut f1)
  cases dw <;> first | exact False.elim q2 | skip
  rename_i v
  obtain rfl := repS r2
  exact hr S H2 u v Q k (O.wok.fut (f1.trans f2)) q2 (ke.fut (f1.trans f2))
theorem xe_part (ha : XE B X Wx o pa) (hb : XE B X Wx e pb) (h : ∀ {to te : TE}, PE X o to → PE X e te → PE X (.Call (.Attribute o "partition" apos) [e] [] pos) (tM1 (fun x xs H Q => ∃ a b, x = .str a ∧ xs = [.str b] ∧ (b.length == 0) = false ∧ a.length ≤ sizeLine ∧ ∀ p, H p = none → Q (.ref p) (upd H p (.tup [.str (Txt.partition a b).1, .str (Txt.partition a b).2.1, .str (Txt.partition a b).2.2]))) to te) := by intro _ _ h1 h2; exact pe_partition h1 h2) :
    XE B X Wx (.Call (.Attribute o "partition" apos) [e] [] pos) (rStr2 fPart pa pb) := by
  obtain ⟨ta, ha, ea⟩ := ha.ex
  obtain ⟨tb, hb, eb⟩ := hb.ex
  refine ⟨_, h ha hb, ev_m1 (fun S H u v Q k w q ke => ⟨u, v, rfl, rfl, q.1, le_line q.2.1, fun p np => ?_⟩) ea eb⟩
  exact ke _ _ _ (fut_new w np) (mkT (w.new np) (.inl upd_same) (Reps.cons mkS (Reps.cons mkS (Reps.cons mkS Reps.nil)))) q.2.2
theorem xe_split (ha : XE B X Wx o pa) (hb : XE B X Wx e pb) (h : ∀ {to te : TE}, PE X o to → PE X e te → PE X (.Call (.Attribute o "split" apos) [e] [] pos) (tM1 (fun x xs H Q => ∃ a b, x = .str a ∧ xs = [.str b] ∧ (b.length == 0) = false ∧ a.length + 2 ≤ sizeLine ∧ rNewStrs (Txt.split a b) H Q) to te) := by intro _ _ h1 h2; exact pe_split h1 h2) :
    XE B X Wx (.Call (.Attribute o "split" apos) [e] [] pos) (rStr2 fSplit pa pb) := by
  obtain ⟨ta, ha, ea⟩ := ha.ex
  obtain ⟨tb, hb, eb⟩ := hb.ex
  refine ⟨_, h ha hb, ev_m1 (fun S H u v Q k w q ke => ⟨u, v, rfl, rfl, q.1, by rw [sizeLine_eq]; have := q.2.1; omega, fun p np => ?_⟩) ea eb⟩
  exact ke _ _ _ (fut_new w np) (mkL (w.new np) upd_same (reps_strs _)) q.2.2
theorem xe_rmp (ha : XE B X Wx o pa) (hb : XE B X Wx e pb) (h : ∀ {to te : TE}, PE X o to → PE X e te → PE X (.Call (.Attribute o "removeprefix" apos) [e] [] pos) (tM1 (fun x xs H Q => ∃ a b, x = .str a ∧ xs = [.str b] ∧ a.length ≤ sizeLine ∧ Q (.str (Txt.removeprefix a b)) H) to te) := by intro _ _ h1 h2; exact pe_m1 PySem.F.slot_str_removeprefix PySem.F.type_str_removeprefix mt_removeprefix h1 h2) :
    XE B X Wx (.Call (.Attribute o "removeprefix" apos) [e] [] pos) (rStr2 fRmp pa pb) := by
  obtain ⟨ta, ha, ea⟩ := ha.ex
  obtain ⟨tb, hb, eb⟩ := hb.ex
  exact ⟨_, h ha hb, ev_m1 (fun S H u v Q k w q ke => ⟨u, v, rfl, rfl, le_line q.1, ke _ H _ (Fut.refl w) mkS q.2⟩) ea eb⟩
/-- int(text) -/
def oIntT : DFn := fun xs Q _ => match xs with
  | [.str a] => ∃ n, intText? a = some n ∧ a.length ≤ 640 ∧ Q (.int n)
  | _ => False
theorem xf_intT : XF B X Wx (.type "int") oIntT := ⟨_, call_int_str, fun S H xs dxs Q E k w r q ke => by
  match dxs, q with
  | [.str a], ⟨n, h1, h2, q⟩ =>
    obtain ⟨v, rfl, r1⟩ := reps1 r
    obtain rfl := repS r1
    exact ⟨a, n, rfl, h1, h2, ke _ H _ (Fut.refl w) mkI q⟩⟩
/-- f"{a}..{b}" of ints with a text between -/
def rFs3 (a : XP) (s : Str) (b : XP) : XP := fun G Q E => a G (fun x => match x with
  | .int i => i.natAbs.log2 < 1920 ∧ (toS i).length ≤ 1000 ∧ s.length ≤ 1000 ∧ b G (fun y => match y with
    | .int j => j.natAbs.log2 < 1920 ∧ (toS j).length ≤ 1000 ∧ Q (.str (toS i ++ s ++ toS j))
    | _ => False) E
  | _ => False) E
theorem emp_app (x : Str) : Str.empty ++ x = x := by
  show (⟨#[] ++ x.cps⟩ : Str) = x
  simp
theorem xe_fs3 {s : Str} {j1} {p1 p2 p3 : Pos} (ha : XE B X Wx a pa) (hb : XE B X Wx b pb) : XE B X Wx (.JoinedStr [.FormattedValue a (-1) none p1, .Constant (.str s) j1 p2, .FormattedValue b (-1) none p3] pos) (rFs3 pa s pb) := by
  obtain ⟨ta, ha, ea⟩ := ha.ex
  obtain ⟨tb, hb, eb⟩ := hb.ex
  refine ⟨_, pe_joined (.cons (pe_fmt ha) (.cons pe_str (.cons (pe_fmt hb) .nil))), fun S σ H G Q E k O q ke kx => ?_⟩
  refine ea S σ H G _ E _ O q (fun v H1 d f1 r1 q1 => ?_) kx
  cases d <;> first | exact False.elim q1 | skip
  rename_i i
  obtain rfl := repI r1
  obtain ⟨l1, l2, l3, q1⟩ := q1
  refine .inr ⟨i, rfl, l1, _, rfl, ?_, _, rfl, ?_, ?_⟩
  · rw [emp_app]
    exact le_line (by show (toS i).length ≤ 100000; omega)
  · rw [emp_app]
    have : (toS i ++ s).length = (toS i).length + s.length := Str.length_append _ _
    exact le_line (by show (toS i ++ s).length ≤ 100000; omega)
  refine eb S σ H1 G _ E _ (O.fut f1) q1 (fun w H2 dw f2 r2 q2 => ?_) (kx.fut f1)
  cases dw <;> first | exact False.elim q2 | skip
  rename_i j
  obtain rfl := repI r2
  obtain ⟨m1, m2, q2⟩ := q2
  refine .inr ⟨j, rfl, m1, _, rfl, ?_, ?_⟩
  · rw [emp_app]
    have : (toS i ++ s ++ toS j).length = (toS i).length + s.length + (toS j).length := by rw [Str.length_append, Str.length_append]
    exact le_line (by show (toS i ++ s ++ toS j).length ≤ 100000; omega)
  · rw [emp_app]
    exact ke _ H2 _ (f1.trans f2) mkS q2
/-- text * n -/
def oMulS : DOp := fun x y Q _ => match x, y with
  | .str u, .int n => 0 ≤ n ∧ n ≤ 10000 ∧ u.length = 1 ∧ Q (.str (Txt.mul u n))
  | _, _ => False
theorem op_mulS : OpR X (binaryOp .Mult) (fun x y H Q => ∃ u n, x = .str u ∧ y = .int n ∧ PySem.MulOk u n ∧ Q (.str (Txt.mul u n)) H) := by
  intro pins s σ H x y v u Q I rx ry ⟨z, n, ex, ey, ok, q⟩
  subst ex ey
  obtain ⟨t, rfl⟩ := rx
  obtain ⟨t2, rfl⟩ := ry
  exact PySem.SB.mul ok fun t' k => ⟨.str _, H, I.tok _, ⟨_, rfl⟩, q⟩
theorem mulOk_of {u : Str} {n : Int} (h0 : 0 ≤ n) (h1 : n ≤ 10000) (hu : u.length = 1) : PySem.MulOk u n := by
  refine ⟨?_, fun h _ => ?_, fun h _ => ?_⟩
  · rw [decide_eq_false (by omega), decide_eq_false (by omega)]
    rfl
  · rw [hu]
    have : (1 : Int) ≤ (2 ^ 63 - 1) / n := by
      rw [Int.le_ediv_iff_mul_le (by omega)]
      omega
    omega
  · rw [hu, Nat.one_mul]
    unfold Builtin.Str.tooLong
    rw [decide_eq_false]
    rw [sizeLine_eq]
    omega
theorem xo_mulS : XO B X Wx (binaryOp .Mult) oMulS := .of op_mulS fun S H x y dx dy Q E k w r1 r2 q ke => by
  cases dx <;> cases dy <;> first | exact False.elim q | skip
  obtain ⟨h1, h2, h3, q⟩ := q
  exact ⟨_, _, repS r1, repI r2, mulOk_of h1 h2 h3, ke _ H _ (Fut.refl w) mkS q⟩
/-- C.m(e, ..), static -/
structure SmAt (P : Program) (w : World) (K : PySem.W.Frag) (mg : Str → Option Value) (base : Heap) (CT : Nat → Addr) (lay : Nat → List Str) (k : Nat) (x : Str) (cn : Nat) (m : Str) (ps : List Str) (F : DFn) : Prop where
  ex : ∃ mc p g fd, Pt.SMet K (CT cn) mc m p g ∧ FnOk P w K mg base (L2.CX P w) k g fd ps (spP CT lay F) ∧ Binds K fd ps [] ∧ mg x = some (.ref (CT cn))
theorem xe_static {pl : Sem Bool} {cn : Nat} (h : SmAt X.prog X.w X.K X.mg X.base B.W.CT B.W.lay k x cn m ps F) (hr : Room k X.A) (tk : Takes X Wx) (ha : XA B X Wx (e :: es) pas) (hg : Gl X x := by rfl) (hd : (x == ("__debug__" : Str)) = false := by decide)
    (hst : starEach (e :: es) X.env = (false, eval e X.env) :: starEach es X.env := by rfl) (hpl : (backTo pos (starEach es X.env)).any (·.1) = false := by rfl)
    (ht : eval (.Call (.Attribute (.Name x p) m apos) (e :: es) [] pos) X.env = (do
      let ov ← eval (.Name x p) X.env
      standAt apos.atName
      let (f, first) ← holding [ov] (getMethod ov m pl)
      callWith pos f first (backTo pos (starEach (e :: es) X.env)) (backToKw pos (keywordEach [] X.env))) := by rfl) :
    XE B X Wx (.Call (.Attribute (.Name x p) m apos) (e :: es) [] pos) (rFn F pas) := by
  obtain ⟨mc, p', g, fd, c, Fn, b, hm⟩ := h.ex
  obtain ⟨t, ha, ea⟩ := ha.ex
  refine ⟨_, Pt.pe_smeth (E := WE Wx) (pl := pl) (pe_glob (v := .ref (B.W.CT cn)) hg hm rfl hd) c Fn hr b (fun σ => passAt tk σ) ha hst hpl ht, fun S σ H G Q E kk O q ke kx => ?_⟩
  refine ⟨rfl, ea S σ H G _ E _ O q (fun vs H1 ds f1 r1 q1 => ?_) kx⟩
  exact ⟨B.W.L, S, ds, Q, E, O.wok.fut f1, r1, q1, ke.fut f1, kx.fut f1⟩
/-- a, b = x, y -/
def rPar (i j : Nat) (as : XAp) : XSp := fun G P => as G (fun xs => match xs with
  | [x, y] => P.nx ((G.set i (.d x)).set j (.d y))
  | _ => False) (fun e => P.ex e G)
theorem xs_par (i j : Nat) {x y : Str} {px py pt : Pos} {kt k2 pt2} (hc : X.calm = true) (hN : X.N.Nodup) (ha : XA B X Wx [a, b] pas) (hi : X.N[i]? = some x := by rfl) (hj : X.N[j]? = some y := by rfl) (hij : i ≠ j := by decide)
    (hx : X.env.scope.names.lookup x = some .local := by rfl) (hy : X.env.scope.names.lookup y = some .local := by rfl)
    (hw : swappedStores [.Tuple [.Name x px, .Name y py] kt pt] (.Tuple [a, b] k2 pt2) X.env = pure (some [x, y]) := by rfl)
    (hs : swapsWithSole [.Tuple [.Name x px, .Name y py] kt pt] (.Tuple [a, b] k2 pt2) pos.line X.env = pure false := by rfl) :
    XS B X Wx (.Assign [.Tuple [.Name x px, .Name y py] kt pt] (.Tuple [a, b] k2 pt2) pos) (rPar i j pas) := by
  obtain ⟨t, ha, ea⟩ := ha.ex
  refine ⟨_, ps_par hc hN hi hj hij hx hy ha hw hs, fun S σ H G P D O q k => ea S σ H G _ _ _ O q (fun vs H1 ds f r q1 => ?_) (k.kx O)⟩
  match ds, q1 with
  | [u, w], q1 =>
    obtain ⟨v1, v2, rfl, r1, r2⟩ := reps2 r
    exact ⟨v1, v2, rfl, k.nx S _ H1 _ (((O.fut f).set i r1).set j r2) q1⟩
end
end Pu
/-! The mathematics of fractions. -/
namespace Pt
def rg (n d : Int) : Int := if d < 0 then -(Int.gcd n d : Int) else (Int.gcd n d : Int)
def rt (n d : Int) : Int := n.fdiv (rg n d)
def rb (n d : Int) : Int := d.fdiv (rg n d)
theorem gcd_turn (a b : Int) : Int.gcd b (a.fmod b) = Int.gcd a b := by
  rw [Int.fmod_def, Int.gcd_comm a b, Int.sub_eq_add_neg, ← Int.mul_neg]
  exact Int.gcd_add_mul_left_right b a (-(a.fdiv b)) |> fun h => by simpa using h
theorem fmod_less (a b : Int) (h : b ≠ 0) : (a.fmod b).natAbs < b.natAbs := by
  rcases Int.lt_or_gt_of_ne h with h | h
  · have e : (-a).fmod (-b) = -a.fmod b := Int.neg_fmod_neg a b
    have h1 := Int.fmod_nonneg_of_pos (-a) (b := -b) (by omega)
    have h2 := Int.fmod_lt_of_pos (-a) (b := -b) (by omega)
    omega
  · have h1 := Int.fmod_nonneg_of_pos a h
    have h2 := Int.fmod_lt_of_pos a h
    omega
theorem gcd_pos {n d : Int} (h : d ≠ 0) : 0 < (Int.gcd n d : Int) := by
  have : 0 < Int.gcd n d := Int.gcd_pos_of_ne_zero_right n h
  omega
/-- d = g * e, n = g * m, with the sign taken out -/
theorem r_form {n d : Int} (h : d ≠ 0) : ∃ m e : Int, rg n d ≠ 0 ∧ n = rg n d * m ∧ d = rg n d * e ∧ 1 ≤ e ∧ rt n d = m ∧ rb n d = e ∧ Int.gcd m e = 1 := by
  have hg := gcd_pos (n := n) h
  obtain ⟨m, hm⟩ : (Int.gcd n d : Int) ∣ n := Int.gcd_dvd_left n d
  obtain ⟨e, he⟩ : (Int.gcd n d : Int) ∣ d := Int.gcd_dvd_right n d
  have hc : Int.gcd m e = 1 := by
    have h2 : 0 < Int.gcd n d := by omega
    generalize hG : Int.gcd n d = G at hm he h2
    rw [hm, he, Int.gcd_mul_left, Int.natAbs_natCast] at hG
    exact Nat.eq_of_mul_eq_mul_left h2 (by omega)
  unfold rt rb
  by_cases hd : d < 0
  · have hr : rg n d = -(Int.gcd n d : Int) := by unfold rg; rw [if_pos hd]
    have hn1 : n = rg n d * (-m) := by rw [hr, Int.neg_mul_neg]; exact hm
    have hd1 : d = rg n d * (-e) := by rw [hr, Int.neg_mul_neg]; exact he
    have hr0 : rg n d ≠ 0 := by rw [hr]; omega
    have he0 : 1 ≤ -e := by
      by_cases q : e < 0
      · omega
      · have := Int.mul_nonneg (Int.le_of_lt hg) (show 0 ≤ e by omega)
        omega
    refine ⟨-m, -e, hr0, hn1, hd1, he0, ?_, ?_, ?_⟩
    · conv => lhs; lhs; rw [hn1]
      exact Int.mul_fdiv_cancel_left _ hr0
    · conv => lhs; lhs; rw [hd1]
      exact Int.mul_fdiv_cancel_left _ hr0
    · rw [Int.neg_gcd, Int.gcd_neg]
      exact hc
  · have hr : rg n d = (Int.gcd n d : Int) := by unfold rg; rw [if_neg hd]
    have hr0 : rg n d ≠ 0 := by rw [hr]; omega
    have he0 : 1 ≤ e := by
      by_cases q : 0 < e
      · omega
      · have := Int.mul_nonneg (Int.le_of_lt hg) (show 0 ≤ -e by omega)
        rw [Int.mul_neg] at this
        omega
    have hn1 : n = rg n d * m := by rw [hr]; exact hm
    have hd1 : d = rg n d * e := by rw [hr]; exact he
    refine ⟨m, e, hr0, hn1, hd1, he0, ?_, ?_, hc⟩
    · conv => lhs; lhs; rw [hn1]
      exact Int.mul_fdiv_cancel_left _ hr0
    · conv => lhs; lhs; rw [hd1]
      exact Int.mul_fdiv_cancel_left _ hr0
theorem rb_pos {n d : Int} (h : d ≠ 0) : 1 ≤ rb n d := by
  obtain ⟨m, e, _, _, _, he, _, hb, _⟩ := r_form (n := n) h
  omega
theorem r_gcd {n d : Int} (h : d ≠ 0) : Int.gcd (rt n d) (rb n d) = 1 := by
  obtain ⟨m, e, _, _, _, he, ht, hb, hc⟩ := r_form (n := n) h
  rw [ht, hb]
  exact hc
theorem r_cross {n d : Int} (h : d ≠ 0) : rt n d * d = n * rb n d := by
  obtain ⟨m, e, _, hn, hd, he, ht, hb, hc⟩ := r_form (n := n) h
  rw [ht, hb]
  generalize rg n d = g at hn hd
  grind
theorem natAbs_le_mul {g m : Int} (h : g ≠ 0) : m.natAbs ≤ (g * m).natAbs := by
  rw [Int.natAbs_mul]
  have : 0 < g.natAbs := by omega
  exact Nat.le_mul_of_pos_left _ this
theorem rt_le {n d : Int} (h : d ≠ 0) : (rt n d).natAbs ≤ n.natAbs := by
  obtain ⟨m, e, hg, hn, hd, he, ht, hb, hc⟩ := r_form (n := n) h
  rw [ht]
  conv => rhs; rw [hn]
  exact natAbs_le_mul hg
theorem rb_le {n d : Int} (h : d ≠ 0) : (rb n d).natAbs ≤ d.natAbs := by
  obtain ⟨m, e, hg, hn, hd, he, ht, hb, hc⟩ := r_form (n := n) h
  rw [hb]
  conv => rhs; rw [hd]
  exact natAbs_le_mul hg
theorem rg_le {n d : Int} (h : d ≠ 0) : (rg n d).natAbs ≤ d.natAbs := by
  obtain ⟨m, e, hg, hn, hd, he, ht, hb, hc⟩ := r_form (n := n) h
  conv => rhs; rw [hd]
  rw [Int.natAbs_mul]
  exact Nat.le_mul_of_pos_right _ (by omega)
theorem cancel {a b k : Int} (hk : k ≠ 0) (h : a * k = b * k) : a = b := Int.eq_of_mul_eq_mul_right hk h
/-- the value t / b is A / B -/
structure IsV (t b A B : Int) : Prop where
  b1 : 1 ≤ b
  gc : Int.gcd t b = 1
  B0 : B ≠ 0
  eq : t * B = A * b
theorem isV_new {n d : Int} (h : d ≠ 0) : IsV (rt n d) (rb n d) n d := ⟨rb_pos h, r_gcd h, h, r_cross h⟩
/-- another writing of the same value -/
theorem IsV.to {t b A B A' B' : Int} (v : IsV t b A B) (h0 : B' ≠ 0) (h : A * B' = A' * B) : IsV t b A' B' :=
  ⟨v.b1, v.gc, h0, cancel v.B0 (by have := v.eq; grind)⟩
theorem IsV.int (i : Int) : IsV i 1 i 1 := ⟨by omega, by simp, by omega, rfl⟩
section
variable {t b A B t' b' A' B' : Int}
theorem IsV.ne (v : IsV t b A B) : b ≠ 0 := by have := v.b1; omega
theorem mul_ne {x y : Int} (hx : x ≠ 0) (hy : y ≠ 0) : x * y ≠ 0 := Int.mul_ne_zero hx hy
theorem add_ok (v : IsV t b A B) (w : IsV t' b' A' B') : IsV (rt (t * b' + t' * b) (b * b')) (rb (t * b' + t' * b) (b * b')) (A * B' + A' * B) (B * B') :=
  (isV_new (mul_ne v.ne w.ne)).to (mul_ne v.B0 w.B0) (by have := v.eq; have := w.eq; grind)
theorem sub_ok (v : IsV t b A B) (w : IsV t' b' A' B') : IsV (rt (t * b' - t' * b) (b * b')) (rb (t * b' - t' * b) (b * b')) (A * B' - A' * B) (B * B') :=
  (isV_new (mul_ne v.ne w.ne)).to (mul_ne v.B0 w.B0) (by have := v.eq; have := w.eq; grind)
theorem mul_ok (v : IsV t b A B) (w : IsV t' b' A' B') : IsV (rt (t * t') (b * b')) (rb (t * t') (b * b')) (A * A') (B * B') :=
  (isV_new (mul_ne v.ne w.ne)).to (mul_ne v.B0 w.B0) (by have := v.eq; have := w.eq; grind)
theorem top_zero (w : IsV t b A B) : t = 0 ↔ A = 0 := by
  have e := w.eq
  constructor
  · intro h
    subst h
    rw [Int.zero_mul] at e
    rcases Int.mul_eq_zero.mp e.symm with h | h
    · exact h
    · exact absurd h w.ne
  · intro h
    subst h
    rw [Int.zero_mul] at e
    rcases Int.mul_eq_zero.mp e with h | h
    · exact h
    · exact absurd h w.B0
theorem over_ok (v : IsV t b A B) (w : IsV t' b' A' B') (h : A' ≠ 0) : IsV (rt (t * b') (b * t')) (rb (t * b') (b * t')) (A * B') (B * A') := by
  have h' : t' ≠ 0 := fun z => h ((top_zero w).mp z)
  exact (isV_new (mul_ne v.ne h')).to (mul_ne v.B0 h) (by have := v.eq; have := w.eq; grind)
theorem neg_ok (v : IsV t b A B) : IsV (rt (-t) b) (rb (-t) b) (-A) B :=
  (isV_new v.ne).to v.B0 (by have := v.eq; grind)
theorem pos_ok (v : IsV t b A B) : IsV (rt t b) (rb t b) A B := (isV_new v.ne).to v.B0 v.eq
theorem fdiv_scale {a b k : Int} (hk : k ≠ 0) : (k * a).fdiv (k * b) = a.fdiv b := by
  by_cases q : 0 < k
  · exact Int.mul_fdiv_mul_of_pos _ _ q
  · have e : (-(-k * a)).fdiv (-(-k * b)) = (-k * a).fdiv (-k * b) := Int.neg_fdiv_neg _ _
    rw [Int.neg_mul, Int.neg_mul, Int.neg_neg, Int.neg_neg] at e
    rw [e, ← Int.neg_mul, ← Int.neg_mul]
    exact Int.mul_fdiv_mul_of_pos _ _ (by omega)
theorem floor_same {p q P Q : Int} (hq : q ≠ 0) (hQ : Q ≠ 0) (h : p * Q = P * q) : p.fdiv q = P.fdiv Q := by
  have h1 : (p * Q).fdiv (q * Q) = p.fdiv q := by rw [Int.mul_comm p, Int.mul_comm q]; exact fdiv_scale hQ
  have h2 : (P * q).fdiv (Q * q) = P.fdiv Q := by rw [Int.mul_comm P, Int.mul_comm Q]; exact fdiv_scale hq
  rw [← h1, ← h2, h, Int.mul_comm q Q]
theorem floor_ok (v : IsV t b A B) (w : IsV t' b' A' B') (h : A' ≠ 0) : (t * b').fdiv (b * t') = (A * B').fdiv (B * A') := by
  have h' : t' ≠ 0 := fun z => h ((top_zero w).mp z)
  exact floor_same (mul_ne v.ne h') (mul_ne v.B0 h) (by have := v.eq; have := w.eq; grind)
end
end Pt
set_option exponentiation.threshold 100000
namespace Pt
open PySem PySem.Spec L2
open PySem.W (findIn isFn kitOne)
def SI (n : Int) : Str := Str.ofString (toString n)
def txtL (t : Int) : List Nat := if t < 0 then 45 :: TL.numL t.natAbs else TL.numL t.natAbs
theorem tl_SI (t : Int) : TL.tl (SI t) = txtL t := by
  unfold SI txtL
  cases t with
  | ofNat n => rw [if_neg (by simp only [Int.ofNat_eq_natCast]; omega)]; exact TL.tl_num n
  | negSucc n =>
    rw [if_pos (Int.negSucc_lt_zero n)]
    have h := TL.tl_num (n + 1)
    rw [TL.tl_ofString] at h ⊢
    have e : toString (Int.negSucc n) = "-" ++ toString ((n + 1 : Nat) : Int) := rfl
    rw [e, String.toList_append, List.map_append, h]
    rfl
theorem SI_nat (n : Nat) : TL.tl (SI n) = TL.numL n := TL.tl_num n
theorem ten60 : (10 : Nat) ^ 60 < 2 ^ 200 := by decide +kernel
theorem numL60 {n : Nat} (h : n < 10 ^ 60) : (TL.numL n).length ≤ 60 := TL.numL_len (by decide) h
theorem numL_head : ∀ n : Nat, 1 ≤ n → ∃ c r, TL.numL n = c :: r ∧ 49 ≤ c := by
  intro n
  induction n using Nat.strongRecOn with
  | ind n ih =>
    intro h
    by_cases h1 : n < 10
    · exact ⟨48 + n, [], TL.numL_lt h1, by omega⟩
    · obtain ⟨c, r, e, k⟩ := ih (n / 10) (by omega) (by omega)
      exact ⟨c, r ++ [48 + n % 10], by rw [TL.numL_step (by omega), e, List.cons_append], k⟩
theorem len_SI {t : Int} (h : t.natAbs < 10 ^ 60) : (SI t).length ≤ 61 := by
  rw [TL.len_tl, tl_SI]
  have := numL60 h
  unfold txtL
  split
  · rw [List.length_cons]; omega
  · omega
theorem int_SI {t : Int} (h : t.natAbs < 10 ^ 60) : intText? (SI t) = some t := by
  have hl := numL60 h
  have hlen := len_SI h
  by_cases k : t < 0
  · have e : (SI t).cps.toList = 45 :: TL.numL t.natAbs := by
      have := tl_SI t
      unfold txtL at this
      rw [if_pos k] at this
      exact this
    rw [intText_neg e (TL.numL_digits _) (TL.numL_ne _) (by omega), TL.numL_val]
    exact congrArg some (by omega)
  · have e : (SI t).cps.toList = TL.numL t.natAbs := by
      have := tl_SI t
      unfold txtL at this
      rw [if_neg k] at this
      exact this
    rw [intText_digits (by rw [e]; exact TL.numL_digits _) (by rw [e]; exact TL.numL_ne _) (by omega), e, TL.numL_val]
    exact congrArg some (by omega)
theorem slash_tl : TL.tl (("/" : Str)) = [47] := by decide +kernel
theorem minus_tl : TL.tl (("-" : Str)) = [45] := by decide +kernel
theorem no_slash (t : Int) : ¬ (47 : Nat) ∈ TL.tl (SI t) := by
  rw [tl_SI]
  have := TL.numL_free (n := t.natAbs) (s := 47) (by omega)
  unfold txtL
  split
  · intro h
    rcases List.mem_cons.mp h with h | h
    · omega
    · exact this h
  · exact this
/-- the text of a fraction in lowest terms -/
def ratText (t b : Int) : Str := if b = 1 then SI t else SI t ++ "/" ++ SI b
theorem part_one {t : Int} : Txt.partition (SI t) "/" = (SI t, Str.empty, Str.empty) := TL.partition_none slash_tl (no_slash t)
theorem part_two {t b : Int} : Txt.partition (SI t ++ "/" ++ SI b) "/" = (SI t, ("/" : Str), SI b) := TL.partition_app slash_tl (no_slash t)
theorem subAt_head {x : Str} {c : Nat} {r : List Nat} (e : TL.tl x = c :: r) : Builtin.Str.subAt x "-" 0 = decide (c = 45) := by
  have h : x.cps = (c :: r).toArray := by rw [← e]
  unfold Builtin.Str.subAt
  rw [h]
  have h1 : ((c :: r).toArray.extract 0 (0 + (("-" : Str)).length)) = #[c] := by
    have : (("-" : Str)).length = 1 := by decide +kernel
    rw [this]
    apply Array.ext'
    simp
  rw [h1]
  have h2 : (("-" : Str)).cps = #[45] := by decide +kernel
  rw [h2]
  by_cases k : c = 45
  · subst k
    rfl
  · rw [decide_eq_false k]
    refine Bool.eq_false_iff.mpr fun z => k ?_
    have := beq_iff_eq.mp z
    simpa using this
theorem rp_SI (t : Int) : Txt.removeprefix (SI t) "-" = SI t.natAbs := by
  rw [StrLaws.removeprefix_eq]
  have hl : (("-" : Str)).length = 1 := by decide +kernel
  rw [hl]
  have e := tl_SI t
  unfold txtL at e
  obtain ⟨c, r, hc⟩ : ∃ c r, TL.numL t.natAbs = c :: r := by
    cases h : TL.numL t.natAbs with
    | nil => exact absurd h (TL.numL_ne _)
    | cons c r => exact ⟨c, r, rfl⟩
  by_cases k : t < 0
  · rw [if_pos k] at e
    have hlen : (SI t).length = (TL.numL t.natAbs).length + 1 := by rw [TL.len_tl, e, List.length_cons]
    rw [subAt_head e, if_pos (by rw [hlen]; simp)]
    apply TL.ext_tl
    rw [TL.tl_mk, SI_nat, hlen]
    have : (SI t).cps.toList = 45 :: TL.numL t.natAbs := e
    rw [this]
    simp
  · rw [if_neg k, hc] at e
    have h48 := TL.numL_digits t.natAbs c (by rw [hc]; simp)
    rw [subAt_head e, if_neg (by rw [decide_eq_false (show ¬ c = 45 by omega)]; simp)]
    apply TL.ext_tl
    rw [SI_nat, e, hc]
theorem digits_all {n : Nat} {c : Nat} (h : c ∈ TL.numL n) : decide (c ∈ TL.tl (("0123456789" : Str))) = true := by
  have hd : TL.tl (("0123456789" : Str)) = [48, 49, 50, 51, 52, 53, 54, 55, 56, 57] := by decide +kernel
  have := TL.numL_digits n c h
  rw [hd]
  apply decide_eq_true
  simp only [List.mem_cons, List.not_mem_nil, or_false]
  omega
theorem ratText_inj_pos {b : Int} (h : 1 ≤ b) : SI b = SI (b.natAbs : Nat) := congrArg SI (by omega)
theorem len_ratText {t b : Int} (h : t.natAbs < 10 ^ 60) (k : b.natAbs < 10 ^ 60) : (ratText t b).length ≤ 123 := by
  have h1 := len_SI h
  have h2 := len_SI k
  unfold ratText
  split
  · omega
  · have h3 : (("/" : Str)).length = 1 := by decide +kernel
    rw [TL.len_tl, TL.tl_append, TL.tl_append, List.length_append, List.length_append, ← TL.len_tl, ← TL.len_tl, ← TL.len_tl, h3]
    omega
theorem log_small {t : Int} (h : t.natAbs < 2 ^ 200) : t.natAbs.log2 < 1920 := Nat.lt_of_le_of_lt (Nat.le_of_lt_succ (by
  by_cases z : t.natAbs = 0
  · rw [z]; decide
  · exact Nat.lt_succ_of_lt ((Nat.log2_lt z).mpr h))) (by decide : 200 < 1920)
end Pt
namespace Pu
open PySem PySem.Spec PyProof.Rows L2
abbrev cSpace : Nat := 0
abbrev cRegion : Nat := 1
abbrev cTable : Nat := 2
abbrev cLinear : Nat := 3
abbrev cRatio : Nat := 4
abbrev cPartError : Nat := 20
abbrev cNoRatio : Nat := 21
abbrev cNoSpace : Nat := 22
abbrev cNoCell : Nat := 23
abbrev cNoAxis : Nat := 24
abbrev cNoMember : Nat := 25
abbrev cTwice : Nat := 26
abbrev cOtherSpace : Nat := 27
abbrev cNoTable : Nat := 28
abbrev cNoRows : Nat := 29
abbrev cNoLinear : Nat := 30
abbrev cNoQuotient : Nat := 31
abbrev cNoName : Nat := 32
abbrev cNoPart : Nat := 33
abbrev cFull : Nat := 34
abbrev cNoSuch : Nat := 35
abbrev cNoValues : Nat := 36
abbrev cNoOffer : Nat := 37
abbrev cNoAsked : Nat := 38
abbrev cNoTaking : Nat := 39
abbrev cNoMeasure : Nat := 40
abbrev cNotExtreme : Nat := 41
abbrev cNotConsistent : Nat := 42
abbrev cNoKind : Nat := 43
abbrev cNoRoll : Nat := 44
abbrev cBadText : Nat := 45
abbrev cBadLine : Nat := 46
abbrev cNoCommand : Nat := 47
abbrev cNoUndo : Nat := 48
abbrev cNoRedo : Nat := 49
abbrev csL : List Nat := [cRatio]
end Pu
namespace Pu
open PySem PySem.Spec PyProof.Rows L2
open Pt (rt rb SI ratText)
/-! ## what the functions promise -/
def S_is_integer : DFn := fun ds Q _ => ∃ d, ds = [d] ∧ okI csL d ∧ Q (.bl (isIntD d))
def S__law_integer : DFn := fun ds Q _ => ∃ d, ds = [d] ∧ okI csL d ∧ Q (.bl (isIntD d))
def S_common_divisor : DFn := fun ds Q _ => ∃ a b : Int, ds = [.int a, .int b] ∧ Q (.int (Int.gcd a b : Int))
def S__law_divisor : DFn := fun ds Q _ => ∃ a b : Int, ds = [.int a, .int b] ∧ Q (.int (Int.gcd a b : Int))
def isZ : D → Bool
  | .int i => i == 0
  | _ => false
/-- what is wrong with the two of a fraction -/
def wordR (x y : D) : Option Str := if isIntD x = false then some "top" else if isIntD y = false then some "bottom" else if isZ y = true then some "zero" else none
def S__law_due : DFn := fun ds Q _ => ∃ x y, ds = [x, y] ∧ okI csL x ∧ okI csL y ∧ Q (.str ((wordR x y).getD Str.empty))
def ratD (t b : Int) : D := .ins cRatio [.int t, .int b]
def I_Ratio : DIn := fun ds Q E => ∃ x y, ds = [x, y] ∧ okI csL x ∧ okI csL y ∧ (∀ b, y = .int b → b.natAbs < 2 ^ 1000) ∧ (∀ w, wordR x y = some w → E ⟨cNoRatio, [.str w]⟩) ∧ ∀ t b, x = .int t → y = .int b → b ≠ 0 → Q [.int (rt t b), .int (rb t b)]
def S_Ratio_text : DFn := fun ds Q _ => ∃ t b : Int, ds = [ratD t b] ∧ t.natAbs < 10 ^ 60 ∧ b.natAbs < 10 ^ 60 ∧ Q (.str (ratText t b))
def isSg (c : Nat) : Bool := decide (c ∈ (("0123456789" : Str)).cps.toList)
/-- a run of 1 to 60 digits -/
def isDg (s : Str) : Bool := decide (1 ≤ s.length) && decide (s.length ≤ 60) && s.cps.toList.all isSg
def S_is_digits : DFn := fun ds Q _ => ∃ s : Str, ds = [.str s] ∧ s.length ≤ 30000 ∧ Q (.bl (isDg s))
/-- s is the text of t / b -/
structure Good (s : Str) (t b : Int) : Prop where
  eq : s = ratText t b
  b1 : 1 ≤ b
  g : Int.gcd t b = 1
  st : t.natAbs < 10 ^ 60
  sb : b.natAbs < 10 ^ 60
def S_Ratio_read : DFn := fun ds Q E => ∃ d, ds = [d] ∧ okI csL d ∧ (∀ s, d = .str s → s.length ≤ 20000) ∧ (∀ s t b, d = .str s → Good s t b → Q (ratD t b)) ∧ ((∀ s t b, d = .str s → ¬ Good s t b) → E ⟨cNoRatio, [.str "text"]⟩)
def S__law_digits : DFn := fun ds Q _ => ∃ u : Str, ds = [.str u] ∧ u.length ≤ 20000 ∧ (∀ n : Nat, n < 10 ^ 60 → u = SI n → Q (.int n)) ∧ ((∀ n : Nat, n < 10 ^ 60 → u ≠ SI n) → Q (.int (-1)))
def S__law_fraction : DFn := fun ds Q _ => ∃ s : Str, ds = [.str s] ∧ s.length ≤ 20000 ∧ (∀ t b, Good s t b → Q (.tup [.int t, .int b])) ∧ ((∀ t b, ¬ Good s t b) → Q (.tup [.int 0, .int 0]))
def S__law_is_ratio : DFn := fun ds Q _ => ∃ t b A B : Int, ds = [ratD t b, .int A, .int B] ∧ 1 ≤ b ∧ Int.gcd t b = 1 ∧ t * B = A * b ∧ t.natAbs < 2 ^ 1000 ∧ b.natAbs < 2 ^ 1000 ∧ A.natAbs < 2 ^ 1000 ∧ B.natAbs < 2 ^ 1000 ∧ Q (.bl true)
/-- a drawn value -/
def val5 (d : D) : Prop := (∃ i : Int, d = .int i ∧ i.natAbs < 2 ^ 200) ∨ d = .bl true ∨ d = .non ∨ d = .str "3" ∨ d = ratD 2 3
def S__law_built : DFn := fun ds Q _ => ∃ x y al, ds = [x, y, .bl al] ∧ val5 x ∧ val5 y ∧ Q (.bl true)
def S__law_read : DFn := fun ds Q _ => ∃ d, ds = [d] ∧ okI csL d ∧ (∀ s, d = .str s → s.length ≤ 20000) ∧ Q (.bl true)
def S__law_far : DFn := fun ds Q _ => ∃ m : Int, ds = [.law, .int m] ∧ 1 ≤ m ∧ m ≤ 10 ^ 30 ∧ ∀ r : Int, r.natAbs ≤ 10 ^ 30 + 3 → Q (.int r)
def S__law_text : DFn := fun ds Q _ => ds = [.law] ∧ ∀ s : Str, s.length ≤ 19999 → Q (.str s)
def S__law_value : DFn := fun ds Q _ => ds = [.law] ∧ ∀ d, val5 d → Q d
end Pu
namespace Pu
open PySem PySem.Spec PyProof.Rows L2
/-! common_divisor: 0 one, 1 other -/
def rd_common_divisor : XSp := rSeq (rWhile (rTest (rBin oNe (rVar 1) (rC (.int 0)))) (rPar 0 1 (rCons (rVar 1) (rCons (rBin oMod (rVar 0) (rVar 1)) (rNil))))) (rRet (rFn oAbs (rCons (rVar 0) (rNil))))
abbrev n_common_divisor : List Str := ["one", "other"]
/-! is_integer: 0 thing -/
def rd_is_integer : XSp := rRet (rAnd (rUn (oIsi csL [.b "int"]) (rVar 0)) (rNot (rUn (oIsi csL [.b "bool"]) (rVar 0))))
abbrev n_is_integer : List Str := ["thing"]
/-! Ratio.__init__: 0 self, 1 top, 2 bottom, 3 shared -/
def rd_Ratio_init : XSp := rSeq (rIf (rTNot (rTest (rFn S_is_integer (rCons (rVar 1) (rNil))))) (rRaise (rExnA cNoRatio 1 (rCons (rC (.str "top")) (rNil)))) (rNext)) (rSeq (rIf (rTNot (rTest (rFn S_is_integer (rCons (rVar 2) (rNil))))) (rRaise (rExnA cNoRatio 1 (rCons (rC (.str "bottom")) (rNil)))) (rNext)) (rSeq (rIf (rTest (rBin oEq (rVar 2) (rC (.int 0)))) (rRaise (rExnA cNoRatio 1 (rCons (rC (.str "zero")) (rNil)))) (rNext)) (rSeq (rSet 3 (rFn S_common_divisor (rCons (rVar 1) (rCons (rVar 2) (rNil))))) (rSeq (rIf (rTest (rBin oLt (rVar 2) (rC (.int 0)))) (rSet 3 (rUn oNeg (rVar 3))) (rNext)) (rSeq (rPut [(cRatio, 0)] 0 (rBin oFdiv (rVar 1) (rVar 3))) (rPut [(cRatio, 1)] 0 (rBin oFdiv (rVar 2) (rVar 3))))))))
abbrev n_Ratio_init : List Str := ["self", "top", "bottom", "shared"]
/-! _law_integer: 0 _law_value_here -/
def rd__law_integer : XSp := rRet (rAnd (rUn (oIsi csL [.b "int"]) (rVar 0)) (rNot (rUn (oIsi csL [.b "bool"]) (rVar 0))))
abbrev n__law_integer : List Str := ["_law_value_here"]
/-! _law_due: 0 _law_top, 1 _law_bottom -/
def rd__law_due : XSp := rSeq (rIf (rTNot (rTest (rFn S__law_integer (rCons (rVar 0) (rNil))))) (rRet (rC (.str "top"))) (rNext)) (rSeq (rIf (rTNot (rTest (rFn S__law_integer (rCons (rVar 1) (rNil))))) (rRet (rC (.str "bottom"))) (rNext)) (rSeq (rIf (rTest (rBin oEq (rVar 1) (rC (.int 0)))) (rRet (rC (.str "zero"))) (rNext)) (rRet (rC (.str "")))))
abbrev n__law_due : List Str := ["_law_top", "_law_bottom"]
/-! _law_divisor: 0 _law_one, 1 _law_other, 2 _law_rest -/
def rd__law_divisor : XSp := rSeq (rWhile (rTest (rBin oNe (rVar 1) (rC (.int 0)))) (rSeq (rSet 2 (rBin oMod (rFn oInt (rCons (rVar 0) (rNil))) (rVar 1))) (rSeq (rSet 0 (rVar 1)) (rSet 1 (rVar 2))))) (rRet (rFn oAbs (rCons (rVar 0) (rNil))))
abbrev n__law_divisor : List Str := ["_law_one", "_law_other", "_law_rest"]
/-! _law_is_ratio: 0 _law_value_here, 1 _law_top, 2 _law_bottom -/
def rd__law_is_ratio : XSp := rSeq (rIf (rTNot (rTest (rUn (oIsi csL [.c cRatio]) (rVar 0)))) (rRet (rC (.bl false))) (rNext)) (rSeq (rIf (rTOr (rTNot (rTest (rFn S__law_integer (rCons (rFld [(cRatio, 0)] (rVar 0)) (rNil))))) (rTNot (rTest (rFn S__law_integer (rCons (rFld [(cRatio, 1)] (rVar 0)) (rNil)))))) (rRet (rC (.bl false))) (rNext)) (rSeq (rIf (rTOr (rTest (rBin oLt (rFld [(cRatio, 1)] (rVar 0)) (rC (.int 1)))) (rTest (rBin oNe (rFn S__law_divisor (rCons (rFld [(cRatio, 0)] (rVar 0)) (rCons (rFld [(cRatio, 1)] (rVar 0)) (rNil)))) (rC (.int 1))))) (rRet (rC (.bl false))) (rNext)) (rRet (rBin oEq (rBin oMul (rFld [(cRatio, 0)] (rVar 0)) (rVar 2)) (rBin oMul (rVar 1) (rFld [(cRatio, 1)] (rVar 0)))))))
abbrev n__law_is_ratio : List Str := ["_law_value_here", "_law_top", "_law_bottom"]
/-! _law_built: 0 _law_top, 1 _law_bottom, 2 _law_alone, 3 _law_answer, 4 e, 5 _law_word -/
def rd__law_built : XSp := rSeq (rSet 3 (rTup (rCons (rC (.str "refused")) (rCons (rC (.str "")) (rNil))))) (rSeq (rTry 4 [(cNoRatio, true)] (rIf (rTest (rVar 2)) (rSet 3 (rTup (rCons (rC (.str "told")) (rCons (rMake cRatio (fun xs => I_Ratio (xs ++ [.int 1])) (rCons (rVar 0) (rNil))) (rNil))))) (rSet 3 (rTup (rCons (rC (.str "told")) (rCons (rMake cRatio I_Ratio (rCons (rVar 0) (rCons (rVar 1) (rNil)))) (rNil)))))) (rSet 3 (rTup (rCons (rC (.str "refused")) (rCons (rXf [(cNoRatio, 0)] 4) (rNil)))))) (rSeq (rIf (rTest (rVar 2)) (rSet 1 (rC (.int 1))) (rNext)) (rSeq (rSet 5 (rFn S__law_due (rCons (rVar 0) (rCons (rVar 1) (rNil))))) (rSeq (rIf (rTest (rBin oNe (rVar 5) (rC (.str "")))) (rRet (rBin oEq (rVar 3) (rTup (rCons (rC (.str "refused")) (rCons (rVar 5) (rNil)))))) (rNext)) (rRet (rAnd (rBin oEq (rBin oIx (rVar 3) (rC (.int 0))) (rC (.str "told"))) (rFn S__law_is_ratio (rCons (rBin oIx (rVar 3) (rC (.int 1))) (rCons (rVar 0) (rCons (rVar 1) (rNil)))))))))))
abbrev n__law_built : List Str := ["_law_top", "_law_bottom", "_law_alone", "_law_answer", "e", "_law_word"]
/-! Ratio.text: 0 self -/
def rd_Ratio_text : XSp := rSeq (rIf (rTest (rBin oEq (rFld [(cRatio, 1)] (rVar 0)) (rC (.int 1)))) (rRet (rFn oStr (rCons (rFld [(cRatio, 0)] (rVar 0)) (rNil)))) (rNext)) (rRet (rFs3 (rFld [(cRatio, 0)] (rVar 0)) "/" (rFld [(cRatio, 1)] (rVar 0))))
abbrev n_Ratio_text : List Str := ["self"]
/-! is_digits: 0 text, 1 sign -/
def rd_is_digits : XSp := rRet (rAnd (rChain oLe oLe (rC (.int 1)) (rFn oLen (rCons (rVar 0) (rNil))) (rC (.int 60))) (rFn oAll (rCons (rNew (rLc [1] (rSigns (rVar 0)) (gN 1) (rYes) (rBin (oIn false) (rVar 1) (rC (.str "0123456789"))))) (rNil))))
abbrev n_is_digits : List Str := ["text", "sign"]
/-! Ratio.read: 0 text, 1 top, 2 slash, 3 bottom, 4 found -/
def rd_Ratio_read : XSp := rSeq (rIf (rTNot (rTest (rUn (oIsi csL [.b "str"]) (rVar 0)))) (rRaise (rExnA cNoRatio 1 (rCons (rC (.str "text")) (rNil)))) (rNext)) (rSeq (rAsg (rStr2 fPart (rVar 0) (rC (.str "/"))) (gU 3 (gsC (gN 1) (gsC (gN 2) (gsC (gN 3) (gsN)))))) (rSeq (rIf (rTest (rBin oEq (rVar 2) (rC (.str "")))) (rSet 3 (rC (.str "1"))) (rNext)) (rSeq (rIf (rTOr (rTNot (rTest (rFn S_is_digits (rCons (rStr2 fRmp (rVar 1) (rC (.str "-"))) (rNil))))) (rTOr (rTNot (rTest (rFn S_is_digits (rCons (rVar 3) (rNil))))) (rTest (rBin oEq (rBin oIx (rVar 3) (rC (.int 0))) (rC (.str "0")))))) (rRaise (rExnA cNoRatio 1 (rCons (rC (.str "text")) (rNil)))) (rNext)) (rSeq (rSet 4 (rMake cRatio I_Ratio (rCons (rFn oIntT (rCons (rVar 1) (rNil))) (rCons (rFn oIntT (rCons (rVar 3) (rNil))) (rNil))))) (rSeq (rIf (rTest (rBin oNe (rMeth [(cRatio, S_Ratio_text)] (rVar 4) rNil) (rVar 0))) (rRaise (rExnA cNoRatio 1 (rCons (rC (.str "text")) (rNil)))) (rNext)) (rRet (rVar 4)))))))
abbrev n_Ratio_read : List Str := ["text", "top", "slash", "bottom", "found"]
/-! _law_digits: 0 _law_text_here, 1 _law_char -/
def rd__law_digits : XSp := rSeq (rIf (rTOr (rTest (rBin oEq (rVar 0) (rC (.str "")))) (rTOr (rTest (rBin oGt (rFn oLen (rCons (rVar 0) (rNil))) (rC (.int 60)))) (rTAnd (rTest (rBin oEq (rBin oIx (rVar 0) (rC (.int 0))) (rC (.str "0")))) (rTest (rBin oGt (rFn oLen (rCons (rVar 0) (rNil))) (rC (.int 1))))))) (rRet (rUn oNeg (rC (.int 1)))) (rNext)) (rSeq (rFor (rSigns (rVar 0)) (gN 1) (rIf (rTest (rBin (oIn true) (rVar 1) (rC (.str "0123456789")))) (rRet (rUn oNeg (rC (.int 1)))) (rNext))) (rRet (rFn oIntT (rCons (rVar 0) (rNil)))))
abbrev n__law_digits : List Str := ["_law_text_here", "_law_char"]
/-! _law_fraction: 0 _law_text_here, 1 _law_parts, 2 _law_upper, 3 _law_sign, 4 _law_top, 5 _law_bottom -/
def rd__law_fraction : XSp := rSeq (rSet 1 (rStr2 fSplit (rVar 0) (rC (.str "/")))) (rSeq (rSet 2 (rBin oIx (rVar 1) (rC (.int 0)))) (rSeq (rSet 3 (rC (.int 1))) (rSeq (rIf (rTest (rBin oEq (rSl (rVar 2) none (some (rC (.int 1)))) (rC (.str "-")))) (rSeq (rSet 3 (rUn oNeg (rC (.int 1)))) (rSet 2 (rSl (rVar 2) (some (rC (.int 1))) none))) (rNext)) (rSeq (rSet 4 (rFn S__law_digits (rCons (rVar 2) (rNil)))) (rSeq (rSet 5 (rC (.int 1))) (rSeq (rIf (rTest (rBin oEq (rFn oLen (rCons (rVar 1) (rNil))) (rC (.int 2)))) (rSet 5 (rFn S__law_digits (rCons (rBin oIx (rVar 1) (rC (.int 1))) (rNil)))) (rNext)) (rSeq (rIf (rTOr (rTest (rBin oGt (rFn oLen (rCons (rVar 1) (rNil))) (rC (.int 2)))) (rTOr (rTest (rBin oLt (rVar 4) (rC (.int 0)))) (rTOr (rTest (rBin oLt (rVar 5) (rC (.int 1)))) (rTAnd (rTest (rBin oEq (rFn oLen (rCons (rVar 1) (rNil))) (rC (.int 2)))) (rTest (rBin oLt (rVar 5) (rC (.int 2)))))))) (rRet (rTup (rCons (rC (.int 0)) (rCons (rC (.int 0)) (rNil))))) (rNext)) (rSeq (rIf (rTOr (rTAnd (rTest (rBin oEq (rVar 4) (rC (.int 0)))) (rTest (rBin oLt (rVar 3) (rC (.int 0))))) (rTest (rBin oNe (rFn S__law_divisor (rCons (rVar 4) (rCons (rVar 5) (rNil)))) (rC (.int 1))))) (rRet (rTup (rCons (rC (.int 0)) (rCons (rC (.int 0)) (rNil))))) (rNext)) (rRet (rTup (rCons (rBin oMul (rVar 3) (rVar 4)) (rCons (rVar 5) (rNil)))))))))))))
abbrev n__law_fraction : List Str := ["_law_text_here", "_law_parts", "_law_upper", "_law_sign", "_law_top", "_law_bottom"]
/-! _law_read: 0 _law_text_here, 1 _law_answer, 2 e, 3 _law_due_here -/
def rd__law_read : XSp := rSeq (rSet 1 (rTup (rCons (rC (.str "refused")) (rCons (rC (.str "")) (rCons (rC (.bl true)) (rNil)))))) (rSeq (rTry 2 [(cNoRatio, true)] (rSet 1 (rTup (rCons (rC (.str "told")) (rCons (rFn S_Ratio_read (rCons (rVar 0) (rNil))) (rCons (rC (.bl true)) (rNil)))))) (rSet 1 (rTup (rCons (rC (.str "refused")) (rCons (rXf [(cNoRatio, 0)] 2) (rCons (rAnd (rIsX [(cNoRatio, true)] 2) (rIsX [(cNoRatio, true)] 2)) (rNil))))))) (rSeq (rSet 3 (rTup (rCons (rC (.int 0)) (rCons (rC (.int 0)) (rNil))))) (rSeq (rIf (rTest (rUn (oIsi csL [.b "str"]) (rVar 0))) (rSet 3 (rFn S__law_fraction (rCons (rVar 0) (rNil)))) (rNext)) (rSeq (rIf (rTest (rBin oEq (rBin oIx (rVar 3) (rC (.int 1))) (rC (.int 0)))) (rRet (rBin oEq (rVar 1) (rTup (rCons (rC (.str "refused")) (rCons (rC (.str "text")) (rCons (rC (.bl true)) (rNil))))))) (rNext)) (rRet (rAnd (rBin oEq (rBin oIx (rVar 1) (rC (.int 0))) (rC (.str "told"))) (rFn S__law_is_ratio (rCons (rBin oIx (rVar 1) (rC (.int 1))) (rCons (rBin oIx (rVar 3) (rC (.int 0))) (rCons (rBin oIx (rVar 3) (rC (.int 1))) (rNil)))))))))))
abbrev n__law_read : List Str := ["_law_text_here", "_law_answer", "e", "_law_due_here"]
/-! _law_far: 0 _law_state, 1 _law_bound, 2 _law_kind, 3 _law_number, 4 _law_k -/
def rd__law_far : XSp := rSeq (rSet 2 (rFn oDraw (rCons (rVar 0) (rCons (rC (.int 4)) (rNil))))) (rSeq (rIf (rTest (rBin oEq (rVar 2) (rC (.int 0)))) (rRet (rBin oSub (rFn oDraw (rCons (rVar 0) (rCons (rC (.int 7)) (rNil)))) (rC (.int 3)))) (rNext)) (rSeq (rIf (rTest (rBin oEq (rVar 2) (rC (.int 1)))) (rRet (rBin oSub (rVar 1) (rFn oDraw (rCons (rVar 0) (rCons (rC (.int 3)) (rNil)))))) (rNext)) (rSeq (rIf (rTest (rBin oEq (rVar 2) (rC (.int 2)))) (rRet (rBin oSub (rFn oDraw (rCons (rVar 0) (rCons (rC (.int 3)) (rNil)))) (rVar 1))) (rNext)) (rSeq (rSet 3 (rC (.int 0))) (rSeq (rFor (rRange (rCons (rC (.int 4)) (rNil))) (gN 4) (rSet 3 (rBin oAdd (rBin oMul (rVar 3) (rBin oPow (rC (.int 10)) (rC (.int 9)))) (rFn oDraw (rCons (rVar 0) (rCons (rBin oPow (rC (.int 10)) (rC (.int 9))) (rNil))))))) (rRet (rBin oSub (rBin oMod (rFn oInt (rCons (rVar 3) (rNil))) (rBin oAdd (rBin oMul (rC (.int 2)) (rVar 1)) (rC (.int 1)))) (rVar 1))))))))
abbrev n__law_far : List Str := ["_law_state", "_law_bound", "_law_kind", "_law_number", "_law_k"]
/-! _law_text: 0 _law_state, 1 _law_kind, 2 _law_upper, 3 _law_text_here, 4 _law_at, 5 _law_char -/
def rd__law_text : XSp := rSeq (rSet 1 (rFn oDraw (rCons (rVar 0) (rCons (rC (.int 8)) (rNil))))) (rSeq (rIf (rTest (rBin oEq (rVar 1) (rC (.int 0)))) (rSeq (rSet 2 (rBin oAdd (rC (.str "1")) (rBin oMulS (rC (.str "0")) (rBin oAdd (rC (.int 58)) (rFn oDraw (rCons (rVar 0) (rCons (rC (.int 4)) (rNil)))))))) (rRet (rBin oAdd (rBin oAdd (rBin oAdd (rVar 2) (rC (.str "/1"))) (rBin oMulS (rC (.str "0")) (rBin oAdd (rC (.int 57)) (rFn oDraw (rCons (rVar 0) (rCons (rC (.int 4)) (rNil))))))) (rC (.str "1"))))) (rNext)) (rSeq (rIf (rTest (rBin oEq (rVar 1) (rC (.int 1)))) (rRet (rBin oMulS (rC (.str "7")) (rC (.int 5000)))) (rNext)) (rSeq (rSet 3 (rFn oStr (rCons (rFn S__law_far (rCons (rVar 0) (rCons (rBin oIx (rLst (rCons (rC (.int 3)) (rCons (rC (.int 10)) (rCons (rC (.int 1000)) (rCons (rBin oPow (rC (.int 10)) (rC (.int 9))) (rNil)))))) (rFn oDraw (rCons (rVar 0) (rCons (rC (.int 4)) (rNil))))) (rNil)))) (rNil)))) (rSeq (rIf (rTest (rBin oNe (rVar 1) (rC (.int 2)))) (rSet 3 (rBin oAdd (rBin oAdd (rVar 3) (rC (.str "/"))) (rFn oStr (rCons (rFn oAbs (rCons (rFn S__law_far (rCons (rVar 0) (rCons (rC (.int 12)) (rNil)))) (rNil))) (rNil))))) (rNext)) (rSeq (rIf (rTest (rBin oGt (rVar 1) (rC (.int 3)))) (rSeq (rSet 4 (rFn oDraw (rCons (rVar 0) (rCons (rBin oAdd (rFn oLen (rCons (rVar 3) (rNil))) (rC (.int 1))) (rNil))))) (rSeq (rSet 5 (rBin oIx (rC (.str "0123456789-/+ _.a")) (rFn oDraw (rCons (rVar 0) (rCons (rC (.int 17)) (rNil)))))) (rSet 3 (rBin oAdd (rBin oAdd (rSl (rVar 3) none (some (rVar 4))) (rVar 5)) (rSl (rVar 3) (some (rBin oAdd (rVar 4) (rFn oDraw (rCons (rVar 0) (rCons (rC (.int 2)) (rNil)))))) none))))) (rNext)) (rRet (rVar 3)))))))
abbrev n__law_text : List Str := ["_law_state", "_law_kind", "_law_upper", "_law_text_here", "_law_at", "_law_char"]
/-! _law_value: 0 _law_state, 1 _law_kind -/
def rd__law_value : XSp := rSeq (rSet 1 (rFn oDraw (rCons (rVar 0) (rCons (rC (.int 9)) (rNil))))) (rSeq (rIf (rTest (rBin oEq (rVar 1) (rC (.int 0)))) (rRet (rC (.int 0))) (rNext)) (rSeq (rIf (rTest (rBin oEq (rVar 1) (rC (.int 1)))) (rRet (rC (.bl true))) (rNext)) (rSeq (rIf (rTest (rBin oEq (rVar 1) (rC (.int 2)))) (rRet (rC .non)) (rNext)) (rSeq (rIf (rTest (rBin oEq (rVar 1) (rC (.int 3)))) (rRet (rC (.str "3"))) (rNext)) (rSeq (rIf (rTest (rBin oEq (rVar 1) (rC (.int 4)))) (rRet (rMake cRatio I_Ratio (rCons (rC (.int 2)) (rCons (rC (.int 3)) (rNil))))) (rNext)) (rRet (rFn S__law_far (rCons (rVar 0) (rCons (rBin oPow (rC (.int 10)) (rC (.int 30))) (rNil))))))))))
abbrev n__law_value : List Str := ["_law_state", "_law_kind"]
/-! law: 0 _law_script, 1 _law_state, 2 _law_top, 3 _law_bottom, 4 _law_text_here -/
def rd_law : XSp := rSeq (rSet 2 (rFn S__law_value (rCons (rVar 1) (rNil)))) (rSeq (rSet 3 (rFn S__law_value (rCons (rVar 1) (rNil)))) (rSeq (rIf (rTNot (rTest (rFn S__law_built (rCons (rVar 2) (rCons (rVar 3) (rCons (rBin oEq (rFn oDraw (rCons (rVar 1) (rCons (rC (.int 4)) (rNil)))) (rC (.int 0))) (rNil))))))) (rRet (rC (.bl false))) (rNext)) (rSeq (rSet 4 (rFn S__law_text (rCons (rVar 1) (rNil)))) (rSeq (rIf (rTOr (rTNot (rTest (rFn S__law_read (rCons (rVar 4) (rNil))))) (rTOr (rTNot (rTest (rFn S__law_read (rCons (rBin oAdd (rVar 4) (rC (.str " "))) (rNil))))) (rTNot (rTest (rFn S__law_read (rCons (rVar 4) (rNil))))))) (rRet (rC (.bl false))) (rNext)) (rRet (rFn S__law_read (rCons (rBin oIx (rLst (rCons (rC .non) (rCons (rC (.int 3)) (rCons (rLst (rCons (rC (.str "3")) (rNil))) (rCons (rMake cRatio (fun xs => I_Ratio (xs ++ [.int 1])) (rCons (rC (.int 3)) (rNil))) (rCons (rC (.bl true)) (rCons (rTup (rCons (rC (.str "3")) (rCons (rC (.str "4")) (rNil)))) (rNil)))))))) (rFn oDraw (rCons (rVar 1) (rCons (rC (.int 6)) (rNil))))) (rNil))))))))
abbrev n_law : List Str := ["_law_script", "_law_state", "_law_top", "_law_bottom", "_law_text_here"]
end Pu
namespace Pu
open PySem PySem.Spec PyProof.Rows L2
local macro_rules | `(tactic| sizeOf_list_dec) => `(tactic| (repeat (first | (with_reducible apply rd_cons) | ((with_reducible apply rd_var); case hg => rfl) | (with_reducible apply rd_nil) | (with_reducible apply rd_c) | (with_reducible apply rd_fn) | (with_reducible apply rd_bin) | (with_reducible apply rd_seq) | (with_reducible apply rd_next) | (with_reducible apply rd_test) | (with_reducible apply rd_onB) | (with_reducible apply rd_if) | (with_reducible apply rd_or) | (with_reducible apply rd_not) | (with_reducible apply rd_ret) | (with_reducible apply rd_set) | (with_reducible apply rd_gN) | (with_reducible apply rd_gsC) | (with_reducible apply rd_gsN) | (with_reducible apply rd_un) | (with_reducible apply rd_tup) | (with_reducible apply rd_le) | (with_reducible apply rd_eqI) | (with_reducible apply rd_neI) | (with_reducible apply rd_retN) | (with_reducible apply rd_brk) | (with_reducible apply rd_cont) | (with_reducible apply rd_setN) | (with_reducible apply rd_ownSet) | (with_reducible apply rd_asg) | (with_reducible apply rd_drop) | (with_reducible apply rd_for) | (with_reducible apply rd_raise) | (with_reducible apply rd_exn) | (with_reducible apply rd_and) | (with_reducible apply rd_yes) | (with_reducible apply rd_eand) | (with_reducible apply rd_eor) | (with_reducible apply rd_enot) | (with_reducible apply rd_ifE) | (with_reducible apply rd_lst) | (with_reducible apply rd_sz) | (with_reducible apply rd_new) | (with_reducible apply rd_wk) | (with_reducible apply rd_chain) | (with_reducible apply rd_make) | (with_reducible apply rd_star) | (with_reducible apply rd_items) | (with_reducible apply rd_enum) | (with_reducible apply rd_range) | (with_reducible apply rd_lc) | (with_reducible apply rd_lenSet) | (with_reducible apply rd_meth) | (with_reducible apply rd_sl) | (with_reducible apply rd_poN) | (with_reducible apply rd_poS) | (with_reducible apply rd_slT) | (with_reducible apply rd_slL) | (with_reducible apply rd_lt) | (with_reducible apply rd_ge) | (with_reducible apply rd_gt) | (with_reducible apply rd_addI) | (with_reducible apply rd_subI) | (with_reducible apply rd_negI) | (with_reducible apply rd_eqS) | (with_reducible apply rd_neS) | (with_reducible apply rd_isN) | (with_reducible apply rd_notN) | (with_reducible apply rd_isB) | (with_reducible apply rd_lenL) | (with_reducible apply rd_lenT) | (with_reducible apply rd_intI) | (with_reducible apply rd_listL) | (with_reducible apply rd_listT) | (with_reducible apply rd_tupL) | (with_reducible apply rd_tupT) | (with_reducible apply rd_ftup) | (with_reducible apply rd_inS) | ((with_reducible apply rd_app); case hg => rfl) | ((with_reducible apply rd_appF); case hg => rfl) | ((with_reducible apply rd_sFrz); case hg => rfl) | ((with_reducible apply rd_frzE); case hg => rfl) | ((with_reducible apply rd_tFrz); case hg => rfl) | ((with_reducible apply rd_gUt); case hg => rfl) | ((with_reducible apply rd_gUl); case hg => rfl) | (with_reducible apply rd_mkV1) | (with_reducible apply rd_mkV2) | (with_reducible apply rd_isS) | ((with_reducible apply rd_ivV); (case hg => rfl); (case hm => first | assumption | rfl)) | ((with_reducible apply rd_mxV); (case hg => rfl); (case hm => rfl)) | ((with_reducible apply rd_fxL); (case hg => rfl); (case hx => rfl); (case hm => rfl); (case hd => rfl)) | ((with_reducible apply rd_addL); (case hl => rfl)) | ((with_reducible apply rd_addS); (case hl => first | rfl | decide +kernel)) | ((with_reducible apply rd_k); (case hl => rfl)) | ((with_reducible apply rd_neK); (case hv => assumption)) | ((with_reducible apply rd_eqK); (case hv => assumption)) | ((with_reducible apply rd_fldV); (case hg => rfl); (case hm => rfl); (case hd => rfl)) | ((with_reducible apply rd_methV); (case hg => rfl); (case hm => rfl)) | ((with_reducible apply iteY); case e => rfl) | ((with_reducible apply iteN); case e => rfl))))
open Pt (rt rb SI ratText)
theorem rd_par {i j : Nat} {as : XAp} {G : List Sl} {P : Po} (h : as G (fun xs => match xs with
  | [x, y] => P.nx ((G.set i (.d x)).set j (.d y))
  | _ => False) (fun e => P.ex e G)) : rPar i j as G P := h
theorem gcd_zero_abs (x : Int) : ((Int.gcd x 0 : Nat) : Int) = if x < 0 then -x else x := by
  rw [Int.gcd_zero_right]
  split <;> omega
theorem pure_common_divisor : ∀ ds Q E, S_common_divisor ds Q E → ds.length = 2 ∧ rd_common_divisor (init0 n_common_divisor ds) (fnPo Q E) := by
  rintro ds Q E ⟨a, b, rfl, q⟩
  refine ⟨rfl, ?_⟩
  unfold rd_common_divisor
  sizeOf_list_dec
  refine ⟨fun m G => ∃ x y : Int, G = [.d (.int x), .d (.int y)] ∧ Int.gcd x y = Int.gcd a b ∧ m = y.natAbs, ⟨_, _, _, rfl, rfl, rfl⟩, ?_⟩
  rintro m G ⟨x, y, rfl, hg, rfl⟩
  sizeOf_list_dec
  refine iteB (fun h => ?_) (fun h => ?_)
  · have hy : y ≠ 0 := by simpa using h
    refine rd_par ?_
    sizeOf_list_dec
    refine ⟨hy, ?_⟩
    sizeOf_list_dec
    exact ⟨_, Pt.fmod_less x y hy, _, _, rfl, by rw [Pt.gcd_turn, hg], rfl⟩
  · have hy : y = 0 := by simpa using h
    subst hy
    sizeOf_list_dec
    show Q _
    rw [← gcd_zero_abs, hg]
    exact q
theorem pure__law_divisor : ∀ ds Q E, S__law_divisor ds Q E → ds.length = 2 ∧ rd__law_divisor (init0 n__law_divisor ds) (fnPo Q E) := by
  rintro ds Q E ⟨a, b, rfl, q⟩
  refine ⟨rfl, ?_⟩
  unfold rd__law_divisor
  sizeOf_list_dec
  refine ⟨fun m G => ∃ (x y : Int) (g : Sl), G = [.d (.int x), .d (.int y), g] ∧ Int.gcd x y = Int.gcd a b ∧ m = y.natAbs, ⟨_, _, _, _, rfl, rfl, rfl⟩, ?_⟩
  rintro m G ⟨x, y, g, rfl, hg, rfl⟩
  sizeOf_list_dec
  refine iteB (fun h => ?_) (fun h => ?_)
  · have hy : y ≠ 0 := by simpa using h
    sizeOf_list_dec
    refine ⟨hy, ?_⟩
    sizeOf_list_dec
    exact ⟨_, Pt.fmod_less x y hy, _, _, _, rfl, by rw [Pt.gcd_turn, hg], rfl⟩
  · have hy : y = 0 := by simpa using h
    subst hy
    sizeOf_list_dec
    show Q _
    rw [← gcd_zero_abs, hg]
    exact q
theorem pure_is_integer : ∀ ds Q E, S_is_integer ds Q E → ds.length = 1 ∧ rd_is_integer (init0 n_is_integer ds) (fnPo Q E) := by
  rintro ds Q E ⟨d, rfl, o, q⟩
  refine ⟨rfl, ?_⟩
  unfold rd_is_integer
  sizeOf_list_dec
  refine ⟨o, ?_⟩
  rw [isT_int]
  sizeOf_list_dec
  refine iteB (fun h => ?_) (fun h => ?_)
  · sizeOf_list_dec
    refine ⟨o, ?_⟩
    rw [isT_bool]
    sizeOf_list_dec
    cases d <;> first | exact q | (simp [isIntD] at h)
  · cases d <;> first | exact q | (simp [isIntD] at h)
theorem pure__law_integer : ∀ ds Q E, S__law_integer ds Q E → ds.length = 1 ∧ rd__law_integer (init0 n__law_integer ds) (fnPo Q E) := pure_is_integer
theorem isInt_eq {d : D} (h : isIntD d = true) : ∃ i, d = .int i := by
  cases d <;> first | exact ⟨_, rfl⟩ | cases h
theorem isZ_int (i : Int) : isZ (.int i) = (i == 0) := rfl
theorem pure__law_due : ∀ ds Q E, S__law_due ds Q E → ds.length = 2 ∧ rd__law_due (init0 n__law_due ds) (fnPo Q E) := by
  rintro ds Q E ⟨x, y, rfl, ox, oy, q⟩
  refine ⟨rfl, ?_⟩
  unfold wordR at q
  unfold rd__law_due
  sizeOf_list_dec
  refine ⟨_, rfl, ox, ?_⟩
  sizeOf_list_dec
  cases hx : isIntD x with
  | false =>
    sizeOf_list_dec
    rw [hx] at q
    exact q
  | true =>
    sizeOf_list_dec
    rw [hx] at q
    refine ⟨_, rfl, oy, ?_⟩
    sizeOf_list_dec
    cases hy : isIntD y with
    | false =>
      sizeOf_list_dec
      rw [hy] at q
      exact q
    | true =>
      sizeOf_list_dec
      rw [hy] at q
      obtain ⟨j, rfl⟩ := isInt_eq hy
      sizeOf_list_dec
      refine iteB (fun h => ?_) (fun h => ?_)
      · sizeOf_list_dec
        rw [isZ_int, h] at q
        exact q
      · sizeOf_list_dec
        rw [isZ_int, h] at q
        exact q
theorem log_1000 {y : Int} (h : y.natAbs < 2 ^ 1000) : y.natAbs.log2 < 9000 := by
  by_cases z : y.natAbs = 0
  · rw [z]; decide
  · have := (Nat.log2_lt z).mpr h
    omega
theorem pure_Ratio_init : ∀ ds Q E, I_Ratio ds Q E → ds.length = 2 ∧ rd_Ratio_init (initO n_Ratio_init cRatio ds) (initPo cRatio 2 Q E) := by
  rintro ds Q E ⟨x, y, rfl, ox, oy, hb, he, hq⟩
  refine ⟨rfl, ?_⟩
  unfold wordR at he
  unfold rd_Ratio_init
  sizeOf_list_dec
  refine ⟨_, rfl, ox, ?_⟩
  sizeOf_list_dec
  cases hx : isIntD x with
  | false =>
    sizeOf_list_dec
    rw [hx] at he
    exact ⟨rfl, by decide, he _ rfl⟩
  | true =>
    sizeOf_list_dec
    rw [hx] at he
    refine ⟨_, rfl, oy, ?_⟩
    sizeOf_list_dec
    cases hy : isIntD y with
    | false =>
      sizeOf_list_dec
      rw [hy] at he
      exact ⟨rfl, by decide, he _ rfl⟩
    | true =>
      sizeOf_list_dec
      rw [hy] at he
      obtain ⟨t, rfl⟩ := isInt_eq hx
      obtain ⟨b, rfl⟩ := isInt_eq hy
      sizeOf_list_dec
      refine iteB (fun h => ?_) (fun h => ?_)
      · sizeOf_list_dec
        rw [isZ_int, h] at he
        exact ⟨rfl, by decide, he _ rfl⟩
      · have h0 : b ≠ 0 := by simpa using h
        sizeOf_list_dec
        refine ⟨_, _, rfl, ?_⟩
        sizeOf_list_dec
        obtain ⟨m, e, hr0, _⟩ := Pt.r_form (n := t) h0
        have fin : ∀ g : Int, g = Pt.rg t b → rSeq (rPut [(cRatio, 0)] 0 (rBin oFdiv (rVar 1) (rVar 3))) (rPut [(cRatio, 1)] 0 (rBin oFdiv (rVar 2) (rVar 3))) [.obj cRatio [], .d (.int t), .d (.int b), .d (.int g)] (initPo cRatio 2 Q E) := by
          rintro g rfl
          sizeOf_list_dec
          have hl : (Pt.rg t b).natAbs.log2 < 9000 := log_1000 (Nat.lt_of_le_of_lt (Pt.rg_le h0) (hb b rfl))
          refine rd_put (m := [(cRatio, 0)]) (cc := cRatio) (ds := []) rfl rfl ?_
          sizeOf_list_dec
          refine ⟨⟨hr0, hl⟩, ?_⟩
          sizeOf_list_dec
          show rPut [(cRatio, 1)] 0 (rBin oFdiv (rVar 2) (rVar 3)) [Sl.obj cRatio [.int (Pt.rt t b)], Sl.d (D.int t), Sl.d (D.int b), Sl.d (D.int (Pt.rg t b))] (initPo cRatio 2 Q E)
          refine rd_put (m := [(cRatio, 1)]) (cc := cRatio) (ds := [.int (Pt.rt t b)]) rfl rfl ?_
          sizeOf_list_dec
          refine ⟨⟨hr0, hl⟩, ?_⟩
          exact ⟨_, rfl, rfl, hq t b rfl rfl h0⟩
        refine iteB (fun h => ?_) (fun h => ?_)
        · sizeOf_list_dec
          refine fin _ ?_
          unfold Pt.rg
          rw [if_pos (by simpa using h)]
        · sizeOf_list_dec
          refine fin _ ?_
          unfold Pt.rg
          rw [if_neg (by simpa using h)]
end Pu
namespace Pu
open PySem PySem.Spec PyProof.Rows L2
local macro_rules | `(tactic| sizeOf_list_dec) => `(tactic| (repeat (first | (with_reducible apply rd_cons) | ((with_reducible apply rd_var); case hg => rfl) | (with_reducible apply rd_nil) | (with_reducible apply rd_c) | (with_reducible apply rd_fn) | (with_reducible apply rd_bin) | (with_reducible apply rd_seq) | (with_reducible apply rd_next) | (with_reducible apply rd_test) | (with_reducible apply rd_onB) | (with_reducible apply rd_if) | (with_reducible apply rd_or) | (with_reducible apply rd_not) | (with_reducible apply rd_ret) | (with_reducible apply rd_set) | (with_reducible apply rd_gN) | (with_reducible apply rd_gsC) | (with_reducible apply rd_gsN) | (with_reducible apply rd_un) | (with_reducible apply rd_tup) | (with_reducible apply rd_le) | (with_reducible apply rd_eqI) | (with_reducible apply rd_neI) | (with_reducible apply rd_retN) | (with_reducible apply rd_brk) | (with_reducible apply rd_cont) | (with_reducible apply rd_setN) | (with_reducible apply rd_ownSet) | (with_reducible apply rd_asg) | (with_reducible apply rd_drop) | (with_reducible apply rd_for) | (with_reducible apply rd_raise) | (with_reducible apply rd_exn) | (with_reducible apply rd_and) | (with_reducible apply rd_yes) | (with_reducible apply rd_eand) | (with_reducible apply rd_eor) | (with_reducible apply rd_enot) | (with_reducible apply rd_ifE) | (with_reducible apply rd_lst) | (with_reducible apply rd_sz) | (with_reducible apply rd_new) | (with_reducible apply rd_wk) | (with_reducible apply rd_chain) | (with_reducible apply rd_make) | (with_reducible apply rd_star) | (with_reducible apply rd_items) | (with_reducible apply rd_enum) | (with_reducible apply rd_range) | (with_reducible apply rd_lc) | (with_reducible apply rd_lenSet) | (with_reducible apply rd_meth) | (with_reducible apply rd_sl) | (with_reducible apply rd_poN) | (with_reducible apply rd_poS) | (with_reducible apply rd_slT) | (with_reducible apply rd_slL) | (with_reducible apply rd_lt) | (with_reducible apply rd_ge) | (with_reducible apply rd_gt) | (with_reducible apply rd_addI) | (with_reducible apply rd_subI) | (with_reducible apply rd_negI) | (with_reducible apply rd_eqS) | (with_reducible apply rd_neS) | (with_reducible apply rd_isN) | (with_reducible apply rd_notN) | (with_reducible apply rd_isB) | (with_reducible apply rd_lenL) | (with_reducible apply rd_lenT) | (with_reducible apply rd_intI) | (with_reducible apply rd_listL) | (with_reducible apply rd_listT) | (with_reducible apply rd_tupL) | (with_reducible apply rd_tupT) | (with_reducible apply rd_ftup) | (with_reducible apply rd_inS) | ((with_reducible apply rd_app); case hg => rfl) | ((with_reducible apply rd_appF); case hg => rfl) | ((with_reducible apply rd_sFrz); case hg => rfl) | ((with_reducible apply rd_frzE); case hg => rfl) | ((with_reducible apply rd_tFrz); case hg => rfl) | ((with_reducible apply rd_gUt); case hg => rfl) | ((with_reducible apply rd_gUl); case hg => rfl) | (with_reducible apply rd_mkV1) | (with_reducible apply rd_mkV2) | (with_reducible apply rd_isS) | ((with_reducible apply rd_ivV); (case hg => rfl); (case hm => first | assumption | rfl)) | ((with_reducible apply rd_mxV); (case hg => rfl); (case hm => rfl)) | ((with_reducible apply rd_fxL); (case hg => rfl); (case hx => rfl); (case hm => rfl); (case hd => rfl)) | ((with_reducible apply rd_addL); (case hl => rfl)) | ((with_reducible apply rd_addS); (case hl => first | rfl | decide +kernel)) | ((with_reducible apply rd_k); (case hl => rfl)) | ((with_reducible apply rd_neK); (case hv => assumption)) | ((with_reducible apply rd_eqK); (case hv => assumption)) | ((with_reducible apply rd_fldV); (case hg => rfl); (case hm => rfl); (case hd => rfl)) | ((with_reducible apply rd_methV); (case hg => rfl); (case hm => rfl)) | ((with_reducible apply iteY); case e => rfl) | ((with_reducible apply iteN); case e => rfl))))
open Pt (rt rb SI ratText)
theorem mulB {n m : Nat} {x y : Int} (h : x.natAbs < 2 ^ n) (k : y.natAbs < 2 ^ m) (hn : 0 < n := by decide) (hm : 0 < m := by decide) (z : n + m ≤ 1000000 := by decide) : CMulW x y := wide_mul h k hn hm z
theorem pure__law_far : ∀ ds Q E, S__law_far ds Q E → ds.length = 2 ∧ rd__law_far (init0 n__law_far ds) (fnPo Q E) := by
  rintro ds Q E ⟨m, rfl, m1, m2, q⟩
  refine ⟨rfl, ?_⟩
  unfold rd__law_far
  sizeOf_list_dec
  refine draw_nat (m := 4) (by decide) (by decide) fun k hk => ?_
  sizeOf_list_dec
  refine iteB (fun h => ?_) (fun h => ?_)
  · sizeOf_list_dec
    refine draw_nat (m := 7) (by decide) (by decide) fun r hr => ?_
    sizeOf_list_dec
    exact q _ (by omega)
  · sizeOf_list_dec
    refine iteB (fun h => ?_) (fun h => ?_)
    · sizeOf_list_dec
      refine draw_nat (m := 3) (by decide) (by decide) fun r hr => ?_
      sizeOf_list_dec
      exact q _ (by omega)
    · sizeOf_list_dec
      refine iteB (fun h => ?_) (fun h => ?_)
      · sizeOf_list_dec
        refine draw_nat (m := 3) (by decide) (by decide) fun r hr => ?_
        sizeOf_list_dec
        exact q _ (by omega)
      · sizeOf_list_dec
        refine ⟨by decide, by decide, ?_⟩
        refine forP_rng (I := fun i G => ∃ (N : Int) (g : Sl), N.natAbs < 2 ^ (30 * (i + 1)) ∧ G = [.d .law, .d (.int m), .d (.int k), .d (.int N), g]) 4 ?_ ?_ _ ⟨0, _, by decide, rfl⟩
        · rintro i G K hi ⟨N, g, hN, rfl⟩ hK
          sizeOf_list_dec
          refine ⟨⟨by decide, by decide, by decide⟩, ?_⟩
          sizeOf_list_dec
          refine ⟨mulB (m := 30) hN (by decide) (by omega) (by decide) (by omega), ?_⟩
          sizeOf_list_dec
          refine ⟨⟨by decide, by decide, by decide⟩, ?_⟩
          sizeOf_list_dec
          refine ⟨_, rfl, by decide, by decide, fun r h0 h1 => ?_⟩
          sizeOf_list_dec
          refine hK _ ⟨_, _, ?_, rfl⟩
          have e : 2 ^ (30 * (i + 1 + 1)) = 2 ^ (30 * (i + 1)) * 2 ^ 30 := by rw [← Nat.pow_add]; rfl
          rw [e]
          have e9 : (10 : Int) ^ ((9 : Int).toNat) = 1000000000 := by decide
          dsimp only at h1 ⊢
          rw [e9] at h1 ⊢
          have : (2 : Nat) ^ 30 = 1073741824 := by decide
          rw [this]
          generalize (2 : Nat) ^ (30 * (i + 1)) = p at hN
          omega
        · rintro G ⟨N, g, hN, rfl⟩
          sizeOf_list_dec
          refine ⟨mulB (n := 2) (m := 200) (by decide) (by omega), ?_⟩
          sizeOf_list_dec
          refine ⟨by dsimp only; omega, ?_⟩
          sizeOf_list_dec
          have h1 := Int.fmod_nonneg_of_pos N (b := 2 * m + 1) (by omega)
          have h2 := Int.fmod_lt_of_pos N (b := 2 * m + 1) (by omega)
          exact q _ (by dsimp only; omega)
theorem val5_I {d : D} (h : val5 d) : okI csL d ∧ ∀ b, d = .int b → b.natAbs < 2 ^ 1000 := by
  rcases h with ⟨i, rfl, h⟩ | rfl | rfl | rfl | rfl
  · refine ⟨trivial, fun b e => ?_⟩
    cases e
    exact Nat.lt_trans h (Nat.pow_lt_pow_right (by decide) (by decide))
  · exact ⟨trivial, fun b e => by cases e⟩
  · exact ⟨trivial, fun b e => by cases e⟩
  · exact ⟨trivial, fun b e => by cases e⟩
  · exact ⟨List.mem_singleton.mpr rfl, fun b e => by cases e⟩
theorem pure__law_value : ∀ ds Q E, S__law_value ds Q E → ds.length = 1 ∧ rd__law_value (init0 n__law_value ds) (fnPo Q E) := by
  rintro ds Q E ⟨rfl, q⟩
  refine ⟨rfl, ?_⟩
  unfold rd__law_value
  sizeOf_list_dec
  refine draw_nat (m := 9) (by decide) (by decide) fun k hk => ?_
  sizeOf_list_dec
  refine iteB (fun h => ?_) (fun h => ?_)
  · sizeOf_list_dec
    exact q _ (.inl ⟨0, rfl, by decide⟩)
  · sizeOf_list_dec
    refine iteB (fun h => ?_) (fun h => ?_)
    · sizeOf_list_dec
      exact q _ (.inr (.inl rfl))
    · sizeOf_list_dec
      refine iteB (fun h => ?_) (fun h => ?_)
      · sizeOf_list_dec
        exact q _ (.inr (.inr (.inl rfl)))
      · sizeOf_list_dec
        refine iteB (fun h => ?_) (fun h => ?_)
        · sizeOf_list_dec
          exact q _ (.inr (.inr (.inr (.inl rfl))))
        · sizeOf_list_dec
          refine iteB (fun h => ?_) (fun h => ?_)
          · sizeOf_list_dec
            refine ⟨_, _, rfl, trivial, trivial, fun b e => by cases e; decide, fun w e => ?_, fun t b e1 e2 _ => ?_⟩
            · have : wordR (.int 2) (.int 3) = none := by decide
              rw [this] at e
              cases e
            · cases e1
              cases e2
              have e : (rt 2 3, rb 2 3) = (2, 3) := by decide
              rw [(Prod.mk.inj e).1, (Prod.mk.inj e).2]
              exact q _ (.inr (.inr (.inr (.inr rfl))))
          · sizeOf_list_dec
            refine ⟨⟨by decide, by decide, by decide⟩, ?_⟩
            sizeOf_list_dec
            refine ⟨_, rfl, by decide, by decide, fun r hr => q _ (.inl ⟨r, rfl, Nat.lt_of_le_of_lt hr (by decide)⟩)⟩
theorem pure__law_is_ratio : ∀ ds Q E, S__law_is_ratio ds Q E → ds.length = 3 ∧ rd__law_is_ratio (init0 n__law_is_ratio ds) (fnPo Q E) := by
  rintro ds Q E ⟨t, b, A, B, rfl, b1, g1, ce, ht, hb, hA, hB, q⟩
  refine ⟨rfl, ?_⟩
  unfold rd__law_is_ratio
  sizeOf_list_dec
  refine ⟨List.mem_singleton.mpr rfl, ?_⟩
  sizeOf_list_dec
  refine ⟨_, rfl, trivial, ?_⟩
  sizeOf_list_dec
  refine ⟨_, rfl, trivial, ?_⟩
  sizeOf_list_dec
  rw [decide_eq_false (by omega)]
  sizeOf_list_dec
  refine ⟨_, _, rfl, ?_⟩
  sizeOf_list_dec
  rw [g1]
  sizeOf_list_dec
  refine ⟨mulB ht hB, ?_⟩
  sizeOf_list_dec
  refine ⟨mulB hA hb, ?_⟩
  sizeOf_list_dec
  dsimp only
  rw [ce, beq_self_eq_true]
  exact q
theorem ratD_pl {t b : Int} : True := trivial
end Pu
namespace Pu
open PySem PySem.Spec PyProof.Rows L2
local macro_rules | `(tactic| sizeOf_list_dec) => `(tactic| (repeat (first | (with_reducible apply rd_cons) | ((with_reducible apply rd_var); case hg => rfl) | (with_reducible apply rd_nil) | (with_reducible apply rd_c) | (with_reducible apply rd_fn) | (with_reducible apply rd_bin) | (with_reducible apply rd_seq) | (with_reducible apply rd_next) | (with_reducible apply rd_test) | (with_reducible apply rd_onB) | (with_reducible apply rd_if) | (with_reducible apply rd_or) | (with_reducible apply rd_not) | (with_reducible apply rd_ret) | (with_reducible apply rd_set) | (with_reducible apply rd_gN) | (with_reducible apply rd_gsC) | (with_reducible apply rd_gsN) | (with_reducible apply rd_un) | (with_reducible apply rd_tup) | (with_reducible apply rd_le) | (with_reducible apply rd_eqI) | (with_reducible apply rd_neI) | (with_reducible apply rd_retN) | (with_reducible apply rd_brk) | (with_reducible apply rd_cont) | (with_reducible apply rd_setN) | (with_reducible apply rd_ownSet) | (with_reducible apply rd_asg) | (with_reducible apply rd_drop) | (with_reducible apply rd_for) | (with_reducible apply rd_raise) | (with_reducible apply rd_exn) | (with_reducible apply rd_and) | (with_reducible apply rd_yes) | (with_reducible apply rd_eand) | (with_reducible apply rd_eor) | (with_reducible apply rd_enot) | (with_reducible apply rd_ifE) | (with_reducible apply rd_lst) | (with_reducible apply rd_sz) | (with_reducible apply rd_new) | (with_reducible apply rd_wk) | (with_reducible apply rd_chain) | (with_reducible apply rd_make) | (with_reducible apply rd_star) | (with_reducible apply rd_items) | (with_reducible apply rd_enum) | (with_reducible apply rd_range) | (with_reducible apply rd_lc) | (with_reducible apply rd_lenSet) | (with_reducible apply rd_meth) | (with_reducible apply rd_sl) | (with_reducible apply rd_poN) | (with_reducible apply rd_poS) | (with_reducible apply rd_slT) | (with_reducible apply rd_slL) | (with_reducible apply rd_lt) | (with_reducible apply rd_ge) | (with_reducible apply rd_gt) | (with_reducible apply rd_addI) | (with_reducible apply rd_subI) | (with_reducible apply rd_negI) | (with_reducible apply rd_eqS) | (with_reducible apply rd_neS) | (with_reducible apply rd_isN) | (with_reducible apply rd_notN) | (with_reducible apply rd_isB) | (with_reducible apply rd_lenL) | (with_reducible apply rd_lenT) | (with_reducible apply rd_intI) | (with_reducible apply rd_listL) | (with_reducible apply rd_listT) | (with_reducible apply rd_tupL) | (with_reducible apply rd_tupT) | (with_reducible apply rd_ftup) | (with_reducible apply rd_inS) | ((with_reducible apply rd_app); case hg => rfl) | ((with_reducible apply rd_appF); case hg => rfl) | ((with_reducible apply rd_sFrz); case hg => rfl) | ((with_reducible apply rd_frzE); case hg => rfl) | ((with_reducible apply rd_tFrz); case hg => rfl) | ((with_reducible apply rd_gUt); case hg => rfl) | ((with_reducible apply rd_gUl); case hg => rfl) | (with_reducible apply rd_mkV1) | (with_reducible apply rd_mkV2) | (with_reducible apply rd_isS) | ((with_reducible apply rd_ivV); (case hg => rfl); (case hm => first | assumption | rfl)) | ((with_reducible apply rd_mxV); (case hg => rfl); (case hm => rfl)) | ((with_reducible apply rd_fxL); (case hg => rfl); (case hx => rfl); (case hm => rfl); (case hd => rfl)) | ((with_reducible apply rd_addL); (case hl => rfl)) | ((with_reducible apply rd_addS); (case hl => first | rfl | decide +kernel)) | ((with_reducible apply rd_k); (case hl => rfl)) | ((with_reducible apply rd_neK); (case hv => assumption)) | ((with_reducible apply rd_eqK); (case hv => assumption)) | ((with_reducible apply rd_fldV); (case hg => rfl); (case hm => rfl); (case hd => rfl)) | ((with_reducible apply rd_methV); (case hg => rfl); (case hm => rfl)) | ((with_reducible apply iteY); case e => rfl) | ((with_reducible apply iteN); case e => rfl))))
open Pt (rt rb SI ratText)
theorem eq_self {x : D} {Q : D → Prop} {E : Exn → Prop} (p : pl 60 x = true) (q : Q (.bl true)) : oEq x x Q E := ⟨p, p, by rw [deq_refl 60 x p]; exact q⟩
theorem wordR_ok {A B : Int} (h : B ≠ 0) : wordR (.int A) (.int B) = none := by
  unfold wordR
  rw [isZ_int, show (B == 0) = false by simpa using h]
  rfl
theorem wordR_none {x y : D} (h : wordR x y = none) : ∃ A B : Int, x = .int A ∧ y = .int B ∧ B ≠ 0 := by
  unfold wordR at h
  cases hx : isIntD x with
  | false => rw [hx] at h; cases h
  | true =>
    cases hy : isIntD y with
    | false => rw [hx, hy] at h; cases h
    | true =>
      obtain ⟨A, rfl⟩ := isInt_eq hx
      obtain ⟨B, rfl⟩ := isInt_eq hy
      rw [hx, hy, isZ_int] at h
      refine ⟨A, B, rfl, rfl, fun z => ?_⟩
      subst z
      cases h
theorem wordR_some {x y : D} {w : Str} (h : wordR x y = some w) : w = "top" ∨ w = "bottom" ∨ w = "zero" := by
  unfold wordR at h
  split at h
  · cases h; exact .inl rfl
  · split at h
    · cases h; exact .inr (.inl rfl)
    · split at h
      · cases h; exact .inr (.inr rfl)
      · cases h
theorem word_ne {x y : D} {w : Str} (h : wordR x y = some w) : (w == ("" : Str)) = false := by
  rcases wordR_some h with rfl | rfl | rfl <;> decide +kernel
theorem p1000 {a : Int} (h : a.natAbs < 2 ^ 200) : a.natAbs < 2 ^ 1000 := Nat.lt_trans h (Nat.pow_lt_pow_right (by decide) (by decide))
def rd_built_rest : XSp := rSeq (rIf (rTest (rVar 2)) (rSet 1 (rC (.int 1))) (rNext)) (rSeq (rSet 5 (rFn S__law_due (rCons (rVar 0) (rCons (rVar 1) (rNil))))) (rSeq (rIf (rTest (rBin oNe (rVar 5) (rC (.str "")))) (rRet (rBin oEq (rVar 3) (rTup (rCons (rC (.str "refused")) (rCons (rVar 5) (rNil)))))) (rNext)) (rRet (rAnd (rBin oEq (rBin oIx (rVar 3) (rC (.int 0))) (rC (.str "told"))) (rFn S__law_is_ratio (rCons (rBin oIx (rVar 3) (rC (.int 1))) (rCons (rVar 0) (rCons (rVar 1) (rNil)))))))))
def rd_built_rest2 : XSp := (rSeq (rSet 5 (rFn S__law_due (rCons (rVar 0) (rCons (rVar 1) (rNil))))) (rSeq (rIf (rTest (rBin oNe (rVar 5) (rC (.str "")))) (rRet (rBin oEq (rVar 3) (rTup (rCons (rC (.str "refused")) (rCons (rVar 5) (rNil)))))) (rNext)) (rRet (rAnd (rBin oEq (rBin oIx (rVar 3) (rC (.int 0))) (rC (.str "told"))) (rFn S__law_is_ratio (rCons (rBin oIx (rVar 3) (rC (.int 1))) (rCons (rVar 0) (rCons (rVar 1) (rNil)))))))))
theorem built_told2 {A B : Int} {al : D} {g4 : Sl} {Q : D → Prop} {E : Exn → Prop} (h0 : B ≠ 0) (hA : A.natAbs < 2 ^ 200) (hB : B.natAbs < 2 ^ 200) (q : Q (.bl true)) :
    rd_built_rest2 [.d (.int A), .d (.int B), .d al, .d (.tup [.str "told", ratD (rt A B) (rb A B)]), g4, .no] (fnPo Q E) := by
  unfold rd_built_rest2
  sizeOf_list_dec
  refine ⟨_, _, rfl, trivial, trivial, ?_⟩
  sizeOf_list_dec
  rw [wordR_ok h0]
  rw [show ((Option.getD (none : Option Str) Str.empty) == ("" : Str)) = true by decide +kernel]
  sizeOf_list_dec
  refine ix_tup (i := 0) rfl ?_
  sizeOf_list_dec
  refine ix_tup (i := 1) rfl ?_
  sizeOf_list_dec
  exact ⟨_, _, _, _, rfl, Pt.rb_pos h0, Pt.r_gcd h0, Pt.r_cross h0, Nat.lt_of_le_of_lt (Pt.rt_le h0) (p1000 hA), Nat.lt_of_le_of_lt (Pt.rb_le h0) (p1000 hB), p1000 hA, p1000 hB, q⟩
theorem built_ref2 {x y al : D} {w : Str} {g4 : Sl} {Q : D → Prop} {E : Exn → Prop} (ox : okI csL x) (oy : okI csL y) (h : wordR x y = some w) (q : Q (.bl true)) :
    rd_built_rest2 [.d x, .d y, .d al, .d (.tup [.str "refused", .str w]), g4, .no] (fnPo Q E) := by
  unfold rd_built_rest2
  sizeOf_list_dec
  refine ⟨_, _, rfl, ox, oy, ?_⟩
  sizeOf_list_dec
  rw [h]
  show (if (!((w == ("" : Str)) : Bool)) = true then _ else _)
  rw [word_ne h]
  sizeOf_list_dec
  refine ⟨by show 2 ≤ 1000; decide, ?_⟩
  exact eq_self rfl q
theorem built_told {x y : D} {A B : Int} {al : Bool} {g4 : Sl} {Q : D → Prop} {E : Exn → Prop} (hx : x = .int A) (hy : (if al = true then .int 1 else y) = D.int B) (h0 : B ≠ 0) (hA : A.natAbs < 2 ^ 200) (hB : B.natAbs < 2 ^ 200) (q : Q (.bl true)) :
    rd_built_rest [.d x, .d y, .d (.bl al), .d (.tup [.str "told", ratD (rt A B) (rb A B)]), g4, .no] (fnPo Q E) := by
  subst hx
  unfold rd_built_rest
  sizeOf_list_dec
  cases al with
  | true =>
    sizeOf_list_dec
    cases hy
    exact built_told2 h0 hA hB q
  | false =>
    sizeOf_list_dec
    cases hy
    exact built_told2 h0 hA hB q
theorem built_ref {x y : D} {w : Str} {al : Bool} {g4 : Sl} {Q : D → Prop} {E : Exn → Prop} (ox : okI csL x) (oy : okI csL y) (h : wordR x (if al = true then .int 1 else y) = some w) (q : Q (.bl true)) :
    rd_built_rest [.d x, .d y, .d (.bl al), .d (.tup [.str "refused", .str w]), g4, .no] (fnPo Q E) := by
  unfold rd_built_rest
  sizeOf_list_dec
  cases al with
  | true =>
    sizeOf_list_dec
    exact built_ref2 ox trivial h q
  | false =>
    sizeOf_list_dec
    exact built_ref2 ox oy h q
theorem int_val5 {A : Int} (h : val5 (.int A)) : A.natAbs < 2 ^ 200 := by
  rcases h with ⟨i, e, h⟩ | e | e | e | e
  · cases e
    exact h
  all_goals cases e
theorem pure__law_built : ∀ ds Q E, S__law_built ds Q E → ds.length = 3 ∧ rd__law_built (init0 n__law_built ds) (fnPo Q E) := by
  rintro ds Q E ⟨x, y, al, rfl, vx, vy, q⟩
  refine ⟨rfl, ?_⟩
  obtain ⟨ox, bx⟩ := val5_I vx
  obtain ⟨oy, bY⟩ := val5_I vy
  unfold rd__law_built
  sizeOf_list_dec
  refine ⟨by show 2 ≤ 1000; decide, ?_⟩
  sizeOf_list_dec
  unfold rTry
  dsimp only
  sizeOf_list_dec
  cases al with
  | true =>
    sizeOf_list_dec
    refine ⟨x, .int 1, rfl, ox, trivial, fun b e => by cases e; decide, fun w hw => ?_, fun t b e1 e2 h0 => ?_⟩
    · dsimp only [List.lookup]
      sizeOf_list_dec
      unfold rXf
      sizeOf_list_dec
      refine ⟨by show 2 ≤ 1000; decide, ?_⟩
      refine ⟨rfl, ?_⟩
      exact built_ref (al := true) ox oy hw q
    · sizeOf_list_dec
      refine ⟨by show 2 ≤ 1000; decide, ?_⟩
      subst e1
      cases e2
      exact built_told (al := true) rfl rfl h0 (int_val5 vx) (by decide) q
  | false =>
    sizeOf_list_dec
    refine ⟨x, y, rfl, ox, oy, bY, fun w hw => ?_, fun t b e1 e2 h0 => ?_⟩
    · dsimp only [List.lookup]
      sizeOf_list_dec
      unfold rXf
      sizeOf_list_dec
      refine ⟨by show 2 ≤ 1000; decide, ?_⟩
      refine ⟨rfl, ?_⟩
      exact built_ref (al := false) ox oy hw q
    · sizeOf_list_dec
      refine ⟨by show 2 ≤ 1000; decide, ?_⟩
      subst e1
      subst e2
      exact built_told (al := false) rfl rfl h0 (int_val5 vx) (int_val5 vy) q
end Pu
namespace Pu
open PySem PySem.Spec PyProof.Rows L2
open Pt (rt rb SI ratText)
open NumText (digitsVal AllDigits)
/-! ## texts of digits -/
theorem dv_snoc (l : List Nat) (c : Nat) : digitsVal (l ++ [c]) = digitsVal l * 10 + (c - 48) := by
  unfold digitsVal
  rw [List.foldl_append]
  rfl
theorem snoc_of {l : List Nat} (h : l ≠ []) : ∃ m c, l = m ++ [c] := ⟨l.dropLast, l.getLast h, (List.dropLast_concat_getLast h).symm⟩
theorem ad_app {l : List Nat} {c : Nat} (h : AllDigits (l ++ [c])) : AllDigits l ∧ 48 ≤ c ∧ c ≤ 57 := ⟨fun x hx => h x (List.mem_append_left _ hx), h c (by simp)⟩
theorem canon : ∀ (n : Nat) (l : List Nat), l.length = n → AllDigits l → l ≠ [] → (l.head? ≠ some 48 ∨ l.length = 1) → TL.numL (digitsVal l) = l
  | 0, l, hn, _, h0, _ => absurd (List.length_eq_zero_iff.mp hn) h0
  | n + 1, l, hn, hd, h0, hc => by
    obtain ⟨m, c, rfl⟩ := snoc_of h0
    obtain ⟨hm, c1, c2⟩ := ad_app hd
    rw [dv_snoc]
    rw [List.length_append, List.length_singleton] at hn
    by_cases z : m = []
    · subst z
      have : digitsVal [] = 0 := rfl
      rw [this, Nat.zero_mul, Nat.zero_add, TL.numL_lt (by omega), List.nil_append]
      congr 1
      omega
    · have hh : (m ++ [c]).head? = m.head? := by
        cases m with
        | nil => exact absurd rfl z
        | cons a r => rfl
      have hm1 : 1 ≤ m.length := by
        cases m with
        | nil => exact absurd rfl z
        | cons a r => simp
      have h48 : m.head? ≠ some 48 := by
        rcases hc with hc | hc
        · rw [hh] at hc
          exact hc
        · rw [List.length_append, List.length_singleton] at hc
          omega
      have ih := canon n m (by omega) hm z (.inl h48)
      have pos : 1 ≤ digitsVal m := by
        by_cases q : digitsVal m = 0
        · rw [q, TL.numL_lt (by decide)] at ih
          rw [← ih] at h48
          exact absurd rfl h48
        · omega
      rw [TL.numL_step (by omega)]
      rw [show (digitsVal m * 10 + (c - 48)) / 10 = digitsVal m by omega, ih, show (digitsVal m * 10 + (c - 48)) % 10 = c - 48 by omega, show 48 + (c - 48) = c by omega]
theorem dv_lt : ∀ (n : Nat) (l : List Nat), l.length = n → AllDigits l → digitsVal l < 10 ^ n
  | 0, l, hn, _ => by
    rw [List.length_eq_zero_iff.mp hn]
    decide
  | n + 1, l, hn, hd => by
    have h0 : l ≠ [] := fun e => by rw [e] at hn; cases hn
    obtain ⟨m, c, rfl⟩ := snoc_of h0
    obtain ⟨hm, c1, c2⟩ := ad_app hd
    rw [List.length_append, List.length_singleton] at hn
    have ih := dv_lt n m (by omega) hm
    rw [dv_snoc, Nat.pow_succ]
    omega
theorem sg_iff {c : Nat} : isSg c = true ↔ 48 ≤ c ∧ c ≤ 57 := by
  unfold isSg
  have hd : (("0123456789" : Str)).cps.toList = [48, 49, 50, 51, 52, 53, 54, 55, 56, 57] := by decide +kernel
  rw [hd, decide_eq_true_eq]
  simp only [List.mem_cons, List.not_mem_nil, or_false]
  omega
structure Dg (s : Str) : Prop where
  h1 : 1 ≤ s.length
  h2 : s.length ≤ 60
  d : AllDigits (TL.tl s)
theorem isDg_iff {s : Str} : isDg s = true ↔ Dg s := by
  unfold isDg
  rw [Bool.and_eq_true, Bool.and_eq_true, decide_eq_true_eq, decide_eq_true_eq, List.all_eq_true]
  exact ⟨fun ⟨⟨a, b⟩, c⟩ => ⟨a, b, fun x hx => sg_iff.mp (c x hx)⟩, fun ⟨a, b, c⟩ => ⟨⟨a, b⟩, fun x hx => sg_iff.mpr (c x hx)⟩⟩
theorem Dg.ne {s : Str} (h : Dg s) : TL.tl s ≠ [] := fun e => by
  have := h.h1
  rw [TL.len_tl, e] at this
  exact absurd this (by decide)
theorem Dg.int {s : Str} (h : Dg s) : intText? s = some (digitsVal (TL.tl s) : Int) := intText_digits h.d h.ne (by have := h.h2; omega)
theorem Dg.lt {s : Str} (h : Dg s) : digitsVal (TL.tl s) < 10 ^ 60 := by
  have := dv_lt _ (TL.tl s) rfl h.d
  have h2 := h.h2
  rw [TL.len_tl] at h2
  exact Nat.lt_of_lt_of_le this (Nat.pow_le_pow_right (by decide) h2)
/-- without a leading zero -/
def Cn (s : Str) : Prop := Dg s ∧ ((TL.tl s).head? ≠ some 48 ∨ s.length = 1)
theorem Cn.si {s : Str} (h : Cn s) : s = SI (digitsVal (TL.tl s) : Nat) := by
  apply TL.ext_tl
  rw [Pt.SI_nat]
  refine (canon _ _ rfl h.1.d h.1.ne ?_).symm
  rw [← TL.len_tl]
  exact h.2
theorem SI_len {n : Nat} : (SI n).length = (TL.numL n).length := by rw [TL.len_tl, Pt.SI_nat]
theorem SI_dg {n : Nat} (h : n < 10 ^ 60) : Dg (SI n) := by
  refine ⟨?_, ?_, ?_⟩
  · rw [SI_len]
    have := TL.numL_ne n
    cases hh : TL.numL n with
    | nil => exact absurd hh this
    | cons a r => simp
  · rw [SI_len]
    exact Pt.numL60 h
  · rw [Pt.SI_nat]
    exact TL.numL_digits n
theorem SI_cn {n : Nat} (h : n < 10 ^ 60) : Cn (SI n) := by
  refine ⟨SI_dg h, ?_⟩
  by_cases z : n = 0
  · subst z
    exact .inr (by decide +kernel)
  · obtain ⟨c, r, e, hc⟩ := Pt.numL_head n (by omega)
    refine .inl ?_
    rw [Pt.SI_nat, e]
    intro w
    cases w
    exact absurd hc (by decide)
theorem SI_head {n : Nat} (h : 1 ≤ n) : (TL.tl (SI n)).head? ≠ some 48 := by
  obtain ⟨c, r, e, hc⟩ := Pt.numL_head n h
  rw [Pt.SI_nat, e]
  intro w
  cases w
  exact absurd hc (by decide)
theorem Cn.val {s : Str} (h : Dg s) : digitsVal (TL.tl s) < 10 ^ 60 := h.lt
/-- with or without a minus -/
theorem rp_cases (x : Str) : (∃ r, TL.tl x = 45 :: r ∧ TL.tl (Txt.removeprefix x "-") = r) ∨ ((TL.tl x).head? ≠ some 45 ∧ Txt.removeprefix x "-" = x) := by
  rw [StrLaws.removeprefix_eq]
  have hl : (("-" : Str)).length = 1 := by decide +kernel
  rw [hl]
  cases e : TL.tl x with
  | nil =>
    refine .inr ⟨fun w => (by cases w), ?_⟩
    have : x.length = 0 := by rw [TL.len_tl, e]; rfl
    rw [if_neg (by rw [this]; simp)]
  | cons c r =>
    have hlen : x.length = r.length + 1 := by rw [TL.len_tl, e, List.length_cons]
    rw [Pt.subAt_head e]
    by_cases k : c = 45
    · subst k
      refine .inl ⟨r, rfl, ?_⟩
      rw [if_pos (by rw [hlen]; simp), TL.tl_mk, hlen]
      have : x.cps.toList = 45 :: r := e
      rw [this]
      simp
    · refine .inr ⟨fun w => (by cases w; exact k rfl), ?_⟩
      rw [if_neg (by rw [decide_eq_false k]; simp)]
theorem rp_len (x : Str) : (Txt.removeprefix x "-").length ≤ x.length := by
  rcases rp_cases x with ⟨r, e1, e2⟩ | ⟨_, e⟩
  · rw [TL.len_tl, TL.len_tl, e1, e2]
    simp
  · rw [e]
    exact Nat.le_refl _
/-- the number of a text of digits, with or without a minus -/
theorem int_signed {x : Str} (h : Dg (Txt.removeprefix x "-")) : ∃ n : Int, intText? x = some n ∧ n.natAbs < 10 ^ 60 ∧ x.length ≤ 61 := by
  have hv := h.lt
  have h2 := h.h2
  rcases rp_cases x with ⟨r, e1, e2⟩ | ⟨_, e⟩
  · have hd := h.d
    have hne := h.ne
    rw [e2] at hd hne hv
    have hl : x.length ≤ 61 := by
      rw [TL.len_tl, e2] at h2
      rw [TL.len_tl, e1, List.length_cons]
      omega
    refine ⟨_, intText_neg e1 hd hne (by omega), ?_, hl⟩
    rw [Int.natAbs_neg]
    exact hv
  · rw [e] at h hv h2
    exact ⟨_, h.int, hv, by omega⟩
/-! the slash -/
theorem slash_split (x : Str) : ¬ (47 : Nat) ∈ TL.tl x ∨ ∃ a b : Str, ¬ (47 : Nat) ∈ TL.tl a ∧ x = a ++ "/" ++ b := by
  by_cases h : (47 : Nat) ∈ TL.tl x
  · obtain ⟨a, b, e, ha⟩ := List.eq_append_cons_of_mem h
    refine .inr ⟨⟨a.toArray⟩, ⟨b.toArray⟩, by rw [TL.tl_mk]; exact ha, ?_⟩
    apply TL.ext_tl
    rw [TL.tl_append, TL.tl_append, TL.tl_mk a, TL.tl_mk b, Pt.slash_tl]
    refine e.trans ?_
    simp
  · exact .inl h
theorem split_one {x : Str} (h : ¬ (47 : Nat) ∈ TL.tl x) : Txt.split x "/" = [x] := by
  apply TL.map_tl_inj
  rw [TL.split_spl x "/" (by rw [Pt.slash_tl]; decide) (TL.kind_ok (by decide +kernel)), Pt.slash_tl, TL.spl_last1 h]
  rfl
theorem split_two {a b : Str} (ha : ¬ (47 : Nat) ∈ TL.tl a) (hb : ¬ (47 : Nat) ∈ TL.tl b) : Txt.split (a ++ "/" ++ b) "/" = [a, b] := by
  apply TL.map_tl_inj
  rw [TL.split_spl _ "/" (by rw [Pt.slash_tl]; decide) (TL.kind_ok (by decide +kernel)), TL.tl_append, TL.tl_append, Pt.slash_tl, List.append_assoc, TL.spl_part1 ha, TL.spl_last1 hb]
  rfl
theorem spl_ne (acc l : List Nat) : TL.spl [47] 0 acc l ≠ [] := by
  by_cases h : (47 : Nat) ∈ l
  · obtain ⟨a, b, e, ha⟩ := List.eq_append_cons_of_mem h
    have e2 : l = a ++ ([47] ++ b) := by rw [e]; rfl
    rw [e2, TL.spl_part1 ha]
    exact List.cons_ne_nil _ _
  · rw [TL.spl_last1 h]
    exact List.cons_ne_nil _ _
theorem split_more {a b : Str} (ha : ¬ (47 : Nat) ∈ TL.tl a) (hb : (47 : Nat) ∈ TL.tl b) : ∃ p q r t, Txt.split (a ++ "/" ++ b) "/" = p :: q :: r :: t := by
  have e : (Txt.split (a ++ "/" ++ b) "/").map TL.tl = TL.tl a :: TL.spl [47] 0 [] (TL.tl b) := by
    rw [TL.split_spl _ "/" (by rw [Pt.slash_tl]; decide) (TL.kind_ok (by decide +kernel)), TL.tl_append, TL.tl_append, Pt.slash_tl, List.append_assoc, TL.spl_part1 ha]
    rfl
  obtain ⟨c, d, e2, hc⟩ := List.eq_append_cons_of_mem hb
  have e3 : TL.tl b = c ++ ([47] ++ d) := by rw [e2]; rfl
  rw [e3, TL.spl_part1 hc] at e
  have hne := spl_ne [] d
  generalize TL.spl [47] 0 [] d = L at e hne
  cases L with
  | nil => exact absurd rfl hne
  | cons l L =>
    have hl := congrArg List.length e
    rw [List.length_map] at hl
    generalize Txt.split (a ++ "/" ++ b) "/" = M at hl
    match M, hl with
    | p :: q :: r :: t, _ => exact ⟨p, q, r, t, rfl⟩
    | [], hl => simp at hl
    | [_], hl => simp at hl
    | [_, _], hl => simp at hl
end Pu
namespace Pu
open PySem PySem.Spec PyProof.Rows L2
local macro_rules | `(tactic| sizeOf_list_dec) => `(tactic| (repeat (first | (with_reducible apply rd_cons) | ((with_reducible apply rd_var); case hg => rfl) | (with_reducible apply rd_nil) | (with_reducible apply rd_c) | (with_reducible apply rd_fn) | (with_reducible apply rd_bin) | (with_reducible apply rd_seq) | (with_reducible apply rd_next) | (with_reducible apply rd_test) | (with_reducible apply rd_onB) | (with_reducible apply rd_if) | (with_reducible apply rd_or) | (with_reducible apply rd_not) | (with_reducible apply rd_ret) | (with_reducible apply rd_set) | (with_reducible apply rd_gN) | (with_reducible apply rd_gsC) | (with_reducible apply rd_gsN) | (with_reducible apply rd_un) | (with_reducible apply rd_tup) | (with_reducible apply rd_le) | (with_reducible apply rd_eqI) | (with_reducible apply rd_neI) | (with_reducible apply rd_retN) | (with_reducible apply rd_brk) | (with_reducible apply rd_cont) | (with_reducible apply rd_setN) | (with_reducible apply rd_ownSet) | (with_reducible apply rd_asg) | (with_reducible apply rd_drop) | (with_reducible apply rd_for) | (with_reducible apply rd_raise) | (with_reducible apply rd_exn) | (with_reducible apply rd_and) | (with_reducible apply rd_yes) | (with_reducible apply rd_eand) | (with_reducible apply rd_eor) | (with_reducible apply rd_enot) | (with_reducible apply rd_ifE) | (with_reducible apply rd_lst) | (with_reducible apply rd_sz) | (with_reducible apply rd_new) | (with_reducible apply rd_wk) | (with_reducible apply rd_chain) | (with_reducible apply rd_make) | (with_reducible apply rd_star) | (with_reducible apply rd_items) | (with_reducible apply rd_enum) | (with_reducible apply rd_range) | (with_reducible apply rd_lc) | (with_reducible apply rd_lenSet) | (with_reducible apply rd_meth) | (with_reducible apply rd_sl) | (with_reducible apply rd_poN) | (with_reducible apply rd_poS) | (with_reducible apply rd_slT) | (with_reducible apply rd_slL) | (with_reducible apply rd_lt) | (with_reducible apply rd_ge) | (with_reducible apply rd_gt) | (with_reducible apply rd_addI) | (with_reducible apply rd_subI) | (with_reducible apply rd_negI) | (with_reducible apply rd_eqS) | (with_reducible apply rd_neS) | (with_reducible apply rd_isN) | (with_reducible apply rd_notN) | (with_reducible apply rd_isB) | (with_reducible apply rd_lenL) | (with_reducible apply rd_lenT) | (with_reducible apply rd_intI) | (with_reducible apply rd_listL) | (with_reducible apply rd_listT) | (with_reducible apply rd_tupL) | (with_reducible apply rd_tupT) | (with_reducible apply rd_ftup) | (with_reducible apply rd_inS) | ((with_reducible apply rd_app); case hg => rfl) | ((with_reducible apply rd_appF); case hg => rfl) | ((with_reducible apply rd_sFrz); case hg => rfl) | ((with_reducible apply rd_frzE); case hg => rfl) | ((with_reducible apply rd_tFrz); case hg => rfl) | ((with_reducible apply rd_gUt); case hg => rfl) | ((with_reducible apply rd_gUl); case hg => rfl) | (with_reducible apply rd_mkV1) | (with_reducible apply rd_mkV2) | (with_reducible apply rd_isS) | ((with_reducible apply rd_ivV); (case hg => rfl); (case hm => first | assumption | rfl)) | ((with_reducible apply rd_mxV); (case hg => rfl); (case hm => rfl)) | ((with_reducible apply rd_fxL); (case hg => rfl); (case hx => rfl); (case hm => rfl); (case hd => rfl)) | ((with_reducible apply rd_addL); (case hl => rfl)) | ((with_reducible apply rd_addS); (case hl => first | rfl | decide +kernel)) | ((with_reducible apply rd_k); (case hl => rfl)) | ((with_reducible apply rd_neK); (case hv => assumption)) | ((with_reducible apply rd_eqK); (case hv => assumption)) | ((with_reducible apply rd_fldV); (case hg => rfl); (case hm => rfl); (case hd => rfl)) | ((with_reducible apply rd_methV); (case hg => rfl); (case hm => rfl)) | ((with_reducible apply iteY); case e => rfl) | ((with_reducible apply iteN); case e => rfl))))
open Pt (rt rb SI ratText)
open NumText (digitsVal AllDigits)
theorem p200 {t : Int} (h : t.natAbs < 10 ^ 60) : t.natAbs < 2 ^ 200 := Nat.lt_trans h Pt.ten60
theorem pure_Ratio_text : ∀ ds Q E, S_Ratio_text ds Q E → ds.length = 1 ∧ rd_Ratio_text (init0 n_Ratio_text ds) (fnPo Q E) := by
  rintro ds Q E ⟨t, b, rfl, ht, hb, q⟩
  refine ⟨rfl, ?_⟩
  have lt := Pt.len_SI ht
  have lb := Pt.len_SI hb
  unfold rd_Ratio_text
  sizeOf_list_dec
  refine iteB (fun h => ?_) (fun h => ?_)
  · have h : b = 1 := by simpa using h
    sizeOf_list_dec
    refine ⟨Pt.log_small (p200 ht), ?_⟩
    unfold ratText at q
    rw [if_pos h] at q
    exact q
  · have h : b ≠ 1 := by simpa using h
    sizeOf_list_dec
    unfold rFs3
    sizeOf_list_dec
    refine ⟨Pt.log_small (p200 ht), ?_, by decide +kernel, ?_⟩
    · show (SI t).length ≤ 1000
      omega
    sizeOf_list_dec
    refine ⟨Pt.log_small (p200 hb), ?_, ?_⟩
    · show (SI b).length ≤ 1000
      omega
    unfold ratText at q
    rw [if_neg h] at q
    exact q
def sgD : D → D
  | .str z => .bl (isSg (z.cps.toList.headD 0))
  | _ => .non
theorem sgD_map (z : Str) : (signs z).map sgD = z.cps.toList.map fun c => D.bl (isSg c) := by
  unfold signs
  rw [List.map_map]
  rfl
theorem bls_mapN (f : Nat → Bool) : ∀ l : List Nat, bls (l.map fun c => D.bl (f c)) = some (l.map f)
  | [] => rfl
  | c :: l => by
    have := bls_mapN f l
    rw [List.map_cons, List.map_cons]
    unfold bls
    rw [this]
    rfl
theorem sign_mem {z : Str} {d : D} (h : d ∈ signs z) : ∃ c, c ∈ z.cps.toList ∧ d = .str ⟨#[c]⟩ := by
  obtain ⟨c, hc, rfl⟩ := List.mem_map.mp h
  exact ⟨c, hc, rfl⟩
theorem pure_is_digits : ∀ ds Q E, S_is_digits ds Q E → ds.length = 1 ∧ rd_is_digits (init0 n_is_digits ds) (fnPo Q E) := by
  rintro ds Q E ⟨s, rfl, hl, q⟩
  refine ⟨rfl, ?_⟩
  unfold rd_is_digits
  unfold isDg at q
  sizeOf_list_dec
  refine ⟨by omega, ?_⟩
  sizeOf_list_dec
  refine iteB (fun h => ?_) (fun h => ?_)
  · have h1 : 1 ≤ s.length := by have := of_decide_eq_true h; omega
    rw [decide_eq_true h1] at q
    sizeOf_list_dec
    refine iteB (fun h => ?_) (fun h => ?_)
    · have h2 : s.length ≤ 60 := by have := of_decide_eq_true h; omega
      rw [decide_eq_true h2] at q
      sizeOf_list_dec
      show lcP (gN 1) rYes _ _ (signs s) [] _
      refine lcP_map (f := sgD) (signs s) [] ?_ (fun d hd K hK => ?_) ?_
      · unfold signs
        rw [List.length_nil, List.length_map]
        have : s.cps.toList.length = s.length := sz_list
        omega
      · obtain ⟨c, hc, rfl⟩ := sign_mem hd
        show oIn false (.str ⟨#[c]⟩) (.str "0123456789") K (fun _ => False)
        exact ⟨c, rfl, hK⟩
      · refine ⟨s.cps.toList.map isSg, ?_, ?_⟩
        · rw [List.nil_append, sgD_map]
          exact bls_mapN isSg _
        · rw [List.all_map]
          exact q
    · have h2 : ¬ s.length ≤ 60 := by have := of_decide_eq_false h; omega
      rw [decide_eq_false h2, Bool.and_false] at q
      exact q
  · have h1 : ¬ 1 ≤ s.length := by have := of_decide_eq_false h; omega
    rw [decide_eq_false h1, Bool.false_and, Bool.false_and] at q
    exact q
end Pu
namespace Pu
open PySem PySem.Spec PyProof.Rows L2
local macro_rules | `(tactic| sizeOf_list_dec) => `(tactic| (repeat (first | (with_reducible apply rd_cons) | ((with_reducible apply rd_var); case hg => rfl) | (with_reducible apply rd_nil) | (with_reducible apply rd_c) | (with_reducible apply rd_fn) | (with_reducible apply rd_bin) | (with_reducible apply rd_seq) | (with_reducible apply rd_next) | (with_reducible apply rd_test) | (with_reducible apply rd_onB) | (with_reducible apply rd_if) | (with_reducible apply rd_or) | (with_reducible apply rd_not) | (with_reducible apply rd_ret) | (with_reducible apply rd_set) | (with_reducible apply rd_gN) | (with_reducible apply rd_gsC) | (with_reducible apply rd_gsN) | (with_reducible apply rd_un) | (with_reducible apply rd_tup) | (with_reducible apply rd_le) | (with_reducible apply rd_eqI) | (with_reducible apply rd_neI) | (with_reducible apply rd_retN) | (with_reducible apply rd_brk) | (with_reducible apply rd_cont) | (with_reducible apply rd_setN) | (with_reducible apply rd_ownSet) | (with_reducible apply rd_asg) | (with_reducible apply rd_drop) | (with_reducible apply rd_for) | (with_reducible apply rd_raise) | (with_reducible apply rd_exn) | (with_reducible apply rd_and) | (with_reducible apply rd_yes) | (with_reducible apply rd_eand) | (with_reducible apply rd_eor) | (with_reducible apply rd_enot) | (with_reducible apply rd_ifE) | (with_reducible apply rd_lst) | (with_reducible apply rd_sz) | (with_reducible apply rd_new) | (with_reducible apply rd_wk) | (with_reducible apply rd_chain) | (with_reducible apply rd_make) | (with_reducible apply rd_star) | (with_reducible apply rd_items) | (with_reducible apply rd_enum) | (with_reducible apply rd_range) | (with_reducible apply rd_lc) | (with_reducible apply rd_lenSet) | (with_reducible apply rd_meth) | (with_reducible apply rd_sl) | (with_reducible apply rd_poN) | (with_reducible apply rd_poS) | (with_reducible apply rd_slT) | (with_reducible apply rd_slL) | (with_reducible apply rd_lt) | (with_reducible apply rd_ge) | (with_reducible apply rd_gt) | (with_reducible apply rd_addI) | (with_reducible apply rd_subI) | (with_reducible apply rd_negI) | (with_reducible apply rd_eqS) | (with_reducible apply rd_neS) | (with_reducible apply rd_isN) | (with_reducible apply rd_notN) | (with_reducible apply rd_isB) | (with_reducible apply rd_lenL) | (with_reducible apply rd_lenT) | (with_reducible apply rd_intI) | (with_reducible apply rd_listL) | (with_reducible apply rd_listT) | (with_reducible apply rd_tupL) | (with_reducible apply rd_tupT) | (with_reducible apply rd_ftup) | (with_reducible apply rd_inS) | ((with_reducible apply rd_app); case hg => rfl) | ((with_reducible apply rd_appF); case hg => rfl) | ((with_reducible apply rd_sFrz); case hg => rfl) | ((with_reducible apply rd_frzE); case hg => rfl) | ((with_reducible apply rd_tFrz); case hg => rfl) | ((with_reducible apply rd_gUt); case hg => rfl) | ((with_reducible apply rd_gUl); case hg => rfl) | (with_reducible apply rd_mkV1) | (with_reducible apply rd_mkV2) | (with_reducible apply rd_isS) | ((with_reducible apply rd_ivV); (case hg => rfl); (case hm => first | assumption | rfl)) | ((with_reducible apply rd_mxV); (case hg => rfl); (case hm => rfl)) | ((with_reducible apply rd_fxL); (case hg => rfl); (case hx => rfl); (case hm => rfl); (case hd => rfl)) | ((with_reducible apply rd_addL); (case hl => rfl)) | ((with_reducible apply rd_addS); (case hl => first | rfl | decide +kernel)) | ((with_reducible apply rd_k); (case hl => rfl)) | ((with_reducible apply rd_neK); (case hv => assumption)) | ((with_reducible apply rd_eqK); (case hv => assumption)) | ((with_reducible apply rd_fldV); (case hg => rfl); (case hm => rfl); (case hd => rfl)) | ((with_reducible apply rd_methV); (case hg => rfl); (case hm => rfl)) | ((with_reducible apply iteY); case e => rfl) | ((with_reducible apply iteN); case e => rfl))))
open Pt (rt rb SI ratText)
open NumText (digitsVal AllDigits)
theorem sing_eq {c : Nat} : ((⟨#[c]⟩ : Str) == ("0" : Str)) = decide (c = 48) := by
  have e : (("0" : Str)) = ⟨#[48]⟩ := by decide +kernel
  rw [e]
  by_cases h : c = 48
  · subst h
    rw [decide_eq_true rfl, beq_self_eq_true]
  · rw [decide_eq_false h]
    refine beq_eq_false_iff_ne.mpr fun z => h ?_
    have := congrArg TL.tl z
    simpa using this
theorem rt_self {t b : Int} (h : 1 ≤ b) (g : Int.gcd t b = 1) : rt t b = t ∧ rb t b = b := by
  have e : Pt.rg t b = 1 := by
    unfold Pt.rg
    rw [if_neg (by omega), g]
    rfl
  unfold rt rb
  rw [e]
  exact ⟨Int.fdiv_one _, Int.fdiv_one _⟩
def rd_read_rest : XSp := rSeq (rIf (rTOr (rTNot (rTest (rFn S_is_digits (rCons (rStr2 fRmp (rVar 1) (rC (.str "-"))) (rNil))))) (rTOr (rTNot (rTest (rFn S_is_digits (rCons (rVar 3) (rNil))))) (rTest (rBin oEq (rBin oIx (rVar 3) (rC (.int 0))) (rC (.str "0")))))) (rRaise (rExnA cNoRatio 1 (rCons (rC (.str "text")) (rNil)))) (rNext)) (rSeq (rSet 4 (rMake cRatio I_Ratio (rCons (rFn oIntT (rCons (rVar 1) (rNil))) (rCons (rFn oIntT (rCons (rVar 3) (rNil))) (rNil))))) (rSeq (rIf (rTest (rBin oNe (rMeth [(cRatio, S_Ratio_text)] (rVar 4) rNil) (rVar 0))) (rRaise (rExnA cNoRatio 1 (rCons (rC (.str "text")) (rNil)))) (rNext)) (rRet (rVar 4))))
theorem b_nat {b : Int} (h : 1 ≤ b) : SI b = SI (b.natAbs : Nat) := congrArg SI (by omega)
theorem p1k {t : Int} (h : t.natAbs < 10 ^ 60) : t.natAbs < 2 ^ 1000 := p1000 (p200 h)
theorem read_good {t b : Int} {sl : D} {Q : D → Prop} {E : Exn → Prop} (h : Good (ratText t b) t b) (q : Q (ratD t b)) :
    rd_read_rest [.d (.str (ratText t b)), .d (.str (SI t)), .d sl, .d (.str (SI b)), .no] (fnPo Q E) := by
  have lt := Pt.len_SI h.st
  have lb := Pt.len_SI h.sb
  have b1 := h.b1
  have b0 : b ≠ 0 := by omega
  unfold rd_read_rest
  sizeOf_list_dec
  unfold rStr2
  sizeOf_list_dec
  refine ⟨by omega, ?_⟩
  rw [Pt.rp_SI]
  have d1 := SI_dg h.st
  sizeOf_list_dec
  refine ⟨_, rfl, by have := d1.h2; omega, ?_⟩
  rw [isDg_iff.mpr d1]
  sizeOf_list_dec
  have d2 : Dg (SI b) := by rw [b_nat b1]; exact SI_dg h.sb
  refine ⟨_, rfl, by omega, ?_⟩
  rw [isDg_iff.mpr d2]
  sizeOf_list_dec
  obtain ⟨c, r, ec, hc⟩ : ∃ c r, TL.tl (SI b) = c :: r ∧ 49 ≤ c := by
    obtain ⟨c, r, e, hc⟩ := Pt.numL_head b.natAbs (by omega)
    exact ⟨c, r, by rw [b_nat b1, Pt.SI_nat, e], hc⟩
  refine ix_str (i := 0) (c := c) (by omega) (by show (TL.tl (SI b))[0]? = _; rw [ec]; rfl) ?_
  sizeOf_list_dec
  rw [sing_eq, decide_eq_false (by omega)]
  sizeOf_list_dec
  refine ⟨t, Pt.int_SI h.st, by omega, ?_⟩
  sizeOf_list_dec
  refine ⟨b, Pt.int_SI h.sb, by omega, ?_⟩
  sizeOf_list_dec
  refine ⟨_, _, rfl, trivial, trivial, fun b' e => by cases e; exact p1k h.sb, fun w hw => (by rw [wordR_ok b0] at hw; cases hw), fun t' b' e1 e2 _ => ?_⟩
  cases e1
  cases e2
  rw [(rt_self b1 h.g).1, (rt_self b1 h.g).2]
  sizeOf_list_dec
  refine ⟨t, b, rfl, h.st, h.sb, ?_⟩
  sizeOf_list_dec
  rw [beq_self_eq_true]
  sizeOf_list_dec
  exact q
theorem read_bad {s T B : Str} {sl : D} {Q : D → Prop} {E : Exn → Prop} (lT : T.length ≤ 20000) (lB : B.length ≤ 20000) (h : ∀ t b, ¬ Good s t b) (he : E ⟨cNoRatio, [.str "text"]⟩) :
    rd_read_rest [.d (.str s), .d (.str T), .d sl, .d (.str B), .no] (fnPo Q E) := by
  unfold rd_read_rest
  sizeOf_list_dec
  unfold rStr2
  sizeOf_list_dec
  refine ⟨by omega, ?_⟩
  have lr := rp_len T
  sizeOf_list_dec
  refine ⟨_, rfl, by omega, ?_⟩
  cases d1 : isDg (Txt.removeprefix T "-") with
  | false =>
    sizeOf_list_dec
    exact ⟨rfl, by decide, he⟩
  | true =>
    sizeOf_list_dec
    refine ⟨_, rfl, by omega, ?_⟩
    cases d2 : isDg B with
    | false =>
      sizeOf_list_dec
      exact ⟨rfl, by decide, he⟩
    | true =>
      sizeOf_list_dec
      have g1 := isDg_iff.mp d1
      have g2 := isDg_iff.mp d2
      obtain ⟨c, r, ec⟩ : ∃ c r, TL.tl B = c :: r := by
        cases e : TL.tl B with
        | nil => exact absurd e g2.ne
        | cons c r => exact ⟨c, r, rfl⟩
      refine ix_str (i := 0) (c := c) (by omega) (by show (TL.tl B)[0]? = _; rw [ec]; rfl) ?_
      sizeOf_list_dec
      rw [sing_eq]
      refine iteB (fun h0 => ?_) (fun h0 => ?_)
      · sizeOf_list_dec
        exact ⟨rfl, by decide, he⟩
      · have hc : c ≠ 48 := of_decide_eq_false h0
        have cn : Cn B := ⟨g2, .inl (by rw [ec]; intro w; cases w; exact hc rfl)⟩
        obtain ⟨n, en, hn, ln⟩ := int_signed g1
        have hv := g2.lt
        have v0 : digitsVal (TL.tl B) ≠ 0 := by
          intro z
          have e := cn.si
          rw [z] at e
          have : TL.tl B = [48] := by rw [e]; decide +kernel
          rw [this] at ec
          cases ec
          exact hc rfl
        sizeOf_list_dec
        refine ⟨n, en, by omega, ?_⟩
        sizeOf_list_dec
        refine ⟨_, g2.int, by have := g2.h2; omega, ?_⟩
        sizeOf_list_dec
        have b0 : ((digitsVal (TL.tl B) : Nat) : Int) ≠ 0 := by omega
        have hb : ((digitsVal (TL.tl B) : Nat) : Int).natAbs < 10 ^ 60 := hv
        generalize ((digitsVal (TL.tl B) : Nat) : Int) = b at b0 hb
        refine ⟨_, _, rfl, trivial, trivial, fun b' e => by cases e; exact p1k hb, fun w hw => (by rw [wordR_ok b0] at hw; cases hw), fun t' b' e1 e2 _ => ?_⟩
        cases e1
        cases e2
        have ht' := Nat.lt_of_le_of_lt (Pt.rt_le (n := n) b0) hn
        have hb' := Nat.lt_of_le_of_lt (Pt.rb_le (n := n) b0) hb
        sizeOf_list_dec
        refine ⟨_, _, rfl, ht', hb', ?_⟩
        sizeOf_list_dec
        refine iteB (fun hq => ?_) (fun hq => ?_)
        · sizeOf_list_dec
          exact ⟨rfl, by decide, he⟩
        · have e : ratText (rt n b) (rb n b) = s := by simpa using hq
          exact absurd ⟨e.symm, Pt.rb_pos b0, Pt.r_gcd b0, ht', hb'⟩ (h _ _)
theorem one_SI : (("1" : Str)) = SI 1 := by decide +kernel
theorem pure_Ratio_read : ∀ ds Q E, S_Ratio_read ds Q E → ds.length = 1 ∧ rd_Ratio_read (init0 n_Ratio_read ds) (fnPo Q E) := by
  rintro ds Q E ⟨d, rfl, o, hl, hq, he⟩
  refine ⟨rfl, ?_⟩
  unfold rd_Ratio_read
  sizeOf_list_dec
  refine ⟨o, ?_⟩
  rw [isT_str]
  sizeOf_list_dec
  cases hs : isStrD d with
  | false =>
    sizeOf_list_dec
    exact ⟨rfl, by decide, he fun s t b e => by subst e; cases hs⟩
  | true =>
    obtain ⟨s, rfl⟩ : ∃ s, d = .str s := by
      cases d <;> first | exact ⟨_, rfl⟩ | cases hs
    have hl := hl s rfl
    sizeOf_list_dec
    unfold rStr2
    sizeOf_list_dec
    refine ⟨by decide +kernel, by omega, ?_⟩
    sizeOf_list_dec
    by_cases g : ∃ t b, Good s t b
    · obtain ⟨t, b, g⟩ := g
      have q := hq s t b rfl g
      have e := g.eq
      subst e
      by_cases b1 : b = 1
      · have e : ratText t b = SI t := if_pos b1
        have ep : Txt.partition (ratText t b) "/" = (SI t, Str.empty, Str.empty) := by rw [e]; exact Pt.part_one
        rw [ep]
        sizeOf_list_dec
        rw [one_SI, ← b1]
        exact read_good g q
      · have ep : Txt.partition (ratText t b) "/" = (SI t, ("/" : Str), SI b) := by
          rw [show ratText t b = SI t ++ "/" ++ SI b from if_neg b1]
          exact Pt.part_two
        rw [ep]
        sizeOf_list_dec
        exact read_good g q
    · have nog : ∀ t b, ¬ Good s t b := fun t b h => g ⟨t, b, h⟩
      have he' : E ⟨cNoRatio, [.str "text"]⟩ := he fun s' t b e => by cases e; exact nog t b
      clear he hq
      rcases slash_split s with h47 | ⟨a, b, h47, rfl⟩
      · rw [TL.partition_none Pt.slash_tl h47]
        sizeOf_list_dec
        exact read_bad hl (by decide +kernel) nog he'
      · rw [TL.partition_app Pt.slash_tl h47]
        sizeOf_list_dec
        have : (a ++ "/" ++ b).length = a.length + (("/" : Str)).length + b.length := by rw [Str.length_append, Str.length_append]
        exact read_bad (by show a.length ≤ 20000; omega) (by show b.length ≤ 20000; omega) nog he'
end Pu
namespace Pu
open PySem PySem.Spec PyProof.Rows L2
local macro_rules | `(tactic| sizeOf_list_dec) => `(tactic| (repeat (first | (with_reducible apply rd_cons) | ((with_reducible apply rd_var); case hg => rfl) | (with_reducible apply rd_nil) | (with_reducible apply rd_c) | (with_reducible apply rd_fn) | (with_reducible apply rd_bin) | (with_reducible apply rd_seq) | (with_reducible apply rd_next) | (with_reducible apply rd_test) | (with_reducible apply rd_onB) | (with_reducible apply rd_if) | (with_reducible apply rd_or) | (with_reducible apply rd_not) | (with_reducible apply rd_ret) | (with_reducible apply rd_set) | (with_reducible apply rd_gN) | (with_reducible apply rd_gsC) | (with_reducible apply rd_gsN) | (with_reducible apply rd_un) | (with_reducible apply rd_tup) | (with_reducible apply rd_le) | (with_reducible apply rd_eqI) | (with_reducible apply rd_neI) | (with_reducible apply rd_retN) | (with_reducible apply rd_brk) | (with_reducible apply rd_cont) | (with_reducible apply rd_setN) | (with_reducible apply rd_ownSet) | (with_reducible apply rd_asg) | (with_reducible apply rd_drop) | (with_reducible apply rd_for) | (with_reducible apply rd_raise) | (with_reducible apply rd_exn) | (with_reducible apply rd_and) | (with_reducible apply rd_yes) | (with_reducible apply rd_eand) | (with_reducible apply rd_eor) | (with_reducible apply rd_enot) | (with_reducible apply rd_ifE) | (with_reducible apply rd_lst) | (with_reducible apply rd_sz) | (with_reducible apply rd_new) | (with_reducible apply rd_wk) | (with_reducible apply rd_chain) | (with_reducible apply rd_make) | (with_reducible apply rd_star) | (with_reducible apply rd_items) | (with_reducible apply rd_enum) | (with_reducible apply rd_range) | (with_reducible apply rd_lc) | (with_reducible apply rd_lenSet) | (with_reducible apply rd_meth) | (with_reducible apply rd_sl) | (with_reducible apply rd_poN) | (with_reducible apply rd_poS) | (with_reducible apply rd_slT) | (with_reducible apply rd_slL) | (with_reducible apply rd_lt) | (with_reducible apply rd_ge) | (with_reducible apply rd_gt) | (with_reducible apply rd_addI) | (with_reducible apply rd_subI) | (with_reducible apply rd_negI) | (with_reducible apply rd_eqS) | (with_reducible apply rd_neS) | (with_reducible apply rd_isN) | (with_reducible apply rd_notN) | (with_reducible apply rd_isB) | (with_reducible apply rd_lenL) | (with_reducible apply rd_lenT) | (with_reducible apply rd_intI) | (with_reducible apply rd_listL) | (with_reducible apply rd_listT) | (with_reducible apply rd_tupL) | (with_reducible apply rd_tupT) | (with_reducible apply rd_ftup) | (with_reducible apply rd_inS) | ((with_reducible apply rd_app); case hg => rfl) | ((with_reducible apply rd_appF); case hg => rfl) | ((with_reducible apply rd_sFrz); case hg => rfl) | ((with_reducible apply rd_frzE); case hg => rfl) | ((with_reducible apply rd_tFrz); case hg => rfl) | ((with_reducible apply rd_gUt); case hg => rfl) | ((with_reducible apply rd_gUl); case hg => rfl) | (with_reducible apply rd_mkV1) | (with_reducible apply rd_mkV2) | (with_reducible apply rd_isS) | ((with_reducible apply rd_ivV); (case hg => rfl); (case hm => first | assumption | rfl)) | ((with_reducible apply rd_mxV); (case hg => rfl); (case hm => rfl)) | ((with_reducible apply rd_fxL); (case hg => rfl); (case hx => rfl); (case hm => rfl); (case hd => rfl)) | ((with_reducible apply rd_addL); (case hl => rfl)) | ((with_reducible apply rd_addS); (case hl => first | rfl | decide +kernel)) | ((with_reducible apply rd_k); (case hl => rfl)) | ((with_reducible apply rd_neK); (case hv => assumption)) | ((with_reducible apply rd_eqK); (case hv => assumption)) | ((with_reducible apply rd_fldV); (case hg => rfl); (case hm => rfl); (case hd => rfl)) | ((with_reducible apply rd_methV); (case hg => rfl); (case hm => rfl)) | ((with_reducible apply iteY); case e => rfl) | ((with_reducible apply iteN); case e => rfl))))
open Pt (rt rb SI ratText)
open NumText (digitsVal AllDigits)
/-! slices of texts -/
theorem tl_cut_to (z : Str) (k : Nat) : TL.tl (cutS z none (some (k : Int))) = (TL.tl z).take k := by
  unfold cutS
  rw [TL.tl_mk, HT.sIx_nat, HT.sIx_none, List.drop_zero, Nat.sub_zero, TL.len_tl]
  show ((TL.tl z).take _) = _
  by_cases h : k ≤ (TL.tl z).length
  · rw [Nat.min_eq_left h]
  · rw [Nat.min_eq_right (by omega), List.take_of_length_le (Nat.le_refl _), List.take_of_length_le (by omega)]
theorem tl_cut_from (z : Str) (k : Nat) : TL.tl (cutS z (some (k : Int)) none) = (TL.tl z).drop k := by
  unfold cutS
  rw [TL.tl_mk, HT.sIx_nat, HT.sIx_none, TL.len_tl]
  show ((TL.tl z).drop _).take _ = _
  by_cases h : k ≤ (TL.tl z).length
  · rw [Nat.min_eq_left h, List.take_of_length_le (by rw [List.length_drop]; omega)]
  · rw [Nat.min_eq_right (by omega), List.drop_eq_nil_of_le (by omega), List.drop_eq_nil_of_le (i := k) (by omega), List.take_nil]
theorem emp_iff {u : Str} : (u == ("" : Str)) = true ↔ TL.tl u = [] := by
  rw [beq_iff_eq]
  refine ⟨fun h => by rw [h]; decide +kernel, fun h => TL.ext_tl (by rw [h]; decide +kernel)⟩
theorem SI_inj {n m : Nat} (hn : n < 10 ^ 60) (hm : m < 10 ^ 60) (h : SI n = SI m) : n = m := by
  have a := Pt.int_SI (t := n) hn
  have b := Pt.int_SI (t := m) hm
  rw [h, b] at a
  have := Option.some.inj a
  omega
theorem pure__law_digits : ∀ ds Q E, S__law_digits ds Q E → ds.length = 1 ∧ rd__law_digits (init0 n__law_digits ds) (fnPo Q E) := by
  rintro ds Q E ⟨u, rfl, hl, q1, q0⟩
  refine ⟨rfl, ?_⟩
  have good : Cn u → Q (.int (digitsVal (TL.tl u))) := fun c => q1 _ c.1.lt c.si
  have bad : ¬ Cn u → Q (.int (-1)) := fun c => q0 fun n hn e => c (by rw [e]; exact SI_cn hn)
  clear q1 q0
  unfold rd__law_digits
  sizeOf_list_dec
  refine iteB (fun h => ?_) (fun h => ?_)
  · sizeOf_list_dec
    exact bad fun c => c.1.ne (emp_iff.mp h)
  · have hne : TL.tl u ≠ [] := fun e => by rw [emp_iff.mpr e] at h; cases h
    sizeOf_list_dec
    refine ⟨by omega, ?_⟩
    sizeOf_list_dec
    refine iteB (fun h => ?_) (fun h => ?_)
    · have h := of_decide_eq_true h
      sizeOf_list_dec
      exact bad fun c => by have := c.1.h2; omega
    · have h := of_decide_eq_false h
      obtain ⟨c, r, ec⟩ : ∃ c r, TL.tl u = c :: r := by
        cases e : TL.tl u with
        | nil => exact absurd e hne
        | cons c r => exact ⟨c, r, rfl⟩
      have lu : u.length = r.length + 1 := by rw [TL.len_tl, ec, List.length_cons]
      sizeOf_list_dec
      refine ix_str (i := 0) (c := c) (by omega) (by show (TL.tl u)[0]? = _; rw [ec]; rfl) ?_
      sizeOf_list_dec
      rw [sing_eq]
      have rest : (c ≠ 48 ∨ u.length = 1) → rSeq (rFor (rSigns (rVar 0)) (gN 1) (rIf (rTest (rBin (oIn true) (rVar 1) (rC (.str "0123456789")))) (rRet (rUn oNeg (rC (.int 1)))) (rNext))) (rRet (rFn oIntT (rCons (rVar 0) (rNil)))) [.d (.str u), .no] (fnPo Q E) := fun hc => by
        sizeOf_list_dec
        by_cases hA : AllDigits (TL.tl u)
        · have cn : Cn u := by
            refine ⟨⟨by omega, by omega, hA⟩, ?_⟩
            rcases hc with hc | hc
            · exact .inl (by rw [ec]; intro w; cases w; exact hc rfl)
            · exact .inr hc
          show forP (gN 1) _ (signs u) _ _
          refine forP_inv (I := fun ds G => (∀ d ∈ ds, d ∈ signs u) ∧ ∃ g, G = [.d (.str u), g]) ?_ ?_ _ _ ⟨fun d hd => hd, _, rfl⟩
          · rintro d ds G K ⟨hd, g, rfl⟩ hK
            obtain ⟨x, hx, rfl⟩ := sign_mem (hd d List.mem_cons_self)
            have hs : isSg x = true := sg_iff.mpr (hA x hx)
            sizeOf_list_dec
            refine ⟨x, rfl, ?_⟩
            sizeOf_list_dec
            show (if (!isSg x) = true then _ else _)
            rw [hs]
            sizeOf_list_dec
            exact hK _ ⟨fun d' hd' => hd d' (List.mem_cons_of_mem _ hd'), _, rfl⟩
          · rintro G ⟨_, g, rfl⟩
            sizeOf_list_dec
            exact ⟨_, cn.1.int, by omega, good cn⟩
        · have nc : ¬ Cn u := fun c => hA c.1.d
          have bad := bad nc
          show forP (gN 1) _ (signs u) _ _
          refine forP_inv (I := fun ds G => (∀ d ∈ ds, d ∈ signs u) ∧ (∃ x, (.str ⟨#[x]⟩ : D) ∈ ds ∧ isSg x = false) ∧ ∃ g, G = [.d (.str u), g]) ?_ ?_ _ _ ⟨fun d hd => hd, ?_, _, rfl⟩
          · rintro d ds G K ⟨hd, ⟨y, hy, ey⟩, g, rfl⟩ hK
            obtain ⟨x, hx, rfl⟩ := sign_mem (hd d List.mem_cons_self)
            sizeOf_list_dec
            refine ⟨x, rfl, ?_⟩
            sizeOf_list_dec
            show (if (!isSg x) = true then _ else _)
            cases hs : isSg x with
            | false =>
              sizeOf_list_dec
              exact bad
            | true =>
              sizeOf_list_dec
              refine hK _ ⟨fun d' hd' => hd d' (List.mem_cons_of_mem _ hd'), ⟨y, ?_, ey⟩, _, rfl⟩
              rcases List.mem_cons.mp hy with e | hy
              · cases e
                rw [ey] at hs
                cases hs
              · exact hy
          · rintro G ⟨_, ⟨y, hy, _⟩, _⟩
            cases hy
          · refine Classical.byContradiction fun hn => hA fun x hx => ?_
            have : isSg x = true := by
              cases hs : isSg x with
              | true => rfl
              | false => exact absurd ⟨x, List.mem_map.mpr ⟨x, hx, rfl⟩, hs⟩ hn
            exact sg_iff.mp this
      refine iteB (fun h2 => ?_) (fun h2 => ?_)
      · have h2 : c = 48 := of_decide_eq_true h2
        sizeOf_list_dec
        refine ⟨by omega, ?_⟩
        sizeOf_list_dec
        refine iteB (fun h3 => ?_) (fun h3 => ?_)
        · have h3 := of_decide_eq_true h3
          sizeOf_list_dec
          refine bad fun cn => ?_
          rcases cn.2 with w | w
          · rw [ec, h2] at w
            exact w rfl
          · omega
        · have h3 := of_decide_eq_false h3
          sizeOf_list_dec
          exact rest (.inr (by omega))
      · sizeOf_list_dec
        exact rest (.inl (of_decide_eq_false h2))
end Pu
namespace Pu
open PySem PySem.Spec PyProof.Rows L2
local macro_rules | `(tactic| sizeOf_list_dec) => `(tactic| (repeat (first | (with_reducible apply rd_cons) | ((with_reducible apply rd_var); case hg => rfl) | (with_reducible apply rd_nil) | (with_reducible apply rd_c) | (with_reducible apply rd_fn) | (with_reducible apply rd_bin) | (with_reducible apply rd_seq) | (with_reducible apply rd_next) | (with_reducible apply rd_test) | (with_reducible apply rd_onB) | (with_reducible apply rd_if) | (with_reducible apply rd_or) | (with_reducible apply rd_not) | (with_reducible apply rd_ret) | (with_reducible apply rd_set) | (with_reducible apply rd_gN) | (with_reducible apply rd_gsC) | (with_reducible apply rd_gsN) | (with_reducible apply rd_un) | (with_reducible apply rd_tup) | (with_reducible apply rd_le) | (with_reducible apply rd_eqI) | (with_reducible apply rd_neI) | (with_reducible apply rd_retN) | (with_reducible apply rd_brk) | (with_reducible apply rd_cont) | (with_reducible apply rd_setN) | (with_reducible apply rd_ownSet) | (with_reducible apply rd_asg) | (with_reducible apply rd_drop) | (with_reducible apply rd_for) | (with_reducible apply rd_raise) | (with_reducible apply rd_exn) | (with_reducible apply rd_and) | (with_reducible apply rd_yes) | (with_reducible apply rd_eand) | (with_reducible apply rd_eor) | (with_reducible apply rd_enot) | (with_reducible apply rd_ifE) | (with_reducible apply rd_lst) | (with_reducible apply rd_sz) | (with_reducible apply rd_new) | (with_reducible apply rd_wk) | (with_reducible apply rd_chain) | (with_reducible apply rd_make) | (with_reducible apply rd_star) | (with_reducible apply rd_items) | (with_reducible apply rd_enum) | (with_reducible apply rd_range) | (with_reducible apply rd_lc) | (with_reducible apply rd_lenSet) | (with_reducible apply rd_meth) | (with_reducible apply rd_sl) | (with_reducible apply rd_poN) | (with_reducible apply rd_poS) | (with_reducible apply rd_slT) | (with_reducible apply rd_slL) | (with_reducible apply rd_lt) | (with_reducible apply rd_ge) | (with_reducible apply rd_gt) | (with_reducible apply rd_addI) | (with_reducible apply rd_subI) | (with_reducible apply rd_negI) | (with_reducible apply rd_eqS) | (with_reducible apply rd_neS) | (with_reducible apply rd_isN) | (with_reducible apply rd_notN) | (with_reducible apply rd_isB) | (with_reducible apply rd_lenL) | (with_reducible apply rd_lenT) | (with_reducible apply rd_intI) | (with_reducible apply rd_listL) | (with_reducible apply rd_listT) | (with_reducible apply rd_tupL) | (with_reducible apply rd_tupT) | (with_reducible apply rd_ftup) | (with_reducible apply rd_inS) | ((with_reducible apply rd_app); case hg => rfl) | ((with_reducible apply rd_appF); case hg => rfl) | ((with_reducible apply rd_sFrz); case hg => rfl) | ((with_reducible apply rd_frzE); case hg => rfl) | ((with_reducible apply rd_tFrz); case hg => rfl) | ((with_reducible apply rd_gUt); case hg => rfl) | ((with_reducible apply rd_gUl); case hg => rfl) | (with_reducible apply rd_mkV1) | (with_reducible apply rd_mkV2) | (with_reducible apply rd_isS) | ((with_reducible apply rd_ivV); (case hg => rfl); (case hm => first | assumption | rfl)) | ((with_reducible apply rd_mxV); (case hg => rfl); (case hm => rfl)) | ((with_reducible apply rd_fxL); (case hg => rfl); (case hx => rfl); (case hm => rfl); (case hd => rfl)) | ((with_reducible apply rd_addL); (case hl => rfl)) | ((with_reducible apply rd_addS); (case hl => first | rfl | decide +kernel)) | ((with_reducible apply rd_k); (case hl => rfl)) | ((with_reducible apply rd_neK); (case hv => assumption)) | ((with_reducible apply rd_eqK); (case hv => assumption)) | ((with_reducible apply rd_fldV); (case hg => rfl); (case hm => rfl); (case hd => rfl)) | ((with_reducible apply rd_methV); (case hg => rfl); (case hm => rfl)) | ((with_reducible apply iteY); case e => rfl) | ((with_reducible apply iteN); case e => rfl))))
open Pt (rt rb SI ratText)
open NumText (digitsVal AllDigits)
theorem split_more2 {a b : Str} (ha : ¬ (47 : Nat) ∈ TL.tl a) (hb : (47 : Nat) ∈ TL.tl b) : ∃ q r t, Txt.split (a ++ "/" ++ b) "/" = a :: q :: r :: t := by
  obtain ⟨p, q, r, t, e⟩ := split_more ha hb
  have e1 : (Txt.split (a ++ "/" ++ b) "/").map TL.tl = TL.tl a :: TL.spl [47] 0 [] (TL.tl b) := by
    rw [TL.split_spl _ "/" (by rw [Pt.slash_tl]; decide) (TL.kind_ok (by decide +kernel)), TL.tl_append, TL.tl_append, Pt.slash_tl, List.append_assoc, TL.spl_part1 ha]
    rfl
  rw [e, List.map_cons] at e1
  have := TL.ext_tl (List.cons.inj e1).1
  subst this
  exact ⟨q, r, t, e⟩
def rd_frac_4 : XSp := (rSeq (rIf (rTOr (rTAnd (rTest (rBin oEq (rVar 4) (rC (.int 0)))) (rTest (rBin oLt (rVar 3) (rC (.int 0))))) (rTest (rBin oNe (rFn S__law_divisor (rCons (rVar 4) (rCons (rVar 5) (rNil)))) (rC (.int 1))))) (rRet (rTup (rCons (rC (.int 0)) (rCons (rC (.int 0)) (rNil))))) (rNext)) (rRet (rTup (rCons (rBin oMul (rVar 3) (rVar 4)) (rCons (rVar 5) (rNil))))))
def rd_frac_3 : XSp := (rSeq (rIf (rTOr (rTest (rBin oGt (rFn oLen (rCons (rVar 1) (rNil))) (rC (.int 2)))) (rTOr (rTest (rBin oLt (rVar 4) (rC (.int 0)))) (rTOr (rTest (rBin oLt (rVar 5) (rC (.int 1)))) (rTAnd (rTest (rBin oEq (rFn oLen (rCons (rVar 1) (rNil))) (rC (.int 2)))) (rTest (rBin oLt (rVar 5) (rC (.int 2)))))))) (rRet (rTup (rCons (rC (.int 0)) (rCons (rC (.int 0)) (rNil))))) (rNext)) rd_frac_4)
def rd_frac_2 : XSp := (rSeq (rSet 4 (rFn S__law_digits (rCons (rVar 2) (rNil)))) (rSeq (rSet 5 (rC (.int 1))) (rSeq (rIf (rTest (rBin oEq (rFn oLen (rCons (rVar 1) (rNil))) (rC (.int 2)))) (rSet 5 (rFn S__law_digits (rCons (rBin oIx (rVar 1) (rC (.int 1))) (rNil)))) (rNext)) rd_frac_3)))
theorem frac_4 {g0 g2 : Sl} {L : List D} {sg T B : Int} {Q : D → Prop} {E : Exn → Prop} (hsg : sg = 1 ∨ sg = -1) (hT : T.natAbs < 2 ^ 1000)
    (q : (sg < 0 → T ≠ 0) → Int.gcd T B = 1 → Q (.tup [.int (sg * T), .int B]))
    (q0 : (¬ ((sg < 0 → T ≠ 0) ∧ Int.gcd T B = 1)) → Q (.tup [.int 0, .int 0])) :
    rd_frac_4 [g0, .d (.lst L), g2, .d (.int sg), .d (.int T), .d (.int B)] (fnPo Q E) := by
  have z2 : (2 : Nat) ≤ 1000 := by decide
  have hm : CMulW sg T := mulB (n := 2) (m := 1000) (by rcases hsg with rfl | rfl <;> decide) hT
  unfold rd_frac_4
  sizeOf_list_dec
  refine iteB (fun h => ?_) (fun h => ?_)
  · have h : T = 0 := by simpa using h
    sizeOf_list_dec
    refine iteB (fun h5 => ?_) (fun h5 => ?_)
    · have h5 := of_decide_eq_true h5
      sizeOf_list_dec
      exact ⟨z2, q0 fun w => w.1 h5 h⟩
    · have h5 := of_decide_eq_false h5
      sizeOf_list_dec
      refine ⟨_, _, rfl, ?_⟩
      sizeOf_list_dec
      refine iteB (fun h => ?_) (fun h => ?_)
      · sizeOf_list_dec
        refine ⟨z2, q0 fun w => ?_⟩
        rw [w.2] at h
        cases h
      · have hg : Int.gcd T B = 1 := by simp at h; omega
        sizeOf_list_dec
        refine ⟨hm, ?_⟩
        sizeOf_list_dec
        exact ⟨z2, q (fun z => absurd z h5) hg⟩
  · have h : T ≠ 0 := by simpa using h
    sizeOf_list_dec
    refine ⟨_, _, rfl, ?_⟩
    sizeOf_list_dec
    refine iteB (fun h => ?_) (fun h => ?_)
    · sizeOf_list_dec
      refine ⟨z2, q0 fun w => ?_⟩
      rw [w.2] at h
      cases h
    · have hg : Int.gcd T B = 1 := by simp at h; omega
      sizeOf_list_dec
      refine ⟨hm, ?_⟩
      sizeOf_list_dec
      exact ⟨z2, q (fun _ => by assumption) hg⟩
/-- the end of the reading: what is found wrong, or the pair -/
theorem frac_3 {g0 g2 : Sl} {L : List D} {sg T B : Int} {Q : D → Prop} {E : Exn → Prop} (hsg : sg = 1 ∨ sg = -1) (hT : T.natAbs < 2 ^ 1000)
    (q : L.length ≤ 2 → 0 ≤ T → 1 ≤ B → (L.length = 2 → 2 ≤ B) → (sg < 0 → T ≠ 0) → Int.gcd T B = 1 → Q (.tup [.int (sg * T), .int B]))
    (q0 : (¬ (L.length ≤ 2 ∧ 0 ≤ T ∧ 1 ≤ B ∧ (L.length = 2 → 2 ≤ B) ∧ (sg < 0 → T ≠ 0) ∧ Int.gcd T B = 1)) → Q (.tup [.int 0, .int 0])) :
    rd_frac_3 [g0, .d (.lst L), g2, .d (.int sg), .d (.int T), .d (.int B)] (fnPo Q E) := by
  have z2 : (2 : Nat) ≤ 1000 := by decide
  have refused : (¬ (L.length ≤ 2 ∧ 0 ≤ T ∧ 1 ≤ B ∧ (L.length = 2 → 2 ≤ B) ∧ (sg < 0 → T ≠ 0) ∧ Int.gcd T B = 1)) → (([D.int 0, D.int 0] : List D).length ≤ 1000 ∧ (fnPo Q E).rt (.tup [.int 0, .int 0])) := fun h => ⟨z2, q0 h⟩
  unfold rd_frac_3
  sizeOf_list_dec
  refine iteB (fun h => ?_) (fun h1 => ?_)
  · have h := of_decide_eq_true h
    sizeOf_list_dec
    exact refused fun w => by have := w.1; omega
  have h1 := of_decide_eq_false h1
  sizeOf_list_dec
  refine iteB (fun h => ?_) (fun h2 => ?_)
  · have h := of_decide_eq_true h
    sizeOf_list_dec
    exact refused fun w => by have := w.2.1; omega
  have h2 := of_decide_eq_false h2
  sizeOf_list_dec
  refine iteB (fun h => ?_) (fun h3 => ?_)
  · have h := of_decide_eq_true h
    sizeOf_list_dec
    exact refused fun w => by have := w.2.2.1; omega
  have h3 := of_decide_eq_false h3
  sizeOf_list_dec
  have tail : (L.length = 2 → 2 ≤ B) → rd_frac_4 [g0, .d (.lst L), g2, .d (.int sg), .d (.int T), .d (.int B)] (fnPo Q E) := fun h4 =>
    frac_4 hsg hT (fun h5 h6 => q (by omega) (by omega) (by omega) h4 h5 h6) (fun w => q0 fun w2 => w w2.2.2.2.2)
  refine iteB (fun h => ?_) (fun h => ?_)
  · have h : L.length = 2 := by simp at h; omega
    sizeOf_list_dec
    refine iteB (fun h4 => ?_) (fun h4 => ?_)
    · have h4 := of_decide_eq_true h4
      sizeOf_list_dec
      exact refused fun w => by have := w.2.2.2.1 h; omega
    · have h4 := of_decide_eq_false h4
      sizeOf_list_dec
      exact tail fun _ => by omega
  · have h : L.length ≠ 2 := by simp at h; omega
    sizeOf_list_dec
    exact tail fun z => absurd z h
theorem n1000 {n : Nat} (h : n < 10 ^ 60) : ((n : Nat) : Int).natAbs < 2 ^ 1000 := p1k (t := (n : Int)) h
/-- from the sign on -/
theorem frac_2 {g0 : Sl} {L : List Str} {u : Str} {sg : Int} {Q : D → Prop} {E : Exn → Prop} (hsg : sg = 1 ∨ sg = -1) (hu : u.length ≤ 20000) (h1 : 1 ≤ L.length) (hL : ∀ w, L[1]? = some w → w.length ≤ 20000)
    (q : ∀ n b : Nat, n < 10 ^ 60 → u = SI n → (L.length = 1 ∧ b = 1 ∨ L.length = 2 ∧ b < 10 ^ 60 ∧ 2 ≤ b ∧ L[1]? = some (SI b)) → (sg < 0 → n ≠ 0) → Int.gcd n b = 1 → Q (.tup [.int (sg * n), .int b]))
    (q0 : (¬ ∃ n b : Nat, n < 10 ^ 60 ∧ u = SI n ∧ (L.length = 1 ∧ b = 1 ∨ L.length = 2 ∧ b < 10 ^ 60 ∧ 2 ≤ b ∧ L[1]? = some (SI b)) ∧ (sg < 0 → n ≠ 0) ∧ Int.gcd n b = 1) → Q (.tup [.int 0, .int 0])) :
    rd_frac_2 [g0, .d (.lst (L.map D.str)), .d (.str u), .d (.int sg), .no, .no] (fnPo Q E) := by
  have lm : (L.map D.str).length = L.length := List.length_map _
  unfold rd_frac_2
  sizeOf_list_dec
  refine ⟨u, rfl, hu, fun n hn e => ?_, fun hno => ?_⟩
  · sizeOf_list_dec
    refine iteB (fun h => ?_) (fun h => ?_)
    · have h : L.length = 2 := by rw [lm] at h; simp at h; omega
      obtain ⟨w, hw⟩ : ∃ w, L[1]? = some w := ⟨_, List.getElem?_eq_getElem (by omega)⟩
      sizeOf_list_dec
      refine ix_lst (i := 1) (d := .str w) (by rw [List.getElem?_map, hw]; rfl) ?_
      refine ⟨w, rfl, hL w hw, fun b hb e2 => ?_, fun hno => ?_⟩
      · refine frac_3 hsg (n1000 hn) (fun k1 k2 k3 k4 k5 k6 => ?_) (fun hn' => q0 ?_)
        · have := k4 (by rw [lm]; exact h)
          exact q n b hn e (.inr ⟨h, hb, by omega, by rw [hw, e2]⟩) (fun z => by have := k5 z; omega) k6
        · rintro ⟨n', b', hn1, e', hb1, k5, k6⟩
          obtain rfl := SI_inj hn hn1 (by rw [← e, e'])
          rcases hb1 with hb1 | ⟨_, hb1, hb2, eb⟩
          · omega
          · rw [hw] at eb
            obtain rfl := SI_inj hb hb1 (by rw [← e2]; exact Option.some.inj eb)
            exact hn' ⟨by rw [lm]; omega, by omega, by omega, fun _ => by omega, fun z => by have := k5 z; omega, k6⟩
      · refine frac_3 hsg (n1000 hn) (fun k1 k2 k3 k4 k5 k6 => absurd k3 (by decide)) (fun hn' => q0 ?_)
        rintro ⟨n', b', hn1, e', hb1, k5, k6⟩
        rcases hb1 with hb1 | ⟨_, hb1, hb2, eb⟩
        · omega
        · rw [hw] at eb
          exact hno b' hb1 (Option.some.inj eb)
    · have h : L.length ≠ 2 := by rw [lm] at h; simp at h; omega
      sizeOf_list_dec
      refine frac_3 hsg (n1000 hn) (fun k1 k2 k3 k4 k5 k6 => ?_) (fun hn' => q0 ?_)
      · rw [lm] at k1
        exact q n 1 hn e (.inl ⟨by omega, rfl⟩) (fun z => by have := k5 z; omega) k6
      · rintro ⟨n', b', hn1, e', hb1, k5, k6⟩
        obtain rfl := SI_inj hn hn1 (by rw [← e, e'])
        rcases hb1 with ⟨hb1, rfl⟩ | hb1
        · exact hn' ⟨by rw [lm]; omega, by omega, by decide, fun z => by rw [lm] at z; omega, fun z => by have := k5 z; omega, k6⟩
        · exact h hb1.1
  · have q0 : Q (.tup [.int 0, .int 0]) := q0 (by rintro ⟨n', b', hn1, e', _⟩; exact hno n' hn1 e')
    sizeOf_list_dec
    refine iteB (fun h => ?_) (fun h => ?_)
    · have h : L.length = 2 := by rw [lm] at h; simp at h; omega
      obtain ⟨w, hw⟩ : ∃ w, L[1]? = some w := ⟨_, List.getElem?_eq_getElem (by omega)⟩
      sizeOf_list_dec
      refine ix_lst (i := 1) (d := .str w) (by rw [List.getElem?_map, hw]; rfl) ?_
      refine ⟨w, rfl, hL w hw, fun b hb e2 => ?_, fun hno => ?_⟩
      · exact frac_3 hsg (by decide) (fun k1 k2 k3 k4 k5 k6 => absurd k2 (by decide)) (fun hn' => q0)
      · exact frac_3 hsg (by decide) (fun k1 k2 k3 k4 k5 k6 => absurd k2 (by decide)) (fun hn' => q0)
    · sizeOf_list_dec
      exact frac_3 hsg (by decide) (fun k1 k2 k3 k4 k5 k6 => absurd k2 (by decide)) (fun hn' => q0)
def rd_frac_1 : XSp := rSeq (rIf (rTest (rBin oEq (rSl (rVar 2) none (some (rC (.int 1)))) (rC (.str "-")))) (rSeq (rSet 3 (rUn oNeg (rC (.int 1)))) (rSet 2 (rSl (rVar 2) (some (rC (.int 1))) none))) (rNext)) rd_frac_2
def rd_frac_0 : XSp := rSeq (rSet 2 (rBin oIx (rVar 1) (rC (.int 0)))) (rSeq (rSet 3 (rC (.int 1))) rd_frac_1)
theorem minus_iff (u : Str) : (cutS u none (some 1) == ("-" : Str)) = true ↔ ∃ r, TL.tl u = 45 :: r := by
  rw [beq_iff_eq]
  have e := tl_cut_to u 1
  constructor
  · intro h
    rw [show (cutS u none (some 1)) = cutS u none (some ((1 : Nat) : Int)) from rfl] at h
    rw [h, Pt.minus_tl] at e
    cases ht : TL.tl u with
    | nil => rw [ht] at e; cases e
    | cons c r =>
      rw [ht] at e
      obtain ⟨rfl, _⟩ := List.cons.inj e
      exact ⟨r, rfl⟩
  · rintro ⟨r, h⟩
    apply TL.ext_tl
    rw [Pt.minus_tl]
    refine e.trans ?_
    rw [h]
    rfl
/-- u is n written with or without a minus -/
theorem frac_1 {g0 : Sl} {L : List Str} {u : Str} {Q : D → Prop} {E : Exn → Prop} (hu : u.length ≤ 20000) (h1 : 1 ≤ L.length) (hL : ∀ w, L[1]? = some w → w.length ≤ 20000)
    (q : ∀ (t : Int) (b : Nat), t.natAbs < 10 ^ 60 → u = SI t → (L.length = 1 ∧ b = 1 ∨ L.length = 2 ∧ b < 10 ^ 60 ∧ 2 ≤ b ∧ L[1]? = some (SI b)) → Int.gcd t b = 1 → Q (.tup [.int t, .int b]))
    (q0 : (¬ ∃ (t : Int) (b : Nat), t.natAbs < 10 ^ 60 ∧ u = SI t ∧ (L.length = 1 ∧ b = 1 ∨ L.length = 2 ∧ b < 10 ^ 60 ∧ 2 ≤ b ∧ L[1]? = some (SI b)) ∧ Int.gcd t b = 1) → Q (.tup [.int 0, .int 0])) :
    rd_frac_1 [g0, .d (.lst (L.map D.str)), .d (.str u), .d (.int 1), .no, .no] (fnPo Q E) := by
  unfold rd_frac_1
  sizeOf_list_dec
  refine ⟨by omega, ?_⟩
  sizeOf_list_dec
  refine iteB (fun h => ?_) (fun h => ?_)
  · obtain ⟨r, er⟩ := (minus_iff u).mp h
    sizeOf_list_dec
    refine ⟨by omega, ?_⟩
    have e2 : TL.tl (cutS u (some 1) none) = r := by
      have := tl_cut_from u 1
      rw [er] at this
      exact this
    have l2 : (cutS u (some 1) none).length ≤ 20000 := Nat.le_trans cutS_len hu
    have neg : ∀ n : Nat, n ≠ 0 → (cutS u (some 1) none = SI n ↔ u = SI (-(n : Int))) := fun n hn => by
      have ht : TL.tl (SI (-(n : Int))) = 45 :: TL.numL n := by
        rw [Pt.tl_SI]
        unfold Pt.txtL
        rw [if_pos (by omega), show (-(n : Int)).natAbs = n by omega]
      constructor
      · intro h
        apply TL.ext_tl
        rw [ht, er, ← e2, h, Pt.SI_nat]
      · intro h
        apply TL.ext_tl
        rw [e2, Pt.SI_nat]
        rw [h, ht] at er
        exact (List.cons.inj er).2.symm
    refine frac_2 (.inr rfl) l2 h1 hL (fun n b hn e hb hz hg => ?_) (fun hno => q0 ?_)
    · have hz := hz (by decide)
      have := q (-(n : Int)) b (by omega) ((neg n hz).mp e) hb (by rw [Int.neg_gcd]; exact hg)
      rw [show (-1 : Int) * (n : Int) = -(n : Int) by omega]
      exact this
    · rintro ⟨t, b, ht, e, hb, hg⟩
      have t0 : t < 0 := by
        refine Classical.byContradiction fun hn => ?_
        have et : t = ((t.natAbs : Nat) : Int) := by omega
        rw [et] at e
        have e3 := Pt.SI_nat t.natAbs
        rw [← e, er] at e3
        have := TL.numL_digits t.natAbs 45 (by rw [← e3]; exact List.mem_cons_self)
        omega
      have en : t = -((t.natAbs : Nat) : Int) := by omega
      refine hno ⟨t.natAbs, b, ht, ?_, hb, fun _ => by omega, ?_⟩
      · exact (neg _ (by omega)).mpr (by rw [← en]; exact e)
      · rw [en, Int.neg_gcd] at hg
        exact hg
  · have hno45 : ¬ ∃ r, TL.tl u = 45 :: r := fun z => by rw [(minus_iff u).mpr z] at h; cases h
    sizeOf_list_dec
    refine frac_2 (.inl rfl) hu h1 hL (fun n b hn e hb hz hg => ?_) (fun hno => q0 ?_)
    · rw [Int.one_mul]
      exact q n b hn e hb hg
    · rintro ⟨t, b, ht, e, hb, hg⟩
      have t0 : 0 ≤ t := by
        refine Classical.byContradiction fun hn => hno45 ⟨TL.numL t.natAbs, ?_⟩
        rw [e, Pt.tl_SI]
        unfold Pt.txtL
        rw [if_pos (by omega)]
      have en : t = ((t.natAbs : Nat) : Int) := by omega
      exact hno ⟨t.natAbs, b, ht, by rw [← en]; exact e, hb, fun z => absurd z (by decide), by rw [← en]; exact hg⟩
theorem pure__law_fraction : ∀ ds Q E, S__law_fraction ds Q E → ds.length = 1 ∧ rd__law_fraction (init0 n__law_fraction ds) (fnPo Q E) := by
  rintro ds Q E ⟨s, rfl, hl, q, q0⟩
  refine ⟨rfl, ?_⟩
  unfold rd__law_fraction
  refine rd_seq (rd_set ?_)
  unfold rStr2
  refine rd_var rfl ?_
  dsimp only
  refine rd_c ?_
  dsimp only
  refine ⟨by decide +kernel, by omega, ?_⟩
  show rd_frac_0 [.d (.str s), .d (.lst ((Txt.split s "/").map D.str)), .no, .no, .no, .no] (fnPo Q E)
  -- the pieces
  have go : ∀ (u : Str) (L : List Str), u.length ≤ 20000 → (∀ w, L[0]? = some w → w.length ≤ 20000) →
      (∀ (t : Int) (b : Nat), t.natAbs < 10 ^ 60 → u = SI t → ((u :: L).length = 1 ∧ b = 1 ∨ (u :: L).length = 2 ∧ b < 10 ^ 60 ∧ 2 ≤ b ∧ (u :: L)[1]? = some (SI b)) → Int.gcd t b = 1 → Good s t b) →
      (∀ (t : Int) (b : Int), Good s t b → ∃ b' : Nat, u = SI t ∧ b = (b' : Int) ∧ ((u :: L).length = 1 ∧ b' = 1 ∨ (u :: L).length = 2 ∧ b' < 10 ^ 60 ∧ 2 ≤ b' ∧ (u :: L)[1]? = some (SI b'))) →
      rd_frac_0 [.d (.str s), .d (.lst ((u :: L).map D.str)), .no, .no, .no, .no] (fnPo Q E) := by
    intro u L hu hL to from'
    unfold rd_frac_0
    sizeOf_list_dec
    refine ix_lst (i := 0) (d := .str u) rfl ?_
    sizeOf_list_dec
    refine frac_1 (L := u :: L) hu (by rw [List.length_cons]; omega) (fun w hw => hL w hw) (fun t b ht e hb hg => ?_) (fun hno => ?_)
    · exact q t b (to t b ht e hb hg)
    · refine q0 fun t b g => hno ?_
      obtain ⟨b', h1, rfl, h3⟩ := from' t b g
      exact ⟨t, b', g.st, h1, h3, g.g⟩
  rcases slash_split s with h47 | ⟨a, b, h47, rfl⟩
  · rw [split_one h47]
    refine go s [] hl (fun w hw => by cases hw) (fun t b ht e hb hg => ?_) (fun t b g => ?_)
    · rcases hb with ⟨_, rfl⟩ | ⟨hb, _⟩
      · exact ⟨by rw [e]; exact (if_pos rfl).symm, by decide, hg, ht, by decide⟩
      · cases hb
    · have e := g.eq
      by_cases b1 : b = 1
      · subst b1
        exact ⟨1, e.trans (if_pos rfl), rfl, .inl ⟨rfl, rfl⟩⟩
      · rw [show ratText t b = SI t ++ "/" ++ SI b from if_neg b1] at e
        refine absurd ?_ h47
        rw [e, TL.tl_append, TL.tl_append, Pt.slash_tl]
        simp
  · have hl2 : a.length ≤ 20000 ∧ b.length ≤ 20000 := by
      have : (a ++ "/" ++ b).length = a.length + (("/" : Str)).length + b.length := by rw [Str.length_append, Str.length_append]
      omega
    have from' : ∀ (t : Int) (d : Int), Good (a ++ "/" ++ b) t d → a = SI t ∧ b = SI d ∧ 2 ≤ d ∧ ¬ (47 : Nat) ∈ TL.tl b := fun t d g => by
      have e := g.eq
      by_cases b1 : d = 1
      · rw [show ratText t d = SI t from if_pos b1] at e
        refine absurd ?_ (Pt.no_slash t)
        rw [← e, TL.tl_append, TL.tl_append, Pt.slash_tl]
        simp
      · rw [show ratText t d = SI t ++ "/" ++ SI d from if_neg b1] at e
        have p1 := TL.partition_app (a := a) (b := b) Pt.slash_tl h47
        rw [e, Pt.part_two] at p1
        have ea : SI t = a := (Prod.mk.inj p1).1
        have eb : SI d = b := (Prod.mk.inj (Prod.mk.inj p1).2).2
        have := g.b1
        exact ⟨ea.symm, eb.symm, by omega, by rw [← eb]; exact Pt.no_slash d⟩
    by_cases hb : (47 : Nat) ∈ TL.tl b
    · obtain ⟨q', r, t', e⟩ := split_more2 h47 hb
      rw [e]
      have hlen : q'.length ≤ 20000 ∨ True := .inr trivial
      have e3 : ∀ w, (q' :: r :: t')[0]? = some w → w.length ≤ 20000 := fun w hw => by
        obtain rfl : q' = w := Option.some.inj hw
        obtain ⟨c, d, e2, hc⟩ := List.eq_append_cons_of_mem hb
        have e3 : TL.tl b = c ++ ([47] ++ d) := by rw [e2]; rfl
        have e1 : (Txt.split (a ++ "/" ++ b) "/").map TL.tl = TL.tl a :: TL.spl [47] 0 [] (TL.tl b) := by
          rw [TL.split_spl _ "/" (by rw [Pt.slash_tl]; decide) (TL.kind_ok (by decide +kernel)), TL.tl_append, TL.tl_append, Pt.slash_tl, List.append_assoc, TL.spl_part1 h47]
          rfl
        rw [e, e3, TL.spl_part1 hc, List.map_cons, List.map_cons] at e1
        have e4 := (List.cons.inj (List.cons.inj e1).2).1
        have h2 := hl2.2
        rw [TL.len_tl, e3, List.length_append] at h2
        rw [TL.len_tl, e4]
        simp only [List.length_append, List.length_nil]
        omega
      refine go a _ hl2.1 e3 (fun t d ht e hd hg => ?_) (fun t d g => absurd hb (from' t d g).2.2.2)
      rcases hd with ⟨hd, _⟩ | ⟨hd, _⟩ <;> simp at hd
    · rw [split_two h47 hb]
      refine go a [b] hl2.1 (fun w hw => by cases hw; exact hl2.2) (fun t d ht e hd hg => ?_) (fun t d g => ?_)
      · rcases hd with ⟨hd, _⟩ | ⟨_, hd, hd2, ed⟩
        · cases hd
        · have eb : b = SI d := Option.some.inj ed
          refine ⟨?_, by omega, hg, ht, hd⟩
          rw [show ratText t d = SI t ++ "/" ++ SI d from if_neg (by omega), e, eb]
      · obtain ⟨h1, h2, h3, _⟩ := from' t d g
        refine ⟨d.natAbs, h1, by omega, .inr ⟨rfl, g.sb, by omega, ?_⟩⟩
        show some b = _
        rw [h2, show ((d.natAbs : Nat) : Int) = d by omega]
end Pu
namespace Pu
open PySem PySem.Spec PyProof.Rows L2
local macro_rules | `(tactic| sizeOf_list_dec) => `(tactic| (repeat (first | (with_reducible apply rd_cons) | ((with_reducible apply rd_var); case hg => rfl) | (with_reducible apply rd_nil) | (with_reducible apply rd_c) | (with_reducible apply rd_fn) | (with_reducible apply rd_bin) | (with_reducible apply rd_seq) | (with_reducible apply rd_next) | (with_reducible apply rd_test) | (with_reducible apply rd_onB) | (with_reducible apply rd_if) | (with_reducible apply rd_or) | (with_reducible apply rd_not) | (with_reducible apply rd_ret) | (with_reducible apply rd_set) | (with_reducible apply rd_gN) | (with_reducible apply rd_gsC) | (with_reducible apply rd_gsN) | (with_reducible apply rd_un) | (with_reducible apply rd_tup) | (with_reducible apply rd_le) | (with_reducible apply rd_eqI) | (with_reducible apply rd_neI) | (with_reducible apply rd_retN) | (with_reducible apply rd_brk) | (with_reducible apply rd_cont) | (with_reducible apply rd_setN) | (with_reducible apply rd_ownSet) | (with_reducible apply rd_asg) | (with_reducible apply rd_drop) | (with_reducible apply rd_for) | (with_reducible apply rd_raise) | (with_reducible apply rd_exn) | (with_reducible apply rd_and) | (with_reducible apply rd_yes) | (with_reducible apply rd_eand) | (with_reducible apply rd_eor) | (with_reducible apply rd_enot) | (with_reducible apply rd_ifE) | (with_reducible apply rd_lst) | (with_reducible apply rd_sz) | (with_reducible apply rd_new) | (with_reducible apply rd_wk) | (with_reducible apply rd_chain) | (with_reducible apply rd_make) | (with_reducible apply rd_star) | (with_reducible apply rd_items) | (with_reducible apply rd_enum) | (with_reducible apply rd_range) | (with_reducible apply rd_lc) | (with_reducible apply rd_lenSet) | (with_reducible apply rd_meth) | (with_reducible apply rd_sl) | (with_reducible apply rd_poN) | (with_reducible apply rd_poS) | (with_reducible apply rd_slT) | (with_reducible apply rd_slL) | (with_reducible apply rd_lt) | (with_reducible apply rd_ge) | (with_reducible apply rd_gt) | (with_reducible apply rd_addI) | (with_reducible apply rd_subI) | (with_reducible apply rd_negI) | (with_reducible apply rd_eqS) | (with_reducible apply rd_neS) | (with_reducible apply rd_isN) | (with_reducible apply rd_notN) | (with_reducible apply rd_isB) | (with_reducible apply rd_lenL) | (with_reducible apply rd_lenT) | (with_reducible apply rd_intI) | (with_reducible apply rd_listL) | (with_reducible apply rd_listT) | (with_reducible apply rd_tupL) | (with_reducible apply rd_tupT) | (with_reducible apply rd_ftup) | (with_reducible apply rd_inS) | ((with_reducible apply rd_app); case hg => rfl) | ((with_reducible apply rd_appF); case hg => rfl) | ((with_reducible apply rd_sFrz); case hg => rfl) | ((with_reducible apply rd_frzE); case hg => rfl) | ((with_reducible apply rd_tFrz); case hg => rfl) | ((with_reducible apply rd_gUt); case hg => rfl) | ((with_reducible apply rd_gUl); case hg => rfl) | (with_reducible apply rd_mkV1) | (with_reducible apply rd_mkV2) | (with_reducible apply rd_isS) | ((with_reducible apply rd_ivV); (case hg => rfl); (case hm => first | assumption | rfl)) | ((with_reducible apply rd_mxV); (case hg => rfl); (case hm => rfl)) | ((with_reducible apply rd_fxL); (case hg => rfl); (case hx => rfl); (case hm => rfl); (case hd => rfl)) | ((with_reducible apply rd_addL); (case hl => rfl)) | ((with_reducible apply rd_addS); (case hl => first | rfl | decide +kernel)) | ((with_reducible apply rd_k); (case hl => rfl)) | ((with_reducible apply rd_neK); (case hv => assumption)) | ((with_reducible apply rd_eqK); (case hv => assumption)) | ((with_reducible apply rd_fldV); (case hg => rfl); (case hm => rfl); (case hd => rfl)) | ((with_reducible apply rd_methV); (case hg => rfl); (case hm => rfl)) | ((with_reducible apply iteY); case e => rfl) | ((with_reducible apply iteN); case e => rfl))))
open Pt (rt rb SI ratText)
theorem good_inj {s : Str} {t b t' b' : Int} (g : Good s t b) (g' : Good s t' b') : t' = t ∧ b' = b := by
  have sI : ∀ x y : Int, x.natAbs < 10 ^ 60 → y.natAbs < 10 ^ 60 → SI x = SI y → x = y := fun x y hx hy h => by
    have a := Pt.int_SI hx
    rw [h, Pt.int_SI hy] at a
    exact (Option.some.inj a).symm
  have e : ratText t b = ratText t' b' := by rw [← g.eq, g'.eq]
  have emp : (Str.empty : Str) ≠ "/" := by decide +kernel
  by_cases h : b = 1
  · by_cases h' : b' = 1
    · rw [show ratText t b = SI t from if_pos h, show ratText t' b' = SI t' from if_pos h'] at e
      exact ⟨sI _ _ g'.st g.st e.symm, by omega⟩
    · rw [show ratText t b = SI t from if_pos h, show ratText t' b' = SI t' ++ "/" ++ SI b' from if_neg h'] at e
      have p := Pt.part_one (t := t)
      rw [e, Pt.part_two] at p
      exact absurd (Prod.mk.inj (Prod.mk.inj p).2).1.symm emp
  · by_cases h' : b' = 1
    · rw [show ratText t b = SI t ++ "/" ++ SI b from if_neg h, show ratText t' b' = SI t' from if_pos h'] at e
      have p := Pt.part_one (t := t')
      rw [← e, Pt.part_two] at p
      exact absurd (Prod.mk.inj (Prod.mk.inj p).2).1.symm emp
    · rw [show ratText t b = SI t ++ "/" ++ SI b from if_neg h, show ratText t' b' = SI t' ++ "/" ++ SI b' from if_neg h'] at e
      have p := Pt.part_two (t := t) (b := b)
      rw [e, Pt.part_two] at p
      exact ⟨sI _ _ g'.st g.st (Prod.mk.inj p).1, sI _ _ g'.sb g.sb (Prod.mk.inj (Prod.mk.inj p).2).2⟩
def rd_lread_3 : XSp := (rSeq (rIf (rTest (rBin oEq (rBin oIx (rVar 3) (rC (.int 1))) (rC (.int 0)))) (rRet (rBin oEq (rVar 1) (rTup (rCons (rC (.str "refused")) (rCons (rC (.str "text")) (rCons (rC (.bl true)) (rNil))))))) (rNext)) (rRet (rAnd (rBin oEq (rBin oIx (rVar 1) (rC (.int 0))) (rC (.str "told"))) (rFn S__law_is_ratio (rCons (rBin oIx (rVar 1) (rC (.int 1))) (rCons (rBin oIx (rVar 3) (rC (.int 0))) (rCons (rBin oIx (rVar 3) (rC (.int 1))) (rNil))))))))
theorem lread_good {g0 g2 : Sl} {s : Str} {t b : Int} {x : D} {Q : D → Prop} {E : Exn → Prop} (g : Good s t b) (q : Q (.bl true)) :
    rd_lread_3 [g0, .d (.tup [.str "told", ratD t b, x]), g2, .d (.tup [.int t, .int b])] (fnPo Q E) := by
  have b1 := g.b1
  unfold rd_lread_3
  sizeOf_list_dec
  refine ix_tup (i := 1) rfl ?_
  sizeOf_list_dec
  refine iteB (fun h => ?_) (fun h => ?_)
  · exact absurd (by simpa using h) (show b ≠ 0 by omega)
  sizeOf_list_dec
  refine ix_tup (i := 0) rfl ?_
  sizeOf_list_dec
  refine ix_tup (i := 1) rfl ?_
  sizeOf_list_dec
  refine ix_tup (i := 0) rfl ?_
  sizeOf_list_dec
  refine ix_tup (i := 1) rfl ?_
  sizeOf_list_dec
  exact ⟨t, b, t, b, rfl, b1, g.g, rfl, p1k g.st, p1k g.sb, p1k g.st, p1k g.sb, q⟩
theorem lread_bad {g0 g2 : Sl} {Q : D → Prop} {E : Exn → Prop} (q : Q (.bl true)) :
    rd_lread_3 [g0, .d (.tup [.str "refused", .str "text", .bl true]), g2, .d (.tup [.int 0, .int 0])] (fnPo Q E) := by
  unfold rd_lread_3
  sizeOf_list_dec
  refine ix_tup (i := 1) rfl ?_
  sizeOf_list_dec
  refine ⟨by show 3 ≤ 1000; decide, ?_⟩
  exact eq_self rfl q
def rd_lread_2 : XSp := (rSeq (rSet 3 (rTup (rCons (rC (.int 0)) (rCons (rC (.int 0)) (rNil))))) (rSeq (rIf (rTest (rUn (oIsi csL [.b "str"]) (rVar 0))) (rSet 3 (rFn S__law_fraction (rCons (rVar 0) (rNil)))) (rNext)) rd_lread_3))
theorem isStr_eq {d : D} (h : isStrD d = true) : ∃ s, d = .str s := by
  cases d <;> first | exact ⟨_, rfl⟩ | cases h
theorem lread2_good {g3 : Sl} {s : Str} {t b : Int} {x : D} {Q : D → Prop} {E : Exn → Prop} (hl : s.length ≤ 20000) (g : Good s t b) (q : Q (.bl true)) :
    rd_lread_2 [.d (.str s), .d (.tup [.str "told", ratD t b, x]), .no, g3] (fnPo Q E) := by
  unfold rd_lread_2
  sizeOf_list_dec
  refine ⟨by show 2 ≤ 1000; decide, ?_⟩
  sizeOf_list_dec
  refine ⟨trivial, ?_⟩
  rw [isT_str]
  sizeOf_list_dec
  refine ⟨s, rfl, hl, fun t' b' g' => ?_, fun no => absurd g (no t b)⟩
  obtain ⟨rfl, rfl⟩ := good_inj g g'
  exact lread_good g q
theorem lread2_bad {d : D} {g3 : Sl} {Q : D → Prop} {E : Exn → Prop} (o : okI csL d) (hl : ∀ s, d = .str s → s.length ≤ 20000) (no : ∀ s t b, d = .str s → ¬ Good s t b) (q : Q (.bl true)) :
    rd_lread_2 [.d d, .d (.tup [.str "refused", .str "text", .bl true]), .no, g3] (fnPo Q E) := by
  unfold rd_lread_2
  sizeOf_list_dec
  refine ⟨by show 2 ≤ 1000; decide, ?_⟩
  sizeOf_list_dec
  refine ⟨o, ?_⟩
  rw [isT_str]
  sizeOf_list_dec
  cases hs : isStrD d with
  | false =>
    sizeOf_list_dec
    exact lread_bad q
  | true =>
    obtain ⟨s, rfl⟩ := isStr_eq hs
    sizeOf_list_dec
    exact ⟨s, rfl, hl s rfl, fun t b g => absurd g (no s t b rfl), fun _ => lread_bad q⟩
theorem pure__law_read : ∀ ds Q E, S__law_read ds Q E → ds.length = 1 ∧ rd__law_read (init0 n__law_read ds) (fnPo Q E) := by
  rintro ds Q E ⟨d, rfl, o, hl, q⟩
  refine ⟨rfl, ?_⟩
  unfold rd__law_read
  sizeOf_list_dec
  refine ⟨by show 3 ≤ 1000; decide, ?_⟩
  sizeOf_list_dec
  unfold rTry
  dsimp only
  sizeOf_list_dec
  refine ⟨d, rfl, o, hl, fun s t b e g => ?_, fun no => ?_⟩
  · subst e
    sizeOf_list_dec
    refine ⟨by show 3 ≤ 1000; decide, ?_⟩
    exact lread2_good (hl s rfl) g q
  · dsimp only [List.lookup]
    sizeOf_list_dec
    unfold rXf
    sizeOf_list_dec
    unfold rIsX
    sizeOf_list_dec
    refine ⟨by show 3 ≤ 1000; decide, ?_⟩
    refine ⟨rfl, ?_⟩
    exact lread2_bad o hl no q
end Pu
namespace Pu
open PySem PySem.Spec PyProof.Rows L2
local macro_rules | `(tactic| sizeOf_list_dec) => `(tactic| (repeat (first | (with_reducible apply rd_cons) | ((with_reducible apply rd_var); case hg => rfl) | (with_reducible apply rd_nil) | (with_reducible apply rd_c) | (with_reducible apply rd_fn) | (with_reducible apply rd_bin) | (with_reducible apply rd_seq) | (with_reducible apply rd_next) | (with_reducible apply rd_test) | (with_reducible apply rd_onB) | (with_reducible apply rd_if) | (with_reducible apply rd_or) | (with_reducible apply rd_not) | (with_reducible apply rd_ret) | (with_reducible apply rd_set) | (with_reducible apply rd_gN) | (with_reducible apply rd_gsC) | (with_reducible apply rd_gsN) | (with_reducible apply rd_un) | (with_reducible apply rd_tup) | (with_reducible apply rd_le) | (with_reducible apply rd_eqI) | (with_reducible apply rd_neI) | (with_reducible apply rd_retN) | (with_reducible apply rd_brk) | (with_reducible apply rd_cont) | (with_reducible apply rd_setN) | (with_reducible apply rd_ownSet) | (with_reducible apply rd_asg) | (with_reducible apply rd_drop) | (with_reducible apply rd_for) | (with_reducible apply rd_raise) | (with_reducible apply rd_exn) | (with_reducible apply rd_and) | (with_reducible apply rd_yes) | (with_reducible apply rd_eand) | (with_reducible apply rd_eor) | (with_reducible apply rd_enot) | (with_reducible apply rd_ifE) | (with_reducible apply rd_lst) | (with_reducible apply rd_sz) | (with_reducible apply rd_new) | (with_reducible apply rd_wk) | (with_reducible apply rd_chain) | (with_reducible apply rd_make) | (with_reducible apply rd_star) | (with_reducible apply rd_items) | (with_reducible apply rd_enum) | (with_reducible apply rd_range) | (with_reducible apply rd_lc) | (with_reducible apply rd_lenSet) | (with_reducible apply rd_meth) | (with_reducible apply rd_sl) | (with_reducible apply rd_poN) | (with_reducible apply rd_poS) | (with_reducible apply rd_slT) | (with_reducible apply rd_slL) | (with_reducible apply rd_lt) | (with_reducible apply rd_ge) | (with_reducible apply rd_gt) | (with_reducible apply rd_addI) | (with_reducible apply rd_subI) | (with_reducible apply rd_negI) | (with_reducible apply rd_eqS) | (with_reducible apply rd_neS) | (with_reducible apply rd_isN) | (with_reducible apply rd_notN) | (with_reducible apply rd_isB) | (with_reducible apply rd_lenL) | (with_reducible apply rd_lenT) | (with_reducible apply rd_intI) | (with_reducible apply rd_listL) | (with_reducible apply rd_listT) | (with_reducible apply rd_tupL) | (with_reducible apply rd_tupT) | (with_reducible apply rd_ftup) | (with_reducible apply rd_inS) | ((with_reducible apply rd_app); case hg => rfl) | ((with_reducible apply rd_appF); case hg => rfl) | ((with_reducible apply rd_sFrz); case hg => rfl) | ((with_reducible apply rd_frzE); case hg => rfl) | ((with_reducible apply rd_tFrz); case hg => rfl) | ((with_reducible apply rd_gUt); case hg => rfl) | ((with_reducible apply rd_gUl); case hg => rfl) | (with_reducible apply rd_mkV1) | (with_reducible apply rd_mkV2) | (with_reducible apply rd_isS) | ((with_reducible apply rd_ivV); (case hg => rfl); (case hm => first | assumption | rfl)) | ((with_reducible apply rd_mxV); (case hg => rfl); (case hm => rfl)) | ((with_reducible apply rd_fxL); (case hg => rfl); (case hx => rfl); (case hm => rfl); (case hd => rfl)) | ((with_reducible apply rd_addL); (case hl => rfl)) | ((with_reducible apply rd_addS); (case hl => first | rfl | decide +kernel)) | ((with_reducible apply rd_k); (case hl => rfl)) | ((with_reducible apply rd_neK); (case hv => assumption)) | ((with_reducible apply rd_eqK); (case hv => assumption)) | ((with_reducible apply rd_fldV); (case hg => rfl); (case hm => rfl); (case hd => rfl)) | ((with_reducible apply rd_methV); (case hg => rfl); (case hm => rfl)) | ((with_reducible apply iteY); case e => rfl) | ((with_reducible apply iteN); case e => rfl))))
open Pt (rt rb SI ratText)
theorem mul_len {u : Str} {n : Int} {N : Nat} (hu : u.length = 1) (h : n ≤ N) : (Txt.mul u n).length ≤ N := by
  have := PyProof.Rows.len_mul_leN (x := u) (n := n) (L := 1) (N := N) (by omega) h
  omega
theorem rd_absI {x : Int} {Q : D → Prop} {E : Exn → Prop} (h : Q (.int (if x < 0 then -x else x))) : oAbs [.int x] Q E := h
theorem app_len (a b : Str) : (a ++ b).length = a.length + b.length := Str.length_append a b
theorem one_len : (("1" : Str)).length = 1 ∧ (("0" : Str)).length = 1 ∧ (("7" : Str)).length = 1 ∧ (("/1" : Str)).length = 2 ∧ (("/" : Str)).length = 1 ∧ ((" " : Str)).length = 1 := by decide +kernel
theorem t30 (r : Int) (h : r.natAbs ≤ 10 ^ 30 + 3) : r.natAbs < 10 ^ 60 := Nat.lt_of_le_of_lt h (by decide +kernel)
theorem SI_le {r : Int} (h : r.natAbs ≤ 10 ^ 30 + 3) : (SI r).length ≤ 61 := Pt.len_SI (t30 r h)
theorem SI_log {r : Int} (h : r.natAbs ≤ 10 ^ 30 + 3) : r.natAbs.log2 < 1920 := Pt.log_small (p200 (t30 r h))
def rd_text_3 : XSp := (rSeq (rIf (rTest (rBin oGt (rVar 1) (rC (.int 3)))) (rSeq (rSet 4 (rFn oDraw (rCons (rVar 0) (rCons (rBin oAdd (rFn oLen (rCons (rVar 3) (rNil))) (rC (.int 1))) (rNil))))) (rSeq (rSet 5 (rBin oIx (rC (.str "0123456789-/+ _.a")) (rFn oDraw (rCons (rVar 0) (rCons (rC (.int 17)) (rNil)))))) (rSet 3 (rBin oAdd (rBin oAdd (rSl (rVar 3) none (some (rVar 4))) (rVar 5)) (rSl (rVar 3) (some (rBin oAdd (rVar 4) (rFn oDraw (rCons (rVar 0) (rCons (rC (.int 2)) (rNil)))))) none))))) (rNext)) (rRet (rVar 3)))
theorem one_sign (c : Nat) : (⟨#[c]⟩ : Str).length = 1 := rfl
theorem text_3 {k : Int} {s : Str} {g2 : Sl} {Q : D → Prop} {E : Exn → Prop} (hs : s.length ≤ 200) (q : ∀ s : Str, s.length ≤ 19999 → Q (.str s)) :
    rd_text_3 [.d .law, .d (.int k), g2, .d (.str s), .no, .no] (fnPo Q E) := by
  unfold rd_text_3
  sizeOf_list_dec
  refine iteB (fun h => ?_) (fun h => ?_)
  · sizeOf_list_dec
    refine ⟨by omega, ?_⟩
    sizeOf_list_dec
    have e1 : ((s.length : Int) + 1) = ((s.length + 1 : Nat) : Int) := by omega
    rw [e1]
    refine draw_nat (m := s.length + 1) (by omega) (by omega) fun at' hat => ?_
    sizeOf_list_dec
    refine draw_nat (m := 17) (by decide) (by decide) fun j hj => ?_
    have len17 : (("0123456789-/+ _.a" : Str)).length = 17 := by decide +kernel
    obtain ⟨c, hc⟩ : ∃ c, (("0123456789-/+ _.a" : Str)).cps.toList[j]? = some c := ⟨_, List.getElem?_eq_getElem (by
      have : (("0123456789-/+ _.a" : Str)).cps.toList.length = 17 := by rw [← len17]; exact (TL.len_tl _).symm
      omega)⟩
    refine ix_str (c := c) (by rw [len17]; decide) hc ?_
    sizeOf_list_dec
    refine ⟨by omega, ?_⟩
    have l1 := cutS_len (z := s) (lo := none) (hi := some (at' : Int))
    have l2 : ((cutS s none (some (at' : Int))) ++ (⟨#[c]⟩ : Str)).length = (cutS s none (some (at' : Int))).length + 1 := by rw [app_len]; rfl
    sizeOf_list_dec
    refine ⟨by rw [one_sign]; omega, ?_⟩
    sizeOf_list_dec
    refine draw_nat (m := 2) (by decide) (by decide) fun w hw => ?_
    sizeOf_list_dec
    refine ⟨by omega, ?_⟩
    have l3 := cutS_len (z := s) (lo := some ((at' : Int) + (w : Int))) (hi := none)
    refine ⟨by omega, ?_⟩
    sizeOf_list_dec
    exact q _ (by rw [app_len]; omega)
  · sizeOf_list_dec
    exact q _ (by omega)
theorem pure__law_text : ∀ ds Q E, S__law_text ds Q E → ds.length = 1 ∧ rd__law_text (init0 n__law_text ds) (fnPo Q E) := by
  rintro ds Q E ⟨rfl, q⟩
  refine ⟨rfl, ?_⟩
  obtain ⟨u1, u0, u7, us1, us, ub⟩ := one_len
  unfold rd__law_text
  sizeOf_list_dec
  refine draw_nat (m := 8) (by decide) (by decide) fun k hk => ?_
  sizeOf_list_dec
  refine iteB (fun h => ?_) (fun h => ?_)
  · sizeOf_list_dec
    refine draw_nat (m := 4) (by decide) (by decide) fun r hr => ?_
    sizeOf_list_dec
    refine ⟨by omega, by omega, u0, ?_⟩
    have l1 := mul_len (u := "0") (n := 58 + (r : Int)) (N := 100) u0 (by omega)
    sizeOf_list_dec
    refine ⟨by omega, ?_⟩
    sizeOf_list_dec
    have l2 := app_len "1" (Txt.mul "0" (58 + (r : Int)))
    refine ⟨by omega, ?_⟩
    sizeOf_list_dec
    refine draw_nat (m := 4) (by decide) (by decide) fun r2 hr2 => ?_
    sizeOf_list_dec
    refine ⟨by omega, by omega, u0, ?_⟩
    have l3 := mul_len (u := "0") (n := 57 + (r2 : Int)) (N := 100) u0 (by omega)
    have l4 := app_len ("1" ++ Txt.mul "0" (58 + (r : Int))) "/1"
    refine ⟨by omega, ?_⟩
    have l5 := app_len ("1" ++ Txt.mul "0" (58 + (r : Int)) ++ "/1") (Txt.mul "0" (57 + (r2 : Int)))
    sizeOf_list_dec
    refine ⟨by omega, ?_⟩
    exact q _ (by rw [app_len]; omega)
  · sizeOf_list_dec
    refine iteB (fun h => ?_) (fun h => ?_)
    · sizeOf_list_dec
      refine ⟨by decide, by decide, u7, ?_⟩
      have l1 := mul_len (u := "7") (n := 5000) (N := 5000) u7 (by decide)
      exact q _ (by omega)
    · sizeOf_list_dec
      refine ⟨⟨by decide, by decide, by decide⟩, ?_⟩
      sizeOf_list_dec
      refine ⟨by show 4 ≤ 1000; decide, ?_⟩
      sizeOf_list_dec
      refine draw_nat (m := 4) (by decide) (by decide) fun j hj => ?_
      have go : ∀ m : Int, 1 ≤ m → m ≤ 10 ^ 30 → S__law_far [.law, .int m] (fun d => oStr [d] (fun d => rSeq (rIf (rTest (rBin oNe (rVar 1) (rC (.int 2)))) (rSet 3 (rBin oAdd (rBin oAdd (rVar 3) (rC (.str "/"))) (rFn oStr (rCons (rFn oAbs (rCons (rFn S__law_far (rCons (rVar 0) (rCons (rC (.int 12)) (rNil)))) (rNil))) (rNil))))) (rNext)) rd_text_3 [.d .law, .d (.int k), .no, .d d, .no, .no] (fnPo Q E)) E) E := fun m h0 h1 => by
        refine ⟨m, rfl, h0, h1, fun r hr => ?_⟩
        refine ⟨SI_log hr, ?_⟩
        show rSeq _ _ [.d .law, .d (.int k), .no, .d (.str (SI r)), .no, .no] (fnPo Q E)
        have l1 := SI_le hr
        sizeOf_list_dec
        refine iteB (fun h => ?_) (fun h => ?_)
        · sizeOf_list_dec
          refine ⟨by omega, ?_⟩
          have l2 := app_len (SI r) "/"
          sizeOf_list_dec
          refine ⟨12, rfl, by decide, by decide, fun r2 hr2 => ?_⟩
          have hr3 : (if r2 < 0 then -r2 else r2).natAbs ≤ 10 ^ 30 + 3 := by split <;> omega
          sizeOf_list_dec
          refine rd_absI ?_
          sizeOf_list_dec
          refine ⟨SI_log hr3, ?_⟩
          have l3 := SI_le hr3
          refine ⟨?_, ?_⟩
          · show (SI r ++ "/").length + (SI (if r2 < 0 then -r2 else r2)).length ≤ 100000
            omega
          · refine text_3 (s := SI r ++ "/" ++ SI (if r2 < 0 then -r2 else r2)) ?_ q
            rw [app_len]
            omega
        · sizeOf_list_dec
          exact text_3 (by omega) q
      match j, hj with
      | 0, _ => exact ix_lst (i := 0) rfl (go 3 (by decide) (by decide))
      | 1, _ => exact ix_lst (i := 1) rfl (go 10 (by decide) (by decide))
      | 2, _ => exact ix_lst (i := 2) rfl (go 1000 (by decide) (by decide))
      | 3, _ => exact ix_lst (i := 3) rfl (go (10 ^ 9) (by decide) (by decide))
theorem pure_law : rd_law (.no :: .d .law :: List.replicate (5 - 2) .no) lawPo := by
  obtain ⟨u1, u0, u7, us1, us, ub⟩ := one_len
  unfold rd_law
  sizeOf_list_dec
  refine ⟨rfl, fun x hx => ?_⟩
  sizeOf_list_dec
  refine ⟨rfl, fun y hy => ?_⟩
  sizeOf_list_dec
  refine draw_nat (m := 4) (by decide) (by decide) fun r hr => ?_
  sizeOf_list_dec
  refine ⟨_, _, _, rfl, hx, hy, ?_⟩
  sizeOf_list_dec
  refine ⟨rfl, fun s hs => ?_⟩
  sizeOf_list_dec
  have rdS : ∀ (s : Str) (Q : D → Prop) (E : Exn → Prop), s.length ≤ 20000 → Q (.bl true) → S__law_read [.str s] Q E := fun s Q E hs q => ⟨_, rfl, trivial, fun s' e => by cases e; exact hs, q⟩
  refine rdS s _ _ (by omega) ?_
  sizeOf_list_dec
  refine ⟨by omega, ?_⟩
  sizeOf_list_dec
  refine rdS (s ++ " ") _ _ (by rw [app_len]; omega) ?_
  sizeOf_list_dec
  refine rdS s _ _ (by omega) ?_
  sizeOf_list_dec
  refine ⟨by show 1 ≤ 1000; decide, ?_⟩
  sizeOf_list_dec
  refine ⟨.int 3, .int 1, rfl, trivial, trivial, fun b e => by cases e; decide, fun w e => ?_, fun t b e1 e2 _ => ?_⟩
  · rw [wordR_ok (by decide)] at e
    cases e
  sizeOf_list_dec
  refine ⟨by show 2 ≤ 1000; decide, ?_⟩
  sizeOf_list_dec
  refine ⟨by show 6 ≤ 1000; decide, ?_⟩
  sizeOf_list_dec
  refine draw_nat (m := 6) (by decide) (by decide) fun j hj => ?_
  have fin : ∀ d : D, okI csL d → (∀ s, d ≠ .str s) → S__law_read [d] lawPo.rt (fun e => lawPo.ex e []) := fun d o n => ⟨d, rfl, o, fun s e => absurd e (n s), rfl⟩
  match j, hj with
  | 0, _ => exact ix_lst (i := 0) rfl (fin _ trivial fun s e => by cases e)
  | 1, _ => exact ix_lst (i := 1) rfl (fin _ trivial fun s e => by cases e)
  | 2, _ => exact ix_lst (i := 2) rfl (fin _ trivial fun s e => by cases e)
  | 3, _ => exact ix_lst (i := 3) rfl (fin _ (List.mem_singleton.mpr rfl) fun s e => by cases e)
  | 4, _ => exact ix_lst (i := 4) rfl (fin _ trivial fun s e => by cases e)
  | 5, _ => exact ix_lst (i := 5) rfl (fin _ trivial fun s e => by cases e)
end Pu
namespace Pu
open PySem PySem.Spec PyProof.Rows L2
def topS (i : Nat) : Stmt := PySem.Challenge.pw_partstell_k05_ratio_refused.main.body.getD i (.Pass ⟨0, 0, 0, 0⟩)
abbrev s__law_start : Stmt := topS 17
abbrev s__law_draw : Stmt := topS 18
abbrev s_common_divisor : Stmt := topS 13
abbrev s_is_integer : Stmt := topS 6
abbrev s_Ratio_init : Stmt := inClass (topS 10) 0
abbrev s__law_integer : Stmt := topS 20
abbrev s__law_due : Stmt := topS 24
abbrev s__law_divisor : Stmt := topS 21
abbrev s__law_is_ratio : Stmt := topS 22
abbrev s__law_built : Stmt := topS 25
abbrev s_Ratio_text : Stmt := inClass (topS 10) 22
abbrev s_is_digits : Stmt := topS 15
abbrev s_Ratio_read : Stmt := inClass (topS 10) 23
abbrev s__law_digits : Stmt := topS 27
abbrev s__law_fraction : Stmt := topS 28
abbrev s__law_read : Stmt := topS 29
abbrev s__law_far : Stmt := topS 19
abbrev s__law_text : Stmt := topS 26
abbrev s__law_value : Stmt := topS 23
abbrev s_law : Stmt := topS 30
abbrev s_NoRatio_init : Stmt := inClass (topS 3) 0
theorem sc_common_divisor : FnScope ["one", "other"] ["one", "other"] (defScope s_common_divisor) := ⟨rfl, rfl, rfl, by decide +kernel, rfl, by decide +kernel, by decide +kernel⟩
theorem sc_is_integer : FnScope ["thing"] ["thing"] (defScope s_is_integer) := ⟨rfl, rfl, rfl, by decide +kernel, rfl, by decide +kernel, by decide +kernel⟩
theorem sc_Ratio_init : FnScope ["self", "top", "bottom", "shared"] ["self", "top", "bottom"] (defScope s_Ratio_init) := ⟨rfl, rfl, rfl, by decide +kernel, rfl, by decide +kernel, by decide +kernel⟩
theorem sc__law_integer : FnScope ["_law_value_here"] ["_law_value_here"] (defScope s__law_integer) := ⟨rfl, rfl, rfl, by decide +kernel, rfl, by decide +kernel, by decide +kernel⟩
theorem sc__law_due : FnScope ["_law_top", "_law_bottom"] ["_law_top", "_law_bottom"] (defScope s__law_due) := ⟨rfl, rfl, rfl, by decide +kernel, rfl, by decide +kernel, by decide +kernel⟩
theorem sc__law_divisor : FnScope ["_law_one", "_law_other", "_law_rest"] ["_law_one", "_law_other"] (defScope s__law_divisor) := ⟨rfl, rfl, rfl, by decide +kernel, rfl, by decide +kernel, by decide +kernel⟩
theorem sc__law_is_ratio : FnScope ["_law_value_here", "_law_top", "_law_bottom"] ["_law_value_here", "_law_top", "_law_bottom"] (defScope s__law_is_ratio) := ⟨rfl, rfl, rfl, by decide +kernel, rfl, by decide +kernel, by decide +kernel⟩
theorem sc__law_built : FnScope ["_law_top", "_law_bottom", "_law_alone", "_law_answer", "e", "_law_word"] ["_law_top", "_law_bottom", "_law_alone"] (defScope s__law_built) := ⟨rfl, rfl, rfl, by decide +kernel, rfl, by decide +kernel, by decide +kernel⟩
theorem sc_Ratio_text : FnScope ["self"] ["self"] (defScope s_Ratio_text) := ⟨rfl, rfl, rfl, by decide +kernel, rfl, by decide +kernel, by decide +kernel⟩
theorem sc_is_digits : FnScope ["text", "sign"] ["text"] (defScope s_is_digits) := ⟨rfl, rfl, rfl, by decide +kernel, rfl, by decide +kernel, by decide +kernel⟩
theorem sc_Ratio_read : FnScope ["text", "top", "slash", "bottom", "found"] ["text"] (defScope s_Ratio_read) := ⟨rfl, rfl, rfl, by decide +kernel, rfl, by decide +kernel, by decide +kernel⟩
theorem sc__law_digits : FnScope ["_law_text_here", "_law_char"] ["_law_text_here"] (defScope s__law_digits) := ⟨rfl, rfl, rfl, by decide +kernel, rfl, by decide +kernel, by decide +kernel⟩
theorem sc__law_fraction : FnScope ["_law_text_here", "_law_parts", "_law_upper", "_law_sign", "_law_top", "_law_bottom"] ["_law_text_here"] (defScope s__law_fraction) := ⟨rfl, rfl, rfl, by decide +kernel, rfl, by decide +kernel, by decide +kernel⟩
theorem sc__law_read : FnScope ["_law_text_here", "_law_answer", "e", "_law_due_here"] ["_law_text_here"] (defScope s__law_read) := ⟨rfl, rfl, rfl, by decide +kernel, rfl, by decide +kernel, by decide +kernel⟩
theorem sc__law_far : FnScope ["_law_state", "_law_bound", "_law_kind", "_law_number", "_law_k"] ["_law_state", "_law_bound"] (defScope s__law_far) := ⟨rfl, rfl, rfl, by decide +kernel, rfl, by decide +kernel, by decide +kernel⟩
theorem sc__law_text : FnScope ["_law_state", "_law_kind", "_law_upper", "_law_text_here", "_law_at", "_law_char"] ["_law_state"] (defScope s__law_text) := ⟨rfl, rfl, rfl, by decide +kernel, rfl, by decide +kernel, by decide +kernel⟩
theorem sc__law_value : FnScope ["_law_state", "_law_kind"] ["_law_state"] (defScope s__law_value) := ⟨rfl, rfl, rfl, by decide +kernel, rfl, by decide +kernel, by decide +kernel⟩
theorem sc_law : FnScope ["_law_script", "_law_state", "_law_top", "_law_bottom", "_law_text_here"] ["_law_script"] (defScope s_law) := ⟨rfl, rfl, rfl, by decide +kernel, rfl, by decide +kernel, by decide +kernel⟩
end Pu
namespace Pu
open PySem PySem.Spec PyProof.Rows L2
theorem ok_common_divisor {P : Program} {w : World} {K : PySem.W.Frag} {mg : Str → Option Value} {base : Heap} {CT : Nat → Addr} {lay : Nat → List Str} {f : Addr} {fd : FuncData} (Fn : FunG K "common_divisor" "common_divisor" s_common_divisor f fd) (z_abs : mg "abs" = none) : FnOk P w K mg base (L2.CX P w) 1 f fd ["one", "other"] (spP CT lay S_common_divisor) := by
  refine fn_okG (k := 0) Fn sc_common_divisor pure_common_divisor fun B cdv A outer s H E hCT hlay hcur hr => ?_
  subst hCT hlay
  exact xss_cons (xs_while po_fn (xt_cmp (xo_ne hr) (xe_var 1) (xe_int)) (xss_one (xs_par 0 1 rfl sc_common_divisor.nd (xa_cons (xe_var 1) (xa_cons (xe_bin xo_mod (xe_var 0) (xe_var 1)) (xa_nil)))))) (xss_one (xs_ret (xe_callB xf_abs z_abs boot_abs (xa_cons (xe_var 0) (xa_nil)))))
theorem ok_is_integer {P : Program} {w : World} {K : PySem.W.Frag} {mg : Str → Option Value} {base : Heap} {CT : Nat → Addr} {lay : Nat → List Str} {f : Addr} {fd : FuncData} (Fn : FunG K "is_integer" "is_integer" s_is_integer f fd) (z_isinstance : mg "isinstance" = none) (clsX : ClsX K CT csL) (z_int : mg "int" = none) (z_bool : mg "bool" = none) : FnOk P w K mg base (L2.CX P w) 1 f fd ["thing"] (spP CT lay S_is_integer) := by
  refine fn_okG (k := 0) Fn sc_is_integer pure_is_integer fun B cdv A outer s H E hCT hlay hcur hr => ?_
  subst hCT hlay
  exact xss_one (xs_ret (xe_and (xe_isi (cs := csL) (t := .b "int") clsX (tyOk_of (by decide)) z_isinstance boot_isinstance (xe_var 0) (xe_bty z_int boot_int)) (xe_one (xe_not (xe_isi (cs := csL) (t := .b "bool") clsX (tyOk_of (by decide)) z_isinstance boot_isinstance (xe_var 0) (xe_bty z_bool boot_bool))))))
theorem ok_Ratio_init {P : Program} {w : World} {K : PySem.W.Frag} {mg : Str → Option Value} {base : Heap} {CT : Nat → Addr} {lay : Nat → List Str} {f : Addr} {fd : FuncData} (hl_Ratio : (lay cRatio).length = 2) (Fn : FunG K "__init__" "Ratio.__init__" s_Ratio_init f fd) (h_is_integer : FnAt P w K mg base CT lay 1 "is_integer" ["thing"] S_is_integer) (x_NoRatio : XnAt P w K mg base CT lay 1 "NoRatio" cNoRatio ["self", "word"]) (n_NoRatio : (lay cNoRatio).length = 1) (h_common_divisor : FnAt P w K mg base CT lay 1 "common_divisor" ["one", "other"] S_common_divisor) (flp_top : FldOk K CT lay "top" [(cRatio, 0)]) (sz_top : ∀ p ∈ ([(cRatio, 0)] : List (Nat × Nat)), (lay p.1).length < 1000) (flp_bottom : FldOk K CT lay "bottom" [(cRatio, 1)]) (sz_bottom : ∀ p ∈ ([(cRatio, 1)] : List (Nat × Nat)), (lay p.1).length < 1000) : FnOk P w K mg base (L2.CX P w) 3 f fd ["self", "top", "bottom"] (spI CT lay cRatio I_Ratio) := by
  refine init_ok (k := 2) Fn sc_Ratio_init hl_Ratio pure_Ratio_init fun B cdv A outer s H E hCT hlay hcur hr => ?_
  subst hCT hlay
  exact xss_cons (xs_if (xt_not (xt_val (xe_callA h_is_integer (hr.mono (by decide)) tk_fn (xa_cons (xe_var 1) (xa_nil))))) (xss_one (xs_raise tk_fn (xr_exnA x_NoRatio (hr.mono (by decide)) n_NoRatio (xa_cons (xe_str) (xa_nil))))) (xss_nil)) (xss_cons (xs_if (xt_not (xt_val (xe_callA h_is_integer (hr.mono (by decide)) tk_fn (xa_cons (xe_var 2) (xa_nil))))) (xss_one (xs_raise tk_fn (xr_exnA x_NoRatio (hr.mono (by decide)) n_NoRatio (xa_cons (xe_str) (xa_nil))))) (xss_nil)) (xss_cons (xs_if (xt_cmp (xo_eq hr) (xe_var 2) (xe_int)) (xss_one (xs_raise tk_fn (xr_exnA x_NoRatio (hr.mono (by decide)) n_NoRatio (xa_cons (xe_str) (xa_nil))))) (xss_nil)) (xss_cons (xs_set 3 (xe_callA h_common_divisor (hr.mono (by decide)) tk_fn (xa_cons (xe_var 1) (xa_cons (xe_var 2) (xa_nil)))) sc_Ratio_init.nd) (xss_cons (xs_if (xt_cmp xo_lt (xe_var 2) (xe_int)) (xss_one (xs_set 3 (xe_un xu_neg (xe_var 3)) sc_Ratio_init.nd)) (xss_nil)) (xss_cons (xs_put 0 flp_top sz_top (xe_bin xo_fdiv (xe_var 1) (xe_var 3))) (xss_one (xs_put 0 flp_bottom sz_bottom (xe_bin xo_fdiv (xe_var 2) (xe_var 3)))))))))
theorem ok__law_integer {P : Program} {w : World} {K : PySem.W.Frag} {mg : Str → Option Value} {base : Heap} {CT : Nat → Addr} {lay : Nat → List Str} {f : Addr} {fd : FuncData} (Fn : FunG K "_law_integer" "_law_integer" s__law_integer f fd) (z_isinstance : mg "isinstance" = none) (clsX : ClsX K CT csL) (z_int : mg "int" = none) (z_bool : mg "bool" = none) : FnOk P w K mg base (L2.CX P w) 1 f fd ["_law_value_here"] (spP CT lay S__law_integer) := by
  refine fn_okG (k := 0) Fn sc__law_integer pure__law_integer fun B cdv A outer s H E hCT hlay hcur hr => ?_
  subst hCT hlay
  exact xss_one (xs_ret (xe_and (xe_isi (cs := csL) (t := .b "int") clsX (tyOk_of (by decide)) z_isinstance boot_isinstance (xe_var 0) (xe_bty z_int boot_int)) (xe_one (xe_not (xe_isi (cs := csL) (t := .b "bool") clsX (tyOk_of (by decide)) z_isinstance boot_isinstance (xe_var 0) (xe_bty z_bool boot_bool))))))
theorem ok__law_due {P : Program} {w : World} {K : PySem.W.Frag} {mg : Str → Option Value} {base : Heap} {CT : Nat → Addr} {lay : Nat → List Str} {f : Addr} {fd : FuncData} (Fn : FunG K "_law_due" "_law_due" s__law_due f fd) (h__law_integer : FnAt P w K mg base CT lay 1 "_law_integer" ["_law_value_here"] S__law_integer) : FnOk P w K mg base (L2.CX P w) 2 f fd ["_law_top", "_law_bottom"] (spP CT lay S__law_due) := by
  refine fn_okG (k := 1) Fn sc__law_due pure__law_due fun B cdv A outer s H E hCT hlay hcur hr => ?_
  subst hCT hlay
  exact xss_cons (xs_if (xt_not (xt_val (xe_callA h__law_integer (hr.mono (by decide)) tk_fn (xa_cons (xe_var 0) (xa_nil))))) (xss_one (xs_ret (xe_str))) (xss_nil)) (xss_cons (xs_if (xt_not (xt_val (xe_callA h__law_integer (hr.mono (by decide)) tk_fn (xa_cons (xe_var 1) (xa_nil))))) (xss_one (xs_ret (xe_str))) (xss_nil)) (xss_cons (xs_if (xt_cmp (xo_eq hr) (xe_var 1) (xe_int)) (xss_one (xs_ret (xe_str))) (xss_nil)) (xss_one (xs_ret (xe_str)))))
theorem ok__law_divisor {P : Program} {w : World} {K : PySem.W.Frag} {mg : Str → Option Value} {base : Heap} {CT : Nat → Addr} {lay : Nat → List Str} {f : Addr} {fd : FuncData} (Fn : FunG K "_law_divisor" "_law_divisor" s__law_divisor f fd) (z_int : mg "int" = none) (z_abs : mg "abs" = none) : FnOk P w K mg base (L2.CX P w) 1 f fd ["_law_one", "_law_other"] (spP CT lay S__law_divisor) := by
  refine fn_okG (k := 0) Fn sc__law_divisor pure__law_divisor fun B cdv A outer s H E hCT hlay hcur hr => ?_
  subst hCT hlay
  exact xss_cons (xs_while po_fn (xt_cmp (xo_ne hr) (xe_var 1) (xe_int)) (xss_cons (xs_set 2 (xe_bin xo_mod (xe_callTy xf_int z_int boot_int (xa_cons (xe_var 0) (xa_nil))) (xe_var 1)) sc__law_divisor.nd) (xss_cons (xs_set 0 (xe_var 1) sc__law_divisor.nd) (xss_one (xs_set 1 (xe_var 2) sc__law_divisor.nd))))) (xss_one (xs_ret (xe_callB xf_abs z_abs boot_abs (xa_cons (xe_var 0) (xa_nil)))))
theorem ok__law_is_ratio {P : Program} {w : World} {K : PySem.W.Frag} {mg : Str → Option Value} {base : Heap} {CT : Nat → Addr} {lay : Nat → List Str} {f : Addr} {fd : FuncData} (Fn : FunG K "_law_is_ratio" "_law_is_ratio" s__law_is_ratio f fd) (z_isinstance : mg "isinstance" = none) (clsX : ClsX K CT csL) (c_Ratio : mg "Ratio" = some (.ref (CT cRatio))) (h__law_integer : FnAt P w K mg base CT lay 1 "_law_integer" ["_law_value_here"] S__law_integer) (fl_top : FldOk K CT lay "top" [(cRatio, 0)]) (fl_bottom : FldOk K CT lay "bottom" [(cRatio, 1)]) (h__law_divisor : FnAt P w K mg base CT lay 1 "_law_divisor" ["_law_one", "_law_other"] S__law_divisor) : FnOk P w K mg base (L2.CX P w) 2 f fd ["_law_value_here", "_law_top", "_law_bottom"] (spP CT lay S__law_is_ratio) := by
  refine fn_okG (k := 1) Fn sc__law_is_ratio pure__law_is_ratio fun B cdv A outer s H E hCT hlay hcur hr => ?_
  subst hCT hlay
  exact xss_cons (xs_if (xt_not (xt_val (xe_isi (cs := csL) (t := .c cRatio) clsX (tyOk_of (by decide)) z_isinstance boot_isinstance (xe_var 0) (xe_gref c_Ratio)))) (xss_one (xs_ret (xe_bl))) (xss_nil)) (xss_cons (xs_if ((xw_or (xt_not (xt_val (xe_callA h__law_integer (hr.mono (by decide)) tk_fn (xa_cons (xe_fld fl_top (xe_var 0)) (xa_nil))))) (xw_or1 (xt_not (xt_val (xe_callA h__law_integer (hr.mono (by decide)) tk_fn (xa_cons (xe_fld fl_bottom (xe_var 0)) (xa_nil))))))).xt) (xss_one (xs_ret (xe_bl))) (xss_nil)) (xss_cons (xs_if ((xw_or (xt_cmp xo_lt (xe_fld fl_bottom (xe_var 0)) (xe_int)) (xw_or1 (xt_cmp (xo_ne hr) (xe_callA h__law_divisor (hr.mono (by decide)) tk_fn (xa_cons (xe_fld fl_top (xe_var 0)) (xa_cons (xe_fld fl_bottom (xe_var 0)) (xa_nil)))) (xe_int)))).xt) (xss_one (xs_ret (xe_bl))) (xss_nil)) (xss_one (xs_ret (xe_cmp (xo_eq hr) (xe_bin xo_mul (xe_fld fl_top (xe_var 0)) (xe_var 2)) (xe_bin xo_mul (xe_var 1) (xe_fld fl_bottom (xe_var 0))))))))
theorem ok__law_built {P : Program} {w : World} {K : PySem.W.Frag} {mg : Str → Option Value} {base : Heap} {CT : Nat → Addr} {lay : Nat → List Str} {f : Addr} {fd : FuncData} (Fn : FunG K "_law_built" "_law_built" s__law_built f fd) (c_NoRatio : mg "NoRatio" = some (.ref (CT cNoRatio))) (ct_NoRatio_NoRatio : ExmT K CT (.ref (CT cNoRatio)) [(cNoRatio, true)]) (k1_Ratio : MkAt P w K mg base CT lay 3 "Ratio" cRatio ["self", "top", "bottom"] I_Ratio [.int 1]) (k_Ratio : MkAt P w K mg base CT lay 3 "Ratio" cRatio ["self", "top", "bottom"] I_Ratio []) (xf_word_NoRatio : XfOk K CT lay "word" [(cNoRatio, 0)]) (h__law_due : FnAt P w K mg base CT lay 2 "_law_due" ["_law_top", "_law_bottom"] S__law_due) (h__law_is_ratio : FnAt P w K mg base CT lay 2 "_law_is_ratio" ["_law_value_here", "_law_top", "_law_bottom"] S__law_is_ratio) : FnOk P w K mg base (L2.CX P w) 5 f fd ["_law_top", "_law_bottom", "_law_alone"] (spP CT lay S__law_built) := by
  refine fn_okG (k := 4) Fn sc__law_built pure__law_built fun B cdv A outer s H E hCT hlay hcur hr => ?_
  subst hCT hlay
  exact xss_cons (xs_set 3 (xe_tup (xa_cons (xe_str) (xa_cons (xe_str) (xa_nil)))) sc__law_built.nd) (xss_cons (xs_try 4 hcur sc__law_built.nd (names_own c_NoRatio) tk_fn ct_NoRatio_NoRatio (fun _ _ _ tk2 po2 => xss_one (xs_if (xt_val (xe_var 2)) (xss_one (xs_set 3 (xe_tup (xa_cons (xe_str) (xa_cons (xe_makeA k1_Ratio (hr.mono (by decide)) tk2 (xa_cons (xe_var 0) (xa_nil))) (xa_nil)))) sc__law_built.nd)) (xss_one (xs_set 3 (xe_tup (xa_cons (xe_str) (xa_cons (xe_makeA0 k_Ratio (hr.mono (by decide)) tk2 (xa_cons (xe_var 0) (xa_cons (xe_var 1) (xa_nil)))) (xa_nil)))) sc__law_built.nd)))) (fun _ _ _ _ _ z1 z2 => xss_one (xs_set 3 (xe_tup (xa_cons (xe_str) (xa_cons (xe_xf xf_word_NoRatio z1 z2 4) (xa_nil)))) sc__law_built.nd))) (xss_cons (xs_if (xt_val (xe_var 2)) (xss_one (xs_set 1 (xe_int) sc__law_built.nd)) (xss_nil)) (xss_cons (xs_set 5 (xe_callA h__law_due (hr.mono (by decide)) tk_fn (xa_cons (xe_var 0) (xa_cons (xe_var 1) (xa_nil)))) sc__law_built.nd) (xss_cons (xs_if (xt_cmp (xo_ne hr) (xe_var 5) (xe_str)) (xss_one (xs_ret (xe_cmp (xo_eq hr) (xe_var 3) (xe_tup (xa_cons (xe_str) (xa_cons (xe_var 5) (xa_nil))))))) (xss_nil)) (xss_one (xs_ret (xe_and (xe_cmp (xo_eq hr) (xe_ix (xe_var 3) (xe_int)) (xe_str)) (xe_one (xe_callA h__law_is_ratio (hr.mono (by decide)) tk_fn (xa_cons (xe_ix (xe_var 3) (xe_int)) (xa_cons (xe_var 0) (xa_cons (xe_var 1) (xa_nil)))))))))))))
theorem ok_Ratio_text {P : Program} {w : World} {K : PySem.W.Frag} {mg : Str → Option Value} {base : Heap} {CT : Nat → Addr} {lay : Nat → List Str} {f : Addr} {fd : FuncData} (Fn : FunG K "text" "Ratio.text" s_Ratio_text f fd) (fl_bottom : FldOk K CT lay "bottom" [(cRatio, 1)]) (fl_top : FldOk K CT lay "top" [(cRatio, 0)]) (z_str : mg "str" = none) : FnOk P w K mg base (L2.CX P w) 1 f fd ["self"] (spP CT lay S_Ratio_text) := by
  refine fn_okG (k := 0) Fn sc_Ratio_text pure_Ratio_text fun B cdv A outer s H E hCT hlay hcur hr => ?_
  subst hCT hlay
  exact xss_cons (xs_if (xt_cmp (xo_eq hr) (xe_fld fl_bottom (xe_var 0)) (xe_int)) (xss_one (xs_ret (xe_callTy xf_str z_str boot_str (xa_cons (xe_fld fl_top (xe_var 0)) (xa_nil))))) (xss_nil)) (xss_one (xs_ret (xe_fs3 (xe_fld fl_top (xe_var 0)) (xe_fld fl_bottom (xe_var 0)))))
theorem ok_is_digits {P : Program} {w : World} {K : PySem.W.Frag} {mg : Str → Option Value} {base : Heap} {CT : Nat → Addr} {lay : Nat → List Str} {f : Addr} {fd : FuncData} (Fn : FunG K "is_digits" "is_digits" s_is_digits f fd) (z_len : mg "len" = none) (g_MOST_DIGITS : ∃ t, mg "MOST_DIGITS" = some (.int 60 t)) (g_DIGITS : ∃ t, mg "DIGITS" = some (.str "0123456789" t)) (z_all : mg "all" = none) : FnOk P w K mg base (L2.CX P w) 1 f fd ["text"] (spP CT lay S_is_digits) := by
  obtain ⟨T_MOST_DIGITS, G_MOST_DIGITS⟩ := g_MOST_DIGITS
  obtain ⟨T_DIGITS, G_DIGITS⟩ := g_DIGITS
  refine fn_okG (k := 0) Fn sc_is_digits pure_is_digits fun B cdv A outer s H E hCT hlay hcur hr => ?_
  subst hCT hlay
  exact xss_one (xs_ret (xe_and ((xt_chain xo_le xo_le (xe_int) (xe_callB xf_len z_len boot_len (xa_cons (xe_var 0) (xa_nil))) (xe_gint G_MOST_DIGITS)).2) (xe_one (xe_callB (xf_all rfl) z_all boot_all (xa_cons ((xn_lc (own := [("sign", 1)]) rfl sc_is_digits.nd (xi_str (xe_var 0)) (blkOk_by (N := n_is_digits) (sc := defScope s_is_digits) (by decide +kernel)) (fun _ _ _ _ _ => xv_name 1 sc_is_digits.nd) (fun _ _ _ _ _ => xts_nil) (fun _ _ _ _ _ => xe_cmp (xo_in hr) (xe_var 1) (xe_gstr G_DIGITS))).xe) (xa_nil))))))
theorem ok_Ratio_read {P : Program} {w : World} {K : PySem.W.Frag} {mg : Str → Option Value} {base : Heap} {CT : Nat → Addr} {lay : Nat → List Str} {f : Addr} {fd : FuncData} (Fn : FunG K "read" "Ratio.read" s_Ratio_read f fd) (z_isinstance : mg "isinstance" = none) (clsX : ClsX K CT csL) (z_str : mg "str" = none) (x_NoRatio : XnAt P w K mg base CT lay 1 "NoRatio" cNoRatio ["self", "word"]) (n_NoRatio : (lay cNoRatio).length = 1) (h_is_digits : FnAt P w K mg base CT lay 1 "is_digits" ["text"] S_is_digits) (z_int : mg "int" = none) (k_Ratio : MkAt P w K mg base CT lay 3 "Ratio" cRatio ["self", "top", "bottom"] I_Ratio []) (me_text : ∀ q ∈ ([(cRatio, S_Ratio_text)] : List (Nat × DFn)), MEnt P w K mg base CT lay 1 "text" 0 q) : FnOk P w K mg base (L2.CX P w) 5 f fd ["text"] (spP CT lay S_Ratio_read) := by
  refine fn_okG (k := 4) Fn sc_Ratio_read pure_Ratio_read fun B cdv A outer s H E hCT hlay hcur hr => ?_
  subst hCT hlay
  exact xss_cons (xs_if (xt_not (xt_val (xe_isi (cs := csL) (t := .b "str") clsX (tyOk_of (by decide)) z_isinstance boot_isinstance (xe_var 0) (xe_bty z_str boot_str)))) (xss_one (xs_raise tk_fn (xr_exnA x_NoRatio (hr.mono (by decide)) n_NoRatio (xa_cons (xe_str) (xa_nil))))) (xss_nil)) (xss_cons (xs_asg (xe_part (xe_var 0) (xe_str)) (xg_tup rfl (xgs_cons (xg_name 1 sc_Ratio_read.nd) (xgs_cons (xg_name 2 sc_Ratio_read.nd) (xgs_cons (xg_name 3 sc_Ratio_read.nd) (xgs_nil)))))) (xss_cons (xs_if (xt_cmp (xo_eq hr) (xe_var 2) (xe_str)) (xss_one (xs_set 3 (xe_str) sc_Ratio_read.nd)) (xss_nil)) (xss_cons (xs_if ((xw_or (xt_not (xt_val (xe_callA h_is_digits (hr.mono (by decide)) tk_fn (xa_cons (xe_rmp (xe_var 1) (xe_str)) (xa_nil))))) (xw_or (xt_not (xt_val (xe_callA h_is_digits (hr.mono (by decide)) tk_fn (xa_cons (xe_var 3) (xa_nil))))) (xw_or1 (xt_cmp (xo_eq hr) (xe_ix (xe_var 3) (xe_int)) (xe_str))))).xt) (xss_one (xs_raise tk_fn (xr_exnA x_NoRatio (hr.mono (by decide)) n_NoRatio (xa_cons (xe_str) (xa_nil))))) (xss_nil)) (xss_cons (xs_set 4 (xe_makeA0 k_Ratio (hr.mono (by decide)) tk_fn (xa_cons (xe_callTy xf_intT z_int boot_int (xa_cons (xe_var 1) (xa_nil))) (xa_cons (xe_callTy xf_intT z_int boot_int (xa_cons (xe_var 3) (xa_nil))) (xa_nil)))) sc_Ratio_read.nd) (xss_cons (xs_if (xt_cmp (xo_ne hr) (xe_meth0 me_text (hr.mono (by decide)) tk_fn (xe_var 4)) (xe_var 0)) (xss_one (xs_raise tk_fn (xr_exnA x_NoRatio (hr.mono (by decide)) n_NoRatio (xa_cons (xe_str) (xa_nil))))) (xss_nil)) (xss_one (xs_ret (xe_var 4))))))))
theorem ok__law_digits {P : Program} {w : World} {K : PySem.W.Frag} {mg : Str → Option Value} {base : Heap} {CT : Nat → Addr} {lay : Nat → List Str} {f : Addr} {fd : FuncData} (Fn : FunG K "_law_digits" "_law_digits" s__law_digits f fd) (z_len : mg "len" = none) (z_int : mg "int" = none) : FnOk P w K mg base (L2.CX P w) 1 f fd ["_law_text_here"] (spP CT lay S__law_digits) := by
  refine fn_okG (k := 0) Fn sc__law_digits pure__law_digits fun B cdv A outer s H E hCT hlay hcur hr => ?_
  subst hCT hlay
  exact xss_cons (xs_if ((xw_or (xt_cmp (xo_eq hr) (xe_var 0) (xe_str)) (xw_or (xt_cmp xo_gt (xe_callB xf_len z_len boot_len (xa_cons (xe_var 0) (xa_nil))) (xe_int)) (xw_or1 ((xw_and (xt_cmp (xo_eq hr) (xe_ix (xe_var 0) (xe_int)) (xe_str)) (xw_and1 (xt_cmp xo_gt (xe_callB xf_len z_len boot_len (xa_cons (xe_var 0) (xa_nil))) (xe_int)))).xt)))).xt) (xss_one (xs_ret (xe_un xu_neg (xe_int)))) (xss_nil)) (xss_cons (xs_for po_fn (xi_str (xe_var 0)) (fun _ => xg_name 1 sc__law_digits.nd) (fun _ => xss_one (xs_if (xt_cmp (xo_notIn hr) (xe_var 1) (xe_str)) (xss_one (xs_ret (xe_un xu_neg (xe_int)))) (xss_nil)))) (xss_one (xs_ret (xe_callTy xf_intT z_int boot_int (xa_cons (xe_var 0) (xa_nil))))))
theorem ok__law_fraction {P : Program} {w : World} {K : PySem.W.Frag} {mg : Str → Option Value} {base : Heap} {CT : Nat → Addr} {lay : Nat → List Str} {f : Addr} {fd : FuncData} (Fn : FunG K "_law_fraction" "_law_fraction" s__law_fraction f fd) (h__law_digits : FnAt P w K mg base CT lay 1 "_law_digits" ["_law_text_here"] S__law_digits) (z_len : mg "len" = none) (h__law_divisor : FnAt P w K mg base CT lay 1 "_law_divisor" ["_law_one", "_law_other"] S__law_divisor) : FnOk P w K mg base (L2.CX P w) 2 f fd ["_law_text_here"] (spP CT lay S__law_fraction) := by
  refine fn_okG (k := 1) Fn sc__law_fraction pure__law_fraction fun B cdv A outer s H E hCT hlay hcur hr => ?_
  subst hCT hlay
  exact xss_cons (xs_set 1 (xe_split (xe_var 0) (xe_str)) sc__law_fraction.nd) (xss_cons (xs_set 2 (xe_ix (xe_var 1) (xe_int)) sc__law_fraction.nd) (xss_cons (xs_set 3 (xe_int) sc__law_fraction.nd) (xss_cons (xs_if (xt_cmp (xo_eq hr) (xe_slice (xe_var 2) xpo_none (xpo_some (xe_int))) (xe_str)) (xss_cons (xs_set 3 (xe_un xu_neg (xe_int)) sc__law_fraction.nd) (xss_one (xs_set 2 (xe_slice (xe_var 2) (xpo_some (xe_int)) xpo_none) sc__law_fraction.nd))) (xss_nil)) (xss_cons (xs_set 4 (xe_callA h__law_digits (hr.mono (by decide)) tk_fn (xa_cons (xe_var 2) (xa_nil))) sc__law_fraction.nd) (xss_cons (xs_set 5 (xe_int) sc__law_fraction.nd) (xss_cons (xs_if (xt_cmp (xo_eq hr) (xe_callB xf_len z_len boot_len (xa_cons (xe_var 1) (xa_nil))) (xe_int)) (xss_one (xs_set 5 (xe_callA h__law_digits (hr.mono (by decide)) tk_fn (xa_cons (xe_ix (xe_var 1) (xe_int)) (xa_nil))) sc__law_fraction.nd)) (xss_nil)) (xss_cons (xs_if ((xw_or (xt_cmp xo_gt (xe_callB xf_len z_len boot_len (xa_cons (xe_var 1) (xa_nil))) (xe_int)) (xw_or (xt_cmp xo_lt (xe_var 4) (xe_int)) (xw_or (xt_cmp xo_lt (xe_var 5) (xe_int)) (xw_or1 ((xw_and (xt_cmp (xo_eq hr) (xe_callB xf_len z_len boot_len (xa_cons (xe_var 1) (xa_nil))) (xe_int)) (xw_and1 (xt_cmp xo_lt (xe_var 5) (xe_int)))).xt))))).xt) (xss_one (xs_ret (xe_tup (xa_cons (xe_int) (xa_cons (xe_int) (xa_nil)))))) (xss_nil)) (xss_cons (xs_if ((xw_or ((xw_and (xt_cmp (xo_eq hr) (xe_var 4) (xe_int)) (xw_and1 (xt_cmp xo_lt (xe_var 3) (xe_int)))).xt) (xw_or1 (xt_cmp (xo_ne hr) (xe_callA h__law_divisor (hr.mono (by decide)) tk_fn (xa_cons (xe_var 4) (xa_cons (xe_var 5) (xa_nil)))) (xe_int)))).xt) (xss_one (xs_ret (xe_tup (xa_cons (xe_int) (xa_cons (xe_int) (xa_nil)))))) (xss_nil)) (xss_one (xs_ret (xe_tup (xa_cons (xe_bin xo_mul (xe_var 3) (xe_var 4)) (xa_cons (xe_var 5) (xa_nil))))))))))))))
theorem ok__law_read {P : Program} {w : World} {K : PySem.W.Frag} {mg : Str → Option Value} {base : Heap} {CT : Nat → Addr} {lay : Nat → List Str} {f : Addr} {fd : FuncData} (Fn : FunG K "_law_read" "_law_read" s__law_read f fd) (c_PartError : mg "PartError" = some (.ref (CT cPartError))) (ct_PartError_NoRatio : ExmT K CT (.ref (CT cPartError)) [(cNoRatio, true)]) (sm_Ratio_read : SmAt P w K mg base CT lay 5 "Ratio" cRatio "read" ["text"] S_Ratio_read) (z_isinstance : mg "isinstance" = none) (c_NoRatio : mg "NoRatio" = some (.ref (CT cNoRatio))) (ix_NoRatio_NoRatio : IsxT K CT (.ref (CT cNoRatio)) [(cNoRatio, true)]) (z_ValueError : mg "ValueError" = none) (ix_ValueError_NoRatio : IsxT K CT (.type "ValueError") [(cNoRatio, true)]) (xf_word_NoRatio : XfOk K CT lay "word" [(cNoRatio, 0)]) (clsX : ClsX K CT csL) (z_str : mg "str" = none) (h__law_fraction : FnAt P w K mg base CT lay 2 "_law_fraction" ["_law_text_here"] S__law_fraction) (h__law_is_ratio : FnAt P w K mg base CT lay 2 "_law_is_ratio" ["_law_value_here", "_law_top", "_law_bottom"] S__law_is_ratio) : FnOk P w K mg base (L2.CX P w) 6 f fd ["_law_text_here"] (spP CT lay S__law_read) := by
  refine fn_okG (k := 5) Fn sc__law_read pure__law_read fun B cdv A outer s H E hCT hlay hcur hr => ?_
  subst hCT hlay
  exact xss_cons (xs_set 1 (xe_tup (xa_cons (xe_str) (xa_cons (xe_str) (xa_cons (xe_bl) (xa_nil))))) sc__law_read.nd) (xss_cons (xs_try 2 hcur sc__law_read.nd (names_own c_PartError) tk_fn ct_PartError_NoRatio (fun _ _ _ tk2 po2 => xss_one (xs_set 1 (xe_tup (xa_cons (xe_str) (xa_cons (xe_static sm_Ratio_read (hr.mono (by decide)) tk2 (xa_cons (xe_var 0) (xa_nil))) (xa_cons (xe_bl) (xa_nil))))) sc__law_read.nd)) (fun _ _ _ _ _ z1 z2 => xss_one (xs_set 1 (xe_tup (xa_cons (xe_str) (xa_cons (xe_xf xf_word_NoRatio z1 z2 2) (xa_cons (xe_and (xe_isx (v := (.ref (B.W.CT cNoRatio))) ix_NoRatio_NoRatio z1 z2 2 z_isinstance boot_isinstance (fun _ h => h) (xe_gref c_NoRatio)) (xe_one (xe_isx (v := (.ty "ValueError")) ix_ValueError_NoRatio z1 z2 2 z_isinstance boot_isinstance (fun _ h => h) (xe_bty z_ValueError Boot.«ValueError»)))) (xa_nil))))) sc__law_read.nd))) (xss_cons (xs_set 3 (xe_tup (xa_cons (xe_int) (xa_cons (xe_int) (xa_nil)))) sc__law_read.nd) (xss_cons (xs_if (xt_val (xe_isi (cs := csL) (t := .b "str") clsX (tyOk_of (by decide)) z_isinstance boot_isinstance (xe_var 0) (xe_bty z_str boot_str))) (xss_one (xs_set 3 (xe_callA h__law_fraction (hr.mono (by decide)) tk_fn (xa_cons (xe_var 0) (xa_nil))) sc__law_read.nd)) (xss_nil)) (xss_cons (xs_if (xt_cmp (xo_eq hr) (xe_ix (xe_var 3) (xe_int)) (xe_int)) (xss_one (xs_ret (xe_cmp (xo_eq hr) (xe_var 1) (xe_tup (xa_cons (xe_str) (xa_cons (xe_str) (xa_cons (xe_bl) (xa_nil)))))))) (xss_nil)) (xss_one (xs_ret (xe_and (xe_cmp (xo_eq hr) (xe_ix (xe_var 1) (xe_int)) (xe_str)) (xe_one (xe_callA h__law_is_ratio (hr.mono (by decide)) tk_fn (xa_cons (xe_ix (xe_var 1) (xe_int)) (xa_cons (xe_ix (xe_var 3) (xe_int)) (xa_cons (xe_ix (xe_var 3) (xe_int)) (xa_nil)))))))))))))
theorem ok__law_far {P : Program} {w : World} {K : PySem.W.Frag} {mg : Str → Option Value} {base : Heap} {CT : Nat → Addr} {lay : Nat → List Str} {f : Addr} {fd : FuncData} (Fn : FunG K "_law_far" "_law_far" s__law_far f fd) (h__law_draw : FnAt P w K mg base CT lay 1 "_law_draw" ["_law_state", "_law_many"] oDraw) (z_range : mg "range" = none) (z_int : mg "int" = none) : FnOk P w K mg base (L2.CX P w) 2 f fd ["_law_state", "_law_bound"] (spP CT lay S__law_far) := by
  refine fn_okG (k := 1) Fn sc__law_far pure__law_far fun B cdv A outer s H E hCT hlay hcur hr => ?_
  subst hCT hlay
  exact xss_cons (xs_set 2 (xe_callA h__law_draw (hr.mono (by decide)) tk_fn (xa_cons (xe_var 0) (xa_cons (xe_int) (xa_nil)))) sc__law_far.nd) (xss_cons (xs_if (xt_cmp (xo_eq hr) (xe_var 2) (xe_int)) (xss_one (xs_ret (xe_bin xo_sub (xe_callA h__law_draw (hr.mono (by decide)) tk_fn (xa_cons (xe_var 0) (xa_cons (xe_int) (xa_nil)))) (xe_int)))) (xss_nil)) (xss_cons (xs_if (xt_cmp (xo_eq hr) (xe_var 2) (xe_int)) (xss_one (xs_ret (xe_bin xo_sub (xe_var 1) (xe_callA h__law_draw (hr.mono (by decide)) tk_fn (xa_cons (xe_var 0) (xa_cons (xe_int) (xa_nil))))))) (xss_nil)) (xss_cons (xs_if (xt_cmp (xo_eq hr) (xe_var 2) (xe_int)) (xss_one (xs_ret (xe_bin xo_sub (xe_callA h__law_draw (hr.mono (by decide)) tk_fn (xa_cons (xe_var 0) (xa_cons (xe_int) (xa_nil)))) (xe_var 1)))) (xss_nil)) (xss_cons (xs_set 3 (xe_int) sc__law_far.nd) (xss_cons (xs_for po_fn (xi_range z_range (xa_cons (xe_int) (xa_nil))) (fun _ => xg_name 4 sc__law_far.nd) (fun _ => xss_one (xs_set 3 (xe_bin xo_add (xe_bin xo_mul (xe_var 3) (xe_bin xo_pow (xe_int) (xe_int))) (xe_callA h__law_draw (hr.mono (by decide)) tk_fn (xa_cons (xe_var 0) (xa_cons (xe_bin xo_pow (xe_int) (xe_int)) (xa_nil))))) sc__law_far.nd))) (xss_one (xs_ret (xe_bin xo_sub (xe_bin xo_mod (xe_callTy xf_int z_int boot_int (xa_cons (xe_var 3) (xa_nil))) (xe_bin xo_add (xe_bin xo_mul (xe_int) (xe_var 1)) (xe_int))) (xe_var 1)))))))))
theorem ok__law_text {P : Program} {w : World} {K : PySem.W.Frag} {mg : Str → Option Value} {base : Heap} {CT : Nat → Addr} {lay : Nat → List Str} {f : Addr} {fd : FuncData} (Fn : FunG K "_law_text" "_law_text" s__law_text f fd) (h__law_draw : FnAt P w K mg base CT lay 1 "_law_draw" ["_law_state", "_law_many"] oDraw) (h__law_far : FnAt P w K mg base CT lay 2 "_law_far" ["_law_state", "_law_bound"] S__law_far) (z_str : mg "str" = none) (z_abs : mg "abs" = none) (z_len : mg "len" = none) : FnOk P w K mg base (L2.CX P w) 3 f fd ["_law_state"] (spP CT lay S__law_text) := by
  refine fn_okG (k := 2) Fn sc__law_text pure__law_text fun B cdv A outer s H E hCT hlay hcur hr => ?_
  subst hCT hlay
  exact xss_cons (xs_set 1 (xe_callA h__law_draw (hr.mono (by decide)) tk_fn (xa_cons (xe_var 0) (xa_cons (xe_int) (xa_nil)))) sc__law_text.nd) (xss_cons (xs_if (xt_cmp (xo_eq hr) (xe_var 1) (xe_int)) (xss_cons (xs_set 2 (xe_bin xo_add (xe_str) (xe_bin xo_mulS (xe_str) (xe_bin xo_add (xe_int) (xe_callA h__law_draw (hr.mono (by decide)) tk_fn (xa_cons (xe_var 0) (xa_cons (xe_int) (xa_nil))))))) sc__law_text.nd) (xss_one (xs_ret (xe_bin xo_add (xe_bin xo_add (xe_bin xo_add (xe_var 2) (xe_str)) (xe_bin xo_mulS (xe_str) (xe_bin xo_add (xe_int) (xe_callA h__law_draw (hr.mono (by decide)) tk_fn (xa_cons (xe_var 0) (xa_cons (xe_int) (xa_nil))))))) (xe_str))))) (xss_nil)) (xss_cons (xs_if (xt_cmp (xo_eq hr) (xe_var 1) (xe_int)) (xss_one (xs_ret (xe_bin xo_mulS (xe_str) (xe_int)))) (xss_nil)) (xss_cons (xs_set 3 (xe_callTy xf_str z_str boot_str (xa_cons (xe_callA h__law_far (hr.mono (by decide)) tk_fn (xa_cons (xe_var 0) (xa_cons (xe_ix (xe_lst (xa_cons (xe_int) (xa_cons (xe_int) (xa_cons (xe_int) (xa_cons (xe_bin xo_pow (xe_int) (xe_int)) (xa_nil)))))) (xe_callA h__law_draw (hr.mono (by decide)) tk_fn (xa_cons (xe_var 0) (xa_cons (xe_int) (xa_nil))))) (xa_nil)))) (xa_nil))) sc__law_text.nd) (xss_cons (xs_if (xt_cmp (xo_ne hr) (xe_var 1) (xe_int)) (xss_one (xs_set 3 (xe_bin xo_add (xe_bin xo_add (xe_var 3) (xe_str)) (xe_callTy xf_str z_str boot_str (xa_cons (xe_callB xf_abs z_abs boot_abs (xa_cons (xe_callA h__law_far (hr.mono (by decide)) tk_fn (xa_cons (xe_var 0) (xa_cons (xe_int) (xa_nil)))) (xa_nil))) (xa_nil)))) sc__law_text.nd)) (xss_nil)) (xss_cons (xs_if (xt_cmp xo_gt (xe_var 1) (xe_int)) (xss_cons (xs_set 4 (xe_callA h__law_draw (hr.mono (by decide)) tk_fn (xa_cons (xe_var 0) (xa_cons (xe_bin xo_add (xe_callB xf_len z_len boot_len (xa_cons (xe_var 3) (xa_nil))) (xe_int)) (xa_nil)))) sc__law_text.nd) (xss_cons (xs_set 5 (xe_ix (xe_str) (xe_callA h__law_draw (hr.mono (by decide)) tk_fn (xa_cons (xe_var 0) (xa_cons (xe_int) (xa_nil))))) sc__law_text.nd) (xss_one (xs_set 3 (xe_bin xo_add (xe_bin xo_add (xe_slice (xe_var 3) xpo_none (xpo_some (xe_var 4))) (xe_var 5)) (xe_slice (xe_var 3) (xpo_some (xe_bin xo_add (xe_var 4) (xe_callA h__law_draw (hr.mono (by decide)) tk_fn (xa_cons (xe_var 0) (xa_cons (xe_int) (xa_nil)))))) xpo_none)) sc__law_text.nd)))) (xss_nil)) (xss_one (xs_ret (xe_var 3))))))))
theorem ok__law_value {P : Program} {w : World} {K : PySem.W.Frag} {mg : Str → Option Value} {base : Heap} {CT : Nat → Addr} {lay : Nat → List Str} {f : Addr} {fd : FuncData} (Fn : FunG K "_law_value" "_law_value" s__law_value f fd) (h__law_draw : FnAt P w K mg base CT lay 1 "_law_draw" ["_law_state", "_law_many"] oDraw) (k_Ratio : MkAt P w K mg base CT lay 3 "Ratio" cRatio ["self", "top", "bottom"] I_Ratio []) (h__law_far : FnAt P w K mg base CT lay 2 "_law_far" ["_law_state", "_law_bound"] S__law_far) : FnOk P w K mg base (L2.CX P w) 5 f fd ["_law_state"] (spP CT lay S__law_value) := by
  refine fn_okG (k := 4) Fn sc__law_value pure__law_value fun B cdv A outer s H E hCT hlay hcur hr => ?_
  subst hCT hlay
  exact xss_cons (xs_set 1 (xe_callA h__law_draw (hr.mono (by decide)) tk_fn (xa_cons (xe_var 0) (xa_cons (xe_int) (xa_nil)))) sc__law_value.nd) (xss_cons (xs_if (xt_cmp (xo_eq hr) (xe_var 1) (xe_int)) (xss_one (xs_ret (xe_int))) (xss_nil)) (xss_cons (xs_if (xt_cmp (xo_eq hr) (xe_var 1) (xe_int)) (xss_one (xs_ret (xe_bl))) (xss_nil)) (xss_cons (xs_if (xt_cmp (xo_eq hr) (xe_var 1) (xe_int)) (xss_one (xs_ret (xe_non))) (xss_nil)) (xss_cons (xs_if (xt_cmp (xo_eq hr) (xe_var 1) (xe_int)) (xss_one (xs_ret (xe_str))) (xss_nil)) (xss_cons (xs_if (xt_cmp (xo_eq hr) (xe_var 1) (xe_int)) (xss_one (xs_ret (xe_makeA0 k_Ratio (hr.mono (by decide)) tk_fn (xa_cons (xe_int) (xa_cons (xe_int) (xa_nil)))))) (xss_nil)) (xss_one (xs_ret (xe_callA h__law_far (hr.mono (by decide)) tk_fn (xa_cons (xe_var 0) (xa_cons (xe_bin xo_pow (xe_int) (xe_int)) (xa_nil)))))))))))
theorem ok_law {P : Program} {w : World} {K : PySem.W.Frag} {mg : Str → Option Value} {base : Heap} {CT : Nat → Addr} {lay : Nat → List Str} {f : Addr} {fd : FuncData} (Fn : FunG K "law" "law" s_law f fd) (h__law_value : FnAt P w K mg base CT lay 5 "_law_value" ["_law_state"] S__law_value) (h__law_built : FnAt P w K mg base CT lay 5 "_law_built" ["_law_top", "_law_bottom", "_law_alone"] S__law_built) (h__law_draw : FnAt P w K mg base CT lay 1 "_law_draw" ["_law_state", "_law_many"] oDraw) (h__law_text : FnAt P w K mg base CT lay 3 "_law_text" ["_law_state"] S__law_text) (h__law_read : FnAt P w K mg base CT lay 6 "_law_read" ["_law_text_here"] S__law_read) (k1_Ratio : MkAt P w K mg base CT lay 3 "Ratio" cRatio ["self", "top", "bottom"] I_Ratio [.int 1]) {fS : Addr} {fdS : FuncData} (FS : FnOk P w K mg base (L2.CX P w) 1 fS fdS ["_law_script"] (spStart K)) (mS : mg "_law_start" = some (.ref fS)) (kpS : PySem.W.keepIn K (.ref fS) = true) (bS : Binds K fdS ["_law_script"] []) : FnOk P w K mg base (L2.CX P w) 7 f fd ["_law_script"] (spLaw K) := by
  refine law_ok (CT := CT) (lay := lay) (k := 6) (rest := (defBody s_law).tail) Fn sc_law rfl FS (by decide) mS kpS bS rfl rfl (fun _ _ _ => ⟨Or.inl rfl, Or.inl rfl, rfl, rfl, rfl⟩) (fun B cdv A outer s H E hCT hlay hcur h0 hr => ?_) pure_law
  subst hCT hlay
  exact xss_cons (xs_set 2 (xe_callA h__law_value (hr.mono (by decide)) tk_fn (xa_cons (xe_var 1) (xa_nil))) sc_law.nd) (xss_cons (xs_set 3 (xe_callA h__law_value (hr.mono (by decide)) tk_fn (xa_cons (xe_var 1) (xa_nil))) sc_law.nd) (xss_cons (xs_if (xt_not (xt_val (xe_callA h__law_built (hr.mono (by decide)) tk_fn (xa_cons (xe_var 2) (xa_cons (xe_var 3) (xa_cons (xe_cmp (xo_eq hr) (xe_callA h__law_draw (hr.mono (by decide)) tk_fn (xa_cons (xe_var 1) (xa_cons (xe_int) (xa_nil)))) (xe_int)) (xa_nil))))))) (xss_one (xs_ret (xe_bl))) (xss_nil)) (xss_cons (xs_set 4 (xe_callA h__law_text (hr.mono (by decide)) tk_fn (xa_cons (xe_var 1) (xa_nil))) sc_law.nd) (xss_cons (xs_if ((xw_or (xt_not (xt_val (xe_callA h__law_read (hr.mono (by decide)) tk_fn (xa_cons (xe_var 4) (xa_nil))))) (xw_or (xt_not (xt_val (xe_callA h__law_read (hr.mono (by decide)) tk_fn (xa_cons (xe_bin xo_add (xe_var 4) (xe_str)) (xa_nil))))) (xw_or1 (xt_not (xt_val (xe_callA h__law_read (hr.mono (by decide)) tk_fn (xa_cons (xe_var 4) (xa_nil)))))))).xt) (xss_one (xs_ret (xe_bl))) (xss_nil)) (xss_one (xs_ret (xe_callA h__law_read (hr.mono (by decide)) tk_fn (xa_cons (xe_ix (xe_lst (xa_cons (xe_non) (xa_cons (xe_int) (xa_cons (xe_lst (xa_cons (xe_str) (xa_nil))) (xa_cons (xe_makeA k1_Ratio (hr.mono (by decide)) tk_fn (xa_cons (xe_int) (xa_nil))) (xa_cons (xe_bl) (xa_cons (xe_tup (xa_cons (xe_str) (xa_cons (xe_str) (xa_nil)))) (xa_nil)))))))) (xe_callA h__law_draw (hr.mono (by decide)) tk_fn (xa_cons (xe_var 1) (xa_cons (xe_int) (xa_nil))))) (xa_nil)))))))))
end Pu
namespace Pu
open PySem PySem.Spec PyProof.Rows L2
open PySem.W (findIn isFn kitOne)
/-! ## the law's start and draw -/
/-- the built-in names of the text -/
structure Bl (mg : Str → Option Value) : Prop where
  gInt : mg "int" = none
  gLen : mg "len" = none
section
variable {P : Program} {w : World} {K : PySem.W.Frag} {mg : Str → Option Value} {base : Heap}
theorem cut_ints (ns : List Int) (lo hi : Option Int) : ∃ cs : List Int, cutV (ns.map V.int) lo hi = cs.map V.int ∧ cs.length ≤ ns.length := by
  refine ⟨(ns.drop (HT.sIx (ns.map V.int).length 0 lo)).take (HT.sIx (ns.map V.int).length (ns.map V.int).length hi - HT.sIx (ns.map V.int).length 0 lo), ?_, ?_⟩
  · unfold cutV
    rw [List.map_take, List.map_drop]
  · rw [List.length_take, List.length_drop]
    omega
theorem scSt : FnScope ["_law_script", "_law_cell"] ["_law_script"] (defScope s__law_start) := ⟨rfl, rfl, rfl, by decide +kernel, rfl, by decide +kernel, by decide +kernel⟩
theorem ok_lstart {f : Addr} {fd : FuncData} (F : Fun K "_law_start" "_law_start" s__law_start f fd) (T : Bl mg) : FnOk P w K mg base CX0 1 f fd ["_law_script"] (spStart K) := by
  refine F.ok scSt (fun vs H Q E h => ?_) (fun cdv A outer s H vs Q E hr h => ?_)
  · obtain ⟨a, ns, rfl, _⟩ := h
    rfl
  · obtain ⟨a, ns, rfl, hS, hl, k⟩ := h
    refine ⟨_, pss_one (ps_ret (pe_lst (pa_cons (pe_op op_cat
        (pe_lc (own := [("_law_cell", 1)]) (g := gName 1) (tt := tYes) rfl scSt.nd (pi_list (pe_slice sl_list (pv 0) po_none (po_some pe_int))) (blkOk_by (N := ["_law_script", "_law_cell"]) (sc := defScope s__law_start) (by decide +kernel))
          (fun _ _ _ _ _ => pg_name (i := 1) scSt.nd rfl (Or.inl rfl)) (fun _ _ _ _ _ => pts_nil) (fun _ _ _ _ _ => pe_callTy call_int1 (by rfl) T.gInt PyProof.Rows.boot_int (pa_cons (pv 1) pa_nil)))
        (pe_lst (pa_cons (pe_callB call_len_seq (by rfl) T.gLen PySem.boot_len (pa_cons (pv 0) pa_nil)) pa_nil))) (pa_cons pe_int (pa_cons pe_int pa_nil))))), ?_⟩
    obtain ⟨cs, ec, hc⟩ := cut_ints ns none (some 63)
    refine ⟨_, rfl, _, rfl, a, _, rfl, hS, fun p np => ?_⟩
    rw [ec]
    refine ⟨p, rfl, ⟨_, SqL.of upd_same⟩, fun D nD => ?_⟩
    have npD : p ≠ D := fun z => by rw [z, upd_same] at nD; cases nD
    have hD0 : H D = none := by rw [upd_ne (Ne.symm npD)] at nD; exact nD
    refine lc_list (K := K) (a := p) (xs := cs.map V.int) (fun i H' => Same H H' ∧ H' p = some (.lst (cs.map V.int)) ∧ H' D = some (.lst ((cs.take i).map V.int))) ⟨fun c o e => ?_, by rw [upd_ne npD, upd_same], by rw [upd_same]; rfl⟩ (fun i H' _ h => SqL.of h.2.1) ?_ ?_
    · rw [upd_ne (ne_of_none e hD0), upd_ne (ne_of_none e np)]
      exact e
    · intro i x H' hx ⟨sm, hp, hD⟩
      rw [List.getElem?_map] at hx
      cases hz : cs[i]? with
      | none => rw [hz] at hx; cases hx
      | some z =>
        rw [hz] at hx
        obtain rfl : V.int z = x := Option.some.inj hx
        have hlt : i < cs.length := (List.getElem?_eq_some_iff.mp hz).1
        refine ⟨rfl, ?_⟩
        refine ⟨_, rfl, .inl ⟨z, rfl, _, hD, small1000 (by rw [List.length_map, List.length_take]; omega), fun c o e => ?_, ?_, ?_⟩⟩
        · rw [upd_ne (ne_of_none e hD0)]
          exact sm c o e
        · rw [upd_ne npD]
          exact hp
        · rw [upd_same, List.take_add_one, hz, List.map_append]
          rfl
    · rintro H' ⟨sm, hp, hD⟩
      rw [List.length_map, List.take_length] at hD
      refine ⟨_, rfl, a, _, rfl, .inl (sm.seq hS), (by show 1 ≤ sizeLine; decide), fun l2 n2 => ?_⟩
      have e1 : D ≠ l2 := ne_of_none hD n2
      refine ⟨D, l2, _, _, rfl, rfl, by rw [upd_ne e1]; exact hD, upd_same, ?_, fun q nq => ⟨(by show 3 ≤ sizeLine; decide), fun r nr => ?_⟩⟩
      · have := small1000 (n := cs.length + 1) (by omega)
        rw [List.length_map]
        exact Nat.le_of_lt this
      · have nq' : H' q = none := by
          have := ne_of_none (upd_same (H := H') (a := l2) (o := .lst [.int (List.map V.int ns).length])) nq
          rw [upd_ne (Ne.symm this)] at nq
          exact nq
        have nqr : q ≠ r := ne_of_none upd_same nr
        have nr' : H' r = none := by
          rw [upd_ne (Ne.symm nqr)] at nr
          have := ne_of_none (upd_same (H := H') (a := l2) (o := .lst [.int (List.map V.int ns).length])) nr
          rw [upd_ne (Ne.symm this)] at nr
          exact nr
        refine k _ r q (fun c o e => ?_) ⟨0, 0, cs ++ [((List.map V.int ns).length : Int)], upd_same, ?_, by simp, by simp; omega⟩
        · have h' := sm c o e
          rw [upd_ne (ne_of_none h' nr'), upd_ne (ne_of_none h' nq'), upd_ne (ne_of_none h' n2)]
          exact h'
        · rw [upd_ne nqr, upd_same, List.map_append]
          rfl
end
section
variable {P : Program} {w : World} {K : PySem.W.Frag} {mg : Str → Option Value} {base : Heap}
theorem ixN_nat {n j : Nat} (h : j < n) : ixN n (j : Int) = some j := by
  unfold ixN
  rw [if_pos (by omega), if_pos (by omega)]
  simp
theorem fmod_pos {a m : Int} (h : 0 < m) : 0 ≤ a.fmod m ∧ a.fmod m < m := ⟨Int.fmod_nonneg_of_pos a h, Int.fmod_lt_of_pos a h⟩
theorem emod_pos {a m : Int} (h : 0 < m) : 0 ≤ a % m ∧ a % m < m := ⟨Int.emod_nonneg a (by omega), Int.emod_lt_of_pos a h⟩
theorem scDr : FnScope ["_law_state", "_law_many", "_law_cells", "_law_at", "_law_cell", "_law_one"] ["_law_state", "_law_many"] (defScope s__law_draw) := ⟨rfl, rfl, rfl, by decide +kernel, rfl, by decide +kernel, by decide +kernel⟩
theorem ok_ldraw {f : Addr} {fd : FuncData} (F : Fun K "_law_draw" "_law_draw" s__law_draw f fd) (T : Bl mg) : FnOk P w K mg base CX0 1 f fd ["_law_state", "_law_many"] spDraw := by
  refine F.ok scDr (fun vs H Q E h => ?_) (fun cdv A outer s H vs Q E hr h => ?_)
  · obtain ⟨s, l, m, rfl, _⟩ := h
    rfl
  · obtain ⟨s, l, m, rfl, L, m0, m1, k⟩ := h
    have hne := L.ne
    obtain ⟨i, n, cs, e1, e2, c0, c1⟩ := id L
    refine ⟨_, pss_cons (ps_set (i := 2) scDr.nd rfl (Or.inl rfl) (pe_ix ix_list (pv 0) pe_int (fun _ _ => rfl)))
      (pss_cons (ps_set (i := 3) scDr.nd rfl (Or.inl rfl) (pe_op op_modN (pe_callTy call_int1 (by rfl) T.gInt PyProof.Rows.boot_int (pa_cons (pe_ix ix_list (pv 0) pe_int (fun _ _ => rfl)) pa_nil)) (pe_callB call_len_seq (by rfl) T.gLen PySem.boot_len (pa_cons (pv 2) pa_nil))))
      (pss_cons (ps_asg (pe_op op_add (pe_ix ix_list (pv 0) pe_int (fun _ _ => rfl)) pe_int) (pg_sub (pv 0) pe_int set_list))
      (pss_cons (ps_set (i := 4) scDr.nd rfl (Or.inl rfl) (pe_ix ix_list (pv 2) (pv 3) (fun _ _ => rfl)))
      (pss_cons (ps_if (pt_cmpR op_ge (pv 4) (pe_op op_pow pe_int pe_int) (nomark _))
        (pss_cons (ps_asg (pe_op op_fdiv (pv 4) (pv 1)) (pg_sub (pv 2) (pv 3) set_list))
        (pss_one (ps_ret (pe_op op_modN (pe_callTy call_int1 (by rfl) T.gInt PyProof.Rows.boot_int (pa_cons (pv 4) pa_nil)) (pv 1))))) pss_nil)
      (pss_cons (ps_asg (pe_op op_add (pv 3) pe_int) (pg_sub (pv 0) pe_int set_list))
      (pss_cons (ps_set (i := 5) scDr.nd rfl (Or.inl rfl) (pe_op op_mod (pe_callTy call_int1 (by rfl) T.gInt PyProof.Rows.boot_int (pa_cons (pe_op op_mul (pe_op op_add (pe_op op_add (pv 4) (pe_op op_mul pe_int (pe_ix ix_list (pv 0) pe_int (fun _ _ => rfl)))) pe_int) pe_int) pa_nil)) pe_int))
      (pss_cons (ps_set (i := 5) scDr.nd rfl (Or.inl rfl) (pe_op op_mod (pe_callTy call_int1 (by rfl) T.gInt PyProof.Rows.boot_int (pa_cons (pe_op op_mul (pv 5) (pe_op op_add (pe_op op_fdiv (pv 5) pe_int) pe_int)) pa_nil)) pe_int))
      (pss_cons (ps_set (i := 5) scDr.nd rfl (Or.inl rfl) (pe_op op_mod (pe_callTy call_int1 (by rfl) T.gInt PyProof.Rows.boot_int (pa_cons (pe_op op_mul (pv 5) (pe_op op_add (pe_op op_fdiv (pv 5) pe_int) pe_int)) pa_nil)) pe_int))
      (pss_one (ps_ret (pe_op op_modN (pe_callTy call_int1 (by rfl) T.gInt PyProof.Rows.boot_int (pa_cons (pe_op op_fdiv (pv 5) pe_int) pa_nil)) (pv 1)))))))))))), ?_⟩
    have hlen : 0 < ((cs.map V.int).length : Int) := by rw [List.length_map]; omega
    have hat := fmod_pos (a := i) hlen
    obtain ⟨j, hj⟩ : ∃ j : Nat, i.fmod ((cs.map V.int).length : Int) = (j : Int) := ⟨_, (Int.toNat_of_nonneg hat.1).symm⟩
    have hjl : j < cs.length := by
      have := hat.2
      rw [hj, List.length_map] at this
      omega
    obtain ⟨c, hc⟩ : ∃ c, cs[j]? = some c := ⟨_, List.getElem?_eq_getElem hjl⟩
    -- cells, at, the turn
    refine ⟨_, rfl, s, _, 0, _, rfl, rfl, SqL.of e1, rfl, ?_⟩
    refine ⟨_, rfl, s, _, 1, .int i, rfl, rfl, SqL.of e1, rfl, .inl ⟨i, rfl, _, rfl, l, _, rfl, .inl (SqL.of e2), _, _, rfl, rfl, (by omega), ?_⟩⟩
    dsimp only
    rw [hj]
    refine ⟨_, rfl, s, _, 2, .int n, rfl, rfl, SqL.of e1, rfl, _, _, rfl, rfl, _, rfl, s, _, 2, 2, rfl, rfl, e1, rfl, ?_⟩
    have e1' : upd H s (.lst (([.ref l, .int i, .int n] : List V).set 2 (.int (n + 1)))) s = some (.lst [.ref l, .int i, .int (n + 1)]) := upd_same
    generalize hH1 : upd H s (.lst (([.ref l, .int i, .int n] : List V).set 2 (.int (n + 1)))) = H1 at e1'
    have e2' : H1 l = some (.lst (cs.map V.int)) := by rw [← hH1, upd_ne (Ne.symm hne)]; exact e2
    have kp1 : Kp s l H H1 := fun c o e h1 h2 => by rw [← hH1, upd_ne h1]; exact e
    refine ⟨_, rfl, _, rfl, l, _, (j : Int), .int c, rfl, rfl, SqL.of e2', atI_nat (by rw [List.getElem?_map, hc]; rfl), ?_⟩
    refine ⟨_, rfl, 10, 18, rfl, rfl, ⟨by decide, by decide, by decide⟩, c, _, rfl, rfl, _, rfl, ?_⟩
    refine ite2 (fun _ => ?_) (fun _ => ?_)
    · -- a great cell
      refine ⟨_, rfl, _, rfl, c, m, rfl, rfl, ⟨m0, m1⟩, _, rfl, _, rfl, l, _, (j : Int), j, rfl, rfl, e2', ixN_nat (by rw [List.length_map]; exact hjl), ?_⟩
      refine ⟨_, rfl, .inl ⟨c, rfl, _, rfl, c, m, rfl, rfl, by omega, ?_⟩⟩
      have hm := fmod_pos (a := c) m0
      refine k _ _ (fun c' o e h1 h2 => by rw [upd_ne h2]; exact kp1 c' o e h1 h2) ⟨i, n + 1, cs.set j (c / m), by rw [upd_ne hne]; exact e1', ?_, by rw [List.length_set]; exact c0, by rw [List.length_set]; exact c1⟩ hm.1 hm.2
      rw [upd_same, List.map_set]
    · -- a small one
      refine ⟨_, rfl, _, _, rfl, rfl, _, rfl, s, _, 1, 1, rfl, rfl, e1', rfl, ?_⟩
      have e1'' : upd H1 s (.lst (([.ref l, .int i, .int (n + 1)] : List V).set 1 (.int ((j : Int) + 1)))) s = some (.lst [.ref l, .int ((j : Int) + 1), .int (n + 1)]) := upd_same
      have kp2 : Kp s l H (upd H1 s (.lst (([.ref l, .int i, .int (n + 1)] : List V).set 1 (.int ((j : Int) + 1))))) := fun c o e h1 h2 => by rw [upd_ne h1]; exact kp1 c o e h1 h2
      have e2'' : upd H1 s (.lst (([.ref l, .int i, .int (n + 1)] : List V).set 1 (.int ((j : Int) + 1)))) l = some (.lst (cs.map V.int)) := by rw [upd_ne (Ne.symm hne)]; exact e2'
      generalize upd H1 s (.lst (([.ref l, .int i, .int (n + 1)] : List V).set 1 (.int ((j : Int) + 1)))) = H2 at e1'' e2'' kp2
      refine ⟨_, rfl, _, rfl, s, _, 2, .int (n + 1), rfl, rfl, SqL.of e1'', rfl, _, _, rfl, rfl, .inl ⟨by decide, by decide⟩, _, _, rfl, rfl, _, _, rfl, rfl, _, _, rfl, rfl, .inr ⟨by decide, by decide⟩, .inl ⟨_, rfl, _, _, rfl, rfl, (by show (0 : Int) < 2147483647; decide), ?_⟩⟩
      generalize ((c + 7919 * (n + 1) + 1) * 48271) = z1
      have b1 := emod_pos (a := z1) (m := 2147483647) (by decide)
      generalize z1 % 2147483647 = o1 at b1
      refine ⟨_, rfl, _, rfl, _, _, rfl, rfl, ⟨by decide, by decide⟩, _, _, rfl, rfl, _, _, rfl, rfl, .inl ⟨by omega, by omega⟩, .inl ⟨_, rfl, _, _, rfl, rfl, (by show (0 : Int) < 2147483647; decide), ?_⟩⟩
      generalize o1 * (o1 / 1009 + 69621) = z2
      have b2 := emod_pos (a := z2) (m := 2147483647) (by decide)
      generalize z2 % 2147483647 = o2 at b2
      refine ⟨_, rfl, _, rfl, _, _, rfl, rfl, ⟨by decide, by decide⟩, _, _, rfl, rfl, _, _, rfl, rfl, .inl ⟨by omega, by omega⟩, .inl ⟨_, rfl, _, _, rfl, rfl, (by show (0 : Int) < 2147483399; decide), ?_⟩⟩
      generalize o2 * (o2 / 2003 + 40692) = z3
      refine ⟨_, rfl, _, _, rfl, rfl, ⟨by decide, by decide⟩, .inl ⟨_, rfl, _, rfl, _, m, rfl, rfl, by omega, ?_⟩⟩
      exact k _ _ kp2 ⟨_, _, cs, e1'', e2'', c0, c1⟩ (fmod_pos m0).1 (fmod_pos m0).2
end
end Pu
namespace Pu
open PySem PySem.Spec PyProof.Rows L2
open PySem.W (findIn isFn kitOne nsIn typeIn keepIn subIn codeIn clsIn)
theorem inj_of {CT : Nat → Addr} : ∀ {cs : List Nat}, (cs.map CT).Nodup → ∀ c ∈ cs, ∀ c' ∈ cs, CT c = CT c' → c = c'
  | [], _, _, h, _, _, _ => by cases h
  | a :: cs, nd, c, h, c', h', e => by
    rw [List.map_cons, List.nodup_cons] at nd
    rcases List.mem_cons.mp h with e1 | h1
    · rcases List.mem_cons.mp h' with e2 | h2
      · exact e1.trans e2.symm
      · subst e1
        exact absurd (List.mem_map.mpr ⟨c', h2, e.symm⟩) nd.1
    · rcases List.mem_cons.mp h' with e2 | h2
      · subst e2
        exact absurd (List.mem_map.mpr ⟨c, h1, e⟩) nd.1
      · exact inj_of nd.2 c h1 c' h2 e
def tabA (l : List (Nat × Addr)) : Nat → Addr := fun n => (l.lookup n).getD 0
def tabF (l : List (Nat × List Str)) : Nat → List Str := fun n => (l.lookup n).getD []
theorem exm_of {K : PySem.W.Frag} {C S : Addr} {b : Bool} (h1 : subIn K (.ref S) (.type "BaseException") = some true) (h2 : PySem.W.isClsIn K S = true) (h3 : typeIn K (.ref S) = some (.type "type")) (h4 : subIn K (.ref C) (.ref S) = some b) :
    PySem.W.exmOne K (.ref C) (.ref S) = some b := by
  have e1 : (subIn K (.ref S) (.type "BaseException") == some true) = true := by rw [h1] <;> rfl
  have e2 : ((clsIn K S).isSome && typeIn K (.ref S) == some (.type "type")) = true := by
    have h2' : (clsIn K S).isSome = true := h2
    rw [h2', h3] <;> rfl
  unfold PySem.W.exmOne
  rw [if_pos e1]
  unfold PySem.W.kitCls
  dsimp only
  rw [if_pos e2]
  exact h4
theorem kit_same {K : PySem.W.Frag} {C : Addr} : kitOne K (.ref C) (.ref C) = some true := if_pos (beq_self_eq_true _)
theorem kit_of {K : PySem.W.Frag} {C S : Addr} {b : Bool} (h2 : PySem.W.isClsIn K S = true) (h3 : typeIn K (.ref S) = some (.type "type")) (h4 : subIn K (.ref C) (.ref S) = some b) (h : C = S → b = true) :
    kitOne K (.ref C) (.ref S) = some b := by
  by_cases e : C = S
  · subst e
    rw [h rfl]
    exact kit_same
  · have e2 : ((clsIn K S).isSome && typeIn K (.ref S) == some (.type "type")) = true := by
      have h2' : (clsIn K S).isSome = true := h2
      rw [h2', h3] <;> rfl
    have e1 : ¬ ((Value.ref C == Value.ref S) = true) := fun he => e (by simpa using he)
    unfold kitOne
    rw [if_neg e1]
    unfold PySem.W.kitCls
    dsimp only
    rw [if_pos e2]
    exact h4
theorem kit_no {K : PySem.W.Frag} {C S : Addr} {b : Bool} (h : subIn K (.ref C) (.ref S) = some false) (h' : subIn K (.ref S) (.ref S) = some true) : C = S → b = true := by
  intro e
  subst e
  rw [h] at h'
  cases h'
theorem kit_bt {K : PySem.W.Frag} {C : Addr} {T : String} {b : Bool} (h : PySem.W.kitMeta T = true) (h4 : subIn K (.ref C) (.type T) = some b) : kitOne K (.ref C) (.type T) = some b := by
  have e1 : ¬ ((Value.ref C == Value.type T) = true) := fun he => by simp at he
  unfold kitOne
  rw [if_neg e1]
  unfold PySem.W.kitCls
  dsimp only
  rw [if_pos h]
  exact h4
theorem all_mk {l : PySem.W.OpenLaw} {w : World} {K : PySem.W.Frag} {h : Heap} {mg : Str → Option Value} {fa f__law_start f__law_draw f_common_divisor f_is_integer f_Ratio_init f__law_integer f__law_due f__law_divisor f__law_is_ratio f__law_built f_Ratio_text f_is_digits f_Ratio_read f__law_digits f__law_fraction f__law_read f__law_far f__law_text f__law_value f_law f_NoRatio_init C_Ratio C_PartError C_NoRatio : Addr} (X : K.In h) (G : h.Ns mainGlobals mg) (hfa : mg "law" = some (.ref fa))
    {cd_Ratio : ClassData} {nm_NoRatio q_NoRatio : Str} {NN_NoRatio B0_NoRatio : Addr} {bs_NoRatio sub_NoRatio : List Value} {sn_NoRatio : List Str} {ab_NoRatio : Bool} {col_NoRatio : Option Bool} {dd_NoRatio : Option Addr} {k0_NoRatio k1_NoRatio k2_NoRatio k3_NoRatio k5_NoRatio : Option Value} {oc__law_start kV__law_start dc__law_start pm__law_start cd__law_start ct__law_start : Value} {od__law_start an__law_start : Option Addr} {sl__law_start : Array (Option Value)} {oc__law_draw kV__law_draw dc__law_draw pm__law_draw cd__law_draw ct__law_draw : Value} {od__law_draw an__law_draw : Option Addr} {sl__law_draw : Array (Option Value)} {oc_common_divisor kV_common_divisor dc_common_divisor pm_common_divisor cd_common_divisor ct_common_divisor : Value} {od_common_divisor an_common_divisor : Option Addr} {sl_common_divisor : Array (Option Value)} {oc_is_integer kV_is_integer dc_is_integer pm_is_integer cd_is_integer ct_is_integer : Value} {od_is_integer an_is_integer : Option Addr} {sl_is_integer : Array (Option Value)} {TD_Ratio_init : Addr} {tcD_Ratio_init : Value} {tdD_Ratio_init : Option Addr} {tnD_Ratio_init : Nat} {tslD_Ratio_init : Array (Option Value)} {tkD0_Ratio_init : Tok} {oc_Ratio_init kV_Ratio_init dc_Ratio_init pm_Ratio_init cd_Ratio_init ct_Ratio_init : Value} {od_Ratio_init an_Ratio_init : Option Addr} {sl_Ratio_init : Array (Option Value)} {oc__law_integer kV__law_integer dc__law_integer pm__law_integer cd__law_integer ct__law_integer : Value} {od__law_integer an__law_integer : Option Addr} {sl__law_integer : Array (Option Value)} {oc__law_due kV__law_due dc__law_due pm__law_due cd__law_due ct__law_due : Value} {od__law_due an__law_due : Option Addr} {sl__law_due : Array (Option Value)} {oc__law_divisor kV__law_divisor dc__law_divisor pm__law_divisor cd__law_divisor ct__law_divisor : Value} {od__law_divisor an__law_divisor : Option Addr} {sl__law_divisor : Array (Option Value)} {oc__law_is_ratio kV__law_is_ratio dc__law_is_ratio pm__law_is_ratio cd__law_is_ratio ct__law_is_ratio : Value} {od__law_is_ratio an__law_is_ratio : Option Addr} {sl__law_is_ratio : Array (Option Value)} {oc__law_built kV__law_built dc__law_built pm__law_built cd__law_built ct__law_built : Value} {od__law_built an__law_built : Option Addr} {sl__law_built : Array (Option Value)} {oc_Ratio_text kV_Ratio_text dc_Ratio_text pm_Ratio_text cd_Ratio_text ct_Ratio_text : Value} {od_Ratio_text an_Ratio_text : Option Addr} {sl_Ratio_text : Array (Option Value)} {oc_is_digits kV_is_digits dc_is_digits pm_is_digits cd_is_digits ct_is_digits : Value} {od_is_digits an_is_digits : Option Addr} {sl_is_digits : Array (Option Value)} {mcS_Ratio_read : Value} {restS_Ratio_read : List Value} {pS_Ratio_read : Addr} {oc_Ratio_read kV_Ratio_read dc_Ratio_read pm_Ratio_read cd_Ratio_read ct_Ratio_read : Value} {od_Ratio_read an_Ratio_read : Option Addr} {sl_Ratio_read : Array (Option Value)} {oc__law_digits kV__law_digits dc__law_digits pm__law_digits cd__law_digits ct__law_digits : Value} {od__law_digits an__law_digits : Option Addr} {sl__law_digits : Array (Option Value)} {oc__law_fraction kV__law_fraction dc__law_fraction pm__law_fraction cd__law_fraction ct__law_fraction : Value} {od__law_fraction an__law_fraction : Option Addr} {sl__law_fraction : Array (Option Value)} {oc__law_read kV__law_read dc__law_read pm__law_read cd__law_read ct__law_read : Value} {od__law_read an__law_read : Option Addr} {sl__law_read : Array (Option Value)} {oc__law_far kV__law_far dc__law_far pm__law_far cd__law_far ct__law_far : Value} {od__law_far an__law_far : Option Addr} {sl__law_far : Array (Option Value)} {oc__law_text kV__law_text dc__law_text pm__law_text cd__law_text ct__law_text : Value} {od__law_text an__law_text : Option Addr} {sl__law_text : Array (Option Value)} {oc__law_value kV__law_value dc__law_value pm__law_value cd__law_value ct__law_value : Value} {od__law_value an__law_value : Option Addr} {sl__law_value : Array (Option Value)} {oc_law kV_law dc_law pm_law cd_law ct_law : Value} {od_law an_law : Option Addr} {sl_law : Array (Option Value)} {oc_NoRatio_init kV_NoRatio_init dc_NoRatio_init pm_NoRatio_init cd_NoRatio_init ct_NoRatio_init : Value} {od_NoRatio_init an_NoRatio_init : Option Addr} {sl_NoRatio_init : Array (Option Value)} {tk_MOST_DIGITS : Tok} {tk_DIGITS : Tok}
    (a_Ratio : nsIn K mainGlobals "Ratio" = some (some (.ref C_Ratio)))
    (pg_Ratio : PySem.W.plainGet K C_Ratio Str.empty = true)
    (hd_Ratio : PySem.W.hasDictIn K C_Ratio = true)
    (po_Ratio : PySem.W.plainOver K C_Ratio = true)
    (sa_Ratio : findIn K (.ref C_Ratio) "__setattr__" = some (some (.builtin "object.__setattr__")))
    (nf_Ratio_bottom : findIn K (.ref C_Ratio) "bottom" = some none)
    (nf_Ratio_top : findIn K (.ref C_Ratio) "top" = some none)
    (cA_Ratio : findIn K (.ref C_Ratio) "__class__" = some (some (.builtin "object.__class__")))
    (cd_e_Ratio : clsIn K C_Ratio = some cd_Ratio)
    (cd_m_Ratio : cd_Ratio.mro = [.ref C_Ratio, .type "object"])
    (ty_Ratio : typeIn K (.ref C_Ratio) = some (.type "type"))
    (clN : PySem.W.specialIn K (.builtin "object.__class__") "__get__" = some (some (.builtin "getset_descriptor.__get__")))
    (clK : PySem.W.takesIn K (.builtin "object.__class__") = some true)
    (clD : ([C_Ratio] : List Addr).Nodup)
    (a_PartError : nsIn K mainGlobals "PartError" = some (some (.ref C_PartError)))
    (xe_PartError : subIn K (.ref C_PartError) (.type "BaseException") = some true)
    (xt_PartError : typeIn K (.ref C_PartError) = some (.type "type"))
    (xk_PartError : keepIn K (.ref C_PartError) = true)
    (a_NoRatio : nsIn K mainGlobals "NoRatio" = some (some (.ref C_NoRatio)))
    (xl_NoRatio : K.lookup C_NoRatio = some (excClassObj nm_NoRatio q_NoRatio C_NoRatio NN_NoRatio bs_NoRatio [.ref B0_NoRatio, .type "ValueError", .type "Exception", .type "BaseException", .type "object"] true sn_NoRatio sub_NoRatio ab_NoRatio col_NoRatio dd_NoRatio k0_NoRatio k1_NoRatio k2_NoRatio k3_NoRatio k5_NoRatio "ValueError.__new__"))
    (xsa_NoRatio : findIn K (.ref C_NoRatio) "__setattr__" = some (some (.builtin "object.__setattr__")))
    (xe_NoRatio : subIn K (.ref C_NoRatio) (.type "BaseException") = some true)
    (xt_NoRatio : typeIn K (.ref C_NoRatio) = some (.type "type"))
    (xk_NoRatio : keepIn K (.ref C_NoRatio) = true)
    (a__law_start : nsIn K mainGlobals "_law_start" = some (some (.ref f__law_start)))
    (l__law_start : K.lookup f__law_start = some ⟨oc__law_start, od__law_start, .func (PySem.W.fnOf "_law_start" "_law_start" (defArgs s__law_start) (defBody s__law_start) (defScope s__law_start) .none kV__law_start dc__law_start pm__law_start an__law_start cd__law_start ct__law_start), sl__law_start⟩)
    (c__law_start : codeIn K cd__law_start "_law_start" = true)
    (k__law_start : keepIn K (.ref f__law_start) = true)
    (a__law_draw : nsIn K mainGlobals "_law_draw" = some (some (.ref f__law_draw)))
    (l__law_draw : K.lookup f__law_draw = some ⟨oc__law_draw, od__law_draw, .func (PySem.W.fnOf "_law_draw" "_law_draw" (defArgs s__law_draw) (defBody s__law_draw) (defScope s__law_draw) .none kV__law_draw dc__law_draw pm__law_draw an__law_draw cd__law_draw ct__law_draw), sl__law_draw⟩)
    (c__law_draw : codeIn K cd__law_draw "_law_draw" = true)
    (k__law_draw : keepIn K (.ref f__law_draw) = true)
    (a_common_divisor : nsIn K mainGlobals "common_divisor" = some (some (.ref f_common_divisor)))
    (l_common_divisor : K.lookup f_common_divisor = some ⟨oc_common_divisor, od_common_divisor, .func (PySem.W.fnOf "common_divisor" "common_divisor" (defArgs s_common_divisor) (defBody s_common_divisor) (defScope s_common_divisor) .none kV_common_divisor dc_common_divisor pm_common_divisor an_common_divisor cd_common_divisor ct_common_divisor), sl_common_divisor⟩)
    (c_common_divisor : codeIn K cd_common_divisor "common_divisor" = true)
    (k_common_divisor : keepIn K (.ref f_common_divisor) = true)
    (a_is_integer : nsIn K mainGlobals "is_integer" = some (some (.ref f_is_integer)))
    (l_is_integer : K.lookup f_is_integer = some ⟨oc_is_integer, od_is_integer, .func (PySem.W.fnOf "is_integer" "is_integer" (defArgs s_is_integer) (defBody s_is_integer) (defScope s_is_integer) .none kV_is_integer dc_is_integer pm_is_integer an_is_integer cd_is_integer ct_is_integer), sl_is_integer⟩)
    (c_is_integer : codeIn K cd_is_integer "is_integer" = true)
    (k_is_integer : keepIn K (.ref f_is_integer) = true)
    (a_Ratio_init : findIn K (.ref C_Ratio) "__init__" = some (some (.ref f_Ratio_init)))
    (i_Ratio_init : isFn K (.ref f_Ratio_init) = true)
    (mk_Ratio : PySem.W.makesIn K C_Ratio = true)
    (kc_Ratio : keepIn K (.ref C_Ratio) = true)
    (l_Ratio_init : K.lookup f_Ratio_init = some ⟨oc_Ratio_init, od_Ratio_init, .func (PySem.W.fnOf "__init__" "Ratio.__init__" (defArgs s_Ratio_init) (defBody s_Ratio_init) (defScope s_Ratio_init) (.ref TD_Ratio_init) kV_Ratio_init dc_Ratio_init pm_Ratio_init an_Ratio_init cd_Ratio_init ct_Ratio_init), sl_Ratio_init⟩)
    (lTD_Ratio_init : K.lookup TD_Ratio_init = some ⟨tcD_Ratio_init, tdD_Ratio_init, .seq #[Value.int 1 tkD0_Ratio_init] tnD_Ratio_init, tslD_Ratio_init⟩)
    (c_Ratio_init : codeIn K cd_Ratio_init "Ratio.__init__" = true)
    (k_Ratio_init : keepIn K (.ref f_Ratio_init) = true)
    (a__law_integer : nsIn K mainGlobals "_law_integer" = some (some (.ref f__law_integer)))
    (l__law_integer : K.lookup f__law_integer = some ⟨oc__law_integer, od__law_integer, .func (PySem.W.fnOf "_law_integer" "_law_integer" (defArgs s__law_integer) (defBody s__law_integer) (defScope s__law_integer) .none kV__law_integer dc__law_integer pm__law_integer an__law_integer cd__law_integer ct__law_integer), sl__law_integer⟩)
    (c__law_integer : codeIn K cd__law_integer "_law_integer" = true)
    (k__law_integer : keepIn K (.ref f__law_integer) = true)
    (a__law_due : nsIn K mainGlobals "_law_due" = some (some (.ref f__law_due)))
    (l__law_due : K.lookup f__law_due = some ⟨oc__law_due, od__law_due, .func (PySem.W.fnOf "_law_due" "_law_due" (defArgs s__law_due) (defBody s__law_due) (defScope s__law_due) .none kV__law_due dc__law_due pm__law_due an__law_due cd__law_due ct__law_due), sl__law_due⟩)
    (c__law_due : codeIn K cd__law_due "_law_due" = true)
    (k__law_due : keepIn K (.ref f__law_due) = true)
    (a__law_divisor : nsIn K mainGlobals "_law_divisor" = some (some (.ref f__law_divisor)))
    (l__law_divisor : K.lookup f__law_divisor = some ⟨oc__law_divisor, od__law_divisor, .func (PySem.W.fnOf "_law_divisor" "_law_divisor" (defArgs s__law_divisor) (defBody s__law_divisor) (defScope s__law_divisor) .none kV__law_divisor dc__law_divisor pm__law_divisor an__law_divisor cd__law_divisor ct__law_divisor), sl__law_divisor⟩)
    (c__law_divisor : codeIn K cd__law_divisor "_law_divisor" = true)
    (k__law_divisor : keepIn K (.ref f__law_divisor) = true)
    (a__law_is_ratio : nsIn K mainGlobals "_law_is_ratio" = some (some (.ref f__law_is_ratio)))
    (l__law_is_ratio : K.lookup f__law_is_ratio = some ⟨oc__law_is_ratio, od__law_is_ratio, .func (PySem.W.fnOf "_law_is_ratio" "_law_is_ratio" (defArgs s__law_is_ratio) (defBody s__law_is_ratio) (defScope s__law_is_ratio) .none kV__law_is_ratio dc__law_is_ratio pm__law_is_ratio an__law_is_ratio cd__law_is_ratio ct__law_is_ratio), sl__law_is_ratio⟩)
    (c__law_is_ratio : codeIn K cd__law_is_ratio "_law_is_ratio" = true)
    (k__law_is_ratio : keepIn K (.ref f__law_is_ratio) = true)
    (a__law_built : nsIn K mainGlobals "_law_built" = some (some (.ref f__law_built)))
    (l__law_built : K.lookup f__law_built = some ⟨oc__law_built, od__law_built, .func (PySem.W.fnOf "_law_built" "_law_built" (defArgs s__law_built) (defBody s__law_built) (defScope s__law_built) .none kV__law_built dc__law_built pm__law_built an__law_built cd__law_built ct__law_built), sl__law_built⟩)
    (c__law_built : codeIn K cd__law_built "_law_built" = true)
    (k__law_built : keepIn K (.ref f__law_built) = true)
    (a_Ratio_text : findIn K (.ref C_Ratio) "text" = some (some (.ref f_Ratio_text)))
    (i_Ratio_text : isFn K (.ref f_Ratio_text) = true)
    (l_Ratio_text : K.lookup f_Ratio_text = some ⟨oc_Ratio_text, od_Ratio_text, .func (PySem.W.fnOf "text" "Ratio.text" (defArgs s_Ratio_text) (defBody s_Ratio_text) (defScope s_Ratio_text) .none kV_Ratio_text dc_Ratio_text pm_Ratio_text an_Ratio_text cd_Ratio_text ct_Ratio_text), sl_Ratio_text⟩)
    (c_Ratio_text : codeIn K cd_Ratio_text "Ratio.text" = true)
    (k_Ratio_text : keepIn K (.ref f_Ratio_text) = true)
    (a_is_digits : nsIn K mainGlobals "is_digits" = some (some (.ref f_is_digits)))
    (l_is_digits : K.lookup f_is_digits = some ⟨oc_is_digits, od_is_digits, .func (PySem.W.fnOf "is_digits" "is_digits" (defArgs s_is_digits) (defBody s_is_digits) (defScope s_is_digits) .none kV_is_digits dc_is_digits pm_is_digits an_is_digits cd_is_digits ct_is_digits), sl_is_digits⟩)
    (c_is_digits : codeIn K cd_is_digits "is_digits" = true)
    (k_is_digits : keepIn K (.ref f_is_digits) = true)
    (sTy_Ratio : typeIn K (.ref C_Ratio) = some mcS_Ratio_read)
    (sRd_Ratio_read : PySem.W.readsIn K C_Ratio mcS_Ratio_read = true)
    (sGa_Ratio_read : PySem.W.specialIn K (.ref C_Ratio) "__getattribute__" = some (some (.builtin "type.__getattribute__")))
    (sAt_Ratio_read : PySem.W.findCls K (.ref C_Ratio) mcS_Ratio_read "read" = some (.get (.builtin "staticmethod.__get__") (.ref pS_Ratio_read) .none (.ref C_Ratio)))
    (sRc_Ratio_read : PySem.W.recIn K pS_Ratio_read "staticmethod" = some (.ref f_Ratio_read :: restS_Ratio_read))
    (sHd_Ratio_read : PySem.W.handedIn (.ref f_Ratio_read) = true)
    (l_Ratio_read : K.lookup f_Ratio_read = some ⟨oc_Ratio_read, od_Ratio_read, .func (PySem.W.fnOf "read" "Ratio.read" (defArgs s_Ratio_read) (defBody s_Ratio_read) (defScope s_Ratio_read) .none kV_Ratio_read dc_Ratio_read pm_Ratio_read an_Ratio_read cd_Ratio_read ct_Ratio_read), sl_Ratio_read⟩)
    (c_Ratio_read : codeIn K cd_Ratio_read "Ratio.read" = true)
    (k_Ratio_read : keepIn K (.ref f_Ratio_read) = true)
    (a__law_digits : nsIn K mainGlobals "_law_digits" = some (some (.ref f__law_digits)))
    (l__law_digits : K.lookup f__law_digits = some ⟨oc__law_digits, od__law_digits, .func (PySem.W.fnOf "_law_digits" "_law_digits" (defArgs s__law_digits) (defBody s__law_digits) (defScope s__law_digits) .none kV__law_digits dc__law_digits pm__law_digits an__law_digits cd__law_digits ct__law_digits), sl__law_digits⟩)
    (c__law_digits : codeIn K cd__law_digits "_law_digits" = true)
    (k__law_digits : keepIn K (.ref f__law_digits) = true)
    (a__law_fraction : nsIn K mainGlobals "_law_fraction" = some (some (.ref f__law_fraction)))
    (l__law_fraction : K.lookup f__law_fraction = some ⟨oc__law_fraction, od__law_fraction, .func (PySem.W.fnOf "_law_fraction" "_law_fraction" (defArgs s__law_fraction) (defBody s__law_fraction) (defScope s__law_fraction) .none kV__law_fraction dc__law_fraction pm__law_fraction an__law_fraction cd__law_fraction ct__law_fraction), sl__law_fraction⟩)
    (c__law_fraction : codeIn K cd__law_fraction "_law_fraction" = true)
    (k__law_fraction : keepIn K (.ref f__law_fraction) = true)
    (a__law_read : nsIn K mainGlobals "_law_read" = some (some (.ref f__law_read)))
    (l__law_read : K.lookup f__law_read = some ⟨oc__law_read, od__law_read, .func (PySem.W.fnOf "_law_read" "_law_read" (defArgs s__law_read) (defBody s__law_read) (defScope s__law_read) .none kV__law_read dc__law_read pm__law_read an__law_read cd__law_read ct__law_read), sl__law_read⟩)
    (c__law_read : codeIn K cd__law_read "_law_read" = true)
    (k__law_read : keepIn K (.ref f__law_read) = true)
    (a__law_far : nsIn K mainGlobals "_law_far" = some (some (.ref f__law_far)))
    (l__law_far : K.lookup f__law_far = some ⟨oc__law_far, od__law_far, .func (PySem.W.fnOf "_law_far" "_law_far" (defArgs s__law_far) (defBody s__law_far) (defScope s__law_far) .none kV__law_far dc__law_far pm__law_far an__law_far cd__law_far ct__law_far), sl__law_far⟩)
    (c__law_far : codeIn K cd__law_far "_law_far" = true)
    (k__law_far : keepIn K (.ref f__law_far) = true)
    (a__law_text : nsIn K mainGlobals "_law_text" = some (some (.ref f__law_text)))
    (l__law_text : K.lookup f__law_text = some ⟨oc__law_text, od__law_text, .func (PySem.W.fnOf "_law_text" "_law_text" (defArgs s__law_text) (defBody s__law_text) (defScope s__law_text) .none kV__law_text dc__law_text pm__law_text an__law_text cd__law_text ct__law_text), sl__law_text⟩)
    (c__law_text : codeIn K cd__law_text "_law_text" = true)
    (k__law_text : keepIn K (.ref f__law_text) = true)
    (a__law_value : nsIn K mainGlobals "_law_value" = some (some (.ref f__law_value)))
    (l__law_value : K.lookup f__law_value = some ⟨oc__law_value, od__law_value, .func (PySem.W.fnOf "_law_value" "_law_value" (defArgs s__law_value) (defBody s__law_value) (defScope s__law_value) .none kV__law_value dc__law_value pm__law_value an__law_value cd__law_value ct__law_value), sl__law_value⟩)
    (c__law_value : codeIn K cd__law_value "_law_value" = true)
    (k__law_value : keepIn K (.ref f__law_value) = true)
    (a_law : nsIn K mainGlobals "law" = some (some (.ref f_law)))
    (l_law : K.lookup f_law = some ⟨oc_law, od_law, .func (PySem.W.fnOf "law" "law" (defArgs s_law) (defBody s_law) (defScope s_law) .none kV_law dc_law pm_law an_law cd_law ct_law), sl_law⟩)
    (c_law : codeIn K cd_law "law" = true)
    (k_law : keepIn K (.ref f_law) = true)
    (a_NoRatio_init : findIn K (.ref C_NoRatio) "__init__" = some (some (.ref f_NoRatio_init)))
    (t_NoRatio_init : typeIn K (.ref f_NoRatio_init) = some (.type "function"))
    (l_NoRatio_init : K.lookup f_NoRatio_init = some ⟨oc_NoRatio_init, od_NoRatio_init, .func (PySem.W.fnOf "__init__" "NoRatio.__init__" (defArgs s_NoRatio_init) (defBody s_NoRatio_init) (defScope s_NoRatio_init) .none kV_NoRatio_init dc_NoRatio_init pm_NoRatio_init an_NoRatio_init cd_NoRatio_init ct_NoRatio_init), sl_NoRatio_init⟩)
    (c_NoRatio_init : codeIn K cd_NoRatio_init "NoRatio.__init__" = true)
    (k_NoRatio_init : keepIn K (.ref f_NoRatio_init) = true)
    (nf_NoRatio_word : findIn K (.ref C_NoRatio) "word" = some none)
    (xc_NoRatio : PySem.W.isClsIn K C_NoRatio = true)
    (xs_NoRatio_NoRatio : subIn K (.ref C_NoRatio) (.ref C_NoRatio) = some true)
    (ga_NoRatio : findIn K (.ref C_NoRatio) "__getattribute__" = some (some (.builtin "BaseException.__getattribute__")))
    (gg_NoRatio : findIn K (.ref C_NoRatio) "__getattr__" = some none)
    (xh_NoRatio : PySem.W.hasDictIn K C_NoRatio = true)
    (gc_MOST_DIGITS : nsIn K mainGlobals "MOST_DIGITS" = some (some (.int 60 tk_MOST_DIGITS)))
    (gc_DIGITS : nsIn K mainGlobals "DIGITS" = some (some (.str "0123456789" tk_DIGITS)))
    (xc_PartError : PySem.W.isClsIn K C_PartError = true)
    (xs_NoRatio_PartError : subIn K (.ref C_NoRatio) (.ref C_PartError) = some true)
    (cA_NoRatio : findIn K (.ref C_NoRatio) "__class__" = some (some (.builtin "object.__class__")))
    (no_NoRatio : PySem.W.mroIn K C_NoRatio (.type "object") = some true)
    (xb_NoRatio_ValueError : subIn K (.ref C_NoRatio) (.type "ValueError") = some true)
    (z_ValueError : nsIn K mainGlobals "ValueError" = some none)
    (z_abs : nsIn K mainGlobals "abs" = some none)
    (z_all : nsIn K mainGlobals "all" = some none)
    (z_bool : nsIn K mainGlobals "bool" = some none)
    (z_int : nsIn K mainGlobals "int" = some none)
    (z_isinstance : nsIn K mainGlobals "isinstance" = some none)
    (z_len : nsIn K mainGlobals "len" = some none)
    (z_range : nsIn K mainGlobals "range" = some none)
    (z_str : nsIn K mainGlobals "str" = some none)
    : ∃ fd : FuncData, (∀ (s : Shared) (v : Value), BindsTo s fd ⟨[v], []⟩ [("_law_script", v)]) ∧ ∀ base : Heap, K.In base → base.Ns mainGlobals mg → FnOk l.prog w K mg base (L2.CX l.prog w) 7 fa fd ["_law_script"] (spLaw K) := by
  have e0 := hfa.symm.trans (PySem.W.mg_of X G a_law)
  cases e0
  refine ⟨PySem.W.fnOf "law" "law" (defArgs s_law) (defBody s_law) (defScope s_law) .none kV_law dc_law pm_law an_law cd_law ct_law, fun s v => ?_, fun base KB GB => ?_⟩
  · exact .of_eq rfl
  let CT : Nat → Addr := tabA [(4, C_Ratio), (20, C_PartError), (21, C_NoRatio)]
  let lay : Nat → List Str := tabF [(4, ["top", "bottom"]), (20, []), (21, ["word"])]
  have Z_ValueError : mg "ValueError" = none := PySem.W.mg_none_of X G z_ValueError
  have Z_abs : mg "abs" = none := PySem.W.mg_none_of X G z_abs
  have Z_all : mg "all" = none := PySem.W.mg_none_of X G z_all
  have Z_bool : mg "bool" = none := PySem.W.mg_none_of X G z_bool
  have Z_int : mg "int" = none := PySem.W.mg_none_of X G z_int
  have Z_isinstance : mg "isinstance" = none := PySem.W.mg_none_of X G z_isinstance
  have Z_len : mg "len" = none := PySem.W.mg_none_of X G z_len
  have Z_range : mg "range" = none := PySem.W.mg_none_of X G z_range
  have Z_str : mg "str" = none := PySem.W.mg_none_of X G z_str
  have B : Bl mg := ⟨Z_int, Z_len⟩
  have K_Ratio : Cls K (CT cRatio) := ⟨pg_Ratio, hd_Ratio, po_Ratio, sa_Ratio⟩
  have F__law_start := fun_mk (x := "_law_start") (qual := "_law_start") (st := s__law_start) l__law_start c__law_start k__law_start
  have b__law_start := F__law_start.binds (ps := ["_law_script"]) fun _ _ _ _ _ _ us hl => match us, hl with | [_], _ => rfl
  have m__law_start : mg "_law_start" = some (.ref f__law_start) := PySem.W.mg_of X G a__law_start
  have F__law_draw := fun_mk (x := "_law_draw") (qual := "_law_draw") (st := s__law_draw) l__law_draw c__law_draw k__law_draw
  have b__law_draw := F__law_draw.binds (ps := ["_law_state", "_law_many"]) fun _ _ _ _ _ _ us hl => match us, hl with | [_, _], _ => rfl
  have m__law_draw : mg "_law_draw" = some (.ref f__law_draw) := PySem.W.mg_of X G a__law_draw
  have F_common_divisor := fun_mk (x := "common_divisor") (qual := "common_divisor") (st := s_common_divisor) l_common_divisor c_common_divisor k_common_divisor
  have b_common_divisor := F_common_divisor.binds (ps := ["one", "other"]) fun _ _ _ _ _ _ us hl => match us, hl with | [_, _], _ => rfl
  have m_common_divisor : mg "common_divisor" = some (.ref f_common_divisor) := PySem.W.mg_of X G a_common_divisor
  have F_is_integer := fun_mk (x := "is_integer") (qual := "is_integer") (st := s_is_integer) l_is_integer c_is_integer k_is_integer
  have b_is_integer := F_is_integer.binds (ps := ["thing"]) fun _ _ _ _ _ _ us hl => match us, hl with | [_], _ => rfl
  have m_is_integer : mg "is_integer" = some (.ref f_is_integer) := PySem.W.mg_of X G a_is_integer
  have F_Ratio_init : FunD K "__init__" "Ratio.__init__" (defArgs s_Ratio_init) (defBody s_Ratio_init) (defScope s_Ratio_init) [.int 1] [] f_Ratio_init (PySem.W.fnOf "__init__" "Ratio.__init__" (defArgs s_Ratio_init) (defBody s_Ratio_init) (defScope s_Ratio_init) (.ref TD_Ratio_init) kV_Ratio_init dc_Ratio_init pm_Ratio_init an_Ratio_init cd_Ratio_init ct_Ratio_init) :=
    ⟨⟨oc_Ratio_init, od_Ratio_init, .ref TD_Ratio_init, kV_Ratio_init, dc_Ratio_init, pm_Ratio_init, an_Ratio_init, cd_Ratio_init, ct_Ratio_init, sl_Ratio_init, rfl, l_Ratio_init, c_Ratio_init, .inr ⟨(fun z => nomatch z), TD_Ratio_init, _, [Value.int 1 tkD0_Ratio_init], tnD_Ratio_init, rfl, lTD_Ratio_init, rfl, .cons ⟨tkD0_Ratio_init, rfl⟩ (.nil)⟩, .inl rfl⟩, k_Ratio_init⟩
  have b_Ratio_init : Binds K (PySem.W.fnOf "__init__" "Ratio.__init__" (defArgs s_Ratio_init) (defBody s_Ratio_init) (defScope s_Ratio_init) (.ref TD_Ratio_init) kV_Ratio_init dc_Ratio_init pm_Ratio_init an_Ratio_init cd_Ratio_init ct_Ratio_init) ["self", "top", "bottom"] [] := by
    obtain ⟨ds, v, b⟩ := F_Ratio_init.binds1 (ps := ["self", "top", "bottom"]) 3 1 (fun z => nomatch z) rfl fun T kV doc pm an cdv ct us its hu hi => match us, its, hu, hi with | [_, _, _], [_], _, _ => ⟨_, rfl, rfl⟩
    cases v
    exact b
  obtain ⟨ds_Ratio_init, dv_Ratio_init, bm_Ratio_init⟩ := F_Ratio_init.binds1 (ps := ["self", "top", "bottom"]) 2 0 (fun z => nomatch z) rfl fun T kV doc pm an cdv ct us its hu hi => match us, its, hu, hi with | [_, _], [_], _, _ => ⟨_, rfl, rfl⟩
  have F__law_integer := fun_mk (x := "_law_integer") (qual := "_law_integer") (st := s__law_integer) l__law_integer c__law_integer k__law_integer
  have b__law_integer := F__law_integer.binds (ps := ["_law_value_here"]) fun _ _ _ _ _ _ us hl => match us, hl with | [_], _ => rfl
  have m__law_integer : mg "_law_integer" = some (.ref f__law_integer) := PySem.W.mg_of X G a__law_integer
  have F__law_due := fun_mk (x := "_law_due") (qual := "_law_due") (st := s__law_due) l__law_due c__law_due k__law_due
  have b__law_due := F__law_due.binds (ps := ["_law_top", "_law_bottom"]) fun _ _ _ _ _ _ us hl => match us, hl with | [_, _], _ => rfl
  have m__law_due : mg "_law_due" = some (.ref f__law_due) := PySem.W.mg_of X G a__law_due
  have F__law_divisor := fun_mk (x := "_law_divisor") (qual := "_law_divisor") (st := s__law_divisor) l__law_divisor c__law_divisor k__law_divisor
  have b__law_divisor := F__law_divisor.binds (ps := ["_law_one", "_law_other"]) fun _ _ _ _ _ _ us hl => match us, hl with | [_, _], _ => rfl
  have m__law_divisor : mg "_law_divisor" = some (.ref f__law_divisor) := PySem.W.mg_of X G a__law_divisor
  have F__law_is_ratio := fun_mk (x := "_law_is_ratio") (qual := "_law_is_ratio") (st := s__law_is_ratio) l__law_is_ratio c__law_is_ratio k__law_is_ratio
  have b__law_is_ratio := F__law_is_ratio.binds (ps := ["_law_value_here", "_law_top", "_law_bottom"]) fun _ _ _ _ _ _ us hl => match us, hl with | [_, _, _], _ => rfl
  have m__law_is_ratio : mg "_law_is_ratio" = some (.ref f__law_is_ratio) := PySem.W.mg_of X G a__law_is_ratio
  have F__law_built := fun_mk (x := "_law_built") (qual := "_law_built") (st := s__law_built) l__law_built c__law_built k__law_built
  have b__law_built := F__law_built.binds (ps := ["_law_top", "_law_bottom", "_law_alone"]) fun _ _ _ _ _ _ us hl => match us, hl with | [_, _, _], _ => rfl
  have m__law_built : mg "_law_built" = some (.ref f__law_built) := PySem.W.mg_of X G a__law_built
  have F_Ratio_text := fun_mk (x := "text") (qual := "Ratio.text") (st := s_Ratio_text) l_Ratio_text c_Ratio_text k_Ratio_text
  have b_Ratio_text := F_Ratio_text.binds (ps := ["self"]) fun _ _ _ _ _ _ us hl => match us, hl with | [_], _ => rfl
  have F_is_digits := fun_mk (x := "is_digits") (qual := "is_digits") (st := s_is_digits) l_is_digits c_is_digits k_is_digits
  have b_is_digits := F_is_digits.binds (ps := ["text"]) fun _ _ _ _ _ _ us hl => match us, hl with | [_], _ => rfl
  have m_is_digits : mg "is_digits" = some (.ref f_is_digits) := PySem.W.mg_of X G a_is_digits
  have F_Ratio_read := fun_mk (x := "read") (qual := "Ratio.read") (st := s_Ratio_read) l_Ratio_read c_Ratio_read k_Ratio_read
  have b_Ratio_read := F_Ratio_read.binds (ps := ["text"]) fun _ _ _ _ _ _ us hl => match us, hl with | [_], _ => rfl
  have F__law_digits := fun_mk (x := "_law_digits") (qual := "_law_digits") (st := s__law_digits) l__law_digits c__law_digits k__law_digits
  have b__law_digits := F__law_digits.binds (ps := ["_law_text_here"]) fun _ _ _ _ _ _ us hl => match us, hl with | [_], _ => rfl
  have m__law_digits : mg "_law_digits" = some (.ref f__law_digits) := PySem.W.mg_of X G a__law_digits
  have F__law_fraction := fun_mk (x := "_law_fraction") (qual := "_law_fraction") (st := s__law_fraction) l__law_fraction c__law_fraction k__law_fraction
  have b__law_fraction := F__law_fraction.binds (ps := ["_law_text_here"]) fun _ _ _ _ _ _ us hl => match us, hl with | [_], _ => rfl
  have m__law_fraction : mg "_law_fraction" = some (.ref f__law_fraction) := PySem.W.mg_of X G a__law_fraction
  have F__law_read := fun_mk (x := "_law_read") (qual := "_law_read") (st := s__law_read) l__law_read c__law_read k__law_read
  have b__law_read := F__law_read.binds (ps := ["_law_text_here"]) fun _ _ _ _ _ _ us hl => match us, hl with | [_], _ => rfl
  have m__law_read : mg "_law_read" = some (.ref f__law_read) := PySem.W.mg_of X G a__law_read
  have F__law_far := fun_mk (x := "_law_far") (qual := "_law_far") (st := s__law_far) l__law_far c__law_far k__law_far
  have b__law_far := F__law_far.binds (ps := ["_law_state", "_law_bound"]) fun _ _ _ _ _ _ us hl => match us, hl with | [_, _], _ => rfl
  have m__law_far : mg "_law_far" = some (.ref f__law_far) := PySem.W.mg_of X G a__law_far
  have F__law_text := fun_mk (x := "_law_text") (qual := "_law_text") (st := s__law_text) l__law_text c__law_text k__law_text
  have b__law_text := F__law_text.binds (ps := ["_law_state"]) fun _ _ _ _ _ _ us hl => match us, hl with | [_], _ => rfl
  have m__law_text : mg "_law_text" = some (.ref f__law_text) := PySem.W.mg_of X G a__law_text
  have F__law_value := fun_mk (x := "_law_value") (qual := "_law_value") (st := s__law_value) l__law_value c__law_value k__law_value
  have b__law_value := F__law_value.binds (ps := ["_law_state"]) fun _ _ _ _ _ _ us hl => match us, hl with | [_], _ => rfl
  have m__law_value : mg "_law_value" = some (.ref f__law_value) := PySem.W.mg_of X G a__law_value
  have F_law := fun_mk (x := "law") (qual := "law") (st := s_law) l_law c_law k_law
  have F_NoRatio_init := fun_mk (x := "__init__") (qual := "NoRatio.__init__") (st := s_NoRatio_init) l_NoRatio_init c_NoRatio_init k_NoRatio_init
  have b_NoRatio_init := F_NoRatio_init.binds (ps := ["self", "word"]) fun _ _ _ _ _ _ us hl => match us, hl with | [_, _], _ => rfl
  have Ox_NoRatio : OexC K C_NoRatio := ⟨⟨nm_NoRatio, q_NoRatio, NN_NoRatio, bs_NoRatio, _, sn_NoRatio, sub_NoRatio, ab_NoRatio, col_NoRatio, dd_NoRatio, k0_NoRatio, k1_NoRatio, k2_NoRatio, k3_NoRatio, k5_NoRatio, xl_NoRatio, rfl⟩, xsa_NoRatio, xe_NoRatio, xt_NoRatio, xk_NoRatio⟩
  have Xi_NoRatio := exn1_ok (P := l.prog) (w := w) (mg := mg) (base := base) (k := 0) (Fun.g F_NoRatio_init) Ox_NoRatio nf_NoRatio_word rfl ⟨rfl, rfl, rfl, by decide +kernel, rfl, by decide +kernel, by decide +kernel⟩ (by decide) (by decide) (fun _ _ _ => ⟨Or.inl rfl, Or.inl rfl⟩) (fun _ _ _ => rfl)
  have V0 : mg "abs" = none := Z_abs
  have G_common_divisor := ok_common_divisor (P := l.prog) (w := w) (mg := mg) (base := base) (CT := CT) (lay := lay) (Fn := Fun.g F_common_divisor) (z_abs := V0)
  have V1 : mg "isinstance" = none := Z_isinstance
  have V2 : ClsX K CT csL := ⟨List.forall_mem_cons.mpr ⟨⟨K_Ratio, cA_Ratio, ⟨cd_Ratio, cd_e_Ratio, cd_m_Ratio⟩, ty_Ratio⟩, (fun _ h => nomatch h)⟩, clN, clK, inj_of clD⟩
  have V3 : mg "int" = none := Z_int
  have V4 : mg "bool" = none := Z_bool
  have G_is_integer := ok_is_integer (P := l.prog) (w := w) (mg := mg) (base := base) (CT := CT) (lay := lay) (Fn := Fun.g F_is_integer) (z_isinstance := V1) (clsX := V2) (z_int := V3) (z_bool := V4)
  have V5 : FnAt l.prog w K mg base CT lay 1 "is_integer" ["thing"] S_is_integer := ⟨_, _, G_is_integer, m_is_integer, k_is_integer, b_is_integer⟩
  have V6 : XnAt l.prog w K mg base CT lay 1 "NoRatio" cNoRatio ["self", "word"] := ⟨_, _, Ox_NoRatio, a_NoRatio_init, t_NoRatio_init, Xi_NoRatio, b_NoRatio_init, PySem.W.mg_of X G a_NoRatio⟩
  have V7 : (lay cNoRatio).length = 1 := rfl
  have V8 : FnAt l.prog w K mg base CT lay 1 "common_divisor" ["one", "other"] S_common_divisor := ⟨_, _, G_common_divisor, m_common_divisor, k_common_divisor, b_common_divisor⟩
  have V9 : FldOk K CT lay "top" [(cRatio, 0)] := List.forall_mem_cons.mpr ⟨⟨K_Ratio, nf_Ratio_top, rfl, by show List.Nodup [("top" : Str), ("bottom" : Str)]; decide⟩, (fun _ h => nomatch h)⟩
  have V10 : ∀ p ∈ ([(cRatio, 0)] : List (Nat × Nat)), (lay p.1).length < 1000 := List.forall_mem_cons.mpr ⟨by show [("top" : Str), ("bottom" : Str)].length < 1000; decide, (fun _ h => nomatch h)⟩
  have V11 : FldOk K CT lay "bottom" [(cRatio, 1)] := List.forall_mem_cons.mpr ⟨⟨K_Ratio, nf_Ratio_bottom, rfl, by show List.Nodup [("top" : Str), ("bottom" : Str)]; decide⟩, (fun _ h => nomatch h)⟩
  have V12 : ∀ p ∈ ([(cRatio, 1)] : List (Nat × Nat)), (lay p.1).length < 1000 := List.forall_mem_cons.mpr ⟨by show [("top" : Str), ("bottom" : Str)].length < 1000; decide, (fun _ h => nomatch h)⟩
  have G_Ratio_init := ok_Ratio_init (P := l.prog) (w := w) (mg := mg) (base := base) (CT := CT) (lay := lay) (Fn := FunD.g F_Ratio_init) (hl_Ratio := rfl) (h_is_integer := V5) (x_NoRatio := V6) (n_NoRatio := V7) (h_common_divisor := V8) (flp_top := V9) (sz_top := V10) (flp_bottom := V11) (sz_bottom := V12)
  have G__law_integer := ok__law_integer (P := l.prog) (w := w) (mg := mg) (base := base) (CT := CT) (lay := lay) (Fn := Fun.g F__law_integer) (z_isinstance := V1) (clsX := V2) (z_int := V3) (z_bool := V4)
  have V13 : FnAt l.prog w K mg base CT lay 1 "_law_integer" ["_law_value_here"] S__law_integer := ⟨_, _, G__law_integer, m__law_integer, k__law_integer, b__law_integer⟩
  have G__law_due := ok__law_due (P := l.prog) (w := w) (mg := mg) (base := base) (CT := CT) (lay := lay) (Fn := Fun.g F__law_due) (h__law_integer := V13)
  have G__law_divisor := ok__law_divisor (P := l.prog) (w := w) (mg := mg) (base := base) (CT := CT) (lay := lay) (Fn := Fun.g F__law_divisor) (z_int := V3) (z_abs := V0)
  have V14 : mg "Ratio" = some (.ref (CT cRatio)) := PySem.W.mg_of X G a_Ratio
  have V15 : FldOk K CT lay "top" [(cRatio, 0)] := List.forall_mem_cons.mpr ⟨⟨K_Ratio, nf_Ratio_top, rfl, by show List.Nodup [("top" : Str), ("bottom" : Str)]; decide⟩, (fun _ h => nomatch h)⟩
  have V16 : FldOk K CT lay "bottom" [(cRatio, 1)] := List.forall_mem_cons.mpr ⟨⟨K_Ratio, nf_Ratio_bottom, rfl, by show List.Nodup [("top" : Str), ("bottom" : Str)]; decide⟩, (fun _ h => nomatch h)⟩
  have V17 : FnAt l.prog w K mg base CT lay 1 "_law_divisor" ["_law_one", "_law_other"] S__law_divisor := ⟨_, _, G__law_divisor, m__law_divisor, k__law_divisor, b__law_divisor⟩
  have G__law_is_ratio := ok__law_is_ratio (P := l.prog) (w := w) (mg := mg) (base := base) (CT := CT) (lay := lay) (Fn := Fun.g F__law_is_ratio) (z_isinstance := V1) (clsX := V2) (c_Ratio := V14) (h__law_integer := V13) (fl_top := V15) (fl_bottom := V16) (h__law_divisor := V17)
  have V18 : mg "NoRatio" = some (.ref (CT cNoRatio)) := PySem.W.mg_of X G a_NoRatio
  have V19 : ExmT K CT (.ref (CT cNoRatio)) [(cNoRatio, true)] := List.forall_mem_cons.mpr ⟨exm_of xe_NoRatio xc_NoRatio xt_NoRatio xs_NoRatio_NoRatio, (fun _ h => nomatch h)⟩
  have V20 : MkAt l.prog w K mg base CT lay 3 "Ratio" cRatio ["self", "top", "bottom"] I_Ratio [.int 1] := ⟨_, _, _, _, ⟨mk_Ratio, a_Ratio_init, i_Ratio_init, kc_Ratio⟩, G_Ratio_init, PySem.W.mg_of X G a_Ratio, bm_Ratio_init, dv_Ratio_init, fun _ _ => Reps.cons mkI (Reps.nil)⟩
  have V21 : MkAt l.prog w K mg base CT lay 3 "Ratio" cRatio ["self", "top", "bottom"] I_Ratio [] := ⟨_, _, [], [], ⟨mk_Ratio, a_Ratio_init, i_Ratio_init, kc_Ratio⟩, G_Ratio_init, PySem.W.mg_of X G a_Ratio, b_Ratio_init, .nil, fun _ _ => Reps.nil⟩
  have V22 : XfOk K CT lay "word" [(cNoRatio, 0)] := List.forall_mem_cons.mpr ⟨⟨⟨ga_NoRatio, gg_NoRatio, xe_NoRatio, xh_NoRatio⟩, nf_NoRatio_word, rfl⟩, (fun _ h => nomatch h)⟩
  have V23 : FnAt l.prog w K mg base CT lay 2 "_law_due" ["_law_top", "_law_bottom"] S__law_due := ⟨_, _, G__law_due, m__law_due, k__law_due, b__law_due⟩
  have V24 : FnAt l.prog w K mg base CT lay 2 "_law_is_ratio" ["_law_value_here", "_law_top", "_law_bottom"] S__law_is_ratio := ⟨_, _, G__law_is_ratio, m__law_is_ratio, k__law_is_ratio, b__law_is_ratio⟩
  have G__law_built := ok__law_built (P := l.prog) (w := w) (mg := mg) (base := base) (CT := CT) (lay := lay) (Fn := Fun.g F__law_built) (c_NoRatio := V18) (ct_NoRatio_NoRatio := V19) (k1_Ratio := V20) (k_Ratio := V21) (xf_word_NoRatio := V22) (h__law_due := V23) (h__law_is_ratio := V24)
  have V25 : mg "str" = none := Z_str
  have G_Ratio_text := ok_Ratio_text (P := l.prog) (w := w) (mg := mg) (base := base) (CT := CT) (lay := lay) (Fn := Fun.g F_Ratio_text) (fl_bottom := V16) (fl_top := V15) (z_str := V25)
  have V26 : mg "len" = none := Z_len
  have V27 : ∃ t, mg "MOST_DIGITS" = some (.int 60 t) := ⟨_, PySem.W.mg_of X G gc_MOST_DIGITS⟩
  have V28 : ∃ t, mg "DIGITS" = some (.str "0123456789" t) := ⟨_, PySem.W.mg_of X G gc_DIGITS⟩
  have V29 : mg "all" = none := Z_all
  have G_is_digits := ok_is_digits (P := l.prog) (w := w) (mg := mg) (base := base) (CT := CT) (lay := lay) (Fn := Fun.g F_is_digits) (z_len := V26) (g_MOST_DIGITS := V27) (g_DIGITS := V28) (z_all := V29)
  have V30 : FnAt l.prog w K mg base CT lay 1 "is_digits" ["text"] S_is_digits := ⟨_, _, G_is_digits, m_is_digits, k_is_digits, b_is_digits⟩
  have V31 : ∀ q ∈ ([(cRatio, S_Ratio_text)] : List (Nat × DFn)), MEnt l.prog w K mg base CT lay 1 "text" 0 q := List.forall_mem_cons.mpr ⟨⟨_, _, _, K_Ratio, ⟨a_Ratio_text, i_Ratio_text, k_Ratio_text⟩, G_Ratio_text, b_Ratio_text, by show ("text" : Str) ∉ (["top", "bottom"] : List Str); decide, rfl⟩, (fun _ h => nomatch h)⟩
  have G_Ratio_read := ok_Ratio_read (P := l.prog) (w := w) (mg := mg) (base := base) (CT := CT) (lay := lay) (Fn := Fun.g F_Ratio_read) (z_isinstance := V1) (clsX := V2) (z_str := V25) (x_NoRatio := V6) (n_NoRatio := V7) (h_is_digits := V30) (z_int := V3) (k_Ratio := V21) (me_text := V31)
  have G__law_digits := ok__law_digits (P := l.prog) (w := w) (mg := mg) (base := base) (CT := CT) (lay := lay) (Fn := Fun.g F__law_digits) (z_len := V26) (z_int := V3)
  have V32 : FnAt l.prog w K mg base CT lay 1 "_law_digits" ["_law_text_here"] S__law_digits := ⟨_, _, G__law_digits, m__law_digits, k__law_digits, b__law_digits⟩
  have G__law_fraction := ok__law_fraction (P := l.prog) (w := w) (mg := mg) (base := base) (CT := CT) (lay := lay) (Fn := Fun.g F__law_fraction) (h__law_digits := V32) (z_len := V26) (h__law_divisor := V17)
  have V33 : mg "PartError" = some (.ref (CT cPartError)) := PySem.W.mg_of X G a_PartError
  have V34 : ExmT K CT (.ref (CT cPartError)) [(cNoRatio, true)] := List.forall_mem_cons.mpr ⟨exm_of xe_PartError xc_PartError xt_PartError xs_NoRatio_PartError, (fun _ h => nomatch h)⟩
  have V35 : SmAt l.prog w K mg base CT lay 5 "Ratio" cRatio "read" ["text"] S_Ratio_read := ⟨_, _, _, _, ⟨sTy_Ratio, sRd_Ratio_read, sGa_Ratio_read, sAt_Ratio_read, ⟨_, sRc_Ratio_read⟩, sHd_Ratio_read, k_Ratio_read⟩, G_Ratio_read, b_Ratio_read, PySem.W.mg_of X G a_Ratio⟩
  have V36 : IsxT K CT (.ref (CT cNoRatio)) [(cNoRatio, true)] := List.forall_mem_cons.mpr ⟨⟨⟨ga_NoRatio, gg_NoRatio, xe_NoRatio, xh_NoRatio, cA_NoRatio, clN, clK, no_NoRatio⟩, kit_same⟩, (fun _ h => nomatch h)⟩
  have V37 : mg "ValueError" = none := Z_ValueError
  have V38 : IsxT K CT (.type "ValueError") [(cNoRatio, true)] := List.forall_mem_cons.mpr ⟨⟨⟨ga_NoRatio, gg_NoRatio, xe_NoRatio, xh_NoRatio, cA_NoRatio, clN, clK, no_NoRatio⟩, kit_bt rfl xb_NoRatio_ValueError⟩, (fun _ h => nomatch h)⟩
  have V39 : FnAt l.prog w K mg base CT lay 2 "_law_fraction" ["_law_text_here"] S__law_fraction := ⟨_, _, G__law_fraction, m__law_fraction, k__law_fraction, b__law_fraction⟩
  have G__law_read := ok__law_read (P := l.prog) (w := w) (mg := mg) (base := base) (CT := CT) (lay := lay) (Fn := Fun.g F__law_read) (c_PartError := V33) (ct_PartError_NoRatio := V34) (sm_Ratio_read := V35) (z_isinstance := V1) (c_NoRatio := V18) (ix_NoRatio_NoRatio := V36) (z_ValueError := V37) (ix_ValueError_NoRatio := V38) (xf_word_NoRatio := V22) (clsX := V2) (z_str := V25) (h__law_fraction := V39) (h__law_is_ratio := V24)
  have V40 : FnAt l.prog w K mg base CT lay 1 "_law_draw" ["_law_state", "_law_many"] oDraw := ⟨_, _, draw_of (ok_ldraw F__law_draw B), m__law_draw, k__law_draw, b__law_draw⟩
  have V41 : mg "range" = none := Z_range
  have G__law_far := ok__law_far (P := l.prog) (w := w) (mg := mg) (base := base) (CT := CT) (lay := lay) (Fn := Fun.g F__law_far) (h__law_draw := V40) (z_range := V41) (z_int := V3)
  have V42 : FnAt l.prog w K mg base CT lay 2 "_law_far" ["_law_state", "_law_bound"] S__law_far := ⟨_, _, G__law_far, m__law_far, k__law_far, b__law_far⟩
  have G__law_text := ok__law_text (P := l.prog) (w := w) (mg := mg) (base := base) (CT := CT) (lay := lay) (Fn := Fun.g F__law_text) (h__law_draw := V40) (h__law_far := V42) (z_str := V25) (z_abs := V0) (z_len := V26)
  have G__law_value := ok__law_value (P := l.prog) (w := w) (mg := mg) (base := base) (CT := CT) (lay := lay) (Fn := Fun.g F__law_value) (h__law_draw := V40) (k_Ratio := V21) (h__law_far := V42)
  have V43 : FnAt l.prog w K mg base CT lay 5 "_law_value" ["_law_state"] S__law_value := ⟨_, _, G__law_value, m__law_value, k__law_value, b__law_value⟩
  have V44 : FnAt l.prog w K mg base CT lay 5 "_law_built" ["_law_top", "_law_bottom", "_law_alone"] S__law_built := ⟨_, _, G__law_built, m__law_built, k__law_built, b__law_built⟩
  have V45 : FnAt l.prog w K mg base CT lay 3 "_law_text" ["_law_state"] S__law_text := ⟨_, _, G__law_text, m__law_text, k__law_text, b__law_text⟩
  have V46 : FnAt l.prog w K mg base CT lay 6 "_law_read" ["_law_text_here"] S__law_read := ⟨_, _, G__law_read, m__law_read, k__law_read, b__law_read⟩
  exact ok_law (Fun.g F_law) (h__law_value := V43) (h__law_built := V44) (h__law_draw := V40) (h__law_text := V45) (h__law_read := V46) (k1_Ratio := V20) (FS := FnOk.cx (ok_lstart F__law_start B)) (mS := m__law_start) (kpS := k__law_start) (bS := b__law_start)
end Pu
open PySem PySem.W PyProof.Rows
set_option maxRecDepth 100000 in
set_option maxHeartbeats 0 in
theorem PySem.Challenge.cw_partstell_k05_ratio_refused_holds : PySem.Challenge.rw_partstell_k05_ratio_refused.Holds := by
  w_on; o_law; k_head; (case hw => w_witness2)
  k_fill
  refine L2.walk_of (l := PySem.Challenge.rw_partstell_k05_ratio_refused) (n := 63) (k := 7) (x := "_law_script") (CX := fun w => L2.CX PySem.Challenge.rw_partstell_k05_ratio_refused.prog w) (sp := fun w => Pu.spLaw _) rfl (by decide) rfl ⟨rfl, by decide, by decide⟩ (fun w h Y => PySem.W.kIn_of Y) ?F (fun _ _ a ns hl _ hS => ⟨a, ns, rfl, hS, hl, fun _ => rfl⟩) (fun _ _ _ _ _ ⟨_, _, _, _, _, _, _, _, _, _, _, _, z⟩ => z)
  case F =>
    intro w mg fa h KX G hmg
    refine' Pu.all_mk KX G hmg ?a_Ratio ?pg_Ratio ?hd_Ratio ?po_Ratio ?sa_Ratio ?nf_Ratio_bottom ?nf_Ratio_top ?cA_Ratio ?cd_e_Ratio ?cd_m_Ratio ?ty_Ratio ?clN ?clK ?clD ?a_PartError ?xe_PartError ?xt_PartError ?xk_PartError ?a_NoRatio ?xl_NoRatio ?xsa_NoRatio ?xe_NoRatio ?xt_NoRatio ?xk_NoRatio ?a__law_start ?l__law_start ?c__law_start ?k__law_start ?a__law_draw ?l__law_draw ?c__law_draw ?k__law_draw ?a_common_divisor ?l_common_divisor ?c_common_divisor ?k_common_divisor ?a_is_integer ?l_is_integer ?c_is_integer ?k_is_integer ?a_Ratio_init ?i_Ratio_init ?mk_Ratio ?kc_Ratio ?l_Ratio_init ?lTD_Ratio_init ?c_Ratio_init ?k_Ratio_init ?a__law_integer ?l__law_integer ?c__law_integer ?k__law_integer ?a__law_due ?l__law_due ?c__law_due ?k__law_due ?a__law_divisor ?l__law_divisor ?c__law_divisor ?k__law_divisor ?a__law_is_ratio ?l__law_is_ratio ?c__law_is_ratio ?k__law_is_ratio ?a__law_built ?l__law_built ?c__law_built ?k__law_built ?a_Ratio_text ?i_Ratio_text ?l_Ratio_text ?c_Ratio_text ?k_Ratio_text ?a_is_digits ?l_is_digits ?c_is_digits ?k_is_digits ?sTy_Ratio ?sRd_Ratio_read ?sGa_Ratio_read ?sAt_Ratio_read ?sRc_Ratio_read ?sHd_Ratio_read ?l_Ratio_read ?c_Ratio_read ?k_Ratio_read ?a__law_digits ?l__law_digits ?c__law_digits ?k__law_digits ?a__law_fraction ?l__law_fraction ?c__law_fraction ?k__law_fraction ?a__law_read ?l__law_read ?c__law_read ?k__law_read ?a__law_far ?l__law_far ?c__law_far ?k__law_far ?a__law_text ?l__law_text ?c__law_text ?k__law_text ?a__law_value ?l__law_value ?c__law_value ?k__law_value ?a_law ?l_law ?c_law ?k_law ?a_NoRatio_init ?t_NoRatio_init ?l_NoRatio_init ?c_NoRatio_init ?k_NoRatio_init ?nf_NoRatio_word ?xc_NoRatio ?xs_NoRatio_NoRatio ?ga_NoRatio ?gg_NoRatio ?xh_NoRatio ?gc_MOST_DIGITS ?gc_DIGITS ?xc_PartError ?xs_NoRatio_PartError ?cA_NoRatio ?no_NoRatio ?xb_NoRatio_ValueError ?z_ValueError ?z_abs ?z_all ?z_bool ?z_int ?z_isinstance ?z_len ?z_range ?z_str
    (case a_Ratio => k_is)
    (case pg_Ratio => k_is)
    (case hd_Ratio => k_is)
    (case po_Ratio => k_is)
    (case sa_Ratio => k_is)
    (case nf_Ratio_bottom => k_is)
    (case nf_Ratio_top => k_is)
    (case cA_Ratio => k_is)
    (case cd_e_Ratio => k_is)
    (case cd_m_Ratio => exact rfl)
    (case ty_Ratio => k_is)
    (case clN => k_is)
    (case clK => k_is)
    (case clD => decide +kernel)
    (case a_PartError => k_is)
    (case xe_PartError => k_is)
    (case xt_PartError => k_is)
    (case xk_PartError => k_is)
    (case a_NoRatio => k_is)
    (case xl_NoRatio => k_is)
    (case xsa_NoRatio => k_is)
    (case xe_NoRatio => k_is)
    (case xt_NoRatio => k_is)
    (case xk_NoRatio => k_is)
    (case a__law_start => k_is)
    (case l__law_start => k_is)
    (case c__law_start => k_is)
    (case k__law_start => k_is)
    (case a__law_draw => k_is)
    (case l__law_draw => k_is)
    (case c__law_draw => k_is)
    (case k__law_draw => k_is)
    (case a_common_divisor => k_is)
    (case l_common_divisor => k_is)
    (case c_common_divisor => k_is)
    (case k_common_divisor => k_is)
    (case a_is_integer => k_is)
    (case l_is_integer => k_is)
    (case c_is_integer => k_is)
    (case k_is_integer => k_is)
    (case a_Ratio_init => k_is)
    (case i_Ratio_init => k_is)
    (case mk_Ratio => k_is)
    (case kc_Ratio => k_is)
    (case l_Ratio_init => k_is)
    (case lTD_Ratio_init => k_is)
    (case c_Ratio_init => k_is)
    (case k_Ratio_init => k_is)
    (case a__law_integer => k_is)
    (case l__law_integer => k_is)
    (case c__law_integer => k_is)
    (case k__law_integer => k_is)
    (case a__law_due => k_is)
    (case l__law_due => k_is)
    (case c__law_due => k_is)
    (case k__law_due => k_is)
    (case a__law_divisor => k_is)
    (case l__law_divisor => k_is)
    (case c__law_divisor => k_is)
    (case k__law_divisor => k_is)
    (case a__law_is_ratio => k_is)
    (case l__law_is_ratio => k_is)
    (case c__law_is_ratio => k_is)
    (case k__law_is_ratio => k_is)
    (case a__law_built => k_is)
    (case l__law_built => k_is)
    (case c__law_built => k_is)
    (case k__law_built => k_is)
    (case a_Ratio_text => k_is)
    (case i_Ratio_text => k_is)
    (case l_Ratio_text => k_is)
    (case c_Ratio_text => k_is)
    (case k_Ratio_text => k_is)
    (case a_is_digits => k_is)
    (case l_is_digits => k_is)
    (case c_is_digits => k_is)
    (case k_is_digits => k_is)
    (case sTy_Ratio => k_is)
    (case sRd_Ratio_read => k_is)
    (case sGa_Ratio_read => k_is)
    (case sAt_Ratio_read => k_is)
    (case sRc_Ratio_read => k_is)
    (case sHd_Ratio_read => first | rfl | k_is)
    (case l_Ratio_read => k_is)
    (case c_Ratio_read => k_is)
    (case k_Ratio_read => k_is)
    (case a__law_digits => k_is)
    (case l__law_digits => k_is)
    (case c__law_digits => k_is)
    (case k__law_digits => k_is)
    (case a__law_fraction => k_is)
    (case l__law_fraction => k_is)
    (case c__law_fraction => k_is)
    (case k__law_fraction => k_is)
    (case a__law_read => k_is)
    (case l__law_read => k_is)
    (case c__law_read => k_is)
    (case k__law_read => k_is)
    (case a__law_far => k_is)
    (case l__law_far => k_is)
    (case c__law_far => k_is)
    (case k__law_far => k_is)
    (case a__law_text => k_is)
    (case l__law_text => k_is)
    (case c__law_text => k_is)
    (case k__law_text => k_is)
    (case a__law_value => k_is)
    (case l__law_value => k_is)
    (case c__law_value => k_is)
    (case k__law_value => k_is)
    (case a_law => k_is)
    (case l_law => k_is)
    (case c_law => k_is)
    (case k_law => k_is)
    (case a_NoRatio_init => k_is)
    (case t_NoRatio_init => k_is)
    (case l_NoRatio_init => k_is)
    (case c_NoRatio_init => k_is)
    (case k_NoRatio_init => k_is)
    (case nf_NoRatio_word => k_is)
    (case xc_NoRatio => k_is)
    (case xs_NoRatio_NoRatio => first | rfl | k_is)
    (case ga_NoRatio => k_is)
    (case gg_NoRatio => k_is)
    (case xh_NoRatio => k_is)
    (case gc_MOST_DIGITS => k_is)
    (case gc_DIGITS => k_is)
    (case xc_PartError => k_is)
    (case xs_NoRatio_PartError => first | rfl | k_is)
    (case cA_NoRatio => k_is)
    (case no_NoRatio => k_is)
    (case xb_NoRatio_ValueError => first | rfl | k_is)
    (case z_ValueError => k_is)
    (case z_abs => k_is)
    (case z_all => k_is)
    (case z_bool => k_is)
    (case z_int => k_is)
    (case z_isinstance => k_is)
    (case z_len => k_is)
    (case z_range => k_is)
    (case z_str => k_is)
#print axioms PySem.Challenge.cw_partstell_k05_ratio_refused_holds
