/-
  What Sum answers, over every world behind a given one, of the program and of the document (layer 4). No conditions but those that each says.
-/
import Derived.Test.YtoocppfdcalmfaaCrcPE
namespace Go.Proofs.Ytoocppfdcalmfaa
open Go.RowKit
set_option linter.unusedVariables false

/-- contracts, over every world behind w -/
def SumAt (w : World) (W : Int) (p f : Nat) (t : Bool) (z : Nat) (v : Value) (V : Nat) (E : Int) : Prop :=
  ∀ x, Below w.heap.size w x → Calls Try.prog 29 #[kv W p f t z, v] x fun e w' => e = .returned (.tuple #[.int .u32 (V : Int), .int .i64 E]) ∧ Below x.heap.size x w'
theorem sumAt {w : World} {W : Int} {p f : Nat} {t : Bool} {z : Nat} {v : Value} {bs : List Nat} (hp : p < 4294967296) (hf : f < 4294967296) (hz : z < 4294967296) (hv : BytesV w v bs) (hb : AllBytes bs) : SumAt w W p f t z v (sumV W p f t z bs) (sumE W p f z) :=
  fun x hx => sum_any W p f t z v bs x hp hf hz hb hv.len (hv.at.below hx)
theorem sumE_yes {W : Int} {p f z : Nat} (h : kindB W p f z = true) : sumE W p f z = 0 := by unfold sumE; rw [if_pos h]
theorem sumE_no {W : Int} {p f z : Nat} (h : kindB W p f z = false) : sumE W p f z = 1 := by unfold sumE; rw [h]; rfl
theorem sumV_yes {W : Int} {p f : Nat} {t : Bool} {z : Nat} {bs : List Nat} (h : kindB W p f z = true) : sumV W p f t z bs = sumL W.toNat p f t z bs := by unfold sumV; rw [if_pos h]
theorem sumV_no {W : Int} {p f : Nat} {t : Bool} {z : Nat} {bs : List Nat} (h : kindB W p f z = false) : sumV W p f t z bs = 0 := by unfold sumV; rw [h]; rfl
theorem kind_width {W : Int} {p f z : Nat} (h : kindB W p f z = true) : W = 8 ∨ W = 16 ∨ W = 32 := by
  unfold kindB at h
  simp only [Bool.and_eq_true, decide_eq_true_eq] at h
  exact h.1
/-- the same of the document's -/
def RSumAt (w : World) (W : Int) (p f : Nat) (t : Bool) (z : Nat) (v : Value) (V : Nat) : Prop :=
  ∀ x, Below w.heap.size w x → Calls Try.prog 16 #[kv W p f t z, v] x fun e w' => e = .returned (.int .u32 (V : Int)) ∧ Below x.heap.size x w'
theorem rsumAt {w : World} {W : Int} {p f : Nat} {t : Bool} {z : Nat} {v : Value} {bs : List Nat} (hp : p < 4294967296) (hf : f < 4294967296) (hz : z < 4294967296) (hv : BytesV w v bs) (hb : AllBytes bs) (hk : kindB W p f z = true) : RSumAt w W p f t z v (sumV W p f t z bs) := by
  intro x hx
  have hw := kind_width hk
  have e : ((W.toNat : Nat) : Int) = W := by omega
  have k := rsum_any W.toNat p f t z v bs x (by omega) hp hf hz hb hv.len (hv.at.below hx)
  rw [e, ← sumV_yes hk] at k
  exact k
end Go.Proofs.Ytoocppfdcalmfaa
