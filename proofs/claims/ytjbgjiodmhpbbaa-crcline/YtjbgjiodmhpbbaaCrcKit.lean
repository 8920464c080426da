/-
  What the walks of layer 4's laws carry: a kind that lies in a block of its own, contracts over every later world. No conditions but those that each says.
-/
import Derived.Test.YtjbgjiodmhpbbaaCrcAwake
namespace Go.Proofs.Ytjbgjiodmhpbbaa
open Go.RowKit
set_option linter.unusedVariables false

/-- a kind that lies in block g -/
def KBx (x : World) (g : Nat) (ty : TypeId) (W : Int) (p f : Nat) (t : Bool) (z : Nat) : Prop :=
  x.heap[g]? = some (.cells #[.int .i64 W, .int .u32 (p : Int), .int .u32 (f : Int), .bool t, .int .u32 (z : Int)] ty (0, 0))
theorem KBx.new (w : World) (ty : TypeId) (W : Int) (p f : Nat) (t : Bool) (z : Nat) : KBx (w.alloc (.cells #[.int .i64 W, .int .u32 (p : Int), .int .u32 (f : Int), .bool t, .int .u32 (z : Int)] ty)) w.heap.size ty W p f t z := World.alloc_heap_new w _
theorem KBx.lt {x : World} {g : Nat} {ty : TypeId} {W : Int} {p f : Nat} {t : Bool} {z : Nat} (h : KBx x g ty W p f t z) : g < x.heap.size := (Array.getElem?_eq_some_iff.1 h).1
theorem KBx.below {x y : World} {g : Nat} {ty : TypeId} {W : Int} {p f : Nat} {t : Bool} {z : Nat} (h : KBx x g ty W p f t z) (hb : Below x.heap.size x y) : KBx y g ty W p f t z := (hb.block g h.lt).trans h
theorem KBx.cells {x : World} {g : Nat} {ty : TypeId} {W : Int} {p f : Nat} {t : Bool} {z : Nat} (h : KBx x g ty W p f t z) :
    x.cell? ⟨g, 0, none⟩ = some (.int .i64 W) ∧ x.cell? ⟨g, 1, none⟩ = some (.int .u32 (p : Int)) ∧ x.cell? ⟨g, 2, none⟩ = some (.int .u32 (f : Int)) ∧ x.cell? ⟨g, 3, none⟩ = some (.bool t) ∧ x.cell? ⟨g, 4, none⟩ = some (.int .u32 (z : Int)) := by
  simp [World.cell?, show x.heap[g]? = _ from h]

/-- contracts, over every world behind w -/
def SumAt (w : World) (W : Int) (p f : Nat) (t : Bool) (z : Nat) (v : Value) (V : Nat) (E : Int) : Prop :=
  ∀ x, Below w.heap.size w x → Calls Try.prog 9 #[kv W p f t z, v] x fun e w' => e = .returned (.tuple #[.int .u32 (V : Int), .int .i64 E]) ∧ Below x.heap.size x w'
def OfC (W : Int) (p f : Nat) (t : Bool) (z : Nat) : Prop := ∀ x, Calls Try.prog 10 #[kv W p f t z] x fun e w' => e = .returned (kv W p f t z) ∧ Below x.heap.size x w'
theorem ofC (W : Int) (p f : Nat) (t : Bool) (z : Nat) : OfC W p f t z := fun x => of_any W p f t z x
def AwC : Prop := ∀ x, Calls Try.prog 8 #[] x fun e w' => e = .returned (.bool true) ∧ Below x.heap.size x w'
theorem awC : AwC := awake_any
theorem sumAt {w : World} {W : Int} {p f : Nat} {t : Bool} {z : Nat} {v : Value} {bs : List Nat} (hp : p < 4294967296) (hf : f < 4294967296) (hz : z < 4294967296) (hv : BytesV w v bs) (hb : AllBytes bs) : SumAt w W p f t z v (sumV W p f t z bs) (sumE W p f z) :=
  fun x hx => sum_any W p f t z v bs x hp hf hz hb hv.len (hv.at.below hx)
theorem sumE_yes {W : Int} {p f z : Nat} (h : kindB W p f z = true) : sumE W p f z = 0 := by unfold sumE; rw [if_pos h]
theorem sumE_no {W : Int} {p f z : Nat} (h : kindB W p f z = false) : sumE W p f z = 1 := by unfold sumE; rw [h]; rfl
theorem sumV_yes {W : Int} {p f : Nat} {t : Bool} {z : Nat} {bs : List Nat} (h : kindB W p f z = true) : sumV W p f t z bs = sumL W.toNat p f t z bs := by unfold sumV; rw [if_pos h]
theorem sumV_no {W : Int} {p f : Nat} {t : Bool} {z : Nat} {bs : List Nat} (h : kindB W p f z = false) : sumV W p f t z bs = 0 := by unfold sumV; rw [h]; rfl
theorem kind_width {W : Int} {p f z : Nat} (h : kindB W p f z = true) : W = 8 ∨ W = 16 ∨ W = 32 := by
  unfold kindB at h
  simp only [Bool.and_eq_true, decide_eq_true_eq] at h
  exact h.1
/-- the same of the document's -/
def RSumAt (w : World) (W : Int) (p f : Nat) (t : Bool) (z : Nat) (v : Value) (V : Nat) : Prop :=
  ∀ x, Below w.heap.size w x → Calls Try.prog 12 #[kv W p f t z, v] x fun e w' => e = .returned (.int .u32 (V : Int)) ∧ Below x.heap.size x w'
theorem rsumAt {w : World} {W : Int} {p f : Nat} {t : Bool} {z : Nat} {v : Value} {bs : List Nat} (hp : p < 4294967296) (hf : f < 4294967296) (hz : z < 4294967296) (hv : BytesV w v bs) (hb : AllBytes bs) (hk : kindB W p f z = true) : RSumAt w W p f t z v (sumV W p f t z bs) := by
  intro x hx
  have hw := kind_width hk
  have e : ((W.toNat : Nat) : Int) = W := by omega
  have k := rsum_any W.toNat p f t z v bs x (by omega) hp hf hz hb hv.len (hv.at.below hx)
  rw [e, ← sumV_yes hk] at k
  exact k
def RightC (W : Int) (p f : Nat) (t : Bool) (z : Nat) (r : Bool) : Prop := ∀ x, Calls Try.prog 11 #[kv W p f t z] x fun e w' => e = .returned (.bool r) ∧ Below x.heap.size x w'
theorem rightC {W : Int} {p f : Nat} {t : Bool} {z : Nat} (hW : -9223372036854775808 ≤ W ∧ W ≤ 9223372036854775807) (hp : p < 4294967296) (hf : f < 4294967296) (hz : z < 4294967296) : RightC W p f t z (kindB W p f z) := fun x => rkind_any W p f t z x hW hp hf hz
end Go.Proofs.Ytjbgjiodmhpbbaa
