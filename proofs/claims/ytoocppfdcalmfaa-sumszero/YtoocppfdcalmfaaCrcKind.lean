/-
  A kind of sum as a value, and when it may be; what Turn answers (layer 4). No conditions.
-/
import Derived.Test.YtoocppfdcalmfaaCrcRefA
namespace Go.Proofs.Ytoocppfdcalmfaa
open Go.RowKit
set_option linter.unusedVariables false

theorem belowT {a b c : World} (h : Below a.heap.size a b) (k : Below b.heap.size b c) : Below a.heap.size a c := h.trans (k.mono h.size)

/-- what Turn answers -/
def turnV (v : Nat) (n : Int) : Nat := if 1 ≤ n ∧ n ≤ 32 then turnL v n.toNat else 0

theorem ret_bl {a b : Bool} (h : b = a) : Ending.returned (.bool a) = .returned (.bool b) := by rw [h]
/-- a kind's value -/
abbrev kv (W : Int) (p f : Nat) (t : Bool) (z : Nat) : Value := .agg #[.int .i64 W, .int .u32 (p : Int), .int .u32 (f : Int), .bool t, .int .u32 (z : Int)]
/-- may a kind be? -/
def kindB (W : Int) (p f z : Nat) : Bool := decide (W = 8 ∨ W = 16 ∨ W = 32) && (decide (p < 2 ^ W.toNat) && (decide (f < 2 ^ W.toNat) && decide (z < 2 ^ W.toNat)))

end Go.Proofs.Ytoocppfdcalmfaa
