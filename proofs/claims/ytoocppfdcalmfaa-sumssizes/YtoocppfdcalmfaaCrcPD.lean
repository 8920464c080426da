/-
  What the program's own Sum and Named, and the law's own Of and awake, return (layer 4). Conditions: the numbers are of their kinds; the bytes lie in memory that was there before.
-/
import Derived.Lib.SlBytesConst
import Derived.Test.YtoocppfdcalmfaaCrcPC8
import Derived.Test.YtoocppfdcalmfaaCrcPC16
import Derived.Test.YtoocppfdcalmfaaCrcPC32
namespace Go.Proofs.Ytoocppfdcalmfaa
open Go.RowKit
set_option linter.unusedVariables false

set_option maxRecDepth 100000 in
set_option maxHeartbeats 2000000 in
theorem sum8_no_p (p f : Nat) (t : Bool) (z : Nat) (b : Value) (w : World) (hp : 256 ≤ p) (hp2 : p < 4294967296) :
    Calls Try.prog 30 #[kv 8 p f t z, b] w fun e w' => e = .returned (.tuple #[.int .u32 0, .int .i64 1]) ∧ Below w.heap.size w w' := by
  have B : Hid (Below w.heap.size w (w.alloc (.cells #[.int .i64 8, .int .u32 (p : Int), .int .u32 (f : Int), .bool t, .int .u32 (z : Int)] 56))) := (Below.refl _ _).alloc (Nat.le_refl _) _
  go_enter Try.func30, Try.ntmps30
  go_wp2_with fail
  refine (fits8_no p _ hp hp2).mono ?_
  rintro e w' ⟨rfl, rfl⟩
  go_wp2
  go_ret2
  exact ⟨rfl, B.out⟩

set_option maxRecDepth 100000 in
set_option maxHeartbeats 2000000 in
theorem sum8_no_f (p f : Nat) (t : Bool) (z : Nat) (b : Value) (w : World) (hp : p < 256) (hf : 256 ≤ f) (hf2 : f < 4294967296) :
    Calls Try.prog 30 #[kv 8 p f t z, b] w fun e w' => e = .returned (.tuple #[.int .u32 0, .int .i64 1]) ∧ Below w.heap.size w w' := by
  have B : Hid (Below w.heap.size w (w.alloc (.cells #[.int .i64 8, .int .u32 (p : Int), .int .u32 (f : Int), .bool t, .int .u32 (z : Int)] 56))) := (Below.refl _ _).alloc (Nat.le_refl _) _
  go_enter Try.func30, Try.ntmps30
  go_wp2_with fail
  refine (fits8_yes p _ hp).mono ?_
  rintro e w' ⟨rfl, rfl⟩
  go_wp2_with fail
  refine (fits8_no f _ hf hf2).mono ?_
  rintro e w' ⟨rfl, rfl⟩
  go_wp2
  go_ret2
  exact ⟨rfl, B.out⟩

set_option maxRecDepth 100000 in
set_option maxHeartbeats 2000000 in
theorem sum8_no_z (p f : Nat) (t : Bool) (z : Nat) (b : Value) (w : World) (hp : p < 256) (hf : f < 256) (hz : 256 ≤ z) (hz2 : z < 4294967296) :
    Calls Try.prog 30 #[kv 8 p f t z, b] w fun e w' => e = .returned (.tuple #[.int .u32 0, .int .i64 1]) ∧ Below w.heap.size w w' := by
  have B : Hid (Below w.heap.size w (w.alloc (.cells #[.int .i64 8, .int .u32 (p : Int), .int .u32 (f : Int), .bool t, .int .u32 (z : Int)] 56))) := (Below.refl _ _).alloc (Nat.le_refl _) _
  go_enter Try.func30, Try.ntmps30
  go_wp2_with fail
  refine (fits8_yes p _ hp).mono ?_
  rintro e w' ⟨rfl, rfl⟩
  go_wp2_with fail
  refine (fits8_yes f _ hf).mono ?_
  rintro e w' ⟨rfl, rfl⟩
  go_wp2_with fail
  refine (fits8_no z _ hz hz2).mono ?_
  rintro e w' ⟨rfl, rfl⟩
  go_wp2
  go_ret2
  exact ⟨rfl, B.out⟩

set_option maxRecDepth 100000 in
set_option maxHeartbeats 2000000 in
theorem sum16_no_p (p f : Nat) (t : Bool) (z : Nat) (b : Value) (w : World) (hp : 65536 ≤ p) (hp2 : p < 4294967296) :
    Calls Try.prog 31 #[kv 16 p f t z, b] w fun e w' => e = .returned (.tuple #[.int .u32 0, .int .i64 1]) ∧ Below w.heap.size w w' := by
  have B : Hid (Below w.heap.size w (w.alloc (.cells #[.int .i64 16, .int .u32 (p : Int), .int .u32 (f : Int), .bool t, .int .u32 (z : Int)] 56))) := (Below.refl _ _).alloc (Nat.le_refl _) _
  go_enter Try.func31, Try.ntmps31
  go_wp2_with fail
  refine (fits16_no p _ hp hp2).mono ?_
  rintro e w' ⟨rfl, rfl⟩
  go_wp2
  go_ret2
  exact ⟨rfl, B.out⟩

set_option maxRecDepth 100000 in
set_option maxHeartbeats 2000000 in
theorem sum16_no_f (p f : Nat) (t : Bool) (z : Nat) (b : Value) (w : World) (hp : p < 65536) (hf : 65536 ≤ f) (hf2 : f < 4294967296) :
    Calls Try.prog 31 #[kv 16 p f t z, b] w fun e w' => e = .returned (.tuple #[.int .u32 0, .int .i64 1]) ∧ Below w.heap.size w w' := by
  have B : Hid (Below w.heap.size w (w.alloc (.cells #[.int .i64 16, .int .u32 (p : Int), .int .u32 (f : Int), .bool t, .int .u32 (z : Int)] 56))) := (Below.refl _ _).alloc (Nat.le_refl _) _
  go_enter Try.func31, Try.ntmps31
  go_wp2_with fail
  refine (fits16_yes p _ hp).mono ?_
  rintro e w' ⟨rfl, rfl⟩
  go_wp2_with fail
  refine (fits16_no f _ hf hf2).mono ?_
  rintro e w' ⟨rfl, rfl⟩
  go_wp2
  go_ret2
  exact ⟨rfl, B.out⟩

set_option maxRecDepth 100000 in
set_option maxHeartbeats 2000000 in
theorem sum16_no_z (p f : Nat) (t : Bool) (z : Nat) (b : Value) (w : World) (hp : p < 65536) (hf : f < 65536) (hz : 65536 ≤ z) (hz2 : z < 4294967296) :
    Calls Try.prog 31 #[kv 16 p f t z, b] w fun e w' => e = .returned (.tuple #[.int .u32 0, .int .i64 1]) ∧ Below w.heap.size w w' := by
  have B : Hid (Below w.heap.size w (w.alloc (.cells #[.int .i64 16, .int .u32 (p : Int), .int .u32 (f : Int), .bool t, .int .u32 (z : Int)] 56))) := (Below.refl _ _).alloc (Nat.le_refl _) _
  go_enter Try.func31, Try.ntmps31
  go_wp2_with fail
  refine (fits16_yes p _ hp).mono ?_
  rintro e w' ⟨rfl, rfl⟩
  go_wp2_with fail
  refine (fits16_yes f _ hf).mono ?_
  rintro e w' ⟨rfl, rfl⟩
  go_wp2_with fail
  refine (fits16_no z _ hz hz2).mono ?_
  rintro e w' ⟨rfl, rfl⟩
  go_wp2
  go_ret2
  exact ⟨rfl, B.out⟩

/-- what Sum answers -/
def sumV (W : Int) (p f : Nat) (t : Bool) (z : Nat) (bs : List Nat) : Nat := if kindB W p f z = true then sumL W.toNat p f t z bs else 0
def sumE (W : Int) (p f z : Nat) : Int := if kindB W p f z = true then 0 else 1

end Go.Proofs.Ytoocppfdcalmfaa
