/-
  What the program's own base, count and digit return (layer 6), called with the kinds that there are. Conditions: as each says.
-/
import Derived.RangeFuncNested
import Derived.RangeFuncBound
import Derived.RangeFuncCalls
import Derived.RangeFuncLeaves
import Derived.Shelf.Abstract
import Derived.Shelf.RegionOpen
import Derived.WalkKit
import Derived.OwnWalkIn
import Derived.TacticsInMore
import Derived.LoopNIn
import Derived.LoopIn
import Derived.LoopN
import Derived.Test.YtiimmebcmehnhaaDoorBitMath
namespace Go.Proofs.YtiimmebcmehnhaaDoor
open Go.RowKit Go.Shelf
set_option linter.unusedVariables false

/-- what one byte counts, and whether it does -/
def cntV (k c : Nat) : Int := if k = 4 then ((c / 16 * 10 + c % 16 : Nat) : Int) else if k = 5 then (c : Int) - 48 else (c : Int)
def cntB (k c : Nat) : Bool := if k = 4 then decide (c / 16 ≤ 9 ∧ c % 16 ≤ 9) else if k = 5 then decide (48 ≤ c ∧ c ≤ 57) else true
/-- the byte that counts d -/
def digV (k d : Nat) : Nat := if k = 4 then d / 10 * 16 + d % 10 else d
theorem ret_ib {a b : Int} {p q : Bool} (h : a = b) (k : p = q) : Ending.returned (.tuple #[.int .i64 a, .bool p]) = .returned (.tuple #[.int .i64 b, .bool q]) := by rw [h, k]
theorem or_all : ∀ d : Fin 100, bits BinOp.or IntKind.i64 ((d.1 : Int) / 10 * 16) ((d.1 : Int) % 10) % 256 = ((digV 4 d.1 : Nat) : Int) := by decide +kernel
theorem or_bcd (d : Nat) (h : d < 100) : bits BinOp.or IntKind.i64 ((d : Int) / 10 * 16) ((d : Int) % 10) % 256 = ((digV 4 d : Nat) : Int) := or_all ⟨d, h⟩

set_option maxRecDepth 100000 in
set_option maxHeartbeats 4000000 in
theorem base_be (F : Fence) (n : Nat) (hf : F.fn 18) (hro : F.round = none) (w : World) : CallsIn F n Tryd.prog 18 #[.string kBe] w fun e w' => e = .returned (.int .i64 256) ∧ w' = w := by
  refine callsIn_of_wp Tryd.func18 rfl hf ?_ hro
  simp only [Tryd.ntmps18, List.size_toArray, List.length_cons, List.length_nil, Nat.reduceAdd, Nat.reduceSub, Array.replicate_succ, Array.replicate_zero, List.push_toArray, List.append_toArray, List.nil_append, List.cons_append]
  gi_wp2
  go_ret
  exact ⟨rfl, rfl⟩

set_option maxRecDepth 100000 in
set_option maxHeartbeats 4000000 in
theorem base_le (F : Fence) (n : Nat) (hf : F.fn 18) (hro : F.round = none) (w : World) : CallsIn F n Tryd.prog 18 #[.string kLe] w fun e w' => e = .returned (.int .i64 256) ∧ w' = w := by
  refine callsIn_of_wp Tryd.func18 rfl hf ?_ hro
  simp only [Tryd.ntmps18, List.size_toArray, List.length_cons, List.length_nil, Nat.reduceAdd, Nat.reduceSub, Array.replicate_succ, Array.replicate_zero, List.push_toArray, List.append_toArray, List.nil_append, List.cons_append]
  gi_wp2
  go_ret
  exact ⟨rfl, rfl⟩

set_option maxRecDepth 100000 in
set_option maxHeartbeats 4000000 in
theorem base_sbe (F : Fence) (n : Nat) (hf : F.fn 18) (hro : F.round = none) (w : World) : CallsIn F n Tryd.prog 18 #[.string kSbe] w fun e w' => e = .returned (.int .i64 256) ∧ w' = w := by
  refine callsIn_of_wp Tryd.func18 rfl hf ?_ hro
  simp only [Tryd.ntmps18, List.size_toArray, List.length_cons, List.length_nil, Nat.reduceAdd, Nat.reduceSub, Array.replicate_succ, Array.replicate_zero, List.push_toArray, List.append_toArray, List.nil_append, List.cons_append]
  gi_wp2
  go_ret
  exact ⟨rfl, rfl⟩

set_option maxRecDepth 100000 in
set_option maxHeartbeats 4000000 in
theorem base_sle (F : Fence) (n : Nat) (hf : F.fn 18) (hro : F.round = none) (w : World) : CallsIn F n Tryd.prog 18 #[.string kSle] w fun e w' => e = .returned (.int .i64 256) ∧ w' = w := by
  refine callsIn_of_wp Tryd.func18 rfl hf ?_ hro
  simp only [Tryd.ntmps18, List.size_toArray, List.length_cons, List.length_nil, Nat.reduceAdd, Nat.reduceSub, Array.replicate_succ, Array.replicate_zero, List.push_toArray, List.append_toArray, List.nil_append, List.cons_append]
  gi_wp2
  go_ret
  exact ⟨rfl, rfl⟩

set_option maxRecDepth 100000 in
set_option maxHeartbeats 4000000 in
theorem base_bcd (F : Fence) (n : Nat) (hf : F.fn 18) (hro : F.round = none) (w : World) : CallsIn F n Tryd.prog 18 #[.string kBcd] w fun e w' => e = .returned (.int .i64 100) ∧ w' = w := by
  refine callsIn_of_wp Tryd.func18 rfl hf ?_ hro
  simp only [Tryd.ntmps18, List.size_toArray, List.length_cons, List.length_nil, Nat.reduceAdd, Nat.reduceSub, Array.replicate_succ, Array.replicate_zero, List.push_toArray, List.append_toArray, List.nil_append, List.cons_append]
  gi_wp2
  go_ret
  exact ⟨rfl, rfl⟩

set_option maxRecDepth 100000 in
set_option maxHeartbeats 4000000 in
theorem base_dec (F : Fence) (n : Nat) (hf : F.fn 18) (hro : F.round = none) (w : World) : CallsIn F n Tryd.prog 18 #[.string kDec] w fun e w' => e = .returned (.int .i64 10) ∧ w' = w := by
  refine callsIn_of_wp Tryd.func18 rfl hf ?_ hro
  simp only [Tryd.ntmps18, List.size_toArray, List.length_cons, List.length_nil, Nat.reduceAdd, Nat.reduceSub, Array.replicate_succ, Array.replicate_zero, List.push_toArray, List.append_toArray, List.nil_append, List.cons_append]
  gi_wp2
  go_ret
  exact ⟨rfl, rfl⟩

set_option maxRecDepth 100000 in
set_option maxHeartbeats 4000000 in
theorem count_be (F : Fence) (n : Nat) (hf : F.fn 24) (hro : F.round = none) (c : Nat) (hc : c < 256) (w : World) : CallsIn F n Tryd.prog 24 #[.string kBe, .int .u8 (c : Int)] w fun e w' => e = .returned (.tuple #[.int .i64 (cntV 0 c), .bool (cntB 0 c)]) ∧ w' = w := by
  refine callsIn_of_wp Tryd.func24 rfl hf ?_ hro
  simp only [Tryd.ntmps24, List.size_toArray, List.length_cons, List.length_nil, Nat.reduceAdd, Nat.reduceSub, Array.replicate_succ, Array.replicate_zero, List.push_toArray, List.append_toArray, List.nil_append, List.cons_append]
  gi_wp2
  all_goals go_ret2
  all_goals first
    | exact ⟨ret_ib rfl rfl, rfl⟩
    | exact ⟨ret_ib (by unfold cntV; simp <;> omega) (by first | exact (decide_eq_false (by omega)).symm | exact decide_eq_decide.2 (by omega)), rfl⟩

set_option maxRecDepth 100000 in
set_option maxHeartbeats 4000000 in
theorem count_le (F : Fence) (n : Nat) (hf : F.fn 24) (hro : F.round = none) (c : Nat) (hc : c < 256) (w : World) : CallsIn F n Tryd.prog 24 #[.string kLe, .int .u8 (c : Int)] w fun e w' => e = .returned (.tuple #[.int .i64 (cntV 1 c), .bool (cntB 1 c)]) ∧ w' = w := by
  refine callsIn_of_wp Tryd.func24 rfl hf ?_ hro
  simp only [Tryd.ntmps24, List.size_toArray, List.length_cons, List.length_nil, Nat.reduceAdd, Nat.reduceSub, Array.replicate_succ, Array.replicate_zero, List.push_toArray, List.append_toArray, List.nil_append, List.cons_append]
  gi_wp2
  all_goals go_ret2
  all_goals first
    | exact ⟨ret_ib rfl rfl, rfl⟩
    | exact ⟨ret_ib (by unfold cntV; simp <;> omega) (by first | exact (decide_eq_false (by omega)).symm | exact decide_eq_decide.2 (by omega)), rfl⟩

set_option maxRecDepth 100000 in
set_option maxHeartbeats 4000000 in
theorem count_sbe (F : Fence) (n : Nat) (hf : F.fn 24) (hro : F.round = none) (c : Nat) (hc : c < 256) (w : World) : CallsIn F n Tryd.prog 24 #[.string kSbe, .int .u8 (c : Int)] w fun e w' => e = .returned (.tuple #[.int .i64 (cntV 2 c), .bool (cntB 2 c)]) ∧ w' = w := by
  refine callsIn_of_wp Tryd.func24 rfl hf ?_ hro
  simp only [Tryd.ntmps24, List.size_toArray, List.length_cons, List.length_nil, Nat.reduceAdd, Nat.reduceSub, Array.replicate_succ, Array.replicate_zero, List.push_toArray, List.append_toArray, List.nil_append, List.cons_append]
  gi_wp2
  all_goals go_ret2
  all_goals first
    | exact ⟨ret_ib rfl rfl, rfl⟩
    | exact ⟨ret_ib (by unfold cntV; simp <;> omega) (by first | exact (decide_eq_false (by omega)).symm | exact decide_eq_decide.2 (by omega)), rfl⟩

set_option maxRecDepth 100000 in
set_option maxHeartbeats 4000000 in
theorem count_sle (F : Fence) (n : Nat) (hf : F.fn 24) (hro : F.round = none) (c : Nat) (hc : c < 256) (w : World) : CallsIn F n Tryd.prog 24 #[.string kSle, .int .u8 (c : Int)] w fun e w' => e = .returned (.tuple #[.int .i64 (cntV 3 c), .bool (cntB 3 c)]) ∧ w' = w := by
  refine callsIn_of_wp Tryd.func24 rfl hf ?_ hro
  simp only [Tryd.ntmps24, List.size_toArray, List.length_cons, List.length_nil, Nat.reduceAdd, Nat.reduceSub, Array.replicate_succ, Array.replicate_zero, List.push_toArray, List.append_toArray, List.nil_append, List.cons_append]
  gi_wp2
  all_goals go_ret2
  all_goals first
    | exact ⟨ret_ib rfl rfl, rfl⟩
    | exact ⟨ret_ib (by unfold cntV; simp <;> omega) (by first | exact (decide_eq_false (by omega)).symm | exact decide_eq_decide.2 (by omega)), rfl⟩

set_option maxRecDepth 100000 in
set_option maxHeartbeats 4000000 in
theorem count_bcd (F : Fence) (n : Nat) (hf : F.fn 24) (hro : F.round = none) (c : Nat) (hc : c < 256) (w : World) : CallsIn F n Tryd.prog 24 #[.string kBcd, .int .u8 (c : Int)] w fun e w' => e = .returned (.tuple #[.int .i64 (cntV 4 c), .bool (cntB 4 c)]) ∧ w' = w := by
  refine callsIn_of_wp Tryd.func24 rfl hf ?_ hro
  simp only [Tryd.ntmps24, List.size_toArray, List.length_cons, List.length_nil, Nat.reduceAdd, Nat.reduceSub, Array.replicate_succ, Array.replicate_zero, List.push_toArray, List.append_toArray, List.nil_append, List.cons_append]
  gi_wp2
  all_goals go_ret2
  all_goals first
    | exact ⟨ret_ib rfl rfl, rfl⟩
    | exact ⟨ret_ib (by unfold cntV; simp <;> omega) (by first | exact (decide_eq_false (by omega)).symm | exact decide_eq_decide.2 (by omega)), rfl⟩

set_option maxRecDepth 100000 in
set_option maxHeartbeats 4000000 in
theorem count_dec (F : Fence) (n : Nat) (hf : F.fn 24) (hro : F.round = none) (c : Nat) (hc : c < 256) (w : World) : CallsIn F n Tryd.prog 24 #[.string kDec, .int .u8 (c : Int)] w fun e w' => e = .returned (.tuple #[.int .i64 (cntV 5 c), .bool (cntB 5 c)]) ∧ w' = w := by
  refine callsIn_of_wp Tryd.func24 rfl hf ?_ hro
  simp only [Tryd.ntmps24, List.size_toArray, List.length_cons, List.length_nil, Nat.reduceAdd, Nat.reduceSub, Array.replicate_succ, Array.replicate_zero, List.push_toArray, List.append_toArray, List.nil_append, List.cons_append]
  gi_wp2
  all_goals go_ret2
  all_goals first
    | exact ⟨ret_ib rfl rfl, rfl⟩
    | exact ⟨ret_ib (by unfold cntV; simp <;> omega) (by first | exact (decide_eq_false (by omega)).symm | exact decide_eq_decide.2 (by omega)), rfl⟩

set_option maxRecDepth 100000 in
set_option maxHeartbeats 4000000 in
theorem digit_be (F : Fence) (n : Nat) (hf : F.fn 21) (hro : F.round = none) (d : Nat) (hd : d < 256) (w : World) : CallsIn F n Tryd.prog 21 #[.string kBe, .int .i64 (d : Int)] w fun e w' => e = .returned (.int .u8 ((digV 0 d : Nat) : Int)) ∧ w' = w := by
  refine callsIn_of_wp Tryd.func21 rfl hf ?_ hro
  simp only [Tryd.ntmps21, List.size_toArray, List.length_cons, List.length_nil, Nat.reduceAdd, Nat.reduceSub, Array.replicate_succ, Array.replicate_zero, List.push_toArray, List.append_toArray, List.nil_append, List.cons_append]
  gi_wp2
  go_ret
  exact ⟨ret_nat rfl, rfl⟩

set_option maxRecDepth 100000 in
set_option maxHeartbeats 4000000 in
theorem digit_le (F : Fence) (n : Nat) (hf : F.fn 21) (hro : F.round = none) (d : Nat) (hd : d < 256) (w : World) : CallsIn F n Tryd.prog 21 #[.string kLe, .int .i64 (d : Int)] w fun e w' => e = .returned (.int .u8 ((digV 1 d : Nat) : Int)) ∧ w' = w := by
  refine callsIn_of_wp Tryd.func21 rfl hf ?_ hro
  simp only [Tryd.ntmps21, List.size_toArray, List.length_cons, List.length_nil, Nat.reduceAdd, Nat.reduceSub, Array.replicate_succ, Array.replicate_zero, List.push_toArray, List.append_toArray, List.nil_append, List.cons_append]
  gi_wp2
  go_ret
  exact ⟨ret_nat rfl, rfl⟩

set_option maxRecDepth 100000 in
set_option maxHeartbeats 4000000 in
theorem digit_sbe (F : Fence) (n : Nat) (hf : F.fn 21) (hro : F.round = none) (d : Nat) (hd : d < 256) (w : World) : CallsIn F n Tryd.prog 21 #[.string kSbe, .int .i64 (d : Int)] w fun e w' => e = .returned (.int .u8 ((digV 2 d : Nat) : Int)) ∧ w' = w := by
  refine callsIn_of_wp Tryd.func21 rfl hf ?_ hro
  simp only [Tryd.ntmps21, List.size_toArray, List.length_cons, List.length_nil, Nat.reduceAdd, Nat.reduceSub, Array.replicate_succ, Array.replicate_zero, List.push_toArray, List.append_toArray, List.nil_append, List.cons_append]
  gi_wp2
  go_ret
  exact ⟨ret_nat rfl, rfl⟩

set_option maxRecDepth 100000 in
set_option maxHeartbeats 4000000 in
theorem digit_sle (F : Fence) (n : Nat) (hf : F.fn 21) (hro : F.round = none) (d : Nat) (hd : d < 256) (w : World) : CallsIn F n Tryd.prog 21 #[.string kSle, .int .i64 (d : Int)] w fun e w' => e = .returned (.int .u8 ((digV 3 d : Nat) : Int)) ∧ w' = w := by
  refine callsIn_of_wp Tryd.func21 rfl hf ?_ hro
  simp only [Tryd.ntmps21, List.size_toArray, List.length_cons, List.length_nil, Nat.reduceAdd, Nat.reduceSub, Array.replicate_succ, Array.replicate_zero, List.push_toArray, List.append_toArray, List.nil_append, List.cons_append]
  gi_wp2
  go_ret
  exact ⟨ret_nat rfl, rfl⟩

set_option maxRecDepth 100000 in
set_option maxHeartbeats 4000000 in
theorem digit_bcd (F : Fence) (n : Nat) (hf : F.fn 21) (hro : F.round = none) (d : Nat) (hd : d < 100) (w : World) : CallsIn F n Tryd.prog 21 #[.string kBcd, .int .i64 (d : Int)] w fun e w' => e = .returned (.int .u8 ((digV 4 d : Nat) : Int)) ∧ w' = w := by
  refine callsIn_of_wp Tryd.func21 rfl hf ?_ hro
  simp only [Tryd.ntmps21, List.size_toArray, List.length_cons, List.length_nil, Nat.reduceAdd, Nat.reduceSub, Array.replicate_succ, Array.replicate_zero, List.push_toArray, List.append_toArray, List.nil_append, List.cons_append]
  gi_wp2
  go_ret
  exact ⟨by rw [or_bcd d hd]; exact ret_nat rfl, rfl⟩

set_option maxRecDepth 100000 in
set_option maxHeartbeats 4000000 in
theorem power_256_1 (w : World) : Calls Tryd.prog 17 #[.int .i64 256, .int .i64 1] w fun e w' => e = .returned (.int .i64 256) ∧ w' = w := by
  go_enter Tryd.func17, Tryd.ntmps17
  go_wp2
  refine wp_loop_rounds 2 ?_
  iterate 2 (rw [rounds_succ]; go_wp2)
  go_ret
  exact ⟨rfl, rfl⟩

set_option maxRecDepth 100000 in
set_option maxHeartbeats 4000000 in
theorem power_256_2 (w : World) : Calls Tryd.prog 17 #[.int .i64 256, .int .i64 2] w fun e w' => e = .returned (.int .i64 65536) ∧ w' = w := by
  go_enter Tryd.func17, Tryd.ntmps17
  go_wp2
  refine wp_loop_rounds 3 ?_
  iterate 3 (rw [rounds_succ]; go_wp2)
  go_ret
  exact ⟨rfl, rfl⟩

set_option maxRecDepth 100000 in
set_option maxHeartbeats 4000000 in
theorem power_256_3 (w : World) : Calls Tryd.prog 17 #[.int .i64 256, .int .i64 3] w fun e w' => e = .returned (.int .i64 16777216) ∧ w' = w := by
  go_enter Tryd.func17, Tryd.ntmps17
  go_wp2
  refine wp_loop_rounds 4 ?_
  iterate 4 (rw [rounds_succ]; go_wp2)
  go_ret
  exact ⟨rfl, rfl⟩

set_option maxRecDepth 100000 in
set_option maxHeartbeats 4000000 in
theorem power_256_4 (w : World) : Calls Tryd.prog 17 #[.int .i64 256, .int .i64 4] w fun e w' => e = .returned (.int .i64 4294967296) ∧ w' = w := by
  go_enter Tryd.func17, Tryd.ntmps17
  go_wp2
  refine wp_loop_rounds 5 ?_
  iterate 5 (rw [rounds_succ]; go_wp2)
  go_ret
  exact ⟨rfl, rfl⟩

set_option maxRecDepth 100000 in
set_option maxHeartbeats 4000000 in
theorem power_100_1 (w : World) : Calls Tryd.prog 17 #[.int .i64 100, .int .i64 1] w fun e w' => e = .returned (.int .i64 100) ∧ w' = w := by
  go_enter Tryd.func17, Tryd.ntmps17
  go_wp2
  refine wp_loop_rounds 2 ?_
  iterate 2 (rw [rounds_succ]; go_wp2)
  go_ret
  exact ⟨rfl, rfl⟩

set_option maxRecDepth 100000 in
set_option maxHeartbeats 4000000 in
theorem power_100_2 (w : World) : Calls Tryd.prog 17 #[.int .i64 100, .int .i64 2] w fun e w' => e = .returned (.int .i64 10000) ∧ w' = w := by
  go_enter Tryd.func17, Tryd.ntmps17
  go_wp2
  refine wp_loop_rounds 3 ?_
  iterate 3 (rw [rounds_succ]; go_wp2)
  go_ret
  exact ⟨rfl, rfl⟩

set_option maxRecDepth 100000 in
set_option maxHeartbeats 4000000 in
theorem power_100_3 (w : World) : Calls Tryd.prog 17 #[.int .i64 100, .int .i64 3] w fun e w' => e = .returned (.int .i64 1000000) ∧ w' = w := by
  go_enter Tryd.func17, Tryd.ntmps17
  go_wp2
  refine wp_loop_rounds 4 ?_
  iterate 4 (rw [rounds_succ]; go_wp2)
  go_ret
  exact ⟨rfl, rfl⟩

set_option maxRecDepth 100000 in
set_option maxHeartbeats 4000000 in
theorem power_100_4 (w : World) : Calls Tryd.prog 17 #[.int .i64 100, .int .i64 4] w fun e w' => e = .returned (.int .i64 100000000) ∧ w' = w := by
  go_enter Tryd.func17, Tryd.ntmps17
  go_wp2
  refine wp_loop_rounds 5 ?_
  iterate 5 (rw [rounds_succ]; go_wp2)
  go_ret
  exact ⟨rfl, rfl⟩

set_option maxRecDepth 100000 in
set_option maxHeartbeats 4000000 in
theorem power_10_0 (w : World) : Calls Tryd.prog 17 #[.int .i64 10, .int .i64 0] w fun e w' => e = .returned (.int .i64 1) ∧ w' = w := by
  go_enter Tryd.func17, Tryd.ntmps17
  go_wp2
  refine wp_loop_rounds 1 ?_
  iterate 1 (rw [rounds_succ]; go_wp2)
  go_ret
  exact ⟨rfl, rfl⟩

set_option maxRecDepth 100000 in
set_option maxHeartbeats 4000000 in
theorem power_10_1 (w : World) : Calls Tryd.prog 17 #[.int .i64 10, .int .i64 1] w fun e w' => e = .returned (.int .i64 10) ∧ w' = w := by
  go_enter Tryd.func17, Tryd.ntmps17
  go_wp2
  refine wp_loop_rounds 2 ?_
  iterate 2 (rw [rounds_succ]; go_wp2)
  go_ret
  exact ⟨rfl, rfl⟩

set_option maxRecDepth 100000 in
set_option maxHeartbeats 4000000 in
theorem power_10_2 (w : World) : Calls Tryd.prog 17 #[.int .i64 10, .int .i64 2] w fun e w' => e = .returned (.int .i64 100) ∧ w' = w := by
  go_enter Tryd.func17, Tryd.ntmps17
  go_wp2
  refine wp_loop_rounds 3 ?_
  iterate 3 (rw [rounds_succ]; go_wp2)
  go_ret
  exact ⟨rfl, rfl⟩

set_option maxRecDepth 100000 in
set_option maxHeartbeats 4000000 in
theorem power_10_3 (w : World) : Calls Tryd.prog 17 #[.int .i64 10, .int .i64 3] w fun e w' => e = .returned (.int .i64 1000) ∧ w' = w := by
  go_enter Tryd.func17, Tryd.ntmps17
  go_wp2
  refine wp_loop_rounds 4 ?_
  iterate 4 (rw [rounds_succ]; go_wp2)
  go_ret
  exact ⟨rfl, rfl⟩

set_option maxRecDepth 100000 in
set_option maxHeartbeats 4000000 in
theorem power_10_4 (w : World) : Calls Tryd.prog 17 #[.int .i64 10, .int .i64 4] w fun e w' => e = .returned (.int .i64 10000) ∧ w' = w := by
  go_enter Tryd.func17, Tryd.ntmps17
  go_wp2
  refine wp_loop_rounds 5 ?_
  iterate 5 (rw [rounds_succ]; go_wp2)
  go_ret
  exact ⟨rfl, rfl⟩

set_option maxRecDepth 100000 in
set_option maxHeartbeats 4000000 in
theorem power_10_5 (w : World) : Calls Tryd.prog 17 #[.int .i64 10, .int .i64 5] w fun e w' => e = .returned (.int .i64 100000) ∧ w' = w := by
  go_enter Tryd.func17, Tryd.ntmps17
  go_wp2
  refine wp_loop_rounds 6 ?_
  iterate 6 (rw [rounds_succ]; go_wp2)
  go_ret
  exact ⟨rfl, rfl⟩

set_option maxRecDepth 100000 in
set_option maxHeartbeats 4000000 in
theorem power_10_6 (w : World) : Calls Tryd.prog 17 #[.int .i64 10, .int .i64 6] w fun e w' => e = .returned (.int .i64 1000000) ∧ w' = w := by
  go_enter Tryd.func17, Tryd.ntmps17
  go_wp2
  refine wp_loop_rounds 7 ?_
  iterate 7 (rw [rounds_succ]; go_wp2)
  go_ret
  exact ⟨rfl, rfl⟩

set_option maxRecDepth 100000 in
set_option maxHeartbeats 4000000 in
theorem power_10_7 (w : World) : Calls Tryd.prog 17 #[.int .i64 10, .int .i64 7] w fun e w' => e = .returned (.int .i64 10000000) ∧ w' = w := by
  go_enter Tryd.func17, Tryd.ntmps17
  go_wp2
  refine wp_loop_rounds 8 ?_
  iterate 8 (rw [rounds_succ]; go_wp2)
  go_ret
  exact ⟨rfl, rfl⟩

set_option maxRecDepth 100000 in
set_option maxHeartbeats 4000000 in
theorem power_10_8 (w : World) : Calls Tryd.prog 17 #[.int .i64 10, .int .i64 8] w fun e w' => e = .returned (.int .i64 100000000) ∧ w' = w := by
  go_enter Tryd.func17, Tryd.ntmps17
  go_wp2
  refine wp_loop_rounds 9 ?_
  iterate 9 (rw [rounds_succ]; go_wp2)
  go_ret
  exact ⟨rfl, rfl⟩
end Go.Proofs.YtiimmebcmehnhaaDoor
