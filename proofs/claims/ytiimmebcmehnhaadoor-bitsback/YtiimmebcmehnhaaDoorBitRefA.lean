/-
  What the document's own Right and Ends return (layer 6). Conditions: as each says.
-/
import Derived.LoopN
import Derived.Test.YtiimmebcmehnhaaDoorBitMath
namespace Go.Proofs.YtiimmebcmehnhaaDoor
open Go.RowKit
set_option linter.unusedVariables false

theorem not_kBe {s : ByteArray} (h : ¬ s = kBe) : (s.toList == [98, 101]) = false := by have := txt_no h; rwa [show kBe.toList = [98, 101] by rw [ByteArray.toList_eq]] at this
theorem not_kLe {s : ByteArray} (h : ¬ s = kLe) : (s.toList == [108, 101]) = false := by have := txt_no h; rwa [show kLe.toList = [108, 101] by rw [ByteArray.toList_eq]] at this
theorem not_kSbe {s : ByteArray} (h : ¬ s = kSbe) : (s.toList == [115, 98, 101]) = false := by have := txt_no h; rwa [show kSbe.toList = [115, 98, 101] by rw [ByteArray.toList_eq]] at this
theorem not_kSle {s : ByteArray} (h : ¬ s = kSle) : (s.toList == [115, 108, 101]) = false := by have := txt_no h; rwa [show kSle.toList = [115, 108, 101] by rw [ByteArray.toList_eq]] at this
theorem not_kBcd {s : ByteArray} (h : ¬ s = kBcd) : (s.toList == [98, 99, 100]) = false := by have := txt_no h; rwa [show kBcd.toList = [98, 99, 100] by rw [ByteArray.toList_eq]] at this
theorem not_kDec {s : ByteArray} (h : ¬ s = kDec) : (s.toList == [100, 101, 99]) = false := by have := txt_no h; rwa [show kDec.toList = [100, 101, 99] by rw [ByteArray.toList_eq]] at this

set_option maxRecDepth 100000 in
set_option maxHeartbeats 2000000 in
theorem bright_be (n : Int) (w : World) (hn : -9223372036854775808 ≤ n ∧ n ≤ 9223372036854775807) : Calls Tryd.prog 10 #[.string kBe, .int .i64 n] w fun e w' => e = .returned (.bool (rgtB 0 n)) ∧ w' = w := by
  by_cases h1 : 1 ≤ n
  · by_cases h2 : n ≤ 4
    · have e : rgtB 0 n = true := by unfold rgtB; simp [h1, h2]
      rw [e]
      go_enter Tryd.func10, Tryd.ntmps10
      go_wp2
      go_ret
      exact ⟨rfl, rfl⟩
    · have e : rgtB 0 n = false := by unfold rgtB; simp [h2]
      rw [e]
      go_enter Tryd.func10, Tryd.ntmps10
      go_wp2
      go_ret
      exact ⟨rfl, rfl⟩
  · have e : rgtB 0 n = false := by unfold rgtB; simp [h1]
    rw [e]
    go_enter Tryd.func10, Tryd.ntmps10
    go_wp2
    go_ret
    exact ⟨rfl, rfl⟩

set_option maxRecDepth 100000 in
set_option maxHeartbeats 2000000 in
theorem bright_le (n : Int) (w : World) (hn : -9223372036854775808 ≤ n ∧ n ≤ 9223372036854775807) : Calls Tryd.prog 10 #[.string kLe, .int .i64 n] w fun e w' => e = .returned (.bool (rgtB 1 n)) ∧ w' = w := by
  by_cases h1 : 1 ≤ n
  · by_cases h2 : n ≤ 4
    · have e : rgtB 1 n = true := by unfold rgtB; simp [h1, h2]
      rw [e]
      go_enter Tryd.func10, Tryd.ntmps10
      go_wp2
      go_ret
      exact ⟨rfl, rfl⟩
    · have e : rgtB 1 n = false := by unfold rgtB; simp [h2]
      rw [e]
      go_enter Tryd.func10, Tryd.ntmps10
      go_wp2
      go_ret
      exact ⟨rfl, rfl⟩
  · have e : rgtB 1 n = false := by unfold rgtB; simp [h1]
    rw [e]
    go_enter Tryd.func10, Tryd.ntmps10
    go_wp2
    go_ret
    exact ⟨rfl, rfl⟩

set_option maxRecDepth 100000 in
set_option maxHeartbeats 2000000 in
theorem bright_sbe (n : Int) (w : World) (hn : -9223372036854775808 ≤ n ∧ n ≤ 9223372036854775807) : Calls Tryd.prog 10 #[.string kSbe, .int .i64 n] w fun e w' => e = .returned (.bool (rgtB 2 n)) ∧ w' = w := by
  by_cases h1 : 1 ≤ n
  · by_cases h2 : n ≤ 4
    · have e : rgtB 2 n = true := by unfold rgtB; simp [h1, h2]
      rw [e]
      go_enter Tryd.func10, Tryd.ntmps10
      go_wp2
      go_ret
      exact ⟨rfl, rfl⟩
    · have e : rgtB 2 n = false := by unfold rgtB; simp [h2]
      rw [e]
      go_enter Tryd.func10, Tryd.ntmps10
      go_wp2
      go_ret
      exact ⟨rfl, rfl⟩
  · have e : rgtB 2 n = false := by unfold rgtB; simp [h1]
    rw [e]
    go_enter Tryd.func10, Tryd.ntmps10
    go_wp2
    go_ret
    exact ⟨rfl, rfl⟩

set_option maxRecDepth 100000 in
set_option maxHeartbeats 2000000 in
theorem bright_sle (n : Int) (w : World) (hn : -9223372036854775808 ≤ n ∧ n ≤ 9223372036854775807) : Calls Tryd.prog 10 #[.string kSle, .int .i64 n] w fun e w' => e = .returned (.bool (rgtB 3 n)) ∧ w' = w := by
  by_cases h1 : 1 ≤ n
  · by_cases h2 : n ≤ 4
    · have e : rgtB 3 n = true := by unfold rgtB; simp [h1, h2]
      rw [e]
      go_enter Tryd.func10, Tryd.ntmps10
      go_wp2
      go_ret
      exact ⟨rfl, rfl⟩
    · have e : rgtB 3 n = false := by unfold rgtB; simp [h2]
      rw [e]
      go_enter Tryd.func10, Tryd.ntmps10
      go_wp2
      go_ret
      exact ⟨rfl, rfl⟩
  · have e : rgtB 3 n = false := by unfold rgtB; simp [h1]
    rw [e]
    go_enter Tryd.func10, Tryd.ntmps10
    go_wp2
    go_ret
    exact ⟨rfl, rfl⟩

set_option maxRecDepth 100000 in
set_option maxHeartbeats 2000000 in
theorem bright_bcd (n : Int) (w : World) (hn : -9223372036854775808 ≤ n ∧ n ≤ 9223372036854775807) : Calls Tryd.prog 10 #[.string kBcd, .int .i64 n] w fun e w' => e = .returned (.bool (rgtB 4 n)) ∧ w' = w := by
  by_cases h1 : 1 ≤ n
  · by_cases h2 : n ≤ 4
    · have e : rgtB 4 n = true := by unfold rgtB; simp [h1, h2]
      rw [e]
      go_enter Tryd.func10, Tryd.ntmps10
      go_wp2
      go_ret
      exact ⟨rfl, rfl⟩
    · have e : rgtB 4 n = false := by unfold rgtB; simp [h2]
      rw [e]
      go_enter Tryd.func10, Tryd.ntmps10
      go_wp2
      go_ret
      exact ⟨rfl, rfl⟩
  · have e : rgtB 4 n = false := by unfold rgtB; simp [h1]
    rw [e]
    go_enter Tryd.func10, Tryd.ntmps10
    go_wp2
    go_ret
    exact ⟨rfl, rfl⟩

set_option maxRecDepth 100000 in
set_option maxHeartbeats 2000000 in
theorem bright_dec (n : Int) (w : World) (hn : -9223372036854775808 ≤ n ∧ n ≤ 9223372036854775807) : Calls Tryd.prog 10 #[.string kDec, .int .i64 n] w fun e w' => e = .returned (.bool (rgtB 5 n)) ∧ w' = w := by
  by_cases h1 : 1 ≤ n
  · by_cases h2 : n ≤ 8
    · have e : rgtB 5 n = true := by unfold rgtB; simp [h1, h2]
      rw [e]
      go_enter Tryd.func10, Tryd.ntmps10
      go_wp2
      go_ret
      exact ⟨rfl, rfl⟩
    · have e : rgtB 5 n = false := by unfold rgtB; simp [h2]
      rw [e]
      go_enter Tryd.func10, Tryd.ntmps10
      go_wp2
      go_ret
      exact ⟨rfl, rfl⟩
  · have e : rgtB 5 n = false := by unfold rgtB; simp [h1]
    rw [e]
    go_enter Tryd.func10, Tryd.ntmps10
    go_wp2
    go_ret
    exact ⟨rfl, rfl⟩

set_option maxRecDepth 100000 in
set_option maxHeartbeats 2000000 in
theorem bright_no (s : ByteArray) (n : Int) (w : World) (hs : NoKind s) : Calls Tryd.prog 10 #[.string s, .int .i64 n] w fun e w' => e = .returned (.bool (rgtB 6 n)) ∧ w' = w := by
  obtain ⟨n0, n1, n2, n3, n4, n5⟩ := hs
  have q0 := not_kBe n0
  have q1 := not_kLe n1
  have q2 := not_kSbe n2
  have q3 := not_kSle n3
  have q4 := not_kBcd n4
  have q5 := not_kDec n5
  clear n0 n1 n2 n3 n4 n5
  have e : rgtB 6 n = false := rfl
  rw [e]
  go_enter Tryd.func10, Tryd.ntmps10
  go_wp2
  go_ret
  exact ⟨rfl, rfl⟩
theorem bright_any (s : ByteArray) (n : Int) (w : World) (hn : -9223372036854775808 ≤ n ∧ n ≤ 9223372036854775807) : Calls Tryd.prog 10 #[.string s, .int .i64 n] w fun e w' => e = .returned (.bool (rgtB (kindI s) n)) ∧ w' = w := by
  rcases kind_cases s with rfl | rfl | rfl | rfl | rfl | rfl | hs
  · rw [kind_be]; exact bright_be n w hn
  · rw [kind_le]; exact bright_le n w hn
  · rw [kind_sbe]; exact bright_sbe n w hn
  · rw [kind_sle]; exact bright_sle n w hn
  · rw [kind_bcd]; exact bright_bcd n w hn
  · rw [kind_dec]; exact bright_dec n w hn
  · rw [kind_no hs]; exact bright_no s n w hs

set_option maxRecDepth 100000 in
set_option maxHeartbeats 2000000 in
theorem bends_be1 (w : World) : Calls Tryd.prog 12 #[.string kBe, .int .i64 1] w fun e w' => e = .returned (.tuple #[.int .i64 0, .int .i64 255]) ∧ w' = w := by
  go_enter Tryd.func12, Tryd.ntmps12
  go_wp2
  refine wp_loop_rounds 2 ?_
  iterate 2 (rw [rounds_succ]; go_wp2)
  go_ret2
  exact ⟨rfl, rfl⟩

set_option maxRecDepth 100000 in
set_option maxHeartbeats 2000000 in
theorem bends_be2 (w : World) : Calls Tryd.prog 12 #[.string kBe, .int .i64 2] w fun e w' => e = .returned (.tuple #[.int .i64 0, .int .i64 65535]) ∧ w' = w := by
  go_enter Tryd.func12, Tryd.ntmps12
  go_wp2
  refine wp_loop_rounds 3 ?_
  iterate 3 (rw [rounds_succ]; go_wp2)
  go_ret2
  exact ⟨rfl, rfl⟩

set_option maxRecDepth 100000 in
set_option maxHeartbeats 2000000 in
theorem bends_be3 (w : World) : Calls Tryd.prog 12 #[.string kBe, .int .i64 3] w fun e w' => e = .returned (.tuple #[.int .i64 0, .int .i64 16777215]) ∧ w' = w := by
  go_enter Tryd.func12, Tryd.ntmps12
  go_wp2
  refine wp_loop_rounds 4 ?_
  iterate 4 (rw [rounds_succ]; go_wp2)
  go_ret2
  exact ⟨rfl, rfl⟩

set_option maxRecDepth 100000 in
set_option maxHeartbeats 2000000 in
theorem bends_be4 (w : World) : Calls Tryd.prog 12 #[.string kBe, .int .i64 4] w fun e w' => e = .returned (.tuple #[.int .i64 0, .int .i64 4294967295]) ∧ w' = w := by
  go_enter Tryd.func12, Tryd.ntmps12
  go_wp2
  refine wp_loop_rounds 5 ?_
  iterate 5 (rw [rounds_succ]; go_wp2)
  go_ret2
  exact ⟨rfl, rfl⟩

set_option maxRecDepth 100000 in
set_option maxHeartbeats 2000000 in
theorem bends_le1 (w : World) : Calls Tryd.prog 12 #[.string kLe, .int .i64 1] w fun e w' => e = .returned (.tuple #[.int .i64 0, .int .i64 255]) ∧ w' = w := by
  go_enter Tryd.func12, Tryd.ntmps12
  go_wp2
  refine wp_loop_rounds 2 ?_
  iterate 2 (rw [rounds_succ]; go_wp2)
  go_ret2
  exact ⟨rfl, rfl⟩

set_option maxRecDepth 100000 in
set_option maxHeartbeats 2000000 in
theorem bends_le2 (w : World) : Calls Tryd.prog 12 #[.string kLe, .int .i64 2] w fun e w' => e = .returned (.tuple #[.int .i64 0, .int .i64 65535]) ∧ w' = w := by
  go_enter Tryd.func12, Tryd.ntmps12
  go_wp2
  refine wp_loop_rounds 3 ?_
  iterate 3 (rw [rounds_succ]; go_wp2)
  go_ret2
  exact ⟨rfl, rfl⟩

set_option maxRecDepth 100000 in
set_option maxHeartbeats 2000000 in
theorem bends_le3 (w : World) : Calls Tryd.prog 12 #[.string kLe, .int .i64 3] w fun e w' => e = .returned (.tuple #[.int .i64 0, .int .i64 16777215]) ∧ w' = w := by
  go_enter Tryd.func12, Tryd.ntmps12
  go_wp2
  refine wp_loop_rounds 4 ?_
  iterate 4 (rw [rounds_succ]; go_wp2)
  go_ret2
  exact ⟨rfl, rfl⟩

set_option maxRecDepth 100000 in
set_option maxHeartbeats 2000000 in
theorem bends_le4 (w : World) : Calls Tryd.prog 12 #[.string kLe, .int .i64 4] w fun e w' => e = .returned (.tuple #[.int .i64 0, .int .i64 4294967295]) ∧ w' = w := by
  go_enter Tryd.func12, Tryd.ntmps12
  go_wp2
  refine wp_loop_rounds 5 ?_
  iterate 5 (rw [rounds_succ]; go_wp2)
  go_ret2
  exact ⟨rfl, rfl⟩

set_option maxRecDepth 100000 in
set_option maxHeartbeats 2000000 in
theorem bends_sbe1 (w : World) : Calls Tryd.prog 12 #[.string kSbe, .int .i64 1] w fun e w' => e = .returned (.tuple #[.int .i64 (-128), .int .i64 127]) ∧ w' = w := by
  go_enter Tryd.func12, Tryd.ntmps12
  go_wp2
  refine wp_loop_rounds 2 ?_
  iterate 2 (rw [rounds_succ]; go_wp2)
  go_ret2
  exact ⟨rfl, rfl⟩

set_option maxRecDepth 100000 in
set_option maxHeartbeats 2000000 in
theorem bends_sbe2 (w : World) : Calls Tryd.prog 12 #[.string kSbe, .int .i64 2] w fun e w' => e = .returned (.tuple #[.int .i64 (-32768), .int .i64 32767]) ∧ w' = w := by
  go_enter Tryd.func12, Tryd.ntmps12
  go_wp2
  refine wp_loop_rounds 3 ?_
  iterate 3 (rw [rounds_succ]; go_wp2)
  go_ret2
  exact ⟨rfl, rfl⟩

set_option maxRecDepth 100000 in
set_option maxHeartbeats 2000000 in
theorem bends_sbe3 (w : World) : Calls Tryd.prog 12 #[.string kSbe, .int .i64 3] w fun e w' => e = .returned (.tuple #[.int .i64 (-8388608), .int .i64 8388607]) ∧ w' = w := by
  go_enter Tryd.func12, Tryd.ntmps12
  go_wp2
  refine wp_loop_rounds 4 ?_
  iterate 4 (rw [rounds_succ]; go_wp2)
  go_ret2
  exact ⟨rfl, rfl⟩

set_option maxRecDepth 100000 in
set_option maxHeartbeats 2000000 in
theorem bends_sbe4 (w : World) : Calls Tryd.prog 12 #[.string kSbe, .int .i64 4] w fun e w' => e = .returned (.tuple #[.int .i64 (-2147483648), .int .i64 2147483647]) ∧ w' = w := by
  go_enter Tryd.func12, Tryd.ntmps12
  go_wp2
  refine wp_loop_rounds 5 ?_
  iterate 5 (rw [rounds_succ]; go_wp2)
  go_ret2
  exact ⟨rfl, rfl⟩

set_option maxRecDepth 100000 in
set_option maxHeartbeats 2000000 in
theorem bends_sle1 (w : World) : Calls Tryd.prog 12 #[.string kSle, .int .i64 1] w fun e w' => e = .returned (.tuple #[.int .i64 (-128), .int .i64 127]) ∧ w' = w := by
  go_enter Tryd.func12, Tryd.ntmps12
  go_wp2
  refine wp_loop_rounds 2 ?_
  iterate 2 (rw [rounds_succ]; go_wp2)
  go_ret2
  exact ⟨rfl, rfl⟩

set_option maxRecDepth 100000 in
set_option maxHeartbeats 2000000 in
theorem bends_sle2 (w : World) : Calls Tryd.prog 12 #[.string kSle, .int .i64 2] w fun e w' => e = .returned (.tuple #[.int .i64 (-32768), .int .i64 32767]) ∧ w' = w := by
  go_enter Tryd.func12, Tryd.ntmps12
  go_wp2
  refine wp_loop_rounds 3 ?_
  iterate 3 (rw [rounds_succ]; go_wp2)
  go_ret2
  exact ⟨rfl, rfl⟩

set_option maxRecDepth 100000 in
set_option maxHeartbeats 2000000 in
theorem bends_sle3 (w : World) : Calls Tryd.prog 12 #[.string kSle, .int .i64 3] w fun e w' => e = .returned (.tuple #[.int .i64 (-8388608), .int .i64 8388607]) ∧ w' = w := by
  go_enter Tryd.func12, Tryd.ntmps12
  go_wp2
  refine wp_loop_rounds 4 ?_
  iterate 4 (rw [rounds_succ]; go_wp2)
  go_ret2
  exact ⟨rfl, rfl⟩

set_option maxRecDepth 100000 in
set_option maxHeartbeats 2000000 in
theorem bends_sle4 (w : World) : Calls Tryd.prog 12 #[.string kSle, .int .i64 4] w fun e w' => e = .returned (.tuple #[.int .i64 (-2147483648), .int .i64 2147483647]) ∧ w' = w := by
  go_enter Tryd.func12, Tryd.ntmps12
  go_wp2
  refine wp_loop_rounds 5 ?_
  iterate 5 (rw [rounds_succ]; go_wp2)
  go_ret2
  exact ⟨rfl, rfl⟩

set_option maxRecDepth 100000 in
set_option maxHeartbeats 2000000 in
theorem bends_bcd1 (w : World) : Calls Tryd.prog 12 #[.string kBcd, .int .i64 1] w fun e w' => e = .returned (.tuple #[.int .i64 0, .int .i64 99]) ∧ w' = w := by
  go_enter Tryd.func12, Tryd.ntmps12
  go_wp2
  refine wp_loop_rounds 2 ?_
  iterate 2 (rw [rounds_succ]; go_wp2)
  go_ret2
  exact ⟨rfl, rfl⟩

set_option maxRecDepth 100000 in
set_option maxHeartbeats 2000000 in
theorem bends_bcd2 (w : World) : Calls Tryd.prog 12 #[.string kBcd, .int .i64 2] w fun e w' => e = .returned (.tuple #[.int .i64 0, .int .i64 9999]) ∧ w' = w := by
  go_enter Tryd.func12, Tryd.ntmps12
  go_wp2
  refine wp_loop_rounds 3 ?_
  iterate 3 (rw [rounds_succ]; go_wp2)
  go_ret2
  exact ⟨rfl, rfl⟩

set_option maxRecDepth 100000 in
set_option maxHeartbeats 2000000 in
theorem bends_bcd3 (w : World) : Calls Tryd.prog 12 #[.string kBcd, .int .i64 3] w fun e w' => e = .returned (.tuple #[.int .i64 0, .int .i64 999999]) ∧ w' = w := by
  go_enter Tryd.func12, Tryd.ntmps12
  go_wp2
  refine wp_loop_rounds 4 ?_
  iterate 4 (rw [rounds_succ]; go_wp2)
  go_ret2
  exact ⟨rfl, rfl⟩

set_option maxRecDepth 100000 in
set_option maxHeartbeats 2000000 in
theorem bends_bcd4 (w : World) : Calls Tryd.prog 12 #[.string kBcd, .int .i64 4] w fun e w' => e = .returned (.tuple #[.int .i64 0, .int .i64 99999999]) ∧ w' = w := by
  go_enter Tryd.func12, Tryd.ntmps12
  go_wp2
  refine wp_loop_rounds 5 ?_
  iterate 5 (rw [rounds_succ]; go_wp2)
  go_ret2
  exact ⟨rfl, rfl⟩

set_option maxRecDepth 100000 in
set_option maxHeartbeats 2000000 in
theorem bends_dec1 (w : World) : Calls Tryd.prog 12 #[.string kDec, .int .i64 1] w fun e w' => e = .returned (.tuple #[.int .i64 0, .int .i64 9]) ∧ w' = w := by
  go_enter Tryd.func12, Tryd.ntmps12
  go_wp2
  refine wp_loop_rounds 2 ?_
  iterate 2 (rw [rounds_succ]; go_wp2)
  go_ret2
  exact ⟨rfl, rfl⟩

set_option maxRecDepth 100000 in
set_option maxHeartbeats 2000000 in
theorem bends_dec2 (w : World) : Calls Tryd.prog 12 #[.string kDec, .int .i64 2] w fun e w' => e = .returned (.tuple #[.int .i64 (-9), .int .i64 99]) ∧ w' = w := by
  go_enter Tryd.func12, Tryd.ntmps12
  go_wp2
  refine wp_loop_rounds 3 ?_
  iterate 3 (rw [rounds_succ]; go_wp2)
  go_ret2
  exact ⟨rfl, rfl⟩

set_option maxRecDepth 100000 in
set_option maxHeartbeats 2000000 in
theorem bends_dec3 (w : World) : Calls Tryd.prog 12 #[.string kDec, .int .i64 3] w fun e w' => e = .returned (.tuple #[.int .i64 (-99), .int .i64 999]) ∧ w' = w := by
  go_enter Tryd.func12, Tryd.ntmps12
  go_wp2
  refine wp_loop_rounds 4 ?_
  iterate 4 (rw [rounds_succ]; go_wp2)
  go_ret2
  exact ⟨rfl, rfl⟩

set_option maxRecDepth 100000 in
set_option maxHeartbeats 2000000 in
theorem bends_dec4 (w : World) : Calls Tryd.prog 12 #[.string kDec, .int .i64 4] w fun e w' => e = .returned (.tuple #[.int .i64 (-999), .int .i64 9999]) ∧ w' = w := by
  go_enter Tryd.func12, Tryd.ntmps12
  go_wp2
  refine wp_loop_rounds 5 ?_
  iterate 5 (rw [rounds_succ]; go_wp2)
  go_ret2
  exact ⟨rfl, rfl⟩

set_option maxRecDepth 100000 in
set_option maxHeartbeats 2000000 in
theorem bends_dec5 (w : World) : Calls Tryd.prog 12 #[.string kDec, .int .i64 5] w fun e w' => e = .returned (.tuple #[.int .i64 (-9999), .int .i64 99999]) ∧ w' = w := by
  go_enter Tryd.func12, Tryd.ntmps12
  go_wp2
  refine wp_loop_rounds 6 ?_
  iterate 6 (rw [rounds_succ]; go_wp2)
  go_ret2
  exact ⟨rfl, rfl⟩

set_option maxRecDepth 100000 in
set_option maxHeartbeats 2000000 in
theorem bends_dec6 (w : World) : Calls Tryd.prog 12 #[.string kDec, .int .i64 6] w fun e w' => e = .returned (.tuple #[.int .i64 (-99999), .int .i64 999999]) ∧ w' = w := by
  go_enter Tryd.func12, Tryd.ntmps12
  go_wp2
  refine wp_loop_rounds 7 ?_
  iterate 7 (rw [rounds_succ]; go_wp2)
  go_ret2
  exact ⟨rfl, rfl⟩

set_option maxRecDepth 100000 in
set_option maxHeartbeats 2000000 in
theorem bends_dec7 (w : World) : Calls Tryd.prog 12 #[.string kDec, .int .i64 7] w fun e w' => e = .returned (.tuple #[.int .i64 (-999999), .int .i64 9999999]) ∧ w' = w := by
  go_enter Tryd.func12, Tryd.ntmps12
  go_wp2
  refine wp_loop_rounds 8 ?_
  iterate 8 (rw [rounds_succ]; go_wp2)
  go_ret2
  exact ⟨rfl, rfl⟩

set_option maxRecDepth 100000 in
set_option maxHeartbeats 2000000 in
theorem bends_dec8 (w : World) : Calls Tryd.prog 12 #[.string kDec, .int .i64 8] w fun e w' => e = .returned (.tuple #[.int .i64 (-9999999), .int .i64 99999999]) ∧ w' = w := by
  go_enter Tryd.func12, Tryd.ntmps12
  go_wp2
  refine wp_loop_rounds 9 ?_
  iterate 9 (rw [rounds_succ]; go_wp2)
  go_ret2
  exact ⟨rfl, rfl⟩

theorem bends_any (s : ByteArray) (n : Int) (w : World) (h : rgtB (kindI s) n = true) : Calls Tryd.prog 12 #[.string s, .int .i64 n] w fun e w' => e = .returned (.tuple #[.int .i64 (loK (kindI s) n.toNat), .int .i64 (hiK (kindI s) n.toNat)]) ∧ w' = w := by
  rcases kind_cases s with rfl | rfl | rfl | rfl | rfl | rfl | hs
  · rw [kind_be] at *
    have hn : n = 1 ∨ n = 2 ∨ n = 3 ∨ n = 4 := by
      rcases rgt_cases h with ⟨h1, h2, h3⟩ | ⟨h1, h2, h3⟩ <;> omega
    rcases hn with rfl | rfl | rfl | rfl
    · exact bends_be1 w
    · exact bends_be2 w
    · exact bends_be3 w
    · exact bends_be4 w
  · rw [kind_le] at *
    have hn : n = 1 ∨ n = 2 ∨ n = 3 ∨ n = 4 := by
      rcases rgt_cases h with ⟨h1, h2, h3⟩ | ⟨h1, h2, h3⟩ <;> omega
    rcases hn with rfl | rfl | rfl | rfl
    · exact bends_le1 w
    · exact bends_le2 w
    · exact bends_le3 w
    · exact bends_le4 w
  · rw [kind_sbe] at *
    have hn : n = 1 ∨ n = 2 ∨ n = 3 ∨ n = 4 := by
      rcases rgt_cases h with ⟨h1, h2, h3⟩ | ⟨h1, h2, h3⟩ <;> omega
    rcases hn with rfl | rfl | rfl | rfl
    · exact bends_sbe1 w
    · exact bends_sbe2 w
    · exact bends_sbe3 w
    · exact bends_sbe4 w
  · rw [kind_sle] at *
    have hn : n = 1 ∨ n = 2 ∨ n = 3 ∨ n = 4 := by
      rcases rgt_cases h with ⟨h1, h2, h3⟩ | ⟨h1, h2, h3⟩ <;> omega
    rcases hn with rfl | rfl | rfl | rfl
    · exact bends_sle1 w
    · exact bends_sle2 w
    · exact bends_sle3 w
    · exact bends_sle4 w
  · rw [kind_bcd] at *
    have hn : n = 1 ∨ n = 2 ∨ n = 3 ∨ n = 4 := by
      rcases rgt_cases h with ⟨h1, h2, h3⟩ | ⟨h1, h2, h3⟩ <;> omega
    rcases hn with rfl | rfl | rfl | rfl
    · exact bends_bcd1 w
    · exact bends_bcd2 w
    · exact bends_bcd3 w
    · exact bends_bcd4 w
  · rw [kind_dec] at *
    have hn : n = 1 ∨ n = 2 ∨ n = 3 ∨ n = 4 ∨ n = 5 ∨ n = 6 ∨ n = 7 ∨ n = 8 := by
      rcases rgt_cases h with ⟨h1, h2, h3⟩ | ⟨h1, h2, h3⟩ <;> omega
    rcases hn with rfl | rfl | rfl | rfl | rfl | rfl | rfl | rfl
    · exact bends_dec1 w
    · exact bends_dec2 w
    · exact bends_dec3 w
    · exact bends_dec4 w
    · exact bends_dec5 w
    · exact bends_dec6 w
    · exact bends_dec7 w
    · exact bends_dec8 w
  · rw [kind_no hs] at h; cases h
end Go.Proofs.YtiimmebcmehnhaaDoor
