/-
  What the program's own Right and Ends return (layer 6). Conditions: as each says.
-/
import Derived.Test.YtiimmebcmehnhaaDoorBitPA
import Derived.Test.YtiimmebcmehnhaaDoorBitCon
namespace Go.Proofs.YtiimmebcmehnhaaDoor
open Go.RowKit Go.Shelf
set_option linter.unusedVariables false


set_option maxRecDepth 100000 in
set_option maxHeartbeats 2000000 in
theorem pright_be (n : Int) (w : World) (hn : -9223372036854775808 ≤ n ∧ n ≤ 9223372036854775807) : Calls Tryd.prog 11 #[.string kBe, .int .i64 n] w fun e w' => e = .returned (.bool (rgtB 0 n)) ∧ w' = w := by
  by_cases h1 : 1 ≤ n
  · by_cases h2 : n ≤ 4
    · have e : rgtB 0 n = true := by unfold rgtB; simp [h1, h2]
      rw [e]
      go_enter Tryd.func11, Tryd.ntmps11
      go_wp2
      go_ret
      exact ⟨rfl, rfl⟩
    · have e : rgtB 0 n = false := by unfold rgtB; simp [h2]
      rw [e]
      go_enter Tryd.func11, Tryd.ntmps11
      go_wp2
      go_ret
      exact ⟨rfl, rfl⟩
  · have e : rgtB 0 n = false := by unfold rgtB; simp [h1]
    rw [e]
    go_enter Tryd.func11, Tryd.ntmps11
    go_wp2
    go_ret
    exact ⟨rfl, rfl⟩

set_option maxRecDepth 100000 in
set_option maxHeartbeats 2000000 in
theorem pright_le (n : Int) (w : World) (hn : -9223372036854775808 ≤ n ∧ n ≤ 9223372036854775807) : Calls Tryd.prog 11 #[.string kLe, .int .i64 n] w fun e w' => e = .returned (.bool (rgtB 1 n)) ∧ w' = w := by
  by_cases h1 : 1 ≤ n
  · by_cases h2 : n ≤ 4
    · have e : rgtB 1 n = true := by unfold rgtB; simp [h1, h2]
      rw [e]
      go_enter Tryd.func11, Tryd.ntmps11
      go_wp2
      go_ret
      exact ⟨rfl, rfl⟩
    · have e : rgtB 1 n = false := by unfold rgtB; simp [h2]
      rw [e]
      go_enter Tryd.func11, Tryd.ntmps11
      go_wp2
      go_ret
      exact ⟨rfl, rfl⟩
  · have e : rgtB 1 n = false := by unfold rgtB; simp [h1]
    rw [e]
    go_enter Tryd.func11, Tryd.ntmps11
    go_wp2
    go_ret
    exact ⟨rfl, rfl⟩

set_option maxRecDepth 100000 in
set_option maxHeartbeats 2000000 in
theorem pright_sbe (n : Int) (w : World) (hn : -9223372036854775808 ≤ n ∧ n ≤ 9223372036854775807) : Calls Tryd.prog 11 #[.string kSbe, .int .i64 n] w fun e w' => e = .returned (.bool (rgtB 2 n)) ∧ w' = w := by
  by_cases h1 : 1 ≤ n
  · by_cases h2 : n ≤ 4
    · have e : rgtB 2 n = true := by unfold rgtB; simp [h1, h2]
      rw [e]
      go_enter Tryd.func11, Tryd.ntmps11
      go_wp2
      go_ret
      exact ⟨rfl, rfl⟩
    · have e : rgtB 2 n = false := by unfold rgtB; simp [h2]
      rw [e]
      go_enter Tryd.func11, Tryd.ntmps11
      go_wp2
      go_ret
      exact ⟨rfl, rfl⟩
  · have e : rgtB 2 n = false := by unfold rgtB; simp [h1]
    rw [e]
    go_enter Tryd.func11, Tryd.ntmps11
    go_wp2
    go_ret
    exact ⟨rfl, rfl⟩

set_option maxRecDepth 100000 in
set_option maxHeartbeats 2000000 in
theorem pright_sle (n : Int) (w : World) (hn : -9223372036854775808 ≤ n ∧ n ≤ 9223372036854775807) : Calls Tryd.prog 11 #[.string kSle, .int .i64 n] w fun e w' => e = .returned (.bool (rgtB 3 n)) ∧ w' = w := by
  by_cases h1 : 1 ≤ n
  · by_cases h2 : n ≤ 4
    · have e : rgtB 3 n = true := by unfold rgtB; simp [h1, h2]
      rw [e]
      go_enter Tryd.func11, Tryd.ntmps11
      go_wp2
      go_ret
      exact ⟨rfl, rfl⟩
    · have e : rgtB 3 n = false := by unfold rgtB; simp [h2]
      rw [e]
      go_enter Tryd.func11, Tryd.ntmps11
      go_wp2
      go_ret
      exact ⟨rfl, rfl⟩
  · have e : rgtB 3 n = false := by unfold rgtB; simp [h1]
    rw [e]
    go_enter Tryd.func11, Tryd.ntmps11
    go_wp2
    go_ret
    exact ⟨rfl, rfl⟩

set_option maxRecDepth 100000 in
set_option maxHeartbeats 2000000 in
theorem pright_bcd (n : Int) (w : World) (hn : -9223372036854775808 ≤ n ∧ n ≤ 9223372036854775807) : Calls Tryd.prog 11 #[.string kBcd, .int .i64 n] w fun e w' => e = .returned (.bool (rgtB 4 n)) ∧ w' = w := by
  by_cases h1 : 1 ≤ n
  · by_cases h2 : n ≤ 4
    · have e : rgtB 4 n = true := by unfold rgtB; simp [h1, h2]
      rw [e]
      go_enter Tryd.func11, Tryd.ntmps11
      go_wp2
      go_ret
      exact ⟨rfl, rfl⟩
    · have e : rgtB 4 n = false := by unfold rgtB; simp [h2]
      rw [e]
      go_enter Tryd.func11, Tryd.ntmps11
      go_wp2
      go_ret
      exact ⟨rfl, rfl⟩
  · have e : rgtB 4 n = false := by unfold rgtB; simp [h1]
    rw [e]
    go_enter Tryd.func11, Tryd.ntmps11
    go_wp2
    go_ret
    exact ⟨rfl, rfl⟩

set_option maxRecDepth 100000 in
set_option maxHeartbeats 2000000 in
theorem pright_dec (n : Int) (w : World) (hn : -9223372036854775808 ≤ n ∧ n ≤ 9223372036854775807) : Calls Tryd.prog 11 #[.string kDec, .int .i64 n] w fun e w' => e = .returned (.bool (rgtB 5 n)) ∧ w' = w := by
  by_cases h1 : 1 ≤ n
  · by_cases h2 : n ≤ 8
    · have e : rgtB 5 n = true := by unfold rgtB; simp [h1, h2]
      rw [e]
      go_enter Tryd.func11, Tryd.ntmps11
      go_wp2
      go_ret
      exact ⟨rfl, rfl⟩
    · have e : rgtB 5 n = false := by unfold rgtB; simp [h2]
      rw [e]
      go_enter Tryd.func11, Tryd.ntmps11
      go_wp2
      go_ret
      exact ⟨rfl, rfl⟩
  · have e : rgtB 5 n = false := by unfold rgtB; simp [h1]
    rw [e]
    go_enter Tryd.func11, Tryd.ntmps11
    go_wp2
    go_ret
    exact ⟨rfl, rfl⟩

set_option maxRecDepth 100000 in
set_option maxHeartbeats 2000000 in
theorem pright_no (s : ByteArray) (n : Int) (w : World) (hs : NoKind s) : Calls Tryd.prog 11 #[.string s, .int .i64 n] w fun e w' => e = .returned (.bool (rgtB 6 n)) ∧ w' = w := by
  obtain ⟨n0, n1, n2, n3, n4, n5⟩ := hs
  have q0 := not_kBe n0
  have q1 := not_kLe n1
  have q2 := not_kSbe n2
  have q3 := not_kSle n3
  have q4 := not_kBcd n4
  have q5 := not_kDec n5
  clear n0 n1 n2 n3 n4 n5
  have e : rgtB 6 n = false := rfl
  rw [e]
  go_enter Tryd.func11, Tryd.ntmps11
  go_wp2
  go_ret
  exact ⟨rfl, rfl⟩
theorem pright_any (s : ByteArray) (n : Int) (w : World) (hn : -9223372036854775808 ≤ n ∧ n ≤ 9223372036854775807) : Calls Tryd.prog 11 #[.string s, .int .i64 n] w fun e w' => e = .returned (.bool (rgtB (kindI s) n)) ∧ w' = w := by
  rcases kind_cases s with rfl | rfl | rfl | rfl | rfl | rfl | hs
  · rw [kind_be]; exact pright_be n w hn
  · rw [kind_le]; exact pright_le n w hn
  · rw [kind_sbe]; exact pright_sbe n w hn
  · rw [kind_sle]; exact pright_sle n w hn
  · rw [kind_bcd]; exact pright_bcd n w hn
  · rw [kind_dec]; exact pright_dec n w hn
  · rw [kind_no hs]; exact pright_no s n w hs
theorem pbase_be (w : World) : Calls Tryd.prog 18 #[.string kBe] w fun e w' => e = .returned (.int .i64 256) ∧ w' = w := (callsIn_wide (n := 1)).1 (base_be _ 1 trivial rfl w)
theorem prt_be1 (w : World) : Calls Tryd.prog 11 #[.string kBe, .int .i64 1] w fun e w' => e = .returned (.bool true) ∧ w' = w := by
  have h := pright_be 1 w ⟨by omega, by omega⟩
  rwa [show rgtB 0 1 = true by decide] at h
set_option maxRecDepth 100000 in
set_option maxHeartbeats 4000000 in
theorem pends_be1 (w : World) : Calls Tryd.prog 9 #[.string kBe, .int .i64 1] w fun e w' => e = .returned (.tuple #[.int .i64 0, .int .i64 255]) ∧ w' = w := by
  go_enter Tryd.func9, Tryd.ntmps9
  go_wp2_with fail
  refine (prt_be1 _).mono ?_
  rintro e w1 ⟨rfl, rfl⟩
  go_wp2_with fail
  refine (pbase_be _).mono ?_
  rintro e w1 ⟨rfl, rfl⟩
  go_wp2_with fail
  refine (power_256_1 _).mono ?_
  rintro e w1 ⟨rfl, rfl⟩
  go_wp2
  go_ret2
  exact ⟨rfl, rfl⟩
theorem prt_be2 (w : World) : Calls Tryd.prog 11 #[.string kBe, .int .i64 2] w fun e w' => e = .returned (.bool true) ∧ w' = w := by
  have h := pright_be 2 w ⟨by omega, by omega⟩
  rwa [show rgtB 0 2 = true by decide] at h
set_option maxRecDepth 100000 in
set_option maxHeartbeats 4000000 in
theorem pends_be2 (w : World) : Calls Tryd.prog 9 #[.string kBe, .int .i64 2] w fun e w' => e = .returned (.tuple #[.int .i64 0, .int .i64 65535]) ∧ w' = w := by
  go_enter Tryd.func9, Tryd.ntmps9
  go_wp2_with fail
  refine (prt_be2 _).mono ?_
  rintro e w1 ⟨rfl, rfl⟩
  go_wp2_with fail
  refine (pbase_be _).mono ?_
  rintro e w1 ⟨rfl, rfl⟩
  go_wp2_with fail
  refine (power_256_2 _).mono ?_
  rintro e w1 ⟨rfl, rfl⟩
  go_wp2
  go_ret2
  exact ⟨rfl, rfl⟩
theorem prt_be3 (w : World) : Calls Tryd.prog 11 #[.string kBe, .int .i64 3] w fun e w' => e = .returned (.bool true) ∧ w' = w := by
  have h := pright_be 3 w ⟨by omega, by omega⟩
  rwa [show rgtB 0 3 = true by decide] at h
set_option maxRecDepth 100000 in
set_option maxHeartbeats 4000000 in
theorem pends_be3 (w : World) : Calls Tryd.prog 9 #[.string kBe, .int .i64 3] w fun e w' => e = .returned (.tuple #[.int .i64 0, .int .i64 16777215]) ∧ w' = w := by
  go_enter Tryd.func9, Tryd.ntmps9
  go_wp2_with fail
  refine (prt_be3 _).mono ?_
  rintro e w1 ⟨rfl, rfl⟩
  go_wp2_with fail
  refine (pbase_be _).mono ?_
  rintro e w1 ⟨rfl, rfl⟩
  go_wp2_with fail
  refine (power_256_3 _).mono ?_
  rintro e w1 ⟨rfl, rfl⟩
  go_wp2
  go_ret2
  exact ⟨rfl, rfl⟩
theorem prt_be4 (w : World) : Calls Tryd.prog 11 #[.string kBe, .int .i64 4] w fun e w' => e = .returned (.bool true) ∧ w' = w := by
  have h := pright_be 4 w ⟨by omega, by omega⟩
  rwa [show rgtB 0 4 = true by decide] at h
set_option maxRecDepth 100000 in
set_option maxHeartbeats 4000000 in
theorem pends_be4 (w : World) : Calls Tryd.prog 9 #[.string kBe, .int .i64 4] w fun e w' => e = .returned (.tuple #[.int .i64 0, .int .i64 4294967295]) ∧ w' = w := by
  go_enter Tryd.func9, Tryd.ntmps9
  go_wp2_with fail
  refine (prt_be4 _).mono ?_
  rintro e w1 ⟨rfl, rfl⟩
  go_wp2_with fail
  refine (pbase_be _).mono ?_
  rintro e w1 ⟨rfl, rfl⟩
  go_wp2_with fail
  refine (power_256_4 _).mono ?_
  rintro e w1 ⟨rfl, rfl⟩
  go_wp2
  go_ret2
  exact ⟨rfl, rfl⟩
theorem pbase_le (w : World) : Calls Tryd.prog 18 #[.string kLe] w fun e w' => e = .returned (.int .i64 256) ∧ w' = w := (callsIn_wide (n := 1)).1 (base_le _ 1 trivial rfl w)
theorem prt_le1 (w : World) : Calls Tryd.prog 11 #[.string kLe, .int .i64 1] w fun e w' => e = .returned (.bool true) ∧ w' = w := by
  have h := pright_le 1 w ⟨by omega, by omega⟩
  rwa [show rgtB 1 1 = true by decide] at h
set_option maxRecDepth 100000 in
set_option maxHeartbeats 4000000 in
theorem pends_le1 (w : World) : Calls Tryd.prog 9 #[.string kLe, .int .i64 1] w fun e w' => e = .returned (.tuple #[.int .i64 0, .int .i64 255]) ∧ w' = w := by
  go_enter Tryd.func9, Tryd.ntmps9
  go_wp2_with fail
  refine (prt_le1 _).mono ?_
  rintro e w1 ⟨rfl, rfl⟩
  go_wp2_with fail
  refine (pbase_le _).mono ?_
  rintro e w1 ⟨rfl, rfl⟩
  go_wp2_with fail
  refine (power_256_1 _).mono ?_
  rintro e w1 ⟨rfl, rfl⟩
  go_wp2
  go_ret2
  exact ⟨rfl, rfl⟩
theorem prt_le2 (w : World) : Calls Tryd.prog 11 #[.string kLe, .int .i64 2] w fun e w' => e = .returned (.bool true) ∧ w' = w := by
  have h := pright_le 2 w ⟨by omega, by omega⟩
  rwa [show rgtB 1 2 = true by decide] at h
set_option maxRecDepth 100000 in
set_option maxHeartbeats 4000000 in
theorem pends_le2 (w : World) : Calls Tryd.prog 9 #[.string kLe, .int .i64 2] w fun e w' => e = .returned (.tuple #[.int .i64 0, .int .i64 65535]) ∧ w' = w := by
  go_enter Tryd.func9, Tryd.ntmps9
  go_wp2_with fail
  refine (prt_le2 _).mono ?_
  rintro e w1 ⟨rfl, rfl⟩
  go_wp2_with fail
  refine (pbase_le _).mono ?_
  rintro e w1 ⟨rfl, rfl⟩
  go_wp2_with fail
  refine (power_256_2 _).mono ?_
  rintro e w1 ⟨rfl, rfl⟩
  go_wp2
  go_ret2
  exact ⟨rfl, rfl⟩
theorem prt_le3 (w : World) : Calls Tryd.prog 11 #[.string kLe, .int .i64 3] w fun e w' => e = .returned (.bool true) ∧ w' = w := by
  have h := pright_le 3 w ⟨by omega, by omega⟩
  rwa [show rgtB 1 3 = true by decide] at h
set_option maxRecDepth 100000 in
set_option maxHeartbeats 4000000 in
theorem pends_le3 (w : World) : Calls Tryd.prog 9 #[.string kLe, .int .i64 3] w fun e w' => e = .returned (.tuple #[.int .i64 0, .int .i64 16777215]) ∧ w' = w := by
  go_enter Tryd.func9, Tryd.ntmps9
  go_wp2_with fail
  refine (prt_le3 _).mono ?_
  rintro e w1 ⟨rfl, rfl⟩
  go_wp2_with fail
  refine (pbase_le _).mono ?_
  rintro e w1 ⟨rfl, rfl⟩
  go_wp2_with fail
  refine (power_256_3 _).mono ?_
  rintro e w1 ⟨rfl, rfl⟩
  go_wp2
  go_ret2
  exact ⟨rfl, rfl⟩
theorem prt_le4 (w : World) : Calls Tryd.prog 11 #[.string kLe, .int .i64 4] w fun e w' => e = .returned (.bool true) ∧ w' = w := by
  have h := pright_le 4 w ⟨by omega, by omega⟩
  rwa [show rgtB 1 4 = true by decide] at h
set_option maxRecDepth 100000 in
set_option maxHeartbeats 4000000 in
theorem pends_le4 (w : World) : Calls Tryd.prog 9 #[.string kLe, .int .i64 4] w fun e w' => e = .returned (.tuple #[.int .i64 0, .int .i64 4294967295]) ∧ w' = w := by
  go_enter Tryd.func9, Tryd.ntmps9
  go_wp2_with fail
  refine (prt_le4 _).mono ?_
  rintro e w1 ⟨rfl, rfl⟩
  go_wp2_with fail
  refine (pbase_le _).mono ?_
  rintro e w1 ⟨rfl, rfl⟩
  go_wp2_with fail
  refine (power_256_4 _).mono ?_
  rintro e w1 ⟨rfl, rfl⟩
  go_wp2
  go_ret2
  exact ⟨rfl, rfl⟩
theorem pbase_sbe (w : World) : Calls Tryd.prog 18 #[.string kSbe] w fun e w' => e = .returned (.int .i64 256) ∧ w' = w := (callsIn_wide (n := 1)).1 (base_sbe _ 1 trivial rfl w)
theorem prt_sbe1 (w : World) : Calls Tryd.prog 11 #[.string kSbe, .int .i64 1] w fun e w' => e = .returned (.bool true) ∧ w' = w := by
  have h := pright_sbe 1 w ⟨by omega, by omega⟩
  rwa [show rgtB 2 1 = true by decide] at h
set_option maxRecDepth 100000 in
set_option maxHeartbeats 4000000 in
theorem pends_sbe1 (w : World) : Calls Tryd.prog 9 #[.string kSbe, .int .i64 1] w fun e w' => e = .returned (.tuple #[.int .i64 (-128), .int .i64 127]) ∧ w' = w := by
  go_enter Tryd.func9, Tryd.ntmps9
  go_wp2_with fail
  refine (prt_sbe1 _).mono ?_
  rintro e w1 ⟨rfl, rfl⟩
  go_wp2_with fail
  refine (pbase_sbe _).mono ?_
  rintro e w1 ⟨rfl, rfl⟩
  go_wp2_with fail
  refine (power_256_1 _).mono ?_
  rintro e w1 ⟨rfl, rfl⟩
  go_wp2
  go_ret2
  exact ⟨rfl, rfl⟩
theorem prt_sbe2 (w : World) : Calls Tryd.prog 11 #[.string kSbe, .int .i64 2] w fun e w' => e = .returned (.bool true) ∧ w' = w := by
  have h := pright_sbe 2 w ⟨by omega, by omega⟩
  rwa [show rgtB 2 2 = true by decide] at h
set_option maxRecDepth 100000 in
set_option maxHeartbeats 4000000 in
theorem pends_sbe2 (w : World) : Calls Tryd.prog 9 #[.string kSbe, .int .i64 2] w fun e w' => e = .returned (.tuple #[.int .i64 (-32768), .int .i64 32767]) ∧ w' = w := by
  go_enter Tryd.func9, Tryd.ntmps9
  go_wp2_with fail
  refine (prt_sbe2 _).mono ?_
  rintro e w1 ⟨rfl, rfl⟩
  go_wp2_with fail
  refine (pbase_sbe _).mono ?_
  rintro e w1 ⟨rfl, rfl⟩
  go_wp2_with fail
  refine (power_256_2 _).mono ?_
  rintro e w1 ⟨rfl, rfl⟩
  go_wp2
  go_ret2
  exact ⟨rfl, rfl⟩
theorem prt_sbe3 (w : World) : Calls Tryd.prog 11 #[.string kSbe, .int .i64 3] w fun e w' => e = .returned (.bool true) ∧ w' = w := by
  have h := pright_sbe 3 w ⟨by omega, by omega⟩
  rwa [show rgtB 2 3 = true by decide] at h
set_option maxRecDepth 100000 in
set_option maxHeartbeats 4000000 in
theorem pends_sbe3 (w : World) : Calls Tryd.prog 9 #[.string kSbe, .int .i64 3] w fun e w' => e = .returned (.tuple #[.int .i64 (-8388608), .int .i64 8388607]) ∧ w' = w := by
  go_enter Tryd.func9, Tryd.ntmps9
  go_wp2_with fail
  refine (prt_sbe3 _).mono ?_
  rintro e w1 ⟨rfl, rfl⟩
  go_wp2_with fail
  refine (pbase_sbe _).mono ?_
  rintro e w1 ⟨rfl, rfl⟩
  go_wp2_with fail
  refine (power_256_3 _).mono ?_
  rintro e w1 ⟨rfl, rfl⟩
  go_wp2
  go_ret2
  exact ⟨rfl, rfl⟩
theorem prt_sbe4 (w : World) : Calls Tryd.prog 11 #[.string kSbe, .int .i64 4] w fun e w' => e = .returned (.bool true) ∧ w' = w := by
  have h := pright_sbe 4 w ⟨by omega, by omega⟩
  rwa [show rgtB 2 4 = true by decide] at h
set_option maxRecDepth 100000 in
set_option maxHeartbeats 4000000 in
theorem pends_sbe4 (w : World) : Calls Tryd.prog 9 #[.string kSbe, .int .i64 4] w fun e w' => e = .returned (.tuple #[.int .i64 (-2147483648), .int .i64 2147483647]) ∧ w' = w := by
  go_enter Tryd.func9, Tryd.ntmps9
  go_wp2_with fail
  refine (prt_sbe4 _).mono ?_
  rintro e w1 ⟨rfl, rfl⟩
  go_wp2_with fail
  refine (pbase_sbe _).mono ?_
  rintro e w1 ⟨rfl, rfl⟩
  go_wp2_with fail
  refine (power_256_4 _).mono ?_
  rintro e w1 ⟨rfl, rfl⟩
  go_wp2
  go_ret2
  exact ⟨rfl, rfl⟩
theorem pbase_sle (w : World) : Calls Tryd.prog 18 #[.string kSle] w fun e w' => e = .returned (.int .i64 256) ∧ w' = w := (callsIn_wide (n := 1)).1 (base_sle _ 1 trivial rfl w)
theorem prt_sle1 (w : World) : Calls Tryd.prog 11 #[.string kSle, .int .i64 1] w fun e w' => e = .returned (.bool true) ∧ w' = w := by
  have h := pright_sle 1 w ⟨by omega, by omega⟩
  rwa [show rgtB 3 1 = true by decide] at h
set_option maxRecDepth 100000 in
set_option maxHeartbeats 4000000 in
theorem pends_sle1 (w : World) : Calls Tryd.prog 9 #[.string kSle, .int .i64 1] w fun e w' => e = .returned (.tuple #[.int .i64 (-128), .int .i64 127]) ∧ w' = w := by
  go_enter Tryd.func9, Tryd.ntmps9
  go_wp2_with fail
  refine (prt_sle1 _).mono ?_
  rintro e w1 ⟨rfl, rfl⟩
  go_wp2_with fail
  refine (pbase_sle _).mono ?_
  rintro e w1 ⟨rfl, rfl⟩
  go_wp2_with fail
  refine (power_256_1 _).mono ?_
  rintro e w1 ⟨rfl, rfl⟩
  go_wp2
  go_ret2
  exact ⟨rfl, rfl⟩
theorem prt_sle2 (w : World) : Calls Tryd.prog 11 #[.string kSle, .int .i64 2] w fun e w' => e = .returned (.bool true) ∧ w' = w := by
  have h := pright_sle 2 w ⟨by omega, by omega⟩
  rwa [show rgtB 3 2 = true by decide] at h
set_option maxRecDepth 100000 in
set_option maxHeartbeats 4000000 in
theorem pends_sle2 (w : World) : Calls Tryd.prog 9 #[.string kSle, .int .i64 2] w fun e w' => e = .returned (.tuple #[.int .i64 (-32768), .int .i64 32767]) ∧ w' = w := by
  go_enter Tryd.func9, Tryd.ntmps9
  go_wp2_with fail
  refine (prt_sle2 _).mono ?_
  rintro e w1 ⟨rfl, rfl⟩
  go_wp2_with fail
  refine (pbase_sle _).mono ?_
  rintro e w1 ⟨rfl, rfl⟩
  go_wp2_with fail
  refine (power_256_2 _).mono ?_
  rintro e w1 ⟨rfl, rfl⟩
  go_wp2
  go_ret2
  exact ⟨rfl, rfl⟩
theorem prt_sle3 (w : World) : Calls Tryd.prog 11 #[.string kSle, .int .i64 3] w fun e w' => e = .returned (.bool true) ∧ w' = w := by
  have h := pright_sle 3 w ⟨by omega, by omega⟩
  rwa [show rgtB 3 3 = true by decide] at h
set_option maxRecDepth 100000 in
set_option maxHeartbeats 4000000 in
theorem pends_sle3 (w : World) : Calls Tryd.prog 9 #[.string kSle, .int .i64 3] w fun e w' => e = .returned (.tuple #[.int .i64 (-8388608), .int .i64 8388607]) ∧ w' = w := by
  go_enter Tryd.func9, Tryd.ntmps9
  go_wp2_with fail
  refine (prt_sle3 _).mono ?_
  rintro e w1 ⟨rfl, rfl⟩
  go_wp2_with fail
  refine (pbase_sle _).mono ?_
  rintro e w1 ⟨rfl, rfl⟩
  go_wp2_with fail
  refine (power_256_3 _).mono ?_
  rintro e w1 ⟨rfl, rfl⟩
  go_wp2
  go_ret2
  exact ⟨rfl, rfl⟩
theorem prt_sle4 (w : World) : Calls Tryd.prog 11 #[.string kSle, .int .i64 4] w fun e w' => e = .returned (.bool true) ∧ w' = w := by
  have h := pright_sle 4 w ⟨by omega, by omega⟩
  rwa [show rgtB 3 4 = true by decide] at h
set_option maxRecDepth 100000 in
set_option maxHeartbeats 4000000 in
theorem pends_sle4 (w : World) : Calls Tryd.prog 9 #[.string kSle, .int .i64 4] w fun e w' => e = .returned (.tuple #[.int .i64 (-2147483648), .int .i64 2147483647]) ∧ w' = w := by
  go_enter Tryd.func9, Tryd.ntmps9
  go_wp2_with fail
  refine (prt_sle4 _).mono ?_
  rintro e w1 ⟨rfl, rfl⟩
  go_wp2_with fail
  refine (pbase_sle _).mono ?_
  rintro e w1 ⟨rfl, rfl⟩
  go_wp2_with fail
  refine (power_256_4 _).mono ?_
  rintro e w1 ⟨rfl, rfl⟩
  go_wp2
  go_ret2
  exact ⟨rfl, rfl⟩
theorem pbase_bcd (w : World) : Calls Tryd.prog 18 #[.string kBcd] w fun e w' => e = .returned (.int .i64 100) ∧ w' = w := (callsIn_wide (n := 1)).1 (base_bcd _ 1 trivial rfl w)
theorem prt_bcd1 (w : World) : Calls Tryd.prog 11 #[.string kBcd, .int .i64 1] w fun e w' => e = .returned (.bool true) ∧ w' = w := by
  have h := pright_bcd 1 w ⟨by omega, by omega⟩
  rwa [show rgtB 4 1 = true by decide] at h
set_option maxRecDepth 100000 in
set_option maxHeartbeats 4000000 in
theorem pends_bcd1 (w : World) : Calls Tryd.prog 9 #[.string kBcd, .int .i64 1] w fun e w' => e = .returned (.tuple #[.int .i64 0, .int .i64 99]) ∧ w' = w := by
  go_enter Tryd.func9, Tryd.ntmps9
  go_wp2_with fail
  refine (prt_bcd1 _).mono ?_
  rintro e w1 ⟨rfl, rfl⟩
  go_wp2_with fail
  refine (pbase_bcd _).mono ?_
  rintro e w1 ⟨rfl, rfl⟩
  go_wp2_with fail
  refine (power_100_1 _).mono ?_
  rintro e w1 ⟨rfl, rfl⟩
  go_wp2
  go_ret2
  exact ⟨rfl, rfl⟩
theorem prt_bcd2 (w : World) : Calls Tryd.prog 11 #[.string kBcd, .int .i64 2] w fun e w' => e = .returned (.bool true) ∧ w' = w := by
  have h := pright_bcd 2 w ⟨by omega, by omega⟩
  rwa [show rgtB 4 2 = true by decide] at h
set_option maxRecDepth 100000 in
set_option maxHeartbeats 4000000 in
theorem pends_bcd2 (w : World) : Calls Tryd.prog 9 #[.string kBcd, .int .i64 2] w fun e w' => e = .returned (.tuple #[.int .i64 0, .int .i64 9999]) ∧ w' = w := by
  go_enter Tryd.func9, Tryd.ntmps9
  go_wp2_with fail
  refine (prt_bcd2 _).mono ?_
  rintro e w1 ⟨rfl, rfl⟩
  go_wp2_with fail
  refine (pbase_bcd _).mono ?_
  rintro e w1 ⟨rfl, rfl⟩
  go_wp2_with fail
  refine (power_100_2 _).mono ?_
  rintro e w1 ⟨rfl, rfl⟩
  go_wp2
  go_ret2
  exact ⟨rfl, rfl⟩
theorem prt_bcd3 (w : World) : Calls Tryd.prog 11 #[.string kBcd, .int .i64 3] w fun e w' => e = .returned (.bool true) ∧ w' = w := by
  have h := pright_bcd 3 w ⟨by omega, by omega⟩
  rwa [show rgtB 4 3 = true by decide] at h
set_option maxRecDepth 100000 in
set_option maxHeartbeats 4000000 in
theorem pends_bcd3 (w : World) : Calls Tryd.prog 9 #[.string kBcd, .int .i64 3] w fun e w' => e = .returned (.tuple #[.int .i64 0, .int .i64 999999]) ∧ w' = w := by
  go_enter Tryd.func9, Tryd.ntmps9
  go_wp2_with fail
  refine (prt_bcd3 _).mono ?_
  rintro e w1 ⟨rfl, rfl⟩
  go_wp2_with fail
  refine (pbase_bcd _).mono ?_
  rintro e w1 ⟨rfl, rfl⟩
  go_wp2_with fail
  refine (power_100_3 _).mono ?_
  rintro e w1 ⟨rfl, rfl⟩
  go_wp2
  go_ret2
  exact ⟨rfl, rfl⟩
theorem prt_bcd4 (w : World) : Calls Tryd.prog 11 #[.string kBcd, .int .i64 4] w fun e w' => e = .returned (.bool true) ∧ w' = w := by
  have h := pright_bcd 4 w ⟨by omega, by omega⟩
  rwa [show rgtB 4 4 = true by decide] at h
set_option maxRecDepth 100000 in
set_option maxHeartbeats 4000000 in
theorem pends_bcd4 (w : World) : Calls Tryd.prog 9 #[.string kBcd, .int .i64 4] w fun e w' => e = .returned (.tuple #[.int .i64 0, .int .i64 99999999]) ∧ w' = w := by
  go_enter Tryd.func9, Tryd.ntmps9
  go_wp2_with fail
  refine (prt_bcd4 _).mono ?_
  rintro e w1 ⟨rfl, rfl⟩
  go_wp2_with fail
  refine (pbase_bcd _).mono ?_
  rintro e w1 ⟨rfl, rfl⟩
  go_wp2_with fail
  refine (power_100_4 _).mono ?_
  rintro e w1 ⟨rfl, rfl⟩
  go_wp2
  go_ret2
  exact ⟨rfl, rfl⟩
theorem pbase_dec (w : World) : Calls Tryd.prog 18 #[.string kDec] w fun e w' => e = .returned (.int .i64 10) ∧ w' = w := (callsIn_wide (n := 1)).1 (base_dec _ 1 trivial rfl w)
theorem prt_dec1 (w : World) : Calls Tryd.prog 11 #[.string kDec, .int .i64 1] w fun e w' => e = .returned (.bool true) ∧ w' = w := by
  have h := pright_dec 1 w ⟨by omega, by omega⟩
  rwa [show rgtB 5 1 = true by decide] at h
set_option maxRecDepth 100000 in
set_option maxHeartbeats 4000000 in
theorem pends_dec1 (w : World) : Calls Tryd.prog 9 #[.string kDec, .int .i64 1] w fun e w' => e = .returned (.tuple #[.int .i64 0, .int .i64 9]) ∧ w' = w := by
  go_enter Tryd.func9, Tryd.ntmps9
  go_wp2_with fail
  refine (prt_dec1 _).mono ?_
  rintro e w1 ⟨rfl, rfl⟩
  go_wp2_with fail
  refine (pbase_dec _).mono ?_
  rintro e w1 ⟨rfl, rfl⟩
  go_wp2_with fail
  refine (power_10_1 _).mono ?_
  rintro e w1 ⟨rfl, rfl⟩
  go_wp2_with fail
  refine (power_10_0 _).mono ?_
  rintro e w1 ⟨rfl, rfl⟩
  go_wp2
  go_ret2
  exact ⟨rfl, rfl⟩
theorem prt_dec2 (w : World) : Calls Tryd.prog 11 #[.string kDec, .int .i64 2] w fun e w' => e = .returned (.bool true) ∧ w' = w := by
  have h := pright_dec 2 w ⟨by omega, by omega⟩
  rwa [show rgtB 5 2 = true by decide] at h
set_option maxRecDepth 100000 in
set_option maxHeartbeats 4000000 in
theorem pends_dec2 (w : World) : Calls Tryd.prog 9 #[.string kDec, .int .i64 2] w fun e w' => e = .returned (.tuple #[.int .i64 (-9), .int .i64 99]) ∧ w' = w := by
  go_enter Tryd.func9, Tryd.ntmps9
  go_wp2_with fail
  refine (prt_dec2 _).mono ?_
  rintro e w1 ⟨rfl, rfl⟩
  go_wp2_with fail
  refine (pbase_dec _).mono ?_
  rintro e w1 ⟨rfl, rfl⟩
  go_wp2_with fail
  refine (power_10_2 _).mono ?_
  rintro e w1 ⟨rfl, rfl⟩
  go_wp2_with fail
  refine (power_10_1 _).mono ?_
  rintro e w1 ⟨rfl, rfl⟩
  go_wp2
  go_ret2
  exact ⟨rfl, rfl⟩
theorem prt_dec3 (w : World) : Calls Tryd.prog 11 #[.string kDec, .int .i64 3] w fun e w' => e = .returned (.bool true) ∧ w' = w := by
  have h := pright_dec 3 w ⟨by omega, by omega⟩
  rwa [show rgtB 5 3 = true by decide] at h
set_option maxRecDepth 100000 in
set_option maxHeartbeats 4000000 in
theorem pends_dec3 (w : World) : Calls Tryd.prog 9 #[.string kDec, .int .i64 3] w fun e w' => e = .returned (.tuple #[.int .i64 (-99), .int .i64 999]) ∧ w' = w := by
  go_enter Tryd.func9, Tryd.ntmps9
  go_wp2_with fail
  refine (prt_dec3 _).mono ?_
  rintro e w1 ⟨rfl, rfl⟩
  go_wp2_with fail
  refine (pbase_dec _).mono ?_
  rintro e w1 ⟨rfl, rfl⟩
  go_wp2_with fail
  refine (power_10_3 _).mono ?_
  rintro e w1 ⟨rfl, rfl⟩
  go_wp2_with fail
  refine (power_10_2 _).mono ?_
  rintro e w1 ⟨rfl, rfl⟩
  go_wp2
  go_ret2
  exact ⟨rfl, rfl⟩
theorem prt_dec4 (w : World) : Calls Tryd.prog 11 #[.string kDec, .int .i64 4] w fun e w' => e = .returned (.bool true) ∧ w' = w := by
  have h := pright_dec 4 w ⟨by omega, by omega⟩
  rwa [show rgtB 5 4 = true by decide] at h
set_option maxRecDepth 100000 in
set_option maxHeartbeats 4000000 in
theorem pends_dec4 (w : World) : Calls Tryd.prog 9 #[.string kDec, .int .i64 4] w fun e w' => e = .returned (.tuple #[.int .i64 (-999), .int .i64 9999]) ∧ w' = w := by
  go_enter Tryd.func9, Tryd.ntmps9
  go_wp2_with fail
  refine (prt_dec4 _).mono ?_
  rintro e w1 ⟨rfl, rfl⟩
  go_wp2_with fail
  refine (pbase_dec _).mono ?_
  rintro e w1 ⟨rfl, rfl⟩
  go_wp2_with fail
  refine (power_10_4 _).mono ?_
  rintro e w1 ⟨rfl, rfl⟩
  go_wp2_with fail
  refine (power_10_3 _).mono ?_
  rintro e w1 ⟨rfl, rfl⟩
  go_wp2
  go_ret2
  exact ⟨rfl, rfl⟩
theorem prt_dec5 (w : World) : Calls Tryd.prog 11 #[.string kDec, .int .i64 5] w fun e w' => e = .returned (.bool true) ∧ w' = w := by
  have h := pright_dec 5 w ⟨by omega, by omega⟩
  rwa [show rgtB 5 5 = true by decide] at h
set_option maxRecDepth 100000 in
set_option maxHeartbeats 4000000 in
theorem pends_dec5 (w : World) : Calls Tryd.prog 9 #[.string kDec, .int .i64 5] w fun e w' => e = .returned (.tuple #[.int .i64 (-9999), .int .i64 99999]) ∧ w' = w := by
  go_enter Tryd.func9, Tryd.ntmps9
  go_wp2_with fail
  refine (prt_dec5 _).mono ?_
  rintro e w1 ⟨rfl, rfl⟩
  go_wp2_with fail
  refine (pbase_dec _).mono ?_
  rintro e w1 ⟨rfl, rfl⟩
  go_wp2_with fail
  refine (power_10_5 _).mono ?_
  rintro e w1 ⟨rfl, rfl⟩
  go_wp2_with fail
  refine (power_10_4 _).mono ?_
  rintro e w1 ⟨rfl, rfl⟩
  go_wp2
  go_ret2
  exact ⟨rfl, rfl⟩
theorem prt_dec6 (w : World) : Calls Tryd.prog 11 #[.string kDec, .int .i64 6] w fun e w' => e = .returned (.bool true) ∧ w' = w := by
  have h := pright_dec 6 w ⟨by omega, by omega⟩
  rwa [show rgtB 5 6 = true by decide] at h
set_option maxRecDepth 100000 in
set_option maxHeartbeats 4000000 in
theorem pends_dec6 (w : World) : Calls Tryd.prog 9 #[.string kDec, .int .i64 6] w fun e w' => e = .returned (.tuple #[.int .i64 (-99999), .int .i64 999999]) ∧ w' = w := by
  go_enter Tryd.func9, Tryd.ntmps9
  go_wp2_with fail
  refine (prt_dec6 _).mono ?_
  rintro e w1 ⟨rfl, rfl⟩
  go_wp2_with fail
  refine (pbase_dec _).mono ?_
  rintro e w1 ⟨rfl, rfl⟩
  go_wp2_with fail
  refine (power_10_6 _).mono ?_
  rintro e w1 ⟨rfl, rfl⟩
  go_wp2_with fail
  refine (power_10_5 _).mono ?_
  rintro e w1 ⟨rfl, rfl⟩
  go_wp2
  go_ret2
  exact ⟨rfl, rfl⟩
theorem prt_dec7 (w : World) : Calls Tryd.prog 11 #[.string kDec, .int .i64 7] w fun e w' => e = .returned (.bool true) ∧ w' = w := by
  have h := pright_dec 7 w ⟨by omega, by omega⟩
  rwa [show rgtB 5 7 = true by decide] at h
set_option maxRecDepth 100000 in
set_option maxHeartbeats 4000000 in
theorem pends_dec7 (w : World) : Calls Tryd.prog 9 #[.string kDec, .int .i64 7] w fun e w' => e = .returned (.tuple #[.int .i64 (-999999), .int .i64 9999999]) ∧ w' = w := by
  go_enter Tryd.func9, Tryd.ntmps9
  go_wp2_with fail
  refine (prt_dec7 _).mono ?_
  rintro e w1 ⟨rfl, rfl⟩
  go_wp2_with fail
  refine (pbase_dec _).mono ?_
  rintro e w1 ⟨rfl, rfl⟩
  go_wp2_with fail
  refine (power_10_7 _).mono ?_
  rintro e w1 ⟨rfl, rfl⟩
  go_wp2_with fail
  refine (power_10_6 _).mono ?_
  rintro e w1 ⟨rfl, rfl⟩
  go_wp2
  go_ret2
  exact ⟨rfl, rfl⟩
theorem prt_dec8 (w : World) : Calls Tryd.prog 11 #[.string kDec, .int .i64 8] w fun e w' => e = .returned (.bool true) ∧ w' = w := by
  have h := pright_dec 8 w ⟨by omega, by omega⟩
  rwa [show rgtB 5 8 = true by decide] at h
set_option maxRecDepth 100000 in
set_option maxHeartbeats 4000000 in
theorem pends_dec8 (w : World) : Calls Tryd.prog 9 #[.string kDec, .int .i64 8] w fun e w' => e = .returned (.tuple #[.int .i64 (-9999999), .int .i64 99999999]) ∧ w' = w := by
  go_enter Tryd.func9, Tryd.ntmps9
  go_wp2_with fail
  refine (prt_dec8 _).mono ?_
  rintro e w1 ⟨rfl, rfl⟩
  go_wp2_with fail
  refine (pbase_dec _).mono ?_
  rintro e w1 ⟨rfl, rfl⟩
  go_wp2_with fail
  refine (power_10_8 _).mono ?_
  rintro e w1 ⟨rfl, rfl⟩
  go_wp2_with fail
  refine (power_10_7 _).mono ?_
  rintro e w1 ⟨rfl, rfl⟩
  go_wp2
  go_ret2
  exact ⟨rfl, rfl⟩

set_option maxRecDepth 100000 in
set_option maxHeartbeats 4000000 in
theorem pends_none (s : ByteArray) (n : Int) (w : World) (hR : Hid (∀ x : World, Calls Tryd.prog 11 #[.string s, .int .i64 n] x fun e w' => e = .returned (.bool false) ∧ w' = x)) : Calls Tryd.prog 9 #[.string s, .int .i64 n] w fun e w' => e = .returned (.tuple #[.int .i64 0, .int .i64 0]) ∧ w' = w := by
  go_enter Tryd.func9, Tryd.ntmps9
  go_wp2_with fail
  refine (hR.out _).mono ?_
  rintro e w1 ⟨rfl, rfl⟩
  go_wp2
  go_ret2
  exact ⟨rfl, rfl⟩
theorem pends_yes (s : ByteArray) (n : Int) (w : World) (h : rgtB (kindI s) n = true) : Calls Tryd.prog 9 #[.string s, .int .i64 n] w fun e w' => e = .returned (.tuple #[.int .i64 (loK (kindI s) n.toNat), .int .i64 (hiK (kindI s) n.toNat)]) ∧ w' = w := by
  rcases kind_cases s with rfl | rfl | rfl | rfl | rfl | rfl | hs
  · rw [kind_be] at *
    have hn : n = 1 ∨ n = 2 ∨ n = 3 ∨ n = 4 := by
      rcases rgt_cases h with ⟨h1, h2, h3⟩ | ⟨h1, h2, h3⟩ <;> omega
    rcases hn with rfl | rfl | rfl | rfl
    · exact pends_be1 w
    · exact pends_be2 w
    · exact pends_be3 w
    · exact pends_be4 w
  · rw [kind_le] at *
    have hn : n = 1 ∨ n = 2 ∨ n = 3 ∨ n = 4 := by
      rcases rgt_cases h with ⟨h1, h2, h3⟩ | ⟨h1, h2, h3⟩ <;> omega
    rcases hn with rfl | rfl | rfl | rfl
    · exact pends_le1 w
    · exact pends_le2 w
    · exact pends_le3 w
    · exact pends_le4 w
  · rw [kind_sbe] at *
    have hn : n = 1 ∨ n = 2 ∨ n = 3 ∨ n = 4 := by
      rcases rgt_cases h with ⟨h1, h2, h3⟩ | ⟨h1, h2, h3⟩ <;> omega
    rcases hn with rfl | rfl | rfl | rfl
    · exact pends_sbe1 w
    · exact pends_sbe2 w
    · exact pends_sbe3 w
    · exact pends_sbe4 w
  · rw [kind_sle] at *
    have hn : n = 1 ∨ n = 2 ∨ n = 3 ∨ n = 4 := by
      rcases rgt_cases h with ⟨h1, h2, h3⟩ | ⟨h1, h2, h3⟩ <;> omega
    rcases hn with rfl | rfl | rfl | rfl
    · exact pends_sle1 w
    · exact pends_sle2 w
    · exact pends_sle3 w
    · exact pends_sle4 w
  · rw [kind_bcd] at *
    have hn : n = 1 ∨ n = 2 ∨ n = 3 ∨ n = 4 := by
      rcases rgt_cases h with ⟨h1, h2, h3⟩ | ⟨h1, h2, h3⟩ <;> omega
    rcases hn with rfl | rfl | rfl | rfl
    · exact pends_bcd1 w
    · exact pends_bcd2 w
    · exact pends_bcd3 w
    · exact pends_bcd4 w
  · rw [kind_dec] at *
    have hn : n = 1 ∨ n = 2 ∨ n = 3 ∨ n = 4 ∨ n = 5 ∨ n = 6 ∨ n = 7 ∨ n = 8 := by
      rcases rgt_cases h with ⟨h1, h2, h3⟩ | ⟨h1, h2, h3⟩ <;> omega
    rcases hn with rfl | rfl | rfl | rfl | rfl | rfl | rfl | rfl
    · exact pends_dec1 w
    · exact pends_dec2 w
    · exact pends_dec3 w
    · exact pends_dec4 w
    · exact pends_dec5 w
    · exact pends_dec6 w
    · exact pends_dec7 w
    · exact pends_dec8 w
  · rw [kind_no hs] at h; cases h
theorem pends_any (s : ByteArray) (n : Int) (w : World) (hn : I64r n) : Calls Tryd.prog 9 #[.string s, .int .i64 n] w fun e w' => e = .returned (.tuple #[.int .i64 (endLo (kindI s) n), .int .i64 (endHi (kindI s) n)]) ∧ w' = w := by
  unfold endLo endHi
  cases h : rgtB (kindI s) n with
  | true => rw [if_pos rfl, if_pos rfl]; exact pends_yes s n w h
  | false =>
    rw [if_neg (by decide), if_neg (by decide)]
    exact pends_none s n w (fun x => by have k := pright_any s n x hn; rwa [h] at k)
theorem HR : RightP := fun s n w hn => same_b (pright_any s n w hn)
theorem HE : EndsP := fun s n w hn => same_b (pends_any s n w hn)
end Go.Proofs.YtiimmebcmehnhaaDoor
