/-
  What whole.plain and whole.lessThanZero return, called with any text. Conditions: the text fits memory; of the second: all its bytes are digits.
-/
import Derived.Test.YteemaofajcbniaaDoorIntsW
import Derived.Test.YteemaofajcbniaaDoorReadsK
import Derived.Lib.Strings
import Derived.Lib.IndexBytes
namespace Go.Proofs.YteemaofajcbniaaDoor
open Go.RowKit
set_option linter.unusedVariables false

set_option maxHeartbeats 400000 in
theorem plain_loop (s : ByteArray) (w : World) (hs : s.size ≤ maxLen) (h0 : 0 < s.size) (hd : ¬((s[0].toNat : Int) = 48 ∧ (1 : Int) < (s.size : Int))) :
    Calls Tryd.prog 30 #[.string s] w fun e w' => e = .returned (.bool (allB s.data.toList)) ∧ w' = w := by
  unfold maxLen at hs
  have he := empty_no h0
  have hne : ¬ s.toList = [] := by
    intro e; rw [e] at he; simp at he
  rcases (by omega : ¬ ((s[0].toNat : Int) = 48) ∨ (s[0].toNat : Int) = 48 ∧ (s.size : Int) ≤ 1) with hc | ⟨hc, hc2⟩
  all_goals
    clear hd
    go_enter Tryd.func30, Tryd.ntmps30
    go_wp2
    go_loop [18] (fun i => ∃ k : Nat, k ≤ s.size ∧ i = .int .i64 (k : Int) ∧ Hid (allB (s.data.toList.take k) = true)) (fun i => s.size - (intOf i).toNat)
    case atStart => exact ⟨0, Nat.zero_le _, rfl, rfl⟩
    case round =>
      obtain ⟨k, hk, rfl, hall⟩ := hrel
      by_cases hlt : k < s.size
      · have hn : Hid (isd s[k] = false → allB s.data.toList = false) := all_not s k hlt
        have hy : Hid (isd s[k] = true → allB (s.data.toList.take (k + 1)) = true) := fun h => by
          have h2 := hall.out
          unfold allB at h2 ⊢
          rw [all_take s k hlt, h2, h]; rfl
        go_wp2
        all_goals
          first
            | (go_ret; first | exact ⟨ret_b' (hn.out (isd_low (by omega))), rfl⟩ | exact ⟨ret_b' (hn.out (isd_high (by omega))), rfl⟩)
            | (go_round
               case rel => exact ⟨k + 1, by omega, by go_num, hy.out (isd_mid (by omega) (by omega))⟩
               case measure => simp [intOf]; omega)
      · have hf : Hid (allB s.data.toList = true) := by
          have := hall.out
          rw [List.take_of_length_le (by simp; omega)] at this
          exact this
        go_wp2
        go_ret
        exact ⟨ret_b' hf.out, rfl⟩

set_option maxHeartbeats 400000 in
theorem wplain_any (s : ByteArray) (w : World) (hs : s.size ≤ maxLen) :
    Calls Tryd.prog 30 #[.string s] w fun e w' => e = .returned (.bool (plainB s.data.toList)) ∧ w' = w := by
  by_cases h0 : 0 < s.size
  · by_cases hd : (s[0].toNat : Int) = 48 ∧ (1 : Int) < (s.size : Int)
    · rw [plainB_zero h0 hd.1 hd.2]
      unfold maxLen at hs
      have he := empty_no h0
      have hne : ¬ s.toList = [] := by
        intro e; rw [e] at he; simp at he
      obtain ⟨hd1, hd2⟩ := hd
      go_enter Tryd.func30, Tryd.ntmps30
      go_wp2
      go_ret
      exact ⟨rfl, rfl⟩
    · rw [plainB_loop h0 hd]
      exact plain_loop s w hs h0 hd
  · rw [plainB_none (by omega)]
    have he := empty_yes (s := s) (by omega)
    unfold maxLen at hs
    go_enter Tryd.func30, Tryd.ntmps30
    go_wp2
    go_ret
    exact ⟨rfl, rfl⟩

set_option maxHeartbeats 1000000 in
theorem ltz_any (s : ByteArray) (w : World) (hs : s.size ≤ maxLen) (hall : allB s.data.toList = true) :
    Calls Tryd.prog 31 #[.string s] w fun e w' => e = .returned (.tuple #[.int .i64 (fitV (-(val s.data.toList : Int))), .bool (fitB (-(val s.data.toList : Int)))]) ∧ w' = w := by
  unfold maxLen at hs
  have HA : Hid _ := hall
  clear hall
  go_enter Tryd.func31, Tryd.ntmps31
  go_wp2
  go_loop [4, 10] (fun n i => ∃ k v : Nat, k ≤ s.size ∧ i = .int .i64 (k : Int) ∧ n = .int .i64 (-(v : Int)) ∧ (v : Int) ≤ 9223372036854775808 ∧ Hid (v = val (s.data.toList.take k))) (fun _ i => s.size - (intOf i).toNat)
  case atStart => exact ⟨0, 0, Nat.zero_le _, rfl, rfl, by omega, rfl⟩
  case round =>
    obtain ⟨k, v, hk, rfl, rfl, hv, hve⟩ := hrel
    by_cases hlt : k < s.size
    · obtain ⟨hd1, hd2⟩ := all_get s HA.out k hlt
      have hnx : Hid (val (s.data.toList.take (k + 1)) = 10 * v + (s[k].toNat - 48)) := by
        show _ = _
        rw [val_next s k hlt, ← hve.out]
      by_cases c1 : 9223372036854775808 < 10 * (v : Int)
      · have f1 : ∀ w, Calls Tryd.prog 36 #[.int .i64 (-(v : Int)), .int .i64 10] w fun e w' => e = .returned (.tuple #[.int .i64 0, .bool false]) ∧ w' = w := fun w => by
          have := mul_any (-(v : Int)) 10 w (by omega) (by omega)
          rw [(fit_no (by omega)).1, (fit_no (by omega)).2] at this
          exact this
        have F1 : Hid _ := f1
        clear f1
        go_wp2_with fail
        refine (F1.out _).mono ?_
        rintro e w' ⟨rfl, rfl⟩
        go_wp2
        go_ret2
        exact ⟨ret_nb (ltz_over (k := k + 1) (by rw [hnx.out]; omega)), rfl⟩
      · have f1 : ∀ w, Calls Tryd.prog 36 #[.int .i64 (-(v : Int)), .int .i64 10] w fun e w' => e = .returned (.tuple #[.int .i64 (-(v : Int) * 10), .bool true]) ∧ w' = w := fun w => by
          have := mul_any (-(v : Int)) 10 w (by omega) (by omega)
          rw [(fit_yes (by omega)).1, (fit_yes (by omega)).2] at this
          exact this
        have F1 : Hid _ := f1
        clear f1
        by_cases c2 : 9223372036854775808 < 10 * (v : Int) + ((s[k].toNat : Int) - 48)
        · have f2 : ∀ w, Calls Tryd.prog 37 #[.int .i64 (-(v : Int) * 10), .int .i64 (-((s[k].toNat : Int) - 48))] w fun e w' => e = .returned (.tuple #[.int .i64 0, .bool false]) ∧ w' = w := fun w => by
            have := add_any (-(v : Int) * 10) (-((s[k].toNat : Int) - 48)) w (by omega) (by omega)
            rw [(fit_no (by omega)).1, (fit_no (by omega)).2] at this
            exact this
          have F2 : Hid _ := f2
          clear f2
          go_wp2_with fail
          refine (F1.out _).mono ?_
          rintro e w' ⟨rfl, rfl⟩
          go_wp2_with fail
          refine (F2.out _).mono ?_
          rintro e w' ⟨rfl, rfl⟩
          go_wp2
          go_ret2
          exact ⟨ret_nb (ltz_over (k := k + 1) (by rw [hnx.out]; omega)), rfl⟩
        · have f2 : ∀ w, Calls Tryd.prog 37 #[.int .i64 (-(v : Int) * 10), .int .i64 (-((s[k].toNat : Int) - 48))] w fun e w' => e = .returned (.tuple #[.int .i64 (-(v : Int) * 10 + -((s[k].toNat : Int) - 48)), .bool true]) ∧ w' = w := fun w => by
            have := add_any (-(v : Int) * 10) (-((s[k].toNat : Int) - 48)) w (by omega) (by omega)
            rw [(fit_yes (by omega)).1, (fit_yes (by omega)).2] at this
            exact this
          have F2 : Hid _ := f2
          clear f2
          go_wp2_with fail
          refine (F1.out _).mono ?_
          rintro e w' ⟨rfl, rfl⟩
          go_wp2_with fail
          refine (F2.out _).mono ?_
          rintro e w' ⟨rfl, rfl⟩
          go_wp2
          go_round
          case rel => exact ⟨k + 1, val (s.data.toList.take (k + 1)), by omega, by go_num, by rw [hnx.out]; congr 1; omega, by rw [hnx.out]; omega, rfl⟩
          case measure => simp [intOf]; omega
    · have hf : Hid (v = val s.data.toList) := by
        have := hve.out
        rw [List.take_of_length_le (by simp; omega)] at this
        exact this
      go_wp2
      go_ret2
      exact ⟨ret_nb (by rw [← hf.out]; exact ⟨(fit_yes (by omega)).2, (fit_yes (by omega)).1⟩), rfl⟩
end Go.Proofs.YteemaofajcbniaaDoor
