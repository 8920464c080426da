/-
  The two Texts of a number, once more: that they lay new blocks alone ('Below'). Condition: the number is one of 64 bits.
-/
import Derived.Test.YtlhjhefbindlkaaRefText
namespace Go.Proofs.Ytlhjhefbindlkaa
open Go.RowKit
set_option linter.unusedVariables false

set_option maxHeartbeats 1000000 in
theorem btext_any (a : Int) (w : World) (ha : -9223372036854775808 ≤ a ∧ a ≤ 9223372036854775807) :
    Calls Try.prog 40 #[.int .i64 a] w fun e w' => e = .returned (.string ⟨(textL a).toArray⟩) ∧ Below w.heap.size w w' := by
  have hn : (a.natAbs : Int) ≤ 9223372036854775808 := by omega
  go_enter Try.func40, Try.ntmps40
  go_wp2_with fail
  refine (size_any a _ ha).mono ?_
  rintro e w' ⟨rfl, rfl⟩
  generalize hq : a.natAbs = q at *
  have hq' : Hid _ := hq
  clear hq
  go_wp2
  go_loopw [4, 5, 8] (fun u v i wx => ∃ j k m : Nat, u = .int .i64 ((j : Int) + 1) ∧ v = .int .u64 (m : Int) ∧ i = .int .i64 (k : Int) ∧ j + k ≤ 19 ∧ 19 ≤ j + k ∧ m ≤ q ∧ Hid (m = q / 10 ^ k) ∧ Hid (k = 0 ∨ q / 10 ^ k ≠ 0) ∧ wx = w.alloc (.cells (bufC (j + 1) k q) 69)) (fun _ _ i _ => 19 - (intOf i).toNat)
  case atStart => exact ⟨19, 0, q, rfl, rfl, rfl, by omega, by omega, by omega, by show _ = _; simp, .inl rfl, by rw [buf0]⟩
  case round =>
    obtain ⟨j, k, m, rfl, rfl, rfl, h1, h2, hmq, hm, h3, rfl⟩ := hrel
    by_cases h0 : (k : Int) < 19
    · have hcell : (w.alloc (.cells (bufC (j + 1) k q) 69)).cell? ⟨w.heap.size, j, none⟩ = some (.int .u8 0) := by
        simp [buf_at]
      have hset := buf_set j k q m hm.out
      have hdm : Hid (m / 10 = q / 10 ^ (k + 1)) := by show _ = _; rw [hm.out, Nat.div_div_eq_div_mul, Nat.pow_succ]
      obtain ⟨i, rfl⟩ : ∃ i, j = i + 1 := ⟨j - 1, by omega⟩
      have hat : (w.alloc (.cells (bufC (i + 1) (k + 1) q) 69)).cell? ⟨w.heap.size, i, none⟩ = some (.int .u8 0) := by
        simp [buf_at]
      have hset2 := bufM_set i (k + 1) q
      by_cases hz : (m : Int) / 10 = 0
      · have hend := text_end hq'.out (show q / 10 ^ (k + 1) = 0 by rw [← hdm.out]; omega) h3.out (by omega)
        have HE : Hid _ := hend
        clear hend
        by_cases hs : a < 0
        · have hsl := fun wx => slice_tail w.heap.size i (by omega) wx
          have hcv := conv_M w i (k + 1) q (by omega)
          go_wp2
          go_ret
          exact ⟨ret_s (HE.out.1 hs), (Below.refl _ _).alloc (Nat.le_refl _) _⟩
        · have hs : 0 ≤ a := by omega
          have hsl := fun wx => slice_tail w.heap.size (i + 1) (by omega) wx
          simp only [Int.natCast_add, Int.natCast_one] at hsl
          have hcv := conv_C w (i + 1) (k + 1) q (by omega)
          rw [show 20 - (i + 1) = 19 - i by omega] at hcv
          go_wp2
          go_ret
          exact ⟨ret_s (HE.out.2 hs), (Below.refl _ _).alloc (Nat.le_refl _) _⟩
      · go_wp2
        go_roundw
        case rel => exact ⟨i, k + 1, m / 10, by go_num, by go_num, by go_num, by omega, by omega, by omega, hdm, .inr (by rw [← hdm.out]; omega), rfl⟩
        case measure => simp [intOf]; omega
    · exfalso
      have hk : k = 19 := by omega
      subst hk
      rcases h3.out with h | h
      · omega
      · exact h (pow19 hn)

set_option maxHeartbeats 1000000 in
theorem brtext_any (a : Int) (w : World) (ha : -9223372036854775808 ≤ a ∧ a ≤ 9223372036854775807) :
    Calls Try.prog 25 #[.int .i64 a] w fun e w' => e = .returned (.string ⟨(textL a).toArray⟩) ∧ Below w.heap.size w w' := by
  have hn : (a.natAbs : Int) ≤ 9223372036854775808 := by omega
  have hcv := fun w m => conv_one w m
  have hct := fun c l => cat_one c l
  go_enter Try.func25, Try.ntmps25
  go_wp2_with fail
  refine (rsize_any a _ ha).mono ?_
  rintro e w' ⟨rfl, rfl⟩
  generalize hq : a.natAbs = q at *
  have hq' : Hid _ := hq
  clear hq
  go_wp2
  go_loopw [3, 4] (fun n u wx => ∃ k m : Nat, ∃ L : List UInt8, n = .int .u64 (m : Int) ∧ u = .string ⟨L.toArray⟩ ∧ m ≤ q ∧ k ≤ 18 ∧ Hid (m = q / 10 ^ k) ∧ Hid (L = low (k + 1) q) ∧ Hid (k = 0 ∨ q / 10 ^ k ≠ 0) ∧ Below w'.heap.size w' wx) (fun n _ _ => (intOf n).toNat)
  case atStart => exact ⟨0, q, [dig q], rfl, rfl, by omega, by omega, by show _ = _; simp, by show _ = _; simp [low], .inl rfl, (Below.refl _ _).alloc (Nat.le_refl _) _⟩
  case round =>
    obtain ⟨k, m, L, rfl, rfl, hmq, hk, hm, hL, h3, hg⟩ := hrel
    have hdm : Hid (m / 10 = q / 10 ^ (k + 1)) := by show _ = _; rw [hm.out, Nat.div_div_eq_div_mul, Nat.pow_succ]
    have hlen : L.length ≤ 20 := by rw [hL.out, low_length]; omega
    by_cases h9 : (9 : Int) < (m : Int)
    · have hcv2 := fun w => conv_two w m
      go_wp2
      go_roundw
      case rel => exact ⟨k + 1, m / 10, dig (m / 10) :: L, by go_num, rfl, by omega, by
          rcases Nat.lt_or_ge k 18 with h | h
          · omega
          · exfalso
            have : k = 18 := by omega
            subst this
            have := pow19 hn
            have h2 := hdm.out
            omega, hdm, by show _ = _; rw [hL.out, hdm.out]; rfl, .inr (by rw [← hdm.out]; omega), hg.alloc hg.size _⟩
      case measure => simp [intOf]; omega
    · have hend := text_end hq'.out (show q / 10 ^ (k + 1) = 0 by rw [← hdm.out]; omega) h3.out hk
      rw [← hL.out] at hend
      have HE : Hid _ := hend
      clear hend hcv
      by_cases hs : a < 0
      · go_wp2
        go_ret
        exact ⟨ret_s (HE.out.1 hs), hg⟩
      · have hs : 0 ≤ a := by omega
        go_wp2
        go_ret
        exact ⟨ret_s (HE.out.2 hs), hg⟩
end Go.Proofs.Ytlhjhefbindlkaa
