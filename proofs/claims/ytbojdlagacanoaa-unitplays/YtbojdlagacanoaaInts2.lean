/-
  What the document's own product returns, called with any two numbers of 64 bits. Condition: the arguments are numbers of 64 bits.
-/
import Derived.Test.YtbojdlagacanoaaInts
namespace Go.Proofs.Ytbojdlagacanoaa
open Go.RowKit
set_option linter.unusedVariables false

theorem wide_eq (a b : Int) : wideH a b * 18446744073709551616 + wideL a b = a * b ∧ 0 ≤ wideL a b ∧ wideL a b ≤ 18446744073709551615 := by
  unfold wideH wideL; omega
theorem wideH_nn {a b : Int} (ha : 0 ≤ a) (hb : 0 ≤ b) : 0 ≤ wideH a b := by
  unfold wideH
  have := Int.mul_nonneg ha hb
  omega

theorem abs_mul (a b : Int) : (a.natAbs : Int) * (b.natAbs : Int) = ((a * b).natAbs : Int) := by
  rw [Int.natAbs_mul]; simp

theorem neg_u64 {L : Int} (hL : 0 ≤ L ∧ L ≤ 9223372036854775808) : wrap64 (IntKind.u64.wrap (-L)) = -L := by
  rw [IntKind.wrap_u64]; unfold wrap64; omega

theorem rm_neg {a b H L : Int} (e : H * 18446744073709551616 + L = ((a * b).natAbs : Int)) (hL : 0 ≤ L ∧ L ≤ 18446744073709551615) (hH : 0 ≤ H) (hs : a * b < 0) (h1 : H ≤ 0) (h2 : L ≤ 9223372036854775808) :
    fitV (a * b) = wrap64 (IntKind.u64.wrap (-L)) ∧ fitB (a * b) = true := by
  rw [neg_u64 (by omega)]
  generalize a * b = p at *
  have h4 : (-9223372036854775808 ≤ p ∧ p ≤ 9223372036854775807) := by omega
  rw [(fit_yes h4).2, (fit_yes h4).1]; exact ⟨by omega, rfl⟩
theorem rm_pos {a b H L : Int} (e : H * 18446744073709551616 + L = ((a * b).natAbs : Int)) (hL : 0 ≤ L ∧ L ≤ 18446744073709551615) (hH : 0 ≤ H) (hs : 0 ≤ a * b) (h1 : H ≤ 0) (h2 : L ≤ 9223372036854775808) (h3 : L ≠ 9223372036854775808) :
    fitV (a * b) = L ∧ fitB (a * b) = true := by
  generalize a * b = p at *
  have h4 : (-9223372036854775808 ≤ p ∧ p ≤ 9223372036854775807) := by omega
  rw [(fit_yes h4).2, (fit_yes h4).1]; exact ⟨by omega, rfl⟩
theorem rm_no {a b H L : Int} (e : H * 18446744073709551616 + L = ((a * b).natAbs : Int)) (hL : 0 ≤ L ∧ L ≤ 18446744073709551615) (hH : 0 ≤ H) (h : 0 < H ∨ 9223372036854775808 < L) :
    fitV (a * b) = 0 ∧ fitB (a * b) = false := by
  generalize a * b = p at *
  have h4 : ¬(-9223372036854775808 ≤ p ∧ p ≤ 9223372036854775807) := by omega
  exact ⟨(fit_no h4).2, (fit_no h4).1⟩
theorem rm_edge {a b H L : Int} (e : H * 18446744073709551616 + L = ((a * b).natAbs : Int)) (hL : 0 ≤ L ∧ L ≤ 18446744073709551615) (hH : 0 ≤ H) (hs : 0 ≤ a * b) (h : L = 9223372036854775808) :
    fitV (a * b) = 0 ∧ fitB (a * b) = false := by
  generalize a * b = p at *
  have h4 : ¬(-9223372036854775808 ≤ p ∧ p ≤ 9223372036854775807) := by omega
  exact ⟨(fit_no h4).2, (fit_no h4).1⟩

theorem sign_ways (a b : Int) : (a < 0 ∧ 0 < b ∧ a * b < 0) ∨ (0 < a ∧ b < 0 ∧ a * b < 0) ∨ (a < 0 ∧ b ≤ 0 ∧ 0 ≤ a * b) ∨ (0 ≤ a ∧ a ≤ 0 ∧ 0 ≤ a * b) ∨ (0 < a ∧ 0 ≤ b ∧ 0 ≤ a * b) := by
  by_cases h1 : a < 0
  · by_cases h2 : 0 < b
    · exact .inl ⟨h1, h2, Int.mul_neg_of_neg_of_pos h1 h2⟩
    · exact .inr (.inr (.inl ⟨h1, by omega, Int.mul_nonneg_of_nonpos_of_nonpos (by omega) (by omega)⟩))
  · by_cases h2 : 0 < a
    · by_cases h3 : b < 0
      · exact .inr (.inl ⟨h2, h3, Int.mul_neg_of_pos_of_neg h2 h3⟩)
      · exact .inr (.inr (.inr (.inr ⟨h2, by omega, Int.mul_nonneg (by omega) (by omega)⟩)))
    · have h4 : a = 0 := by omega
      subst h4
      exact .inr (.inr (.inr (.inl ⟨by omega, by omega, by simp⟩)))

set_option maxHeartbeats 1000000 in
theorem rmul_any (a b : Int) (w : World) (ha : -9223372036854775808 ≤ a ∧ a ≤ 9223372036854775807) (hb : -9223372036854775808 ≤ b ∧ b ≤ 9223372036854775807) :
    Calls Try.prog 37 #[.int .i64 a, .int .i64 b] w fun e w' => e = .returned (.tuple #[.int .i64 (fitV (a * b)), .bool (fitB (a * b))]) ∧ w' = w := by
  have hw := wide_eq (a.natAbs : Int) (b.natAbs : Int)
  rw [abs_mul] at hw
  have hH : 0 ≤ wideH (a.natAbs : Int) (b.natAbs : Int) := wideH_nn (by omega) (by omega)
  generalize hHe : wideH (a.natAbs : Int) (b.natAbs : Int) = H at *
  generalize hLe : wideL (a.natAbs : Int) (b.natAbs : Int) = L at *
  have X : Hid _ := hw.1
  have hL := hw.2
  have EH : Hid _ := hHe
  have EL : Hid _ := hLe
  clear hHe hLe hw
  have fin : ∀ w, Calls Try.prog 46 #[.int .u64 (a.natAbs : Int), .int .u64 (b.natAbs : Int)] w fun e w' => e = .returned (.tuple #[.int .u64 H, .int .u64 L]) ∧ w' = w := by
    intro w
    have := wide_any (a.natAbs : Int) (b.natAbs : Int) w (by omega) (by omega)
    rw [EH.out, EL.out] at this
    exact this
  have FIN : Hid _ := fin
  clear fin EH EL
  have fa : ∀ w, Calls Try.prog 27 #[.int .i64 a] w fun e w' => e = .returned (.int .u64 (a.natAbs : Int)) ∧ w' = w := fun w => rsize_any a w ha
  have fb : ∀ w, Calls Try.prog 27 #[.int .i64 b] w fun e w' => e = .returned (.int .u64 (b.natAbs : Int)) ∧ w' = w := fun w => rsize_any b w hb
  have FA : Hid _ := fa
  have FB : Hid _ := fb
  clear fa fb
  go_enter Try.func37, Try.ntmps37
  go_wp2_with fail
  refine (FA.out _).mono ?_
  rintro e w' ⟨rfl, rfl⟩
  go_wp2_with fail
  refine (FB.out _).mono ?_
  rintro e w' ⟨rfl, rfl⟩
  go_wp2_with fail
  refine (FIN.out _).mono ?_
  rintro e w' ⟨rfl, rfl⟩
  clear FA FB FIN
  have hq : (L = 9223372036854775808 ∧ (L == 9223372036854775808) = true) ∨ (L < 9223372036854775808 ∧ (L == 9223372036854775808) = false) ∨ (9223372036854775808 < L ∧ (L == 9223372036854775808) = false) := by
    by_cases h : L = 9223372036854775808
    · exact .inl ⟨h, by simp [h]⟩
    · by_cases h2 : L < 9223372036854775808
      · exact .inr (.inl ⟨h2, by simp [h]⟩)
      · exact .inr (.inr ⟨by omega, by simp [h]⟩)
  have sg := sign_ways a b
  rcases hq with ⟨q1, q2⟩ | ⟨q1, q2⟩ | ⟨q1, q2⟩ <;> rcases sg with ⟨s1, s2, s3⟩ | ⟨s1, s2, s3⟩ | ⟨s1, s2, s3⟩ | ⟨s1, s2, s3⟩ | ⟨s1, s2, s3⟩
  all_goals
    have Q1 : Hid _ := q1
    have S3 : Hid _ := s3
    clear q1 s3
    go_wp2
    all_goals
      go_ret2
      refine ⟨ret_nb ?_, rfl⟩
      have q1 := Q1.out
      first
        | exact rm_no X.out hL hH (by omega)
        | exact rm_edge X.out hL hH S3.out q1
        | exact rm_pos X.out hL hH S3.out (by omega) (by omega) (by omega)
        | (rw [Go.IntWalk.wrap64_in L (by omega)]; exact rm_pos X.out hL hH S3.out (by omega) (by omega) (by omega))
        | (refine rm_neg X.out hL hH S3.out ?_ ?_ <;> omega)
        | (exfalso; have hx := ‹(H ≤ 0 ∧ L ≤ 9223372036854775808) ∧ (!decide (0 < b)) = false›.2; simp at hx; omega)
        | (exfalso; have hx := ‹(H ≤ 0 ∧ L ≤ 9223372036854775808) ∧ (!decide (b < 0)) = false›.2; simp at hx; omega)

end Go.Proofs.Ytbojdlagacanoaa
