/-
  That the document's own Alike tells a fraction that is exactly so much; what the statements' own two turns (Of, Plain) return; and that the example of layer 2 holds. Conditions: as each says.
-/
import Derived.Test.YtlhjhefbindlkaaQMore
namespace Go.Proofs.Ytlhjhefbindlkaa
open Go.RowKit
set_option linter.unusedVariables false

set_option maxHeartbeats 400000 in
theorem of_any (n d : Int) (w : World) : Calls Try.prog 17 #[rv n d] w fun e w' => e = .returned (rv n d) ∧ Below w.heap.size w w' := by
  go_enter Try.func17, Try.ntmps17
  go_wp2
  go_returns
  exact ⟨rfl, by go_grown⟩
set_option maxHeartbeats 400000 in
theorem plain_any (n d : Int) (w : World) : Calls Try.prog 12 #[rv n d] w fun e w' => e = .returned (rv n d) ∧ Below w.heap.size w w' := by
  go_enter Try.func12, Try.ntmps12
  go_wp2
  go_returns
  exact ⟨rfl, by go_grown⟩

theorem aw2 : addN 1 2 1 3 = 5 ∧ addD 1 2 1 3 = 6 ∧ addE 1 2 1 3 = 0 := by decide +kernel

set_option maxHeartbeats 400000 in
theorem awake2_any (w : World) : Calls Try.prog 9 #[] w fun e w' => e = .returned (.bool true) ∧ Below w.heap.size w w' := by
  have f : Hid (∀ w, Calls Try.prog 16 #[rv 1 2, rv 1 3] w fun e w' => e = .returned (.tuple #[rv 5 6, .int .i64 0]) ∧ Below w.heap.size w w') := fun w => by
    have := fadd_any 1 2 1 3 w ⟨by decide, by decide⟩ ⟨by decide, by decide⟩ ⟨by decide, by decide⟩ ⟨by decide, by decide⟩
    rwa [aw2.1, aw2.2.1, aw2.2.2] at this
  go_enter Try.func9, Try.ntmps9
  go_wp2_with fail
  refine (f.out _).mono ?_
  rintro e w1 ⟨rfl, hb⟩
  have HB : Hid (Below w.heap.size w w1) := hb
  clear hb f
  go_wp2
  go_ret
  exact ⟨rfl, HB.out.alloc HB.out.size _⟩

theorem alike_signs {x y n d : Int} (hy : 0 < y) (hd : d ≠ 0) (h : x * d = n * y) :
    (n = 0 ∧ x = 0) ∨ (n < 0 ∧ d < 0 ∧ 0 < x) ∨ (n < 0 ∧ 0 < d ∧ x < 0) ∨ (0 < n ∧ d < 0 ∧ x < 0) ∨ (0 < n ∧ 0 < d ∧ 0 < x) := by
  rcases Int.lt_trichotomy n 0 with hn | hn | hn
  · have k := Int.mul_neg_of_neg_of_pos hn hy
    rcases Int.lt_or_le d 0 with hd2 | hd2
    · refine .inr (.inl ⟨hn, hd2, ?_⟩)
      rcases Int.lt_or_le 0 x with hx | hx
      · exact hx
      · have := Int.mul_nonneg_of_nonpos_of_nonpos hx (show d ≤ 0 by omega); omega
    · refine .inr (.inr (.inl ⟨hn, by omega, ?_⟩))
      rcases Int.lt_or_le x 0 with hx | hx
      · exact hx
      · have := Int.mul_nonneg hx hd2; omega
  · subst hn
    rw [Int.zero_mul] at h
    rcases Int.mul_eq_zero.1 h with h | h
    · exact .inl ⟨rfl, h⟩
    · exact absurd h hd
  · have k := Int.mul_pos hn hy
    rcases Int.lt_or_le d 0 with hd2 | hd2
    · refine .inr (.inr (.inr (.inl ⟨hn, hd2, ?_⟩)))
      rcases Int.lt_or_le x 0 with hx | hx
      · exact hx
      · have := Int.mul_nonpos_of_nonneg_of_nonpos hx (show d ≤ 0 by omega); omega
    · refine .inr (.inr (.inr (.inr ⟨hn, by omega, ?_⟩)))
      rcases Int.lt_or_le 0 x with hx | hx
      · exact hx
      · have := Int.mul_nonpos_of_nonpos_of_nonneg hx hd2; omega

set_option maxHeartbeats 2000000 in
theorem ralike_true (x y n d : Int) (w : World) (hx : I64 x) (hyb : I64 y) (hn : I64 n) (hdb : I64 d) (hy : 0 < y) (hd : d ≠ 0) (h : x * d = n * y) :
    Calls Try.prog 15 #[rv x y, .int .i64 n, .int .i64 d] w fun e w' => e = .returned (.bool true) ∧ Below w.heap.size w w' := by
  have fx : Hid (∀ w, Calls Try.prog 28 #[.int .i64 x] w fun e w' => e = .returned (.int .u64 (x.natAbs : Int)) ∧ w' = w) := fun w => rsize_any x w hx
  have fy : Hid (∀ w, Calls Try.prog 28 #[.int .i64 y] w fun e w' => e = .returned (.int .u64 (y.natAbs : Int)) ∧ w' = w) := fun w => rsize_any y w hyb
  have fn : Hid (∀ w, Calls Try.prog 28 #[.int .i64 n] w fun e w' => e = .returned (.int .u64 (n.natAbs : Int)) ∧ w' = w) := fun w => rsize_any n w hn
  have fd : Hid (∀ w, Calls Try.prog 28 #[.int .i64 d] w fun e w' => e = .returned (.int .u64 (d.natAbs : Int)) ∧ w' = w) := fun w => rsize_any d w hdb
  have f1 : Hid (∀ w, Calls Try.prog 31 #[.int .u64 (x.natAbs : Int), .int .u64 (d.natAbs : Int)] w fun e w' => e = .returned (.tuple #[.int .u64 (wideH x.natAbs d.natAbs), .int .u64 (wideL x.natAbs d.natAbs)]) ∧ w' = w) := fun w =>
    wide_any _ _ w (by unfold I64 at hx; omega) (by unfold I64 at hdb; omega)
  have f2 : Hid (∀ w, Calls Try.prog 31 #[.int .u64 (n.natAbs : Int), .int .u64 (y.natAbs : Int)] w fun e w' => e = .returned (.tuple #[.int .u64 (wideH x.natAbs d.natAbs), .int .u64 (wideL x.natAbs d.natAbs)]) ∧ w' = w) := fun w => by
    have := wide_any (n.natAbs : Int) (y.natAbs : Int) w (by unfold I64 at hn; omega) (by unfold I64 at hyb; omega)
    have e1 : wideH (n.natAbs : Int) (y.natAbs : Int) = wideH x.natAbs d.natAbs := by unfold wideH; rw [abs_mul, abs_mul, h]
    have e2 : wideL (n.natAbs : Int) (y.natAbs : Int) = wideL x.natAbs d.natAbs := by unfold wideL; rw [abs_mul, abs_mul, h]
    rwa [e1, e2] at this
  have sg := alike_signs hy hd h
  clear h
  generalize wideH x.natAbs d.natAbs = H at *
  generalize wideL x.natAbs d.natAbs = L at *
  generalize (x.natAbs : Int) = px at *
  generalize (y.natAbs : Int) = py at *
  generalize (n.natAbs : Int) = pn at *
  generalize (d.natAbs : Int) = pd at *
  unfold I64 at hx hyb hn hdb
  rcases sg with ⟨rfl, rfl⟩ | ⟨s1, s2, s3⟩ | ⟨s1, s2, s3⟩ | ⟨s1, s2, s3⟩ | ⟨s1, s2, s3⟩
  · go_enter Try.func15, Try.ntmps15
    go_wp2
    all_goals
      go_ret
      exact ⟨rfl, by go_grown⟩
  all_goals
    have nz : (n == 0) = false := by simp; omega
    have xz : (x == 0) = false := by simp; omega
    obtain ⟨bn, q1⟩ : ∃ b, decide (n < 0) = b := ⟨_, rfl⟩
    obtain ⟨bd, q2⟩ : ∃ b, decide (d < 0) = b := ⟨_, rfl⟩
    obtain ⟨bx, q3⟩ : ∃ b, decide (x < 0) = b := ⟨_, rfl⟩
    cases bn <;> cases bd <;> cases bx
    all_goals try (exfalso; simp at q1 q2 q3; omega)
    all_goals
      go_enter Try.func15, Try.ntmps15
      go_wp2_with fail
      refine (fx.out _).mono ?_
      rintro e w' ⟨rfl, rfl⟩
      go_wp2_with fail
      refine (fd.out _).mono ?_
      rintro e w' ⟨rfl, rfl⟩
      go_wp2_with fail
      refine (f1.out _).mono ?_
      rintro e w' ⟨rfl, rfl⟩
      clear fx fd f1
      go_wp2_with fail
      go_quiet (first
        | (go_at_call_of 28 n; refine Calls.quiet_of_same (fn.out _))
        | (go_at_call_of 28 y; refine Calls.quiet_of_same (fy.out _))
        | (go_at_call 31; refine Calls.quiet_of_same (f2.out _)))
      clear fn fy f2
      go_wp2
      all_goals
        go_ret
        exact ⟨rfl, below_drewN (by go_grown) _⟩
end Go.Proofs.Ytlhjhefbindlkaa
