/-
  What whole.Add, Neg and Mul return, called with any numbers of 64 bits. Condition: the arguments are numbers of their kinds.
-/
import Derived.Test.YteemaofajcbniaaDoorProg
import Derived.Test.YteemaofajcbniaaDoorNums
import Derived.WalkKit
import Derived.ProofKit
import Derived.OpenShut
import Derived.WalkSpells
import Derived.WalkLawsBesides
namespace Go.Proofs.YteemaofajcbniaaDoor
open Go.RowKit
set_option linter.unusedVariables false

set_option maxHeartbeats 400000 in
theorem add_any (a b : Int) (w : World) (ha : -9223372036854775808 ≤ a ∧ a ≤ 9223372036854775807) (hb : -9223372036854775808 ≤ b ∧ b ≤ 9223372036854775807) :
    Calls Tryd.prog 37 #[.int .i64 a, .int .i64 b] w fun e w' => e = .returned (.tuple #[.int .i64 (fitV (a + b)), .bool (fitB (a + b))]) ∧ w' = w := by
  go_enter Tryd.func37, Tryd.ntmps37
  go_wp2
  · go_ret2
    exact ⟨ret_nb (add_over ha hb ‹_›), rfl⟩
  · go_ret2
    exact ⟨ret_nb (add_fine ha hb ‹_›), rfl⟩

set_option maxHeartbeats 400000 in
theorem neg_any (a : Int) (w : World) (ha : -9223372036854775808 ≤ a ∧ a ≤ 9223372036854775807) :
    Calls Tryd.prog 32 #[.int .i64 a] w fun e w' => e = .returned (.tuple #[.int .i64 (fitV (-a)), .bool (fitB (-a))]) ∧ w' = w := by
  by_cases h : (a == -9223372036854775808) = true
  · have H := neg_over h
    go_enter Tryd.func32, Tryd.ntmps32
    go_wp2
    go_ret2
    exact ⟨ret_nb H, rfl⟩
  · replace h : (a == -9223372036854775808) = false := by simpa using h
    have H := neg_fine ha h
    have h2 : -9223372036854775807 ≤ a := by simp at h; omega
    go_enter Tryd.func32, Tryd.ntmps32
    go_wp2
    go_ret2
    exact ⟨ret_nb H, rfl⟩

set_option maxHeartbeats 400000 in
theorem mul_any (a b : Int) (w : World) (ha : -9223372036854775808 ≤ a ∧ a ≤ 9223372036854775807) (hb : -9223372036854775808 ≤ b ∧ b ≤ 9223372036854775807) :
    Calls Tryd.prog 36 #[.int .i64 a, .int .i64 b] w fun e w' => e = .returned (.tuple #[.int .i64 (fitV (a * b)), .bool (fitB (a * b))]) ∧ w' = w := by
  by_cases h0 : (a == 0) = true
  · have H : fitV (a * b) = 0 ∧ fitB (a * b) = true := by
      simp at h0; subst h0; simp; exact ⟨(fit_yes (by omega)).2, (fit_yes (by omega)).1⟩
    go_enter Tryd.func36, Tryd.ntmps36
    go_wp2
    go_ret2
    exact ⟨ret_nb H, rfl⟩
  · replace h0 : (a == 0) = false := by simpa using h0
    have n0 : ¬ a = 0 := by simpa using h0
    by_cases h1 : (a == -1) = true
    · have H : Hid (fitV (a * b) = fitV (-b) ∧ fitB (a * b) = fitB (-b)) := by
        simp at h1; subst h1; rw [show (-1 : Int) * b = -b by omega]; exact ⟨rfl, rfl⟩
      go_enter Tryd.func36, Tryd.ntmps36
      go_wp2_with (go_at_call 32; refine (neg_any _ _ hb).mono ?_; rintro e w' ⟨rfl, rfl⟩)
      go_ret2
      exact ⟨ret_nb H.out, rfl⟩
    · replace h1 : (a == -1) = false := by simpa using h1
      have n1 : ¬ a = -1 := by simpa using h1
      go_enter Tryd.func36, Tryd.ntmps36
      go_wp2
      · go_ret2
        exact ⟨ret_nb (mul_over n0 n1 ha hb ‹_›), rfl⟩
      · go_ret2
        exact ⟨ret_nb (mul_fine n0 n1 ha hb ‹_›), rfl⟩
end Go.Proofs.YteemaofajcbniaaDoor
