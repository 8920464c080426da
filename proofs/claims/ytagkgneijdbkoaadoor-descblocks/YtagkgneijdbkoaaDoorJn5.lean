/-
  Texts that belong together, one behind the other: IntsW, SizeW, RsizeW. Conditions: as each says.
-/
import Derived.OpenShut
import Derived.ProofKit
import Derived.Test.YtagkgneijdbkoaaDoorJn3
import Derived.Test.YtagkgneijdbkoaaDoorProg
import Derived.WalkKit
import Derived.WalkLawsBesides
import Derived.WalkSpells
/-
  What whole.Add, Neg and Mul return, called with any numbers of 64 bits. Condition: the arguments are numbers of their kinds.
-/
namespace Go.Proofs.YtagkgneijdbkoaaDoor
open Go.RowKit
set_option linter.unusedVariables false

set_option maxHeartbeats 400000 in
theorem add_any (a b : Int) (w : World) (ha : -9223372036854775808 ≤ a ∧ a ≤ 9223372036854775807) (hb : -9223372036854775808 ≤ b ∧ b ≤ 9223372036854775807) :
    Calls Tryd.prog 73 #[.int .i64 a, .int .i64 b] w fun e w' => e = .returned (.tuple #[.int .i64 (fitV (a + b)), .bool (fitB (a + b))]) ∧ w' = w := by
  go_enter Tryd.func73, Tryd.ntmps73
  go_wp2
  · go_ret2
    exact ⟨ret_nb (add_over ha hb ‹_›), rfl⟩
  · go_ret2
    exact ⟨ret_nb (add_fine ha hb ‹_›), rfl⟩

set_option maxHeartbeats 400000 in
theorem neg_any (a : Int) (w : World) (ha : -9223372036854775808 ≤ a ∧ a ≤ 9223372036854775807) :
    Calls Tryd.prog 66 #[.int .i64 a] w fun e w' => e = .returned (.tuple #[.int .i64 (fitV (-a)), .bool (fitB (-a))]) ∧ w' = w := by
  by_cases h : (a == -9223372036854775808) = true
  · have H := neg_over h
    go_enter Tryd.func66, Tryd.ntmps66
    go_wp2
    go_ret2
    exact ⟨ret_nb H, rfl⟩
  · replace h : (a == -9223372036854775808) = false := by simpa using h
    have H := neg_fine ha h
    have h2 : -9223372036854775807 ≤ a := by simp at h; omega
    go_enter Tryd.func66, Tryd.ntmps66
    go_wp2
    go_ret2
    exact ⟨ret_nb H, rfl⟩

set_option maxHeartbeats 400000 in
theorem mul_any (a b : Int) (w : World) (ha : -9223372036854775808 ≤ a ∧ a ≤ 9223372036854775807) (hb : -9223372036854775808 ≤ b ∧ b ≤ 9223372036854775807) :
    Calls Tryd.prog 72 #[.int .i64 a, .int .i64 b] w fun e w' => e = .returned (.tuple #[.int .i64 (fitV (a * b)), .bool (fitB (a * b))]) ∧ w' = w := by
  by_cases h0 : (a == 0) = true
  · have H : fitV (a * b) = 0 ∧ fitB (a * b) = true := by
      simp at h0; subst h0; simp; exact ⟨(fit_yes (by omega)).2, (fit_yes (by omega)).1⟩
    go_enter Tryd.func72, Tryd.ntmps72
    go_wp2
    go_ret2
    exact ⟨ret_nb H, rfl⟩
  · replace h0 : (a == 0) = false := by simpa using h0
    have n0 : ¬ a = 0 := by simpa using h0
    by_cases h1 : (a == -1) = true
    · have H : Hid (fitV (a * b) = fitV (-b) ∧ fitB (a * b) = fitB (-b)) := by
        simp at h1; subst h1; rw [show (-1 : Int) * b = -b by omega]; exact ⟨rfl, rfl⟩
      go_enter Tryd.func72, Tryd.ntmps72
      go_wp2_with (go_at_call 66; refine (neg_any _ _ hb).mono ?_; rintro e w' ⟨rfl, rfl⟩)
      go_ret2
      exact ⟨ret_nb H.out, rfl⟩
    · replace h1 : (a == -1) = false := by simpa using h1
      have n1 : ¬ a = -1 := by simpa using h1
      go_enter Tryd.func72, Tryd.ntmps72
      go_wp2
      · go_ret2
        exact ⟨ret_nb (mul_over n0 n1 ha hb ‹_›), rfl⟩
      · go_ret2
        exact ⟨ret_nb (mul_fine n0 n1 ha hb ‹_›), rfl⟩
end Go.Proofs.YtagkgneijdbkoaaDoor
/-
  What whole.size returns, called with any number of 64 bits: how much it is, without its sign. Condition: the argument is a number of 64 bits.
-/
namespace Go.Proofs.YtagkgneijdbkoaaDoor
open Go.RowKit
set_option linter.unusedVariables false

set_option maxHeartbeats 400000 in
theorem size_any (a : Int) (w : World) (ha : -9223372036854775808 ≤ a ∧ a ≤ 9223372036854775807) :
    Calls Tryd.prog 74 #[.int .i64 a] w fun e w' => e = .returned (.int .u64 (a.natAbs : Int)) ∧ w' = w := by
  go_enter Tryd.func74, Tryd.ntmps74
  go_wp2
  all_goals
    go_ret
    refine ⟨ret_n ?_, rfl⟩
    try simp only [IntKind.wrap_u64]
    omega
end Go.Proofs.YtagkgneijdbkoaaDoor
/-
  What the document's own Size returns, called with any number of 64 bits. Condition: the argument is a number of 64 bits.
-/
namespace Go.Proofs.YtagkgneijdbkoaaDoor
open Go.RowKit
set_option linter.unusedVariables false

set_option maxHeartbeats 400000 in
theorem rsize_any (a : Int) (w : World) (ha : -9223372036854775808 ≤ a ∧ a ≤ 9223372036854775807) :
    Calls Tryd.prog 57 #[.int .i64 a] w fun e w' => e = .returned (.int .u64 (a.natAbs : Int)) ∧ w' = w := by
  go_enter Tryd.func57, Tryd.ntmps57
  go_wp2
  all_goals
    go_ret
    refine ⟨ret_n ?_, rfl⟩
    try simp only [IntKind.wrap_u64]
    omega
end Go.Proofs.YtagkgneijdbkoaaDoor
