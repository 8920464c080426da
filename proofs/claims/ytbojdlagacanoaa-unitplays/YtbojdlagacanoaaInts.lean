/-
  What the functions on whole numbers return, called with any numbers of 64 bits: contracts of whole.Add, Neg, Mul and of the document's own Add, Wide, Size, Mul. Condition: the arguments are numbers of their kinds.
-/
import Derived.Test.YtbojdlagacanoaaRows
import Derived.Test.YtbojdlagacanoaaNums
import Derived.WalkKit
import Derived.ProofKit
import Derived.OpenShut
import Derived.WalkSpells
import Derived.WalkLawsBesides
namespace Go.Proofs.Ytbojdlagacanoaa
open Go.RowKit
set_option linter.unusedVariables false

theorem ret_nb {k : IntKind} {a c : Int} {b d : Bool} (h : c = a ∧ d = b) : Ending.returned (.tuple #[.int k a, .bool b]) = .returned (.tuple #[.int k c, .bool d]) := by rw [h.1, h.2]
theorem ret_n {k : IntKind} {a c : Int} (h : c = a) : Ending.returned (.int k a) = .returned (.int k c) := by rw [h]
theorem ret_nn {k l : IntKind} {a b c d : Int} (h : c = a ∧ d = b) : Ending.returned (.tuple #[.int k a, .int l b]) = .returned (.tuple #[.int k c, .int l d]) := by rw [h.1, h.2]

set_option maxHeartbeats 400000 in
theorem add_any (a b : Int) (w : World) (ha : -9223372036854775808 ≤ a ∧ a ≤ 9223372036854775807) (hb : -9223372036854775808 ≤ b ∧ b ≤ 9223372036854775807) :
    Calls Try.prog 44 #[.int .i64 a, .int .i64 b] w fun e w' => e = .returned (.tuple #[.int .i64 (fitV (a + b)), .bool (fitB (a + b))]) ∧ w' = w := by
  go_enter Try.func44, Try.ntmps44
  go_wp2
  · go_ret2
    exact ⟨ret_nb (add_over ha hb ‹_›), rfl⟩
  · go_ret2
    exact ⟨ret_nb (add_fine ha hb ‹_›), rfl⟩

set_option maxHeartbeats 400000 in
theorem neg_any (a : Int) (w : World) (ha : -9223372036854775808 ≤ a ∧ a ≤ 9223372036854775807) :
    Calls Try.prog 47 #[.int .i64 a] w fun e w' => e = .returned (.tuple #[.int .i64 (fitV (-a)), .bool (fitB (-a))]) ∧ w' = w := by
  by_cases h : (a == -9223372036854775808) = true
  · have H := neg_over h
    go_enter Try.func47, Try.ntmps47
    go_wp2
    go_ret2
    exact ⟨ret_nb H, rfl⟩
  · replace h : (a == -9223372036854775808) = false := by simpa using h
    have H := neg_fine ha h
    have h2 : -9223372036854775807 ≤ a := by simp at h; omega
    go_enter Try.func47, Try.ntmps47
    go_wp2
    go_ret2
    exact ⟨ret_nb H, rfl⟩

set_option maxHeartbeats 400000 in
theorem mul_any (a b : Int) (w : World) (ha : -9223372036854775808 ≤ a ∧ a ≤ 9223372036854775807) (hb : -9223372036854775808 ≤ b ∧ b ≤ 9223372036854775807) :
    Calls Try.prog 43 #[.int .i64 a, .int .i64 b] w fun e w' => e = .returned (.tuple #[.int .i64 (fitV (a * b)), .bool (fitB (a * b))]) ∧ w' = w := by
  by_cases h0 : (a == 0) = true
  · have H : fitV (a * b) = 0 ∧ fitB (a * b) = true := by
      simp at h0; subst h0; simp; exact ⟨(fit_yes (by omega)).2, (fit_yes (by omega)).1⟩
    go_enter Try.func43, Try.ntmps43
    go_wp2
    go_ret2
    exact ⟨ret_nb H, rfl⟩
  · replace h0 : (a == 0) = false := by simpa using h0
    have n0 : ¬ a = 0 := by simpa using h0
    by_cases h1 : (a == -1) = true
    · have H : Hid (fitV (a * b) = fitV (-b) ∧ fitB (a * b) = fitB (-b)) := by
        simp at h1; subst h1; rw [show (-1 : Int) * b = -b by omega]; exact ⟨rfl, rfl⟩
      go_enter Try.func43, Try.ntmps43
      go_wp2_with (go_at_call 47; refine (neg_any _ _ hb).mono ?_; rintro e w' ⟨rfl, rfl⟩)
      go_ret2
      exact ⟨ret_nb H.out, rfl⟩
    · replace h1 : (a == -1) = false := by simpa using h1
      have n1 : ¬ a = -1 := by simpa using h1
      go_enter Try.func43, Try.ntmps43
      go_wp2
      · go_ret2
        exact ⟨ret_nb (mul_over n0 n1 ha hb ‹_›), rfl⟩
      · go_ret2
        exact ⟨ret_nb (mul_fine n0 n1 ha hb ‹_›), rfl⟩

theorem rsum {a b : Int} (ha : -9223372036854775808 ≤ a ∧ a ≤ 9223372036854775807) (hb : -9223372036854775808 ≤ b ∧ b ≤ 9223372036854775807) : wrap64 (IntKind.u64.wrap (IntKind.u64.wrap a + IntKind.u64.wrap b)) = wrap64 (a + b) := by
  simp only [IntKind.wrap_u64]; unfold wrap64; omega
theorem radd_over' {a b : Int} (ha : -9223372036854775808 ≤ a ∧ a ≤ 9223372036854775807) (hb : -9223372036854775808 ≤ b ∧ b ≤ 9223372036854775807)
   (h : (0 ≤ a ∧ 0 ≤ b ∧ wrap64 (IntKind.u64.wrap (IntKind.u64.wrap a + IntKind.u64.wrap b)) < 0) ∨ (a < 0 ∧ b < 0 ∧ 0 ≤ wrap64 (IntKind.u64.wrap (IntKind.u64.wrap a + IntKind.u64.wrap b)))) : fitV (a + b) = 0 ∧ fitB (a + b) = false := by
  rw [rsum ha hb] at h
  unfold wrap64 at h
  exact radd_over (by omega)
theorem radd_fine' {a b : Int} (ha : -9223372036854775808 ≤ a ∧ a ≤ 9223372036854775807) (hb : -9223372036854775808 ≤ b ∧ b ≤ 9223372036854775807)
   (h : ¬((0 ≤ a ∧ 0 ≤ b ∧ wrap64 (IntKind.u64.wrap (IntKind.u64.wrap a + IntKind.u64.wrap b)) < 0) ∨ (a < 0 ∧ b < 0 ∧ 0 ≤ wrap64 (IntKind.u64.wrap (IntKind.u64.wrap a + IntKind.u64.wrap b))))) : fitV (a + b) = wrap64 (IntKind.u64.wrap (IntKind.u64.wrap a + IntKind.u64.wrap b)) ∧ fitB (a + b) = true := by
  rw [rsum ha hb] at h ⊢
  have h3 : (-9223372036854775808 ≤ a + b ∧ a + b ≤ 9223372036854775807) := by
    unfold wrap64 at h; omega
  exact ⟨by rw [(fit_yes h3).2, Go.IntWalk.wrap64_in _ h3], (fit_yes h3).1⟩

set_option maxHeartbeats 400000 in
theorem radd_any (a b : Int) (w : World) (ha : -9223372036854775808 ≤ a ∧ a ≤ 9223372036854775807) (hb : -9223372036854775808 ≤ b ∧ b ≤ 9223372036854775807) :
    Calls Try.prog 39 #[.int .i64 a, .int .i64 b] w fun e w' => e = .returned (.tuple #[.int .i64 (fitV (a + b)), .bool (fitB (a + b))]) ∧ w' = w := by
  have F1 := @radd_over' a b ha hb
  have F2 := @radd_fine' a b ha hb
  have G1 : Hid _ := F1
  have G2 : Hid _ := F2
  clear F1 F2 ha hb
  go_enter Try.func39, Try.ntmps39
  go_wp2
  all_goals
    go_ret2
    first
      | exact ⟨ret_nb (G1.out (by omega)), rfl⟩
      | exact ⟨ret_nb (G2.out (by omega)), rfl⟩

set_option maxHeartbeats 400000 in
theorem size_any (a : Int) (w : World) (ha : -9223372036854775808 ≤ a ∧ a ≤ 9223372036854775807) :
    Calls Try.prog 41 #[.int .i64 a] w fun e w' => e = .returned (.int .u64 (a.natAbs : Int)) ∧ w' = w := by
  go_enter Try.func41, Try.ntmps41
  go_wp2
  all_goals
    go_ret
    refine ⟨ret_n ?_, rfl⟩
    try simp only [IntKind.wrap_u64]
    omega
set_option maxHeartbeats 400000 in
theorem rsize_any (a : Int) (w : World) (ha : -9223372036854775808 ≤ a ∧ a ≤ 9223372036854775807) :
    Calls Try.prog 27 #[.int .i64 a] w fun e w' => e = .returned (.int .u64 (a.natAbs : Int)) ∧ w' = w := by
  go_enter Try.func27, Try.ntmps27
  go_wp2
  all_goals
    go_ret
    refine ⟨ret_n ?_, rfl⟩
    try simp only [IntKind.wrap_u64]
    omega

set_option maxHeartbeats 1000000 in
theorem wide_any (a b : Int) (w : World) (ha : 0 ≤ a ∧ a ≤ 18446744073709551615) (hb : 0 ≤ b ∧ b ≤ 18446744073709551615) :
    Calls Try.prog 46 #[.int .u64 a, .int .u64 b] w fun e w' => e = .returned (.tuple #[.int .u64 (wideH a b), .int .u64 (wideL a b)]) ∧ w' = w := by
  have hs : Hid _ := wide_split a b
  have p1 := prod_bd (a := a / 4294967296) (b := b / 4294967296) (m := 4294967295) (n := 4294967295) (by omega) (by omega) (by omega) (by omega)
  have p2 := prod_bd (a := a / 4294967296) (b := b % 4294967296) (m := 4294967295) (n := 4294967295) (by omega) (by omega) (by omega) (by omega)
  have p3 := prod_bd (a := a % 4294967296) (b := b / 4294967296) (m := 4294967295) (n := 4294967295) (by omega) (by omega) (by omega) (by omega)
  have p4 := prod_bd (a := a % 4294967296) (b := b % 4294967296) (m := 4294967295) (n := 4294967295) (by omega) (by omega) (by omega) (by omega)
  go_enter Try.func46, Try.ntmps46
  go_wp2
  go_ret2
  refine ⟨ret_nn ?_, rfl⟩
  have hs := hs.out
  unfold wideH wideL
  rw [hs]
  generalize a / 4294967296 * (b / 4294967296) = x1 at *
  generalize a / 4294967296 * (b % 4294967296) = x2 at *
  generalize a % 4294967296 * (b / 4294967296) = x3 at *
  generalize a % 4294967296 * (b % 4294967296) = x4 at *
  constructor
  · omega
  · omega
end Go.Proofs.Ytbojdlagacanoaa
