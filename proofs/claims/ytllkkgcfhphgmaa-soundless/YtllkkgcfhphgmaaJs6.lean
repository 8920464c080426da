/-
  Texts that belong together, one behind the other: Gcds. Conditions: as each says.
-/
import Derived.BigQuiet
import Derived.Deep.QuietTactic
import Derived.Test.YtllkkgcfhphgmaaJs5
/-
  What the two greatest divisors return: the document's own Gcd of two unsigned numbers, and whole.Gcd of any two numbers of 64 bits. Condition: the arguments are numbers of their kinds.
-/
namespace Go.Proofs.Ytllkkgcfhphgmaa
open Go.RowKit
set_option linter.unusedVariables false

set_option maxHeartbeats 400000 in
theorem rgcd_any (a b : Nat) (w : World) (ha : (a : Int) ≤ 18446744073709551615) (hb : (b : Int) ≤ 18446744073709551615) :
    Calls Try.prog 55 #[.int .u64 (a : Int), .int .u64 (b : Int)] w fun e w' => e = .returned (.int .u64 ((Nat.gcd a b : Nat) : Int)) ∧ ∃ n, w' = w.drewN n := by
  go_enter Try.func55, Try.ntmps55
  go_wp2
  go_loopw [0, 1] (fun u v wx => ∃ x y n : Nat, u = .int .u64 (x : Int) ∧ v = .int .u64 (y : Int) ∧ (x : Int) ≤ 18446744073709551615 ∧ (y : Int) ≤ 18446744073709551615 ∧ Hid (Nat.gcd x y = Nat.gcd a b) ∧ wx = w.drewN n) (fun _ v _ => (intOf v).toNat)
  case atStart => exact ⟨a, b, 0, rfl, rfl, ha, hb, rfl, rfl⟩
  case round =>
    obtain ⟨x, y, n, rfl, rfl, hx, hy, hg, rfl⟩ := hrel
    by_cases h0 : 0 < y
    · have hy0 : (0 : Int) < (y : Int) := by omega
      have hr : (x : Int) % (y : Int) < (y : Int) := Int.emod_lt_of_pos _ hy0
      have hr0 : 0 ≤ (x : Int) % (y : Int) := Int.emod_nonneg _ (by omega)
      go_wp2
      go_quiet (fail)
      go_wp2
      go_roundw
      case rel => exact ⟨y, x % y, _, rfl, by simp, hy, by simp; omega, by show _ = _; rw [← hg.out, Nat.gcd_comm y, ← Nat.gcd_rec, Nat.gcd_comm], by simp; rfl⟩
      case measure => simp [intOf]; omega
    · have hy1 : (y : Int) ≤ 0 := by omega
      go_wp2
      go_ret
      refine ⟨ret_n ?_, _, rfl⟩
      have : y = 0 := by omega
      subst this
      rw [← hg.out, Nat.gcd_zero_right]

theorem gcd_big {x : Nat} (h : (9223372036854775807 : Int) < (x : Int)) : fitV (x : Int) = 0 ∧ fitB (x : Int) = false := ⟨(fit_no (by omega)).2, (fit_no (by omega)).1⟩
theorem gcd_small {x : Nat} (h : (x : Int) ≤ 9223372036854775807) : fitV (x : Int) = (x : Int) ∧ fitB (x : Int) = true := ⟨(fit_yes (by omega)).2, (fit_yes (by omega)).1⟩

set_option maxHeartbeats 400000 in
theorem gcd_any (a b : Int) (w : World) (ha : -9223372036854775808 ≤ a ∧ a ≤ 9223372036854775807) (hb : -9223372036854775808 ≤ b ∧ b ≤ 9223372036854775807) :
    Calls Try.prog 53 #[.int .i64 a, .int .i64 b] w fun e w' => e = .returned (.tuple #[.int .i64 (fitV ((Nat.gcd a.natAbs b.natAbs : Nat) : Int)), .bool (fitB ((Nat.gcd a.natAbs b.natAbs : Nat) : Int))]) ∧ ∃ n, w' = w.drewN n := by
  have fa : Hid (∀ w, Calls Try.prog 66 #[.int .i64 a] w fun e w' => e = .returned (.int .u64 (a.natAbs : Int)) ∧ w' = w) := fun w => size_any a w ha
  have fb : Hid (∀ w, Calls Try.prog 66 #[.int .i64 b] w fun e w' => e = .returned (.int .u64 (b.natAbs : Int)) ∧ w' = w) := fun w => size_any b w hb
  have hna : (a.natAbs : Int) ≤ 9223372036854775808 := by omega
  have hnb : (b.natAbs : Int) ≤ 9223372036854775808 := by omega
  generalize a.natAbs = p at *
  generalize b.natAbs = q at *
  clear ha hb
  go_enter Try.func53, Try.ntmps53
  go_wp2_with fail
  refine (fa.out _).mono ?_
  rintro e w' ⟨rfl, rfl⟩
  go_wp2_with fail
  refine (fb.out _).mono ?_
  rintro e w' ⟨rfl, rfl⟩
  clear fa fb
  go_wp2
  go_loopw [6, 7] (fun u v wx => ∃ x y n : Nat, u = .int .u64 (x : Int) ∧ v = .int .u64 (y : Int) ∧ (x : Int) ≤ 18446744073709551615 ∧ (y : Int) ≤ 18446744073709551615 ∧ Hid (Nat.gcd x y = Nat.gcd p q) ∧ wx = w'.drewN n) (fun _ v _ => (intOf v).toNat)
  case atStart => exact ⟨p, q, 0, rfl, rfl, by omega, by omega, rfl, rfl⟩
  case round =>
    obtain ⟨x, y, n, rfl, rfl, hx, hy, hg, rfl⟩ := hrel
    by_cases h0 : 0 < y
    · have hy0 : (0 : Int) < (y : Int) := by omega
      have hr : (x : Int) % (y : Int) < (y : Int) := Int.emod_lt_of_pos _ hy0
      have hr0 : 0 ≤ (x : Int) % (y : Int) := Int.emod_nonneg _ (by omega)
      go_wp2
      go_quiet (fail)
      go_wp2
      go_roundw
      case rel => exact ⟨y, x % y, _, rfl, by simp, hy, by simp; omega, by show _ = _; rw [← hg.out, Nat.gcd_comm y, ← Nat.gcd_rec, Nat.gcd_comm], by simp; rfl⟩
      case measure => simp [intOf]; omega
    · have hy1 : (y : Int) ≤ 0 := by omega
      have he : Hid (Nat.gcd p q = x) := by
        show _ = _
        have : y = 0 := by omega
        subst this
        rw [← hg.out, Nat.gcd_zero_right]
      clear hg
      go_wp2
      · go_ret2
        rw [he.out]
        exact ⟨ret_nb (gcd_big ‹_›), _, rfl⟩
      · go_ret2
        rw [he.out]
        exact ⟨ret_nb (gcd_small ‹_›), _, rfl⟩
end Go.Proofs.Ytllkkgcfhphgmaa
