/-
  What the program's own Turn returns (layer 4). Conditions: the numbers are of their kinds.
-/
import Derived.Laws.BitsAllLaws
import Derived.Laws.Shifts
import Derived.Test.YtoocppfdcalmfaaCrcKind
namespace Go.Proofs.Ytoocppfdcalmfaa
open Go.RowKit
set_option linter.unusedVariables false

theorem ret_nat {k : IntKind} {a b : Nat} (h : a = b) : Ending.returned (.int k (a : Int)) = .returned (.int k (b : Int)) := by rw [h]
theorem turn_next (v k : Nat) : turnL v (k + 1) = 2 * turnL v k + v / 2 ^ k % 2 := by
  unfold turnL
  rw [bits_cons, List.reverse_cons, numL_snoc]
  congr 1
  rcases Nat.mod_two_eq_zero_or_one (v / 2 ^ k) with h | h <;> simp [h]

set_option maxHeartbeats 2000000 in
theorem turn_any (v : Nat) (n : Int) (w : World) (hv : v < 4294967296) (hn : -9223372036854775808 ≤ n ∧ n ≤ 9223372036854775807) :
    Calls Try.prog 34 #[.int .u32 (v : Int), .int .i64 n] w fun e w' => e = .returned (.int .u32 ((turnV v n : Nat) : Int)) ∧ w' = w := by
  unfold turnV
  by_cases h1 : n < 1
  · rw [if_neg (by omega)]
    go_enter Try.func34, Try.ntmps34
    go_wp2
    go_ret
    exact ⟨rfl, rfl⟩
  · by_cases h2 : 32 < n
    · rw [if_neg (by omega)]
      go_enter Try.func34, Try.ntmps34
      go_wp2
      go_ret
      exact ⟨rfl, rfl⟩
    · rw [if_pos (by omega)]
      obtain ⟨q, rfl⟩ : ∃ q : Nat, n = q := ⟨n.toNat, by omega⟩
      simp only [Int.toNat_natCast]
      go_enter Try.func34, Try.ntmps34
      go_wp2
      go_loop [0, 5, 13] (fun a o i => ∃ k m t : Nat, k ≤ q ∧ i = .int .i64 (k : Int) ∧ a = .int .u32 (m : Int) ∧ o = .int .u32 (t : Int) ∧ Hid (m = v / 2 ^ k) ∧ Hid (t = turnL v k)) (fun _ _ i => q - (intOf i).toNat)
      case atStart => exact ⟨0, v, 0, by omega, rfl, rfl, rfl, by show _ = _; simp, rfl⟩
      case round =>
        obtain ⟨k, m, t, hk, rfl, rfl, rfl, hm, ht⟩ := hrel
        by_cases hlt : k < q
        · have hki : (k : Int) < (q : Int) := by omega
          have htb : t < 2147483648 := by
            have h1 := turn_lt v k
            have h3 : 2 ^ k ≤ 2 ^ 31 := Nat.pow_le_pow_right (by omega) (by omega)
            have := ht.out
            omega
          have hmb : m < 4294967296 := by
            have : v / 2 ^ k ≤ v := Nat.div_le_self _ _
            have := hm.out
            omega
          have hnx : Hid (turnL v (k + 1) = 2 * t + m % 2) := by
            show _ = _
            rw [ht.out, hm.out]; exact turn_next v k
          have hdiv : Hid (m / 2 = v / 2 ^ (k + 1)) := by
            show _ = _
            rw [hm.out, Nat.div_div_eq_div_mul, Nat.pow_succ]
          have a1 : bits .and .u32 (m : Int) 1 = ((m % 2 : Nat) : Int) := by
            rw [show (1 : Int) = ((1 : Nat) : Int) from rfl, u32_and_nat m 1 hmb (by omega), nat_mask1]
          have a2 : IntKind.u32.wrap ((t : Int) * 2) = (t : Int) * 2 := by simp only [IntKind.wrap_u32]; omega
          have a3 : bits .or .u32 ((t : Int) * 2) ((m : Int) % 2) = 2 * (t : Int) + (m : Int) % 2 := by
            have e1 : ((t : Int) * 2) = ((t * 2 : Nat) : Int) := by omega
            have e2 : ((m : Int) % 2) = ((m % 2 : Nat) : Int) := by omega
            rw [e1, e2, u32_or_nat _ _ (by omega) (by omega), nat_join 1 (t * 2) (m % 2) (by omega) (by omega)]
            omega
          go_wp2
          exact ⟨⟨k + 1, m / 2, 2 * t + m % 2, by omega, by simp, by simp, by simp, hdiv, hnx.out.symm⟩, by simp [intOf]; omega⟩
        · obtain rfl : k = q := by omega
          go_wp2
          go_ret
          exact ⟨ret_nat ht.out, rfl⟩
end Go.Proofs.Ytoocppfdcalmfaa
