/-
  Plain facts on whole numbers of 64 bits: what fits, what wraps, products by halves, digits. No program is named here. No conditions.
-/
import Derived.RowKit
import Derived.IntWalk
import Derived.Laws.Bits64
namespace Go.Proofs.YteemaofajcbniaaDoor
open Go.RowKit (wrap64)
set_option linter.unusedVariables false

/-- from -2^63 to 2^63 - 1 -/
def fitB (n : Int) : Bool := decide (-9223372036854775808 ≤ n) && decide (n ≤ 9223372036854775807)
/-- the number where it fits, else 0 -/
def fitV (n : Int) : Int := if fitB n = true then n else 0

theorem fitB_iff (n : Int) : fitB n = true ↔ -9223372036854775808 ≤ n ∧ n ≤ 9223372036854775807 := by
  unfold fitB; simp

theorem fit_yes {n : Int} (h : -9223372036854775808 ≤ n ∧ n ≤ 9223372036854775807) : fitB n = true ∧ fitV n = n := by
  have := (fitB_iff n).2 h
  exact ⟨this, by unfold fitV; simp [this]⟩

theorem fit_no {n : Int} (h : ¬(-9223372036854775808 ≤ n ∧ n ≤ 9223372036854775807)) : fitB n = false ∧ fitV n = 0 := by
  have h2 : fitB n = false := by
    cases e : fitB n
    · rfl
    · exact absurd ((fitB_iff n).1 e) h
  exact ⟨h2, by unfold fitV; simp [h2]⟩

theorem fitV_bd (n : Int) : -9223372036854775808 ≤ fitV n ∧ fitV n ≤ 9223372036854775807 := by
  by_cases h : -9223372036854775808 ≤ n ∧ n ≤ 9223372036854775807
  · rw [(fit_yes h).2]; exact h
  · rw [(fit_no h).2]; omega

/-! sums -/
theorem add_over {a b : Int} (ha : -9223372036854775808 ≤ a ∧ a ≤ 9223372036854775807) (hb : -9223372036854775808 ≤ b ∧ b ≤ 9223372036854775807)
    (h : (!decide (a < wrap64 (a + b)) == decide (0 < b)) = true) : fitV (a + b) = 0 ∧ fitB (a + b) = false := by
  have h3 : ¬(-9223372036854775808 ≤ a + b ∧ a + b ≤ 9223372036854775807) := by
    intro hc
    rw [Go.IntWalk.wrap64_in _ hc] at h
    simp at h
    omega
  exact ⟨(fit_no h3).2, (fit_no h3).1⟩

theorem add_fine {a b : Int} (ha : -9223372036854775808 ≤ a ∧ a ≤ 9223372036854775807) (hb : -9223372036854775808 ≤ b ∧ b ≤ 9223372036854775807)
    (h : (!decide (a < wrap64 (a + b)) == decide (0 < b)) = false) : fitV (a + b) = wrap64 (a + b) ∧ fitB (a + b) = true := by
  have h3 : (-9223372036854775808 ≤ a + b ∧ a + b ≤ 9223372036854775807) := by
    simp at h
    unfold wrap64 at h
    omega
  exact ⟨by rw [(fit_yes h3).2, Go.IntWalk.wrap64_in _ h3], (fit_yes h3).1⟩

/-! a sum by signs -/
theorem radd_over {a b : Int} (h : (a + b < -9223372036854775808 ∨ 9223372036854775807 < a + b)) : fitV (a + b) = 0 ∧ fitB (a + b) = false :=
  ⟨(fit_no (by omega)).2, (fit_no (by omega)).1⟩

/-! the sign turned -/
theorem neg_over {a : Int} (h : (a == -9223372036854775808) = true) : fitV (-a) = 0 ∧ fitB (-a) = false := by
  simp at h
  exact ⟨(fit_no (by omega)).2, (fit_no (by omega)).1⟩
theorem neg_fine {a : Int} (ha : -9223372036854775808 ≤ a ∧ a ≤ 9223372036854775807) (h : (a == -9223372036854775808) = false) : fitV (-a) = -a ∧ fitB (-a) = true := by
  simp at h
  exact ⟨(fit_yes (by omega)).2, (fit_yes (by omega)).1⟩

/-! products -/
theorem abs_mul_lt {a k : Int} (hk : k ≠ 0) : (a.natAbs : Int) ≤ ((a * k).natAbs : Int) := by
  rw [Int.natAbs_mul]
  have : 1 ≤ k.natAbs := by omega
  have h2 : a.natAbs * 1 ≤ a.natAbs * k.natAbs := Nat.mul_le_mul_left _ this
  omega

theorem tdiv_bd (x a : Int) (h0 : a ≠ 0) (h1 : a ≠ -1) (hx : -9223372036854775808 ≤ x ∧ x ≤ 9223372036854775807) :
    -9223372036854775808 ≤ x.tdiv a ∧ x.tdiv a ≤ 9223372036854775807 := by
  have h := Int.natAbs_tdiv x a
  by_cases h2 : a = 1
  · subst h2; simpa using hx
  · have h3 : 2 ≤ a.natAbs := by omega
    have h4 : x.natAbs / a.natAbs ≤ x.natAbs / 2 := Nat.div_le_div_left h3 (by omega)
    have h5 : x.natAbs ≤ 9223372036854775808 := by omega
    have h6 : (x.tdiv a).natAbs ≤ 9223372036854775808 / 2 := by
      rw [h]; exact Nat.le_trans h4 (Nat.div_le_div_right h5)
    omega

/-- what divides back is what did not wrap -/
theorem mul_back {a b : Int} (h0 : a ≠ 0) (h1 : a ≠ -1) (ha : -9223372036854775808 ≤ a ∧ a ≤ 9223372036854775807) :
    wrap64 ((wrap64 (a * b)).tdiv a) = b ↔ (-9223372036854775808 ≤ a * b ∧ a * b ≤ 9223372036854775807) ∧ (-9223372036854775808 ≤ b ∧ b ≤ 9223372036854775807) := by
  have hw : -9223372036854775808 ≤ wrap64 (a * b) ∧ wrap64 (a * b) ≤ 9223372036854775807 := by unfold wrap64; omega
  have ht := tdiv_bd (wrap64 (a * b)) a h0 h1 hw
  rw [Go.IntWalk.wrap64_in _ ht]
  constructor
  · intro h
    refine ⟨?_, by rw [← h]; exact ht⟩
    by_cases hc : -9223372036854775808 ≤ a * b ∧ a * b ≤ 9223372036854775807
    · exact hc
    · exfalso
      have e := Int.mul_tdiv_add_tmod (wrap64 (a * b)) a
      rw [h] at e
      have hl : ((wrap64 (a * b)).tmod a).natAbs < a.natAbs := by
        rw [Int.natAbs_tmod]; exact Nat.mod_lt _ (by omega)
      unfold wrap64 at e hl
      generalize a * b = p at *
      generalize ((p + 9223372036854775808) % 18446744073709551616 - 9223372036854775808).tmod a = r at *
      omega
  · intro h
    rw [Go.IntWalk.wrap64_in _ h.1]
    exact Int.mul_tdiv_cancel_left _ h0

theorem mul_over {a b : Int} (h0 : a ≠ 0) (h1 : a ≠ -1) (ha : -9223372036854775808 ≤ a ∧ a ≤ 9223372036854775807) (hb : -9223372036854775808 ≤ b ∧ b ≤ 9223372036854775807)
    (h : (wrap64 ((wrap64 (a * b)).tdiv a) != b) = true) : fitV (a * b) = 0 ∧ fitB (a * b) = false := by
  have h3 : ¬(-9223372036854775808 ≤ a * b ∧ a * b ≤ 9223372036854775807) := by
    intro hc
    have := (mul_back h0 h1 ha).2 ⟨hc, hb⟩
    simp [this] at h
  exact ⟨(fit_no h3).2, (fit_no h3).1⟩
theorem mul_fine {a b : Int} (h0 : a ≠ 0) (h1 : a ≠ -1) (ha : -9223372036854775808 ≤ a ∧ a ≤ 9223372036854775807) (hb : -9223372036854775808 ≤ b ∧ b ≤ 9223372036854775807)
    (h : (wrap64 ((wrap64 (a * b)).tdiv a) != b) = false) : fitV (a * b) = wrap64 (a * b) ∧ fitB (a * b) = true := by
  have h3 : (-9223372036854775808 ≤ a * b ∧ a * b ≤ 9223372036854775807) := by
    simp at h
    exact ((mul_back h0 h1 ha).1 h).1
  exact ⟨by rw [(fit_yes h3).2, Go.IntWalk.wrap64_in _ h3], (fit_yes h3).1⟩

/-! the wide product -/
def wideH (a b : Int) : Int := a * b / 18446744073709551616
def wideL (a b : Int) : Int := a * b % 18446744073709551616

theorem prod_bd {a b m n : Int} (ha : 0 ≤ a) (hb : 0 ≤ b) (ham : a ≤ m) (hbn : b ≤ n) : 0 ≤ a * b ∧ a * b ≤ m * n :=
  ⟨Int.mul_nonneg ha hb, Int.mul_le_mul ham hbn hb (by omega)⟩

theorem wide_split (a b : Int) : a * b = a / 4294967296 * (b / 4294967296) * 18446744073709551616 + (a / 4294967296 * (b % 4294967296) + a % 4294967296 * (b / 4294967296)) * 4294967296 + a % 4294967296 * (b % 4294967296) := by
  have ea : a = a / 4294967296 * 4294967296 + a % 4294967296 := by omega
  have eb : b = b / 4294967296 * 4294967296 + b % 4294967296 := by omega
  generalize a / 4294967296 = x at *
  generalize a % 4294967296 = y at *
  generalize b / 4294967296 = u at *
  generalize b % 4294967296 = v at *
  subst ea eb
  simp only [Int.add_mul, Int.mul_add]
  have h1 : x * 4294967296 * (u * 4294967296) = x * u * 18446744073709551616 := by
    rw [Int.mul_assoc, Int.mul_left_comm 4294967296 u, ← Int.mul_assoc x u]; rfl
  have h2 : x * 4294967296 * v = x * v * 4294967296 := by rw [Int.mul_assoc, Int.mul_comm 4294967296 v, Int.mul_assoc]
  have h3 : y * (u * 4294967296) = y * u * 4294967296 := by rw [Int.mul_assoc]
  rw [h1, h2, h3]
  omega

theorem ret_nb {k : IntKind} {a c : Int} {b d : Bool} (h : c = a ∧ d = b) : Ending.returned (.tuple #[.int k a, .bool b]) = .returned (.tuple #[.int k c, .bool d]) := by rw [h.1, h.2]
theorem ret_n {k : IntKind} {a c : Int} (h : c = a) : Ending.returned (.int k a) = .returned (.int k c) := by rw [h]
theorem ret_nn {k l : IntKind} {a b c d : Int} (h : c = a ∧ d = b) : Ending.returned (.tuple #[.int k a, .int l b]) = .returned (.tuple #[.int k c, .int l d]) := by rw [h.1, h.2]
theorem neg_u64 {L : Int} (hL : 0 ≤ L ∧ L ≤ 9223372036854775808) : wrap64 (IntKind.u64.wrap (-L)) = -L := by
  rw [IntKind.wrap_u64]; unfold wrap64; omega
end Go.Proofs.YteemaofajcbniaaDoor
