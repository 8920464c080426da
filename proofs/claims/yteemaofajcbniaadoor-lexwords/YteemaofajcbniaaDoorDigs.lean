/-
  Plain facts on decimal digits: the digits of a number, low ones first gathered, are its decimal text; what is written is read as it was. No program is named here. No conditions.
-/
import Derived.Test.YteemaofajcbniaaDoorNums
namespace Go.Proofs.YteemaofajcbniaaDoor
set_option linter.unusedVariables false

/-- the last digit's byte -/
def dig (n : Nat) : UInt8 := UInt8.ofNat (48 + n % 10)
theorem dig_toNat (n : Nat) : (dig n).toNat = 48 + n % 10 := by
  unfold dig
  rw [UInt8.toNat_ofNat']
  have : n % 10 < 10 := Nat.mod_lt _ (by omega)
  omega

/-- the k lowest digits, the highest of them first -/
def low : Nat → Nat → List UInt8
  | 0, _ => []
  | k + 1, n => dig (n / 10 ^ k) :: low k n
theorem low_length (k n : Nat) : (low k n).length = k := by
  induction k with
  | zero => rfl
  | succ k ih => simp [low, ih]
theorem low_back (k n : Nat) : low (k + 1) n = low k (n / 10) ++ [dig n] := by
  induction k with
  | zero => simp [low]
  | succ k ih =>
    rw [low, ih, low, Nat.div_div_eq_div_mul, Nat.pow_succ, Nat.mul_comm]; rfl

/-- the decimal text of a number; f + 1 digits at most -/
def dec : Nat → Nat → List UInt8
  | 0, n => [dig n]
  | f + 1, n => if n < 10 then [dig n] else dec f (n / 10) ++ [dig n]
theorem low_dec (k n f : Nat) (h1 : n / 10 ^ (k + 1) = 0) (h2 : k = 0 ∨ n / 10 ^ k ≠ 0) (hf : k ≤ f) : low (k + 1) n = dec f n := by
  induction k generalizing n f with
  | zero =>
    have hn : n < 10 := by
      rw [Nat.div_eq_zero_iff] at h1
      omega
    cases f with
    | zero => simp [low, dec]
    | succ f => simp [low, dec, hn]
  | succ k ih =>
    cases f with
    | zero => omega
    | succ f =>
      have h3 : n / 10 ^ (k + 1) ≠ 0 := by
        cases h2 with
        | inl h => omega
        | inr h => exact h
      have hn : ¬ n < 10 := by
        intro h
        apply h3
        apply Nat.div_eq_of_lt
        have h1 : 10 ^ 1 ≤ 10 ^ (k + 1) := Nat.pow_le_pow_right (by omega) (by omega)
        omega
      have e : ∀ j, n / 10 ^ (j + 1) = n / 10 / 10 ^ j := fun j => by
        rw [Nat.div_div_eq_div_mul, Nat.pow_succ, Nat.mul_comm]
      rw [low_back, dec, if_neg hn, ih (n / 10) f (by rw [← e]; exact h1) (by
        cases k with
        | zero => exact .inl rfl
        | succ k => exact .inr (by rw [← e]; exact h3)) (by omega)]

/-- what digits come to -/
def val (l : List UInt8) : Nat := l.foldl (fun v c => 10 * v + (c.toNat - 48)) 0
theorem val_snoc (l : List UInt8) (c : UInt8) : val (l ++ [c]) = 10 * val l + (c.toNat - 48) := by
  unfold val; simp
theorem val_dec (f n : Nat) (h : n < 10 ^ (f + 1)) : val (dec f n) = n := by
  induction f generalizing n with
  | zero =>
    simp at h
    simp [dec, val, dig_toNat]; omega
  | succ f ih =>
    rw [dec]
    by_cases hn : n < 10
    · rw [if_pos hn]; simp [val, dig_toNat]; omega
    · rw [if_neg hn, val_snoc, ih (n / 10) (by rw [Nat.pow_succ] at h; omega), dig_toNat]; omega
theorem dec_digits (f n : Nat) : ∀ c ∈ dec f n, 48 ≤ c.toNat ∧ c.toNat ≤ 57 := by
  have hd : ∀ n, 48 ≤ (dig n).toNat ∧ (dig n).toNat ≤ 57 := fun n => by rw [dig_toNat]; omega
  induction f generalizing n with
  | zero => intro c hc; simp [dec] at hc; rw [hc]; exact hd n
  | succ f ih =>
    intro c hc
    rw [dec] at hc
    by_cases hn : n < 10
    · rw [if_pos hn] at hc; simp at hc; rw [hc]; exact hd n
    · rw [if_neg hn] at hc
      rcases List.mem_append.1 hc with h | h
      · exact ih _ c h
      · simp at h; rw [h]; exact hd n
theorem dec_length (f n : Nat) : 1 ≤ (dec f n).length ∧ (dec f n).length ≤ f + 1 := by
  induction f generalizing n with
  | zero => simp [dec]
  | succ f ih =>
    rw [dec]
    by_cases hn : n < 10
    · rw [if_pos hn]; simp
    · rw [if_neg hn]
      have := ih (n / 10)
      simp; omega
/-- a 0 leads only where it is alone -/
theorem dec_head (f n : Nat) (h : n < 10 ^ (f + 1)) : (∃ c t, dec f n = c :: t ∧ (c.toNat = 48 → t = [] ∧ n = 0)) := by
  induction f generalizing n with
  | zero =>
    simp at h
    refine ⟨dig n, [], rfl, fun hc => ⟨rfl, ?_⟩⟩
    rw [dig_toNat] at hc; omega
  | succ f ih =>
    rw [dec]
    by_cases hn : n < 10
    · rw [if_pos hn]
      refine ⟨dig n, [], rfl, fun hc => ⟨rfl, ?_⟩⟩
      rw [dig_toNat] at hc; omega
    · rw [if_neg hn]
      obtain ⟨c, t, e, h2⟩ := ih (n / 10) (by rw [Nat.pow_succ] at h; omega)
      refine ⟨c, t ++ [dig n], by rw [e]; rfl, fun hc => ?_⟩
      have := (h2 hc).2
      omega

/-- the text of a whole number -/
def textL (a : Int) : List UInt8 := if a < 0 then 45 :: dec 18 a.natAbs else dec 18 a.natAbs
theorem textL_neg {a : Int} (h : a < 0) : textL a = 45 :: dec 18 a.natAbs := by unfold textL; rw [if_pos h]
theorem textL_pos {a : Int} (h : 0 ≤ a) : textL a = dec 18 a.natAbs := by unfold textL; rw [if_neg (by omega)]
end Go.Proofs.YteemaofajcbniaaDoor
