/-
  Texts that belong together, one behind the other: Nums, Digs, TextFacts, ReadFacts, Fracs. Conditions: as each says.
-/
import Derived.IntWalk
import Derived.Laws.Bits64
import Derived.RowKit
/-
  Plain facts on whole numbers of 64 bits: what fits, what wraps, products by halves, digits. No program is named here. No conditions.
-/
namespace Go.Proofs.Ytllkkgcfhphgmaa
open Go.RowKit (wrap64)
set_option linter.unusedVariables false

/-- from -2^63 to 2^63 - 1 -/
def fitB (n : Int) : Bool := decide (-9223372036854775808 ≤ n) && decide (n ≤ 9223372036854775807)
/-- the number where it fits, else 0 -/
def fitV (n : Int) : Int := if fitB n = true then n else 0

theorem fitB_iff (n : Int) : fitB n = true ↔ -9223372036854775808 ≤ n ∧ n ≤ 9223372036854775807 := by
  unfold fitB; simp

theorem fit_yes {n : Int} (h : -9223372036854775808 ≤ n ∧ n ≤ 9223372036854775807) : fitB n = true ∧ fitV n = n := by
  have := (fitB_iff n).2 h
  exact ⟨this, by unfold fitV; simp [this]⟩

theorem fit_no {n : Int} (h : ¬(-9223372036854775808 ≤ n ∧ n ≤ 9223372036854775807)) : fitB n = false ∧ fitV n = 0 := by
  have h2 : fitB n = false := by
    cases e : fitB n
    · rfl
    · exact absurd ((fitB_iff n).1 e) h
  exact ⟨h2, by unfold fitV; simp [h2]⟩

theorem fitV_bd (n : Int) : -9223372036854775808 ≤ fitV n ∧ fitV n ≤ 9223372036854775807 := by
  by_cases h : -9223372036854775808 ≤ n ∧ n ≤ 9223372036854775807
  · rw [(fit_yes h).2]; exact h
  · rw [(fit_no h).2]; omega

/-! sums -/
theorem add_over {a b : Int} (ha : -9223372036854775808 ≤ a ∧ a ≤ 9223372036854775807) (hb : -9223372036854775808 ≤ b ∧ b ≤ 9223372036854775807)
    (h : (!decide (a < wrap64 (a + b)) == decide (0 < b)) = true) : fitV (a + b) = 0 ∧ fitB (a + b) = false := by
  have h3 : ¬(-9223372036854775808 ≤ a + b ∧ a + b ≤ 9223372036854775807) := by
    intro hc
    rw [Go.IntWalk.wrap64_in _ hc] at h
    simp at h
    omega
  exact ⟨(fit_no h3).2, (fit_no h3).1⟩

theorem add_fine {a b : Int} (ha : -9223372036854775808 ≤ a ∧ a ≤ 9223372036854775807) (hb : -9223372036854775808 ≤ b ∧ b ≤ 9223372036854775807)
    (h : (!decide (a < wrap64 (a + b)) == decide (0 < b)) = false) : fitV (a + b) = wrap64 (a + b) ∧ fitB (a + b) = true := by
  have h3 : (-9223372036854775808 ≤ a + b ∧ a + b ≤ 9223372036854775807) := by
    simp at h
    unfold wrap64 at h
    omega
  exact ⟨by rw [(fit_yes h3).2, Go.IntWalk.wrap64_in _ h3], (fit_yes h3).1⟩

/-! a sum by signs -/
theorem radd_over {a b : Int} (h : (a + b < -9223372036854775808 ∨ 9223372036854775807 < a + b)) : fitV (a + b) = 0 ∧ fitB (a + b) = false :=
  ⟨(fit_no (by omega)).2, (fit_no (by omega)).1⟩

/-! the sign turned -/
theorem neg_over {a : Int} (h : (a == -9223372036854775808) = true) : fitV (-a) = 0 ∧ fitB (-a) = false := by
  simp at h
  exact ⟨(fit_no (by omega)).2, (fit_no (by omega)).1⟩
theorem neg_fine {a : Int} (ha : -9223372036854775808 ≤ a ∧ a ≤ 9223372036854775807) (h : (a == -9223372036854775808) = false) : fitV (-a) = -a ∧ fitB (-a) = true := by
  simp at h
  exact ⟨(fit_yes (by omega)).2, (fit_yes (by omega)).1⟩

/-! products -/
theorem abs_mul_lt {a k : Int} (hk : k ≠ 0) : (a.natAbs : Int) ≤ ((a * k).natAbs : Int) := by
  rw [Int.natAbs_mul]
  have : 1 ≤ k.natAbs := by omega
  have h2 : a.natAbs * 1 ≤ a.natAbs * k.natAbs := Nat.mul_le_mul_left _ this
  omega

theorem tdiv_bd (x a : Int) (h0 : a ≠ 0) (h1 : a ≠ -1) (hx : -9223372036854775808 ≤ x ∧ x ≤ 9223372036854775807) :
    -9223372036854775808 ≤ x.tdiv a ∧ x.tdiv a ≤ 9223372036854775807 := by
  have h := Int.natAbs_tdiv x a
  by_cases h2 : a = 1
  · subst h2; simpa using hx
  · have h3 : 2 ≤ a.natAbs := by omega
    have h4 : x.natAbs / a.natAbs ≤ x.natAbs / 2 := Nat.div_le_div_left h3 (by omega)
    have h5 : x.natAbs ≤ 9223372036854775808 := by omega
    have h6 : (x.tdiv a).natAbs ≤ 9223372036854775808 / 2 := by
      rw [h]; exact Nat.le_trans h4 (Nat.div_le_div_right h5)
    omega

/-- what divides back is what did not wrap -/
theorem mul_back {a b : Int} (h0 : a ≠ 0) (h1 : a ≠ -1) (ha : -9223372036854775808 ≤ a ∧ a ≤ 9223372036854775807) :
    wrap64 ((wrap64 (a * b)).tdiv a) = b ↔ (-9223372036854775808 ≤ a * b ∧ a * b ≤ 9223372036854775807) ∧ (-9223372036854775808 ≤ b ∧ b ≤ 9223372036854775807) := by
  have hw : -9223372036854775808 ≤ wrap64 (a * b) ∧ wrap64 (a * b) ≤ 9223372036854775807 := by unfold wrap64; omega
  have ht := tdiv_bd (wrap64 (a * b)) a h0 h1 hw
  rw [Go.IntWalk.wrap64_in _ ht]
  constructor
  · intro h
    refine ⟨?_, by rw [← h]; exact ht⟩
    by_cases hc : -9223372036854775808 ≤ a * b ∧ a * b ≤ 9223372036854775807
    · exact hc
    · exfalso
      have e := Int.mul_tdiv_add_tmod (wrap64 (a * b)) a
      rw [h] at e
      have hl : ((wrap64 (a * b)).tmod a).natAbs < a.natAbs := by
        rw [Int.natAbs_tmod]; exact Nat.mod_lt _ (by omega)
      unfold wrap64 at e hl
      generalize a * b = p at *
      generalize ((p + 9223372036854775808) % 18446744073709551616 - 9223372036854775808).tmod a = r at *
      omega
  · intro h
    rw [Go.IntWalk.wrap64_in _ h.1]
    exact Int.mul_tdiv_cancel_left _ h0

theorem mul_over {a b : Int} (h0 : a ≠ 0) (h1 : a ≠ -1) (ha : -9223372036854775808 ≤ a ∧ a ≤ 9223372036854775807) (hb : -9223372036854775808 ≤ b ∧ b ≤ 9223372036854775807)
    (h : (wrap64 ((wrap64 (a * b)).tdiv a) != b) = true) : fitV (a * b) = 0 ∧ fitB (a * b) = false := by
  have h3 : ¬(-9223372036854775808 ≤ a * b ∧ a * b ≤ 9223372036854775807) := by
    intro hc
    have := (mul_back h0 h1 ha).2 ⟨hc, hb⟩
    simp [this] at h
  exact ⟨(fit_no h3).2, (fit_no h3).1⟩
theorem mul_fine {a b : Int} (h0 : a ≠ 0) (h1 : a ≠ -1) (ha : -9223372036854775808 ≤ a ∧ a ≤ 9223372036854775807) (hb : -9223372036854775808 ≤ b ∧ b ≤ 9223372036854775807)
    (h : (wrap64 ((wrap64 (a * b)).tdiv a) != b) = false) : fitV (a * b) = wrap64 (a * b) ∧ fitB (a * b) = true := by
  have h3 : (-9223372036854775808 ≤ a * b ∧ a * b ≤ 9223372036854775807) := by
    simp at h
    exact ((mul_back h0 h1 ha).1 h).1
  exact ⟨by rw [(fit_yes h3).2, Go.IntWalk.wrap64_in _ h3], (fit_yes h3).1⟩

/-! the wide product -/
def wideH (a b : Int) : Int := a * b / 18446744073709551616
def wideL (a b : Int) : Int := a * b % 18446744073709551616

theorem prod_bd {a b m n : Int} (ha : 0 ≤ a) (hb : 0 ≤ b) (ham : a ≤ m) (hbn : b ≤ n) : 0 ≤ a * b ∧ a * b ≤ m * n :=
  ⟨Int.mul_nonneg ha hb, Int.mul_le_mul ham hbn hb (by omega)⟩

theorem wide_split (a b : Int) : a * b = a / 4294967296 * (b / 4294967296) * 18446744073709551616 + (a / 4294967296 * (b % 4294967296) + a % 4294967296 * (b / 4294967296)) * 4294967296 + a % 4294967296 * (b % 4294967296) := by
  have ea : a = a / 4294967296 * 4294967296 + a % 4294967296 := by omega
  have eb : b = b / 4294967296 * 4294967296 + b % 4294967296 := by omega
  generalize a / 4294967296 = x at *
  generalize a % 4294967296 = y at *
  generalize b / 4294967296 = u at *
  generalize b % 4294967296 = v at *
  subst ea eb
  simp only [Int.add_mul, Int.mul_add]
  have h1 : x * 4294967296 * (u * 4294967296) = x * u * 18446744073709551616 := by
    rw [Int.mul_assoc, Int.mul_left_comm 4294967296 u, ← Int.mul_assoc x u]; rfl
  have h2 : x * 4294967296 * v = x * v * 4294967296 := by rw [Int.mul_assoc, Int.mul_comm 4294967296 v, Int.mul_assoc]
  have h3 : y * (u * 4294967296) = y * u * 4294967296 := by rw [Int.mul_assoc]
  rw [h1, h2, h3]
  omega

theorem ret_nb {k : IntKind} {a c : Int} {b d : Bool} (h : c = a ∧ d = b) : Ending.returned (.tuple #[.int k a, .bool b]) = .returned (.tuple #[.int k c, .bool d]) := by rw [h.1, h.2]
theorem ret_n {k : IntKind} {a c : Int} (h : c = a) : Ending.returned (.int k a) = .returned (.int k c) := by rw [h]
theorem ret_nn {k l : IntKind} {a b c d : Int} (h : c = a ∧ d = b) : Ending.returned (.tuple #[.int k a, .int l b]) = .returned (.tuple #[.int k c, .int l d]) := by rw [h.1, h.2]
theorem neg_u64 {L : Int} (hL : 0 ≤ L ∧ L ≤ 9223372036854775808) : wrap64 (IntKind.u64.wrap (-L)) = -L := by
  rw [IntKind.wrap_u64]; unfold wrap64; omega
end Go.Proofs.Ytllkkgcfhphgmaa
/-
  Plain facts on decimal digits: the digits of a number, low ones first gathered, are its decimal text; what is written is read as it was. No program is named here. No conditions.
-/
namespace Go.Proofs.Ytllkkgcfhphgmaa
set_option linter.unusedVariables false

/-- the last digit's byte -/
def dig (n : Nat) : UInt8 := UInt8.ofNat (48 + n % 10)
theorem dig_toNat (n : Nat) : (dig n).toNat = 48 + n % 10 := by
  unfold dig
  rw [UInt8.toNat_ofNat']
  have : n % 10 < 10 := Nat.mod_lt _ (by omega)
  omega

/-- the k lowest digits, the highest of them first -/
def low : Nat → Nat → List UInt8
  | 0, _ => []
  | k + 1, n => dig (n / 10 ^ k) :: low k n
theorem low_length (k n : Nat) : (low k n).length = k := by
  induction k with
  | zero => rfl
  | succ k ih => simp [low, ih]
theorem low_back (k n : Nat) : low (k + 1) n = low k (n / 10) ++ [dig n] := by
  induction k with
  | zero => simp [low]
  | succ k ih =>
    rw [low, ih, low, Nat.div_div_eq_div_mul, Nat.pow_succ, Nat.mul_comm]; rfl

/-- the decimal text of a number; f + 1 digits at most -/
def dec : Nat → Nat → List UInt8
  | 0, n => [dig n]
  | f + 1, n => if n < 10 then [dig n] else dec f (n / 10) ++ [dig n]
theorem low_dec (k n f : Nat) (h1 : n / 10 ^ (k + 1) = 0) (h2 : k = 0 ∨ n / 10 ^ k ≠ 0) (hf : k ≤ f) : low (k + 1) n = dec f n := by
  induction k generalizing n f with
  | zero =>
    have hn : n < 10 := by
      rw [Nat.div_eq_zero_iff] at h1
      omega
    cases f with
    | zero => simp [low, dec]
    | succ f => simp [low, dec, hn]
  | succ k ih =>
    cases f with
    | zero => omega
    | succ f =>
      have h3 : n / 10 ^ (k + 1) ≠ 0 := by
        cases h2 with
        | inl h => omega
        | inr h => exact h
      have hn : ¬ n < 10 := by
        intro h
        apply h3
        apply Nat.div_eq_of_lt
        have h1 : 10 ^ 1 ≤ 10 ^ (k + 1) := Nat.pow_le_pow_right (by omega) (by omega)
        omega
      have e : ∀ j, n / 10 ^ (j + 1) = n / 10 / 10 ^ j := fun j => by
        rw [Nat.div_div_eq_div_mul, Nat.pow_succ, Nat.mul_comm]
      rw [low_back, dec, if_neg hn, ih (n / 10) f (by rw [← e]; exact h1) (by
        cases k with
        | zero => exact .inl rfl
        | succ k => exact .inr (by rw [← e]; exact h3)) (by omega)]

/-- what digits come to -/
def val (l : List UInt8) : Nat := l.foldl (fun v c => 10 * v + (c.toNat - 48)) 0
theorem val_snoc (l : List UInt8) (c : UInt8) : val (l ++ [c]) = 10 * val l + (c.toNat - 48) := by
  unfold val; simp
theorem val_dec (f n : Nat) (h : n < 10 ^ (f + 1)) : val (dec f n) = n := by
  induction f generalizing n with
  | zero =>
    simp at h
    simp [dec, val, dig_toNat]; omega
  | succ f ih =>
    rw [dec]
    by_cases hn : n < 10
    · rw [if_pos hn]; simp [val, dig_toNat]; omega
    · rw [if_neg hn, val_snoc, ih (n / 10) (by rw [Nat.pow_succ] at h; omega), dig_toNat]; omega
theorem dec_digits (f n : Nat) : ∀ c ∈ dec f n, 48 ≤ c.toNat ∧ c.toNat ≤ 57 := by
  have hd : ∀ n, 48 ≤ (dig n).toNat ∧ (dig n).toNat ≤ 57 := fun n => by rw [dig_toNat]; omega
  induction f generalizing n with
  | zero => intro c hc; simp [dec] at hc; rw [hc]; exact hd n
  | succ f ih =>
    intro c hc
    rw [dec] at hc
    by_cases hn : n < 10
    · rw [if_pos hn] at hc; simp at hc; rw [hc]; exact hd n
    · rw [if_neg hn] at hc
      rcases List.mem_append.1 hc with h | h
      · exact ih _ c h
      · simp at h; rw [h]; exact hd n
theorem dec_length (f n : Nat) : 1 ≤ (dec f n).length ∧ (dec f n).length ≤ f + 1 := by
  induction f generalizing n with
  | zero => simp [dec]
  | succ f ih =>
    rw [dec]
    by_cases hn : n < 10
    · rw [if_pos hn]; simp
    · rw [if_neg hn]
      have := ih (n / 10)
      simp; omega
/-- a 0 leads only where it is alone -/
theorem dec_head (f n : Nat) (h : n < 10 ^ (f + 1)) : (∃ c t, dec f n = c :: t ∧ (c.toNat = 48 → t = [] ∧ n = 0)) := by
  induction f generalizing n with
  | zero =>
    simp at h
    refine ⟨dig n, [], rfl, fun hc => ⟨rfl, ?_⟩⟩
    rw [dig_toNat] at hc; omega
  | succ f ih =>
    rw [dec]
    by_cases hn : n < 10
    · rw [if_pos hn]
      refine ⟨dig n, [], rfl, fun hc => ⟨rfl, ?_⟩⟩
      rw [dig_toNat] at hc; omega
    · rw [if_neg hn]
      obtain ⟨c, t, e, h2⟩ := ih (n / 10) (by rw [Nat.pow_succ] at h; omega)
      refine ⟨c, t ++ [dig n], by rw [e]; rfl, fun hc => ?_⟩
      have := (h2 hc).2
      omega

/-- the text of a whole number -/
def textL (a : Int) : List UInt8 := if a < 0 then 45 :: dec 18 a.natAbs else dec 18 a.natAbs
theorem textL_neg {a : Int} (h : a < 0) : textL a = 45 :: dec 18 a.natAbs := by unfold textL; rw [if_pos h]
theorem textL_pos {a : Int} (h : 0 ≤ a) : textL a = dec 18 a.natAbs := by unfold textL; rw [if_neg (by omega)]
end Go.Proofs.Ytllkkgcfhphgmaa
/-
  Plain facts on decimal texts of whole numbers: unlike numbers have unlike texts, how long they are, and when they begin with a minus. Condition: numbers of 64 bits.
-/
namespace Go.Proofs.Ytllkkgcfhphgmaa
set_option linter.unusedVariables false

theorem natAbs_lt {a : Int} (ha : -9223372036854775808 ≤ a ∧ a ≤ 9223372036854775807) : a.natAbs < 10 ^ (18 + 1) := by
  have : (10 : Nat) ^ (18 + 1) = 10000000000000000000 := by decide
  rw [this]; omega

theorem dec_no_minus (f n : Nat) (h : n < 10 ^ (f + 1)) : ∃ c t, dec f n = c :: t ∧ c ≠ 45 := by
  obtain ⟨c, t, e, _⟩ := dec_head f n h
  refine ⟨c, t, e, fun hc => ?_⟩
  have := dec_digits f n c (by rw [e]; simp)
  rw [hc] at this
  exact absurd this.1 (by decide)

theorem textL_inj {a b : Int} (ha : -9223372036854775808 ≤ a ∧ a ≤ 9223372036854775807) (hb : -9223372036854775808 ≤ b ∧ b ≤ 9223372036854775807) (h : textL a = textL b) : a = b := by
  have va := val_dec 18 a.natAbs (natAbs_lt ha)
  have vb := val_dec 18 b.natAbs (natAbs_lt hb)
  obtain ⟨ca, ta, ea, na⟩ := dec_no_minus 18 a.natAbs (natAbs_lt ha)
  obtain ⟨cb, tb, eb, nb⟩ := dec_no_minus 18 b.natAbs (natAbs_lt hb)
  by_cases h1 : a < 0 <;> by_cases h2 : b < 0
  · rw [textL_neg h1, textL_neg h2] at h
    have h3 := (List.cons.inj h).2
    rw [h3, vb] at va; omega
  · rw [textL_neg h1, textL_pos (by omega), eb] at h
    exact absurd (List.cons.inj h).1.symm nb
  · rw [textL_pos (by omega), textL_neg h2, ea] at h
    exact absurd (List.cons.inj h).1 na
  · rw [textL_pos (by omega), textL_pos (by omega)] at h
    rw [h, vb] at va; omega

theorem textL_len (a : Int) : 1 ≤ (textL a).length ∧ (textL a).length ≤ 20 := by
  have := dec_length 18 a.natAbs
  by_cases h1 : a < 0
  · rw [textL_neg h1]; simp; omega
  · rw [textL_pos (by omega)]; omega

theorem textL_first {a : Int} (ha : -9223372036854775808 ≤ a ∧ a ≤ 9223372036854775807) : ∃ c t, textL a = c :: t ∧ (c = 45 ↔ a < 0) := by
  by_cases h1 : a < 0
  · exact ⟨45, _, textL_neg h1, by simp [h1]⟩
  · obtain ⟨ca, ta, ea, na⟩ := dec_no_minus 18 a.natAbs (natAbs_lt ha)
    exact ⟨ca, ta, by rw [textL_pos (by omega), ea], by simp [h1, na]⟩
end Go.Proofs.Ytllkkgcfhphgmaa
/-
  Plain facts on reading a decimal text: what digits come to, how great that is, which texts are no number's, and that a number's text is read as the number. No program is named here. Condition of the last: a number of 64 bits.
-/
namespace Go.Proofs.Ytllkkgcfhphgmaa
set_option linter.unusedVariables false

def isd (c : UInt8) : Bool := decide (48 ≤ c.toNat) && decide (c.toNat ≤ 57)
theorem isd_iff (c : UInt8) : isd c = true ↔ 48 ≤ c.toNat ∧ c.toNat ≤ 57 := by unfold isd; simp

theorem val_foldl (l : List UInt8) (v : Nat) : l.foldl (fun v c => 10 * v + (c.toNat - 48)) v = v * 10 ^ l.length + val l := by
  induction l generalizing v with
  | nil => simp [val]
  | cons c l ih =>
    show l.foldl (fun v c => 10 * v + (c.toNat - 48)) (10 * v + (c.toNat - 48)) = v * 10 ^ (l.length + 1) + l.foldl (fun v c => 10 * v + (c.toNat - 48)) (10 * 0 + (c.toNat - 48))
    rw [ih, ih (10 * 0 + (c.toNat - 48)), Nat.mul_zero, Nat.zero_add, Nat.add_mul, Nat.pow_succ]
    have : 10 * v * 10 ^ l.length = v * (10 ^ l.length * 10) := by
      rw [Nat.mul_comm 10 v, Nat.mul_assoc, Nat.mul_comm 10]
    omega
theorem val_append (l m : List UInt8) : val (l ++ m) = val l * 10 ^ m.length + val m := by
  have := val_foldl m (val l)
  unfold val at this ⊢
  rw [List.foldl_append]; exact this
theorem val_cons (c : UInt8) (l : List UInt8) : val (c :: l) = (c.toNat - 48) * 10 ^ l.length + val l := by
  have := val_append [c] l
  simpa [val] using this
theorem val_mono (l m : List UInt8) : val l ≤ val (l ++ m) := by
  rw [val_append]
  have : val l * 1 ≤ val l * 10 ^ m.length := Nat.mul_le_mul_left _ (Nat.one_le_pow _ _ (by omega))
  omega
theorem val_take_le (l : List UInt8) (k : Nat) : val (l.take k) ≤ val l := by
  have := val_mono (l.take k) (l.drop k)
  rwa [List.take_append_drop] at this
theorem val_lt (l : List UInt8) (h : l.all isd = true) : val l < 10 ^ l.length := by
  induction l with
  | nil => simp [val]
  | cons c l ih =>
    simp only [List.all_cons, Bool.and_eq_true] at h
    have hc := (isd_iff c).1 h.1
    have := ih h.2
    rw [val_cons, List.length_cons, Nat.pow_succ]
    have h2 : (c.toNat - 48) * 10 ^ l.length ≤ 9 * 10 ^ l.length := Nat.mul_le_mul_right _ (by omega)
    omega
theorem val_ge (c : UInt8) (l : List UInt8) (h : isd c = true) (h0 : c ≠ 48) : 10 ^ l.length ≤ val (c :: l) := by
  rw [val_cons]
  have hc := (isd_iff c).1 h
  have hn : c.toNat ≠ 48 := fun e => h0 (UInt8.toNat_inj.1 e)
  have h2 : 1 * 10 ^ l.length ≤ (c.toNat - 48) * 10 ^ l.length := Nat.mul_le_mul_right _ (by omega)
  omega

/-- digits and nothing else, a 0 leading only where it is alone -/
def plainB (l : List UInt8) : Bool := !l.isEmpty && !(l.headD 0 == 48 && decide (1 < l.length)) && l.all isd

def badB (t : List UInt8) (minus : Bool) : Bool := !plainB t || (minus && t == [48])
def sgn (minus : Bool) (v : Nat) : Int := if minus = true then -(v : Int) else (v : Int)
def coreV (t : List UInt8) (minus : Bool) : Int := if badB t minus = true then 0 else fitV (sgn minus (val t))
def coreE (t : List UInt8) (minus : Bool) : Int := if badB t minus = true then 6 else if fitB (sgn minus (val t)) = true then 0 else 2
def readV (l : List UInt8) : Int := if l.head? = some 45 then coreV (l.drop 1) true else coreV l false
def readE (l : List UInt8) : Int := if l.head? = some 45 then coreE (l.drop 1) true else coreE l false

theorem core_bad {t : List UInt8} {minus : Bool} (h : badB t minus = true) : coreV t minus = 0 ∧ coreE t minus = 6 := by
  unfold coreV coreE; simp [h]
theorem core_over {t : List UInt8} {minus : Bool} (h : badB t minus = false) (h2 : fitB (sgn minus (val t)) = false) : coreV t minus = 0 ∧ coreE t minus = 2 := by
  unfold coreV coreE fitV; simp [h, h2]
theorem core_fine {t : List UInt8} {minus : Bool} (h : badB t minus = false) (h2 : fitB (sgn minus (val t)) = true) : coreV t minus = sgn minus (val t) ∧ coreE t minus = 0 := by
  unfold coreV coreE fitV; simp [h, h2]

theorem dec_all (f n : Nat) : (dec f n).all isd = true := by
  rw [List.all_eq_true]
  intro c hc
  exact (isd_iff c).2 (dec_digits f n c hc)
theorem dec_plain (f n : Nat) (h : n < 10 ^ (f + 1)) : plainB (dec f n) = true := by
  unfold plainB
  rw [dec_all]
  obtain ⟨c, t, e, h2⟩ := dec_head f n h
  rw [e]
  by_cases hc : c.toNat = 48
  · have := (h2 hc).1; subst this; simp
  · have : ¬ c = 48 := fun x => hc (by rw [x]; rfl)
    simp [this]

theorem read_text {a : Int} (ha : -9223372036854775808 ≤ a ∧ a ≤ 9223372036854775807) : readV (textL a) = a ∧ readE (textL a) = 0 := by
  have hl := natAbs_lt ha
  have hp := dec_plain 18 a.natAbs hl
  have hv := val_dec 18 a.natAbs hl
  by_cases h : a < 0
  · have hb : badB (dec 18 a.natAbs) true = false := by
      unfold badB
      rw [hp]
      have : dec 18 a.natAbs ≠ [48] := by
        intro e
        rw [e] at hv
        have : val [48] = 0 := by decide
        omega
      simp [this]
    have hs : sgn true (val (dec 18 a.natAbs)) = a := by
      rw [hv]; unfold sgn; simp; omega
    have hf : fitB (sgn true (val (dec 18 a.natAbs))) = true := by rw [hs]; exact (fit_yes ha).1
    unfold readV readE
    rw [textL_neg h]
    have := core_fine hb hf
    rw [hs] at this
    simpa using this
  · have hb : badB (dec 18 a.natAbs) false = false := by
      unfold badB
      rw [hp]; simp
    have hs : sgn false (val (dec 18 a.natAbs)) = a := by
      rw [hv]; unfold sgn; simp; omega
    have hf : fitB (sgn false (val (dec 18 a.natAbs))) = true := by rw [hs]; exact (fit_yes ha).1
    obtain ⟨c, t, e, hc⟩ := dec_no_minus 18 a.natAbs hl
    unfold readV readE
    rw [textL_pos (by omega)]
    have := core_fine hb hf
    rw [hs] at this
    have hh : ¬ (dec 18 a.natAbs).head? = some 45 := by rw [e]; simp [hc]
    rw [if_neg hh, if_neg hh]
    exact this
end Go.Proofs.Ytllkkgcfhphgmaa
/-
  Plain facts on fractions: which are right, what is made of two numbers, products, sums, order; that each is exact, and that right fractions which are as much are one. No program is named here. No conditions.
-/
namespace Go.Proofs.Ytllkkgcfhphgmaa
open Go.RowKit (wrap64)
set_option linter.unusedVariables false

def I64 (n : Int) : Prop := -9223372036854775808 ≤ n ∧ n ≤ 9223372036854775807
def gcdN (n d : Int) : Nat := Nat.gcd n.natAbs d.natAbs
def rightB (n d : Int) : Bool := decide (0 < d) && decide (gcdN n d = 1)

theorem right_iff (n d : Int) : rightB n d = true ↔ 0 < d ∧ gcdN n d = 1 := by
  unfold rightB; simp

/-- the number, the sign turned where d lies below 0, divided -/
def mkX (n d : Int) : Int := if 0 < d then n.tdiv (gcdN n d) else -(n.tdiv (gcdN n d))
def mkY (n d : Int) : Int := if 0 < d then d.tdiv (gcdN n d) else -(d.tdiv (gcdN n d))
def mkOk (n d : Int) : Bool := !decide (d = 0) && (fitB (mkX n d) && fitB (mkY n d))
def mkN (n d : Int) : Int := if mkOk n d = true then mkX n d else 0
def mkD (n d : Int) : Int := if mkOk n d = true then mkY n d else 0
def mkE (n d : Int) : Int := if d = 0 then 3 else if mkOk n d = true then 0 else 2

theorem gcdN_pos {n d : Int} (h : d ≠ 0) : 0 < gcdN n d := Nat.gcd_pos_of_pos_right _ (by omega)
theorem gcdN_le {n d : Int} (h : d ≠ 0) : gcdN n d ≤ d.natAbs := Nat.gcd_le_right _ (by omega)
theorem gcdN_comm (n d : Int) : gcdN n d = gcdN d n := Nat.gcd_comm _ _

theorem td_mul {n : Int} {g : Nat} (h : g ∣ n.natAbs) : n.tdiv g * (g : Int) = n := by
  have : (g : Int) ∣ n := Int.ofNat_dvd_left.2 h
  exact Int.tdiv_mul_cancel this
theorem td_abs (n : Int) (g : Nat) : (n.tdiv g).natAbs = n.natAbs / g := by
  rw [Int.natAbs_tdiv]; rfl
theorem td_left (n d : Int) : n.tdiv (gcdN n d) * (gcdN n d : Int) = n := td_mul (Nat.gcd_dvd_left _ _)
theorem td_right (n d : Int) : d.tdiv (gcdN n d) * (gcdN n d : Int) = d := td_mul (Nat.gcd_dvd_right _ _)
theorem td_bd {n : Int} {g : Nat} (hg : 0 < g) (h : I64 n) : I64 (n.tdiv g) := by
  unfold I64 at *
  exact Go.Proofs.Ytllkkgcfhphgmaa.tdiv_bd n g (by omega) (by omega) h
theorem td_pos {d : Int} {g : Nat} (hd : 0 < d) (h : g ∣ d.natAbs) : 0 < d.tdiv g := by
  have e := td_mul h
  rcases Int.lt_trichotomy (d.tdiv g) 0 with h1 | h1 | h1
  · exfalso
    have : d.tdiv g * (g : Int) ≤ 0 := Int.mul_nonpos_of_nonpos_of_nonneg (by omega) (by omega)
    omega
  · rw [h1] at e; omega
  · exact h1

theorem mkY_pos {n d : Int} (h : d ≠ 0) : 0 < mkY n d := by
  unfold mkY
  by_cases h1 : 0 < d
  · rw [if_pos h1]; exact td_pos h1 (Nat.gcd_dvd_right _ _)
  · rw [if_neg h1, ← Int.neg_tdiv]
    exact td_pos (by omega) (by rw [Int.natAbs_neg]; exact Nat.gcd_dvd_right _ _)

theorem mk_gcd {n d : Int} (h : d ≠ 0) : gcdN (mkX n d) (mkY n d) = 1 := by
  have hc : gcdN (n.tdiv (gcdN n d)) (d.tdiv (gcdN n d)) = 1 := by
    have := Nat.coprime_div_gcd_div_gcd (m := n.natAbs) (n := d.natAbs) (gcdN_pos h)
    show Nat.gcd _ _ = 1
    rw [td_abs, td_abs]; exact this
  unfold mkX mkY
  by_cases h1 : 0 < d
  · rw [if_pos h1, if_pos h1]; exact hc
  · rw [if_neg h1, if_neg h1]; unfold gcdN at *; rw [Int.natAbs_neg, Int.natAbs_neg]; exact hc

theorem mk_right {n d : Int} (h : d ≠ 0) : rightB (mkX n d) (mkY n d) = true := (right_iff _ _).2 ⟨mkY_pos h, mk_gcd h⟩

/-- exactly so much -/
theorem mk_exact (n d : Int) : mkX n d * d = n * mkY n d := by
  have h1 := td_left n d
  have h2 := td_right n d
  unfold mkX mkY
  generalize (gcdN n d : Int) = g at *
  generalize n.tdiv g = x at *
  generalize d.tdiv g = y at *
  subst h1 h2
  split <;> grind

theorem mkE_cases (n d : Int) : (mkE n d = 3 ∧ d = 0 ∧ mkN n d = 0 ∧ mkD n d = 0) ∨ (mkE n d = 2 ∧ d ≠ 0 ∧ mkN n d = 0 ∧ mkD n d = 0 ∧ (fitB (mkX n d) = false ∨ fitB (mkY n d) = false))
    ∨ (mkE n d = 0 ∧ d ≠ 0 ∧ mkN n d = mkX n d ∧ mkD n d = mkY n d ∧ I64 (mkX n d) ∧ I64 (mkY n d)) := by
  unfold mkE mkN mkD I64
  by_cases h : d = 0
  · left; simp [h, mkOk]
  · right
    by_cases h1 : fitB (mkX n d) = true <;> by_cases h2 : fitB (mkY n d) = true
    · right; simp [h, mkOk, h1, h2, (fitB_iff _).1 h1, (fitB_iff _).1 h2]
    · left; simp [h, mkOk, h1, h2]
    · left; simp [h, mkOk, h1, h2]
    · left; simp [h, mkOk, h1, h2]

theorem mk_bd (n d : Int) : I64 (mkN n d) ∧ I64 (mkD n d) := by
  rcases mkE_cases n d with ⟨_, _, h1, h2⟩ | ⟨_, _, h1, h2, _⟩ | ⟨_, _, h1, h2, h3, h4⟩
  · rw [h1, h2]; exact ⟨⟨by omega, by omega⟩, by omega, by omega⟩
  · rw [h1, h2]; exact ⟨⟨by omega, by omega⟩, by omega, by omega⟩
  · rw [h1, h2]; exact ⟨h3, h4⟩

/-- a right fraction is made of itself -/
theorem mk_self {n d : Int} (h : rightB n d = true) : mkX n d = n ∧ mkY n d = d := by
  obtain ⟨h1, h2⟩ := (right_iff _ _).1 h
  unfold mkX mkY
  rw [if_pos h1, if_pos h1, h2]
  exact ⟨Int.tdiv_one _, Int.tdiv_one _⟩

/-- right fractions that are as much are one -/
theorem right_one {n d m e : Int} (h : rightB n d = true) (k : rightB m e = true) (x : n * e = m * d) : n = m ∧ d = e := by
  obtain ⟨h1, h2⟩ := (right_iff _ _).1 h
  obtain ⟨k1, k2⟩ := (right_iff _ _).1 k
  have hx : n.natAbs * e.natAbs = m.natAbs * d.natAbs := by rw [← Int.natAbs_mul, ← Int.natAbs_mul, x]
  have a1 : d.natAbs ∣ e.natAbs := by
    have c : Nat.Coprime d.natAbs n.natAbs := by show Nat.gcd _ _ = 1; rw [Nat.gcd_comm]; exact h2
    exact c.dvd_of_dvd_mul_left ⟨m.natAbs, by rw [hx, Nat.mul_comm]⟩
  have a2 : e.natAbs ∣ d.natAbs := by
    have c : Nat.Coprime e.natAbs m.natAbs := by show Nat.gcd _ _ = 1; rw [Nat.gcd_comm]; exact k2
    exact c.dvd_of_dvd_mul_left ⟨n.natAbs, by rw [← hx, Nat.mul_comm]⟩
  have e1 : d.natAbs = e.natAbs := Nat.dvd_antisymm a1 a2
  have e2 : d = e := by omega
  subst e2
  exact ⟨Int.eq_of_mul_eq_mul_right (by omega) x, rfl⟩

/-! products -/
def mulX (an ad bn bd : Int) : Int := an.tdiv (gcdN an bd) * bn.tdiv (gcdN bn ad)
def mulY (an ad bn bd : Int) : Int := bd.tdiv (gcdN an bd) * ad.tdiv (gcdN bn ad)
def mulR (an ad bn bd : Int) : Bool := rightB an ad && rightB bn bd
def mulOk (an ad bn bd : Int) : Bool := mulR an ad bn bd && (fitB (mulX an ad bn bd) && fitB (mulY an ad bn bd))
def mulN (an ad bn bd : Int) : Int := if mulOk an ad bn bd = true then mulX an ad bn bd else 0
def mulD (an ad bn bd : Int) : Int := if mulOk an ad bn bd = true then mulY an ad bn bd else 0
def mulE (an ad bn bd : Int) : Int := if mulR an ad bn bd = false then 1 else if mulOk an ad bn bd = true then 0 else 2

theorem mul_exact (an ad bn bd : Int) : mulX an ad bn bd * (ad * bd) = an * bn * mulY an ad bn bd := by
  have h1 := td_left an bd
  have h2 := td_right an bd
  have h3 := td_left bn ad
  have h4 := td_right bn ad
  unfold mulX mulY
  generalize (gcdN an bd : Int) = g at *
  generalize (gcdN bn ad : Int) = k at *
  generalize an.tdiv g = x at *
  generalize bd.tdiv g = y at *
  generalize bn.tdiv k = u at *
  generalize ad.tdiv k = v at *
  subst h1 h2 h3 h4
  grind

theorem mul_right {an ad bn bd : Int} (ha : rightB an ad = true) (hb : rightB bn bd = true) : rightB (mulX an ad bn bd) (mulY an ad bn bd) = true := by
  obtain ⟨a1, a2⟩ := (right_iff _ _).1 ha
  obtain ⟨b1, b2⟩ := (right_iff _ _).1 hb
  refine (right_iff _ _).2 ⟨Int.mul_pos (td_pos b1 (Nat.gcd_dvd_right _ _)) (td_pos a1 (Nat.gcd_dvd_right _ _)), ?_⟩
  unfold mulX mulY
  show Nat.gcd _ _ = 1
  rw [Int.natAbs_mul, Int.natAbs_mul, td_abs, td_abs, td_abs, td_abs]
  have ca : Nat.Coprime an.natAbs ad.natAbs := a2
  have cb : Nat.Coprime bn.natAbs bd.natAbs := b2
  have c1 := Nat.coprime_div_gcd_div_gcd (m := an.natAbs) (n := bd.natAbs) (gcdN_pos (n := an) (d := bd) (by omega))
  have c2 := Nat.coprime_div_gcd_div_gcd (m := bn.natAbs) (n := ad.natAbs) (gcdN_pos (n := bn) (d := ad) (by omega))
  have d1 : an.natAbs / gcdN an bd ∣ an.natAbs := Nat.div_dvd_of_dvd (Nat.gcd_dvd_left _ _)
  have d2 : bd.natAbs / gcdN an bd ∣ bd.natAbs := Nat.div_dvd_of_dvd (Nat.gcd_dvd_right _ _)
  have d3 : bn.natAbs / gcdN bn ad ∣ bn.natAbs := Nat.div_dvd_of_dvd (Nat.gcd_dvd_left _ _)
  have d4 : ad.natAbs / gcdN bn ad ∣ ad.natAbs := Nat.div_dvd_of_dvd (Nat.gcd_dvd_right _ _)
  have e1 : Nat.Coprime (an.natAbs / gcdN an bd) (ad.natAbs / gcdN bn ad) := (ca.coprime_dvd_left d1).coprime_dvd_right d4
  have e2 : Nat.Coprime (bn.natAbs / gcdN bn ad) (bd.natAbs / gcdN an bd) := (cb.coprime_dvd_left d3).coprime_dvd_right d2
  exact Nat.Coprime.mul_left (Nat.Coprime.mul_right c1 e1) (Nat.Coprime.mul_right e2 c2)

theorem mulE_cases (an ad bn bd : Int) : (mulE an ad bn bd = 1 ∧ mulR an ad bn bd = false ∧ mulN an ad bn bd = 0 ∧ mulD an ad bn bd = 0)
    ∨ (mulE an ad bn bd = 2 ∧ mulR an ad bn bd = true ∧ mulN an ad bn bd = 0 ∧ mulD an ad bn bd = 0 ∧ (fitB (mulX an ad bn bd) = false ∨ fitB (mulY an ad bn bd) = false))
    ∨ (mulE an ad bn bd = 0 ∧ mulR an ad bn bd = true ∧ mulN an ad bn bd = mulX an ad bn bd ∧ mulD an ad bn bd = mulY an ad bn bd ∧ I64 (mulX an ad bn bd) ∧ I64 (mulY an ad bn bd)) := by
  unfold mulE mulN mulD I64
  cases h : mulR an ad bn bd
  · left; simp [mulOk, h]
  · right
    by_cases h1 : fitB (mulX an ad bn bd) = true <;> by_cases h2 : fitB (mulY an ad bn bd) = true
    · right; simp [mulOk, h, h1, h2, (fitB_iff _).1 h1, (fitB_iff _).1 h2]
    · left; simp [mulOk, h, h1, h2]
    · left; simp [mulOk, h, h1, h2]
    · left; simp [mulOk, h, h1, h2]

theorem mul_bd (an ad bn bd : Int) : I64 (mulN an ad bn bd) ∧ I64 (mulD an ad bn bd) := by
  rcases mulE_cases an ad bn bd with ⟨_, _, h1, h2⟩ | ⟨_, _, h1, h2, _⟩ | ⟨_, _, h1, h2, h3, h4⟩
  · rw [h1, h2]; exact ⟨⟨by omega, by omega⟩, by omega, by omega⟩
  · rw [h1, h2]; exact ⟨⟨by omega, by omega⟩, by omega, by omega⟩
  · rw [h1, h2]; exact ⟨h3, h4⟩

/-! sums -/
def addA (an ad bn bd : Int) : Int := an * bd.tdiv (gcdN ad bd)
def addB (an ad bn bd : Int) : Int := bn * ad.tdiv (gcdN ad bd)
def addY (an ad bn bd : Int) : Int := ad * bd.tdiv (gcdN ad bd)
def addX (an ad bn bd : Int) : Int := addA an ad bn bd + addB an ad bn bd
def addOk (an ad bn bd : Int) : Bool := mulR an ad bn bd && ((fitB (addA an ad bn bd) && fitB (addB an ad bn bd)) && (fitB (addX an ad bn bd) && fitB (addY an ad bn bd)))
def addN (an ad bn bd : Int) : Int := if addOk an ad bn bd = true then mkN (addX an ad bn bd) (addY an ad bn bd) else 0
def addD (an ad bn bd : Int) : Int := if addOk an ad bn bd = true then mkD (addX an ad bn bd) (addY an ad bn bd) else 0
def addE (an ad bn bd : Int) : Int := if mulR an ad bn bd = false then 1 else if addOk an ad bn bd = true then mkE (addX an ad bn bd) (addY an ad bn bd) else 2

theorem add_exact (an ad bn bd : Int) : addX an ad bn bd * (ad * bd) = (an * bd + bn * ad) * addY an ad bn bd := by
  have h1 := td_left ad bd
  have h2 := td_right ad bd
  unfold addX addY addA addB
  generalize (gcdN ad bd : Int) = g at *
  generalize ad.tdiv g = x at *
  generalize bd.tdiv g = y at *
  subst h1 h2
  grind
theorem addY_pos {an ad bn bd : Int} (h : mulR an ad bn bd = true) : 0 < addY an ad bn bd := by
  unfold mulR at h
  rw [Bool.and_eq_true] at h
  exact Int.mul_pos ((right_iff _ _).1 h.1).1 (td_pos ((right_iff _ _).1 h.2).1 (Nat.gcd_dvd_right _ _))

theorem add_bd (an ad bn bd : Int) : I64 (addN an ad bn bd) ∧ I64 (addD an ad bn bd) := by
  unfold addN addD
  split
  · exact mk_bd _ _
  · exact ⟨⟨by omega, by omega⟩, by omega, by omega⟩

theorem fits_div {x y g : Int} (hx : I64 x) (hy : y * g = x) (hg : 0 < g) : I64 y := by
  unfold I64 at *
  rcases Int.lt_trichotomy y 0 with h | h | h
  · have : y * g ≤ y * 1 := Int.mul_le_mul_of_nonpos_left (by omega) (by omega)
    omega
  · omega
  · have : y * 1 ≤ y * g := Int.mul_le_mul_of_nonneg_left (by omega) (by omega)
    omega

/-- a made fraction of two numbers of 64 bits, the lower one above 0, lies within -/
theorem mk_fits {n d : Int} (hn : I64 n) (hd : I64 d) (h : 0 < d) : mkE n d = 0 ∧ mkN n d = mkX n d ∧ mkD n d = mkY n d := by
  have hg := gcdN_pos (n := n) (d := d) (by omega)
  have h1 : I64 (mkX n d) := by unfold mkX; rw [if_pos h]; exact td_bd hg hn
  have h2 : I64 (mkY n d) := by unfold mkY; rw [if_pos h]; exact td_bd hg hd
  have f1 := (fitB_iff _).2 h1
  have f2 := (fitB_iff _).2 h2
  have h0 : ¬ d = 0 := by omega
  unfold mkE mkN mkD
  simp [mkOk, h0, f1, f2]

/-- what adding answers: not right; beyond; or the right fraction that is as much -/
theorem addE_cases (an ad bn bd : Int) : (addE an ad bn bd = 1 ∧ mulR an ad bn bd = false ∧ addN an ad bn bd = 0 ∧ addD an ad bn bd = 0)
    ∨ (addE an ad bn bd = 2 ∧ mulR an ad bn bd = true ∧ addN an ad bn bd = 0 ∧ addD an ad bn bd = 0)
    ∨ (addE an ad bn bd = 0 ∧ mulR an ad bn bd = true ∧ rightB (addN an ad bn bd) (addD an ad bn bd) = true ∧ addN an ad bn bd * (ad * bd) = (an * bd + bn * ad) * addD an ad bn bd) := by
  unfold addE addN addD
  cases h : mulR an ad bn bd
  · left; simp [addOk, h]
  · right
    cases h1 : addOk an ad bn bd
    · left; simp
    · right
      have hy := addY_pos h
      unfold addOk at h1
      simp only [Bool.and_eq_true, fitB_iff] at h1
      obtain ⟨e1, e2, e3⟩ := mk_fits (n := addX an ad bn bd) (d := addY an ad bn bd) h1.2.2.1 h1.2.2.2 hy
      simp only [e1, e2, e3, if_true, Bool.true_eq_false, if_false]
      refine ⟨trivial, trivial, mk_right (by omega), ?_⟩
      have x1 := mk_exact (addX an ad bn bd) (addY an ad bn bd)
      have x2 := add_exact an ad bn bd
      generalize addX an ad bn bd = X at *
      generalize addY an ad bn bd = Y at *
      generalize mkX X Y = N at *
      generalize mkY X Y = D at *
      refine Int.eq_of_mul_eq_mul_right (a := Y) (by omega) ?_
      grind

/-- what multiplying answers -/
theorem mulE_ways (an ad bn bd : Int) : (mulE an ad bn bd = 1 ∧ mulR an ad bn bd = false ∧ mulN an ad bn bd = 0 ∧ mulD an ad bn bd = 0)
    ∨ (mulE an ad bn bd = 2 ∧ mulR an ad bn bd = true ∧ mulN an ad bn bd = 0 ∧ mulD an ad bn bd = 0)
    ∨ (mulE an ad bn bd = 0 ∧ mulR an ad bn bd = true ∧ rightB (mulN an ad bn bd) (mulD an ad bn bd) = true ∧ mulN an ad bn bd * (ad * bd) = an * bn * mulD an ad bn bd) := by
  rcases mulE_cases an ad bn bd with ⟨h1, h2, h3, h4⟩ | ⟨h1, h2, h3, h4, _⟩ | ⟨h1, h2, h3, h4, _⟩
  · exact .inl ⟨h1, h2, h3, h4⟩
  · exact .inr (.inl ⟨h1, h2, h3, h4⟩)
  · refine .inr (.inr ⟨h1, h2, ?_, ?_⟩)
    · rw [h3, h4]
      unfold mulR at h2
      rw [Bool.and_eq_true] at h2
      exact mul_right h2.1 h2.2
    · rw [h3, h4]; exact mul_exact an ad bn bd

/-! order -/
def lessB (an ad bn bd : Int) : Bool := mulR an ad bn bd && decide (an * bd < bn * ad)

end Go.Proofs.Ytllkkgcfhphgmaa
