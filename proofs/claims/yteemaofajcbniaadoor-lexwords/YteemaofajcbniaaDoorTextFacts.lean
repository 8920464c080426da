/-
  Plain facts on decimal texts of whole numbers: unlike numbers have unlike texts, how long they are, and when they begin with a minus. Condition: numbers of 64 bits.
-/
import Derived.Test.YteemaofajcbniaaDoorDigs
namespace Go.Proofs.YteemaofajcbniaaDoor
set_option linter.unusedVariables false

theorem natAbs_lt {a : Int} (ha : -9223372036854775808 ≤ a ∧ a ≤ 9223372036854775807) : a.natAbs < 10 ^ (18 + 1) := by
  have : (10 : Nat) ^ (18 + 1) = 10000000000000000000 := by decide
  rw [this]; omega

theorem dec_no_minus (f n : Nat) (h : n < 10 ^ (f + 1)) : ∃ c t, dec f n = c :: t ∧ c ≠ 45 := by
  obtain ⟨c, t, e, _⟩ := dec_head f n h
  refine ⟨c, t, e, fun hc => ?_⟩
  have := dec_digits f n c (by rw [e]; simp)
  rw [hc] at this
  exact absurd this.1 (by decide)

theorem textL_inj {a b : Int} (ha : -9223372036854775808 ≤ a ∧ a ≤ 9223372036854775807) (hb : -9223372036854775808 ≤ b ∧ b ≤ 9223372036854775807) (h : textL a = textL b) : a = b := by
  have va := val_dec 18 a.natAbs (natAbs_lt ha)
  have vb := val_dec 18 b.natAbs (natAbs_lt hb)
  obtain ⟨ca, ta, ea, na⟩ := dec_no_minus 18 a.natAbs (natAbs_lt ha)
  obtain ⟨cb, tb, eb, nb⟩ := dec_no_minus 18 b.natAbs (natAbs_lt hb)
  by_cases h1 : a < 0 <;> by_cases h2 : b < 0
  · rw [textL_neg h1, textL_neg h2] at h
    have h3 := (List.cons.inj h).2
    rw [h3, vb] at va; omega
  · rw [textL_neg h1, textL_pos (by omega), eb] at h
    exact absurd (List.cons.inj h).1.symm nb
  · rw [textL_pos (by omega), textL_neg h2, ea] at h
    exact absurd (List.cons.inj h).1 na
  · rw [textL_pos (by omega), textL_pos (by omega)] at h
    rw [h, vb] at va; omega

theorem textL_len (a : Int) : 1 ≤ (textL a).length ∧ (textL a).length ≤ 20 := by
  have := dec_length 18 a.natAbs
  by_cases h1 : a < 0
  · rw [textL_neg h1]; simp; omega
  · rw [textL_pos (by omega)]; omega

theorem textL_first {a : Int} (ha : -9223372036854775808 ≤ a ∧ a ≤ 9223372036854775807) : ∃ c t, textL a = c :: t ∧ (c = 45 ↔ a < 0) := by
  by_cases h1 : a < 0
  · exact ⟨45, _, textL_neg h1, by simp [h1]⟩
  · obtain ⟨ca, ta, ea, na⟩ := dec_no_minus 18 a.natAbs (natAbs_lt ha)
    exact ⟨ca, ta, by rw [textL_pos (by omega), ea], by simp [h1, na]⟩
end Go.Proofs.YteemaofajcbniaaDoor
