/-
  Plain facts on reading a decimal text: what digits come to, how great that is, which texts are no number's, and that a number's text is read as the number. No program is named here. Condition of the last: a number of 64 bits.
-/
import Derived.Test.YteemaofajcbniaaDoorTextFacts
namespace Go.Proofs.YteemaofajcbniaaDoor
set_option linter.unusedVariables false

def isd (c : UInt8) : Bool := decide (48 ≤ c.toNat) && decide (c.toNat ≤ 57)
theorem isd_iff (c : UInt8) : isd c = true ↔ 48 ≤ c.toNat ∧ c.toNat ≤ 57 := by unfold isd; simp

theorem val_foldl (l : List UInt8) (v : Nat) : l.foldl (fun v c => 10 * v + (c.toNat - 48)) v = v * 10 ^ l.length + val l := by
  induction l generalizing v with
  | nil => simp [val]
  | cons c l ih =>
    show l.foldl (fun v c => 10 * v + (c.toNat - 48)) (10 * v + (c.toNat - 48)) = v * 10 ^ (l.length + 1) + l.foldl (fun v c => 10 * v + (c.toNat - 48)) (10 * 0 + (c.toNat - 48))
    rw [ih, ih (10 * 0 + (c.toNat - 48)), Nat.mul_zero, Nat.zero_add, Nat.add_mul, Nat.pow_succ]
    have : 10 * v * 10 ^ l.length = v * (10 ^ l.length * 10) := by
      rw [Nat.mul_comm 10 v, Nat.mul_assoc, Nat.mul_comm 10]
    omega
theorem val_append (l m : List UInt8) : val (l ++ m) = val l * 10 ^ m.length + val m := by
  have := val_foldl m (val l)
  unfold val at this ⊢
  rw [List.foldl_append]; exact this
theorem val_cons (c : UInt8) (l : List UInt8) : val (c :: l) = (c.toNat - 48) * 10 ^ l.length + val l := by
  have := val_append [c] l
  simpa [val] using this
theorem val_mono (l m : List UInt8) : val l ≤ val (l ++ m) := by
  rw [val_append]
  have : val l * 1 ≤ val l * 10 ^ m.length := Nat.mul_le_mul_left _ (Nat.one_le_pow _ _ (by omega))
  omega
theorem val_take_le (l : List UInt8) (k : Nat) : val (l.take k) ≤ val l := by
  have := val_mono (l.take k) (l.drop k)
  rwa [List.take_append_drop] at this
theorem val_lt (l : List UInt8) (h : l.all isd = true) : val l < 10 ^ l.length := by
  induction l with
  | nil => simp [val]
  | cons c l ih =>
    simp only [List.all_cons, Bool.and_eq_true] at h
    have hc := (isd_iff c).1 h.1
    have := ih h.2
    rw [val_cons, List.length_cons, Nat.pow_succ]
    have h2 : (c.toNat - 48) * 10 ^ l.length ≤ 9 * 10 ^ l.length := Nat.mul_le_mul_right _ (by omega)
    omega
theorem val_ge (c : UInt8) (l : List UInt8) (h : isd c = true) (h0 : c ≠ 48) : 10 ^ l.length ≤ val (c :: l) := by
  rw [val_cons]
  have hc := (isd_iff c).1 h
  have hn : c.toNat ≠ 48 := fun e => h0 (UInt8.toNat_inj.1 e)
  have h2 : 1 * 10 ^ l.length ≤ (c.toNat - 48) * 10 ^ l.length := Nat.mul_le_mul_right _ (by omega)
  omega

/-- digits and nothing else, a 0 leading only where it is alone -/
def plainB (l : List UInt8) : Bool := !l.isEmpty && !(l.headD 0 == 48 && decide (1 < l.length)) && l.all isd

def badB (t : List UInt8) (minus : Bool) : Bool := !plainB t || (minus && t == [48])
def sgn (minus : Bool) (v : Nat) : Int := if minus = true then -(v : Int) else (v : Int)
def coreV (t : List UInt8) (minus : Bool) : Int := if badB t minus = true then 0 else fitV (sgn minus (val t))
def coreE (t : List UInt8) (minus : Bool) : Int := if badB t minus = true then 6 else if fitB (sgn minus (val t)) = true then 0 else 2
def readV (l : List UInt8) : Int := if l.head? = some 45 then coreV (l.drop 1) true else coreV l false
def readE (l : List UInt8) : Int := if l.head? = some 45 then coreE (l.drop 1) true else coreE l false

theorem core_bad {t : List UInt8} {minus : Bool} (h : badB t minus = true) : coreV t minus = 0 ∧ coreE t minus = 6 := by
  unfold coreV coreE; simp [h]
theorem core_over {t : List UInt8} {minus : Bool} (h : badB t minus = false) (h2 : fitB (sgn minus (val t)) = false) : coreV t minus = 0 ∧ coreE t minus = 2 := by
  unfold coreV coreE fitV; simp [h, h2]
theorem core_fine {t : List UInt8} {minus : Bool} (h : badB t minus = false) (h2 : fitB (sgn minus (val t)) = true) : coreV t minus = sgn minus (val t) ∧ coreE t minus = 0 := by
  unfold coreV coreE fitV; simp [h, h2]

theorem dec_all (f n : Nat) : (dec f n).all isd = true := by
  rw [List.all_eq_true]
  intro c hc
  exact (isd_iff c).2 (dec_digits f n c hc)
theorem dec_plain (f n : Nat) (h : n < 10 ^ (f + 1)) : plainB (dec f n) = true := by
  unfold plainB
  rw [dec_all]
  obtain ⟨c, t, e, h2⟩ := dec_head f n h
  rw [e]
  by_cases hc : c.toNat = 48
  · have := (h2 hc).1; subst this; simp
  · have : ¬ c = 48 := fun x => hc (by rw [x]; rfl)
    simp [this]

theorem read_text {a : Int} (ha : -9223372036854775808 ≤ a ∧ a ≤ 9223372036854775807) : readV (textL a) = a ∧ readE (textL a) = 0 := by
  have hl := natAbs_lt ha
  have hp := dec_plain 18 a.natAbs hl
  have hv := val_dec 18 a.natAbs hl
  by_cases h : a < 0
  · have hb : badB (dec 18 a.natAbs) true = false := by
      unfold badB
      rw [hp]
      have : dec 18 a.natAbs ≠ [48] := by
        intro e
        rw [e] at hv
        have : val [48] = 0 := by decide
        omega
      simp [this]
    have hs : sgn true (val (dec 18 a.natAbs)) = a := by
      rw [hv]; unfold sgn; simp; omega
    have hf : fitB (sgn true (val (dec 18 a.natAbs))) = true := by rw [hs]; exact (fit_yes ha).1
    unfold readV readE
    rw [textL_neg h]
    have := core_fine hb hf
    rw [hs] at this
    simpa using this
  · have hb : badB (dec 18 a.natAbs) false = false := by
      unfold badB
      rw [hp]; simp
    have hs : sgn false (val (dec 18 a.natAbs)) = a := by
      rw [hv]; unfold sgn; simp; omega
    have hf : fitB (sgn false (val (dec 18 a.natAbs))) = true := by rw [hs]; exact (fit_yes ha).1
    obtain ⟨c, t, e, hc⟩ := dec_no_minus 18 a.natAbs hl
    unfold readV readE
    rw [textL_pos (by omega)]
    have := core_fine hb hf
    rw [hs] at this
    have hh : ¬ (dec 18 a.natAbs).head? = some 45 := by rw [e]; simp [hc]
    rw [if_neg hh, if_neg hh]
    exact this
end Go.Proofs.YteemaofajcbniaaDoor
