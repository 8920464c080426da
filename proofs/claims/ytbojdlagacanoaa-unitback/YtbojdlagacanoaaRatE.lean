/-
  What ratio.Less returns, called with any two fractions of numbers of 64 bits; and what it stands on: math/bits.Mul64, ratio.wide, pair.below. Condition: the arguments are numbers of their kinds.
-/
import Derived.Test.YtbojdlagacanoaaRatC
import Derived.Deep.RegionHeld3
import Derived.Laws.BitsAllLaws
import Derived.Laws.MathBits
namespace Go.Proofs.Ytbojdlagacanoaa
open Go.RowKit
set_option linter.unusedVariables false

theorem and32 (x : Int) (h0 : 0 ≤ x) (h : x < 18446744073709551616) : bits .and .u64 x 4294967295 = x % 4294967296 := by
  obtain ⟨n, rfl⟩ := Int.eq_ofNat_of_zero_le h0
  have e := u64_and_nat n 4294967295 (by omega) (by decide)
  have e2 : ((4294967295 : Nat) : Int) = 4294967295 := rfl
  rw [e2] at e
  rw [e, show (4294967295 : Nat) = 2 ^ 32 - 1 by decide, Nat.and_two_pow_sub_one_eq_mod]
  omega
theorem and32_wrap (z : Int) : bits .and .u64 (IntKind.u64.wrap z) 4294967295 = IntKind.u64.wrap z % 4294967296 := and32 _ (by rw [IntKind.wrap_u64]; omega) (by rw [IntKind.wrap_u64]; omega)

set_option maxHeartbeats 1000000 in
theorem mul64_any (a b : Int) (w : World) (ha : 0 ≤ a ∧ a ≤ 18446744073709551615) (hb : 0 ≤ b ∧ b ≤ 18446744073709551615) :
    Calls Try.prog 40 #[.int .u64 a, .int .u64 b] w fun e w' => e = .returned (.tuple #[.int .u64 (wideH a b), .int .u64 (wideL a b)]) ∧ w' = w := by
  have H : Hid _ := mul64_arith a b ha.1 (by omega) hb.1 (by omega)
  have A : Hid _ := and32 a ha.1 (by omega)
  have B : Hid _ := and32 b hb.1 (by omega)
  go_enter Try.func40, Try.ntmps40
  go_wp2
  go_ret2
  refine ⟨ret_nn ⟨?_, ?_⟩, rfl⟩
  · rw [A.out, B.out]
    simp only [and32_wrap]
    simp only [IntKind.wrap_u64]
    exact H.out.symm
  · rw [IntKind.wrap_u64]; rfl

theorem xor63_nat (x : Nat) (h : x < 18446744073709551616) : x ^^^ 9223372036854775808 = if x < 9223372036854775808 then x + 9223372036854775808 else x - 9223372036854775808 := by
  have h1 : (x ^^^ 9223372036854775808) % 2 ^ 63 = x % 2 ^ 63 := by
    rw [Nat.xor_mod_two_pow]
    simp
  have h2 : (x ^^^ 9223372036854775808) >>> 63 = (x >>> 63) ^^^ 1 := by
    rw [Nat.shiftRight_xor_distrib]; rfl
  rw [Nat.shiftRight_eq_div_pow, Nat.shiftRight_eq_div_pow] at h2
  have e63 : (2 : Nat) ^ 63 = 9223372036854775808 := by decide
  rw [e63] at h1 h2
  have h3 : x / 9223372036854775808 = 0 ∨ x / 9223372036854775808 = 1 := by omega
  rcases h3 with h3 | h3
  · rw [h3] at h2
    have : (0 : Nat) ^^^ 1 = 1 := by decide
    rw [this] at h2
    rw [if_pos (by omega)]
    omega
  · rw [h3] at h2
    have : (1 : Nat) ^^^ 1 = 0 := by decide
    rw [this] at h2
    rw [if_neg (by omega)]
    omega

theorem xor63 (x : Int) (h0 : 0 ≤ x) (h : x < 18446744073709551616) : bits .xor .u64 x 9223372036854775808 = if x < 9223372036854775808 then x + 9223372036854775808 else x - 9223372036854775808 := by
  obtain ⟨n, rfl⟩ := Int.eq_ofNat_of_zero_le h0
  have e := u64_xor_nat n 9223372036854775808 (by omega) (by decide)
  have e2 : ((9223372036854775808 : Nat) : Int) = 9223372036854775808 := rfl
  rw [e2] at e
  rw [e, xor63_nat n (by omega)]
  by_cases hc : n < 9223372036854775808
  · rw [if_pos hc, if_pos (by omega)]; omega
  · rw [if_neg hc, if_neg (by omega)]; omega

/-- a product's halves, the upper one lifted above 0 -/
def hiP (n d : Int) : Int := n * d / 18446744073709551616 + 9223372036854775808
def loP (n d : Int) : Int := n * d % 18446744073709551616

theorem hi_bd {n d : Int} (hn : I64 n) (h0 : 0 ≤ d) (hd : I64 d) : -9223372036854775808 ≤ n * d / 18446744073709551616 ∧ n * d / 18446744073709551616 ≤ 9223372036854775807 := by
  unfold I64 at *
  have h1 : n * d ≤ 9223372036854775807 * d := Int.mul_le_mul_of_nonneg_right hn.2 h0
  have h2 : -9223372036854775808 * d ≤ n * d := Int.mul_le_mul_of_nonneg_right hn.1 h0
  omega

/-- the halves order the products -/
theorem halves_order (x y : Int) : (decide (x / 18446744073709551616 + 9223372036854775808 < y / 18446744073709551616 + 9223372036854775808) || (x / 18446744073709551616 + 9223372036854775808 == y / 18446744073709551616 + 9223372036854775808) && decide (x % 18446744073709551616 < y % 18446744073709551616)) = decide (x < y) := by
  rw [Bool.eq_iff_iff]
  simp only [Bool.or_eq_true, Bool.and_eq_true, decide_eq_true_eq, beq_iff_eq]
  omega


theorem wide_neg {n d : Int} (hn : I64 n) (h : n < 0) : IntKind.u64.wrap n = n + 18446744073709551616 := by
  unfold I64 at hn; rw [IntKind.wrap_u64]; omega

set_option maxHeartbeats 1000000 in
theorem pwide_any (n d : Int) (w : World) (hn : I64 n) (h0 : 0 ≤ d) (hd : I64 d) :
    Calls Try.prog 30 #[.int .i64 n, .int .i64 d] w fun e w' => e = .returned (.agg #[.int .u64 (hiP n d), .int .u64 (loP n d)]) ∧ Below w.heap.size w w' := by
  have hb := hi_bd hn h0 hd
  by_cases hs : n < 0
  · have f : Hid (∀ w, Calls Try.prog 40 #[.int .u64 (n + 18446744073709551616), .int .u64 d] w fun e w' => e = .returned (.tuple #[.int .u64 (n * d / 18446744073709551616 + d), .int .u64 (loP n d)]) ∧ w' = w) := fun w => by
      have := mul64_any (n + 18446744073709551616) d w (by unfold I64 at hn; omega) (by unfold I64 at hd; omega)
      have e1 : wideH (n + 18446744073709551616) d = n * d / 18446744073709551616 + d := by unfold wideH; rw [Int.add_mul]; omega
      have e2 : wideL (n + 18446744073709551616) d = loP n d := by unfold wideL loP; rw [Int.add_mul]; omega
      rwa [e1, e2] at this
    rw [← wide_neg (d := d) hn hs] at f
    have hx : Hid (bits .xor .u64 (IntKind.u64.wrap (n * d / 18446744073709551616)) 9223372036854775808 = hiP n d) := by
      unfold Hid hiP
      rw [IntKind.wrap_u64, xor63 _ (by omega) (by omega)]
      split <;> omega
    unfold I64 at hn hd
    generalize n * d / 18446744073709551616 = q at *
    generalize loP n d = lo at *
    generalize hiP n d = hi at *
    go_enter Try.func30, Try.ntmps30
    go_wp2_with fail
    refine (f.out _).mono ?_
    rintro e w' ⟨rfl, rfl⟩
    clear f
    go_wp2
    go_returns
    rw [hx.out]
    exact ⟨rfl, by go_grown⟩
  · have f : Hid (∀ w, Calls Try.prog 40 #[.int .u64 n, .int .u64 d] w fun e w' => e = .returned (.tuple #[.int .u64 (n * d / 18446744073709551616), .int .u64 (loP n d)]) ∧ w' = w) := fun w =>
      mul64_any n d w (by unfold I64 at hn; omega) (by unfold I64 at hd; omega)
    have hp := Int.mul_nonneg (show 0 ≤ n by omega) h0
    have hx : Hid (bits .xor .u64 (n * d / 18446744073709551616) 9223372036854775808 = hiP n d) := by
      unfold Hid hiP
      rw [xor63 _ (by omega) (by omega)]
      split <;> omega
    have hs : 0 ≤ n := by omega
    unfold I64 at hn hd
    clear hp
    generalize n * d / 18446744073709551616 = q at *
    generalize loP n d = lo at *
    generalize hiP n d = hi at *
    go_enter Try.func30, Try.ntmps30
    go_wp2_with fail
    refine (f.out _).mono ?_
    rintro e w' ⟨rfl, rfl⟩
    clear f
    go_wp2
    go_returns
    rw [hx.out]
    exact ⟨rfl, by go_grown⟩

def lexB (a b c d : Int) : Bool := decide (a < c) || (a == c) && decide (b < d)

set_option maxHeartbeats 1000000 in
theorem below_any (a b c d : Int) (w : World) :
    Calls Try.prog 31 #[.agg #[.int .u64 a, .int .u64 b], .agg #[.int .u64 c, .int .u64 d]] w fun e w' => e = .returned (.bool (lexB a b c d)) ∧ Below w.heap.size w w' := by
  have H : Hid (lexB a b c d = (decide (a < c) || (a == c) && decide (b < d))) := rfl
  generalize lexB a b c d = r at *
  go_enter Try.func31, Try.ntmps31
  go_wp2
  all_goals
    go_ret
    refine ⟨ret_b ?_, by go_grown⟩
    rw [H.out, Bool.eq_iff_iff]
    simp
    omega

theorem lex_less (an ad bn bd : Int) : lexB (hiP an bd) (loP an bd) (hiP bn ad) (loP bn ad) = decide (an * bd < bn * ad) := halves_order _ _

/-- what stays while the calls come -/
def Two (w : World) (an ad bn bd : Int) (x : World) : Prop :=
  Has x w.heap.size (.int .i64 an) (.int .i64 ad) ∧ Has x (w.heap.size + 1) (.int .i64 bn) (.int .i64 bd) ∧ Below w.heap.size w x
theorem Two.below {w y x : World} {an ad bn bd : Int} (h : Two w an ad bn bd y) (hb : Below y.heap.size y x) : Two w an ad bn bd x :=
  ⟨h.1.below hb, h.2.1.below hb, below_trans h.2.2 hb⟩
theorem Two.drew {w y : World} {an ad bn bd : Int} (h : Two w an ad bn bd y) : Two w an ad bn bd y.drew := h.below (Below.refl _ _).drew

set_option maxHeartbeats 1000000 in
theorem less_any (an ad bn bd : Int) (w : World) (h1 : I64 an) (h2 : I64 ad) (h3 : I64 bn) (h4 : I64 bd) :
    Calls Try.prog 18 #[rv an ad, rv bn bd] w fun e w' => e = .returned (.bool (lessB an ad bn bd)) ∧ Below w.heap.size w w' := by
  have fa : Hid (∀ w, Calls Try.prog 20 #[rv an ad] w fun e w' => e = .returned (.bool (rightB an ad)) ∧ Below w.heap.size w w') := fun w => right_any an ad w h1 h2
  have fb : Hid (∀ w, Calls Try.prog 20 #[rv bn bd] w fun e w' => e = .returned (.bool (rightB bn bd)) ∧ Below w.heap.size w w') := fun w => right_any bn bd w h3 h4
  have ra := fun h : rightB an ad = true => ((right_iff an ad).1 h).1
  have rb := fun h : rightB bn bd = true => ((right_iff bn bd).1 h).1
  have hl : Hid (lessB an ad bn bd = (rightB an ad && rightB bn bd && lexB (hiP an bd) (loP an bd) (hiP bn ad) (loP bn ad))) := by
    show _ = _
    rw [lex_less]; rfl
  have fp : Hid (rightB bn bd = true → ∀ w, Calls Try.prog 30 #[.int .i64 an, .int .i64 bd] w fun e w' => e = .returned (.agg #[.int .u64 (hiP an bd), .int .u64 (loP an bd)]) ∧ Below w.heap.size w w') :=
    fun h w => pwide_any an bd w h1 (by have := rb h; omega) h4
  have fq : Hid (rightB an ad = true → ∀ w, Calls Try.prog 30 #[.int .i64 bn, .int .i64 ad] w fun e w' => e = .returned (.agg #[.int .u64 (hiP bn ad), .int .u64 (loP bn ad)]) ∧ Below w.heap.size w w') :=
    fun h w => pwide_any bn ad w h3 (by have := ra h; omega) h2
  have fc : Hid (∀ w, Calls Try.prog 31 #[.agg #[.int .u64 (hiP an bd), .int .u64 (loP an bd)], .agg #[.int .u64 (hiP bn ad), .int .u64 (loP bn ad)]] w fun e w' => e = .returned (.bool (lexB (hiP an bd) (loP an bd) (hiP bn ad) (loP bn ad))) ∧ Below w.heap.size w w') := fun w => below_any _ _ _ _ w
  generalize lexB (hiP an bd) (loP an bd) (hiP bn ad) (loP bn ad) = lx at *
  generalize hiP an bd = ph at *
  generalize loP an bd = pl at *
  generalize hiP bn ad = qh at *
  generalize loP bn ad = ql at *
  generalize lessB an ad bn bd = r at *
  clear h1 h2 h3 h4 ra rb
  generalize rightB an ad = ra at *
  generalize rightB bn bd = rb at *
  have G0 : Hid (Below w.heap.size w ((w.alloc (.cells #[.int .i64 an, .int .i64 ad] 25)).alloc (.cells #[.int .i64 bn, .int .i64 bd] 25))) := by unfold Hid; go_grown
  have H2 : Hid (∀ w : World, Has (w.alloc (.cells #[.int .i64 bn, .int .i64 bd] 25)) w.heap.size (.int .i64 bn) (.int .i64 bd)) := fun w => has_new w _ _ _
  have H1 : Hid (∀ w : World, Has (w.alloc (.cells #[.int .i64 an, .int .i64 ad] 25)) w.heap.size (.int .i64 an) (.int .i64 ad)) := fun w => has_new w _ _ _
  cases ra
  · replace hl : Hid (r = false) := by have := hl.out; show _ = _; simpa using this
    clear fb fp fq fc
    go_enter Try.func18, Try.ntmps18
    go_wp2_with fail
    refine (fa.out _).mono ?_
    rintro e w1 ⟨rfl, hb⟩
    have HB : Hid (Below w.heap.size w w1) := below_trans G0.out hb
    clear hb fa G0 H2 H1
    go_wp2
    go_ret
    exact ⟨ret_b hl.out, HB.out⟩
  · cases rb
    · replace hl : Hid (r = false) := by have := hl.out; show _ = _; simpa using this
      clear fp fq fc
      go_enter Try.func18, Try.ntmps18
      go_wp2_with fail
      refine (fa.out _).mono ?_
      rintro e w1 ⟨rfl, hb⟩
      have HB : Hid (Below w.heap.size w w1) := below_trans G0.out hb
      have K2 := Has.below (H2.out _) hb
      simp only [World.size_alloc] at K2
      obtain ⟨d0, d1, y0, y1, yl⟩ := K2
      clear hb fa G0 H2 H1
      go_wp2_with fail
      refine (fb.out _).mono ?_
      rintro e w2 ⟨rfl, hb⟩
      have HB2 : Hid (Below w.heap.size w w2) := below_trans HB.out hb
      clear hb fb HB d0 d1 y0 y1 yl
      go_wp2
      go_ret
      exact ⟨ret_b hl.out, HB2.out⟩
    · replace hl : Hid (r = lx) := by have := hl.out; show _ = _; simpa using this
      replace fp : Hid _ := fp.out rfl
      replace fq : Hid _ := fq.out rfl
      go_enter Try.func18, Try.ntmps18
      go_wp2_with fail
      refine (fa.out _).mono ?_
      rintro e w1 ⟨rfl, hb⟩
      have HB : Hid (Below w.heap.size w w1) := below_trans G0.out hb
      have K2 := Has.below (H2.out _) hb
      have K1 := Has.below (Has.alloc (H1.out _) _) hb
      simp only [World.size_alloc] at K2
      have T1 : Hid (Two w an ad bn bd w1) := ⟨K1, K2, HB.out⟩
      obtain ⟨d0, d1, y0, y1, yl⟩ := K2
      clear hb fa G0 H2 H1 K1 HB
      go_wp2_with fail
      refine (fb.out _).mono ?_
      rintro e w2 ⟨rfl, hb⟩
      have St : Hid (Two w an ad bn bd w2) := T1.out.below hb
      clear hb fb d0 d1 y0 y1 yl T1
      go_wp2_with fail
      go_region_held3 (fun x => (x.cell? ⟨w.heap.size, 0, none⟩ = some (.int .i64 an) ∧ x.cell? ⟨w.heap.size, 1, none⟩ = some (.int .i64 ad) ∧ x.frozen? ⟨w.heap.size, 0, none⟩ = false ∧ x.frozen? ⟨w.heap.size, 1, none⟩ = false ∧ w.heap.size < x.heap.size) ∧
          (x.cell? ⟨w.heap.size + 1, 0, none⟩ = some (.int .i64 bn) ∧ x.cell? ⟨w.heap.size + 1, 1, none⟩ = some (.int .i64 bd) ∧ x.frozen? ⟨w.heap.size + 1, 0, none⟩ = false ∧ x.frozen? ⟨w.heap.size + 1, 1, none⟩ = false ∧ w.heap.size + 1 < x.heap.size) ∧
          Below w.heap.size w x)
        ((show Two w an ad bn bd _; (first | with_reducible exact K3.out | with_reducible exact K2.out | with_reducible exact K1.out | (with_reducible refine Two.drew ?_; with_reducible exact St.out))))
        (first
          | (go_at_call_of 30 an; refine (fp.out _).mono ?_; rintro e x1 ⟨rfl, hb1⟩
             have K1 : Hid (Two w an ad bn bd x1) := Two.below (Two.drew St.out) hb1)
          | (go_at_call_of 30 bn; refine (fq.out _).mono ?_; rintro e x2 ⟨rfl, hb2⟩
             have K2 : Hid (Two w an ad bn bd x2) := Two.below K1.out hb2)
          | (go_at_call 31; refine (fc.out _).mono ?_; rintro e x3 ⟨rfl, hb3⟩
             have K3 : Hid (Two w an ad bn bd x3) := Two.below K2.out hb3))
      all_goals
        go_wp2
        go_ret
        exact ⟨ret_b hl.out, K3.out.2.2⟩
end Go.Proofs.Ytbojdlagacanoaa
