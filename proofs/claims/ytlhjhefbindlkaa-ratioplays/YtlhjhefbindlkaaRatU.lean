/-
  What the document's own Less and Alike of fractions return. Conditions: of Less, two right fractions of numbers of 64 bits; of Alike, that the fraction is exactly as much as the two numbers.
-/
import Derived.Test.YtlhjhefbindlkaaQMore
import Derived.Test.YtlhjhefbindlkaaRatE
namespace Go.Proofs.Ytlhjhefbindlkaa
open Go.RowKit
set_option linter.unusedVariables false

theorem u64_same {d : Int} (h : 0 < d) (hd : I64 d) : IntKind.u64.wrap d = d := Go.IntWalk.u64_in _ (by unfold I64 at hd; omega)

theorem wide_lt (a b c d : Int) : (decide (wideH a b < wideH c d) || (wideH a b == wideH c d) && decide (wideL a b < wideL c d)) = decide (a * b < c * d) := by
  have h1 := wide_eq a b
  have h2 := wide_eq c d
  rw [Bool.eq_iff_iff]
  simp only [Bool.or_eq_true, Bool.and_eq_true, decide_eq_true_eq, beq_iff_eq]
  omega

set_option maxHeartbeats 2000000 in
theorem rless_any (an ad bn bd : Int) (w : World) (h1 : I64 an) (h2 : I64 ad) (h3 : I64 bn) (h4 : I64 bd) (hr : mulR an ad bn bd = true) :
    Calls Try.prog 22 #[rv an ad, rv bn bd] w fun e w' => e = .returned (.bool (lessB an ad bn bd)) ∧ Below w.heap.size w w' := by
  have hr2 : rightB an ad = true ∧ rightB bn bd = true := by unfold mulR at hr; rwa [Bool.and_eq_true] at hr
  have ap := ((right_iff _ _).1 hr2.1).1
  have bp := ((right_iff _ _).1 hr2.2).1
  have fa : Hid (∀ w, Calls Try.prog 28 #[.int .i64 an] w fun e w' => e = .returned (.int .u64 (an.natAbs : Int)) ∧ w' = w) := fun w => rsize_any an w h1
  have fb : Hid (∀ w, Calls Try.prog 28 #[.int .i64 bn] w fun e w' => e = .returned (.int .u64 (bn.natAbs : Int)) ∧ w' = w) := fun w => rsize_any bn w h3
  have fp : Hid (∀ w, Calls Try.prog 31 #[.int .u64 (an.natAbs : Int), .int .u64 bd] w fun e w' => e = .returned (.tuple #[.int .u64 (wideH an.natAbs bd), .int .u64 (wideL an.natAbs bd)]) ∧ w' = w) := fun w =>
    wide_any _ _ w (by unfold I64 at h1; omega) (by unfold I64 at h4; omega)
  have fq : Hid (∀ w, Calls Try.prog 31 #[.int .u64 (bn.natAbs : Int), .int .u64 ad] w fun e w' => e = .returned (.tuple #[.int .u64 (wideH bn.natAbs ad), .int .u64 (wideL bn.natAbs ad)]) ∧ w' = w) := fun w =>
    wide_any _ _ w (by unfold I64 at h3; omega) (by unfold I64 at h2; omega)
  have hl : lessB an ad bn bd = decide (an * bd < bn * ad) := by unfold lessB; rw [hr]; rfl
  have wb := u64_same bp h4
  have wa := u64_same ap h2
  have x1 : an < 0 → ((an.natAbs : Int) * bd = -(an * bd)) := fun h => by rw [show (an.natAbs : Int) = -an by omega, Int.neg_mul]
  have x2 : 0 ≤ an → ((an.natAbs : Int) * bd = an * bd) := fun h => by rw [show (an.natAbs : Int) = an by omega]
  have x3 : bn < 0 → ((bn.natAbs : Int) * ad = -(bn * ad)) := fun h => by rw [show (bn.natAbs : Int) = -bn by omega, Int.neg_mul]
  have x4 : 0 ≤ bn → ((bn.natAbs : Int) * ad = bn * ad) := fun h => by rw [show (bn.natAbs : Int) = bn by omega]
  have L1 := wide_lt (an.natAbs : Int) bd (bn.natAbs : Int) ad
  have L2 := wide_lt (bn.natAbs : Int) ad (an.natAbs : Int) bd
  have H : Hid ((an < 0 ∧ 0 ≤ bn ∧ lessB an ad bn bd = true) ∨ (0 ≤ an ∧ bn < 0 ∧ lessB an ad bn bd = false)
      ∨ (an < 0 ∧ bn < 0 ∧ lessB an ad bn bd = (decide (wideH bn.natAbs ad < wideH an.natAbs bd) || (wideH bn.natAbs ad == wideH an.natAbs bd) && decide (wideL bn.natAbs ad < wideL an.natAbs bd)))
      ∨ (0 ≤ an ∧ 0 ≤ bn ∧ lessB an ad bn bd = (decide (wideH an.natAbs bd < wideH bn.natAbs ad) || (wideH an.natAbs bd == wideH bn.natAbs ad) && decide (wideL an.natAbs bd < wideL bn.natAbs ad)))) := by
    show _ ∨ _
    rw [hl, L1, L2]
    by_cases s1 : an < 0 <;> by_cases s2 : bn < 0
    · refine .inr (.inr (.inl ⟨s1, s2, ?_⟩)); rw [x1 s1, x3 s2, decide_eq_decide]; omega
    · refine .inl ⟨s1, by omega, ?_⟩
      have := Int.mul_neg_of_neg_of_pos s1 bp
      have := Int.mul_nonneg (show 0 ≤ bn by omega) (show 0 ≤ ad by omega)
      simp only [decide_eq_true_eq]; omega
    · refine .inr (.inl ⟨by omega, s2, ?_⟩)
      have := Int.mul_neg_of_neg_of_pos s2 ap
      have := Int.mul_nonneg (show 0 ≤ an by omega) (show 0 ≤ bd by omega)
      simp only [decide_eq_false_iff_not]; omega
    · refine .inr (.inr (.inr ⟨by omega, by omega, ?_⟩)); rw [x2 (by omega), x4 (by omega)]
  clear L1 L2 x1 x2 x3 x4 hl hr hr2
  generalize lessB an ad bn bd = r at *
  generalize wideH an.natAbs bd = ph at *
  generalize wideL an.natAbs bd = pl at *
  generalize wideH bn.natAbs ad = qh at *
  generalize wideL bn.natAbs ad = ql at *
  generalize (an.natAbs : Int) = p at *
  generalize (bn.natAbs : Int) = q at *
  unfold I64 at h1 h2 h3 h4
  rcases H.out with ⟨s1, s2, H⟩ | ⟨s1, s2, H⟩ | ⟨s1, s2, H⟩ | ⟨s1, s2, H⟩
  · subst H
    have sb : decide (bn < 0) = false := by simp; omega
    go_enter Try.func22, Try.ntmps22
    go_wp2
    all_goals
      go_ret
      exact ⟨rfl, by go_grown⟩
  · subst H
    have sb : decide (an < 0) = false := by simp; omega
    go_enter Try.func22, Try.ntmps22
    go_wp2
    all_goals
      go_ret
      exact ⟨rfl, by go_grown⟩
  case' inr.inr.inr =>
    have sa : decide (an < 0) = false := by simp; omega
    have sb : decide (bn < 0) = false := by simp; omega
  all_goals
    have HH : Hid _ := H
    clear H
    go_enter Try.func22, Try.ntmps22
    go_wp2_with fail
    go_quiet (first
      | (go_at_call 28; refine Calls.quiet_of_same (fa.out _))
      | (go_at_call 31; refine Calls.quiet_of_same (fp.out _)))
    clear fa fp
    go_wp2_with fail
    go_quiet (first
      | (go_at_call 28; refine quiet_more (fb.out _))
      | (go_at_call 31; refine quiet_more (fq.out _)))
    clear fb fq
    go_wp2
    all_goals
      go_ret
      refine ⟨ret_b ?_, below_drewN (by go_grown) _⟩
      rw [HH.out, Bool.eq_iff_iff]
      simp
      omega
end Go.Proofs.Ytlhjhefbindlkaa
