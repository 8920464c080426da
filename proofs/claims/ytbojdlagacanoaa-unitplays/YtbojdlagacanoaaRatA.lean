/-
  What the functions on fractions return, called with any fractions of numbers of 64 bits: contracts of ratio.Right, reduced, Make. Condition: the arguments are numbers of their kinds.
-/
import Derived.Test.YtbojdlagacanoaaGcds
import Derived.Test.YtbojdlagacanoaaFracs
import Derived.Handy
import Derived.Laws.NewDeep
import Derived.Laws.ResultCell
namespace Go.Proofs.Ytbojdlagacanoaa
open Go.RowKit
set_option linter.unusedVariables false

/-- a fraction's value -/
abbrev rv (n d : Int) : Value := .agg #[.int .i64 n, .int .i64 d]

theorem below_drewN {B : Nat} {a w : World} (h : Below B a w) (n : Nat) : Below B a (w.drewN n) := ⟨h.os, h.tape, h.output, h.size, h.block⟩

theorem below_set2 {B : Nat} {a w : World} (h : Below B a w) {p q : Addr} {u v : Value} (hp : B ≤ p.block) (hq : B ≤ q.block) : Below B a ((w.setCell p u).setCell q v) := (h.setCell hp u).setCell hq v

theorem ret_b {a b : Bool} (h : b = a) : Ending.returned (.bool a) = .returned (.bool b) := by rw [h]

set_option maxHeartbeats 400000 in
theorem right_any (n d : Int) (w : World) (hn : I64 n) (hd : I64 d) :
    Calls Try.prog 20 #[rv n d] w fun e w' => e = .returned (.bool (rightB n d)) ∧ Below w.heap.size w w' := by
  have fg : Hid (∀ w, Calls Try.prog 32 #[.int .i64 n, .int .i64 d] w fun e w' => e = .returned (.tuple #[.int .i64 (fitV (gcdN n d : Int)), .bool (fitB (gcdN n d : Int))]) ∧ ∃ k, w' = w.drewN k) := fun w => gcd_any n d w hn hd
  have fr : Hid ((rightB n d = (decide (0 < d) && decide (fitV (gcdN n d : Int) = 1)))) := by
    show _ = _
    unfold rightB
    congr 1
    by_cases h : I64 (gcdN n d : Int)
    · rw [(fit_yes h).2]; simp only [decide_eq_decide]; omega
    · rw [(fit_no h).2]
      have : ¬ gcdN n d = 1 := by intro e; apply h; rw [e]; exact ⟨by omega, by omega⟩
      simp [this]
  clear hn hd
  generalize rightB n d = r at *
  generalize fitV (gcdN n d : Int) = g at *
  generalize fitB (gcdN n d : Int) = gb at *
  go_enter Try.func20, Try.ntmps20
  go_wp2_with fail
  refine (fg.out _).mono ?_
  rintro e w' ⟨rfl, k, rfl⟩
  go_wp2
  all_goals
    go_ret
    refine ⟨ret_b ?_, below_drewN (by go_grown) k⟩
    rw [fr.out, Bool.eq_iff_iff]
    simp
    omega

theorem gcd_edge {n d : Int} (hn : I64 n) (hd : I64 d) (h0 : d ≠ 0) (hg : ¬ (gcdN n d : Int) ≤ 9223372036854775807) : d = -9223372036854775808 ∧ (n = 0 ∨ n = -9223372036854775808) := by
  have h1 := gcdN_le (n := n) h0
  unfold I64 at hn hd
  have h2 : gcdN n d ∣ n.natAbs := Nat.gcd_dvd_left _ _
  have h3 : gcdN n d = 9223372036854775808 := by omega
  rw [h3] at h2
  have h4 : n.natAbs = 0 ∨ 9223372036854775808 ≤ n.natAbs := by
    rcases Nat.eq_zero_or_pos n.natAbs with h | h
    · exact .inl h
    · exact .inr (Nat.le_of_dvd h h2)
  have h5 : gcdN n d ∣ d.natAbs := Nat.gcd_dvd_right _ _
  omega

def redU (n d : Int) : Int := if (gcdN n d : Int) ≤ 9223372036854775807 then n.tdiv (gcdN n d) else n.tdiv d
def redL (n d : Int) : Int := if (gcdN n d : Int) ≤ 9223372036854775807 then d.tdiv (gcdN n d) else 1

set_option maxHeartbeats 400000 in
theorem reduced_any (n d : Int) (w : World) (hn : I64 n) (hd : I64 d) (h0 : d ≠ 0) :
    Calls Try.prog 42 #[rv n d] w fun e w' => e = .returned (rv (redU n d) (redL n d)) ∧ Below w.heap.size w w' := by
  have fg : Hid (∀ w, Calls Try.prog 32 #[.int .i64 n, .int .i64 d] w fun e w' => e = .returned (.tuple #[.int .i64 (fitV (gcdN n d : Int)), .bool (fitB (gcdN n d : Int))]) ∧ ∃ k, w' = w.drewN k) := fun w => gcd_any n d w hn hd
  by_cases hg : (gcdN n d : Int) ≤ 9223372036854775807
  · have hp := gcdN_pos (n := n) h0
    rw [(fit_yes (n := (gcdN n d : Int)) ⟨by omega, hg⟩).1, (fit_yes (n := (gcdN n d : Int)) ⟨by omega, hg⟩).2] at fg
    have b1 := td_bd hp hn
    have b2 := td_bd hp hd
    have e1 : redU n d = n.tdiv (gcdN n d) := if_pos hg
    have e2 : redL n d = d.tdiv (gcdN n d) := if_pos hg
    rw [e1, e2]
    have g0 : (0 : Int) < (gcdN n d : Int) := by omega
    generalize (gcdN n d : Int) = g at *
    clear hn hd hg hp e1 e2
    unfold I64 at b1 b2
    go_enter Try.func42, Try.ntmps42
    go_wp2_with fail
    refine (fg.out _).mono ?_
    rintro e w' ⟨rfl, k, rfl⟩
    clear fg
    go_wp2
    go_region
    all_goals
      go_wp2
      go_returns
      exact ⟨rfl, below_set2 (below_drewN (by go_grown) _) (by simp) (by simp)⟩
  · have hh := gcd_edge hn hd h0 hg
    have hq : I64 (n.tdiv d) := by
      obtain ⟨rfl, h⟩ := hh
      rcases h with rfl | rfl
      · exact ⟨by decide, by decide⟩
      · exact ⟨by decide, by decide⟩
    have hd0 : d < 0 := by omega
    rw [(fit_no (n := (gcdN n d : Int)) (by omega)).1, (fit_no (n := (gcdN n d : Int)) (by omega)).2] at fg
    have e1 : redU n d = n.tdiv d := if_neg hg
    have e2 : redL n d = 1 := if_neg hg
    rw [e1, e2]
    clear hn hd hg e1 e2 hh
    unfold I64 at hq
    go_enter Try.func42, Try.ntmps42
    go_wp2_with fail
    refine (fg.out _).mono ?_
    rintro e w' ⟨rfl, k, rfl⟩
    clear fg
    go_wp2
    go_returns
    exact ⟨rfl, below_set2 (below_drewN (by go_grown) _) (by simp) (by simp)⟩
end Go.Proofs.Ytbojdlagacanoaa
